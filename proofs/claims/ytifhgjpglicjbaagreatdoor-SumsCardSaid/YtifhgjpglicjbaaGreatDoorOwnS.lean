/-
  The call Sums(a, b, l) of package stagehandkeep answers true, whatever the numbers: what Reckon answers to sums, differences, products, less, eq, len, map, join, at and set on these numbers is what Go's own operations on them give, written; a place that is none is a fault; the document's counter shows what the document says. The arguments read behind the call as they read before.
  Conditions: the package-level variables read as the row lists them (the card ties that to the program's text).
-/
import Derived.Test.YtifhgjpglicjbaaGreatDoorCards
import Derived.Test.YtifhgjpglicjbaaGreatDoorTie
import Derived.Test.YtifhgjpglicjbaaGreatDoorSuC
import Derived.Test.YtifhgjpglicjbaaGreatDoorOwnK
import Derived.Test.YtifhgjpglicjbaaGreatDoorOwnSC
namespace Go.Proofs.YtifhgjpglicjbaaGreatDoor
open Go.ChangeShapes Go.WideShapes Go.ChangeAt Go.WideMaps Go.WideElems Go.RowKit
theorem door_met (os:Os)(args:Array Value):laidMetH Tryz.prog Rows.sumsRow.laid ((World.doorLaid Tryz.prog 400 os).forCall (fun _ _=>0) ⟨#[],args,[]⟩).memory :=
 laidMetH_of_parts3 (fuel:=8) (laidMet_of_run' 8 (by kernel_rfl) (by kernel_rfl)) (by kernel_rfl) (by kernel_rfl)
set_option maxRecDepth 100000 in
theorem lifted (os:Os)(started:os.Started)(H:Type)(enc:TypeId×Value→H):
  ReturnsInHanded {} Tryz.checked os 3 .any (fun w args=>(Rows.sumsSpec.pre enc Tryz.prog Tryz.f3 [] false w args∧laidMetH Tryz.prog Rows.sumsRow.laid w)∧sizedMet enc Tryz.prog Tryz.f3 (OpenSpec.ofChange Rows.sumsSpec) false w args)
   (Rows.sumsSpec.post enc Tryz.prog Tryz.f3 false true false false):=by
 refine returnsInHanded_of_change_and (C:=Tryz.checked) (X:=fun w _=>laidMetH Tryz.prog Rows.sumsRow.laid w) (fun _ _ _ hh h=>h.of_heap hh) own started (by kernel_rfl) Tryz.func3
  (ChangeSpec.witness_shaped (enc:=enc) (C:=Tryz.checked) (os:=os) (X:=fun w _=>laidMetH Tryz.prog Rows.sumsRow.laid w) false (World.doorLaid Tryz.prog 400 os) #[.int .i64 0,.int .i64 0,.slice none 0 0] 8 rfl (World.shaped_of_RefB (by kernel_rfl) (by kernel_rfl)) (by kernel_rfl) (by kernel_rfl) (by kernel_rfl) (door_met os _)) ?_
 intro W base args ds gs before hval0 hW _ _ hL _
 have hval:∀(j:Nat) t v,Tryz.f3.params[j]?=some t→args[j]?=some v→Value.okWide Tryz.prog W .any base t v:=hval0
 have hW':=hW
 obtain⟨p,q,hA0,hV,rfl,hfz,hnd⟩:=hW
 have hA:DataW.TrodAll enc Tryz.prog W 0 (fun _=>true) true Tryz.f3.params.toList args.toList ds p:=hA0
 rw[Tryz.params3] at hA hval
 obtain⟨v0,v1,v2,d0,d1,d2,p0,p1,p2,rfl,rfl,rfl,h0,h1,h2⟩:=trodAll_three hA
 obtain⟨rfl,rfl⟩:=trodVars_none hV
 obtain⟨z0,rfl,rfl,rfl,hwf0⟩:=open_int Tryz.underlying3 (hval 0 3 v0 rfl rfl) h0
 obtain⟨z1,rfl,rfl,rfl,hwf1⟩:=open_int Tryz.underlying3 (hval 1 3 v1 rfl rfl) h1
 obtain⟨a2,len,cap,rfl⟩:=okWide_slice Tryz.underlying22 (hval 2 22 v2 rfl rfl)
 have h2k:=h2
 obtain⟨fuel,hf⟩:=h2
 clear hA0 hval0
 simp only[List.append_nil,List.nil_append] at hW'
 have hlt:∀x∈p2,x.block<W.heap.size:=fun x hx=>by simpa using hW'.lt x (by simp[hx])
 obtain⟨E,G⟩:=g0_of (W:=W) hL
 obtain⟨l,hl,hin⟩:=ints_of hf
 refine (Sums_any z0 z1 l _ W E G (in64_of hwf0) (in64_of hwf1) hin hl).mono fun e W' ⟨he,hb⟩=>?_
 subst he
 refine⟨_,rfl,_,_,_,[]++[],[]++([]++p2),[],hW',?_,?_,rfl,hb.frame _,fun h=>by cases h⟩
 ·exact trodAll_mk1 (shut_bool Tryz.underlying4 true)
 ·exact trodAll_mk3 (shut_int Tryz.underlying3 hwf0) (shut_int Tryz.underlying3 hwf1) (Below.trod laidOut (by kernel_rfl) (of_decide_eq_true (by kernel_rfl)) h2k hb hlt)
theorem said:Rows.SumsSaid :=
 OpenClaim.holds_of_wide 3 Tryz.f3 rfl rfl rfl rfl rfl rfl rfl ⟨rfl,rfl,rfl,rfl,rfl⟩ rfl rfl rfl rfl rfl (by kernel_rfl) Tryz.func3 closed
  (of_decide_eq_true (by kernel_rfl)) (by unfold Func.isWrapper;rw[if_neg (of_decide_eq_false (by kernel_rfl))];exact⟨rfl,rfl⟩)
  (fun os started H enc _=>lifted os started H enc)
theorem noStandI:Tryz.pinned.checked.prog.wantsStandIn 3=false:=by kernel_rfl
theorem noStandL:Tryz.pinned.checked.prog.wantsStandIn 22=false:=by kernel_rfl
theorem plain (f:FuncId)(fn:Func)(hf:Tryz.pinned.checked.prog.funcNamed "stagehand/stagehandkeep.Sums" = some f)(hfn:Tryz.pinned.checked.prog.funcs[f]?=some fn):
  true=Tryz.pinned.checked.prog.looks []∧∀(j:Nat) t,fn.params[j]?=some t→Tryz.pinned.checked.prog.wantsStandIn t=false:=by
 obtain rfl:f=3:=Option.some.inj ((show Tryz.prog.funcNamed "stagehand/stagehandkeep.Sums" = some 3 by kernel_rfl).symm.trans hf) |>.symm
 obtain rfl:fn=Tryz.f3:=(Option.some.inj (Tryz.func3.symm.trans hfn)).symm
 refine⟨by kernel_rfl,fun j t ht=>?_⟩
 rw[Tryz.params3] at ht
 match j,ht with
 | 0,ht =>
  have e:t=3:=by simpa using ht.symm
  rw[e]
  exact noStandI
 | 1,ht =>
  have e:t=3:=by simpa using ht.symm
  rw[e]
  exact noStandI
 | 2,ht =>
  have e:t=22:=by simpa using ht.symm
  rw[e]
  exact noStandL
 | j+3,ht=>simp at ht
theorem sums_card:Rows.SumsCardSaid :=
 Claim7.holds_tied_plain_at .later [] _ _ _ _ said (fun _ h=>by cases h) (by kernel_rfl) (fun _ h=>by cases h) sums_row_tie rfl ⟨rfl,rfl⟩ (by kernel_rfl) rfl plain (by kernel_rfl)
#print axioms sums_card
end Go.Proofs.YtifhgjpglicjbaaGreatDoor
