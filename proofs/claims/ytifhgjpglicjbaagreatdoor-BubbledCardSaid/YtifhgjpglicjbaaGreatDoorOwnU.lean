/-
  The call Bubbled(levels, depth, extra) of package stagehandkeep answers true, whatever the numbers: an event at a node inside other nodes goes to the handlers from the innermost to the outermost, until one of them stops it; each message is what the tags around it make of it; messages that do not all find room are not laid at all and count as one that was dropped; a path that is none is an error; an event that none handles lays nothing; Pump then hands the messages to update in the order in which they were laid; too deep a program is none. The document's counter shows what the document says. The arguments read behind the call as they read before.
  Conditions: the package-level variables read as the row lists them (the card ties that to the program's text).
-/
import Derived.Test.YtifhgjpglicjbaaGreatDoorCards
import Derived.Test.YtifhgjpglicjbaaGreatDoorTie
import Derived.Test.YtifhgjpglicjbaaGreatDoorBbK
import Derived.Test.YtifhgjpglicjbaaGreatDoorOwnK
import Derived.Test.YtifhgjpglicjbaaGreatDoorOwnUC
set_option maxRecDepth 100000
namespace Go.Proofs.YtifhgjpglicjbaaGreatDoor
open Go.Proofs.Tryz
open Go.ChangeShapes Go.WideShapes Go.ChangeAt Go.WideMaps Go.WideElems Go.RowKit
theorem laid_join {P:Program}{w:World}{l:List (String×DataW Unit)}(hs:(l.filter fun x=>x.2.handleName?.isSome).isEmpty=false)
  (h:laidMet P (l.filter fun x=>x.2.handleName?.isNone) w∧handlesMet P (l.filter fun x=>x.2.handleName?.isSome) w):laidMetH P l w:=by
 unfold laidMetH
 generalize (l.filter fun x=>x.2.handleName?.isSome)=fl at h hs ⊢
 cases fl with
 | nil=>cases hs
 | cons a r=>exact h
theorem gp_of {W:World}(hL:laidMetH prog Rows.bubbledRow.laid W):(∃E,G0 W E)∧∃aP,W.cell? ⟨2,0,none⟩=some (errVal aP):=by
 obtain⟨hp,hh⟩:=laid_parts hL (by kernel_rfl)
 have e:(Rows.bubbledRow.laid.filter fun x=>x.2.handleName?.isNone)=(Rows.backRow.laid.filter fun x=>x.2.handleName?.isNone)++[("stagehand/api.ErrPath", Rows.laid_stagehand_api_ErrPath)]:=by kernel_rfl
 have eh:(Rows.bubbledRow.laid.filter fun x=>x.2.handleName?.isSome)=(Rows.backRow.laid.filter fun x=>x.2.handleName?.isSome):=by kernel_rfl
 rw[eh] at hh
 refine⟨g0_of (laid_join (by kernel_rfl) ⟨laidMet_sub (e ▸ hp) (List.sublist_append_left _ _),hh⟩),?_⟩
 have e3:(Rows.bubbledRow.laid.filter fun x=>x.2.handleName?.isNone)[12]?=some ("stagehand/api.ErrFault", Rows.laid_stagehand_api_ErrFault):=by kernel_rfl
 have e4:(Rows.bubbledRow.laid.filter fun x=>x.2.handleName?.isNone)[13]?=some ("stagehand/api.ErrPath", Rows.laid_stagehand_api_ErrPath):=by kernel_rfl
 have g0:prog.globalNamed "stagehand/api.ErrFault" = some 0:=by kernel_rfl
 have g1:prog.globalNamed "stagehand/api.ErrPath" = some 2:=by kernel_rfl
 obtain⟨a0,a1,s0,s1,c0,c1,u0,u1,v0,v1,_⟩:=laid_sentinels2 (laidMet_two hp e3 e4 (by omega)) g0 (ti:=28) (by kernel_rfl) g1 (by kernel_rfl) underlying28 rowErr underlying402 underlying404 rfl rfl underlying9 cellsES cellsStr
 exact⟨_,by simpa using World.var?_cell g1 v1 0⟩
theorem door_met (os:Os)(args:Array Value):laidMetH prog Rows.bubbledRow.laid ((World.doorLaid prog 400 os).forCall (fun _ _=>0) ⟨#[],args,[]⟩).memory :=
 laidMetH_of_parts3 (fuel:=8) (laidMet_of_run' 8 (by kernel_rfl) (by kernel_rfl)) (by kernel_rfl) (by kernel_rfl)
theorem lifted (os:Os)(started:os.Started)(H:Type)(enc:TypeId×Value→H):
  ReturnsInHanded {} Tryz.checked os 7 .any (fun w args=>(Rows.bubbledSpec.pre enc prog Tryz.f7 [] false w args∧laidMetH prog Rows.bubbledRow.laid w)∧sizedMet enc prog Tryz.f7 (OpenSpec.ofChange Rows.bubbledSpec) false w args)
   (Rows.bubbledSpec.post enc prog Tryz.f7 false true false false):=by
 refine returnsInHanded_of_change_and (C:=Tryz.checked) (X:=fun w _=>laidMetH prog Rows.bubbledRow.laid w) (fun _ _ _ hh h=>h.of_heap hh) own started (by kernel_rfl) func7
  (ChangeSpec.witness_shaped (enc:=enc) (C:=Tryz.checked) (os:=os) (X:=fun w _=>laidMetH prog Rows.bubbledRow.laid w) false (World.doorLaid prog 400 os) #[.slice none 0 0,.int .i64 0,.int .i64 0] 8 rfl (World.shaped_of_RefB (by kernel_rfl) (by kernel_rfl)) (by kernel_rfl) (by kernel_rfl) (by kernel_rfl) (door_met os _)) ?_
 intro W base args ds gs before hval0 hW _ _ hL _
 have hval:∀(j:Nat) t v,Tryz.f7.params[j]?=some t→args[j]?=some v→Value.okWide prog W .any base t v:=hval0
 have hW':=hW
 obtain⟨p,q,hA0,hV,rfl,hfz,hnd⟩:=hW
 have hA:DataW.TrodAll enc prog W 0 (fun _=>true) true Tryz.f7.params.toList args.toList ds p:=hA0
 rw[Tryz.params7] at hA hval
 obtain⟨v0,v1,v2,d0,d1,d2,p0,p1,p2,rfl,rfl,rfl,h0,h1,h2⟩:=trodAll_three hA
 obtain⟨rfl,rfl⟩:=trodVars_none hV
 obtain⟨a0,len,cap,rfl⟩:=okWide_slice underlying22 (hval 0 22 v0 rfl rfl)
 obtain⟨z0,rfl,rfl,rfl,hwf0⟩:=open_int underlying3 (hval 1 3 v1 rfl rfl) h1
 obtain⟨z1,rfl,rfl,rfl,hwf1⟩:=open_int underlying3 (hval 2 3 v2 rfl rfl) h2
 have h0k:=h0
 obtain⟨fuel,hf⟩:=h0
 clear hA0 hval0
 simp only[List.append_nil] at hW'
 have hlt:∀x∈p0,x.block<W.heap.size:=fun x hx=>by simpa using hW'.lt x (by simp[hx])
 obtain⟨⟨E,G⟩,aP,hP⟩:=gp_of (W:=W) hL
 obtain⟨l,hl,hin⟩:=ints_of hf
 refine (Bubbled_any l z0 z1 _ W E G aP hP (in64_of hwf0) (in64_of hwf1) hin hl).mono fun e W' ⟨he,hb⟩=>?_
 subst he
 refine⟨_,rfl,_,_,_,[]++[],p0++([]++[]),[],hW',?_,?_,rfl,hb.frame _,fun h=>by cases h⟩
 ·exact trodAll_mk1 (shut_bool underlying4 true)
 ·exact trodAll_mk3 (Below.trod laidOut (by kernel_rfl) (of_decide_eq_true (by kernel_rfl)) h0k hb hlt) (shut_int underlying3 hwf0) (shut_int underlying3 hwf1)
theorem said:Rows.BubbledSaid :=
 OpenClaim.holds_of_wide 7 Tryz.f7 rfl rfl rfl rfl rfl rfl rfl ⟨rfl,rfl,rfl,rfl,rfl⟩ rfl rfl rfl rfl rfl (by kernel_rfl) func7 closed
  (of_decide_eq_true (by kernel_rfl)) (by unfold Func.isWrapper;rw[if_neg (of_decide_eq_false (by kernel_rfl))];exact⟨rfl,rfl⟩)
  (fun os started H enc _=>lifted os started H enc)
theorem noStandI:Tryz.pinned.checked.prog.wantsStandIn 3=false:=by kernel_rfl
theorem noStandL:Tryz.pinned.checked.prog.wantsStandIn 22=false:=by kernel_rfl
theorem plain (f:FuncId)(fn:Func)(hf:Tryz.pinned.checked.prog.funcNamed "stagehand/stagehandkeep.Bubbled" = some f)(hfn:Tryz.pinned.checked.prog.funcs[f]?=some fn):
  true=Tryz.pinned.checked.prog.looks []∧∀(j:Nat) t,fn.params[j]?=some t→Tryz.pinned.checked.prog.wantsStandIn t=false:=by
 obtain rfl:f=7:=Option.some.inj ((show prog.funcNamed "stagehand/stagehandkeep.Bubbled" = some 7 by kernel_rfl).symm.trans hf) |>.symm
 obtain rfl:fn=Tryz.f7:=(Option.some.inj (func7.symm.trans hfn)).symm
 refine⟨by kernel_rfl,fun j t ht=>?_⟩
 rw[Tryz.params7] at ht
 match j,ht with
 | 0,ht =>
  have e:t=22:=by simpa using ht.symm
  rw[e]
  exact noStandL
 | 1,ht =>
  have e:t=3:=by simpa using ht.symm
  rw[e]
  exact noStandI
 | 2,ht =>
  have e:t=3:=by simpa using ht.symm
  rw[e]
  exact noStandI
 | j+3,ht=>simp at ht
theorem bubbled_card:Rows.BubbledCardSaid :=
 Claim7.holds_tied_plain_at .later [] _ _ _ _ said (fun _ h=>by cases h) (by kernel_rfl) (fun _ h=>by cases h) bubbled_row_tie rfl ⟨rfl,rfl⟩ (by kernel_rfl) rfl plain (by kernel_rfl)
#print axioms bubbled_card
end Go.Proofs.YtifhgjpglicjbaaGreatDoor
