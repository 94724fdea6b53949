/-
  The call Eager(orders, taps) of package stagehandkeep answers true, whatever the numbers: the same messages to a program whose nodes are lazy, and to one whose nodes stand there themselves, show the same trees, with the same numbers, at each time, and only where a node was not there is it reckoned; a tap's message becomes the model, which view cannot show: the fault is counted, and the tree stays; the document's counter shows what the document says. The arguments read behind the call as they read before.
  Conditions: the package-level variables read as the row lists them (the card ties that to the program's text).
-/
import Derived.Test.YtifhgjpglicjbaaGreatDoorCards
import Derived.Test.YtifhgjpglicjbaaGreatDoorTie
import Derived.Test.YtifhgjpglicjbaaGreatDoorEgD
import Derived.Test.YtifhgjpglicjbaaGreatDoorOwnK
import Derived.Test.YtifhgjpglicjbaaGreatDoorOwnEC
import Derived.Deep.Matrix
namespace Go.Proofs.YtifhgjpglicjbaaGreatDoor
open Go.ChangeShapes Go.WideShapes Go.ChangeAt Go.WideMaps Go.WideElems Go.RowKit
theorem cellsIntsK:Tryz.prog.cellsOf 22=1:=by kernel_rfl
theorem under_rows:Tryz.prog.underlying 36=some (.slice 22):=by kernel_rfl
section
variable {H:Type} {enc:TypeId×Value→H} {w:World} {base:Nat} {held:Bool}
theorem rows_of {fuel:Nat}{ad:Option Addr}{n cap:Nat}{x:DataW H×List MemPlace}(h:DataW.trod enc Tryz.prog w base (fun _=>true) held fuel 36 [.slice ad n cap]=some x):
  ∃L:List (List Int),RowsAt w (.slice ad n cap) L∧∀r∈L,∀z∈r,In64 z:=by
 rcases Go.Deep.open_int_rows under_rows Tryz.underlying22 Tryz.underlying3 cellsIntsK cellsIntK h with ⟨hcs,_⟩ | ⟨a,len,cap',A,LL,C,Z,hcs,_,hl,hm,_,hrow⟩
 ·cases hcs
  exact⟨[],⟨none,0,rfl,Nat.le_refl _,by decide,fun j hj=>by simp at hj⟩,fun z hz=>by simp at hz⟩
 ·cases hcs
  refine⟨(List.range n).map fun r=>(Z r).take (LL r),⟨some a,cap,by simp,by simpa using hl,hm,fun j hj=>?_⟩,fun r hr z hz=>?_⟩
  ·have hj':j<n:=by simpa using hj
   obtain⟨h1,h2,h3,h4,h5,h6,h7⟩:=hrow j (by omega)
   have h10:=(hrow 0 (by omega)).1
   obtain⟨g,o,spot⟩:=a
   have hspot:spot=none:=by simpa[Addr.add] using World.cell?_spot h10
   subst hspot
   rw[show (⟨g,o,none⟩:Addr).add j=⟨g,o+j,none⟩ by simp[Addr.add]] at h1
   refine⟨g,o,_,rfl,h1,?_⟩
   have hg:((List.range n).map fun r=>(Z r).take (LL r))[j]=(Z j).take (LL j):=by simp
   rw[hg]
   have hbl:((Z j).take (LL j)).length=LL j:=by simp;omega
   refine⟨A j,C j,by rw[hbl],by omega,h3,fun c hc=>?_⟩
   rw[hbl] at hc
   cases hA:A j with
   | none=>have:=h6 hA;omega
   | some a' =>
    obtain⟨_,hcell⟩:=h7 a' hA
    have hc1:=hcell c (by omega)
    have hc0:=hcell 0 (by omega)
    obtain⟨g',o',spot'⟩:=a'
    have hspot:spot'=none:=by simpa[Addr.add] using World.cell?_spot hc0
    subst hspot
    refine⟨g',o',rfl,?_⟩
    rw[show (⟨g',o',none⟩:Addr).add c=⟨g',o'+c,none⟩ by simp[Addr.add]] at hc1
    rw[hc1,List.getElem_take]
    simp[List.getD_eq_getElem?_getD,List.getElem?_eq_getElem (show c<(Z j).length by omega)]
  ·obtain⟨j,hj,rfl⟩:=List.mem_map.1 hr
   have hj:j<n:=by simpa using hj
   obtain⟨_,_,_,_,h5,_⟩:=hrow j (by omega)
   exact in64_of (h5 z (List.mem_of_mem_take hz))
end
theorem door_metE (os:Os)(args:Array Value):laidMetH Tryz.prog Rows.eagerRow.laid ((World.doorLaid Tryz.prog 400 os).forCall (fun _ _=>0) ⟨#[],args,[]⟩).memory :=
 laidMetH_of_parts3 (fuel:=8) (laidMet_of_run' 8 (by kernel_rfl) (by kernel_rfl)) (by kernel_rfl) (by kernel_rfl)
set_option maxRecDepth 100000 in
theorem liftedE (os:Os)(started:os.Started)(H:Type)(enc:TypeId×Value→H):
  ReturnsInHanded {} Tryz.checked os 6 .any (fun w args=>(Rows.eagerSpec.pre enc Tryz.prog Tryz.f6 [] false w args∧laidMetH Tryz.prog Rows.eagerRow.laid w)∧sizedMet enc Tryz.prog Tryz.f6 (OpenSpec.ofChange Rows.eagerSpec) false w args)
   (Rows.eagerSpec.post enc Tryz.prog Tryz.f6 false true false false):=by
 refine returnsInHanded_of_change_and (C:=Tryz.checked) (X:=fun w _=>laidMetH Tryz.prog Rows.eagerRow.laid w) (fun _ _ _ hh h=>h.of_heap hh) own started (by kernel_rfl) Tryz.func6
  (ChangeSpec.witness_shaped (enc:=enc) (C:=Tryz.checked) (os:=os) (X:=fun w _=>laidMetH Tryz.prog Rows.eagerRow.laid w) false (World.doorLaid Tryz.prog 400 os) #[.slice none 0 0,.slice none 0 0] 8 rfl (World.shaped_of_RefB (by kernel_rfl) (by kernel_rfl)) (by kernel_rfl) (by kernel_rfl) (by kernel_rfl) (door_metE os _)) ?_
 intro W base args ds gs before hval0 hW _ _ hL _
 have hval:∀(j:Nat) t v,Tryz.f6.params[j]?=some t→args[j]?=some v→Value.okWide Tryz.prog W .any base t v:=hval0
 have hW':=hW
 obtain⟨p,q,hA0,hV,rfl,hfz,hnd⟩:=hW
 have hA:DataW.TrodAll enc Tryz.prog W 0 (fun _=>true) true Tryz.f6.params.toList args.toList ds p:=hA0
 rw[Tryz.params6] at hA hval
 obtain⟨v0,v1,d0,d1,p0,p1,rfl,rfl,rfl,h0,h1⟩:=trodAll_two hA
 obtain⟨rfl,rfl⟩:=trodVars_none hV
 obtain⟨a0,len,cap,rfl⟩:=okWide_slice under_rows (hval 0 36 v0 rfl rfl)
 obtain⟨a1,len1,cap1,rfl⟩:=okWide_slice Tryz.underlying22 (hval 1 22 v1 rfl rfl)
 have h0k:=h0
 have h1k:=h1
 obtain⟨fuel,hf⟩:=h0
 obtain⟨fuel1,hf1⟩:=h1
 clear hA0 hval0
 have hlt:∀x∈p0,x.block<W.heap.size:=fun x hx=>by simpa using hW'.lt x (by simp[hx])
 have hlt1:∀x∈p1,x.block<W.heap.size:=fun x hx=>by simpa using hW'.lt x (by simp[hx])
 obtain⟨E,G⟩:=g0_of (W:=W) hL
 obtain⟨l,hl,hin⟩:=rows_of hf
 obtain⟨tp,htp,hint⟩:=ints_of hf1
 refine (Eager_any l tp _ _ W E G hin hl hint htp).mono fun e W' ⟨he,hb⟩=>?_
 subst he
 refine⟨_,rfl,_,_,_,[]++[],p0++p1,[],hW',?_,?_,rfl,hb.frame _,fun h=>by cases h⟩
 ·exact trodAll_mk1 (shut_bool Tryz.underlying4 true)
 ·exact trodAll_mk2 (Below.trod laidOut (by kernel_rfl) (of_decide_eq_true (by kernel_rfl)) h0k hb hlt) (Below.trod laidOut (by kernel_rfl) (of_decide_eq_true (by kernel_rfl)) h1k hb hlt1)
theorem saidE:Rows.EagerSaid :=
 OpenClaim.holds_of_wide 6 Tryz.f6 rfl rfl rfl rfl rfl rfl rfl ⟨rfl,rfl,rfl,rfl,rfl⟩ rfl rfl rfl rfl rfl (by kernel_rfl) Tryz.func6 closedE
  (of_decide_eq_true (by kernel_rfl)) (by unfold Func.isWrapper;rw[if_neg (of_decide_eq_false (by kernel_rfl))];exact⟨rfl,rfl⟩)
  (fun os started H enc _=>liftedE os started H enc)
theorem noStandIE:Tryz.pinned.checked.prog.wantsStandIn 22=false:=by kernel_rfl
theorem noStandLE:Tryz.pinned.checked.prog.wantsStandIn 36=false:=by kernel_rfl
theorem plainE (f:FuncId)(fn:Func)(hf:Tryz.pinned.checked.prog.funcNamed "stagehand/stagehandkeep.Eager" = some f)(hfn:Tryz.pinned.checked.prog.funcs[f]?=some fn):
  true=Tryz.pinned.checked.prog.looks []∧∀(j:Nat) t,fn.params[j]?=some t→Tryz.pinned.checked.prog.wantsStandIn t=false:=by
 obtain rfl:f=6:=Option.some.inj ((show Tryz.prog.funcNamed "stagehand/stagehandkeep.Eager" = some 6 by kernel_rfl).symm.trans hf) |>.symm
 obtain rfl:fn=Tryz.f6:=(Option.some.inj (Tryz.func6.symm.trans hfn)).symm
 refine⟨by kernel_rfl,fun j t ht=>?_⟩
 rw[Tryz.params6] at ht
 match j,ht with
 | 0,ht =>
  have e:t=36:=by simpa using ht.symm
  rw[e]
  exact noStandLE
 | 1,ht =>
  have e:t=22:=by simpa using ht.symm
  rw[e]
  exact noStandIE
 | j+2,ht=>simp at ht
theorem eager_card:Rows.EagerCardSaid :=
 Claim7.holds_tied_plain_at .later [] _ _ _ _ saidE (fun _ h=>by cases h) (by kernel_rfl) (fun _ h=>by cases h) eager_row_tie rfl ⟨rfl,rfl⟩ (by kernel_rfl) rfl plainE (by kernel_rfl)
#print axioms eager_card
end Go.Proofs.YtifhgjpglicjbaaGreatDoor
