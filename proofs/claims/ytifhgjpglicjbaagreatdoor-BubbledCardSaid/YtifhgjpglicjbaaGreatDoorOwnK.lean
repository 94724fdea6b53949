/-
  The statements of stagehandkeep: numbers as they are handed in.
-/
import Derived.Test.YtifhgjpglicjbaaGreatDoorKpE
import Derived.ProofKit
import Derived.LaidMore
import Derived.OpenShut
import Derived.ChangeSlices
import Derived.Stop.Joined
import Derived.Stop.ErrReads
namespace Go.Proofs.YtifhgjpglicjbaaGreatDoor
open Go.ChangeShapes Go.WideShapes Go.ChangeAt Go.WideMaps Go.WideElems Go.RowKit
theorem own:ownKnob Tryz.prog.godebug=none:=by kernel_rfl
theorem laidOut:laidOutB Tryz.prog=true:=by kernel_rfl
theorem cellsIntK:Tryz.prog.cellsOf 3=1:=by kernel_rfl
theorem jand {a b:Bool}(h1:a=true)(h2:b=true):(a&&b)=true:=by rw[h1,h2];rfl
theorem in64_of {n:Int}(h:(Lit.int .i64 n).wf=true):In64 n:=by
 have e1:IntKind.i64.min=-9223372036854775808:=by kernel_rfl
 have e2:IntKind.i64.max=9223372036854775807:=by kernel_rfl
 simp[Lit.wf,e1,e2] at h
 exact h
section
variable {H:Type} {enc:TypeId×Value→H} {w:World} {base:Nat} {held:Bool}
theorem ints_of {fuel:Nat}{ad:Option Addr}{n cap:Nat}{x:DataW H×List MemPlace}(h:DataW.trod enc Tryz.prog w base (fun _=>true) held fuel 22 [.slice ad n cap]=some x):
  ∃l:List Int,IntsAt w (.slice ad n cap) l∧∀z∈l,In64 z:=by
 rcases open_ints Tryz.underlying22 Tryz.underlying3 cellsIntK h with ⟨hcs,_⟩ | ⟨a,len,cap',zs,hcs,_,hl,hm,hz,_,hcell,hws⟩
 ·cases hcs
  exact⟨[],⟨none,0,rfl,Nat.le_refl _,by decide,fun j hj=>by simp at hj⟩,fun z hz=>by simp at hz⟩
 ·cases hcs
  simp only[if_true] at hz
  have hbl:(zs.take n).length=n:=by simp;omega
  refine⟨zs.take n,⟨some a,cap,by rw[hbl],by omega,hm,fun j hj=>?_⟩,fun z hz=>in64_of (hws z (List.mem_of_mem_take hz))⟩
  have hc:=hcell j (by omega)
  have hc0:=hcell 0 (by omega)
  obtain⟨g,o,spot⟩:=a
  have hspot:spot=none:=by simpa[Addr.add] using World.cell?_spot hc0
  subst hspot
  refine⟨g,o,rfl,?_⟩
  rw[show (⟨g,o,none⟩:Addr).add j=⟨g,o+j,none⟩ by simp[Addr.add]] at hc
  rw[hc,List.getElem_take]
  simp[List.getD_eq_getElem?_getD,List.getElem?_eq_getElem (show j<zs.length by omega)]
end
end Go.Proofs.YtifhgjpglicjbaaGreatDoor
