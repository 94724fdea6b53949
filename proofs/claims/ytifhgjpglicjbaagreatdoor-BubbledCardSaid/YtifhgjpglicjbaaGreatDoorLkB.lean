/-
  The statements of stagehandkeep: Reckon, of a program that is known.
-/
import Derived.Test.YtifhgjpglicjbaaGreatDoorFtF
import Derived.Test.YtifhgjpglicjbaaGreatDoorShC
namespace Go.Proofs.YtifhgjpglicjbaaGreatDoor
open Go.Proofs.Tryz
open Go.RowKit Go.Lib
attribute [local go_sem ↓] Go.wp_at_zero Go.wp_at_succ
structure G0 (w:World)(E:Nat→Addr):Prop where
 er:Errs w E
 fl:FltG w
 nu:NumG w
 sz:15≤w.heap.size
theorem G0.below {w w':World}{E:Nat→Addr}(h:G0 w E)(hb:Below w.heap.size w w'):G0 w' E :=
 ⟨h.er.below hb,h.fl.below hb,h.nu.same fun q hq=>hb.block q (by have:=h.sz;omega),by have:=h.sz;have:=hb.size;omega⟩
def reckK (fns:List Fn)(nm:List UInt8)(args:List (List UInt8)):Option (List UInt8):=match readAllV args with
 | none=>none
 | some vs=>(reckP fns nm vs).map wrV
def rkP (w:World)(R:Option (List UInt8))(e:Ending)(w':World):Prop :=
 Below w.heap.size w w'∧((∃t,R=some t∧e=.returned (.tuple #[.string ⟨t.toArray⟩,.nilIface]))∨(R=none∧∃f,FltW f∧e=.returned (.tuple #[.string ⟨#[]⟩,f])))
theorem stReckon_known {w:World}{E:Nat→Addr}(G:G0 w E){s:ByteArray}{fns:List Fn}(L:Loads s.data.toList fns)(hs:s.size≤2000)(nb:ByteArray)(sv:Value)(bs:List ByteArray)(ha:ArgsAt w sv bs)(hbl:bs.length≤1000)(hbz:∀b∈bs,b.size≤1000000000):
  Calls prog 11 #[.string s,.string nb,sv] w (rkP w (reckK fns nb.data.toList (bs.map (·.data.toList)))):=by
 obtain⟨ts,rest,t1,t2,t3⟩:=L.ex
 have hsz:s.data.toList.length=s.size:=tl_size s
 rw[hsz] at t2
 refine (stReckon_any s nb sv bs w E G.er G.fl G.nu G.sz (by unfold maxLen;omega) (fun _=>t1) ha (by omega) (fun b hb=>by have:=hbz b hb;omega)).mono fun e w' ⟨hb,f,he,hf⟩=>⟨hb,?_⟩
 rw[reckR,t2,t3] at he hf
 unfold reckK
 simp only at he hf
 cases e1:readAllV (bs.map (·.data.toList)) with
 | none =>
  rw[e1] at he hf
  simp only at he hf
  right
  refine⟨rfl,f,?_,he⟩
  rcases hf with ⟨h,_⟩ | ⟨_,_,h⟩ | ⟨_,h,_⟩
  ·exact absurd h (by decide)
  ·exact h
  ·exact absurd h (by decide)
 | some vs =>
  rw[e1] at he hf
  simp only at he hf
  cases e2:reckP fns nb.data.toList vs with
  | none =>
   rw[e2] at he hf
   simp only at he hf
   right
   refine⟨by simp only[e2];rfl,f,?_,he⟩
   rcases hf with ⟨h,_⟩ | ⟨_,_,h⟩ | ⟨_,h,_⟩
   ·exact absurd h (by decide)
   ·exact h
   ·exact absurd h (by decide)
  | some v =>
   rw[e2] at he hf
   simp only at he hf
   left
   refine⟨wrV v,by simp only[e2];rfl,?_⟩
   rcases hf with ⟨_,_,h⟩ | ⟨h,_⟩ | ⟨h,_⟩
   ·rw[h] at he;exact he
   ·exact absurd h (by decide)
   ·exact absurd h (by decide)
theorem args_new (w:World)(l:List ByteArray)(hl:l.length≤1000)(hz:∀b∈l,b.size≤1000000000):ArgsAt (w.alloc (.cells (l.map Value.string).toArray 9)) (.slice (some ⟨w.heap.size,0,none⟩) l.length l.length) l:=by
 refine⟨_,_,rfl,Nat.le_refl _,by unfold maxLen;omega,fun b hb=>by have:=hz b hb;unfold maxLen;omega,fun i hi=>⟨w.heap.size,0,rfl,?_⟩⟩
 have hq:(w.alloc (.cells (l.map Value.string).toArray 9)).heap[w.heap.size]?=some (.cells (l.map Value.string).toArray 9):=heap_alloc_new _ _
 unfold World.cell?
 rw[hq]
 show (l.map Value.string).toArray[0+i]?=_
 rw[Nat.zero_add]
 simp[hi]
theorem reckon_new {w:World}{E:Nat→Addr}(G:G0 w E){s:ByteArray}{fns:List Fn}(L:Loads s.data.toList fns)(hs:s.size≤2000)(nb:ByteArray)(l:List ByteArray)(hl:l.length≤1000)(hz:∀b∈l,b.size≤1000000000):
  Calls prog 11 #[.string s,.string nb,.slice (some ⟨w.heap.size,0,none⟩) l.length l.length] (w.alloc (.cells (l.map Value.string).toArray 9)) (rkP w (reckK fns nb.data.toList (l.map (·.data.toList)))):=by
 have b1:=below1 w (.cells (l.map Value.string).toArray 9)
 refine (stReckon_known (G.below b1) L hs nb _ l (args_new w l hl hz) hl hz).mono fun e w' ⟨hb,h⟩=>⟨b1.trans (hb.mono b1.size),h⟩
theorem readAll2 {a b:List UInt8}{u v:PV}(h1:readV a=some u)(h2:readV b=some v):readAllV [a,b]=some [u,v]:=by
 simp[readAllV,h1,h2]
end Go.Proofs.YtifhgjpglicjbaaGreatDoor
