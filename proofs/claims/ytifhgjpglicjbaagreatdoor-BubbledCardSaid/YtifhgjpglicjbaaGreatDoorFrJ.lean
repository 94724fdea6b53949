/-
  Frames, the program: nodes in memory. (Begun.)
-/
import Derived.Test.YtifhgjpglicjbaaGreatDoorFrH
set_option maxHeartbeats 8000000
set_option maxRecDepth 8000
namespace Go.Proofs.YtifhgjpglicjbaaGreatDoor
open Go.Proofs.Tryz
open Go.RowKit Go.Lib
attribute [local go_sem ↓] Go.wp_at_zero Go.wp_at_succ
theorem nt_Node_Text_Text (x:Value)(w:World):(Instr.typeAssert (.iface 213 x) 90 213 true).run prog w=.ok (.tuple #[x,.bool true]) w:=by kernel_rfl
theorem nt_Node_Text_Element (x:Value)(w:World):(Instr.typeAssert (.iface 213 x) 90 217 true).run prog w=.ok (.tuple #[.pointer none,.bool false]) w:=by kernel_rfl
theorem nt_Node_Text_Keyed (x:Value)(w:World):(Instr.typeAssert (.iface 213 x) 90 219 true).run prog w=.ok (.tuple #[.pointer none,.bool false]) w:=by kernel_rfl
theorem nt_Node_Text_Tagged (x:Value)(w:World):(Instr.typeAssert (.iface 213 x) 90 226 true).run prog w=.ok (.tuple #[.pointer none,.bool false]) w:=by kernel_rfl
theorem nt_Node_Text_Lazy (x:Value)(w:World):(Instr.typeAssert (.iface 213 x) 90 229 true).run prog w=.ok (.tuple #[.pointer none,.bool false]) w:=by kernel_rfl
theorem nt_Node_Element_Text (x:Value)(w:World):(Instr.typeAssert (.iface 217 x) 90 213 true).run prog w=.ok (.tuple #[.pointer none,.bool false]) w:=by kernel_rfl
theorem nt_Node_Element_Element (x:Value)(w:World):(Instr.typeAssert (.iface 217 x) 90 217 true).run prog w=.ok (.tuple #[x,.bool true]) w:=by kernel_rfl
theorem nt_Node_Element_Keyed (x:Value)(w:World):(Instr.typeAssert (.iface 217 x) 90 219 true).run prog w=.ok (.tuple #[.pointer none,.bool false]) w:=by kernel_rfl
theorem nt_Node_Element_Tagged (x:Value)(w:World):(Instr.typeAssert (.iface 217 x) 90 226 true).run prog w=.ok (.tuple #[.pointer none,.bool false]) w:=by kernel_rfl
theorem nt_Node_Element_Lazy (x:Value)(w:World):(Instr.typeAssert (.iface 217 x) 90 229 true).run prog w=.ok (.tuple #[.pointer none,.bool false]) w:=by kernel_rfl
theorem nt_Node_Keyed_Text (x:Value)(w:World):(Instr.typeAssert (.iface 219 x) 90 213 true).run prog w=.ok (.tuple #[.pointer none,.bool false]) w:=by kernel_rfl
theorem nt_Node_Keyed_Element (x:Value)(w:World):(Instr.typeAssert (.iface 219 x) 90 217 true).run prog w=.ok (.tuple #[.pointer none,.bool false]) w:=by kernel_rfl
theorem nt_Node_Keyed_Keyed (x:Value)(w:World):(Instr.typeAssert (.iface 219 x) 90 219 true).run prog w=.ok (.tuple #[x,.bool true]) w:=by kernel_rfl
theorem nt_Node_Keyed_Tagged (x:Value)(w:World):(Instr.typeAssert (.iface 219 x) 90 226 true).run prog w=.ok (.tuple #[.pointer none,.bool false]) w:=by kernel_rfl
theorem nt_Node_Keyed_Lazy (x:Value)(w:World):(Instr.typeAssert (.iface 219 x) 90 229 true).run prog w=.ok (.tuple #[.pointer none,.bool false]) w:=by kernel_rfl
theorem nt_Node_Tagged_Text (x:Value)(w:World):(Instr.typeAssert (.iface 226 x) 90 213 true).run prog w=.ok (.tuple #[.pointer none,.bool false]) w:=by kernel_rfl
theorem nt_Node_Tagged_Element (x:Value)(w:World):(Instr.typeAssert (.iface 226 x) 90 217 true).run prog w=.ok (.tuple #[.pointer none,.bool false]) w:=by kernel_rfl
theorem nt_Node_Tagged_Keyed (x:Value)(w:World):(Instr.typeAssert (.iface 226 x) 90 219 true).run prog w=.ok (.tuple #[.pointer none,.bool false]) w:=by kernel_rfl
theorem nt_Node_Tagged_Tagged (x:Value)(w:World):(Instr.typeAssert (.iface 226 x) 90 226 true).run prog w=.ok (.tuple #[x,.bool true]) w:=by kernel_rfl
theorem nt_Node_Tagged_Lazy (x:Value)(w:World):(Instr.typeAssert (.iface 226 x) 90 229 true).run prog w=.ok (.tuple #[.pointer none,.bool false]) w:=by kernel_rfl
theorem nt_Node_Lazy_Text (x:Value)(w:World):(Instr.typeAssert (.iface 229 x) 90 213 true).run prog w=.ok (.tuple #[.pointer none,.bool false]) w:=by kernel_rfl
theorem nt_Node_Lazy_Element (x:Value)(w:World):(Instr.typeAssert (.iface 229 x) 90 217 true).run prog w=.ok (.tuple #[.pointer none,.bool false]) w:=by kernel_rfl
theorem nt_Node_Lazy_Keyed (x:Value)(w:World):(Instr.typeAssert (.iface 229 x) 90 219 true).run prog w=.ok (.tuple #[.pointer none,.bool false]) w:=by kernel_rfl
theorem nt_Node_Lazy_Tagged (x:Value)(w:World):(Instr.typeAssert (.iface 229 x) 90 226 true).run prog w=.ok (.tuple #[.pointer none,.bool false]) w:=by kernel_rfl
theorem nt_Node_Lazy_Lazy (x:Value)(w:World):(Instr.typeAssert (.iface 229 x) 90 229 true).run prog w=.ok (.tuple #[x,.bool true]) w:=by kernel_rfl
theorem nt_Node_nil_Text (w:World):(Instr.typeAssert .nilIface 90 213 true).run prog w=.ok (.tuple #[.pointer none,.bool false]) w:=by kernel_rfl
theorem nt_Node_nil_Element (w:World):(Instr.typeAssert .nilIface 90 217 true).run prog w=.ok (.tuple #[.pointer none,.bool false]) w:=by kernel_rfl
theorem nt_Node_nil_Keyed (w:World):(Instr.typeAssert .nilIface 90 219 true).run prog w=.ok (.tuple #[.pointer none,.bool false]) w:=by kernel_rfl
theorem nt_Node_nil_Tagged (w:World):(Instr.typeAssert .nilIface 90 226 true).run prog w=.ok (.tuple #[.pointer none,.bool false]) w:=by kernel_rfl
theorem nt_Node_nil_Lazy (w:World):(Instr.typeAssert .nilIface 90 229 true).run prog w=.ok (.tuple #[.pointer none,.bool false]) w:=by kernel_rfl
theorem nt_Shown_Text_Text (x:Value)(w:World):(Instr.typeAssert (.iface 213 x) 98 213 true).run prog w=.ok (.tuple #[x,.bool true]) w:=by kernel_rfl
theorem nt_Shown_Text_Element (x:Value)(w:World):(Instr.typeAssert (.iface 213 x) 98 217 true).run prog w=.ok (.tuple #[.pointer none,.bool false]) w:=by kernel_rfl
theorem nt_Shown_Text_Keyed (x:Value)(w:World):(Instr.typeAssert (.iface 213 x) 98 219 true).run prog w=.ok (.tuple #[.pointer none,.bool false]) w:=by kernel_rfl
theorem nt_Shown_Element_Text (x:Value)(w:World):(Instr.typeAssert (.iface 217 x) 98 213 true).run prog w=.ok (.tuple #[.pointer none,.bool false]) w:=by kernel_rfl
theorem nt_Shown_Element_Element (x:Value)(w:World):(Instr.typeAssert (.iface 217 x) 98 217 true).run prog w=.ok (.tuple #[x,.bool true]) w:=by kernel_rfl
theorem nt_Shown_Element_Keyed (x:Value)(w:World):(Instr.typeAssert (.iface 217 x) 98 219 true).run prog w=.ok (.tuple #[.pointer none,.bool false]) w:=by kernel_rfl
theorem nt_Shown_Keyed_Text (x:Value)(w:World):(Instr.typeAssert (.iface 219 x) 98 213 true).run prog w=.ok (.tuple #[.pointer none,.bool false]) w:=by kernel_rfl
theorem nt_Shown_Keyed_Element (x:Value)(w:World):(Instr.typeAssert (.iface 219 x) 98 217 true).run prog w=.ok (.tuple #[.pointer none,.bool false]) w:=by kernel_rfl
theorem nt_Shown_Keyed_Keyed (x:Value)(w:World):(Instr.typeAssert (.iface 219 x) 98 219 true).run prog w=.ok (.tuple #[x,.bool true]) w:=by kernel_rfl
theorem nt_Shown_nil_Text (w:World):(Instr.typeAssert .nilIface 98 213 true).run prog w=.ok (.tuple #[.pointer none,.bool false]) w:=by kernel_rfl
theorem nt_Shown_nil_Element (w:World):(Instr.typeAssert .nilIface 98 217 true).run prog w=.ok (.tuple #[.pointer none,.bool false]) w:=by kernel_rfl
theorem nt_Shown_nil_Keyed (w:World):(Instr.typeAssert .nilIface 98 219 true).run prog w=.ok (.tuple #[.pointer none,.bool false]) w:=by kernel_rfl
theorem nt_Shown_of_Text (x:Value)(w:World):(Instr.typeAssert (.iface 213 x) 90 98 true).run prog w=.ok (.tuple #[.iface 213 x,.bool true]) w:=by kernel_rfl
theorem nt_Shown_of_Element (x:Value)(w:World):(Instr.typeAssert (.iface 217 x) 90 98 true).run prog w=.ok (.tuple #[.iface 217 x,.bool true]) w:=by kernel_rfl
theorem nt_Shown_of_Keyed (x:Value)(w:World):(Instr.typeAssert (.iface 219 x) 90 98 true).run prog w=.ok (.tuple #[.iface 219 x,.bool true]) w:=by kernel_rfl
theorem nt_Shown_of_nil (w:World):(Instr.typeAssert .nilIface 90 98 true).run prog w=.ok (.tuple #[.nilIface,.bool false]) w:=by kernel_rfl
def bsA (l:List UInt8):ByteArray:=⟨l.toArray⟩
theorem bsA_data (s:ByteArray):bsA s.data.toList=s:=by
 unfold bsA
 rw[Array.toArray_toList]
theorem data_bsA (l:List UInt8):(bsA l).data.toList=l:=by simp[bsA]
inductive An where
 | txt (b:Nat) (m:Mk) (s:List UInt8)
 | el (b:Nat) (m:Mk) (tag:List UInt8) (ats:List (List UInt8×List UInt8)) (hs:List Hd) (ks:List An)
 | ky (b:Nat) (m:Mk) (tag:List UInt8) (ats:List (List UInt8×List UInt8)) (hs:List Hd) (keys:List (List UInt8)) (ks:List An)
 | tg (b:Nat) (f:List UInt8) (n:An)
 | lz (b:Nat) (f:List UInt8) (args:List PV) (n:An)
def An.val:An→Value
 | .txt b _ _=>.iface 213 (.pointer (some ⟨b,0,none⟩))
 | .el b _ _ _ _ _=>.iface 217 (.pointer (some ⟨b,0,none⟩))
 | .ky b _ _ _ _ _ _=>.iface 219 (.pointer (some ⟨b,0,none⟩))
 | .tg b _ _=>.iface 226 (.pointer (some ⟨b,0,none⟩))
 | .lz b _ _ _=>.iface 229 (.pointer (some ⟨b,0,none⟩))
mutual
def er:An→Nd
 | .txt _ m s=>.txt m s
 | .el _ m t ats hs ks=>.el m t ats hs (erL ks)
 | .ky _ m t ats hs keys ks=>.ky m t ats hs keys (erL ks)
 | .tg _ f n=>.tg f (er n)
 | .lz _ f args n=>.lz f args (er n)
def erL:List An→List Nd
 | []=>[]
 | n::r=>er n::erL r
end
mutual
def blocksA:An→List Nat
 | .txt b _ _=>[b]
 | .el b _ _ _ _ ks=>b::blocksL ks
 | .ky b _ _ _ _ _ ks=>b::blocksL ks
 | .tg b _ n=>b::blocksA n
 | .lz b _ _ n=>b::blocksA n
def blocksL:List An→List Nat
 | []=>[]
 | n::r=>blocksA n++blocksL r
end
mutual
def sizeA:An→Nat
 | .txt _ _ _=>1
 | .el _ _ _ _ _ ks=>1+sizeL ks
 | .ky _ _ _ _ _ _ ks=>1+sizeL ks
 | .tg _ _ n=>1+sizeA n
 | .lz _ _ _ n=>1+sizeA n
def sizeL:List An→Nat
 | []=>0
 | n::r=>sizeA n+sizeL r
end
def mkN (m:Mk):Value:=.int .i64 ((m.num:Nat):Int)
def mkW (m:Mk):Value:=.bool m.note.isSome
def mkS (m:Mk):Value:=.string (bsA (m.note.getD []))
def atA:List (List UInt8×List UInt8)→List Value
 | []=>[]
 |(n,t)::r=>.string (bsA n)::.string (bsA t)::atA r
theorem atA_atP (l:List (ByteArray×ByteArray)):atA (atP l)=atC l:=by
 unfold atP
 induction l with
 | nil=>rfl
 | cons a r ih=>simp[atA,atC,bsA_data,ih]
abbrev TT:Nat→Prop:=fun _=>True
structure Rows7 (w:World)(D:Nat→Prop)(ats:List (List UInt8×List UInt8))(hs:List Hd)(n:Nat)(xs:List Value)(av hv nv:Value)(hc:List Value):Prop where
 ra:SegAt w TT 270 2 av ats.length (atA ats)
 rh:SegAt w TT 160 3 hv hs.length hc
 hd:HdC w D hs hc
 rn:SegAt w D 90 1 nv n xs
mutual
def AnD (w:World)(D:Nat→Prop):An→Prop
 | .txt b m s=>w.heap[b]?=some (.cells #[mkN m,mkW m,mkS m,.string (bsA s)] 216)
 | .el b m t ats hs ks=>(∃av hv nv hc,w.heap[b]?=some (.cells #[mkN m,mkW m,mkS m,.string (bsA t),av,hv,nv] 223)∧Rows7 w D ats hs ks.length (ks.map An.val) av hv nv hc)∧AnsD w D ks
 | .ky b m t ats hs keys ks=>(∃av hv nv hc kv,w.heap[b]?=some (.cells #[mkN m,mkW m,mkS m,.string (bsA t),av,hv,nv,kv] 225)∧Rows7 w D ats hs ks.length (ks.map An.val) av hv nv hc∧StrsAt w TT kv (keys.map bsA))∧AnsD w D ks
 | .tg b f n=>w.heap[b]?=some (.cells #[.string (bsA f),n.val] 228)∧AnD w D n
 | .lz b f args n=>(∃sl cs,w.heap[b]?=some (.cells #[.string (bsA f),sl,n.val] 231)∧SegAt w D 74 1 sl args.length cs∧VLs w D args cs)∧AnD w D n
def AnsD (w:World)(D:Nat→Prop):List An→Prop
 | []=>True
 | n::r=>AnD w D n∧AnsD w D r
end
abbrev AnAt (w:World)(n:An):Prop:=AnD w TT n
abbrev AnsAt (w:World)(n:List An):Prop:=AnsD w TT n
structure RK (w w':World):Prop where
 kv:TyKeep 74 w w'
 ka:TyKeep 270 w w'
 kh:TyKeep 160 w w'
 kn:TyKeep 90 w w'
 ks:TyKeep 9 w w'
theorem RK.refl (w:World):RK w w:=⟨fun _ _ h=>h,fun _ _ h=>h,fun _ _ h=>h,fun _ _ h=>h,fun _ _ h=>h⟩
theorem RK.trans {a b c:World}(h:RK a b)(k:RK b c):RK a c:=⟨h.kv.trans k.kv,h.ka.trans k.ka,h.kh.trans k.kh,h.kn.trans k.kn,h.ks.trans k.ks⟩
theorem RK.of_below {w w':World}(h:Below w.heap.size w w'):RK w w':=⟨.of_below h,.of_below h,.of_below h,.of_below h,.of_below h⟩
theorem RK.setCell {w:World}{b j:Nat}{c:Array Value}{t:TypeId}(hq:w.heap[b]?=some (.cells c t))(ht:t≠74∧t≠270∧t≠160∧t≠90∧t≠9)(u:Value):RK w (w.setCell ⟨b,j,none⟩ u):=⟨.setCell hq ht.1 u,.setCell hq ht.2.1 u,.setCell hq ht.2.2.1 u,.setCell hq ht.2.2.2.1 u,.setCell hq ht.2.2.2.2 u⟩
structure RKD (w:World)(D:Nat→Prop)(w':World)(D':Nat→Prop):Prop where
 kv:∀v n xs,SegAt w D 74 1 v n xs→SegAt w' D' 74 1 v n xs
 ka:TyKeep 270 w w'
 kh:TyKeep 160 w w'
 kn:∀v n xs,SegAt w D 90 1 v n xs→SegAt w' D' 90 1 v n xs
 ks:TyKeep 9 w w'
theorem RK.rkd {w w':World}(h:RK w w')(D:Nat→Prop):RKD w D w' D:=⟨fun _ _ _ g=>g.tyKeep h.kv,h.ka,h.kh,fun _ _ _ g=>g.tyKeep h.kn,h.ks⟩
theorem RKD.weaken {w:World}{D D':Nat→Prop}(h:∀k,D k→D' k):RKD w D w D':=⟨fun _ _ _ g=>g.weaken h,fun _ _ h=>h,fun _ _ h=>h,fun _ _ _ g=>g.weaken h,fun _ _ h=>h⟩
theorem RKD.lt (w:World)(D:Nat→Prop):RKD w D w (fun k=>D k∧k<w.heap.size):=⟨fun _ _ _ g=>g.keep fun _ _ _=>rfl,fun _ _ h=>h,fun _ _ h=>h,fun _ _ _ g=>g.keep fun _ _ _=>rfl,fun _ _ h=>h⟩
theorem Rows7.keep {w w':World}{D D':Nat→Prop}(hk:RKD w D w' D'){ats:List (List UInt8×List UInt8)}{hs:List Hd}{n:Nat}{xs:List Value}{av hv nv:Value}{hc:List Value}(h:Rows7 w D ats hs n xs av hv nv hc):Rows7 w' D' ats hs n xs av hv nv hc :=
 ⟨h.ra.tyKeep hk.ka,h.rh.tyKeep hk.kh,h.hd.map fun _ _ k=>k.map hk.kv,hk.kn _ _ _ h.rn⟩
mutual
theorem AnD.map {w w':World}{D D':Nat→Prop}(hk:RKD w D w' D'):∀{n:An},(∀b∈blocksA n,w'.heap[b]?=w.heap[b]?)→AnD w D n→AnD w' D' n
 | .txt b m s,hb,h=>by
  rw[AnD] at h ⊢
  rw[hb b (by simp[blocksA])]
  exact h
 | .el b m t ats hs ks,hb,h=>by
  rw[AnD] at h ⊢
  obtain⟨⟨av,hv,nv,hc,h1,h2⟩,h3⟩:=h
  exact⟨⟨av,hv,nv,hc,by rw[hb b (by simp[blocksA])];exact h1,h2.keep hk⟩,AnsD.map hk (fun q hq=>hb q (by simp[blocksA,hq])) h3⟩
 | .ky b m t ats hs keys ks,hb,h=>by
  rw[AnD] at h ⊢
  obtain⟨⟨av,hv,nv,hc,kv,h1,h2,h4⟩,h3⟩:=h
  exact⟨⟨av,hv,nv,hc,kv,by rw[hb b (by simp[blocksA])];exact h1,h2.keep hk,RowAt.tyKeep h4 hk.ks⟩,AnsD.map hk (fun q hq=>hb q (by simp[blocksA,hq])) h3⟩
 | .tg b f n,hb,h=>by
  rw[AnD] at h ⊢
  exact⟨by rw[hb b (by simp[blocksA])];exact h.1,AnD.map hk (fun q hq=>hb q (by simp[blocksA,hq])) h.2⟩
 | .lz b f args n,hb,h=>by
  rw[AnD] at h ⊢
  obtain⟨⟨sl,cs,h1,h2,h3⟩,h4⟩:=h
  exact⟨⟨sl,cs,by rw[hb b (by simp[blocksA])];exact h1,hk.kv _ _ _ h2,h3.map hk.kv⟩,AnD.map hk (fun q hq=>hb q (by simp[blocksA,hq])) h4⟩
theorem AnsD.map {w w':World}{D D':Nat→Prop}(hk:RKD w D w' D'):∀{l:List An},(∀b∈blocksL l,w'.heap[b]?=w.heap[b]?)→AnsD w D l→AnsD w' D' l
 | [],_,h=>h
 | n::r,hb,h=>by
  rw[AnsD] at h ⊢
  exact⟨AnD.map hk (fun q hq=>hb q (by simp[blocksL,hq])) h.1,AnsD.map hk (fun q hq=>hb q (by simp[blocksL,hq])) h.2⟩
end
mutual
theorem AnD.lt {w:World}{D:Nat→Prop}:∀{n:An},AnD w D n→∀b∈blocksA n,b<w.heap.size
 | .txt b m s,h=>by
  rw[AnD] at h
  intro q hq
  simp[blocksA] at hq
  subst hq
  exact block_lt h
 | .el b m t ats hs ks,h=>by
  rw[AnD] at h
  obtain⟨⟨av,hv,nv,hc,h1,h2⟩,h3⟩:=h
  intro q hq
  simp[blocksA] at hq
  rcases hq with rfl | hq
  ·exact block_lt h1
  ·exact AnsD.lt h3 q hq
 | .ky b m t ats hs keys ks,h=>by
  rw[AnD] at h
  obtain⟨⟨av,hv,nv,hc,kv,h1,h2⟩,h3⟩:=h
  intro q hq
  simp[blocksA] at hq
  rcases hq with rfl | hq
  ·exact block_lt h1
  ·exact AnsD.lt h3 q hq
 | .tg b f n,h=>by
  rw[AnD] at h
  intro q hq
  simp[blocksA] at hq
  rcases hq with rfl | hq
  ·exact block_lt h.1
  ·exact AnD.lt h.2 q hq
 | .lz b f args n,h=>by
  rw[AnD] at h
  obtain⟨⟨sl,cs,h1,h2,h3⟩,h4⟩:=h
  intro q hq
  simp[blocksA] at hq
  rcases hq with rfl | hq
  ·exact block_lt h1
  ·exact AnD.lt h4 q hq
theorem AnsD.lt {w:World}{D:Nat→Prop}:∀{l:List An},AnsD w D l→∀b∈blocksL l,b<w.heap.size
 | [],_,q,hq=>by simp[blocksL] at hq
 | n::r,h,q,hq=>by
  rw[AnsD] at h
  simp[blocksL] at hq
  rcases hq with hq | hq
  ·exact AnD.lt h.1 q hq
  ·exact AnsD.lt h.2 q hq
end
theorem AnD.keep {w w':World}{D:Nat→Prop}(hk:RK w w'){n:An}(hb:∀b∈blocksA n,w'.heap[b]?=w.heap[b]?)(h:AnD w D n):AnD w' D n:=AnD.map (hk.rkd D) hb h
theorem AnsD.keep {w w':World}{D:Nat→Prop}(hk:RK w w'){n:List An}(hb:∀b∈blocksL n,w'.heap[b]?=w.heap[b]?)(h:AnsD w D n):AnsD w' D n:=AnsD.map (hk.rkd D) hb h
theorem AnD.below {w w':World}{D:Nat→Prop}{n:An}(h:AnD w D n)(hb:Below w.heap.size w w'):AnD w' D n:=AnD.keep (.of_below hb) (fun b hq=>hb.block b (h.lt b hq)) h
theorem AnsD.below {w w':World}{D:Nat→Prop}{n:List An}(h:AnsD w D n)(hb:Below w.heap.size w w'):AnsD w' D n:=AnsD.keep (.of_below hb) (fun b hq=>hb.block b (h.lt b hq)) h
theorem AnD.weaken {w:World}{D D':Nat→Prop}{n:An}(h:AnD w D n)(hD:∀k,D k→D' k):AnD w D' n:=AnD.map (.weaken hD) (fun _ _=>rfl) h
theorem AnsD.weaken {w:World}{D D':Nat→Prop}{n:List An}(h:AnsD w D n)(hD:∀k,D k→D' k):AnsD w D' n:=AnsD.map (.weaken hD) (fun _ _=>rfl) h
theorem AnD.in {w:World}{D:Nat→Prop}{n:An}(h:AnD w D n):AnD w (fun k=>D k∧k<w.heap.size) n:=AnD.map (.lt w D) (fun _ _=>rfl) h
theorem AnsD.in {w:World}{D:Nat→Prop}{n:List An}(h:AnsD w D n):AnsD w (fun k=>D k∧k<w.heap.size) n:=AnsD.map (.lt w D) (fun _ _=>rfl) h
theorem AnsD.at {w:World}{D:Nat→Prop}:∀{l:List An},AnsD w D l→∀i (hi:i<l.length),AnD w D l[i]
 | [],_,i,hi=>by simp at hi
 | n::r,h,0,hi=>by rw[AnsD] at h;exact h.1
 | n::r,h,i+1,hi=>by rw[AnsD] at h;exact AnsD.at h.2 i (by simpa using hi)
inductive Kd where
 | txt
 | el (t:List UInt8)
 | ky (t:List UInt8) (keys:List (List UInt8))
 | tg
 | lz
def kdA:An→Kd
 | .txt _ _ _=>.txt
 | .el _ _ t _ _ _=>.el t
 | .ky _ _ t _ _ keys _=>.ky t keys
 | .tg _ _ _=>.tg
 | .lz _ _ _ _=>.lz
def KindAt (w:World)(x:Value):Kd→Prop
 | .txt=>∃b,x=.iface 213 (.pointer (some ⟨b,0,none⟩))
 | .el t=>∃b,x=.iface 217 (.pointer (some ⟨b,0,none⟩))∧w.cell? ⟨b,3,none⟩=some (.string (bsA t))
 | .ky t keys=>∃b kv,x=.iface 219 (.pointer (some ⟨b,0,none⟩))∧w.cell? ⟨b,3,none⟩=some (.string (bsA t))∧w.cell? ⟨b,7,none⟩=some kv∧StrsAt w TT kv (keys.map bsA)
 | .tg=>∃b,x=.iface 226 (.pointer (some ⟨b,0,none⟩))
 | .lz=>∃b,x=.iface 229 (.pointer (some ⟨b,0,none⟩))
theorem AnD.kind {w:World}{D:Nat→Prop}{n:An}(h:AnD w D n):KindAt w n.val (kdA n):=by
 cases n with
 | txt b m s=>exact⟨b,rfl⟩
 | el b m t ats hs ks =>
  rw[AnD] at h
  obtain⟨⟨av,hv,nv,hc,h1,h2⟩,h3⟩:=h
  exact⟨b,rfl,by unfold World.cell?;rw[h1];rfl⟩
 | ky b m t ats hs keys ks =>
  rw[AnD] at h
  obtain⟨⟨av,hv,nv,hc,kv,h1,h2,h4⟩,h3⟩:=h
  exact⟨b,kv,rfl,by unfold World.cell?;rw[h1];rfl,by unfold World.cell?;rw[h1];rfl,h4⟩
 | tg b f n=>exact⟨b,rfl⟩
 | lz b f args n=>exact⟨b,rfl⟩
theorem KindAt.below {w w':World}{x:Value}{k:Kd}(h:KindAt w x k)(hb:Below w.heap.size w w'):KindAt w' x k:=by
 cases k with
 | txt=>exact h
 | el t=>obtain⟨b,h1,h2⟩:=h;exact⟨b,h1,Below.cellv hb h2⟩
 | ky t keys=>obtain⟨b,kv,h1,h2,h3,h4⟩:=h;exact⟨b,kv,h1,Below.cellv hb h2,Below.cellv hb h3,RowAt.tyKeep h4 (.of_below hb)⟩
 | tg=>exact h
 | lz=>exact h
def alikeK:Kd→Kd→Bool
 | .txt,.txt=>true
 | .el t,.el u=>t==u
 | .ky t _,.ky u _=>t==u
 | .tg,.tg=>true
 | .lz,.lz=>true
 | _,_=>false
def alikeO (k:Kd):Option An→Bool
 | none=>false
 | some n=>alikeK k (kdA n)
def valN:Option An→Value
 | none=>.nilIface
 | some n=>n.val
def OD (w:World)(D:Nat→Prop):Option An→Prop
 | none=>True
 | some n=>AnD w D n
abbrev OAt (w:World)(o:Option An):Prop:=OD w TT o
theorem OD.below {w w':World}{D:Nat→Prop}{o:Option An}(h:OD w D o)(hb:Below w.heap.size w w'):OD w' D o:=by
 cases o with
 | none=>trivial
 | some n=>exact AnD.below h hb
theorem OD.weaken {w:World}{D D':Nat→Prop}{o:Option An}(h:OD w D o)(hD:∀k,D k→D' k):OD w D' o:=by
 cases o with
 | none=>trivial
 | some n=>exact AnD.weaken h hD
def oppA:Kd→Option An→Nat→Option An
 | .el t,some (.el _ _ u _ _ ks),i=>if t==u then ks[i]? else none
 | .ky t keys,some (.ky _ _ u _ _ keys' ks),i=>if t==u then (keys[i]?).bind fun k=>(keys'.findIdx? (k==·)).bind fun j=>ks[j]? else none
 | .tg,some (.tg _ _ n),0=>some n
 | .lz,some (.lz _ _ _ n),0=>some n
 | _,_,_=>none
end Go.Proofs.YtifhgjpglicjbaaGreatDoor
namespace Go.Proofs.YtifhgjpglicjbaaGreatDoor
open Go.Proofs.Tryz
open Go.RowKit Go.Lib
attribute [local go_sem ↓] Go.wp_at_zero Go.wp_at_succ
attribute [local go_sem] nt_Node_Text_Text nt_Node_Text_Element nt_Node_Text_Keyed nt_Node_Text_Tagged nt_Node_Text_Lazy nt_Node_Element_Text nt_Node_Element_Element nt_Node_Element_Keyed nt_Node_Element_Tagged nt_Node_Element_Lazy nt_Node_Keyed_Text nt_Node_Keyed_Element nt_Node_Keyed_Keyed nt_Node_Keyed_Tagged nt_Node_Keyed_Lazy nt_Node_Tagged_Text nt_Node_Tagged_Element nt_Node_Tagged_Keyed nt_Node_Tagged_Tagged nt_Node_Tagged_Lazy nt_Node_Lazy_Text nt_Node_Lazy_Element nt_Node_Lazy_Keyed nt_Node_Lazy_Tagged nt_Node_Lazy_Lazy nt_Node_nil_Text nt_Node_nil_Element nt_Node_nil_Keyed nt_Node_nil_Tagged nt_Node_nil_Lazy nt_Shown_Text_Text nt_Shown_Text_Element nt_Shown_Text_Keyed nt_Shown_Element_Text nt_Shown_Element_Element nt_Shown_Element_Keyed nt_Shown_Keyed_Text nt_Shown_Keyed_Element nt_Shown_Keyed_Keyed nt_Shown_nil_Text nt_Shown_nil_Element nt_Shown_nil_Keyed nt_Shown_of_Text nt_Shown_of_Element nt_Shown_of_Keyed nt_Shown_of_nil
def kidsO:Option An→List An
 | some (.el _ _ _ _ _ ks)=>ks
 | some (.ky _ _ _ _ _ _ ks)=>ks
 | some (.tg _ _ n)=>[n]
 | some (.lz _ _ _ n)=>[n]
 | _=>[]
def inP (w:World)(o:Option An)(e:Ending)(w':World):Prop :=
 Below w.heap.size w w'∧∃ad cap,e=.returned (.slice ad (kidsO o).length cap)∧SegAt w' TT 90 1 (.slice ad (kidsO o).length cap) (kidsO o).length ((kidsO o).map An.val)
theorem seg_nil (w:World)(t:TypeId):SegAt w TT t 1 (.slice none 0 0) 0 []:=⟨rfl,Or.inl ⟨⟨none,0,rfl⟩,rfl⟩⟩
theorem seg_one (w:World)(t:TypeId)(v:Value):SegAt (w.alloc (.cells #[v] t)) TT t 1 (.slice (some ⟨w.heap.size,0,none⟩) 1 1) 1 [v] :=
 ⟨rfl,Or.inr ⟨w.heap.size,0,1,#[v],rfl,trivial,heap_alloc_new _ _,Nat.le_refl _,by unfold maxLen;omega,by simp,rfl⟩⟩
theorem An.val_iface (n:An):∃t b,n.val=.iface t (.pointer (some ⟨b,0,none⟩)):=by
 cases n<;>exact⟨_,_,rfl⟩
theorem inside_any (o:Option An)(w:World)(h:OAt w o):Calls prog 66 #[valN o] w (inP w o):=by
 match o,h with
 | none,_ =>
  show Calls _ _ #[.nilIface] _ _
  have FIN:Hid (inP w none (.returned (.slice none 0 0)) w):=⟨Below.refl _ _,none,0,rfl,seg_nil w _⟩
  go_enter func66,ntmps66
  go_wp2_with fail
  go_ret
  exact FIN.out
 | some (.txt b m s),_ =>
  show Calls _ _ #[.iface _ _] _ _
  have FIN:Hid (inP w (some (.txt b m s)) (.returned (.slice none 0 0)) w):=⟨Below.refl _ _,none,0,rfl,seg_nil w _⟩
  go_enter func66,ntmps66
  go_wp2_with fail
  go_ret
  exact FIN.out
 | some (.el b m t ats hs ks),h =>
  show Calls _ _ #[.iface _ _] _ _
  have h:AnAt w _:=h
  rw[AnAt,AnD] at h
  obtain⟨⟨av,hv,nv,hc,h1,h2⟩,h3⟩:=h
  obtain⟨ad,cap,rfl⟩:=h2.rn.slice
  obtain⟨_,_,_,_,_,_,c6,_⟩:=box7 h1
  have FIN:Hid (inP w (some (.el b m t ats hs ks)) (.returned (.slice ad ks.length cap)) w):=⟨Below.refl _ _,ad,cap,rfl,h2.rn⟩
  clear h1 h2 h3
  go_enter func66,ntmps66
  go_wp2_with fail
  go_ret
  exact FIN.out
 | some (.ky b m t ats hs keys ks),h =>
  show Calls _ _ #[.iface _ _] _ _
  have h:AnAt w _:=h
  rw[AnAt,AnD] at h
  obtain⟨⟨av,hv,nv,hc,kv,h1,h2,h4⟩,h3⟩:=h
  obtain⟨ad,cap,rfl⟩:=h2.rn.slice
  have c6:w.cell? ⟨b,6,none⟩=some (.slice ad ks.length cap):=by unfold World.cell?;rw[h1];rfl
  have FIN:Hid (inP w (some (.ky b m t ats hs keys ks)) (.returned (.slice ad ks.length cap)) w):=⟨Below.refl _ _,ad,cap,rfl,h2.rn⟩
  clear h1 h2 h3 h4
  go_enter func66,ntmps66
  go_wp2_with fail
  go_ret
  exact FIN.out
 | some (.tg b f n),h =>
  show Calls _ _ #[.iface _ _] _ _
  have h:AnAt w _:=h
  rw[AnAt,AnD] at h
  have c1:w.cell? ⟨b,1,none⟩=some n.val:=by unfold World.cell?;rw[h.1];rfl
  have FIN:Hid (inP w (some (.tg b f n)) (.returned (.slice (some ⟨w.heap.size,0,none⟩) 1 1)) (w.alloc (.cells #[n.val] 90))):=⟨below1 w _,_,1,rfl,seg_one w _ _⟩
  obtain⟨tt,bb,he⟩:=n.val_iface
  rw[he] at c1 FIN
  clear h he
  go_enter func66,ntmps66
  go_wp2_with fail
  go_ret
  exact FIN.out
 | some (.lz b f args n),h =>
  show Calls _ _ #[.iface _ _] _ _
  have h:AnAt w _:=h
  rw[AnAt,AnD] at h
  obtain⟨⟨sl,cs,h1,h2,h3⟩,h4⟩:=h
  have c1:w.cell? ⟨b,2,none⟩=some n.val:=by unfold World.cell?;rw[h1];rfl
  have FIN:Hid (inP w (some (.lz b f args n)) (.returned (.slice (some ⟨w.heap.size,0,none⟩) 1 1)) (w.alloc (.cells #[n.val] 90))):=⟨below1 w _,_,1,rfl,seg_one w _ _⟩
  obtain⟨tt,bb,he⟩:=n.val_iface
  rw[he] at c1 FIN
  clear h1 h2 h3 h4 he
  go_enter func66,ntmps66
  go_wp2_with fail
  go_ret
  exact FIN.out
theorem bsA_eq (a b:List UInt8):((bsA a).toList==(bsA b).toList)=(a==b):=by
 rw[ByteArray.toList_eq,ByteArray.toList_eq,data_bsA,data_bsA]
theorem alike_any (k:Kd)(x:Value)(o:Option An)(w:World)(hk:KindAt w x k)(h:OAt w o):
  Calls prog 167 #[x,valN o] w fun e w'=>e=.returned (.bool (alikeO k o))∧Below w.heap.size w w':=by
 cases k with
 | txt =>
  obtain⟨b,rfl⟩:=hk
  rcases o with _ | ⟨b2,m,s⟩ | ⟨b2,m,t,ats,hs,ks⟩ | ⟨b2,m,t,ats,hs,keys,ks⟩ | ⟨b2,f,n⟩ | ⟨b2,f,args,n⟩
  all_goals
   clear h
   simp only[valN,An.val,alikeO,kdA,alikeK]
   go_enter func167,ntmps167
   go_wp2_with fail
   go_ret
   exact⟨rfl,Below.refl _ _⟩
 | el u =>
  obtain⟨b,rfl,c0⟩:=hk
  rcases o with _ | ⟨b2,m,s⟩ | ⟨b2,m,t,ats,hs,ks⟩ | ⟨b2,m,t,ats,hs,keys,ks⟩ | ⟨b2,f,n⟩ | ⟨b2,f,args,n⟩
  case some.el =>
   have h:AnAt w _:=h
   obtain⟨b',he,c1⟩:=h.kind
   cases he
   have hq:=bsA_eq u t
   simp only[valN,An.val,alikeO,kdA,alikeK]
   rw[←hq]
   clear h hq
   go_enter func167,ntmps167
   go_wp2_with fail
   go_region
   all_goals (go_wp2_with fail)
   all_goals go_ret
   all_goals exact⟨rfl,by first | exact Below.refl _ _ | exact (Below.refl _ _).drew⟩
  all_goals
   clear h
   simp only[valN,An.val,alikeO,kdA,alikeK]
   go_enter func167,ntmps167
   go_wp2_with fail
   go_region
   all_goals (go_wp2_with fail)
   all_goals go_ret
   all_goals exact⟨rfl,by first | exact Below.refl _ _ | exact (Below.refl _ _).drew⟩
 | ky u keys0 =>
  obtain⟨b,kv,rfl,c0,_,_⟩:=hk
  rcases o with _ | ⟨b2,m,s⟩ | ⟨b2,m,t,ats,hs,ks⟩ | ⟨b2,m,t,ats,hs,keys,ks⟩ | ⟨b2,f,n⟩ | ⟨b2,f,args,n⟩
  case some.ky =>
   have h:AnAt w _:=h
   obtain⟨b',kv',he,c1,_,_⟩:=h.kind
   cases he
   have hq:=bsA_eq u t
   simp only[valN,An.val,alikeO,kdA,alikeK]
   rw[←hq]
   clear h hq
   go_enter func167,ntmps167
   go_wp2_with fail
   go_region
   all_goals (go_wp2_with fail)
   all_goals go_ret
   all_goals exact⟨rfl,by first | exact Below.refl _ _ | exact (Below.refl _ _).drew⟩
  all_goals
   clear h
   simp only[valN,An.val,alikeO,kdA,alikeK]
   go_enter func167,ntmps167
   go_wp2_with fail
   go_region
   all_goals (go_wp2_with fail)
   all_goals go_ret
   all_goals exact⟨rfl,by first | exact Below.refl _ _ | exact (Below.refl _ _).drew⟩
 | tg =>
  obtain⟨b,rfl⟩:=hk
  rcases o with _ | ⟨b2,m,s⟩ | ⟨b2,m,t,ats,hs,ks⟩ | ⟨b2,m,t,ats,hs,keys,ks⟩ | ⟨b2,f,n⟩ | ⟨b2,f,args,n⟩
  all_goals
   clear h
   simp only[valN,An.val,alikeO,kdA,alikeK]
   go_enter func167,ntmps167
   go_wp2_with fail
   go_ret
   exact⟨rfl,Below.refl _ _⟩
 | lz =>
  obtain⟨b,rfl⟩:=hk
  rcases o with _ | ⟨b2,m,s⟩ | ⟨b2,m,t,ats,hs,ks⟩ | ⟨b2,m,t,ats,hs,keys,ks⟩ | ⟨b2,f,n⟩ | ⟨b2,f,args,n⟩
  all_goals
   clear h
   simp only[valN,An.val,alikeO,kdA,alikeK]
   go_enter func167,ntmps167
   go_wp2_with fail
   go_ret
   exact⟨rfl,Below.refl _ _⟩
def idxI (bs:List ByteArray)(v:ByteArray):Int:=match bs.findIdx? (fun b=>v.toList==b.toList) with
 | some k=>(k:Int)
 | none=>-1
theorem findIdx_at {α:Type}(p:α→Bool):∀(l:List α) (k:Nat) (hk:k<l.length),(∀j (_:j<k) (hl:j<l.length),p l[j]=false)→p l[k]=true→l.findIdx? p=some k
 | [],k,hk,_,_=>by simp at hk
 | a::r,0,hk,_,h=>by
  have:p a=true:=h
  simp[List.findIdx?_cons,this]
 | a::r,k+1,hk,h0,h=>by
  have h1:p a=false:=h0 0 (by omega) (by simp)
  have:=findIdx_at p r k (by simpa using hk) (fun j hj hl=>h0 (j+1) (by omega) (by simpa using hl)) h
  simp[List.findIdx?_cons,h1,this]
theorem findIdx_no {α:Type}(p:α→Bool)(l:List α)(h:∀j (hl:j<l.length),p l[j]=false):l.findIdx? p=none:=by
 rw[List.findIdx?_eq_none_iff]
 intro x hx
 obtain⟨j,hj,rfl⟩:=List.getElem_of_mem hx
 exact h j hj
theorem index_at (sv:Value)(bs:List ByteArray)(v:ByteArray)(w:World)(D:Nat→Prop)(h:StrsAt w D sv bs)(hn:bs.length≤100000):
  Calls prog 137 #[sv,.string v] w fun e w'=>e=.returned (.int .i64 (idxI bs v))∧w'=w:=by
 rcases h.2 with ⟨rfl,h0⟩ | ⟨g,cap,cur,rfl,hg,hh,hc,hm,hz,ht⟩
 ·have:bs=[]:=List.eq_nil_of_length_eq_zero h0
  subst this
  go_enter func137,ntmps137
  go_wp2
  go_loop [8] (fun i=>i=.int .i64 0) (fun _=>0)
  case atStart=>rfl
  case round =>
   subst hrel
   go_wp2
   go_ret
   exact⟨rfl,rfl⟩
 ·have hcell:∀j (hj:j<bs.length),w.cell? ⟨g,j,none⟩=some (.string bs[j]):=fun j hj=>by
   have:w.cell? ⟨g,j,none⟩=cur[j]?:=by unfold World.cell?;rw[hh];rfl
   rw[this,←Array.getElem?_toList]
   have h2:(cur.toList.take (bs.length*1))[j]?=(bs.map Value.string)[j]?:=by rw[ht]
   rw[List.getElem?_take,if_pos (by omega)] at h2
   rw[h2]
   simp[hj]
  obtain⟨R,hR⟩:∃R,R=idxI bs v:=⟨_,rfl⟩
  rw[←hR]
  have HR:Aside (R=idxI bs v):=hR
  clear ht hz hh h hR
  unfold maxLen at hm
  go_enter func137,ntmps137
  go_wp2
  go_loop [8] (fun i=>∃k:Nat,i=.int .i64 k∧k≤bs.length∧Hid (∀j (hj:j<k) (hl:j<bs.length),(v.toList==bs[j].toList)=false)) (fun i=>bs.length-(RowKit.intOf i).toNat)
  case atStart=>exact⟨0,rfl,by omega,fun j hj _=>absurd hj (by omega)⟩
  case round =>
   obtain⟨k,rfl,hk,hall⟩:=hrel
   by_cases hlt:k<bs.length
   ·have hck:=hcell k hlt
    cases he:(v.toList==bs[k].toList)
    ·go_wp2
     go_round
     case rel =>
      refine⟨k+1,by go_num,by omega,fun j hj hl=>?_⟩
      by_cases e:j=k
      ·subst e;exact he
      ·exact hall.out j (by omega) hl
     case measure=>simp[RowKit.intOf];omega
    ·have HO:Hid (R=(k:Int)):=by
      show R=_
      rw[HR.out,idxI,findIdx_at _ _ k hlt (fun j hj hl=>hall.out j hj hl) he]
     go_wp2
     go_ret
     exact⟨by rw[HO.out];rfl,rfl⟩
   ·have HO:Hid (R=-1):=by
     show R=_
     rw[HR.out,idxI,findIdx_no _ _ (fun j hl=>hall.out j (by omega) hl)]
    go_wp2
    go_ret
    exact⟨by rw[HO.out];rfl,rfl⟩
def keysA:Option An→List (List UInt8)
 | some (.ky _ _ _ _ _ keys _)=>keys
 | _=>[]
theorem strs_nil (w:World):StrsAt w TT (.slice none 0 0) []:=⟨rfl,Or.inl ⟨rfl,rfl⟩⟩
theorem strs_slice {w:World}{D:Nat→Prop}{sv:Value}{bs:List ByteArray}(h:StrsAt w D sv bs):∃ad cap,sv=.slice ad bs.length cap:=by
 rcases h.2 with ⟨rfl,h0⟩ | ⟨g,cap,cur,rfl,_⟩
 ·exact⟨none,0,by rw[h0]⟩
 ·exact⟨_,_,rfl⟩
theorem keysOf_any (o:Option An)(w:World)(h:OAt w o):Calls prog 168 #[valN o] w fun e w'=>∃kv,e=.returned kv∧StrsAt w TT kv ((keysA o).map bsA)∧w'=w:=by
 match o,h with
 | none,_ =>
  show Calls _ _ #[.nilIface] _ _
  go_enter func168,ntmps168
  go_wp2_with fail
  go_ret
  exact⟨_,rfl,strs_nil w,rfl⟩
 | some (.ky b m t ats hs keys ks),h =>
  show Calls _ _ #[.iface _ _] _ _
  have h:AnAt w _:=h
  obtain⟨b',kv,he,c0,c1,hk⟩:=h.kind
  cases he
  obtain⟨ad,cap,rfl⟩:=strs_slice hk
  have FIN:Hid (StrsAt w TT (.slice ad (keys.map bsA).length cap) ((keysA (some (.ky b m t ats hs keys ks))).map bsA)):=hk
  clear h hk c0
  simp only[List.length_map] at c1 FIN
  go_enter func168,ntmps168
  go_wp2_with fail
  go_ret
  exact⟨_,rfl,FIN.out,rfl⟩
 | some (.txt b m s),_ =>
  show Calls _ _ #[.iface _ _] _ _
  go_enter func168,ntmps168
  go_wp2_with fail
  go_ret
  exact⟨_,rfl,strs_nil w,rfl⟩
 | some (.el b m t ats hs ks),_ =>
  show Calls _ _ #[.iface _ _] _ _
  go_enter func168,ntmps168
  go_wp2_with fail
  go_ret
  exact⟨_,rfl,strs_nil w,rfl⟩
 | some (.tg b f n),_ =>
  show Calls _ _ #[.iface _ _] _ _
  go_enter func168,ntmps168
  go_wp2_with fail
  go_ret
  exact⟨_,rfl,strs_nil w,rfl⟩
 | some (.lz b f args n),_ =>
  show Calls _ _ #[.iface _ _] _ _
  go_enter func168,ntmps168
  go_wp2_with fail
  go_ret
  exact⟨_,rfl,strs_nil w,rfl⟩
theorem oppA_no {k:Kd}{o:Option An}{i:Nat}(h:alikeO k o=false):oppA k o i=none:=by
 rcases o with _ | ⟨b2,m,s⟩ | ⟨b2,m,t,ats,hs,ks⟩ | ⟨b2,m,t,ats,hs,keys,ks⟩ | ⟨b2,f,n⟩ | ⟨b2,f,args,n⟩<;>cases k<;>simp_all [oppA,alikeO,kdA,alikeK]
theorem seg_at {w:World}{ad:Option Addr}{n cap:Nat}{t:TypeId}{xs:List Value}(h:SegAt w TT t 1 (.slice ad n cap) n xs){i:Nat}(hi:i<n):∃g o,ad=some ⟨g,o,none⟩∧n≤cap∧cap≤maxLen∧w.cell? ⟨g,o+i,none⟩=xs[i]?:=by
 obtain⟨g,o,cp,hcap,_,hc1,hc2,hcell⟩:=h.cell (by omega)
 cases hcap
 exact⟨g,o,rfl,hc1,hc2,hcell i (by omega)⟩
theorem opp_plain (k:Kd)(x:Value)(o:Option An)(i:Nat)(w:World)(hk:KindAt w x k)(h:OAt w o)(hny:∀t keys,k≠.ky t keys)(hR:alikeO k o=true→oppA k o i=(kidsO o)[i]?)(hi:i≤100000)(_hz:(kidsO o).length≤100000):
  Calls prog 126 #[x,valN o,.int .i64 ((i:Nat):Int)] w fun e w'=>e=.returned (valN (oppA k o i))∧Below w.heap.size w w':=by
 have CA:=alike_any k x o w hk h
 cases hal:alikeO k o with
 | false =>
  rw[hal] at CA
  rw[oppA_no hal]
  clear hR hk h hny
  generalize valN o=y at *
  show Calls _ _ _ _ fun e w'=>e=.returned .nilIface∧_
  go_enter func126,ntmps126
  go_wp2_with (go_at_call 167;refine CA.mono ?_;rintro e w1 ⟨rfl,hb1⟩)
  go_ret
  exact⟨rfl,hb1⟩
 | true =>
  rw[hal] at CA
  rw[hR hal]
  have CI:Hid (∀X,Below w.heap.size w X→Calls prog 66 #[valN o] X (inP X o)):=fun X hX=>inside_any o X (h.below hX)
  have hx:∃tx px,x=.iface tx px∧∀w,(Instr.typeAssert (.iface tx px) 90 219 true).run prog w=.ok (.tuple #[.pointer none,.bool false]) w:=by
   cases k with
   | txt=>obtain⟨b,rfl⟩:=hk;exact⟨_,_,rfl,nt_Node_Text_Keyed _⟩
   | el t=>obtain⟨b,rfl,_⟩:=hk;exact⟨_,_,rfl,nt_Node_Element_Keyed _⟩
   | ky t keys=>exact absurd rfl (hny t keys)
   | tg=>obtain⟨b,rfl⟩:=hk;exact⟨_,_,rfl,nt_Node_Tagged_Keyed _⟩
   | lz=>obtain⟨b,rfl⟩:=hk;exact⟨_,_,rfl,nt_Node_Lazy_Keyed _⟩
  obtain⟨tx,px,rfl,hta⟩:=hx
  generalize hkk:kidsO o=kk at *
  have INP:Hid (∀X e w',inP X o e w'→Below X.heap.size X w'∧∃ad cap,e=.returned (.slice ad kk.length cap)∧SegAt w' TT 90 1 (.slice ad kk.length cap) kk.length (kk.map An.val)):=fun X e w' h=>by
   unfold inP at h
   rw[hkk] at h
   exact h
  clear hR hk h hny hkk
  generalize valN o=y at *
  by_cases hlt:i<kk.length
  ·have hg:kk[i]?=some kk[i]:=List.getElem?_eq_getElem hlt
   rw[hg]
   obtain⟨tn,bn,hn⟩:=kk[i].val_iface
   have hmap:(kk.map An.val)[i]?=some (.iface tn (.pointer (some ⟨bn,0,none⟩))):=by
    rw[List.getElem?_map,hg,←hn]
    rfl
   show Calls _ _ _ _ fun e w'=>e=.returned (kk[i].val)∧_
   rw[hn]
   have hli:(i:Int)<((kk.length:Nat):Int):=by omega
   clear hn hg
   go_enter func126,ntmps126
   go_wp2_with (first
    |(go_at_call 167;refine CA.mono ?_;rintro e w1 ⟨rfl,hb1⟩)
    |(go_at_call 66;refine (CI.out _ ?_).mono ?_;(exact hb1);intro e w2 hin;obtain⟨hb2,ad,cap,rfl,hsg⟩:=INP.out _ _ _ hin;clear hin;obtain⟨g,o,rfl,hc1,hc2,hcell⟩:=seg_at hsg hlt;rw[hmap] at hcell;unfold maxLen at hc2;clear hsg))
   go_ret
   exact⟨rfl,hb1.trans (hb2.mono hb1.size)⟩
  ·have hg:kk[i]?=none:=List.getElem?_eq_none (by omega)
   rw[hg]
   show Calls _ _ _ _ fun e w'=>e=.returned .nilIface∧_
   have hli:¬ (i:Int)<((kk.length:Nat):Int):=by omega
   have hli2:((kk.length:Nat):Int)≤(i:Int):=by omega
   go_enter func126,ntmps126
   go_wp2_with (first
    |(go_at_call 167;refine CA.mono ?_;rintro e w1 ⟨rfl,hb1⟩)
    |(go_at_call 66;refine (CI.out _ ?_).mono ?_;(exact hb1);intro e w2 hin;obtain⟨hb2,ad,cap,rfl,hsg⟩:=INP.out _ _ _ hin;clear hin hsg))
   go_ret
   exact⟨rfl,hb1.trans (hb2.mono hb1.size)⟩
theorem idxI_keys (keys:List (List UInt8))(k:List UInt8):idxI (keys.map bsA) (bsA k)=match keys.findIdx? (k==·) with | some j=>(j:Int) | none=>-1:=by
 unfold idxI
 rw[List.findIdx?_map]
 have:(fun b:ByteArray=>(bsA k).toList==b.toList) ∘ bsA=(k==·):=by
  funext a
  exact bsA_eq k a
 rw[this]
 all_goals (cases keys.findIdx? (k==·)<;>rfl)
theorem opp_keyed (t:List UInt8)(keys:List (List UInt8))(x:Value)(o:Option An)(i:Nat)(w:World)(hk:KindAt w x (.ky t keys))(h:OAt w o)(hil:i<keys.length)(hi:keys.length≤100000)(hz:(kidsO o).length≤100000)(hz2:(keysA o).length≤100000):
  Calls prog 126 #[x,valN o,.int .i64 ((i:Nat):Int)] w fun e w'=>e=.returned (valN (oppA (.ky t keys) o i))∧Below w.heap.size w w':=by
 have CA:=alike_any _ x o w hk h
 cases hal:alikeO (.ky t keys) o with
 | false =>
  rw[hal] at CA
  rw[oppA_no hal]
  clear hk h
  generalize valN o=y at *
  show Calls _ _ _ _ fun e w'=>e=.returned .nilIface∧_
  go_enter func126,ntmps126
  go_wp2_with (go_at_call 167;refine CA.mono ?_;rintro e w1 ⟨rfl,hb1⟩)
  go_ret
  exact⟨rfl,hb1⟩
 | true =>
  rw[hal] at CA
  have HR:oppA (.ky t keys) o i=((keysA o).findIdx? (keys[i]==·)).bind fun j=>(kidsO o)[j]?:=by
   rcases o with _ | ⟨b2,m,s⟩ | ⟨b2,m,u,ats,hs,ks⟩ | ⟨b2,m,u,ats,hs,keys',ks⟩ | ⟨b2,f,n⟩ | ⟨b2,f,args,n⟩
   case some.ky =>
    have hal:(t==u)=true:=hal
    simp[oppA,hal,keysA,kidsO,List.getElem?_eq_getElem hil]
   all_goals cases hal
  rw[HR]
  have CI:Hid (∀X,Below w.heap.size w X→Calls prog 66 #[valN o] X (inP X o)):=fun X hX=>inside_any o X (h.below hX)
  have CK:Hid (∀X,Below w.heap.size w X→Calls prog 168 #[valN o] X _):=fun X hX=>keysOf_any o X (h.below hX)
  obtain⟨b,kv,rfl,c3,c7,hkv⟩:=hk
  obtain⟨g,o7,cap7,hkve,_,hm7a,hm7b,hkc⟩:=(SegAt.of_row hkv).cell (by simpa using (show 0<keys.length by omega))
  subst hkve
  have hck:w.cell? ⟨g,o7+i,none⟩=some (.string (bsA keys[i])):=by
   rw[hkc i (by simpa using hil)]
   simp[hil]
  have HX:=idxI_keys (keysA o) keys[i]
  generalize hkk:kidsO o=kk at *
  have INP:Hid (∀X e w',inP X o e w'→Below X.heap.size X w'∧∃ad cap,e=.returned (.slice ad kk.length cap)∧SegAt w' TT 90 1 (.slice ad kk.length cap) kk.length (kk.map An.val)):=fun X e w' h=>by
   unfold inP at h
   rw[hkk] at h
   exact h
  generalize keysA o=ky at *
  generalize keys[i]=key at *
  have CX:Hid (∀X kv,StrsAt X TT kv (ky.map bsA)→Calls prog 137 #[kv,.string (bsA key)] X _):=fun X kv hs=>index_at kv _ (bsA key) X TT hs (by simpa using hz2)
  rw[HX] at CX
  clear HX h hkk hkv hkc HR hal
  generalize valN o=y at *
  unfold maxLen at hm7b
  simp only[List.length_map] at *
  have c7':=c7
  have MID:Hid (∀X,Below w.heap.size w X→X.cell? ⟨g,o7+i,none⟩=some (.string (bsA key))∧X.cell? ⟨b,7,none⟩=some (.slice (some ⟨g,o7,none⟩) keys.length cap7)):=fun X hX=>⟨Below.cellv hX hck,Below.cellv hX c7'⟩
  have hil2:(i:Int)<((keys.length:Nat):Int):=by omega
  cases hf:ky.findIdx? (key==·) with
  | none =>
   rw[hf] at CX
   show Calls _ _ _ _ fun e w'=>e=.returned .nilIface∧_
   clear c3 c7 c7' hck
   go_enter func126,ntmps126
   go_wp2_with (go_at_call 167;refine CA.mono ?_;rintro e w1 ⟨rfl,hb1⟩;obtain⟨d1,d2⟩:=MID.out w1 hb1)
   go_region_with (first
    |(go_at_call 168;refine (CK.out _ ?_).mono ?_;(first | exact hb1 | exact hb1.drew);rintro e w2 ⟨kv2,rfl,hs2,rfl⟩;obtain⟨ka2,kc2,rfl⟩:=strs_slice hs2;rw[List.length_map] at hs2)
    |(go_at_call 137;refine (CX.out _ _ ?_).mono ?_;(exact hs2);rintro e w3 ⟨rfl,rfl⟩))
   all_goals (go_wp2_with (go_at_call 66;refine (CI.out _ ?_).mono ?_;(first | exact hb1 | exact hb1.drew);intro e w4 hin;obtain⟨hb4,ad,cap,rfl,hsg⟩:=INP.out _ _ _ hin;clear hin hsg))
   all_goals go_ret
   all_goals exact⟨rfl,by first | exact hb1.trans (hb4.mono hb1.size) | exact hb1.drew.trans (hb4.mono hb1.size)⟩
  | some j =>
   rw[hf] at CX
   have hjl:j<ky.length:=by
    have:=List.findIdx?_eq_some_iff_getElem.1 hf
    exact this.1
   show Calls _ _ _ _ fun e w'=>e=.returned (valN kk[j]?)∧_
   clear c3 c7 c7' hck
   by_cases hlt:j<kk.length
   ·have hg:kk[j]?=some kk[j]:=List.getElem?_eq_getElem hlt
    rw[hg]
    obtain⟨tn,bn,hn⟩:=kk[j].val_iface
    have hmap:(kk.map An.val)[j]?=some (.iface tn (.pointer (some ⟨bn,0,none⟩))):=by
     rw[List.getElem?_map,hg,←hn]
     rfl
    show Calls _ _ _ _ fun e w'=>e=.returned (kk[j].val)∧_
    rw[hn]
    have hli:(j:Int)<((kk.length:Nat):Int):=by omega
    clear hn hg
    go_enter func126,ntmps126
    go_wp2_with (go_at_call 167;refine CA.mono ?_;rintro e w1 ⟨rfl,hb1⟩;obtain⟨d1,d2⟩:=MID.out w1 hb1)
    go_region_with (first
     |(go_at_call 168;refine (CK.out _ ?_).mono ?_;(first | exact hb1 | exact hb1.drew);rintro e w2 ⟨kv2,rfl,hs2,rfl⟩;obtain⟨ka2,kc2,rfl⟩:=strs_slice hs2;rw[List.length_map] at hs2)
     |(go_at_call 137;refine (CX.out _ _ ?_).mono ?_;(exact hs2);rintro e w3 ⟨rfl,rfl⟩))
    all_goals (go_wp2_with (go_at_call 66;refine (CI.out _ ?_).mono ?_;(first | exact hb1 | exact hb1.drew);intro e w4 hin;obtain⟨hb4,ad,cap,rfl,hsg⟩:=INP.out _ _ _ hin;clear hin;obtain⟨g',o',rfl,hc1,hc2,hcell⟩:=seg_at hsg hlt;rw[hmap] at hcell;unfold maxLen at hc2;clear hsg))
    all_goals go_ret
    all_goals exact⟨rfl,by first | exact hb1.trans (hb4.mono hb1.size) | exact hb1.drew.trans (hb4.mono hb1.size)⟩
   ·have hg:kk[j]?=none:=List.getElem?_eq_none (by omega)
    rw[hg]
    show Calls _ _ _ _ fun e w'=>e=.returned .nilIface∧_
    have hli:¬ (j:Int)<((kk.length:Nat):Int):=by omega
    have hli2:((kk.length:Nat):Int)≤(j:Int):=by omega
    go_enter func126,ntmps126
    go_wp2_with (go_at_call 167;refine CA.mono ?_;rintro e w1 ⟨rfl,hb1⟩;obtain⟨d1,d2⟩:=MID.out w1 hb1)
    go_region_with (first
     |(go_at_call 168;refine (CK.out _ ?_).mono ?_;(first | exact hb1 | exact hb1.drew);rintro e w2 ⟨kv2,rfl,hs2,rfl⟩;obtain⟨ka2,kc2,rfl⟩:=strs_slice hs2;rw[List.length_map] at hs2)
     |(go_at_call 137;refine (CX.out _ _ ?_).mono ?_;(exact hs2);rintro e w3 ⟨rfl,rfl⟩))
    all_goals (go_wp2_with (go_at_call 66;refine (CI.out _ ?_).mono ?_;(first | exact hb1 | exact hb1.drew);intro e w4 hin;obtain⟨hb4,ad,cap,rfl,hsg⟩:=INP.out _ _ _ hin;clear hin hsg))
    all_goals go_ret
    all_goals exact⟨rfl,by first | exact hb1.trans (hb4.mono hb1.size) | exact hb1.drew.trans (hb4.mono hb1.size)⟩
end Go.Proofs.YtifhgjpglicjbaaGreatDoor
