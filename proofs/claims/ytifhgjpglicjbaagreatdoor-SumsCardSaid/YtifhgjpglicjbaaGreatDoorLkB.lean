/-
  The statements of stagehandkeep: Reckon, of a program that is known.
-/
import Derived.Test.YtifhgjpglicjbaaGreatDoorFtF
import Derived.Test.YtifhgjpglicjbaaGreatDoorShC
namespace Go.Proofs.YtifhgjpglicjbaaGreatDoor
open Go.Proofs.Tryz
open Go.RowKit Go.Lib
attribute [local go_sem ↓] Go.wp_at_zero Go.wp_at_succ
structure G0 (w:World)(E:Nat→Addr):Prop where
 er:Errs w E
 fl:FltG w
 nu:NumG w
 sz:15≤w.heap.size
theorem G0.below {w w':World}{E:Nat→Addr}(h:G0 w E)(hb:Below w.heap.size w w'):G0 w' E :=
 ⟨h.er.below hb,h.fl.below hb,h.nu.same fun q hq=>hb.block q (by have:=h.sz;omega),by have:=h.sz;have:=hb.size;omega⟩
def reckK (fns:List Fn)(nm:List UInt8)(args:List (List UInt8)):Option (List UInt8):=match readAllV args with
 | none=>none
 | some vs=>(reckP fns nm vs).map wrV
def rkP (w:World)(R:Option (List UInt8))(e:Ending)(w':World):Prop :=
 Below w.heap.size w w'∧((∃t,R=some t∧e=.returned (.tuple #[.string ⟨t.toArray⟩,.nilIface]))∨(R=none∧∃f,FltW f∧e=.returned (.tuple #[.string ⟨#[]⟩,f])))
theorem stReckon_known {w:World}{E:Nat→Addr}(G:G0 w E){s:ByteArray}{fns:List Fn}(L:Loads s.data.toList fns)(hs:s.size≤2000)(nb:ByteArray)(sv:Value)(bs:List ByteArray)(ha:ArgsAt w sv bs)(hbl:bs.length≤1000)(hbz:∀b∈bs,b.size≤1000000000):
  Calls prog 11 #[.string s,.string nb,sv] w (rkP w (reckK fns nb.data.toList (bs.map (·.data.toList)))):=by
 obtain⟨ts,rest,t1,t2,t3⟩:=L.ex
 have hsz:s.data.toList.length=s.size:=tl_size s
 rw[hsz] at t2
 refine (stReckon_any s nb sv bs w E G.er G.fl G.nu G.sz (by unfold maxLen;omega) (fun _=>t1) ha (by omega) (fun b hb=>by have:=hbz b hb;omega)).mono fun e w' ⟨hb,f,he,hf⟩=>⟨hb,?_⟩
 rw[reckR,t2,t3] at he hf
 unfold reckK
 simp only at he hf
 cases e1:readAllV (bs.map (·.data.toList)) with
 | none =>
  rw[e1] at he hf
  simp only at he hf
  right
  refine⟨rfl,f,?_,he⟩
  rcases hf with ⟨h,_⟩ | ⟨_,_,h⟩ | ⟨_,h,_⟩
  ·exact absurd h (by decide)
  ·exact h
  ·exact absurd h (by decide)
 | some vs =>
  rw[e1] at he hf
  simp only at he hf
  cases e2:reckP fns nb.data.toList vs with
  | none =>
   rw[e2] at he hf
   simp only at he hf
   right
   refine⟨by simp only[e2];rfl,f,?_,he⟩
   rcases hf with ⟨h,_⟩ | ⟨_,_,h⟩ | ⟨_,h,_⟩
   ·exact absurd h (by decide)
   ·exact h
   ·exact absurd h (by decide)
  | some v =>
   rw[e2] at he hf
   simp only at he hf
   left
   refine⟨wrV v,by simp only[e2];rfl,?_⟩
   rcases hf with ⟨_,_,h⟩ | ⟨h,_⟩ | ⟨h,_⟩
   ·rw[h] at he;exact he
   ·exact absurd h (by decide)
   ·exact absurd h (by decide)
theorem args_new (w:World)(l:List ByteArray)(hl:l.length≤1000)(hz:∀b∈l,b.size≤1000000000):ArgsAt (w.alloc (.cells (l.map Value.string).toArray 9)) (.slice (some ⟨w.heap.size,0,none⟩) l.length l.length) l:=by
 refine⟨_,_,rfl,Nat.le_refl _,by unfold maxLen;omega,fun b hb=>by have:=hz b hb;unfold maxLen;omega,fun i hi=>⟨w.heap.size,0,rfl,?_⟩⟩
 have hq:(w.alloc (.cells (l.map Value.string).toArray 9)).heap[w.heap.size]?=some (.cells (l.map Value.string).toArray 9):=heap_alloc_new _ _
 unfold World.cell?
 rw[hq]
 show (l.map Value.string).toArray[0+i]?=_
 rw[Nat.zero_add]
 simp[hi]
theorem reckon_new {w:World}{E:Nat→Addr}(G:G0 w E){s:ByteArray}{fns:List Fn}(L:Loads s.data.toList fns)(hs:s.size≤2000)(nb:ByteArray)(l:List ByteArray)(hl:l.length≤1000)(hz:∀b∈l,b.size≤1000000000):
  Calls prog 11 #[.string s,.string nb,.slice (some ⟨w.heap.size,0,none⟩) l.length l.length] (w.alloc (.cells (l.map Value.string).toArray 9)) (rkP w (reckK fns nb.data.toList (l.map (·.data.toList)))):=by
 have b1:=below1 w (.cells (l.map Value.string).toArray 9)
 refine (stReckon_known (G.below b1) L hs nb _ l (args_new w l hl hz) hl hz).mono fun e w' ⟨hb,h⟩=>⟨b1.trans (hb.mono b1.size),h⟩
theorem readAll2 {a b:List UInt8}{u v:PV}(h1:readV a=some u)(h2:readV b=some v):readAllV [a,b]=some [u,v]:=by
 simp[readAllV,h1,h2]
end Go.Proofs.YtifhgjpglicjbaaGreatDoor
namespace Go.Proofs.YtifhgjpglicjbaaGreatDoor
open Go.Proofs.Tryz
open Go.Lib
def bkL:List UInt8:=[40,102,117,110,32,105,110,105,116,32,40,41,32,48,41,32,40,102,117,110,32,117,112,100,97,116,101,32,40,109,32,110,41,32,110,41,32,40,102,117,110,32,118,105,101,119,32,40,110,41,32,110,41,32,40,102,117,110,32,115,97,109,101,32,40,120,32,121,41,32,40,108,105,115,116,32,40,101,113,32,120,32,121,41,32,120,41,41]
def bkF:List Fn:=[⟨[105,110,105,116],5,[],.num [48]⟩,
 ⟨[117,112,100,97,116,101],21,[([109],29),([110],31)],.var [110] 34⟩,
 ⟨[118,105,101,119],42,[([110],48)],.var [110] 51⟩,
 ⟨[115,97,109,101],59,[([120],65),([121],67)],.form [108,105,115,116] [] 71 [.form [101,113] [] 77 [.var [120] 80,.var [121] 82],.var [120] 85]⟩]
theorem bk_load:loadF bkL=some bkF:=by kernel_rfl
theorem bk_loads:Loads bkL bkF:=loads_of bk_load (by decide +kernel)
def sameN:List UInt8:=[115,97,109,101]
theorem bk_same (u v:PV):reckP bkF sameN [u,v]=(lightL (some ([bitV (sameV u v),u],19995))).map (·.1):=by kernel_rfl
theorem bk_val (u v:PV):reckP bkF sameN [u,v]=if wtV u≤598 then some (.lst [bitV (sameV u v),u]) else none:=by
 rw[bk_same]
 unfold lightL
 have e:wtV (.lst [bitV (sameV u v),u])=2+wtV u:=by
  rw[wtV,wtVs,wtVs,wtVs,bitV,wtV]
  omega
 simp only[e]
 by_cases h:wtV u≤598
 ·rw[if_pos h,if_pos (by omega)];rfl
 ·rw[if_neg h,if_neg (by omega)];rfl
theorem itoa_0:itoa 0=[48]:=by decide +kernel
theorem itoa_1:itoa 1=[49]:=by decide +kernel
theorem bk_wr (b:Bool)(u:PV):wrV (.lst [bitV b,u])=[40,if b then 49 else 48,32]++wrV u++[41]:=by
 have e:wrV (bitV b)=[if b then 49 else 48]:=by
  cases b
  ·show wrV (.num 0)=_
   rw[wrV,itoa_0]
   rfl
  ·show wrV (.num 1)=_
   rw[wrV,itoa_1]
   rfl
 rw[wrV,wrVs,wrT,wrT,e]
 simp
structure BkV (v:PV):Prop where
 ok:okV v
 qt:quotV v
 wt:wtV v≤421
theorem bk_first {v:PV}(h:BkV v):reckK bkF sameN [wrV v,wrV v]=some ([40,49,32]++wrV v++[41]):=by
 have hw:=h.wt
 have r:=readV_wr h.ok h.qt (by omega)
 unfold reckK
 rw[readAll2 r r]
 simp only
 rw[bk_val,if_pos (by omega),sameV_refl]
 show some (wrV (.lst [bitV true,v]))=_
 rw[bk_wr]
 rfl
theorem readAll_bad1 {a b:List UInt8}(h:readV a=none):readAllV [a,b]=none:=by simp[readAllV,h]
theorem readAll_bad2 {a b:List UInt8}(h:readV b=none):readAllV [a,b]=none:=by
 cases e:readV a<;>simp[readAllV,e,h]
theorem reckK_bad {fns:List Fn}{nm:List UInt8}{l:List (List UInt8)}(h:readAllV l=none):reckK fns nm l=none:=by unfold reckK;rw[h]
theorem bk_one (v:PV):reckK bkF sameN [wrV v,32::wrV v]=none:=reckK_bad (readAll_bad2 (readV_blank v))
theorem bk_two {v:PV}(h:BkV v):reckK bkF sameN [wrV v++[41],wrV v]=none:=reckK_bad (readAll_bad1 (readV_more h.ok h.qt rfl))
theorem bk_three {v:PV}(h:BkV v):reckK bkF sameN [wrV v,40::wrV v]=none:=reckK_bad (readAll_bad2 (readV_open h.ok h.qt))
theorem bk_four {v:PV}(h:BkV v):reckK bkF sameN [wrV v++[32],wrV v]=none:=reckK_bad (readAll_bad1 (readV_more h.ok h.qt rfl))
theorem bk_five {v:PV}(h:BkV v){l:List UInt8}(hl:l.length=(wrV v).length+2):reckK bkF sameN [l,wrV v]=none∨∃r,reckK bkF sameN [l,wrV v]=some ([40,48,32]++(l++r))∧r.length≤1:=by
 have hw:=h.wt
 have r:=readV_wr h.ok h.qt (by omega)
 cases e:readV l with
 | none=>exact Or.inl (reckK_bad (readAll_bad1 e))
 | some u =>
  obtain⟨h1,h2,h3⟩:=readV_some e
  have hne:sameV u v=false:=by
   cases es:sameV u v with
   | false=>rfl
   | true =>
    have:=sameV_eq u v es
    rw[h1,this] at hl
    omega
  unfold reckK
  rw[readAll2 e r]
  simp only
  rw[bk_val,hne]
  by_cases hu:wtV u≤598
  ·right
   rw[if_pos hu]
   refine⟨[41],?_,by simp⟩
   show some (wrV (.lst [bitV false,u]))=_
   rw[bk_wr,h1]
   simp
  ·left
   rw[if_neg hu]
   rfl
end Go.Proofs.YtifhgjpglicjbaaGreatDoor
