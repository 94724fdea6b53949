/-
  A copy of a text.
-/
import Derived.Test.YtliapghpeoaonaaGreatDoorRows
import Derived.Shelf.Pu.Clone
import Derived.WalkKit
import Derived.WalkSmall
import Derived.Test.YtliapghpeoaonaaGreatDoorNamK
import Derived.Test.YtliapghpeoaonaaGreatDoorVal
set_option maxHeartbeats 2000000
namespace Go.Proofs.YtliapghpeoaonaaGreatDoor
open Go.Proofs.Tryz
open Go.RowKit Go.Shelf
def renC:Ren:=⟨fun k=>if k=25 then 135 else 0,fun k=>if k=3 then 3 else if k=4 then 4 else if k=5 then 5 else if k=9 then 9 else if k=37 then 153 else if k=47 then 234 else 0,fun _=>0⟩
theorem laysC:LaysPu.n25 prog renC:=by
 constructor
 all_goals first | kernel_rfl | (intro w;kernel_rfl)
theorem Zt6 (s:ByteArray)(w:World)(hs:s.size≤281474976710656):
  Calls prog 86 #[.string s] w fun e w'=>e=.returned (.string s)∧Below w.heap.size w w':=by
 have c:Calls prog 135 #[.string s] w fun e w'=>e=.returned (.string s)∧Below w.heap.size w w':=AnyPu.stringslite_Clone laysC s w hs
 go_enter func86,ntmps86
 go_wp2_with (go_at_call 135;refine c.mono ?_;rintro e w' ⟨rfl,hb⟩)
 go_ret
 exact⟨rfl,hb⟩
end Go.Proofs.YtliapghpeoaonaaGreatDoor
namespace Go.Proofs.YtliapghpeoaonaaGreatDoor
open Go.Proofs.Tryz
theorem Ze4 {α:Type}{r ts:List α}(t:α)(h:r <:+ ts):r <:+ t::ts:=h.trans (List.suffix_cons t ts)
theorem pF_sz {L:Nat→Int→List Tok→Res (List Ex)}(hL:∀d m ts es r,L d m ts=.ok es r→Zes es+2*r.length+2≤2*ts.length∧r <:+ ts){d:Nat}{ts:List Tok}{e:Ex}{r:List Tok}(h:pF L d ts=.ok e r):szE e+1+2*r.length≤2*ts.length∧r <:+ ts:=by
 cases ts with
 | nil=>cases h
 | cons t ts =>
  simp only[pF] at h
  split at h
  ·cases h
  ·rename_i n _
   cases g:L d n ts with
   | err c a=>rw[g] at h;cases h
   | ok ks r' =>
    rw[g] at h
    cases h
    obtain⟨h1,h2⟩:=hL _ _ _ _ _ g
    refine⟨?_,Ze4 t h2⟩
    simp[szE];omega
  ·rename_i n _
   cases ts with
   | nil=>cases h
   | cons u us =>
    simp only at h
    split at h
    ·cases g:L d n us with
     | err c a=>rw[g] at h;cases h
     | ok ks r' =>
      rw[g] at h
      cases h
      obtain⟨h1,h2⟩:=hL _ _ _ _ _ g
      refine⟨?_,Ze4 t (Ze4 u h2)⟩
      simp[szE];omega
    ·cases h
theorem pE_sz {L:Nat→Int→List Tok→Res (List Ex)}(hL:∀d m ts es r,L d m ts=.ok es r→Zes es+2*r.length+2≤2*ts.length∧r <:+ ts){d:Nat}{ts:List Tok}{e:Ex}{r:List Tok}(h:pE L d ts=.ok e r):szE e+1+2*r.length≤2*ts.length∧r <:+ ts:=by
 cases ts with
 | nil=>cases h
 | cons t ts =>
  simp only[pE] at h
  split at h
  ·cases h;exact⟨by simp[szE];omega,List.suffix_cons _ _⟩
  ·cases h;exact⟨by simp[szE];omega,List.suffix_cons _ _⟩
  ·split at h
   ·cases h
   ·cases h;exact⟨by simp[szE];omega,List.suffix_cons _ _⟩
  ·split at h
   ·cases h
   ·obtain⟨h1,h2⟩:=pF_sz hL h
    refine⟨?_,Ze4 t h2⟩
    simp;omega
  ·cases h
theorem pL_sz:∀(f d:Nat) (m:Int) (ts:List Tok) (es:List Ex) (r:List Tok),pL f d m ts=.ok es r→Zes es+2*r.length+2≤2*ts.length∧r <:+ ts
 | 0,_,_,_,_,_,h=>by cases h
 | f+1,_,_,[],_,_,h=>by cases h
 | f+1,d,m,t::ts,es,r,h=>by
  simp only[pL] at h
  split at h
  ·split at h
   ·cases h;exact⟨by simp[Zes];omega,List.suffix_cons _ _⟩
   ·cases h
  ·cases g:pE (pL f) d (t::ts) with
   | err c a=>rw[g] at h;cases h
   | ok e r' =>
    rw[g] at h
    obtain⟨h1,h2⟩:=pE_sz (fun d m ts es r=>pL_sz f d m ts es r) g
    cases g2:pL f d (if m<0 then m else m-1) r' with
    | err c a=>simp only[g2,Zgh] at h;cases h
    | ok es' r'' =>
     simp only[g2,Zgh] at h
     cases h
     obtain⟨h3,h4⟩:=pL_sz f _ _ _ _ _ g2
     refine⟨?_,h4.trans h2⟩
     simp only[Zes]
     omega
theorem pP_sz:∀(ts:List Tok) (ns:List (List UInt8×Nat)) (r:List Tok),pP ts=.ok ns r→ns.length+r.length+1≤ts.length∧r <:+ ts
 | [],_,_,h=>by cases h
 | t::ts,ns,r,h=>by
  simp only[pP] at h
  split at h
  ·cases h;exact⟨by simp,List.suffix_cons _ _⟩
  ·split at h
   ·cases g:pP ts with
    | err c a=>simp only[g,Zig] at h;cases h
    | ok ns' r' =>
     simp only[g,Zig] at h
     cases h
     obtain⟨h1,h2⟩:=pP_sz ts _ _ g
     refine⟨?_,Ze4 t h2⟩
     simp;omega
   ·cases h
theorem pFun_sz {g:Nat}{ts:List Tok}{fn:Fn}{r:List Tok}(h:Zfd g ts=.ok fn r):fn.params.length+szE fn.body≤3*ts.length∧r <:+ ts∧∃t∈ts,fn.name=t.body:=by
 match ts,h with
 | t::u::n::o::ts,h =>
  simp only[Zfd] at h
  split at h
  ·cases h
  split at h
  ·cases h
  split at h
  ·cases h
  split at h
  ·cases h
  cases e:pP ts with
  | err c a=>rw[e] at h;cases h
  | ok ns r1 =>
   rw[e] at h
   simp only[Zdy] at h
   obtain⟨h1,h2⟩:=pP_sz _ _ _ e
   cases e2:pL g 1 1 r1 with
   | err c a=>rw[e2] at h;cases h
   | ok es r2 =>
    rw[e2] at h
    obtain⟨h3,h4⟩:=pL_sz _ _ _ _ _ _ e2
    cases es with
    | nil=>cases h
    | cons b l =>
     cases h
     refine⟨?_,Ze4 _ (Ze4 _ (Ze4 _ (Ze4 _ (h4.trans h2)))),n,by simp,rfl⟩
     simp only[Zes] at h3
     simp
     omega
 | [t,u,n],h =>
  simp only[Zfd] at h
  split at h
  ·cases h
  split at h<;>cases h
 | [t,u],h =>
  simp only[Zfd] at h
  split at h<;>cases h
 | [t],h=>cases h
 | [],h=>cases h
theorem Zq4:∀(f:Nat) (ts:List Tok) (fns:List Fn) (r:List Tok),Zb7 f ts=.ok fns r→fns.length≤ts.length∧∀fn∈fns,fn.params.length+szE fn.body≤3*ts.length∧∃t∈ts,fn.name=t.body
 | 0,_,_,_,h=>by cases h
 | f+1,[],_,_,h=>by cases h
 | f+1,t::ts,fns,r,h=>by
  simp only[Zb7] at h
  split at h
  ·cases h;exact⟨by simp,fun fn hf=>by simp at hf⟩
  ·cases g:Zfd (f+1) (t::ts) with
   | err c a=>rw[g] at h;cases h
   | ok fn r' =>
    rw[g] at h
    obtain⟨h1,h2,h3⟩:=pFun_sz g
    have h0:=Zwr g
    cases g2:Zb7 f r' with
    | err c a=>simp only[g2,Zk8] at h;cases h
    | ok fns' r'' =>
     simp only[g2,Zk8] at h
     cases h
     obtain⟨h4,h5⟩:=Zq4 f _ _ _ g2
     refine⟨by simp at h0 ⊢;omega,fun x hx=>?_⟩
     rcases List.mem_cons.1 hx with e | hx
     ·subst e;exact⟨h1,h3⟩
     ·obtain⟨h6,t',ht,e⟩:=h5 x hx
      exact⟨by omega,t',h2.subset ht,e⟩
theorem Zlu (s:List UInt8)(p:Nat):(Zah s p).body.length≤s.length:=by
 simp only[Zah,List.length_take,List.length_drop]
 omega
theorem Za4.bodies {s:List UInt8}{p:Nat}{ts:List Tok}(h:Za4 s p ts):∀t∈ts,t.body.length≤s.length:=by
 induction h with
 | last _=>intro t ht;simp at ht;subst ht;exact Zlu _ _
 | more _ _ _ ih =>
  intro t ht
  rcases List.mem_cons.1 ht with e | ht
  ·subst e;exact Zlu _ _
  ·exact ih t ht
theorem small_of {s:List UInt8}{ts:List Tok}(hts:Za4 s 0 ts)(hs:s.length≤2000){fns:List Fn}{r:List Tok}{f:Nat}(h:Zb7 f ts=.ok fns r)(hl:ts.length≤s.length+1):(∀fn∈fns,fn.small)∧fns.length≤2001:=by
 obtain⟨h1,h2⟩:=Zq4 f ts fns r h
 refine⟨fun fn hf=>?_,by omega⟩
 obtain⟨h3,t,ht,e⟩:=h2 fn hf
 have:=hts.bodies t ht
 exact⟨by rw[e];omega,by omega⟩
end Go.Proofs.YtliapghpeoaonaaGreatDoor
namespace Go.Proofs.YtliapghpeoaonaaGreatDoor
open Go.Proofs.Tryz
open Go.RowKit Go.Maps
attribute [local go_sem ↓] Go.wp_at_zero Go.wp_at_succ
structure Errs (w:World)(E:Nat→Addr):Prop where
 e1:w.cell? ⟨2,0,none⟩=some (Za8 (E 1))
 e2:w.cell? ⟨3,0,none⟩=some (Za8 (E 2))
 e3:w.cell? ⟨4,0,none⟩=some (Za8 (E 3))
 e4:w.cell? ⟨5,0,none⟩=some (Za8 (E 4))
 e5:w.cell? ⟨6,0,none⟩=some (Za8 (E 5))
 e6:w.cell? ⟨7,0,none⟩=some (Za8 (E 6))
 e7:w.cell? ⟨8,0,none⟩=some (Za8 (E 7))
theorem Errs.below {w w':World}{E:Nat→Addr}(h:Errs w E)(hb:Below w.heap.size w w'):Errs w' E:=⟨Below.cellv hb h.e1,Below.cellv hb h.e2,Below.cellv hb h.e3,Below.cellv hb h.e4,Below.cellv hb h.e5,Below.cellv hb h.e6,Below.cellv hb h.e7⟩
def ansV (o:Option (Nat×Nat))(E:Nat→Addr):Value :=
 match o with
 | none=>.nilIface
 | some (c,p)=>Za2 p (E c)
theorem Zbu.lens {w:World}{D:Nat→Prop}:∀{xs:List FnV} {fns:List Fn},Zbu w D xs fns→(∀fn∈fns,fn.small)→Zg6 xs (fns.map (·.params.length))
 | [],fns,h,_=>by rw[show fns=[] from h];rfl
 | x::xs,fns,h,hs=>by
  obtain⟨fn,r,rfl,⟨_,_,⟨ps,hps,hpr⟩,_⟩,h3⟩:=h
  have hl:ps.length=fn.params.length:=by rw[←hps];simp[Zas]
  have hsm:=hs fn (by simp)
  refine⟨fn.params.length,r.map (·.params.length),rfl,⟨by have:=hsm.2;omega,?_⟩,Zbu.lens h3 fun f hf=>hs f (by simp[hf])⟩
  rw[←hl]
  rcases hpr.2 with ⟨g1,g2⟩ | ⟨_,_,_,hv,_⟩
  ·exact⟨_,_,by rw[g1,g2]⟩
  ·exact⟨_,_,hv⟩
theorem Zh8 {w:World}{D:Nat→Prop}(wd:ByteArray)(k:Nat):∀{xs:List FnV} {fns:List Fn},Zbu w D xs fns→Zeq wd k (Zcr xs (fns.map (·.params.length)))=Zzu wd.data.toList k fns
 | [],fns,h=>by rw[show fns=[] from h];rfl
 | x::xs,fns,h=>by
  obtain⟨fn,r,rfl,⟨h1,_⟩,h3⟩:=h
  have:=Zh8 wd k h3
  simp only[Zeq,Zzu,Zcr,List.map_cons,List.zip_cons_cons,List.any_cons] at this ⊢
  rw[this,Zjo,ByteArray.toList_eq,ByteArray.toList_eq,h1]
theorem Zyw {w:World}{D:Nat→Prop}{xs:List FnV}{fns:List Fn}(h:Zbu w D xs fns):Ztm (Zcr xs (fns.map (·.params.length)))=Zyv fns:=by
 rw[Ztm,Zyv,Zh8 _ _ h,Zh8 _ _ h,Zh8 _ _ h]
theorem Zbu.ifs {w:World}{D:Nat→Prop}:∀{xs:List FnV} {fns:List Fn},Zbu w D xs fns→∀x∈xs,∃t y,x.bv=Value.iface t y
 | [],fns,_,x,hx=>by cases hx
 | y::xs,fns,h,x,hx=>by
  obtain⟨fn,r,rfl,⟨_,_,_,hb⟩,h3⟩:=h
  rcases List.mem_cons.1 hx with rfl | hx
  ·exact hb.iface
  ·exact Zbu.ifs h3 x hx
structure Res1 (X:World)(b:Nat):Prop where
 c0:X.cell? ⟨b,0,none⟩=some (.slice none 0 0)
 f0:X.frozen? ⟨b,0,none⟩=false
theorem Res1.new (w:World):Res1 (w.alloc (Obj.cells #[.slice none 0 0] 79)) w.heap.size:=by
 have h:(w.alloc (Obj.cells #[.slice none 0 0] 79)).heap[w.heap.size]?=some (.cells #[.slice none 0 0] 79):=heap_alloc_new _ _
 constructor
 ·unfold World.cell?;rw[h];rfl
 ·unfold World.frozen?;rw[h];rfl
theorem Res1.below {X Y:World}{b:Nat}(h:Res1 X b)(hb:Below X.heap.size X Y):Res1 Y b:=by
 have hl:=Zae h.c0
 exact⟨Below.cellv hb h.c0,by rw[hb.frozen hl];exact h.f0⟩
theorem Z1s (w:World)(x:Value)(t:TypeId):(w.alloc (.cells #[x] t)).cell? ⟨w.heap.size,0,none⟩=some x:=by
 have h:(w.alloc (Obj.cells #[x] t)).heap[w.heap.size]?=some (.cells #[x] t):=heap_alloc_new _ _
 unfold World.cell?;rw[h];rfl
def Zfs (w:World)(D:Nat→Prop)(v:Value)(fns:List Fn):Prop:=∃xs:List FnV,Zao w D 143 4 v xs.length (Zcs xs)∧Zbu w D xs fns∧xs.length≤100000∧∀fn∈fns,fn.small
theorem Zfs.keep {w w':World}{D:Nat→Prop}{v:Value}{fns:List Fn}(h:Zfs w D v fns)(hS:Z33 D w w'):Zfs w' (fun k=>D k∧k<w.heap.size) v fns:=by
 obtain⟨xs,h1,h2,h3,h4⟩:=h
 exact⟨xs,h1.keep hS,h2.keep hS,h3,h4⟩
theorem Zfs.weaken {w:World}{D D':Nat→Prop}{v:Value}{fns:List Fn}(h:Zfs w D v fns)(hD:∀k,D k→D' k):Zfs w D' v fns:=by
 obtain⟨xs,h1,h2,h3,h4⟩:=h
 exact⟨xs,h1.weaken hD,h2.weaken hD,h3,h4⟩
theorem Zfs.below {w w':World}{D:Nat→Prop}{v:Value}{fns:List Fn}(h:Zfs w D v fns)(hb:Below w.heap.size w w'):Zfs w' D v fns:=(h.keep fun k _ hlt=>hb.block k hlt).weaken fun _ hk=>hk.1
def Zdt (w:World)(n:Nat)(ts:List Tok)(E:Nat→Addr)(e:Ending)(w':World):Prop :=
 (∃ad m cap,e=.returned (.tuple #[.agg #[.slice ad m cap],ansV (Zbx n ts) E])∧(∀fns rest,Zb7 (ts.length+1) ts=.ok fns rest→Zbx n ts=none→Zfs w' (w.heap.size≤·) (.slice ad m cap) fns))∧Below w.heap.size w w'
theorem Zml {w w':World}{n:Nat}{ts:List Tok}{E:Nat→Addr}{v:Value}{c p:Nat}(h:Zbx n ts=some (c,p))(hv:v=Za2 p (E c))(hb:Below w.heap.size w w'):Zdt w n ts E (.returned (.tuple #[.agg #[.slice none 0 0],v])) w':=by
 refine⟨⟨none,0,0,by rw[h,hv];rfl,fun _ _ _ h2=>?_⟩,hb⟩
 rw[h] at h2
 cases h2
theorem Zwj (s:ByteArray)(w:World)(E:Nat→Addr)(hE:Errs w E)(h15:15≤w.heap.size)(hs:s.size≤maxLen){ts:List Tok}(hts:s.size≤2000→Za4 s.data.toList 0 ts):
  Calls prog 54 #[.string s] w (Zdt w s.size ts E):=by
 unfold maxLen at hs
 have r1:=Res1.new w
 have bX:=Zab w (Obj.cells #[.slice none 0 0] 79)
 have hXs:(w.alloc (Obj.cells #[.slice none 0 0] 79)).heap.size=w.heap.size+1:=by simp
 by_cases hl:2000<s.size
 ·have e:Zbx s.size ts=some (1,0):=by simp[Zbx,hl]
  have RB:Hid (∀w',Below w.heap.size w w'→Zdt w s.size ts E (.returned (.tuple #[.agg #[.slice none 0 0],Za2 0 (E 1)])) w'):=fun w' hb=>Zml e rfl hb
  have c1:=(hE.below bX).e1
  obtain⟨c0,f0⟩:=r1
  clear hE hts e
  generalize Zdt w s.size ts E=Q at *
  go_enter func54,ntmps54
  go_wp2
  go_region
  all_goals (try go_wp2)
  all_goals refine bodyPost_ret (v:=.tuple #[.agg #[.slice none 0 0],Za2 0 (E 1)]) (by simp[results,results54,go_sem,c0]) rfl (RB.out _ ?_)
  all_goals first
   | exact bX.setCell (p:=⟨w.heap.size,0,none⟩) (Nat.le_refl _) _
   | exact (bX.setCell (p:=⟨w.heap.size,0,none⟩) (Nat.le_refl _) _).drew
   | exact bX.drew
 ·have hX15:15≤(w.alloc (Obj.cells #[.slice none 0 0] 79)).heap.size:=by omega
  have hEX:=hE.below bX
  have ht:=hts (by omega)
  have hA:Zbx s.size ts=chk s.size (Zb7 (ts.length+1) ts):=by simp[Zbx,hl]
  have pc:=Zt6 s (w.alloc (Obj.cells #[.slice none 0 0] 79)) (by omega)
  have pa:=fun w1 (hb:Below (w.alloc (Obj.cells #[.slice none 0 0] 79)).heap.size (w.alloc (Obj.cells #[.slice none 0 0] 79)) w1)=>Z00 s w1 (E 2) (E 3) (by omega) (hEX.below hb).e2 (hEX.below hb).e3 (Nat.le_trans hX15 hb.size) ht
  have hlen:=ht.len (by omega)
  rw[Zax] at hlen
  have hsd:s.data.toList.length≤2000:=by rw[Zax];omega
  cases hP:Zb7 (ts.length+1) ts with
  | err c a =>
   rw[hP] at hA
   simp only[hP] at pa
   have RB:Hid (∀w',Below w.heap.size w w'→Zdt w s.size ts E (.returned (.tuple #[.agg #[.slice none 0 0],Za2 a (Zi8 c (E 2) (E 3))])) w'):=fun w' hb=>Zml hA (by
    simp only[Z26,Zi8]
    split<;>rfl) hb
   have pa2:∀w1,Below (w.alloc (Obj.cells #[.slice none 0 0] 79)).heap.size (w.alloc (Obj.cells #[.slice none 0 0] 79)) w1→Calls prog 92 #[.string s] w1 fun e w'=>e=.returned (.tuple #[.slice none 0 0,Za2 a (Zi8 c (E 2) (E 3))])∧Below w1.heap.size w1 w':=fun w1 hb=>(pa w1 hb).mono fun e w' h=>⟨h.2,h.1⟩
   clear pa hP hA hlen ht hts hE hEX
   generalize Zi8 c (E 2) (E 3)=aE at *
   generalize Zdt w s.size ts E=Q at *
   go_enter func54,ntmps54
   go_wp2_with (first
    |(go_at_call 92;refine (pa2 w0 hb0).mono ?_;rintro e w1 ⟨rfl,hb1⟩;obtain⟨c0,f0⟩:=(r1.below hb0).below hb1;have bb1:=bb0.trans (hb1.mono bb0.size))
    |(go_at_call 86;refine pc.mono ?_;rintro e w0 ⟨rfl,hb0⟩;have bb0:=bX.trans (hb0.mono bX.size)))
   exact bodyPost_ret (v:=.tuple #[.agg #[.slice none 0 0],Za2 a aE]) (by simp[results,results54,go_sem,c0]) rfl (RB.out _ (bb1.setCell (p:=⟨w.heap.size,0,none⟩) (Nat.le_refl _) _))
  | ok fns rest =>
   rw[hP] at hA
   simp only[hP] at pa
   obtain⟨hsm,hfl⟩:=small_of ht hsd hP (by rw[Zax];omega)
   have pa2:∀w1,Below (w.alloc (Obj.cells #[.slice none 0 0] 79)).heap.size (w.alloc (Obj.cells #[.slice none 0 0] 79)) w1→Calls prog 92 #[.string s] w1 fun e w'=>(∃v xs,e=.returned (.tuple #[v,.nilIface])∧Zao w' (w.heap.size+1≤·) 143 4 v xs.length (Zcs xs)∧Zbu w' (w.heap.size+1≤·) xs fns)∧Below w1.heap.size w1 w':=fun w1 hb=>(pa w1 hb).mono fun e w' h=>⟨by
    obtain⟨v,xs,h1,h2,h3⟩:=h.2
    have hz:=hb.size
    rw[hXs] at hz
    exact⟨v,xs,h1,h2.weaken fun k hk=>by omega,h3.weaken fun k hk=>by omega⟩,h.1⟩
   have cn:=fun v xs w' hr hF hN hl=>Zo9 v xs fns w' (w.heap.size+1≤·) (E 4) (E 6) (E 5) hr hF hN hsm hl
   clear pa hlen ht hts hE
   cases hM:Zdr [] fns with
   | some x =>
    obtain⟨c,p⟩:=x
    rw[hM] at cn
    have e:Zbx s.size ts=some (Zrz c,p):=by rw[hA];simp only[chk,hM]
    have e2:Zgn (some (c,p)) (E 4) (E 6) (E 5)=Za2 p (E (Zrz c)):=by
     simp only[Zgn,Zrz]
     split
     ·rfl
     ·split<;>rfl
    rw[e2] at cn
    have RB:Hid (∀w',Below w.heap.size w w'→Zdt w s.size ts E (.returned (.tuple #[.agg #[.slice none 0 0],Za2 p (E (Zrz c))])) w'):=fun w' hb=>Zml e rfl hb
    clear e e2 hM hA hP
    generalize E (Zrz c)=aE at *
    generalize Zdt w s.size ts E=Q at *
    go_enter func54,ntmps54
    go_wp2_with (first
     |(go_at_call 93;refine (cn v xs w1 hr1 hF1 hN1 hl1).mono ?_;rintro e w2 ⟨rfl,hb2⟩;obtain⟨c0,f0⟩:=r2.below hb2;have bb2:=bb1.trans (hb2.mono bb1.size))
     |(go_at_call 92;refine (pa2 w0 hb0).mono ?_;rintro e w1 ⟨⟨v,xs,rfl,hr1,hF1⟩,hb1⟩;have r2:=(r1.below hb0).below hb1;have bb1:=bb0.trans (hb1.mono bb0.size);have hE1:=(hEX.below hb0).below hb1;have hN1:Zgl w1 (E 4) (E 6) (E 5):=⟨hE1.e4,hE1.e6,hE1.e5⟩;have hl1:xs.length≤100000:=by rw[hF1.length];omega)
     |(go_at_call 86;refine pc.mono ?_;rintro e w0 ⟨rfl,hb0⟩;have bb0:=bX.trans (hb0.mono bX.size)))
    exact bodyPost_ret (v:=.tuple #[.agg #[.slice none 0 0],Za2 p aE]) (by simp[results,results54,go_sem,c0]) rfl (RB.out _ (bb2.setCell (p:=⟨w.heap.size,0,none⟩) (Nat.le_refl _) _))
   | none =>
    rw[hM,show Zgn none (E 4) (E 6) (E 5)=.nilIface from rfl] at cn
    have cm2:∀ad n cap xs w' w2,Zao w' (w.heap.size+1≤·) 143 4 (.slice ad n cap) xs.length (Zcs xs)→Zbu w' (w.heap.size+1≤·) xs fns→Below w'.heap.size w' w2→xs.length≤100000→Calls prog 94 #[.agg #[.slice ad n cap]] w2 fun e w'=>e=.returned (.bool (Zyv fns))∧Below w2.heap.size w2 w':=fun ad n cap xs w' w2 hr hF hb hl=>by
     have:=Zvq ad n cap xs _ w2 _ hF.ifs (Zai hr hb) (hF.lens hsm) hl
     rw[Zyw hF] at this
     exact this
    cases hm:Zyv fns with
    | true =>
     have e:Zbx s.size ts=none:=by rw[hA];simp only[chk,hM,hm,if_true]
     have RG:Hid (∀(ad:Option Addr) (n cap:Nat) (xs:List FnV) (w1 w':World),Zao w1 (w.heap.size+1≤·) 143 4 (.slice ad n cap) xs.length (Zcs xs)→Zbu w1 (w.heap.size+1≤·) xs fns→xs.length≤100000→Zaa (·=w.heap.size) w1 w'→Below w.heap.size w w'→Zdt w s.size ts E (.returned (.tuple #[.agg #[.slice ad n cap],.nilIface])) w'):=by
      intro ad n cap xs w1 w' h1 h2 h3 h4 h5
      refine⟨⟨ad,n,cap,by rw[e];rfl,fun fns2 rest2 g1 _=>?_⟩,h5⟩
      rw[hP] at g1
      cases g1
      have hS:Z33 (w.heap.size+1≤·) w1 w':=fun k hk hlt=>h4.block k hlt (by omega)
      exact⟨xs,(h1.keep hS).weaken fun k hk=>by have:=hk.1;omega,(h2.keep hS).weaken fun k hk=>by have:=hk.1;omega,h3,hsm⟩
     rw[hm] at cm2
     clear e hM hm hA hP
     generalize Zdt w s.size ts E=Q at *
     go_enter func54,ntmps54
     go_wp2_with (first
      |(go_at_call 94;refine (cm2 _ _ _ xs w1 _ hr1 hF1 (hb2.alloc hb2.size _) hl1).mono ?_;rintro e w3 ⟨rfl,hb3⟩;obtain⟨c0,f0⟩:=(r3.below (Zab _ _)).below hb3;have m7:=Below.cellv hb3 (Z1s w2 (.slice vad vn vcap) 79);have bb3:=(bb2.alloc bb2.size (Obj.cells #[.slice vad vn vcap] 79)).trans (hb3.mono (bb2.alloc bb2.size (Obj.cells #[.slice vad vn vcap] 79)).size);have hl2:=hb2.size)
      |(go_at_call 93;refine (cn _ xs w1 hr1 hF1 hN1 hl1).mono ?_;rintro e w2 ⟨rfl,hb2⟩;have r3:=r2.below hb2;have bb2:=bb1.trans (hb2.mono bb1.size))
      |(go_at_call 92;refine (pa2 w0 hb0).mono ?_;rintro e w1 ⟨⟨v,xs,rfl,hr1,hF1⟩,hb1⟩;obtain⟨vad,vn,vcap,rfl⟩:=Zgb hr1;have r2:=(r1.below hb0).below hb1;have bb1:=bb0.trans (hb1.mono bb0.size);have hE1:=(hEX.below hb0).below hb1;have hN1:Zgl w1 (E 4) (E 6) (E 5):=⟨hE1.e4,hE1.e6,hE1.e5⟩;have hl1:xs.length≤100000:=by rw[hF1.length];omega)
      |(go_at_call 86;refine pc.mono ?_;rintro e w0 ⟨rfl,hb0⟩;have bb0:=bX.trans (hb0.mono bX.size)))
     refine bodyPost_ret (v:=.tuple #[.agg #[.slice vad vn vcap],.nilIface]) (by simp[results,results54,go_sem,c0]) rfl (RG.out vad vn vcap xs w1 _ hr1 hF1 hl1 ?_ (bb3.setCell (p:=⟨w.heap.size,0,none⟩) (Nat.le_refl _) _))
     exact ((Zaa.of_below (S:=(·=w.heap.size)) (hb2.alloc hb2.size _)).trans (Zaa.of_below hb3)).setCell (p:=⟨w.heap.size,0,none⟩) (Or.inl rfl) _
    | false =>
     have e:Zbx s.size ts=some (7,s.size):=by rw[hA];simp[chk,hM,hm]
     have RB:Hid (∀w',Below w.heap.size w w'→Zdt w s.size ts E (.returned (.tuple #[.agg #[.slice none 0 0],Za2 s.size (E 7)])) w'):=fun w' hb=>Zml e rfl hb
     rw[hm] at cm2
     clear e hM hm hA hP
     generalize Zdt w s.size ts E=Q at *
     go_enter func54,ntmps54
     go_wp2_with (first
      |(go_at_call 94;refine (cm2 _ _ _ xs w1 _ hr1 hF1 (hb2.alloc hb2.size _) hl1).mono ?_;rintro e w3 ⟨rfl,hb3⟩;obtain⟨c0,f0⟩:=(r3.below (Zab _ _)).below hb3;have eM:=Below.cellv hb3 (Below.cellv (Zab w2 (Obj.cells #[.slice vad vn vcap] 79)) eM2);have bb3:=(bb2.alloc bb2.size (Obj.cells #[.slice vad vn vcap] 79)).trans (hb3.mono (bb2.alloc bb2.size (Obj.cells #[.slice vad vn vcap] 79)).size))
      |(go_at_call 93;refine (cn _ xs w1 hr1 hF1 hN1 hl1).mono ?_;rintro e w2 ⟨rfl,hb2⟩;have r3:=r2.below hb2;have bb2:=bb1.trans (hb2.mono bb1.size);have eM2:=(hE1.below hb2).e7)
      |(go_at_call 92;refine (pa2 w0 hb0).mono ?_;rintro e w1 ⟨⟨v,xs,rfl,hr1,hF1⟩,hb1⟩;obtain⟨vad,vn,vcap,rfl⟩:=Zgb hr1;have r2:=(r1.below hb0).below hb1;have bb1:=bb0.trans (hb1.mono bb0.size);have hE1:=(hEX.below hb0).below hb1;have hN1:Zgl w1 (E 4) (E 6) (E 5):=⟨hE1.e4,hE1.e6,hE1.e5⟩;have hl1:xs.length≤100000:=by rw[hF1.length];omega)
      |(go_at_call 86;refine pc.mono ?_;rintro e w0 ⟨rfl,hb0⟩;have bb0:=bX.trans (hb0.mono bX.size)))
     go_region
     all_goals (try go_wp2)
     all_goals refine bodyPost_ret (v:=.tuple #[.agg #[.slice none 0 0],Za2 s.size (E 7)]) (by simp[results,results54,go_sem,c0]) rfl (RB.out _ ?_)
     all_goals first
      | exact bb3.setCell (p:=⟨w.heap.size,0,none⟩) (Nat.le_refl _) _
      | exact (bb3.setCell (p:=⟨w.heap.size,0,none⟩) (Nat.le_refl _) _).drew
      | exact bb3.drew
theorem Zzh (s:ByteArray)(w:World)(E:Nat→Addr)(hE:Errs w E)(h15:15≤w.heap.size)(hs:s.size≤maxLen){ts:List Tok}(hts:s.size≤2000→Za4 s.data.toList 0 ts):
  Calls prog 24 #[.string s] w fun e w'=>e=.returned (ansV (Zbx s.size ts) E)∧Below w.heap.size w w':=by
 have cr:Calls prog 54 #[.string s] w fun e w'=>(∃ad n cap,e=.returned (.tuple #[.agg #[.slice ad n cap],ansV (Zbx s.size ts) E]))∧Below w.heap.size w w':=(Zwj s w E hE h15 hs hts).mono fun e w' ⟨⟨ad,n,cap,h,_⟩,hb⟩=>⟨⟨ad,n,cap,h⟩,hb⟩
 generalize ansV (Zbx s.size ts) E=V at *
 clear hE hts
 go_enter func24,ntmps24
 go_wp2_with (go_at_call 54;refine cr.mono ?_;rintro e w' ⟨⟨ad,n,cap,rfl⟩,hb⟩)
 go_ret
 exact⟨rfl,hb.alloc hb.size _⟩
end Go.Proofs.YtliapghpeoaonaaGreatDoor
namespace Go.Proofs.YtliapghpeoaonaaGreatDoor
open Go.Proofs.Tryz
theorem Zs1 {s:List UInt8}{ts:List Tok}(hts:Za4 s 0 ts)(hs:s.length≤2000){fns:List Fn}{rest:List Tok}{n f:Nat}(h:Zb7 f ts=.ok fns rest)(hc:chk n (.ok fns rest)=none):Ze1 fns:=by
 have hlen:=hts.len (Nat.zero_le _)
 have hnm:Zdr [] fns=none:=by
  simp only[chk] at hc
  split at hc
  ·cases hc
  ·assumption
 have hl:=fun fn hf=>Zs6 f ts fns rest (Zy3 hts) h fn hf
 refine⟨fun fn hf=>(hl fn hf).1,fun fn hf=>(hl fn hf).2,Zwu fns [] fns rfl hnm,fun fn hf=>?_⟩
 have:=((Zq4 f ts fns rest h).2 fn hf).1
 omega
end Go.Proofs.YtliapghpeoaonaaGreatDoor
