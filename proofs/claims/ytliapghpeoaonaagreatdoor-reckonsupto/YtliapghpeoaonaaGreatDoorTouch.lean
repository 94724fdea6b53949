/-
  What a call turns: some blocks that were there, and no others.
-/
import Derived.Test.YtliapghpeoaonaaGreatDoorRows
import Derived.WalkKit
import Derived.WalkSmall
import Derived.OwnWalk
import Derived.Test.YtliapghpeoaonaaGreatDoorVal
namespace Go.Proofs.YtliapghpeoaonaaGreatDoor
open Go.RowKit
structure Zaa (S:Nat→Prop)(w w':World):Prop where
 os:w'.os=w.os
 tape:w'.tape=w.tape
 output:w'.output=w.output
 size:w.heap.size≤w'.heap.size
 block:∀k,k<w.heap.size→¬ S k→w'.heap[k]?=w.heap[k]?
theorem Zaa.refl (S:Nat→Prop)(w:World):Zaa S w w:=⟨rfl,rfl,rfl,Nat.le_refl _,fun _ _ _=>rfl⟩
theorem Zaa.trans {S:Nat→Prop}{a b c:World}(h:Zaa S a b)(k:Zaa S b c):Zaa S a c :=
 ⟨k.os.trans h.os,k.tape.trans h.tape,k.output.trans h.output,Nat.le_trans h.size k.size,fun i hi hS=>(k.block i (Nat.lt_of_lt_of_le hi h.size) hS).trans (h.block i hi hS)⟩
theorem Zaa.mono {S T:Nat→Prop}{w w':World}(h:Zaa S w w')(hST:∀k,S k→T k):Zaa T w w' :=
 ⟨h.os,h.tape,h.output,h.size,fun k hk hT=>h.block k hk fun hS=>hT (hST k hS)⟩
theorem Zaa.of_below {S:Nat→Prop}{w w':World}(h:Below w.heap.size w w'):Zaa S w w':=⟨h.os,h.tape,h.output,h.size,fun k hk _=>h.block k hk⟩
theorem Zaa.below {w w':World}(h:Zaa (fun _=>False) w w'):Below w.heap.size w w':=⟨h.os,h.tape,h.output,h.size,fun k hk=>h.block k hk id⟩
theorem Zaa.fresh {S:Nat→Prop}{w0 w w':World}(hb:Below w0.heap.size w0 w)(h:Zaa S w w')(hS:∀k,k<w0.heap.size→¬ S k):Below w0.heap.size w0 w' :=
 ⟨h.os.trans hb.os,h.tape.trans hb.tape,h.output.trans hb.output,Nat.le_trans hb.size h.size,fun k hk=>(h.block k (Nat.lt_of_lt_of_le hk hb.size) (hS k hk)).trans (hb.block k hk)⟩
theorem Zaa.drew {S:Nat→Prop}{a w:World}(h:Zaa S a w):Zaa S a w.drew:=⟨h.os,h.tape,h.output,h.size,h.block⟩
theorem Zaa.drewN {S:Nat→Prop}{a w:World}(h:Zaa S a w)(n:Nat):Zaa S a (w.drewN n):=h.trans (Zaa.of_below ⟨rfl,rfl,rfl,Nat.le_refl _,fun _ _=>rfl⟩)
theorem Zaa.alloc {S:Nat→Prop}{a w:World}(h:Zaa S a w)(o:Obj):Zaa S a (w.alloc o):=h.trans (Zaa.of_below ((Below.refl _ _).alloc (Nat.le_refl _) o))
theorem Zaa.setCell {S:Nat→Prop}{a w:World}(h:Zaa S a w){p:Addr}(hp:S p.block∨a.heap.size≤p.block)(u:Value):Zaa S a (w.setCell p u) :=
 ⟨h.os,h.tape,h.output,by simpa[World.setCell] using h.size,fun k hk hS=>by
  rw[Below.heap_setCell w p u k (by rintro rfl;rcases hp with g | g;exact hS g;omega)]
  exact h.block k hk hS⟩
theorem Zaa.cell {S:Nat→Prop}{w w':World}(h:Zaa S w w'){p:Addr}{v:Value}(hc:w.cell? p=some v)(hS:¬ S p.block):w'.cell? p=some v:=by
 have hlt:p.block<w.heap.size:=by
  rcases Nat.lt_or_ge p.block w.heap.size with g | g
  ·exact g
  ·simp[World.cell?,Array.getElem?_eq_none g] at hc
 rw[World.cell?_of_block (w:=w) (h.block p.block hlt hS)]
 exact hc
theorem Zaa.frozen {S:Nat→Prop}{w w':World}(h:Zaa S w w'){p:Addr}(hlt:p.block<w.heap.size)(hS:¬ S p.block):w'.frozen? p=w.frozen? p :=
 World.frozen?_of_block (w:=w) (h.block p.block hlt hS)
theorem Zae {w:World}{p:Addr}{v:Value}(hc:w.cell? p=some v):p.block<w.heap.size:=by
 rcases Nat.lt_or_ge p.block w.heap.size with g | g
 ·exact g
 ·simp[World.cell?,Array.getElem?_eq_none g] at hc
theorem Zac {w:World}{p:Addr}{v:Value}{o:Obj}(hc:w.cell? p=some v):(w.alloc o).cell? p=some v:=by
 rw[World.cell?_alloc_lt _ _ _ (Zae hc)]
 exact hc
theorem Below.cellv {w w':World}(hb:Below w.heap.size w w'){p:Addr}{v:Value}(hc:w.cell? p=some v):w'.cell? p=some v:=by
 rw[hb.cell (Zae hc)]
 exact hc
theorem bcell {W w1:World}(hb:Below W.heap.size W w1):(∀b o,b<W.heap.size→w1.cell? ⟨b,o,none⟩=W.cell? ⟨b,o,none⟩)∧(∀b o,b<W.heap.size→w1.frozen? ⟨b,o,none⟩=W.frozen? ⟨b,o,none⟩)∧W.heap.size≤w1.heap.size :=
 ⟨fun b o h=>hb.cell (p:=⟨b,o,none⟩) h,fun b o h=>hb.frozen (p:=⟨b,o,none⟩) h,hb.size⟩
def Zao (w:World)(D:Nat→Prop)(e:TypeId)(size:Nat)(v:Value)(n:Nat)(xs:List Value):Prop :=
 xs.length=n*size∧(v=.slice none 0 0∧n=0∨∃g cap cur,v=.slice (some ⟨g,0,none⟩) n cap∧D g∧w.heap[g]?=some (.cells cur e)∧n≤cap∧cap≤maxLen∧cur.size=cap*size∧cur.toList.take (n*size)=xs)
theorem Zao.of_owns {w:World}{base:Nat}{e:TypeId}{size:Nat}{v:Value}{n:Nat}{xs:List Value}(h:w.ownsRow base e size v n xs):Zao w (base≤·) e size v n xs:=h
theorem Zao.weaken {w:World}{D D':Nat→Prop}{e:TypeId}{size:Nat}{v:Value}{n:Nat}{xs:List Value}(h:Zao w D e size v n xs)(hD:∀k,D k→D' k):Zao w D' e size v n xs:=by
 obtain⟨h1,h2⟩:=h
 refine⟨h1,?_⟩
 rcases h2 with g | ⟨g,cap,cur,hv,hg,r⟩
 ·exact Or.inl g
 ·exact Or.inr ⟨g,cap,cur,hv,hD g hg,r⟩
theorem Zag {w:World}{g:Nat}{o:Obj}(h:w.heap[g]?=some o):g<w.heap.size:=by
 rcases Nat.lt_or_ge g w.heap.size with h' | h'
 ·exact h'
 ·rw[Array.getElem?_eq_none h'] at h;cases h
def Z33 (D:Nat→Prop)(w w':World):Prop:=∀k,D k→k<w.heap.size→w'.heap[k]?=w.heap[k]?
theorem Zao.keep {w w':World}{D:Nat→Prop}{e:TypeId}{size:Nat}{v:Value}{n:Nat}{xs:List Value}(h:Zao w D e size v n xs)(hS:Z33 D w w'):Zao w' (fun k=>D k∧k<w.heap.size) e size v n xs:=by
 obtain⟨h1,h2⟩:=h
 refine⟨h1,?_⟩
 rcases h2 with g | ⟨g,cap,cur,hv,hg,hh,r⟩
 ·exact Or.inl g
 ·exact Or.inr ⟨g,cap,cur,hv,⟨hg,Zag hh⟩,by rw[hS g hg (Zag hh)];exact hh,r⟩
theorem Zao.cell {w:World}{D:Nat→Prop}{e:TypeId}{size:Nat}{v:Value}{n:Nat}{xs:List Value}(h:Zao w D e size v n xs)(hn:0<n):
  ∃g cap,v=.slice (some ⟨g,0,none⟩) n cap∧D g∧n≤cap∧cap≤maxLen∧(∀j,j<n*size→w.cell? ⟨g,j,none⟩=xs[j]?):=by
 obtain⟨h1,h2⟩:=h
 rcases h2 with ⟨_,h0⟩ | ⟨g,cap,cur,hv,hg,hh,hc,hm,hz,ht⟩
 ·omega
 ·refine⟨g,cap,hv,hg,hc,hm,fun j hj=>?_⟩
  have:w.cell? ⟨g,j,none⟩=cur[j]?:=by unfold World.cell?;rw[hh];rfl
  rw[this,←ht,List.getElem?_take,if_pos hj,Array.getElem?_toList]
theorem Zai {w w':World}{D:Nat→Prop}{e:TypeId}{size:Nat}{v:Value}{n:Nat}{xs:List Value}(h:Zao w D e size v n xs)(hb:Below w.heap.size w w'):Zao w' D e size v n xs :=
 (h.keep (w':=w') fun k _ hlt=>hb.block k hlt).weaken fun _ hk=>hk.1
theorem Zab (w:World)(o:Obj):Below w.heap.size w (w.alloc o):=(Below.refl _ _).alloc (Nat.le_refl _) o
theorem Zaf {w:World}{base:Nat}{e:TypeId}{size:Nat}{v:Value}{n:Nat}{xs:List Value}(h:w.ownsRow base e size v n xs):∃ad cap,v=.slice ad n cap:=by
 rcases h.2 with ⟨h',h0⟩ | ⟨g,cap,_,h',_⟩
 ·exact⟨_,_,by rw[h0];exact h'⟩
 ·exact⟨_,_,h'⟩
theorem Znw {w:World}{base base':Nat}{e:TypeId}{size:Nat}{v:Value}{n:Nat}{xs:List Value}(h:w.ownsRow base e size v n xs)(hb:base'≤base):w.ownsRow base' e size v n xs :=
 Zao.weaken (D:=(base≤·)) (D':=(base'≤·)) h fun _ hk=>Nat.le_trans hb hk
theorem Zku {w w':World}{row:Option Nat}{D:Nat→Prop}(h:w.grownBy w' row)(hD:∀k,D k→some k≠row):Z33 D w w':=fun k hk hlt=>h.block k hlt (hD k hk)
theorem Zay {w w':World}{base:Nat}{e:TypeId}{size:Nat}{v:Value}{n:Nat}{xs:List Value}(h:w.ownsRow base e size v n xs)(hk:∀k,v.ownBlock=some k→w'.heap[k]?=w.heap[k]?):w'.ownsRow base e size v n xs:=by
 refine⟨h.1,?_⟩
 rcases h.2 with g | ⟨g,cap,cur,hv,hg,hh,r⟩
 ·exact Or.inl g
 ·exact Or.inr ⟨g,cap,cur,hv,hg,by rw[hk g (by rw[hv];rfl)];exact hh,r⟩
theorem Zau {w:World}{b j:Nat}{c:Array Value}{t:TypeId}(h:w.heap[b]?=some (.cells c t))(v:Value):(w.setCell ⟨b,j,none⟩ v).heap[b]?=some (.cells (c.setIfInBounds j v) t):=by
 have hlt:=Zag h
 rw[Array.getElem?_eq_getElem hlt] at h
 simp only[World.setCell]
 rw[Array.getElem?_eq_getElem (by simpa using hlt)]
 simp only[Array.getElem_modify]
 simp only[Option.some.injEq] at h
 simp[h]
theorem Za0 (w:World)(o:Obj)(g:Nat)(h:g<w.heap.size):(w.alloc o).heap[g]?=w.heap[g]?:=(Zab w o).block g h
def Za6:List (List UInt8)→Option (List PV)
 | []=>some []
 | b::r=>match Zfv b with
  | none=>none
  | some v=>match Za6 r with
   | none=>none
   | some vs=>some (v::vs)
def Zo8 (us:List PV):Option (List PV)→Option (List PV)
 | none=>none
 | some r=>some (us++r)
theorem Zlq {l:List (List UInt8)}{us:List PV}{q:Nat}(hq:q<l.length)(h:Za6 l=Zo8 us (Za6 (l.drop q)))(hc:Zfv l[q]=none):Za6 l=none:=by
 rw[h,List.drop_eq_getElem_cons hq,Za6,hc]
 rfl
theorem Zlp {l:List (List UInt8)}{us:List PV}{q:Nat}{u:PV}(hq:q<l.length)(h:Za6 l=Zo8 us (Za6 (l.drop q)))(hc:Zfv l[q]=some u):Za6 l=Zo8 (us++[u]) (Za6 (l.drop (q+1))):=by
 rw[h,List.drop_eq_getElem_cons hq,Za6,hc]
 cases hh:Za6 (l.drop (q+1)) with
 | none=>simp only;rfl
 | some r=>simp only[Zo8];simp
theorem Znq {l:List (List UInt8)}{us:List PV}(h:Za6 l=Zo8 us (Za6 (l.drop l.length))):Za6 l=some us:=by
 rw[h,List.drop_eq_nil_of_le (Nat.le_refl _),Za6]
 simp[Zo8]
def Zgd (n:Nat)(ts:List Tok)(name:List UInt8)(args:List (List UInt8)):List UInt8×Nat×Nat :=
 match Zbx n ts with
 | some (c,p)=>([],c,p)
 | none=>match Zb7 (ts.length+1) ts with
  | .err _ _=>([],0,0)
  | .ok fns _=>match Za6 args with
   | none=>([],8,0)
   | some vs=>match Zf4 fns name vs with
    | none=>([],8,0)
    | some v=>(wrV v,0,0)
def Zeb (w:World)(sv:Value)(bs:List ByteArray):Prop :=
 ∃ad cap,sv=.slice ad bs.length cap∧bs.length≤cap∧cap≤maxLen∧(∀b∈bs,b.size≤maxLen)∧∀i (hi:i<bs.length),∃g o,ad=some ⟨g,o,none⟩∧w.cell? ⟨g,o+i,none⟩=some (.string bs[i])
def Z3x (fns:List Fn):Prop:=fns.Pairwise fun f g=>f.name≠g.name
theorem Zp0:∀(q p:List Fn),Zdr (p.map Za5) q=none→(∀f∈p,∀g∈q,f.name≠g.name)∧Z3x q
 | [],p,_=>⟨by simp,List.Pairwise.nil⟩
 | x::q,p,h=>by
  simp only[Zdr] at h
  split at h
  ·cases h
  ·rename_i hx
   obtain⟨g1,g2⟩:=Zp0 q (p++[x]) (by rw[List.map_append];exact h)
   have hno:∀f∈p,f.name≠x.name:=fun f hf e=>by
    unfold Zj1 at hx
    split at hx
    ·cases hx
    ·rename_i hl
     apply hl
     unfold Zc9
     rw[Option.isSome_map,List.find?_isSome]
     exact⟨Za5 f,List.mem_map_of_mem hf,by simp[Za5,e]⟩
   refine⟨fun f hf g hg=>?_,List.Pairwise.cons (fun g hg=>g1 x (by simp) g hg) g2⟩
   rcases List.mem_cons.1 hg with rfl | hg
   ·exact hno f hf
   ·exact g1 f (by simp[hf]) g hg
theorem Zoo {n:Nat}{ts:List Tok}{c p:Nat}(h:Zbx n ts=some (c,p)):1≤c∧c≤7:=by
 unfold Zbx at h
 split at h
 ·cases h;decide
 ·unfold chk at h
  split at h
  ·cases h
   unfold Z26
   split<;>decide
  ·split at h
   ·cases h
    unfold Zrz
    split
    ·decide
    ·split<;>decide
   ·split at h
    ·cases h
    ·cases h;decide
theorem Ze6:∀{l:List (List UInt8)} {vs:List PV},Za6 l=some vs→vs.length=l.length∧∀v∈vs,Zec v
 | [],vs,h=>by
  simp only[Za6] at h
  cases h
  exact⟨rfl,by simp⟩
 | b::r,vs,h=>by
  simp only[Za6] at h
  split at h
  ·cases h
  ·rename_i v hv
   split at h
   ·cases h
   ·rename_i us hu
    cases h
    obtain⟨g1,g2⟩:=Ze6 hu
    refine⟨by simp[g1],fun x hx=>?_⟩
    rcases List.mem_cons.1 hx with rfl | hx
    ·obtain⟨_,h1,h2⟩:=Zkx hv
     exact⟨h1,h2⟩
    ·exact g2 x hx
theorem Zx4 {fns:List Fn}(hP:Ze1 fns){n:List UInt8}{vs:List PV}(hf:∀v∈vs,Zec v){v:PV}(h:Zf4 fns n vs=some v):Zec v:=by
 unfold Zf4 at h
 cases hf2:fns.find? (fun f=>f.name==n) with
 | none=>rw[hf2] at h;cases h
 | some f =>
  rw[hf2] at h
  simp only at h
  split at h
  ·cases he:evE fns 20000 20000 (Zdp f vs) f.body with
   | none=>rw[he] at h;cases h
   | some y =>
    rw[he] at h
    obtain⟨v',k'⟩:=y
    simp only[Option.map_some,Option.some.injEq] at h
    subst h
    exact (Zj9 hP.lit 20000 20000 _ _ _ _ (Zgj.par hf) (hP.lit f (List.mem_of_find?_eq_some hf2)) he).1
  ·cases h
def Zar (w:World)(D:Nat→Prop)(e:TypeId)(size:Nat)(v:Value)(n:Nat)(xs:List Value):Prop :=
 xs.length=n*size∧((∃ad cap,v=.slice ad 0 cap)∧n=0∨∃g o cap cur,v=.slice (some ⟨g,o,none⟩) n cap∧D g∧w.heap[g]?=some (.cells cur e)∧n≤cap∧cap≤maxLen∧o+cap*size≤cur.size∧(cur.toList.drop o).take (n*size)=xs)
theorem Zar.of_row {w:World}{D:Nat→Prop}{e:TypeId}{size:Nat}{v:Value}{n:Nat}{xs:List Value}(h:Zao w D e size v n xs):Zar w D e size v n xs:=by
 refine⟨h.1,?_⟩
 rcases h.2 with ⟨rfl,h0⟩ | ⟨g,cap,cur,hv,hg,hh,hc,hm,hz,ht⟩
 ·exact Or.inl ⟨⟨_,_,rfl⟩,h0⟩
 ·exact Or.inr ⟨g,0,cap,cur,hv,hg,hh,hc,hm,by omega,by simpa using ht⟩
theorem Zar.weaken {w:World}{D D':Nat→Prop}{e:TypeId}{size:Nat}{v:Value}{n:Nat}{xs:List Value}(h:Zar w D e size v n xs)(hD:∀k,D k→D' k):Zar w D' e size v n xs:=by
 refine⟨h.1,?_⟩
 rcases h.2 with g | ⟨g,o,cap,cur,hv,hg,r⟩
 ·exact Or.inl g
 ·exact Or.inr ⟨g,o,cap,cur,hv,hD g hg,r⟩
theorem Zar.keep {w w':World}{D:Nat→Prop}{e:TypeId}{size:Nat}{v:Value}{n:Nat}{xs:List Value}(h:Zar w D e size v n xs)(hS:Z33 D w w'):Zar w' (fun k=>D k∧k<w.heap.size) e size v n xs:=by
 refine⟨h.1,?_⟩
 rcases h.2 with g | ⟨g,o,cap,cur,hv,hg,hh,r⟩
 ·exact Or.inl g
 ·exact Or.inr ⟨g,o,cap,cur,hv,⟨hg,Zag hh⟩,by rw[hS g hg (Zag hh)];exact hh,r⟩
theorem Zar.slice {w:World}{D:Nat→Prop}{e:TypeId}{size:Nat}{v:Value}{n:Nat}{xs:List Value}(h:Zar w D e size v n xs):∃ad cap,v=.slice ad n cap:=by
 rcases h.2 with ⟨⟨ad,cap,hv⟩,h0⟩ | ⟨g,o,cap,cur,hv,_⟩
 ·exact⟨ad,cap,by rw[h0];exact hv⟩
 ·exact⟨_,cap,hv⟩
theorem Zar.cap {w:World}{D:Nat→Prop}{e:TypeId}{size:Nat}{v:Value}{n:Nat}{xs:List Value}(h:Zar w D e size v n xs)(hn:0<n):∃g o cap,v=.slice (some ⟨g,o,none⟩) n cap∧D g∧n≤cap∧cap≤maxLen:=by
 rcases h.2 with ⟨_,h0⟩ | ⟨g,o,cap,cur,hv,hg,hh,hc,hm,_⟩
 ·omega
 ·exact⟨g,o,cap,hv,hg,hc,hm⟩
theorem Zar.cell {w:World}{D:Nat→Prop}{e:TypeId}{size:Nat}{v:Value}{n:Nat}{xs:List Value}(h:Zar w D e size v n xs)(hn:0<n):
  ∃g o cap,v=.slice (some ⟨g,o,none⟩) n cap∧D g∧n≤cap∧cap≤maxLen∧(∀j,j<n*size→w.cell? ⟨g,o+j,none⟩=xs[j]?):=by
 rcases h.2 with ⟨_,h0⟩ | ⟨g,o,cap,cur,hv,hg,hh,hc,hm,hz,ht⟩
 ·omega
 ·refine⟨g,o,cap,hv,hg,hc,hm,fun j hj=>?_⟩
  have:w.cell? ⟨g,o+j,none⟩=cur[o+j]?:=by unfold World.cell?;rw[hh];rfl
  rw[this,←ht,List.getElem?_take,if_pos hj,List.getElem?_drop,Array.getElem?_toList]
theorem Zar.sub {w:World}{D:Nat→Prop}{e:TypeId}{size g o n cap:Nat}{xs:List Value}(h:Zar w D e size (.slice (some ⟨g,o,none⟩) n cap) n xs)(i m:Nat)(hi:i+m≤n)(h0:0<m):
  Zar w D e size (.slice (some ⟨g,o+i*size,none⟩) m (cap-i)) m ((xs.drop (i*size)).take (m*size)):=by
 rcases h.2 with ⟨_,hz⟩ | ⟨g',o',cap',cur,hv,hg,hh,hc,hm,hz,ht⟩
 ·omega
 ·cases hv
  have hmul:(i+m)*size≤n*size:=Nat.mul_le_mul_right _ hi
  have hmul2:(cap-i)*size+i*size=cap*size:=by rw[←Nat.add_mul,Nat.sub_add_cancel (by omega)]
  rw[Nat.add_mul] at hmul
  refine⟨by simp[h.1];omega,Or.inr ⟨g,o+i*size,cap-i,cur,rfl,hg,hh,by omega,by omega,by omega,?_⟩⟩
  rw[←ht,List.drop_take,List.drop_drop,List.take_take,Nat.min_eq_left (by omega)]
mutual
def RV (w:World)(D:Nat→Prop):PV→Value→Prop
 | .num z,x=>x=.agg #[.int .u8 110,.int .i64 z,.string ⟨#[]⟩,.slice none 0 0]
 | .txt b,x=>∃s:ByteArray,s.data.toList=b∧x=.agg #[.int .u8 116,.int .i64 0,.string s,.slice none 0 0]
 | .lst l,x=>∃sl cs,x=.agg #[.int .u8 108,.int .i64 0,.string ⟨#[]⟩,sl]∧Zar w D 46 4 sl l.length cs∧RVs w D l cs
def RVs (w:World)(D:Nat→Prop):List PV→List Value→Prop
 | [],cs=>cs=[]
 | v::r,cs=>∃a b c d cr,cs=a::b::c::d::cr∧RV w D v (.agg #[a,b,c,d])∧RVs w D r cr
end
mutual
theorem RV.map {w w':World}{D D':Nat→Prop}(hR:∀sl n vs,Zar w D 46 4 sl n vs→Zar w' D' 46 4 sl n vs):∀{v:PV} {x:Value},RV w D v x→RV w' D' v x
 | .num z,x,h=>by rw[RV] at h ⊢;exact h
 | .txt b,x,h=>by rw[RV] at h ⊢;exact h
 | .lst l,x,h=>by
  rw[RV] at h ⊢
  obtain⟨sl,cs,h1,h2,h3⟩:=h
  exact⟨sl,cs,h1,hR _ _ _ h2,RVs.map hR h3⟩
theorem RVs.map {w w':World}{D D':Nat→Prop}(hR:∀sl n vs,Zar w D 46 4 sl n vs→Zar w' D' 46 4 sl n vs):∀{l:List PV} {cs:List Value},RVs w D l cs→RVs w' D' l cs
 | [],cs,h=>by rw[RVs] at h ⊢;exact h
 | v::r,cs,h=>by
  rw[RVs] at h ⊢
  obtain⟨a,b,c,d,cr,h1,h2,h3⟩:=h
  exact⟨a,b,c,d,cr,h1,RV.map hR h2,RVs.map hR h3⟩
end
theorem RV.weaken {w:World}{D D':Nat→Prop}(hD:∀k,D k→D' k){v:PV}{x:Value}(h:RV w D v x):RV w D' v x:=h.map fun _ _ _ g=>g.weaken hD
theorem RVs.weaken {w:World}{D D':Nat→Prop}(hD:∀k,D k→D' k){v:List PV}{x:List Value}(h:RVs w D v x):RVs w D' v x:=h.map fun _ _ _ g=>g.weaken hD
theorem RV.below {w w':World}{D:Nat→Prop}{v:PV}{x:Value}(h:RV w D v x)(hb:Below w.heap.size w w'):RV w' D v x :=
 h.map fun _ _ _ g=>(g.keep (w':=w') fun k _ hlt=>hb.block k hlt).weaken fun _ hk=>hk.1
theorem RVs.below {w w':World}{D:Nat→Prop}{v:List PV}{x:List Value}(h:RVs w D v x)(hb:Below w.heap.size w w'):RVs w' D v x :=
 h.map fun _ _ _ g=>(g.keep (w':=w') fun k _ hlt=>hb.block k hlt).weaken fun _ hk=>hk.1
theorem RV.touch {w w':World}{D S:Nat→Prop}{v:PV}{x:Value}(h:RV w D v x)(ht:Zaa S w w')(hD:∀k,D k→¬ S k):RV w' D v x :=
 h.map fun _ _ _ g=>(g.keep (w':=w') fun k hk hlt=>ht.block k hlt (hD k hk)).weaken fun _ hk=>hk.1
theorem RVs.touch {w w':World}{D S:Nat→Prop}{v:List PV}{x:List Value}(h:RVs w D v x)(ht:Zaa S w w')(hD:∀k,D k→¬ S k):RVs w' D v x :=
 h.map fun _ _ _ g=>(g.keep (w':=w') fun k hk hlt=>ht.block k hlt (hD k hk)).weaken fun _ hk=>hk.1
theorem Zar.below {w w':World}{D:Nat→Prop}{e:TypeId}{size:Nat}{v:Value}{n:Nat}{xs:List Value}(h:Zar w D e size v n xs)(hb:Below w.heap.size w w'):Zar w' D e size v n xs :=
 (h.keep (w':=w') fun k _ hlt=>hb.block k hlt).weaken fun _ hk=>hk.1
theorem Zar.touch {w w':World}{D S:Nat→Prop}{e:TypeId}{size:Nat}{v:Value}{n:Nat}{xs:List Value}(h:Zar w D e size v n xs)(ht:Zaa S w w')(hD:∀k,D k→¬ S k):Zar w' D e size v n xs :=
 (h.keep (w':=w') fun k hk hlt=>ht.block k hlt (hD k hk)).weaken fun _ hk=>hk.1
theorem RVs.length {w:World}{D:Nat→Prop}:∀{l:List PV} {cs:List Value},RVs w D l cs→cs.length=l.length*4
 | [],cs,h=>by rw[RVs] at h;rw[h];rfl
 | v::r,cs,h=>by
  rw[RVs] at h
  obtain⟨a,b,c,d,cr,rfl,_,h3⟩:=h
  simp[RVs.length h3]
  omega
theorem RVs.at {w:World}{D:Nat→Prop}:∀{l:List PV} {cs:List Value},RVs w D l cs→∀j (hj:j<l.length),∃a b c d,cs[j*4]?=some a∧cs[j*4+1]?=some b∧cs[j*4+2]?=some c∧cs[j*4+3]?=some d∧RV w D l[j] (.agg #[a,b,c,d])
 | [],cs,h,j,hj=>by simp at hj
 | v::r,cs,h,0,_=>by
  rw[RVs] at h
  obtain⟨a,b,c,d,cr,rfl,h2,_⟩:=h
  exact⟨a,b,c,d,rfl,rfl,rfl,rfl,h2⟩
 | v::r,cs,h,j+1,hj=>by
  rw[RVs] at h
  obtain⟨a,b,c,d,cr,rfl,_,h3⟩:=h
  rw[show (j+1)*4=j*4+1+1+1+1 by omega]
  simpa using RVs.at h3 j (by simpa using hj)
theorem RVs.append {w:World}{D:Nat→Prop}{b:List PV}{bs:List Value}(hb:RVs w D b bs):∀{a:List PV} {cs:List Value},RVs w D a cs→RVs w D (a++b) (cs++bs)
 | [],cs,h=>by rw[RVs] at h;subst h;exact hb
 | v::r,cs,h=>by
  rw[RVs] at h
  obtain⟨x,y,z,u,cr,rfl,h2,h3⟩:=h
  rw[List.cons_append,RVs]
  exact⟨x,y,z,u,cr++bs,by simp,h2,RVs.append hb h3⟩
theorem RVs.one {w:World}{D:Nat→Prop}{v:PV}{a b c d:Value}(h:RV w D v (.agg #[a,b,c,d])):RVs w D [v] [a,b,c,d]:=by
 rw[RVs]
 exact⟨a,b,c,d,[],rfl,h,by rw[RVs]⟩
theorem RVs.take {w:World}{D:Nat→Prop}:∀{l:List PV} {cs:List Value} (i:Nat),RVs w D l cs→RVs w D (l.take i) (cs.take (i*4))
 | [],cs,i,h=>by rw[RVs] at h;subst h;simp[RVs]
 | v::r,cs,0,h=>by simp[RVs]
 | v::r,cs,i+1,h=>by
  rw[RVs] at h
  obtain⟨a,b,c,d,cr,rfl,h2,h3⟩:=h
  rw[show (i+1)*4=i*4+1+1+1+1 by omega,List.take_succ_cons,RVs]
  exact⟨a,b,c,d,cr.take (i*4),by simp,h2,RVs.take i h3⟩
theorem RVs.drop {w:World}{D:Nat→Prop}:∀{l:List PV} {cs:List Value} (i:Nat),RVs w D l cs→RVs w D (l.drop i) (cs.drop (i*4))
 | [],cs,i,h=>by rw[RVs] at h;subst h;simp[RVs]
 | v::r,cs,0,h=>by simpa using h
 | v::r,cs,i+1,h=>by
  rw[RVs] at h
  obtain⟨a,b,c,d,cr,rfl,h2,h3⟩:=h
  rw[show (i+1)*4=i*4+1+1+1+1 by omega,List.drop_succ_cons]
  simpa using RVs.drop i h3
theorem RV.parts {w:World}{D:Nat→Prop}{v:PV}{x:Value}(h:RV w D v x):∃(k:Nat) (z:Int) (s:ByteArray) (ad:Option Addr) (n cap:Nat),x=.agg #[.int .u8 (k:Int),.int .i64 z,.string s,.slice ad n cap]∧(k=110∨k=116∨k=108):=by
 cases v with
 | num z=>rw[RV] at h;exact⟨110,z,_,_,_,_,h,by omega⟩
 | txt b=>rw[RV] at h;obtain⟨s,_,h⟩:=h;exact⟨116,0,s,_,_,_,h,by omega⟩
 | lst l =>
  rw[RV] at h
  obtain⟨sl,cs,h1,h2,_⟩:=h
  obtain⟨ad,cap,rfl⟩:=h2.slice
  exact⟨108,0,_,_,_,_,h1,by omega⟩
end Go.Proofs.YtliapghpeoaonaaGreatDoor
