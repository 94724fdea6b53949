/-
  Texts read as values; what Reckon is to answer. Plain.
-/
import Derived.Test.YtifhgjpglicjbaaGreatDoorRd
import Derived.Test.YtifhgjpglicjbaaGreatDoorRowK
import Derived.WalkKit
import Derived.WalkSpells
import Derived.WalkLawsBesides
import Derived.Deep.LoopGhost
import Derived.Deep.DrawnRows
import Derived.Outline
import Derived.Test.YtifhgjpglicjbaaGreatDoorPure
import Derived.Lib.ParseIntB
import Derived.Test.YtifhgjpglicjbaaGreatDoorRows
import Derived.Shelf.Strings.BuilderK
import Derived.Shelf.Strconv.Itoa4
import Derived.Shelf.Strconv.ParseIntPublic10
import Derived.WalkSmall
set_option maxHeartbeats 2000000
namespace Go.Proofs.YtifhgjpglicjbaaGreatDoor
open Go.Proofs.Tryz
open Go.RowKit
def readAllV:List (List UInt8)→Option (List PV)
 | []=>some []
 | b::r=>match readV b with
  | none=>none
  | some v=>match readAllV r with
   | none=>none
   | some vs=>some (v::vs)
def contA (us:List PV):Option (List PV)→Option (List PV)
 | none=>none
 | some r=>some (us++r)
theorem readAll_none {l:List (List UInt8)}{us:List PV}{q:Nat}(hq:q<l.length)(h:readAllV l=contA us (readAllV (l.drop q)))(hc:readV l[q]=none):readAllV l=none:=by
 rw[h,List.drop_eq_getElem_cons hq,readAllV,hc]
 rfl
theorem readAll_some {l:List (List UInt8)}{us:List PV}{q:Nat}{u:PV}(hq:q<l.length)(h:readAllV l=contA us (readAllV (l.drop q)))(hc:readV l[q]=some u):readAllV l=contA (us++[u]) (readAllV (l.drop (q+1))):=by
 rw[h,List.drop_eq_getElem_cons hq,readAllV,hc]
 cases hh:readAllV (l.drop (q+1)) with
 | none=>simp only;rfl
 | some r=>simp only[contA];simp
theorem readAll_end {l:List (List UInt8)}{us:List PV}(h:readAllV l=contA us (readAllV (l.drop l.length))):readAllV l=some us:=by
 rw[h,List.drop_eq_nil_of_le (Nat.le_refl _),readAllV]
 simp[contA]
def reckR (n:Nat)(ts:List Tok)(name:List UInt8)(args:List (List UInt8)):List UInt8×Nat×Nat :=
 match answer n ts with
 | some (c,p)=>([],c,p)
 | none=>match pProg (ts.length+1) ts with
  | .err _ _=>([],0,0)
  | .ok fns _=>match readAllV args with
   | none=>([],8,0)
   | some vs=>match reckP fns name vs with
    | none=>([],8,0)
    | some v=>(wrV v,0,0)
def ArgsAt (w:World)(sv:Value)(bs:List ByteArray):Prop :=
 ∃ad cap,sv=.slice ad bs.length cap∧bs.length≤cap∧cap≤maxLen∧(∀b∈bs,b.size≤maxLen)∧∀i (hi:i<bs.length),∃g o,ad=some ⟨g,o,none⟩∧w.cell? ⟨g,o+i,none⟩=some (.string bs[i])
def UniqF (fns:List Fn):Prop:=fns.Pairwise fun f g=>f.name≠g.name
theorem nmAll_uniq:∀(q p:List Fn),nmAll (p.map sigOf) q=none→(∀f∈p,∀g∈q,f.name≠g.name)∧UniqF q
 | [],p,_=>⟨by simp,List.Pairwise.nil⟩
 | x::q,p,h=>by
  simp only[nmAll] at h
  split at h
  ·cases h
  ·rename_i hx
   obtain⟨g1,g2⟩:=nmAll_uniq q (p++[x]) (by rw[List.map_append];exact h)
   have hno:∀f∈p,f.name≠x.name:=fun f hf e=>by
    unfold nmFn at hx
    split at hx
    ·cases hx
    ·rename_i hl
     apply hl
     unfold lookF
     rw[Option.isSome_map,List.find?_isSome]
     exact⟨sigOf f,List.mem_map_of_mem hf,by simp[sigOf,e]⟩
   refine⟨fun f hf g hg=>?_,List.Pairwise.cons (fun g hg=>g1 x (by simp) g hg) g2⟩
   rcases List.mem_cons.1 hg with rfl | hg
   ·exact hno f hf
   ·exact g1 f (by simp[hf]) g hg
theorem answer_code {n:Nat}{ts:List Tok}{c p:Nat}(h:answer n ts=some (c,p)):1≤c∧c≤7:=by
 unfold answer at h
 split at h
 ·cases h;decide
 ·unfold chk at h
  split at h
  ·cases h
   unfold codeT
   split<;>decide
  ·split at h
   ·cases h
    unfold codeN
    split
    ·decide
    ·split<;>decide
   ·split at h
    ·cases h
    ·cases h;decide
theorem readAllV_fine:∀{l:List (List UInt8)} {vs:List PV},readAllV l=some vs→vs.length=l.length∧∀v∈vs,Fine v
 | [],vs,h=>by
  simp only[readAllV] at h
  cases h
  exact⟨rfl,by simp⟩
 | b::r,vs,h=>by
  simp only[readAllV] at h
  split at h
  ·cases h
  ·rename_i v hv
   split at h
   ·cases h
   ·rename_i us hu
    cases h
    obtain⟨g1,g2⟩:=readAllV_fine hu
    refine⟨by simp[g1],fun x hx=>?_⟩
    rcases List.mem_cons.1 hx with rfl | hx
    ·obtain⟨_,h1,h2⟩:=readV_some hv
     exact⟨h1,h2⟩
    ·exact g2 x hx
theorem reckP_fine {fns:List Fn}(hP:ProgOk fns){n:List UInt8}{vs:List PV}(hf:∀v∈vs,Fine v){v:PV}(h:reckP fns n vs=some v):Fine v:=by
 unfold reckP at h
 cases hf2:fns.find? (fun f=>f.name==n) with
 | none=>rw[hf2] at h;cases h
 | some f =>
  rw[hf2] at h
  simp only at h
  split at h
  ·cases he:evE fns 20000 20000 (parEnv f vs) f.body with
   | none=>rw[he] at h;cases h
   | some y =>
    rw[he] at h
    obtain⟨v',k'⟩:=y
    simp only[Option.map_some,Option.some.injEq] at h
    subst h
    exact (evE_good hP.lit 20000 20000 _ _ _ _ (FineS.par hf) (hP.lit f (List.mem_of_find?_eq_some hf2)) he).1
  ·cases h
end Go.Proofs.YtifhgjpglicjbaaGreatDoor
namespace Go.Proofs.YtifhgjpglicjbaaGreatDoor
open Go.Proofs.Tryz
def toksO (s:List UInt8):Nat→Nat→Option (List Tok)
 | 0,_=>none
 | f+1,p=>if (nextTok s p).k=.eof then some [nextTok s p] else if (nextTok s p).k=.bad then none else (toksO s f ((nextTok s p).at_+(nextTok s p).body.length)).map (nextTok s p::·)
theorem toksO_is {s:List UInt8}:∀{f p:Nat} {ts:List Tok},toksO s f p=some ts→IsToks s p ts
 | 0,p,ts,h=>by cases h
 | f+1,p,ts,h=>by
  rw[toksO] at h
  split at h
  ·rename_i g
   cases h
   exact .last (Or.inl g)
  ·rename_i g
   split at h
   ·cases h
   ·rename_i g2
    cases e:toksO s f ((nextTok s p).at_+(nextTok s p).body.length) with
    | none=>rw[e] at h;cases h
    | some r =>
     rw[e] at h
     simp only[Option.map_some,Option.some.injEq] at h
     subst h
     exact .more g g2 (toksO_is e)
def okR {α:Type}:Res α→Option (α×List Tok)
 | .ok a r=>some (a,r)
 | .err _ _=>none
def loadF (s:List UInt8):Option (List Fn):=match toksO s 600 0 with
 | none=>none
 | some ts=>match chk s.length (pProg (ts.length+1) ts) with
  | some _=>none
  | none=>(okR (pProg (ts.length+1) ts)).map (·.1)
structure Loads (s:List UInt8)(fns:List Fn):Prop where
 ex:∃ts rest,IsToks s 0 ts∧answer s.length ts=none∧pProg (ts.length+1) ts=.ok fns rest
 ok:ProgOk fns
 un:UniqF fns
theorem loads_of {s:List UInt8}{fns:List Fn}(h:loadF s=some fns)(hs:s.length≤2000):Loads s fns:=by
 unfold loadF at h
 cases e:toksO s 600 0 with
 | none=>rw[e] at h;cases h
 | some ts =>
  rw[e] at h
  simp only at h
  have hts:=toksO_is e
  cases e2:pProg (ts.length+1) ts with
  | err c a=>rw[e2] at h;split at h<;>cases h
  | ok f r =>
   rw[e2] at h
   cases e3:chk s.length (.ok f r) with
   | some x=>rw[e3] at h;cases h
   | none =>
    rw[e3] at h
    simp only[okR,Option.map_some,Option.some.injEq] at h
    subst h
    refine⟨⟨ts,r,hts,?_,e2⟩,progOk_of hts hs e2 e3,?_⟩
    ·rw[answer,if_neg (by omega),e2,e3]
    ·have:nmAll [] f=none:=by
      simp only[chk] at e3
      cases e4:nmAll [] f with
      | none=>rfl
      | some x=>rw[e4] at e3;cases e3
     exact (nmAll_uniq f [] this).2
end Go.Proofs.YtifhgjpglicjbaaGreatDoor
namespace Go.Proofs.YtifhgjpglicjbaaGreatDoor
open Go.Proofs.Tryz
open Go.RowKit
def SegAt (w:World)(D:Nat→Prop)(e:TypeId)(size:Nat)(v:Value)(n:Nat)(xs:List Value):Prop :=
 xs.length=n*size∧((∃ad cap,v=.slice ad 0 cap)∧n=0∨∃g o cap cur,v=.slice (some ⟨g,o,none⟩) n cap∧D g∧w.heap[g]?=some (.cells cur e)∧n≤cap∧cap≤maxLen∧o+cap*size≤cur.size∧(cur.toList.drop o).take (n*size)=xs)
theorem SegAt.of_row {w:World}{D:Nat→Prop}{e:TypeId}{size:Nat}{v:Value}{n:Nat}{xs:List Value}(h:RowAt w D e size v n xs):SegAt w D e size v n xs:=by
 refine⟨h.1,?_⟩
 rcases h.2 with ⟨rfl,h0⟩ | ⟨g,cap,cur,hv,hg,hh,hc,hm,hz,ht⟩
 ·exact Or.inl ⟨⟨_,_,rfl⟩,h0⟩
 ·exact Or.inr ⟨g,0,cap,cur,hv,hg,hh,hc,hm,by omega,by simpa using ht⟩
theorem SegAt.weaken {w:World}{D D':Nat→Prop}{e:TypeId}{size:Nat}{v:Value}{n:Nat}{xs:List Value}(h:SegAt w D e size v n xs)(hD:∀k,D k→D' k):SegAt w D' e size v n xs:=by
 refine⟨h.1,?_⟩
 rcases h.2 with g | ⟨g,o,cap,cur,hv,hg,r⟩
 ·exact Or.inl g
 ·exact Or.inr ⟨g,o,cap,cur,hv,hD g hg,r⟩
theorem SegAt.keep {w w':World}{D:Nat→Prop}{e:TypeId}{size:Nat}{v:Value}{n:Nat}{xs:List Value}(h:SegAt w D e size v n xs)(hS:Same D w w'):SegAt w' (fun k=>D k∧k<w.heap.size) e size v n xs:=by
 refine⟨h.1,?_⟩
 rcases h.2 with g | ⟨g,o,cap,cur,hv,hg,hh,r⟩
 ·exact Or.inl g
 ·exact Or.inr ⟨g,o,cap,cur,hv,⟨hg,block_lt hh⟩,by rw[hS g hg (block_lt hh)];exact hh,r⟩
theorem SegAt.slice {w:World}{D:Nat→Prop}{e:TypeId}{size:Nat}{v:Value}{n:Nat}{xs:List Value}(h:SegAt w D e size v n xs):∃ad cap,v=.slice ad n cap:=by
 rcases h.2 with ⟨⟨ad,cap,hv⟩,h0⟩ | ⟨g,o,cap,cur,hv,_⟩
 ·exact⟨ad,cap,by rw[h0];exact hv⟩
 ·exact⟨_,cap,hv⟩
theorem SegAt.cap {w:World}{D:Nat→Prop}{e:TypeId}{size:Nat}{v:Value}{n:Nat}{xs:List Value}(h:SegAt w D e size v n xs)(hn:0<n):∃g o cap,v=.slice (some ⟨g,o,none⟩) n cap∧D g∧n≤cap∧cap≤maxLen:=by
 rcases h.2 with ⟨_,h0⟩ | ⟨g,o,cap,cur,hv,hg,hh,hc,hm,_⟩
 ·omega
 ·exact⟨g,o,cap,hv,hg,hc,hm⟩
theorem SegAt.cell {w:World}{D:Nat→Prop}{e:TypeId}{size:Nat}{v:Value}{n:Nat}{xs:List Value}(h:SegAt w D e size v n xs)(hn:0<n):
  ∃g o cap,v=.slice (some ⟨g,o,none⟩) n cap∧D g∧n≤cap∧cap≤maxLen∧(∀j,j<n*size→w.cell? ⟨g,o+j,none⟩=xs[j]?):=by
 rcases h.2 with ⟨_,h0⟩ | ⟨g,o,cap,cur,hv,hg,hh,hc,hm,hz,ht⟩
 ·omega
 ·refine⟨g,o,cap,hv,hg,hc,hm,fun j hj=>?_⟩
  have:w.cell? ⟨g,o+j,none⟩=cur[o+j]?:=by unfold World.cell?;rw[hh];rfl
  rw[this,←ht,List.getElem?_take,if_pos hj,List.getElem?_drop,Array.getElem?_toList]
theorem SegAt.sub {w:World}{D:Nat→Prop}{e:TypeId}{size g o n cap:Nat}{xs:List Value}(h:SegAt w D e size (.slice (some ⟨g,o,none⟩) n cap) n xs)(i m:Nat)(hi:i+m≤n)(h0:0<m):
  SegAt w D e size (.slice (some ⟨g,o+i*size,none⟩) m (cap-i)) m ((xs.drop (i*size)).take (m*size)):=by
 rcases h.2 with ⟨_,hz⟩ | ⟨g',o',cap',cur,hv,hg,hh,hc,hm,hz,ht⟩
 ·omega
 ·cases hv
  have hmul:(i+m)*size≤n*size:=Nat.mul_le_mul_right _ hi
  have hmul2:(cap-i)*size+i*size=cap*size:=by rw[←Nat.add_mul,Nat.sub_add_cancel (by omega)]
  rw[Nat.add_mul] at hmul
  refine⟨by simp[h.1];omega,Or.inr ⟨g,o+i*size,cap-i,cur,rfl,hg,hh,by omega,by omega,by omega,?_⟩⟩
  rw[←ht,List.drop_take,List.drop_drop,List.take_take,Nat.min_eq_left (by omega)]
theorem SegAt.below {w w':World}{D:Nat→Prop}{e:TypeId}{size:Nat}{v:Value}{n:Nat}{xs:List Value}(h:SegAt w D e size v n xs)(hb:Below w.heap.size w w'):SegAt w' D e size v n xs :=
 (h.keep (w':=w') fun k _ hlt=>hb.block k hlt).weaken fun _ hk=>hk.1
theorem SegAt.touch {w w':World}{D S:Nat→Prop}{e:TypeId}{size:Nat}{v:Value}{n:Nat}{xs:List Value}(h:SegAt w D e size v n xs)(ht:Touch S w w')(hD:∀k,D k→¬ S k):SegAt w' D e size v n xs :=
 (h.keep (w':=w') fun k hk hlt=>ht.block k hlt (hD k hk)).weaken fun _ hk=>hk.1
end Go.Proofs.YtifhgjpglicjbaaGreatDoor
namespace Go.Proofs.YtifhgjpglicjbaaGreatDoor
open Go.Proofs.Tryz
open Go.RowKit
attribute [local go_sem ↓] Go.wp_at_zero Go.wp_at_succ
theorem wtVs_take (l:List PV)(j:Nat)(hj:j<l.length):wtVs (l.take (j+1))=wtVs (l.take j)+wtV l[j]:=by
 rw[List.take_succ_eq_append_getElem hj,wtVs_snoc]
theorem wtVs_take_le (l:List PV)(j:Nat):wtVs (l.take j)≤wtVs l:=by
 conv=>rhs;rw[←List.take_append_drop j l]
 rw[wtVs_append]
 omega
theorem tl_size (s:ByteArray):s.data.toList.length=s.size:=by rw[Array.length_toList];rfl
mutual
def VL (w:World)(D:Nat→Prop):PV→Value→Prop
 | .num z,x=>x=.iface 190 (.int .i64 z)
 | .txt b,x=>∃s:ByteArray,s.data.toList=b∧x=.iface 193 (.string s)
 | .lst l,x=>∃sl cs,x=.iface 195 (.agg #[sl,.int .i64 ((wtVs l:Nat):Int)])∧SegAt w D 74 1 sl l.length cs∧VLs w D l cs
def VLs (w:World)(D:Nat→Prop):List PV→List Value→Prop
 | [],cs=>cs=[]
 | v::r,cs=>∃x xs,cs=x::xs∧VL w D v x∧VLs w D r xs
end
mutual
theorem VL.map {w w':World}{D D':Nat→Prop}(hR:∀sl n vs,SegAt w D 74 1 sl n vs→SegAt w' D' 74 1 sl n vs):∀{v:PV} {x:Value},VL w D v x→VL w' D' v x
 | .num z,x,h=>by rw[VL] at h ⊢;exact h
 | .txt b,x,h=>by rw[VL] at h ⊢;exact h
 | .lst l,x,h=>by
  rw[VL] at h ⊢
  obtain⟨sl,cs,h1,h2,h3⟩:=h
  exact⟨sl,cs,h1,hR _ _ _ h2,VLs.map hR h3⟩
theorem VLs.map {w w':World}{D D':Nat→Prop}(hR:∀sl n vs,SegAt w D 74 1 sl n vs→SegAt w' D' 74 1 sl n vs):∀{l:List PV} {cs:List Value},VLs w D l cs→VLs w' D' l cs
 | [],cs,h=>by rw[VLs] at h ⊢;exact h
 | v::r,cs,h=>by
  rw[VLs] at h ⊢
  obtain⟨x,xs,h1,h2,h3⟩:=h
  exact⟨x,xs,h1,VL.map hR h2,VLs.map hR h3⟩
end
theorem VL.weaken {w:World}{D D':Nat→Prop}(hD:∀k,D k→D' k){v:PV}{x:Value}(h:VL w D v x):VL w D' v x:=h.map fun _ _ _ g=>g.weaken hD
theorem VLs.weaken {w:World}{D D':Nat→Prop}(hD:∀k,D k→D' k){v:List PV}{x:List Value}(h:VLs w D v x):VLs w D' v x:=h.map fun _ _ _ g=>g.weaken hD
theorem VL.below {w w':World}{D:Nat→Prop}{v:PV}{x:Value}(h:VL w D v x)(hb:Below w.heap.size w w'):VL w' D v x:=h.map fun _ _ _ g=>g.below hb
theorem VLs.below {w w':World}{D:Nat→Prop}{v:List PV}{x:List Value}(h:VLs w D v x)(hb:Below w.heap.size w w'):VLs w' D v x:=h.map fun _ _ _ g=>g.below hb
theorem VL.touch {w w':World}{D S:Nat→Prop}{v:PV}{x:Value}(h:VL w D v x)(ht:Touch S w w')(hD:∀k,D k→¬ S k):VL w' D v x:=h.map fun _ _ _ g=>g.touch ht hD
theorem VLs.touch {w w':World}{D S:Nat→Prop}{v:List PV}{x:List Value}(h:VLs w D v x)(ht:Touch S w w')(hD:∀k,D k→¬ S k):VLs w' D v x:=h.map fun _ _ _ g=>g.touch ht hD
theorem VLs.length {w:World}{D:Nat→Prop}:∀{l:List PV} {cs:List Value},VLs w D l cs→cs.length=l.length
 | [],cs,h=>by rw[VLs] at h;rw[h];rfl
 | v::r,cs,h=>by
  rw[VLs] at h
  obtain⟨x,xs,rfl,_,h3⟩:=h
  simp[VLs.length h3]
theorem VLs.at {w:World}{D:Nat→Prop}:∀{l:List PV} {cs:List Value},VLs w D l cs→∀j (hj:j<l.length),∃x,cs[j]?=some x∧VL w D l[j] x
 | [],cs,h,j,hj=>by simp at hj
 | v::r,cs,h,j,hj=>by
  rw[VLs] at h
  obtain⟨x,xs,rfl,h2,h3⟩:=h
  cases j with
  | zero=>exact⟨x,rfl,h2⟩
  | succ j =>
   obtain⟨y,e,hy⟩:=VLs.at h3 j (by simpa using hj)
   exact⟨y,by simpa using e,by simpa using hy⟩
theorem VLs.append {w:World}{D:Nat→Prop}{b:List PV}{bs:List Value}(hb:VLs w D b bs):∀{a:List PV} {cs:List Value},VLs w D a cs→VLs w D (a++b) (cs++bs)
 | [],cs,h=>by rw[VLs] at h;subst h;exact hb
 | v::r,cs,h=>by
  rw[VLs] at h
  obtain⟨x,xs,rfl,h2,h3⟩:=h
  rw[List.cons_append,List.cons_append,VLs]
  exact⟨x,xs++bs,rfl,h2,VLs.append hb h3⟩
theorem VLs.one {w:World}{D:Nat→Prop}{v:PV}{x:Value}(h:VL w D v x):VLs w D [v] [x]:=by
 rw[VLs]
 exact⟨x,[],rfl,h,by rw[VLs]⟩
theorem VL.iface {w:World}{D:Nat→Prop}{v:PV}{x:Value}(h:VL w D v x):∃t y,x=.iface t y:=by
 cases v with
 | num z=>rw[VL] at h;exact⟨_,_,h⟩
 | txt b=>rw[VL] at h;obtain⟨s,_,h⟩:=h;exact⟨_,_,h⟩
 | lst l=>rw[VL] at h;obtain⟨_,_,h,_⟩:=h;exact⟨_,_,h⟩
theorem va_num_num (x:Value)(w:World):(Instr.typeAssert (.iface 190 x) 74 190 true).run prog w=.ok (.tuple #[x,.bool true]) w:=by kernel_rfl
theorem va_num_txt (x:Value)(w:World):(Instr.typeAssert (.iface 190 x) 74 193 true).run prog w=.ok (.tuple #[.string ⟨#[]⟩,.bool false]) w:=by kernel_rfl
theorem va_num_lst (x:Value)(w:World):(Instr.typeAssert (.iface 190 x) 74 195 true).run prog w=.ok (.tuple #[.agg #[.slice none 0 0,.int .i64 0],.bool false]) w:=by kernel_rfl
theorem va_txt_num (x:Value)(w:World):(Instr.typeAssert (.iface 193 x) 74 190 true).run prog w=.ok (.tuple #[.int .i64 0,.bool false]) w:=by kernel_rfl
theorem va_txt_txt (x:Value)(w:World):(Instr.typeAssert (.iface 193 x) 74 193 true).run prog w=.ok (.tuple #[x,.bool true]) w:=by kernel_rfl
theorem va_txt_lst (x:Value)(w:World):(Instr.typeAssert (.iface 193 x) 74 195 true).run prog w=.ok (.tuple #[.agg #[.slice none 0 0,.int .i64 0],.bool false]) w:=by kernel_rfl
theorem va_lst_num (x:Value)(w:World):(Instr.typeAssert (.iface 195 x) 74 190 true).run prog w=.ok (.tuple #[.int .i64 0,.bool false]) w:=by kernel_rfl
theorem va_lst_txt (x:Value)(w:World):(Instr.typeAssert (.iface 195 x) 74 193 true).run prog w=.ok (.tuple #[.string ⟨#[]⟩,.bool false]) w:=by kernel_rfl
theorem va_lst_lst (x:Value)(w:World):(Instr.typeAssert (.iface 195 x) 74 195 true).run prog w=.ok (.tuple #[x,.bool true]) w:=by kernel_rfl
attribute [local go_sem] va_num_num va_num_txt va_num_lst va_txt_num va_txt_txt va_txt_lst va_lst_num va_lst_txt va_lst_lst
theorem weigh_any (D:Nat→Prop)(v:PV)(x:Value)(w:World)(hv:VL w D v x)(hw:wtV v≤1000000000):
  Calls prog 112 #[x] w fun e w'=>e=.returned (.int .i64 ((wtV v:Nat):Int))∧Below w.heap.size w w':=by
 cases v with
 | num z =>
  rw[VL] at hv
  subst hv
  rw[wtV]
  go_enter func112,ntmps112
  go_wp2
  go_ret
  exact⟨rfl,Below.refl _ _⟩
 | txt b =>
  rw[VL] at hv
  obtain⟨s,hs,rfl⟩:=hv
  rw[wtV] at hw ⊢
  rw[←hs,tl_size] at hw ⊢
  go_enter func112,ntmps112
  go_wp2
  go_ret
  exact⟨by congr 2,Below.refl _ _⟩
 | lst l =>
  rw[VL] at hv
  obtain⟨sl,cs,rfl,h2,_⟩:=hv
  obtain⟨ad,cap,rfl⟩:=h2.slice
  rw[wtV] at hw ⊢
  clear h2
  generalize wtVs l=n at *
  go_enter func112,ntmps112
  go_wp2
  go_ret
  exact⟨by congr 2,below1 w _⟩
theorem clip_any (ad:Option Addr)(n cap:Nat)(w:World)(h1:n≤cap)(_h2:cap≤maxLen):
  Calls prog 166 #[.slice ad n cap] w fun e w'=>e=.returned (.slice ad n n)∧w'=w:=by
 unfold maxLen at _h2
 go_enter func166,ntmps166
 go_wp2
 go_ret
 exact⟨rfl,rfl⟩
theorem items_any (ad:Option Addr)(n cap:Nat)(z:Int)(w:World)(h1:n≤cap)(h2:cap≤maxLen):
  Calls prog 124 #[.agg #[.slice ad n cap,.int .i64 z]] w fun e w'=>e=.returned (.slice ad n n)∧Below w.heap.size w w':=by
 have cc:=fun w=>clip_any ad n cap w h1 h2
 go_enter func124,ntmps124
 go_wp2_with (go_at_call 166;refine (cc _).mono ?_;rintro e w' ⟨rfl,rfl⟩)
 go_ret
 exact⟨rfl,below1 w _⟩
theorem newList_any (D:Nat→Prop)(l:List PV)(sl:Value)(cs:List Value)(w:World)(hseg:SegAt w D 74 1 sl l.length cs)(hvs:VLs w D l cs)(hw:wtVs l≤1000000000):
  Calls prog 143 #[sl] w fun e w'=>e=.returned (.agg #[sl,.int .i64 ((wtVs l:Nat):Int)])∧Below w.heap.size w w':=by
 obtain⟨ad,cap,rfl⟩:=hseg.slice
 have bX:=below1 w (Obj.cells #[.slice none 0 0,.int .i64 0] 195)
 have hX:(w.alloc (Obj.cells #[.slice none 0 0,.int .i64 0] 195)).heap[w.heap.size]?=some (.cells #[.slice none 0 0,.int .i64 0] 195):=heap_alloc_new _ _
 have hXz:(w.alloc (Obj.cells #[.slice none 0 0,.int .i64 0] 195)).heap.size=w.heap.size+1:=by simp
 go_enter func143,ntmps143
 go_wp2
 go_loopg [3,8] l.length (fun k av iv wr=>∃j:Nat,k=l.length-j∧iv=.int .i64 ((j:Nat):Int)∧av=.int .i64 ((wtVs (l.take j):Nat):Int)∧j≤l.length∧Below (w.heap.size+1) (w.alloc (Obj.cells #[.slice none 0 0,.int .i64 0] 195)) wr)
 case atStart=>exact⟨0,by omega,rfl,by simp[wtVs],by omega,Below.refl _ _⟩
 case round =>
  obtain⟨j,rfl,rfl,rfl,hj,hb⟩:=hrel
  have hbw:Below w.heap.size w wr:=bX.trans (hb.mono (by omega))
  by_cases hjl:j<l.length
  ·obtain⟨g,o,cap',e,hg,hc1,hc2,hcell⟩:=hseg.cell (by omega)
   simp only[Value.slice.injEq] at e
   obtain⟨rfl,_,rfl⟩:=e
   obtain⟨x,hx,hvx⟩:=hvs.at j hjl
   have c0:wr.cell? ⟨g,o+j,none⟩=some x:=Below.cellv hbw (by have:=hcell j (by rw[Nat.mul_one];omega);rw[this];exact hx)
   obtain⟨tx,yx,rfl⟩:=hvx.iface
   have hle:=wtVs_take_le l (j+1)
   have hwt:=wtVs_take l j hjl
   have cw:=weigh_any D l[j] _ wr (hvx.below hbw) (by omega)
   have HW:Aside (wtVs (l.take (j+1))=wtVs (l.take j)+wtV l[j]):=hwt
   have hs1:wtVs (l.take j)+wtV l[j]≤1000000000:=by omega
   clear hvx hseg hvs hcell hwt hle hx
   generalize wtV l[j]=m at *
   generalize hT:wtVs (l.take j)=s at *
   unfold maxLen at hc2
   go_wp2_with (go_at_call 112;refine cw.mono ?_;rintro e w2 ⟨rfl,hb2⟩)
   go_roundg (l.length-(j+1))
   case measure=>omega
   case rel=>exact⟨j+1,rfl,by go_num,by rw[HW.out];go_num,by omega,hb.trans (hb2.mono (by have:=hb.size;omega))⟩
  ·have hjj:j=l.length:=by omega
   subst hjj
   rw[List.take_length]
   have h2:wr.heap[w.heap.size]?=some (.cells #[.slice none 0 0,.int .i64 0] 195):=by rw[hb.block _ (by omega)];exact hX
   have c0:wr.cell? ⟨w.heap.size,0,none⟩=some (.slice none 0 0):=by unfold World.cell?;rw[h2];rfl
   have c1:wr.cell? ⟨w.heap.size,1,none⟩=some (.int .i64 0):=by unfold World.cell?;rw[h2];rfl
   have f0:wr.frozen? ⟨w.heap.size,0,none⟩=false:=by unfold World.frozen?;rw[h2];rfl
   have f1:wr.frozen? ⟨w.heap.size,1,none⟩=false:=by unfold World.frozen?;rw[h2];rfl
   clear hseg hvs
   go_wp2
   exact bodyPost_ret (v:=.agg #[.slice ad l.length cap,.int .i64 ((wtVs l:Nat):Int)]) (by simp[results,results143,go_sem,c0,c1]) rfl ⟨rfl,(hbw.setCell (p:=⟨w.heap.size,0,none⟩) (Nat.le_refl _) _).setCell (p:=⟨w.heap.size,1,none⟩) (Nat.le_refl _) _⟩
end Go.Proofs.YtifhgjpglicjbaaGreatDoor
namespace Go.Proofs.YtifhgjpglicjbaaGreatDoor
open Go.Proofs.Tryz
open Go.RowKit
attribute [local go_sem ↓] Go.wp_at_zero Go.wp_at_succ
structure RdB (w:World)(rb:Nat)(s:ByteArray)(p k:Nat):Prop where
 blk:w.heap[rb]?=some (.cells #[.string s,.int .i64 ((p:Nat):Int),.int .i64 ((k:Nat):Int)] 183)
 hp:p≤s.size
 hs:s.size≤1000000000000
 hk:k≤2000000000000
theorem RdB.cells {w:World}{rb:Nat}{s:ByteArray}{p k:Nat}(h:RdB w rb s p k):w.cell? ⟨rb,0,none⟩=some (.string s)∧w.cell? ⟨rb,1,none⟩=some (.int .i64 ((p:Nat):Int))∧w.cell? ⟨rb,2,none⟩=some (.int .i64 ((k:Nat):Int))∧(∀j,w.frozen? ⟨rb,j,none⟩=false)∧rb<w.heap.size:=by
 have hb:=h.blk
 refine⟨?_,?_,?_,fun j=>?_,block_lt hb⟩
 ·unfold World.cell?;rw[hb];rfl
 ·unfold World.cell?;rw[hb];rfl
 ·unfold World.cell?;rw[hb];rfl
 ·unfold World.frozen?;rw[hb];rfl
theorem RdB.same {w w':World}{rb:Nat}{s:ByteArray}{p k:Nat}(h:RdB w rb s p k)(e:w'.heap[rb]?=w.heap[rb]?):RdB w' rb s p k:=⟨by rw[e];exact h.blk,h.hp,h.hs,h.hk⟩
theorem RdB.below {w w':World}{rb:Nat}{s:ByteArray}{p k:Nat}(h:RdB w rb s p k)(hb:Below w.heap.size w w'):RdB w' rb s p k:=h.same (hb.block rb (block_lt h.blk))
theorem RdB.move {w:World}{rb:Nat}{s:ByteArray}{p k:Nat}(h:RdB w rb s p k)(p':Nat)(hp:p'≤s.size):RdB (w.setCell ⟨rb,1,none⟩ (.int .i64 ((p':Nat):Int))) rb s p' k:=⟨by rw[set_block h.blk];simp,hp,h.hs,h.hk⟩
theorem RdB.heavy {w:World}{rb:Nat}{s:ByteArray}{p k:Nat}(h:RdB w rb s p k)(k':Nat)(hk:k'≤2000000000000):RdB (w.setCell ⟨rb,2,none⟩ (.int .i64 ((k':Nat):Int))) rb s p k':=⟨by rw[set_block h.blk];simp,h.hp,h.hs,hk⟩
theorem RdB.drewN {w:World}{rb:Nat}{s:ByteArray}{p k:Nat}(h:RdB w rb s p k)(n:Nat):RdB (w.drewN n) rb s p k:=h.same rfl
def whyV (x:Value):Prop:=∃b:ByteArray,x=.iface 69 (.string b)
theorem weigh_at {w:World}{rb:Nat}{s:ByteArray}{p k:Nat}(h:RdB w rb s p k)(m:Nat)(hm:k+m≤2000000000000):
  Calls prog 105 #[.pointer (some ⟨rb,0,none⟩),.int .i64 ((m:Nat):Int)] w fun e w'=>Touch (·=rb) w w'∧RdB w' rb s p (k+m)∧((k+m≤600∧e=.returned .nilIface)∨(600<k+m∧∃x,whyV x∧e=.returned x)):=by
 obtain⟨c0,c1,c2,cf,lr⟩:=h.cells
 have cf2:=cf 2
 have H:Aside (RdB (w.setCell ⟨rb,2,none⟩ (.int .i64 ((k:Int)+m))) rb s p (k+m)):=by
  have:=h.heavy (k+m) hm
  rw[Int.natCast_add] at this
  exact this
 have T:Aside (Touch (·=rb) w (w.setCell ⟨rb,2,none⟩ (.int .i64 ((k:Int)+m)))):=(Touch.refl (·=rb) w).setCell (p:=⟨rb,2,none⟩) (Or.inl rfl) _
 clear h
 by_cases hw:k+m≤600
 ·have hwi:((k:Nat):Int)+((m:Nat):Int)≤600:=by omega
  go_enter func105,ntmps105
  go_wp2
  go_ret
  exact⟨T.out,H.out,Or.inl ⟨hw,rfl⟩⟩
 ·have hwi:(600:Int)<((k:Nat):Int)+((m:Nat):Int):=by omega
  go_enter func105,ntmps105
  go_wp2
  go_ret
  exact⟨T.out,H.out,Or.inr ⟨by omega,_,⟨_,rfl⟩,rfl⟩⟩
theorem hasPrefix_one (c:UInt8)(s:ByteArray)(w:World)(hs:s.size≤maxLen):
  Calls prog 142 #[.string s,.string ⟨#[c]⟩] w fun e w'=>e=.returned (.bool (startsB c s.data.toList))∧w'=w:=by
 unfold maxLen at hs
 by_cases h:1≤s.size
 ·have h2:(1:Int)≤s.size:=by omega
  go_enter func142,ntmps142
  go_wp2
  go_ret
  exact⟨ret_bool (ext01 s c),rfl⟩
 ·have h2:(s.size:Int)<1:=by omega
  have h3:=starts_small s c h
  go_enter func142,ntmps142
  go_wp2
  all_goals (go_ret;exact⟨rfl,rfl⟩)
theorem starts_lt {c:UInt8}{s:ByteArray}{p:Nat}(h:startsB c (s.data.toList.drop p)=true):p<s.size:=by
 rcases Nat.lt_or_ge p s.size with g | g
 ·exact g
 ·rw[List.drop_eq_nil_of_le (by rw[len_data];exact g)] at h
  simp[startsB] at h
theorem take_at {w:World}{rb:Nat}{s:ByteArray}{p k:Nat}(h:RdB w rb s p k)(c:UInt8):
  Calls prog 106 #[.pointer (some ⟨rb,0,none⟩),.string ⟨#[c]⟩] w fun e w'=>Touch (·=rb) w w'∧e=.returned (.bool (startsB c (s.data.toList.drop p)))∧RdB w' rb s (if startsB c (s.data.toList.drop p) then p+1 else p) k:=by
 obtain⟨c0,c1,c2,cf,lr⟩:=h.cells
 have cf1:=cf 1
 have hp:=h.hp
 have hs:=h.hs
 have hpi:((p:Nat):Int)≤((s.size:Nat):Int):=by omega
 have er:(s.extract p s.size).data.toList=s.data.toList.drop p:=Lib.extract_to_end s p
 have ch:=fun w=>hasPrefix_one c (s.extract p s.size) w (by rw[←len_data,er,List.length_drop,len_data];unfold maxLen;omega)
 rw[er] at ch
 cases hb:startsB c (s.data.toList.drop p) with
 | false =>
  rw[hb] at ch
  have H:=h
  clear h er hb
  go_enter func106,ntmps106
  go_wp2_with fail
  go_quiet ((go_at_call 142;refine Calls.quiet_of_same (ch _)))
  go_wp2
  go_ret
  exact⟨(Touch.refl (·=rb) w).drewN _,rfl,H.drewN _⟩
 | true =>
  rw[hb] at ch
  have hlt:=starts_lt hb
  have H:Aside (∀n,RdB ((w.drewN n).setCell ⟨rb,1,none⟩ (.int .i64 ((p:Int)+1))) rb s (p+1) k):=fun n=>by
   have:=(h.drewN n).move (p+1) (by omega)
   rw[Int.natCast_add] at this
   exact this
  clear h er hb
  go_enter func106,ntmps106
  go_wp2_with fail
  go_quiet ((go_at_call 142;refine Calls.quiet_of_same (ch _)))
  go_wp2
  go_ret
  exact⟨((Touch.refl (·=rb) w).drewN _).setCell (p:=⟨rb,1,none⟩) (Or.inl rfl) _,rfl,H.out _⟩
theorem ext_take (t:ByteArray)(r:Nat):(t.extract 0 r).data.toList=t.data.toList.take r:=by simp[ByteArray.data_extract]
theorem run_le (q:UInt8→Bool)(s:ByteArray)(p:Nat)(hp:p≤s.size):p+runL q (s.data.toList.drop p)≤s.size:=by
 have:=runL_le q (s.data.toList.drop p)
 rw[List.length_drop,len_data] at this
 omega
theorem rdrun_isDigit {w:World}{rb:Nat}{s:ByteArray}{p k:Nat}(h:RdB w rb s p k):
  Calls prog 144 #[.pointer (some ⟨rb,0,none⟩),.func (.func 129) #[] #[]] w fun e w'=>Touch (·=rb) w w'∧(∃t:ByteArray,t.data.toList=(s.data.toList.drop p).take (runL digit (s.data.toList.drop p))∧e=.returned (.string t))∧RdB w' rb s (p+runL digit (s.data.toList.drop p)) k:=by
 obtain⟨c0,c1,c2,cf,lr⟩:=h.cells
 have cf1:=cf 1
 have hp:=h.hp
 have hs:=h.hs
 have hpi:((p:Nat):Int)≤((s.size:Nat):Int):=by omega
 have er:(s.extract p s.size).data.toList=s.data.toList.drop p:=Lib.extract_to_end s p
 have esz:(s.extract p s.size).size=s.size-p:=by rw[←len_data,er,List.length_drop,len_data]
 have ch:=fun w=>run_isDigit (s.extract p s.size) w (by rw[esz];unfold maxLen;omega)
 rw[er] at ch
 have hrl:=run_le digit s p hp
 have hrl2:runL digit (s.data.toList.drop p)≤(s.extract p s.size).size:=by omega
 have TT:Aside (((s.extract p s.size).extract 0 (runL digit (s.data.toList.drop p))).data.toList=(s.data.toList.drop p).take (runL digit (s.data.toList.drop p))):=by
  show _=_
  rw[ext_take,er]
 have TZ:Aside (((s.extract p s.size).extract 0 (runL digit (s.data.toList.drop p))).size=runL digit (s.data.toList.drop p)):=by
  show _=_
  rw[←len_data,TT.out,List.length_take,List.length_drop,len_data]
  omega
 have H:Aside (∀n,RdB ((w.drewN n).setCell ⟨rb,1,none⟩ (.int .i64 (((p+runL digit (s.data.toList.drop p):Nat)):Int))) rb s (p+runL digit (s.data.toList.drop p)) k):=fun n=>(h.drewN n).move _ hrl
 clear h er
 generalize runL digit (s.data.toList.drop p)=r at *
 go_enter func144,ntmps144
 go_wp2_with fail
 go_quiet ((go_at_call 62;refine Calls.quiet_of_same (ch _)))
 have hsum:IntKind.i64.wrap (((p:Nat):Int)+((r:Nat):Int))=((p+r:Nat):Int):=by rw[IntKind.wrap_i64];omega
 have htz:=TZ.out
 generalize (s.extract p s.size).extract 0 r=t at *
 go_wp2
 go_ret
 refine⟨((Touch.refl (·=rb) w).drewN _).setCell (p:=⟨rb,1,none⟩) (Or.inl rfl) _,⟨t,TT.out,rfl⟩,?_⟩
 have:=H.out nq
 rw[Int.natCast_add] at this
 exact this
theorem rdrun_isQuotable {w:World}{rb:Nat}{s:ByteArray}{p k:Nat}(h:RdB w rb s p k):
  Calls prog 144 #[.pointer (some ⟨rb,0,none⟩),.func (.func 42) #[] #[]] w fun e w'=>Touch (·=rb) w w'∧(∃t:ByteArray,t.data.toList=(s.data.toList.drop p).take (runL quot (s.data.toList.drop p))∧e=.returned (.string t))∧RdB w' rb s (p+runL quot (s.data.toList.drop p)) k:=by
 obtain⟨c0,c1,c2,cf,lr⟩:=h.cells
 have cf1:=cf 1
 have hp:=h.hp
 have hs:=h.hs
 have hpi:((p:Nat):Int)≤((s.size:Nat):Int):=by omega
 have er:(s.extract p s.size).data.toList=s.data.toList.drop p:=Lib.extract_to_end s p
 have esz:(s.extract p s.size).size=s.size-p:=by rw[←len_data,er,List.length_drop,len_data]
 have ch:=fun w=>run_isQuotable (s.extract p s.size) w (by rw[esz];unfold maxLen;omega)
 rw[er] at ch
 have hrl:=run_le quot s p hp
 have hrl2:runL quot (s.data.toList.drop p)≤(s.extract p s.size).size:=by omega
 have TT:Aside (((s.extract p s.size).extract 0 (runL quot (s.data.toList.drop p))).data.toList=(s.data.toList.drop p).take (runL quot (s.data.toList.drop p))):=by
  show _=_
  rw[ext_take,er]
 have TZ:Aside (((s.extract p s.size).extract 0 (runL quot (s.data.toList.drop p))).size=runL quot (s.data.toList.drop p)):=by
  show _=_
  rw[←len_data,TT.out,List.length_take,List.length_drop,len_data]
  omega
 have H:Aside (∀n,RdB ((w.drewN n).setCell ⟨rb,1,none⟩ (.int .i64 (((p+runL quot (s.data.toList.drop p):Nat)):Int))) rb s (p+runL quot (s.data.toList.drop p)) k):=fun n=>(h.drewN n).move _ hrl
 clear h er
 generalize runL quot (s.data.toList.drop p)=r at *
 go_enter func144,ntmps144
 go_wp2_with fail
 go_quiet ((go_at_call 62;refine Calls.quiet_of_same (ch _)))
 have hsum:IntKind.i64.wrap (((p:Nat):Int)+((r:Nat):Int))=((p+r:Nat):Int):=by rw[IntKind.wrap_i64];omega
 have htz:=TZ.out
 generalize (s.extract p s.size).extract 0 r=t at *
 go_wp2
 go_ret
 refine⟨((Touch.refl (·=rb) w).drewN _).setCell (p:=⟨rb,1,none⟩) (Or.inl rfl) _,⟨t,TT.out,rfl⟩,?_⟩
 have:=H.out nq
 rw[Int.natCast_add] at this
 exact this
end Go.Proofs.YtifhgjpglicjbaaGreatDoor
namespace Go.Proofs.YtifhgjpglicjbaaGreatDoor
open Go.Proofs.Tryz
open Go.Lib
def rdVx (l:List UInt8):Option (PV×List UInt8):=rdV (2*l.length+1) l
def rdLx (b:Bool)(l:List UInt8):Option (List PV×List UInt8):=rdL (2*l.length+2) b l
def lstR:Option (List PV×List UInt8)→Option (PV×List UInt8)
 | none=>none
 | some (vs,r)=>some (.lst vs,r)
theorem rdVx_list {l:List UInt8}(h:startsB 40 l=true):rdVx l=lstR (rdLx true (l.drop 1)):=by
 have hl:(l.drop 1).length+1=l.length:=by
  have:=congrArg List.length (starts_cons h)
  rw[List.length_cons] at this
  exact this.symm
 unfold rdVx rdLx
 rw[rdV,h]
 simp only[if_true]
 rw[rdL_fuel (2*l.length) (2*(l.drop 1).length+2) true (l.drop 1) (by omega) (by omega)]
 cases rdL (2*(l.drop 1).length+2) true (l.drop 1) with
 | none=>rfl
 | some x=>rfl
theorem rdVx_text {l:List UInt8}(h0:startsB 40 l=false)(h:startsB 39 l=true):rdVx l=if startsB 39 ((l.drop 1).drop (runL quot (l.drop 1))) then some (.txt ((l.drop 1).take (runL quot (l.drop 1))),((l.drop 1).drop (runL quot (l.drop 1))).drop 1) else none:=by
 unfold rdVx
 rw[rdV,h0,h]
 simp only[Bool.false_eq_true,if_false,if_true]
theorem rdVx_num {l:List UInt8}(h0:startsB 40 l=false)(h:startsB 39 l=false):rdVx l=(numOf (l.take (numLen l))).map fun z=>(.num z,l.drop (numLen l)):=by
 unfold rdVx
 rw[rdV,h0,h]
 simp only[Bool.false_eq_true,if_false]
 cases numOf (l.take (numLen l))<;>rfl
def consV (v:PV):Option (List PV×List UInt8)→Option (List PV×List UInt8)
 | none=>none
 | some (vs,r)=>some (v::vs,r)
theorem rdLx_close {b:Bool}{l:List UInt8}(h:startsB 41 l=true):rdLx b l=some ([],l.drop 1):=by
 unfold rdLx
 rw[rdL,h]
 simp only[if_true]
theorem rdLx_none {l:List UInt8}(h:startsB 41 l=false)(h2:startsB 32 l=false):rdLx false l=none:=by
 unfold rdLx
 rw[rdL,h,h2]
 simp
theorem rdLx_bad {b:Bool}{l:List UInt8}(h:startsB 41 l=false)(h2:b=false→startsB 32 l=true)(h3:rdVx (if b then l else l.drop 1)=none):rdLx b l=none:=by
 unfold rdLx
 rw[rdL,h]
 simp only[Bool.false_eq_true,if_false]
 have hc:¬ (b=false∧startsB 32 l=false):=fun g=>by rw[h2 g.1] at g;exact absurd g.2 (by decide)
 rw[if_neg hc]
 have hl:(if b then l else l.drop 1).length≤l.length:=by cases b<;>simp
 unfold rdVx at h3
 rw[rdV_fuel (2*l.length+1) (2*(if b then l else l.drop 1).length+1) _ (by omega) (by omega),h3]
theorem rdLx_more {b:Bool}{l:List UInt8}{v:PV}{r:List UInt8}(h:startsB 41 l=false)(h2:b=false→startsB 32 l=true)(h3:rdVx (if b then l else l.drop 1)=some (v,r)):rdLx b l=consV v (rdLx false r):=by
 unfold rdLx
 rw[rdL,h]
 simp only[Bool.false_eq_true,if_false]
 have hc:¬ (b=false∧startsB 32 l=false):=fun g=>by rw[h2 g.1] at g;exact absurd g.2 (by decide)
 rw[if_neg hc]
 have hl:(if b then l else l.drop 1).length≤l.length:=by cases b<;>simp
 unfold rdVx at h3
 have hr:=rdV_lt h3
 rw[rdV_fuel (2*l.length+1) (2*(if b then l else l.drop 1).length+1) _ (by omega) (by omega),h3]
 simp only
 rw[rdL_fuel (2*l.length+1) (2*r.length+2) false r (by omega) (by omega)]
 cases rdL (2*r.length+2) false r with
 | none=>rfl
 | some x=>rfl
def addV (us:List PV):Option (List PV×List UInt8)→Option (List PV×List UInt8)
 | none=>none
 | some (vs,r)=>some (us++vs,r)
theorem addV_cons (us:List PV)(v:PV)(o:Option (List PV×List UInt8)):addV us (consV v o)=addV (us++[v]) o:=by
 cases o with
 | none=>rfl
 | some x=>simp[addV,consV]
theorem addV_nil (o:Option (List PV×List UInt8)):addV [] o=o:=by
 cases o with
 | none=>rfl
 | some x=>rfl
theorem readV_eq (l:List UInt8):readV l=match rdVx l with
  | some (v,r)=>if r=[]∧wtV v≤600 then some v else none
  | none=>none:=rfl
mutual
theorem wt_le_wr:∀v:PV,wtV v≤(wrV v).length
 | .num z=>by rw[wtV,wrV];exact List.length_pos_iff.2 (itoa_ne z)
 | .txt b=>by rw[wtV,wrV];simp;omega
 | .lst l=>by
  rw[wtV,wrV]
  cases l with
  | nil=>simp[wtVs,wrVs]
  | cons v r =>
   have h1:=wt_le_wr v
   have h2:=wt_le_wrT r
   rw[wtVs,wrVs]
   simp
   omega
theorem wt_le_wrT:∀l:List PV,wtVs l≤(wrT l).length
 | []=>by simp[wtVs,wrT]
 | v::r=>by
  have h1:=wt_le_wr v
  have h2:=wt_le_wrT r
  rw[wtVs,wrT]
  simp
  omega
end
theorem rdVx_wt {l:List UInt8}{v:PV}{r:List UInt8}(h:rdVx l=some (v,r)):wtV v≤l.length∧okV v:=by
 obtain⟨e,o⟩:=rdV_wr _ _ _ _ h
 refine⟨?_,o⟩
 have:=wt_le_wr v
 rw[e]
 simp
 omega
def foldN (acc:Nat)(l:List UInt8):Int:=l.foldl (fun n c=>10*n+((c.toNat:Int)-48)) (acc:Int)
theorem foldN_cons {acc:Nat}{c:UInt8}{l:List UInt8}(h:48≤c.toNat):foldN acc (c::l)=foldN (acc*10+(c.toNat-48)) l:=by
 unfold foldN
 rw[List.foldl_cons]
 congr 1
 omega
theorem parseM_ok {M:Nat}:∀(l:List UInt8) (acc u:Nat),parseUintM M acc l=.ok u→(u:Int)=foldN acc l
 | [],acc,u,h=>by
  simp only[parseUintM,NumEnd.ok.injEq] at h
  subst h
  rfl
 | c::l,acc,u,h=>by
  simp only[parseUintM] at h
  split at h
  ·rename_i hc
   split at h
   ·cases h
   ·split at h
    ·cases h
    ·rw[foldN_cons hc.1]
     exact parseM_ok l _ u h
  ·cases h
theorem foldN_le:∀(l:List UInt8) (acc:Nat),(∀c∈l,digit c=true)→(acc:Int)≤foldN acc l
 | [],acc,_=>by simp[foldN]
 | c::l,acc,h=>by
  have hc:=h c (by simp)
  simp[digit,UInt8.le_iff_toNat_le] at hc
  rw[foldN_cons hc.1]
  have:=foldN_le l (acc*10+(c.toNat-48)) fun x hx=>h x (by simp[hx])
  omega
theorem parseM_of:∀(l:List UInt8) (acc:Nat),(∀c∈l,digit c=true)→foldN acc l≤9223372036854775808→∃u,parseUintM (2 ^ 64-1) acc l=.ok u
 | [],acc,_,_=>⟨acc,rfl⟩
 | c::l,acc,h,hb=>by
  have hc:=h c (by simp)
  simp[digit,UInt8.le_iff_toNat_le] at hc
  rw[foldN_cons hc.1] at hb
  have h1:=foldN_le l (acc*10+(c.toNat-48)) fun x hx=>h x (by simp[hx])
  obtain⟨u,hu⟩:=parseM_of l (acc*10+(c.toNat-48)) (fun x hx=>h x (by simp[hx])) hb
  refine⟨u,?_⟩
  simp only[parseUintM]
  rw[if_pos hc,if_neg (by omega),if_neg (by omega)]
  exact hu
structure SgD (t:List UInt8):Prop where
 dg:∀c∈unsignL t,digit c=true
theorem parse_val {t:List UInt8}(ht:SgD t){v:Int}(h:parseIntB 64 t=.ok v):v=numVal t∧In64 v:=by
 cases t with
 | nil=>simp[parseIntB] at h
 | cons c r =>
  have hd:=ht.dg
  by_cases hm:c=45
  ·subst hm
   have hsm:startsB 45 (45::r)=true:=by simp[startsB]
   have e:parseIntB 64 (45::r)=match parseUintB 64 r with | .syntax=>.syntax | .range=>.range | .ok u=>if 2 ^ 63<u then .range else .ok (-(u:Int)):=by
    simp[parseIntB]
    cases parseUintB 64 r<;>rfl
   rw[e] at h
   cases hu:parseUintB 64 r with
   | «syntax»=>rw[hu] at h;cases h
   | range=>rw[hu] at h;cases h
   | ok u =>
    rw[hu] at h
    simp only at h
    split at h
    ·cases h
    ·rename_i hb
     simp only[NumEnd.ok.injEq] at h
     unfold parseUintB at hu
     split at hu
     ·cases hu
     ·have h2:=parseM_ok r 0 u hu
      subst h
      refine⟨?_,by unfold In64;omega⟩
      unfold numVal
      rw[if_pos hsm,h2]
      rfl
  ·have hsm:startsB 45 (c::r)=false:=by simp[startsB,hm]
   have hun:unsignL (c::r)=c::r:=by simp[unsignL,hsm]
   rw[hun] at hd
   have hc:=hd c (by simp)
   simp[digit,UInt8.le_iff_toNat_le] at hc
   have e:parseIntB 64 (c::r)=match parseUintB 64 (c::r) with | .syntax=>.syntax | .range=>.range | .ok u=>if 2 ^ 63≤u then .range else .ok (u:Int):=by
    have n1:¬ c.toNat=43:=by omega
    have n2:¬ c.toNat=45:=by omega
    simp[parseIntB,n1,n2]
    cases parseUintB 64 (c::r)<;>rfl
   rw[e] at h
   cases hu:parseUintB 64 (c::r) with
   | «syntax»=>rw[hu] at h;cases h
   | range=>rw[hu] at h;cases h
   | ok u =>
    rw[hu] at h
    simp only at h
    split at h
    ·cases h
    ·rename_i hb
     simp only[NumEnd.ok.injEq] at h
     unfold parseUintB at hu
     rw[if_neg (by simp)] at hu
     have h2:=parseM_ok _ 0 u hu
     subst h
     refine⟨?_,by unfold In64;omega⟩
     unfold numVal
     rw[hsm,if_neg (by simp),h2]
     rfl
theorem parse_of {t:List UInt8}(ht:SgD t)(hne:unsignL t≠[])(hv:In64 (numVal t)):parseIntB 64 t=.ok (numVal t):=by
 unfold In64 at hv
 cases t with
 | nil=>simp[unsignL,startsB] at hne
 | cons c r =>
  have hd:=ht.dg
  by_cases hm:c=45
  ·subst hm
   have hsm:startsB 45 (45::r)=true:=by simp[startsB]
   have hun:unsignL (45::r)=r:=by simp[unsignL,hsm]
   rw[hun] at hd hne
   have hnv:numVal (45::r)=- foldN 0 r:=by unfold numVal;rw[if_pos hsm];rfl
   obtain⟨u,hu⟩:=parseM_of r 0 hd (by omega)
   have h2:=parseM_ok r 0 u hu
   have e:parseIntB 64 (45::r)=match parseUintB 64 r with | .syntax=>.syntax | .range=>.range | .ok u=>if 2 ^ 63<u then .range else .ok (-(u:Int)):=by
    simp[parseIntB]
    cases parseUintB 64 r<;>rfl
   have hub:parseUintB 64 r=.ok u:=by unfold parseUintB;rw[if_neg hne];exact hu
   rw[e,hub,hnv,←h2]
   simp only
   rw[if_neg (by omega)]
  ·have hsm:startsB 45 (c::r)=false:=by simp[startsB,hm]
   have hun:unsignL (c::r)=c::r:=by simp[unsignL,hsm]
   rw[hun] at hd
   have hc:=hd c (by simp)
   simp[digit,UInt8.le_iff_toNat_le] at hc
   have hnv:numVal (c::r)=foldN 0 (c::r):=by unfold numVal;rw[hsm,if_neg (by simp)];rfl
   obtain⟨u,hu⟩:=parseM_of (c::r) 0 hd (by omega)
   have h2:=parseM_ok (c::r) 0 u hu
   have e:parseIntB 64 (c::r)=match parseUintB 64 (c::r) with | .syntax=>.syntax | .range=>.range | .ok u=>if 2 ^ 63≤u then .range else .ok (u:Int):=by
    have n1:¬ c.toNat=43:=by omega
    have n2:¬ c.toNat=45:=by omega
    simp[parseIntB,n1,n2]
    cases parseUintB 64 (c::r)<;>rfl
   have hub:parseUintB 64 (c::r)=.ok u:=by unfold parseUintB;rw[if_neg (by simp)];exact hu
   rw[e,hub,hnv,←h2]
   simp only
   rw[if_neg (by omega)]
end Go.Proofs.YtifhgjpglicjbaaGreatDoor
namespace Go.Proofs.YtifhgjpglicjbaaGreatDoor
open Go.Proofs.Tryz
open Go.RowKit Go.Shelf
def renL:Ren:=⟨fun k=>if k=129 then 186 else if k=166 then 77 else if k=169 then 56 else if k=171 then 127 else if k=173 then 78 else if k=174 then 145 else if k=205 then 221 else if k=240 then 113 else if k=243 then 169 else if k=245 then 177 else if k=246 then 114 else if k=247 then 176 else if k=276 then 156 else if k=279 then 200 else if k=280 then 201 else if k=281 then 202 else if k=282 then 203 else if k=283 then 157 else if k=284 then 158 else if k=285 then 159 else if k=286 then 160 else if k=287 then 199 else if k=316 then 63 else if k=317 then 185 else if k=318 then 187 else if k=319 then 188 else if k=320 then 189 else if k=321 then 219 else if k=322 then 220 else if k=337 then 212 else if k=338 then 213 else 0,fun k=>if k=167 then 370 else if k=0 then 0 else if k=2 then 2 else if k=3 then 3 else if k=4 then 4 else if k=5 then 5 else if k=9 then 9 else if k=20 then 20 else if k=21 then 21 else if k=37 then 130 else if k=46 then 260 else if k=51 then 84 else if k=53 then 319 else if k=70 then 129 else if k=72 then 132 else if k=75 then 28 else if k=80 then 41 else if k=85 then 301 else if k=127 then 196 else if k=143 then 402 else if k=145 then 404 else if k=164 then 201 else if k=168 then 373 else if k=171 then 318 else if k=173 then 322 else if k=175 then 371 else if k=210 then 394 else if k=212 then 348 else if k=213 then 349 else if k=232 then 396 else if k=233 then 397 else 0,fun k=>if k=15 then 11 else if k=16 then 12 else if k=17 then 10 else if k=18 then 13 else if k=19 then 14 else 0⟩
theorem laysWS:Lays.n166 prog renL:=by
 constructor
 all_goals first | kernel_rfl | (intro w;kernel_rfl)
theorem laysSt:Lays.n169 prog renL:=by
 constructor
 all_goals first | kernel_rfl | (intro w;kernel_rfl)
theorem laysFI:LaysM.n173 prog renL:=by
 constructor
 ·constructor
  all_goals first | kernel_rfl | (intro w;kernel_rfl)
 all_goals first | kernel_rfl | (intro w;kernel_rfl)
theorem laysPI:LaysC.n174 prog renL:=by
 constructor
 ·constructor
  ·constructor
   all_goals first | kernel_rfl | (intro w;kernel_rfl)
  all_goals first | kernel_rfl | (intro w;kernel_rfl)
 all_goals first | kernel_rfl | (intro w;kernel_rfl)
theorem laysBx:Builder.Extra prog renL:=by
 constructor
 ·constructor
  all_goals first | kernel_rfl | (intro w;kernel_rfl) | decide
 all_goals first | kernel_rfl | (intro w;kernel_rfl) | decide
end Go.Proofs.YtifhgjpglicjbaaGreatDoor
