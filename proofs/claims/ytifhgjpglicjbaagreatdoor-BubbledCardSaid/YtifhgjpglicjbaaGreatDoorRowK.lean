/-
  Rows of cells in memory; blocks that stay as they are.
-/
import Derived.Test.YtifhgjpglicjbaaGreatDoorPure
import Derived.OwnWalk
import Derived.Test.YtifhgjpglicjbaaGreatDoorParA
import Derived.Lib.ItoaNum
import Derived.Lib.ItoaLen
namespace Go.Proofs.YtifhgjpglicjbaaGreatDoor
open Go.RowKit
def RowAt (w:World)(D:Nat→Prop)(e:TypeId)(size:Nat)(v:Value)(n:Nat)(xs:List Value):Prop :=
 xs.length=n*size∧(v=.slice none 0 0∧n=0∨∃g cap cur,v=.slice (some ⟨g,0,none⟩) n cap∧D g∧w.heap[g]?=some (.cells cur e)∧n≤cap∧cap≤maxLen∧cur.size=cap*size∧cur.toList.take (n*size)=xs)
theorem RowAt.of_owns {w:World}{base:Nat}{e:TypeId}{size:Nat}{v:Value}{n:Nat}{xs:List Value}(h:w.ownsRow base e size v n xs):RowAt w (base≤·) e size v n xs:=h
theorem RowAt.weaken {w:World}{D D':Nat→Prop}{e:TypeId}{size:Nat}{v:Value}{n:Nat}{xs:List Value}(h:RowAt w D e size v n xs)(hD:∀k,D k→D' k):RowAt w D' e size v n xs:=by
 obtain⟨h1,h2⟩:=h
 refine⟨h1,?_⟩
 rcases h2 with g | ⟨g,cap,cur,hv,hg,r⟩
 ·exact Or.inl g
 ·exact Or.inr ⟨g,cap,cur,hv,hD g hg,r⟩
theorem block_lt {w:World}{g:Nat}{o:Obj}(h:w.heap[g]?=some o):g<w.heap.size:=by
 rcases Nat.lt_or_ge g w.heap.size with h' | h'
 ·exact h'
 ·rw[Array.getElem?_eq_none h'] at h;cases h
def Same (D:Nat→Prop)(w w':World):Prop:=∀k,D k→k<w.heap.size→w'.heap[k]?=w.heap[k]?
theorem RowAt.keep {w w':World}{D:Nat→Prop}{e:TypeId}{size:Nat}{v:Value}{n:Nat}{xs:List Value}(h:RowAt w D e size v n xs)(hS:Same D w w'):RowAt w' (fun k=>D k∧k<w.heap.size) e size v n xs:=by
 obtain⟨h1,h2⟩:=h
 refine⟨h1,?_⟩
 rcases h2 with g | ⟨g,cap,cur,hv,hg,hh,r⟩
 ·exact Or.inl g
 ·exact Or.inr ⟨g,cap,cur,hv,⟨hg,block_lt hh⟩,by rw[hS g hg (block_lt hh)];exact hh,r⟩
theorem RowAt.cell {w:World}{D:Nat→Prop}{e:TypeId}{size:Nat}{v:Value}{n:Nat}{xs:List Value}(h:RowAt w D e size v n xs)(hn:0<n):
  ∃g cap,v=.slice (some ⟨g,0,none⟩) n cap∧D g∧n≤cap∧cap≤maxLen∧(∀j,j<n*size→w.cell? ⟨g,j,none⟩=xs[j]?):=by
 obtain⟨h1,h2⟩:=h
 rcases h2 with ⟨_,h0⟩ | ⟨g,cap,cur,hv,hg,hh,hc,hm,hz,ht⟩
 ·omega
 ·refine⟨g,cap,hv,hg,hc,hm,fun j hj=>?_⟩
  have:w.cell? ⟨g,j,none⟩=cur[j]?:=by unfold World.cell?;rw[hh];rfl
  rw[this,←ht,List.getElem?_take,if_pos hj,Array.getElem?_toList]
theorem row_below {w w':World}{D:Nat→Prop}{e:TypeId}{size:Nat}{v:Value}{n:Nat}{xs:List Value}(h:RowAt w D e size v n xs)(hb:Below w.heap.size w w'):RowAt w' D e size v n xs :=
 (h.keep (w':=w') fun k _ hlt=>hb.block k hlt).weaken fun _ hk=>hk.1
theorem below1 (w:World)(o:Obj):Below w.heap.size w (w.alloc o):=(Below.refl _ _).alloc (Nat.le_refl _) o
theorem owns_slice {w:World}{base:Nat}{e:TypeId}{size:Nat}{v:Value}{n:Nat}{xs:List Value}(h:w.ownsRow base e size v n xs):∃ad cap,v=.slice ad n cap:=by
 rcases h.2 with ⟨h',h0⟩ | ⟨g,cap,_,h',_⟩
 ·exact⟨_,_,by rw[h0];exact h'⟩
 ·exact⟨_,_,h'⟩
theorem owns_mono {w:World}{base base':Nat}{e:TypeId}{size:Nat}{v:Value}{n:Nat}{xs:List Value}(h:w.ownsRow base e size v n xs)(hb:base'≤base):w.ownsRow base' e size v n xs :=
 RowAt.weaken (D:=(base≤·)) (D':=(base'≤·)) h fun _ hk=>Nat.le_trans hb hk
theorem same_grown {w w':World}{row:Option Nat}{D:Nat→Prop}(h:w.grownBy w' row)(hD:∀k,D k→some k≠row):Same D w w':=fun k hk hlt=>h.block k hlt (hD k hk)
theorem owns_keep {w w':World}{base:Nat}{e:TypeId}{size:Nat}{v:Value}{n:Nat}{xs:List Value}(h:w.ownsRow base e size v n xs)(hk:∀k,v.ownBlock=some k→w'.heap[k]?=w.heap[k]?):w'.ownsRow base e size v n xs:=by
 refine⟨h.1,?_⟩
 rcases h.2 with g | ⟨g,cap,cur,hv,hg,hh,r⟩
 ·exact Or.inl g
 ·exact Or.inr ⟨g,cap,cur,hv,hg,by rw[hk g (by rw[hv];rfl)];exact hh,r⟩
theorem set_block {w:World}{b j:Nat}{c:Array Value}{t:TypeId}(h:w.heap[b]?=some (.cells c t))(v:Value):(w.setCell ⟨b,j,none⟩ v).heap[b]?=some (.cells (c.setIfInBounds j v) t):=by
 have hlt:=block_lt h
 rw[Array.getElem?_eq_getElem hlt] at h
 simp only[World.setCell]
 rw[Array.getElem?_eq_getElem (by simpa using hlt)]
 simp only[Array.getElem_modify]
 simp only[Option.some.injEq] at h
 simp[h]
theorem alloc_old (w:World)(o:Obj)(g:Nat)(h:g<w.heap.size):(w.alloc o).heap[g]?=w.heap[g]?:=(below1 w o).block g h
end Go.Proofs.YtifhgjpglicjbaaGreatDoor
namespace Go.Proofs.YtifhgjpglicjbaaGreatDoor
structure Fn where
 name:List UInt8
 at_:Nat
 params:List (List UInt8×Nat)
 body:Ex
def isFunT (t:Tok):Bool:=decide (t.k=.word)&&t.body==[102,117,110]
def bodyR (name:List UInt8)(at_:Nat)(ns:List (List UInt8×Nat)):Res (List Ex)→Res Fn
 | .ok (b::_) r=>.ok ⟨name,at_,ns,b⟩ r
 | .ok [] _=>.err 0 0
 | .err c a=>.err c a
def paramsR (g:Nat)(name:List UInt8)(at_:Nat):Res (List (List UInt8×Nat))→Res Fn
 | .ok ns r=>bodyR name at_ ns (pL g 1 1 r)
 | .err c a=>.err c a
def pFun (g:Nat):List Tok→Res Fn
 | t::u::n::o::ts=>if t.k≠.opn then .err 2 t.at_ else if isFunT u=false then .err 2 u.at_ else if isNameT n=false then .err 2 n.at_ else if o.k≠.opn then .err 2 o.at_ else paramsR g n.body n.at_ (pP ts)
 | t::u::n::_=>if t.k≠.opn then .err 2 t.at_ else if isFunT u=false then .err 2 u.at_ else .err 2 n.at_
 | t::u::_=>if t.k≠.opn then .err 2 t.at_ else .err 2 u.at_
 | t::_=>.err 2 t.at_
 | []=>.err 0 0
def consF (f:Fn):Res (List Fn)→Res (List Fn)
 | .ok fs r=>.ok (f::fs) r
 | .err c a=>.err c a
def pProg:Nat→List Tok→Res (List Fn)
 | 0,_=>.err 0 0
 | _+1,[]=>.err 0 0
 | f+1,t::ts=>if t.k=.eof then .ok [] ts else match pFun (f+1) (t::ts) with
  | .err c a=>.err c a
  | .ok fn r=>consF fn (pProg f r)
theorem pFun_len {g:Nat}{ts:List Tok}{fn:Fn}{r:List Tok}(h:pFun g ts=.ok fn r):r.length<ts.length:=by
 match ts,h with
 | t::u::n::o::ts,h =>
  simp only[pFun] at h
  split at h
  ·cases h
  split at h
  ·cases h
  split at h
  ·cases h
  split at h
  ·cases h
  cases e:pP ts with
  | err c a=>rw[e] at h;cases h
  | ok ns r1 =>
   rw[e] at h
   simp only[paramsR] at h
   have h1:=pP_len _ _ _ e
   cases e2:pL g 1 1 r1 with
   | err c a=>rw[e2] at h;cases h
   | ok es r2 =>
    rw[e2] at h
    have h2:=pL_len _ _ _ _ _ _ e2
    cases es with
    | nil=>cases h
    | cons b l =>
     cases h
     simp
     omega
 | [t,u,n],h =>
  simp only[pFun] at h
  split at h
  ·cases h
  split at h<;>cases h
 | [t,u],h =>
  simp only[pFun] at h
  split at h<;>cases h
 | [t],h=>cases h
 | [],h=>cases h
def lookF (fs:List (List UInt8×Nat))(n:List UInt8):Option Nat:=(fs.find? fun x=>x.1==n).map (·.2)
def callErr (fs:List (List UInt8×Nat))(n:List UInt8)(at_ c:Nat):Option (Nat×Nat) :=
 match lookF fs n with
 | none=>some (4,at_)
 | some k=>if k=c then none else some (6,at_)
def orE (a b:Option (Nat×Nat)):Option (Nat×Nat):=match a with | some x=>some x | none=>b
mutual
def nmE (fs:List (List UInt8×Nat))(scope:List (List UInt8)):Ex→Option (Nat×Nat)
 | .num _=>none
 | .txt _=>none
 | .var n a=>if scope.contains n then none else some (4,a)
 | .form w n a ks =>
  if w==[99,97,108,108] || w==[109,97,112] then orE (callErr fs n a ks.length) (nmEs fs scope ks)
  else if w==[108,101,116] then nmLet fs scope n ks
  else nmEs fs scope ks
def nmEs (fs:List (List UInt8×Nat))(scope:List (List UInt8)):List Ex→Option (Nat×Nat)
 | []=>none
 | e::es=>orE (nmE fs scope e) (nmEs fs scope es)
def nmLet (fs:List (List UInt8×Nat))(scope:List (List UInt8))(n:List UInt8):List Ex→Option (Nat×Nat)
 | []=>none
 | x::r=>orE (nmE fs scope x) (nmEs fs (scope++[n]) r)
end
mutual
def szE:Ex→Nat
 | .num _=>1
 | .txt _=>1
 | .var _ _=>1
 | .form _ _ _ ks=>szEs ks+1
def szEs:List Ex→Nat
 | []=>0
 | e::es=>szE e+szEs es+1
end
theorem szEs_at:∀(es:List Ex) (j:Nat) (hj:j<es.length),szE es[j]+1≤szEs es
 | [],j,hj=>by simp at hj
 | e::es,0,_=>by rw[szEs];simp
 | e::es,j+1,hj=>by rw[szEs];have:=szEs_at es j (by simpa using hj);simp;omega
theorem szEs_len:∀(es:List Ex),es.length≤szEs es
 | []=>by simp
 | e::es=>by rw[szEs];have:=szEs_len es;simp;omega
theorem nmEs_drop (fs:List (List UInt8×Nat))(scope:List (List UInt8))(es:List Ex)(j:Nat)(hj:j<es.length):nmEs fs scope (es.drop j)=orE (nmE fs scope es[j]) (nmEs fs scope (es.drop (j+1))):=by
 rw[List.drop_eq_getElem_cons hj,nmEs]
theorem orE_none (a:Option (Nat×Nat)):orE a none=a:=by cases a<;>rfl
theorem nmEs_one (fs:List (List UInt8×Nat))(sc:List (List UInt8))(x:Ex):nmEs fs sc [x]=nmE fs sc x:=by rw[nmEs,nmEs,orE_none]
theorem nm_other {fs:List (List UInt8×Nat)}{sc:List (List UInt8)}{wd n:List UInt8}{a:Nat}{ks:List Ex}(h1:wd≠[99,97,108,108])(h2:wd≠[109,97,112])(h3:wd≠[108,101,116]):nmE fs sc (.form wd n a ks)=nmEs fs sc ks:=by
 rw[nmE]
 simp[h1,h2,h3]
def dupP (seen:List (List UInt8)):List (List UInt8×Nat)→Option Nat
 | []=>none
 | x::r=>if seen.contains x.1 then some x.2 else dupP (seen++[x.1]) r
def nmFn (fs:List (List UInt8×Nat))(fn:Fn):Option (Nat×Nat) :=
 if (lookF fs fn.name).isSome then some (5,fn.at_)
 else match dupP [] fn.params with
  | some p=>some (5,p)
  | none=>nmE fs (fn.params.map (·.1)) fn.body
def sigOf (fn:Fn):List UInt8×Nat:=(fn.name,fn.params.length)
def nmAll (fs:List (List UInt8×Nat)):List Fn→Option (Nat×Nat)
 | []=>none
 | fn::r=>match nmFn fs fn with
  | some e=>some e
  | none=>nmAll (fs++[sigOf fn]) r
def hasP (wd:List UInt8)(k:Nat)(fns:List Fn):Bool:=fns.any fun fn=>fn.name==wd&&fn.params.length==k
def mainP (fns:List Fn):Bool:=hasP [105,110,105,116] 0 fns&&hasP [117,112,100,97,116,101] 2 fns&&hasP [118,105,101,119] 1 fns
def codeT (c:Nat):Nat:=if c=3 then 3 else 2
def codeN (c:Nat):Nat:=if c=4 then 4 else if c=6 then 6 else 5
def chk (n:Nat):Res (List Fn)→Option (Nat×Nat)
 | .err c a=>some (codeT c,a)
 | .ok fns _=>match nmAll [] fns with
  | some e=>some (codeN e.1,e.2)
  | none=>if mainP fns then none else some (7,n)
def answer (n:Nat)(ts:List Tok):Option (Nat×Nat):=if 2000<n then some (1,0) else chk n (pProg (ts.length+1) ts)
end Go.Proofs.YtifhgjpglicjbaaGreatDoor
namespace Go.Proofs.YtifhgjpglicjbaaGreatDoor
open Go.Lib
def digitsVal (l:List UInt8):Int:=l.foldl (fun n c=>10*n+((c.toNat:Int)-48)) 0
def numVal (l:List UInt8):Int:=if startsB 45 l then-digitsVal (l.drop 1) else digitsVal l
inductive PV where
 | num (z:Int)
 | txt (b:List UInt8)
 | lst (l:List PV)
mutual
def wtV:PV→Nat
 | .num _=>1
 | .txt b=>1+b.length
 | .lst l=>1+wtVs l
def wtVs:List PV→Nat
 | []=>0
 | v::r=>wtV v+wtVs r
end
mutual
def wrV:PV→List UInt8
 | .num z=>itoa z
 | .txt b=>39::(b++[39])
 | .lst l=>40::(wrVs l++[41])
def wrVs:List PV→List UInt8
 | []=>[]
 | v::r=>wrV v++wrT r
def wrT:List PV→List UInt8
 | []=>[]
 | v::r=>32::(wrV v++wrT r)
end
mutual
def sameV:PV→PV→Bool
 | .num a,.num b=>a==b
 | .txt a,.txt b=>a==b
 | .lst a,.lst b=>sameVs a b
 | _,_=>false
def sameVs:List PV→List PV→Bool
 | [],[]=>true
 | a::r,b::s=>sameV a b&&sameVs r s
 | _,_=>false
end
def In64 (z:Int):Prop:=-9223372036854775808≤z∧z≤9223372036854775807
instance (z:Int):Decidable (In64 z):=inferInstanceAs (Decidable (_∧_))
mutual
def okV:PV→Prop
 | .num z=>In64 z
 | .txt _=>True
 | .lst l=>okVs l
def okVs:List PV→Prop
 | []=>True
 | v::r=>okV v∧okVs r
end
theorem wtV_pos:∀v:PV,1≤wtV v
 | .num _=>by rw[wtV];omega
 | .txt _=>by rw[wtV];omega
 | .lst _=>by rw[wtV];omega
theorem wtVs_len:∀l:List PV,l.length≤wtVs l
 | []=>by simp
 | v::r=>by rw[wtVs];have:=wtVs_len r;have:=wtV_pos v;simp;omega
theorem wtVs_append:∀a b:List PV,wtVs (a++b)=wtVs a+wtVs b
 | [],b=>by simp[wtVs]
 | v::r,b=>by rw[List.cons_append,wtVs,wtVs,wtVs_append r b];omega
theorem wtVs_snoc (a:List PV)(v:PV):wtVs (a++[v])=wtVs a+wtV v:=by rw[wtVs_append,wtVs,wtVs];omega
theorem wtVs_at:∀(l:List PV) (j:Nat) (hj:j<l.length),wtV l[j]≤wtVs l
 | [],j,hj=>by simp at hj
 | v::r,0,_=>by rw[wtVs];simp
 | v::r,j+1,hj=>by rw[wtVs];have:=wtVs_at r j (by simpa using hj);simp;omega
theorem okVs_append:∀{a b:List PV},okVs a→okVs b→okVs (a++b)
 | [],b,_,h=>h
 | v::r,b,h1,h2=>by rw[okVs] at h1;rw[List.cons_append,okVs];exact⟨h1.1,okVs_append h1.2 h2⟩
theorem okVs_at:∀{l:List PV} {j:Nat} (hj:j<l.length),okVs l→okV l[j]
 | [],j,hj,_=>by simp at hj
 | v::r,0,_,h=>by rw[okVs] at h;exact h.1
 | v::r,j+1,hj,h=>by rw[okVs] at h;exact okVs_at (l:=r) (by simpa using hj) h.2
theorem okVs_snoc {a:List PV}{v:PV}(h:okVs a)(hv:okV v):okVs (a++[v]):=okVs_append h (by rw[okVs,okVs];exact⟨hv,trivial⟩)
theorem sameVs_len:∀(a b:List PV),sameVs a b=true→a.length=b.length
 | [],[],_=>rfl
 | [],_::_,h=>by simp[sameVs] at h
 | _::_,[],h=>by simp[sameVs] at h
 | a::r,b::s,h=>by
  rw[sameVs,Bool.and_eq_true] at h
  simp[sameVs_len r s h.2]
theorem sameVs_drop (a b:List PV)(j:Nat)(ha:j<a.length)(hb:j<b.length):sameVs (a.drop j) (b.drop j)=(sameV a[j] b[j]&&sameVs (a.drop (j+1)) (b.drop (j+1))):=by
 rw[List.drop_eq_getElem_cons ha,List.drop_eq_getElem_cons hb,sameVs]
theorem sameVs_end (a b:List PV)(h:a.length=b.length):sameVs (a.drop a.length) (b.drop a.length)=true:=by
 rw[List.drop_eq_nil_of_le (by omega),List.drop_eq_nil_of_le (by omega),sameVs]
theorem wrT_snoc:∀(a:List PV) (v:PV),wrT (a++[v])=wrT a++32::wrV v
 | [],v=>by simp[wrT]
 | u::r,v=>by rw[List.cons_append,wrT,wrT,wrT_snoc r v];simp
theorem wrVs_snoc (a:List PV)(v:PV):wrVs (a++[v])=if a=[] then wrV v else wrVs a++32::wrV v:=by
 cases a with
 | nil=>simp[wrVs,wrT]
 | cons u r=>rw[List.cons_append,wrVs,wrVs,wrT_snoc];simp
mutual
theorem wrV_len:∀v:PV,okV v→(wrV v).length+1≤23*wtV v
 | .num z,h=>by rw[okV] at h;rw[wrV,wtV];have:=itoa_length_le z h.1 h.2;omega
 | .txt b,_=>by rw[wrV,wtV];simp;omega
 | .lst l,h=>by
  rw[okV] at h
  rw[wrV,wtV]
  cases l with
  | nil=>simp[wrVs,wtVs]
  | cons v r =>
   rw[okVs] at h
   have h1:=wrV_len v h.1
   have h2:=wrT_len r h.2
   rw[wrVs,wtVs]
   simp
   omega
theorem wrT_len:∀l:List PV,okVs l→(wrT l).length≤23*wtVs l
 | [],_=>by simp[wrT]
 | v::r,h=>by
  rw[okVs] at h
  have h1:=wrV_len v h.1
  have h2:=wrT_len r h.2
  have:=wtV_pos v
  rw[wrT,wtVs]
  simp
  omega
end
end Go.Proofs.YtifhgjpglicjbaaGreatDoor
namespace Go.Proofs.YtifhgjpglicjbaaGreatDoor
open Go.RowKit
def FormV (w:World)(D:Nat→Prop)(sp:Nat)(wd n:List UInt8)(at_:Nat)(vs:List Value)(v:Value):Prop :=
 (wd=[108,105,115,116]∧∃sl,v=.iface 288 (.agg #[.int .i64 ((sp:Nat):Int),sl])∧RowAt w D 64 1 sl vs.length vs) ∨
 (wd=[99,97,108,108]∧∃(nb:ByteArray) (sl:Value),nb.data.toList=n∧nb.size≤2000∧v=.iface 282 (.agg #[.int .i64 ((sp:Nat):Int),.string nb,.int .i64 ((at_:Nat):Int),sl])∧RowAt w D 64 1 sl vs.length vs) ∨
 (wd=[109,97,112]∧∃(nb:ByteArray) (v0:Value),nb.data.toList=n∧nb.size≤2000∧vs=[v0]∧v=.iface 286 (.agg #[.int .i64 ((sp:Nat):Int),.string nb,.int .i64 ((at_:Nat):Int),v0])) ∨
 (wd=[108,101,116]∧∃(nb:ByteArray) (v0 v1:Value),nb.data.toList=n∧nb.size≤2000∧vs=[v0,v1]∧v=.iface 279 (.agg #[.int .i64 ((sp:Nat):Int),.string nb,.int .i64 ((at_:Nat):Int),v0,v1])) ∨
 (wd=[105,102]∧∃v0 v1 v2,vs=[v0,v1,v2]∧v=.iface 290 (.agg #[.int .i64 ((sp:Nat):Int),v0,v1,v2])) ∨
 (wd=[115,101,116]∧∃v0 v1 v2,vs=[v0,v1,v2]∧v=.iface 292 (.agg #[.int .i64 ((sp:Nat):Int),v0,v1,v2])) ∨
 (wd=[108,101,110]∧∃v0,vs=[v0]∧v=.iface 297 (.agg #[.int .i64 ((sp:Nat):Int),v0])) ∨
 (shapeL wd=some (false,2)∧∃(ob:ByteArray) (v0 v1:Value),ob.data.toList=wd∧vs=[v0,v1]∧v=.iface 295 (.agg #[.int .i64 ((sp:Nat):Int),.string ob,v0,v1]))
theorem FormV.map {w w':World}{D D':Nat→Prop}{sp:Nat}{wd n:List UInt8}{at_:Nat}{vs:List Value}{v:Value}(h:FormV w D sp wd n at_ vs v)(hR:∀sl,RowAt w D 64 1 sl vs.length vs→RowAt w' D' 64 1 sl vs.length vs):FormV w' D' sp wd n at_ vs v:=by
 rcases h with ⟨a,sl,b,c⟩ | ⟨a,nb,sl,b,c,d,e⟩ | h | h | h | h | h | h
 ·exact Or.inl ⟨a,sl,b,hR sl c⟩
 ·exact Or.inr (Or.inl ⟨a,nb,sl,b,c,d,hR sl e⟩)
 ·exact Or.inr (Or.inr (Or.inl h))
 ·exact Or.inr (Or.inr (Or.inr (Or.inl h)))
 ·exact Or.inr (Or.inr (Or.inr (Or.inr (Or.inl h))))
 ·exact Or.inr (Or.inr (Or.inr (Or.inr (Or.inr (Or.inl h)))))
 ·exact Or.inr (Or.inr (Or.inr (Or.inr (Or.inr (Or.inr (Or.inl h))))))
 ·exact Or.inr (Or.inr (Or.inr (Or.inr (Or.inr (Or.inr (Or.inr h))))))
mutual
def RepE (w:World)(D:Nat→Prop):Ex→Value→Prop
 | .num b,v=>∃sp:Nat,v=.iface 306 (.agg #[.int .i64 ((sp:Nat):Int),.int .i64 (numVal b)])
 | .txt b,v=>∃(sp:Nat) (bb:ByteArray),bb.data.toList=b∧v=.iface 308 (.agg #[.int .i64 ((sp:Nat):Int),.string bb])
 | .var n a,v=>∃nb:ByteArray,nb.data.toList=n∧v=.iface 277 (.agg #[.int .i64 ((a:Nat):Int),.string nb])
 | .form wd n a ks,v=>∃(sp:Nat) (vs:List Value),RepEs w D ks vs∧FormV w D sp wd n a vs v
def RepEs (w:World)(D:Nat→Prop):List Ex→List Value→Prop
 | [],vs=>vs=[]
 | e::es,vs=>∃v r,vs=v::r∧RepE w D e v∧RepEs w D es r
end
mutual
theorem RepE.map {w w':World}{D D':Nat→Prop}(hR:∀sl n vs,RowAt w D 64 1 sl n vs→RowAt w' D' 64 1 sl n vs):∀{e:Ex} {v:Value},RepE w D e v→RepE w' D' e v
 | .num b,v,h=>by rw[RepE] at h ⊢;exact h
 | .txt b,v,h=>by rw[RepE] at h ⊢;exact h
 | .var n a,v,h=>by rw[RepE] at h ⊢;exact h
 | .form wd n a ks,v,h=>by
  rw[RepE] at h ⊢
  obtain⟨sp,vs,h1,h2⟩:=h
  exact⟨sp,vs,RepEs.map hR h1,h2.map fun sl hs=>hR sl _ _ hs⟩
theorem RepEs.map {w w':World}{D D':Nat→Prop}(hR:∀sl n vs,RowAt w D 64 1 sl n vs→RowAt w' D' 64 1 sl n vs):∀{es:List Ex} {vs:List Value},RepEs w D es vs→RepEs w' D' es vs
 | [],vs,h=>by rw[RepEs] at h ⊢;exact h
 | e::es,vs,h=>by
  rw[RepEs] at h ⊢
  obtain⟨v,r,h1,h2,h3⟩:=h
  exact⟨v,r,h1,RepE.map hR h2,RepEs.map hR h3⟩
end
theorem RepEs.keep {w w':World}{D:Nat→Prop}{es:List Ex}{vs:List Value}(h:RepEs w D es vs)(hS:Same D w w'):RepEs w' (fun k=>D k∧k<w.heap.size) es vs:=h.map fun _ _ _ hr=>hr.keep hS
theorem RepE.keep {w w':World}{D:Nat→Prop}{e:Ex}{v:Value}(h:RepE w D e v)(hS:Same D w w'):RepE w' (fun k=>D k∧k<w.heap.size) e v:=h.map fun _ _ _ hr=>hr.keep hS
theorem RepEs.weaken {w:World}{D D':Nat→Prop}{es:List Ex}{vs:List Value}(h:RepEs w D es vs)(hD:∀k,D k→D' k):RepEs w D' es vs:=h.map fun _ _ _ hr=>hr.weaken hD
theorem RepE.weaken {w:World}{D D':Nat→Prop}{e:Ex}{v:Value}(h:RepE w D e v)(hD:∀k,D k→D' k):RepE w D' e v:=h.map fun _ _ _ hr=>hr.weaken hD
theorem RepEs.length {w:World}{D:Nat→Prop}:∀{es:List Ex} {vs:List Value},RepEs w D es vs→vs.length=es.length
 | [],vs,h=>by rw[RepEs] at h;rw[h];rfl
 | e::es,vs,h=>by
  rw[RepEs] at h
  obtain⟨v,r,rfl,_,h3⟩:=h
  simp[RepEs.length h3]
theorem RepEs.snoc {w:World}{D:Nat→Prop}{e:Ex}{v:Value}(he:RepE w D e v):∀{es:List Ex} {vs:List Value},RepEs w D es vs→RepEs w D (es++[e]) (vs++[v])
 | [],vs,h=>by
  rw[RepEs] at h
  subst h
  rw[List.nil_append,List.nil_append,RepEs]
  exact⟨v,[],rfl,he,by rw[RepEs]⟩
 | x::es,vs,h=>by
  rw[RepEs] at h
  obtain⟨y,r,rfl,h2,h3⟩:=h
  rw[List.cons_append,List.cons_append,RepEs]
  exact⟨y,r++[v],rfl,h2,RepEs.snoc he h3⟩
theorem RepE.iface {w:World}{D:Nat→Prop}:∀{e:Ex} {v:Value},RepE w D e v→∃t x,v=.iface t x
 | .num b,v,h=>by rw[RepE] at h;obtain⟨_,h⟩:=h;exact⟨_,_,h⟩
 | .txt b,v,h=>by rw[RepE] at h;obtain⟨_,_,_,h⟩:=h;exact⟨_,_,h⟩
 | .var n a,v,h=>by rw[RepE] at h;obtain⟨_,_,h⟩:=h;exact⟨_,_,h⟩
 | .form wd n a ks,v,h=>by
  rw[RepE] at h
  obtain⟨sp,vs,_,h2⟩:=h
  rcases h2 with ⟨_,_,h,_⟩ | ⟨_,_,_,_,_,h,_⟩ | ⟨_,_,_,_,_,_,h⟩ | ⟨_,_,_,_,_,_,_,h⟩ | ⟨_,_,_,_,_,h⟩ | ⟨_,_,_,_,_,h⟩ | ⟨_,_,_,h⟩ | ⟨_,_,_,_,_,_,h⟩
  all_goals exact⟨_,_,h⟩
theorem same_pt {pb rb:Nat}{w w':World}{D:Nat→Prop}(h:PT pb rb w w')(hD:∀k,D k→k≠pb∧k≠rb):Same D w w':=fun k hk hlt=>h.block k hlt (by rintro (g | g);exact (hD k hk).2 g;exact (hD k hk).1 g)
end Go.Proofs.YtifhgjpglicjbaaGreatDoor
