/-
  The reference: the program in memory; find, in.
-/
import Derived.Test.YtliapghpeoaonaaGreatDoorRefI
import Derived.Deep.LoopGhost
import Derived.Test.YtliapghpeoaonaaGreatDoorPure
import Derived.Deep.QuietTactic
set_option maxHeartbeats 4000000
set_option maxRecDepth 8000
namespace Go.Proofs.YtliapghpeoaonaaGreatDoor
open Go.Proofs.Tryz
open Go.RowKit
attribute [local go_sem ↓] Go.wp_at_zero Go.wp_at_succ
def Zb4 (w:World)(D:Nat→Prop)(ps:List Zaw):List Ze8→List Fn→Prop
 | [],fns=>fns=[]
 | f::r,fns=>∃fn q,fns=fn::q∧Zxc w D ps fn f∧Zb4 w D ps r q
structure PM (w:World)(rb:Nat)(fv pv:Value)(fs:List Ze8)(ps:List Zaw)(fns:List Fn):Prop where
 c5:w.cell? ⟨rb,5,none⟩=some fv
 c6:w.cell? ⟨rb,6,none⟩=some pv
 rf:Zao w (fun _=>True) 208 5 fv fs.length (Zbt fs)
 rq:Zao w (fun _=>True) 322 5 pv ps.length (Zbw ps)
 rep:Zb4 w (fun _=>True) ps fs fns
 hf:fs.length≤3000
 hp:ps.length≤3000
theorem Zxc.below {w w':World}{D:Nat→Prop}{ps:List Zaw}{fn:Fn}{f:Ze8}(h:Zxc w D ps fn f)(hb:Below w.heap.size w w'):Zxc w' D ps fn f:=by
 obtain⟨q1,q2,⟨qs,ls,q3,q4,q5,q6⟩,q7⟩:=h
 exact⟨q1,q2,⟨qs,ls,q3,q4,Zai q5 hb,Zai q6 hb⟩,q7.map (fun _ _ _ h=>h) (Nat.le_refl _) (fun _ _ _ h=>Zai h hb)⟩
theorem Zb4.below {w w':World}{D:Nat→Prop}{ps:List Zaw}(hb:Below w.heap.size w w'):∀{fs:List Ze8} {fns:List Fn},Zb4 w D ps fs fns→Zb4 w' D ps fs fns
 | [],fns,h=>h
 | f::r,fns,h=>by
  obtain⟨fn,q,h1,h2,h3⟩:=h
  exact⟨fn,q,h1,h2.below hb,Zb4.below hb h3⟩
theorem Zb4.length {w:World}{D:Nat→Prop}{ps:List Zaw}:∀{fs:List Ze8} {fns:List Fn},Zb4 w D ps fs fns→fs.length=fns.length
 | [],fns,h=>by rw[show fns=[] from h];rfl
 | f::r,fns,h=>by
  obtain⟨fn,q,rfl,h2,h3⟩:=h
  simp[Zb4.length h3]
theorem Zb4.at {w:World}{D:Nat→Prop}{ps:List Zaw}:∀{fs:List Ze8} {fns:List Fn},Zb4 w D ps fs fns→∀j (h1:j<fs.length) (h2:j<fns.length),Zxc w D ps fns[j] fs[j]
 | [],fns,h,j,h1,h2=>by simp at h1
 | f::r,fns,h,j,h1,h2=>by
  obtain⟨fn,q,rfl,h3,h4⟩:=h
  cases j with
  | zero=>exact h3
  | succ j=>exact Zb4.at h4 j (by simpa using h1) (by simpa using h2)
section
variable {w:World} {rb:Nat} {fv pv:Value} {fs:List Ze8} {ps:List Zaw} {fns:List Fn}
theorem PM.below {w':World}(h:PM w rb fv pv fs ps fns)(hb:Below w.heap.size w w'):PM w' rb fv pv fs ps fns :=
 ⟨Below.cellv hb h.c5,Below.cellv hb h.c6,Zai h.rf hb,Zai h.rq hb,h.rep.below hb,h.hf,h.hp⟩
theorem PM.fun (h:PM w rb fv pv fs ps fns)(j:Nat)(hj:j<fs.length):∃g c',fv=.slice (some ⟨g,0,none⟩) fs.length c'∧fs.length≤c'∧c'≤maxLen∧w.cell? ⟨g,j*5,none⟩=some (.string (fs[j]'hj).name)∧w.cell? ⟨g,j*5+1,none⟩=some (.int .i64 (((fs[j]'hj).at_:Nat):Int))∧w.cell? ⟨g,j*5+2,none⟩=some (fs[j]'hj).pv∧w.cell? ⟨g,j*5+3,none⟩=some (fs[j]'hj).lv∧w.cell? ⟨g,j*5+4,none⟩=some (.int .i64 (((fs[j]'hj).body:Nat):Int)):=by
 obtain⟨g,c',hv,_,h1,h2,hc⟩:=h.rf.cell (by omega)
 obtain⟨a0,a1,a2,a3,a4⟩:=Zod fs j fs[j] (List.getElem?_eq_getElem hj)
 refine⟨g,c',hv,h1,h2,?_,?_,?_,?_,?_⟩
 ·rw[hc _ (by omega)];exact a0
 ·rw[hc _ (by omega)];exact a1
 ·rw[hc _ (by omega)];exact a2
 ·rw[hc _ (by omega)];exact a3
 ·rw[hc _ (by omega)];exact a4
theorem PM.part (h:PM w rb fv pv fs ps fns)(j:Nat)(hj:j<ps.length):∃g c',pv=.slice (some ⟨g,0,none⟩) ps.length c'∧ps.length≤c'∧c'≤maxLen∧w.cell? ⟨g,j*5,none⟩=some (.string (ps[j]'hj).op)∧w.cell? ⟨g,j*5+1,none⟩=some (.int .i64 (ps[j]'hj).n)∧w.cell? ⟨g,j*5+2,none⟩=some (.string (ps[j]'hj).s)∧w.cell? ⟨g,j*5+3,none⟩=some (.int .i64 (((ps[j]'hj).at_:Nat):Int))∧w.cell? ⟨g,j*5+4,none⟩=some (ps[j]'hj).kv:=by
 obtain⟨g,c',hv,_,h1,h2,hc⟩:=h.rq.cell (by omega)
 obtain⟨a0,a1,a2,a3,a4⟩:=Zhm ps j ps[j] (List.getElem?_eq_getElem hj)
 refine⟨g,c',hv,h1,h2,?_,?_,?_,?_,?_⟩
 ·rw[hc _ (by omega)];exact a0
 ·rw[hc _ (by omega)];exact a1
 ·rw[hc _ (by omega)];exact a2
 ·rw[hc _ (by omega)];exact a3
 ·rw[hc _ (by omega)];exact a4
def Zft (fs:List Ze8)(n:List UInt8)(many:Nat)(r:Int):Prop :=
 (r=-1∧∀j (hj:j<fs.length),j<many→(fs[j]'hj).name.toList≠n)∨(∃(j:Nat) (hj:j<fs.length),j<many∧r=(j:Int)∧(fs[j]'hj).name.toList=n∧∀i (hi:i<fs.length),i<j→(fs[i]'hi).name.toList≠n)
theorem Zd8 (h:PM w rb fv pv fs ps fns)(nb:ByteArray)(many:Nat)(hm:many≤fs.length):
  Calls prog 100 #[.pointer (some ⟨rb,5,none⟩),.string nb,.int .i64 ((many:Nat):Int)] w fun e w'=>(∃r:Int,e=.returned (.int .i64 r)∧Zft fs nb.toList many r)∧w'=w:=by
 have c5:=h.c5
 have hf:=h.hf
 go_enter func100,ntmps100
 go_wp2
 go_loop [7] (fun i=>∃j:Nat,i=.int .i64 j∧j≤many∧Aside (∀i (hi:i<fs.length),i<j→(fs[i]'hi).name.toList≠nb.toList)) (fun i=>many-(intOf i).toNat)
 case atStart=>exact⟨0,rfl,by omega,fun i _ hi=>absurd hi (by omega)⟩
 case round =>
  obtain⟨j,rfl,hj,hall⟩:=hrel
  by_cases hlt:j<many
  ·obtain⟨g,c',rfl,hc1,hc2,a0,a1,a2,a3,a4⟩:=h.fun j (by omega)
   unfold maxLen at hc2
   have hjf:j<fs.length:=by omega
   cases hq:((fs[j]'hjf).name.toList==nb.toList)
   ·generalize hnj:(fs[j]'hjf).name=nj at *
    go_wp2
    go_round
    case rel =>
     refine⟨j+1,by go_num,by omega,fun i hi h2=>?_⟩
     by_cases e:i=j
     ·subst e;rw[hnj];simpa using hq
     ·exact hall.out i hi (by omega)
    case measure=>simp[intOf];omega
   ·generalize hnj:(fs[j]'hjf).name=nj at *
    go_wp2
    go_ret
    exact⟨⟨_,rfl,Or.inr ⟨j,hjf,hlt,rfl,by rw[hnj];simpa using hq,fun i hi h2=>hall.out i hi h2⟩⟩,rfl⟩
  ·go_wp2
   go_ret
   exact⟨⟨_,rfl,Or.inl ⟨rfl,fun i hi h2=>hall.out i hi (by omega)⟩⟩,rfl⟩
def hasS (bs:List ByteArray)(v:ByteArray):Bool:=bs.any fun b=>b.toList==v.toList
theorem Z2c (sv:Value)(bs:List ByteArray)(v:ByteArray)(w:World)(D:Nat→Prop)(h:Zao w D 9 1 sv bs.length (Zco bs))(hn:bs.length≤100000):
  Calls prog 101 #[sv,.string v] w fun e w'=>e=.returned (.bool (hasS bs v))∧w'=w:=by
 rcases h.2 with ⟨rfl,h0⟩ | ⟨g,cap,cur,rfl,hg,hh,hc,hm,hz,ht⟩
 ·have:bs=[]:=List.eq_nil_of_length_eq_zero h0
  subst this
  go_enter func101,ntmps101
  go_wp2
  go_loop [5] (fun i=>i=.int .i64 0) (fun _=>0)
  case atStart=>rfl
  case round =>
   subst hrel
   go_wp2
   go_ret
   exact⟨rfl,rfl⟩
 ·unfold maxLen at hm
  have hcell:∀j (hj:j<bs.length),w.cell? ⟨g,j,none⟩=some (.string bs[j]):=fun j hj=>by
   have:w.cell? ⟨g,j,none⟩=cur[j]?:=by unfold World.cell?;rw[hh];rfl
   rw[this,←Array.getElem?_toList]
   have h2:(cur.toList.take (bs.length*1))[j]?=(Zco bs)[j]?:=by rw[ht]
   rw[List.getElem?_take,if_pos (by omega)] at h2
   rw[h2]
   simp[Zco,hj]
  go_enter func101,ntmps101
  go_wp2
  go_loop [5] (fun i=>∃j:Nat,i=.int .i64 j∧j≤bs.length∧Aside (∀i (hi:i<bs.length),i<j→(bs[i].toList==v.toList)=false)) (fun i=>bs.length-(intOf i).toNat)
  case atStart=>exact⟨0,rfl,by omega,fun i _ hi=>absurd hi (by omega)⟩
  case round =>
   obtain⟨j,rfl,hj,hall⟩:=hrel
   by_cases hlt:j<bs.length
   ·have a0:=hcell j hlt
    cases hq:(bs[j].toList==v.toList)
    ·generalize hnj:bs[j]=nj at *
     go_wp2
     go_round
     case rel =>
      refine⟨j+1,by go_num,by omega,fun i hi h2=>?_⟩
      by_cases e:i=j
      ·subst e;rw[hnj];exact hq
      ·exact hall.out i hi (by omega)
     case measure=>simp[intOf];omega
    ·generalize hnj:bs[j]=nj at *
     go_wp2
     go_ret
     refine⟨Zdn (Eq.symm ?_),rfl⟩
     rw[hasS,List.any_eq_true]
     exact⟨bs[j],List.getElem_mem hlt,by rw[hnj];exact hq⟩
   ·go_wp2
    go_ret
    refine⟨Zdn (Eq.symm ?_),rfl⟩
    rw[hasS,List.any_eq_false]
    intro x hx
    obtain⟨i,hi,rfl⟩:=List.getElem_of_mem hx
    have:=hall.out i hi (by omega)
    simpa using this
end
end Go.Proofs.YtliapghpeoaonaaGreatDoor
namespace Go.Proofs.YtliapghpeoaonaaGreatDoor
open Go.Proofs.Tryz
open Go.RowKit
theorem Zoz (P:Program)(w:World)(t ty e:TypeId)(i:TypeInfo)(ht:P.underlying t=some (.slice e))(hi:P.info? e=some i)(z:Value)(_hz:i.zero=some z):
  (Builtin.append_ #[t,t] ty #[.slice none 0 0,.slice none 0 0]).run P w=.ok (.slice none 0 0) w:=by
 simp[Builtin.append_,run_underlying ht,sizeOf,typeInfo,hi,Builtin.lenOf,Builtin.firstCells,go_sem]
theorem Zcq {P:Program}{w:World}{D:Nat→Prop}{ops:Array Oper}{rest:List Oper}{o:Oper}{a:Act}{Q:Exit→Act→World→Prop}(hgd:o.guard=none)(s x:Operand)(t:TypeId)
  (ho:o.op=.call { callee:=.builtin .append,args:=#[s,x],argTypes:=#[t,t] })
  (e:TypeId) (i:TypeInfo) (z:Value) (size bytes:Nat) (ht:P.underlying t=some (.slice e)) (hi:P.info? e=some i) (hz:i.zero=some z)
  (hsize:i.size=size) (hby:i.bytes=bytes) (hzs:z.cells.size=size) (hsz:0<size)
  (hs:a.eval s=.slice none 0 0) (v:Value) (n:Nat) (xs:List Value) (hx:a.eval x=v) (hrow:Zao w D e size v n xs) (h1:∀u∈xs,u.oneCell'=true)
  (h63:n≤maxLen) (hbytes:n*bytes≤140737488355328)
  (h:∀v' w',w'.ownsRow w.heap.size e size v' n xs→w.grownBy w' none→wpList P ops Q rest (a.put o.dst v') w') :
  wpList P ops Q (o::rest) a w:=by
 rcases hrow.2 with ⟨hv,h0⟩ | ⟨g,cp,cur,hv,_,hh,hc,hm,hcs,htk⟩
 ·have hxs:xs=[]:=List.eq_nil_of_length_eq_zero (by rw[hrow.1,h0];simp)
  refine wpList_plain hgd fun K hK=>?_
  unfold Oper.wp execOp
  simp only[ho,resolve,invoke,builtin,Sem.run_bind,Sem.run_pure,Result.andThen_ok,List.map_toArray,List.map_cons,List.map_nil,hs,hx,hv,Zoz P w t o.type e i ht hi z hz]
  exact hK _ _ (h _ _ (by rw[h0,hxs];exact World.ownsRow_nil _ _ _ _) ⟨rfl,rfl,rfl,Nat.le_refl _,fun _ _ _=>rfl⟩)
 ·refine wpList_append_own_at w hgd s x t ho w.heap.size e i z size bytes ht hi hz hsize hby hzs hsz (.slice none 0 0) 0 [] hs (World.ownsRow_nil _ _ _ _) ⟨g,0,none⟩ n cp xs (by rw[hx,hv]) hrow.1 ?_ h1 (by omega) (by rw[Nat.zero_add];exact hbytes) (Nat.le_refl _) ?_
  ·intro j u hj
   have hjl:=(List.getElem?_eq_some_iff.1 hj).1
   obtain⟨g',cp',hv',_,_,_,hcell⟩:=hrow.cell (by
    rcases Nat.eq_zero_or_pos n with h0 | h0
    ·rw[hrow.1,h0] at hjl;simp at hjl
    ·exact h0)
   rw[hv] at hv'
   simp only[Value.slice.injEq,Option.some.injEq,Addr.mk.injEq,and_true,true_and] at hv'
   obtain⟨rfl,_⟩:=hv'
   have:=hcell j (by rw[←hrow.1];exact hjl)
   rw[show ((⟨g,0,none⟩:Addr).add j)=⟨g,j,none⟩ by cases j<;>simp[Addr.add],this]
   exact hj
  ·intro v' w' h2 h3 _ _
   refine h v' w' ?_ h3
   simpa using h2
end Go.Proofs.YtliapghpeoaonaaGreatDoor
namespace Go.Proofs.YtliapghpeoaonaaGreatDoor
open Go.Proofs.Tryz
open Go.RowKit
attribute [local go_sem ↓] Go.wp_at_zero Go.wp_at_succ
def Zfn (o:Option (Nat×Nat))(w:World)(e:Ending)(w':World):Prop :=
 Below w.heap.size w w'∧((o=none∧e=.returned (.tuple #[.int .i64 0,.int .i64 0]))∨∃c p:Nat,o=some (c,p)∧c≠0∧e=.returned (.tuple #[.int .i64 (c:Int),.int .i64 (p:Int)]))
def Zap (bs:List ByteArray):List (List UInt8):=bs.map fun b=>b.data.toList
def Zzq (rb:Nat)(fv pv:Value)(fs:List Ze8)(ps:List Zaw)(fns:List Fn)(n:Nat):Prop :=
 ∀(ex:Ex) (i:Nat) (sv:Value) (bs:List ByteArray) (w:World) (lo many:Nat) (D:Nat→Prop),szE ex≤n→WfE ex→PM w rb fv pv fs ps fns→Ze0 w (fun _=>True) ps lo ex i→Zao w D 9 1 sv bs.length (Zco bs)→bs.length+szE ex≤100000→many≤fs.length →
  Calls prog 102 #[.pointer (some ⟨rb,5,none⟩),.int .i64 ((i:Nat):Int),sv,.int .i64 ((many:Nat):Int)] w (Zfn (nmE ((fns.take many).map Za5) (Zap bs) ex) w)
abbrev Zf5 (op:ByteArray)(n:Int)(s:ByteArray)(p:Nat)(kv:Value):Obj:=.cells #[.string op,.int .i64 n,.string s,.int .i64 ((p:Nat):Int),kv] 322
theorem Zc7 {w w':World}(h:w.grownBy w' none):Below w.heap.size w w':=Below.grown (Below.refl _ _) h (Nat.le_refl _) (fun k hk=>by cases hk)
theorem Zmt {w:World}{D:Nat→Prop}{ps:List Zaw}{lo:Nat}:∀{es:List Ex} {js:List Nat},Zby w D ps lo es js→∀j (h1:j<es.length) (h2:j<js.length),Ze0 w D ps lo es[j] js[j]
 | [],js,h,j,h1,h2=>by simp at h1
 | e::es,js,h,j,h1,h2=>by
  rw[Zby] at h
  obtain⟨i,r,rfl,h3,h4⟩:=h
  cases j with
  | zero=>exact h3
  | succ j=>exact Zmt h4 j (by simpa using h1) (by simpa using h2)
theorem Zua {fs:List (List UInt8×Nat)}{n:List UInt8}{a k c p:Nat}(h:Zcb fs n a k=some (c,p)):c≠0:=by
 unfold Zcb at h
 split at h
 ·cases h;decide
 ·split at h
  ·cases h
  ·cases h;decide
theorem Zh3 {a b:Option (Nat×Nat)}{c p:Nat}(h:orE a b=some (c,p)):a=some (c,p)∨b=some (c,p):=by
 cases a with
 | none=>exact Or.inr h
 | some x=>exact Or.inl h
mutual
theorem Zgx (fs:List (List UInt8×Nat))(sc:List (List UInt8)):∀(e:Ex) (c p:Nat),nmE fs sc e=some (c,p)→c≠0
 | .num _,c,p,h=>by rw[nmE] at h;cases h
 | .txt _,c,p,h=>by rw[nmE] at h;cases h
 | .var n a,c,p,h=>by
  rw[nmE] at h
  split at h
  ·cases h
  ·cases h;decide
 | .form w n a ks,c,p,h=>by
  rw[nmE] at h
  split at h
  ·rcases Zh3 h with g | g
   ·exact Zua g
   ·exact Zj2 fs sc ks c p g
  ·split at h
   ·cases ks with
    | nil=>rw[Zq9] at h;cases h
    | cons x r =>
     rw[Zq9] at h
     rcases Zh3 h with g | g
     ·exact Zgx fs sc x c p g
     ·exact Zj2 fs _ r c p g
   ·exact Zj2 fs sc ks c p h
theorem Zj2 (fs:List (List UInt8×Nat))(sc:List (List UInt8)):∀(es:List Ex) (c p:Nat),Zfu fs sc es=some (c,p)→c≠0
 | [],c,p,h=>by rw[Zfu] at h;cases h
 | e::es,c,p,h=>by
  rw[Zfu] at h
  rcases Zh3 h with g | g
  ·exact Zgx fs sc e c p g
  ·exact Zj2 fs sc es c p g
end
theorem Zeh {B:Nat}{a w:World}(h:Below B a w){n:Nat}:Below B a (w.drewN n):=below_drewN h n
section
variable {w:World} {rb:Nat} {fv pv:Value} {fs:List Ze8} {ps:List Zaw} {fns:List Fn}
theorem Zp1 (h:PM w rb fv pv fs ps fns)(i:Nat)(hi:i<ps.length)(sv:Value)(many:Nat)(_hm:many≤fs.length)(q1:((ps[i]'hi).op.toList==[97])=false)(q2:((ps[i]'hi).op.toList==[99,97,108,108])=false)(q3:((ps[i]'hi).op.toList==[109,97,112])=false)(hkv:(ps[i]'hi).kv=.slice none 0 0):
  Calls prog 102 #[.pointer (some ⟨rb,5,none⟩),.int .i64 ((i:Nat):Int),sv,.int .i64 ((many:Nat):Int)] w (Zfn none w):=by
 have c5:=h.c5
 have c6:=h.c6
 have hp:=h.hp
 obtain⟨pg,pc,hpv,hc1,hc2,a0,a1,a2,a3,a4⟩:=h.part i hi
 unfold maxLen at hc2
 have hpg:=Zae a0
 have hrb:=Zae c5
 have hne1:=World.new_ne w _ a0
 have hne2:=World.new_ne w _ c5
 generalize (ps[i]'hi).op=op at *
 generalize (ps[i]'hi).n=nn at *
 generalize (ps[i]'hi).s=ss at *
 generalize (ps[i]'hi).at_=pp at *
 generalize (ps[i]'hi).kv=kv at *
 subst hkv
 subst hpv
 go_enter func102,ntmps102
 go_wp2
 go_loop [13] (fun iv=>iv=.int .i64 0) (fun _=>0)
 case atStart=>rfl
 case round =>
  subst hrel
  go_wp2
  go_ret2
  exact⟨Zab w _,Or.inl ⟨rfl,rfl⟩⟩
theorem Z1t (h:PM w rb fv pv fs ps fns)(i:Nat)(hi:i<ps.length)(sv:Value)(many:Nat)(_hm:many≤fs.length)(q1:((ps[i]'hi).op.toList==[97])=true)(q2:((ps[i]'hi).op.toList==[99,97,108,108])=false)(q3:((ps[i]'hi).op.toList==[109,97,112])=false)(hkv:(ps[i]'hi).kv=.slice none 0 0)(bs:List ByteArray)(D:Nat→Prop)(hS:Zao w D 9 1 sv bs.length (Zco bs))(hbs:bs.length≤100000)(hin:hasS bs (ps[i]'hi).s=true):
  Calls prog 102 #[.pointer (some ⟨rb,5,none⟩),.int .i64 ((i:Nat):Int),sv,.int .i64 ((many:Nat):Int)] w (Zfn none w):=by
 have c5:=h.c5
 have c6:=h.c6
 have hp:=h.hp
 obtain⟨pg,pc,hpv,hc1,hc2,a0,a1,a2,a3,a4⟩:=h.part i hi
 unfold maxLen at hc2
 have hpg:=Zae a0
 have hrb:=Zae c5
 have hne1:=World.new_ne w _ a0
 have hne2:=World.new_ne w _ c5
 have cin:=Z2c sv bs (ps[i]'hi).s (w.alloc (Zf5 (ps[i]'hi).op (ps[i]'hi).n (ps[i]'hi).s (ps[i]'hi).at_ (ps[i]'hi).kv)) D (Zai hS (Zab w _)) hbs
 rw[hin] at cin
 generalize (ps[i]'hi).op=op at *
 generalize (ps[i]'hi).n=nn at *
 generalize (ps[i]'hi).s=ss at *
 generalize (ps[i]'hi).at_=pp at *
 generalize (ps[i]'hi).kv=kv at *
 subst hkv
 subst hpv
 go_enter func102,ntmps102
 go_wp2_with (go_at_call 101;refine cin.mono ?_;rintro r w2 ⟨rfl,rfl⟩)
 go_loop [13] (fun iv=>iv=.int .i64 0) (fun _=>0)
 case atStart=>rfl
 case round =>
  subst hrel
  go_wp2
  go_ret2
  exact⟨Zab w _,Or.inl ⟨rfl,rfl⟩⟩
theorem Zvi (h:PM w rb fv pv fs ps fns)(i:Nat)(hi:i<ps.length)(sv:Value)(many:Nat)(_hm:many≤fs.length)(q1:((ps[i]'hi).op.toList==[97])=true)(_q2:((ps[i]'hi).op.toList==[99,97,108,108])=false)(_q3:((ps[i]'hi).op.toList==[109,97,112])=false)(hkv:(ps[i]'hi).kv=.slice none 0 0)(bs:List ByteArray)(D:Nat→Prop)(hS:Zao w D 9 1 sv bs.length (Zco bs))(hbs:bs.length≤100000)(hin:hasS bs (ps[i]'hi).s=false):
  Calls prog 102 #[.pointer (some ⟨rb,5,none⟩),.int .i64 ((i:Nat):Int),sv,.int .i64 ((many:Nat):Int)] w (Zfn (some (4,(ps[i]'hi).at_)) w):=by
 have c5:=h.c5
 have c6:=h.c6
 have hp:=h.hp
 obtain⟨pg,pc,hpv,hc1,hc2,a0,a1,a2,a3,a4⟩:=h.part i hi
 unfold maxLen at hc2
 have hpg:=Zae a0
 have hrb:=Zae c5
 have hne1:=World.new_ne w _ a0
 have hne2:=World.new_ne w _ c5
 have cin:=Z2c sv bs (ps[i]'hi).s (w.alloc (Zf5 (ps[i]'hi).op (ps[i]'hi).n (ps[i]'hi).s (ps[i]'hi).at_ (ps[i]'hi).kv)) D (Zai hS (Zab w _)) hbs
 rw[hin] at cin
 generalize (ps[i]'hi).op=op at *
 generalize (ps[i]'hi).n=nn at *
 generalize (ps[i]'hi).s=ss at *
 generalize (ps[i]'hi).at_=pp at *
 generalize (ps[i]'hi).kv=kv at *
 subst hkv
 subst hpv
 go_enter func102,ntmps102
 go_wp2_with (go_at_call 101;refine cin.mono ?_;rintro r w2 ⟨rfl,rfl⟩)
 go_quiet (fail)
 go_wp2
 go_ret2
 exact⟨Zeh (Zab w _),Or.inr ⟨4,pp,rfl,by decide,rfl⟩⟩
theorem Zny (h:PM w rb fv pv fs ps fns)(i:Nat)(hi:i<ps.length)(sv:Value)(many:Nat)(hm:many≤fs.length)(q1:((ps[i]'hi).op.toList==[97])=false)(q2:((ps[i]'hi).op.toList==[99,97,108,108])=true)(_q3:((ps[i]'hi).op.toList==[109,97,112])=false)(kad:Option Addr)(kn kcp:Nat)(hkv:(ps[i]'hi).kv=.slice kad kn kcp)(hnone:∀r,Zft fs (ps[i]'hi).s.toList many r→r=-1):
  Calls prog 102 #[.pointer (some ⟨rb,5,none⟩),.int .i64 ((i:Nat):Int),sv,.int .i64 ((many:Nat):Int)] w (Zfn (some (4,(ps[i]'hi).at_)) w):=by
 have c5:=h.c5
 have c6:=h.c6
 have hp:=h.hp
 obtain⟨pg,pc,hpv,hc1,hc2,a0,a1,a2,a3,a4⟩:=h.part i hi
 unfold maxLen at hc2
 have hpg:=Zae a0
 have hrb:=Zae c5
 have hne1:=World.new_ne w _ a0
 have hne2:=World.new_ne w _ c5
 have cfi:=Zd8 (h.below (Zab w (Zf5 (ps[i]'hi).op (ps[i]'hi).n (ps[i]'hi).s (ps[i]'hi).at_ (ps[i]'hi).kv))) (ps[i]'hi).s many hm
 generalize (ps[i]'hi).op=op at *
 generalize (ps[i]'hi).n=nn at *
 generalize (ps[i]'hi).s=ss at *
 generalize (ps[i]'hi).at_=pp at *
 generalize (ps[i]'hi).kv=kv at *
 subst hkv
 subst hpv
 go_enter func102,ntmps102
 go_wp2_with (go_at_call 100;refine cfi.mono ?_;rintro r w2 ⟨⟨fr,rfl,hfr⟩,rfl⟩;obtain rfl:=hnone _ hfr)
 go_quiet (fail)
 go_wp2
 go_ret2
 exact⟨Zeh (Zab w _),Or.inr ⟨4,pp,rfl,by decide,rfl⟩⟩
theorem Zo1 (h:PM w rb fv pv fs ps fns)(i:Nat)(hi:i<ps.length)(sv:Value)(many:Nat)(hm:many≤fs.length)(q1:((ps[i]'hi).op.toList==[97])=false)(q2:((ps[i]'hi).op.toList==[99,97,108,108])=false)(q3:((ps[i]'hi).op.toList==[109,97,112])=true)(kad:Option Addr)(kn kcp:Nat)(hkv:(ps[i]'hi).kv=.slice kad kn kcp)(hnone:∀r,Zft fs (ps[i]'hi).s.toList many r→r=-1):
  Calls prog 102 #[.pointer (some ⟨rb,5,none⟩),.int .i64 ((i:Nat):Int),sv,.int .i64 ((many:Nat):Int)] w (Zfn (some (4,(ps[i]'hi).at_)) w):=by
 have c5:=h.c5
 have c6:=h.c6
 have hp:=h.hp
 obtain⟨pg,pc,hpv,hc1,hc2,a0,a1,a2,a3,a4⟩:=h.part i hi
 unfold maxLen at hc2
 have hpg:=Zae a0
 have hrb:=Zae c5
 have hne1:=World.new_ne w _ a0
 have hne2:=World.new_ne w _ c5
 have cfi:=Zd8 (h.below (Zab w (Zf5 (ps[i]'hi).op (ps[i]'hi).n (ps[i]'hi).s (ps[i]'hi).at_ (ps[i]'hi).kv))) (ps[i]'hi).s many hm
 generalize (ps[i]'hi).op=op at *
 generalize (ps[i]'hi).n=nn at *
 generalize (ps[i]'hi).s=ss at *
 generalize (ps[i]'hi).at_=pp at *
 generalize (ps[i]'hi).kv=kv at *
 subst hkv
 subst hpv
 go_enter func102,ntmps102
 go_wp2_with (go_at_call 100;refine cfi.mono ?_;rintro r w2 ⟨⟨fr,rfl,hfr⟩,rfl⟩;obtain rfl:=hnone _ hfr)
 go_quiet (fail)
 go_wp2
 go_ret2
 exact⟨Zeh (Zab w _),Or.inr ⟨4,pp,rfl,by decide,rfl⟩⟩
theorem Zmc (h:PM w rb fv pv fs ps fns)(i:Nat)(hi:i<ps.length)(sv:Value)(many:Nat)(hm:many≤fs.length)(q1:((ps[i]'hi).op.toList==[97])=false)(q2:((ps[i]'hi).op.toList==[99,97,108,108])=true)(_q3:((ps[i]'hi).op.toList==[109,97,112])=false)(kad:Option Addr)(kn kcp:Nat)(hkv:(ps[i]'hi).kv=.slice kad kn kcp)(j:Nat)(hj:j<fs.length)(hfound:∀r,Zft fs (ps[i]'hi).s.toList many r→r=(j:Int))(aad:Option Addr)(an acp:Nat)(hav:(fs[j]'hj).pv=.slice aad an acp)(hne:¬ an=kn):
  Calls prog 102 #[.pointer (some ⟨rb,5,none⟩),.int .i64 ((i:Nat):Int),sv,.int .i64 ((many:Nat):Int)] w (Zfn (some (6,(ps[i]'hi).at_)) w):=by
 have c5:=h.c5
 have c6:=h.c6
 have hp:=h.hp
 obtain⟨pg,pc,hpv,hc1,hc2,a0,a1,a2,a3,a4⟩:=h.part i hi
 unfold maxLen at hc2
 have hpg:=Zae a0
 have hrb:=Zae c5
 have hne1:=World.new_ne w _ a0
 have hne2:=World.new_ne w _ c5
 have cfi:=Zd8 (h.below (Zab w (Zf5 (ps[i]'hi).op (ps[i]'hi).n (ps[i]'hi).s (ps[i]'hi).at_ (ps[i]'hi).kv))) (ps[i]'hi).s many hm
 obtain⟨fg,fc,hfv,hd1,hd2,b0,b1,b2,b3,b4⟩:=h.fun j hj
 unfold maxLen at hd2
 have hne3:=World.new_ne w _ b0
 have hff:=h.hf
 rw[hav] at b2
 clear b0 b1 b3 b4 hav
 generalize (ps[i]'hi).op=op at *
 generalize (ps[i]'hi).n=nn at *
 generalize (ps[i]'hi).s=ss at *
 generalize (ps[i]'hi).at_=pp at *
 generalize (ps[i]'hi).kv=kv at *
 subst hkv
 subst hfv
 have b2p:=Zac (o:=Zf5 op nn ss pp (.slice kad kn kcp)) b2
 subst hpv
 go_enter func102,ntmps102
 go_wp2_with (go_at_call 100;refine cfi.mono ?_;rintro r w2 ⟨⟨fr,rfl,hfr⟩,rfl⟩;obtain rfl:=hfound _ hfr;clear hfr)
 go_region
 all_goals go_wp2
 all_goals go_quiet (fail)
 all_goals go_wp2
 all_goals go_ret2
 all_goals refine⟨?_,Or.inr ⟨6,pp,rfl,by decide,rfl⟩⟩
 all_goals first
  | exact Zeh (Zab w _)
  | exact Zeh (Zeh (Zab w _))
  | exact Zeh (Zab w _).drew
theorem Zn0 (h:PM w rb fv pv fs ps fns)(i:Nat)(hi:i<ps.length)(sv:Value)(many:Nat)(hm:many≤fs.length)(q1:((ps[i]'hi).op.toList==[97])=false)(q2:((ps[i]'hi).op.toList==[99,97,108,108])=false)(q3:((ps[i]'hi).op.toList==[109,97,112])=true)(kad:Option Addr)(kn kcp:Nat)(hkv:(ps[i]'hi).kv=.slice kad kn kcp)(j:Nat)(hj:j<fs.length)(hfound:∀r,Zft fs (ps[i]'hi).s.toList many r→r=(j:Int))(aad:Option Addr)(an acp:Nat)(hav:(fs[j]'hj).pv=.slice aad an acp)(hne:¬ an=kn):
  Calls prog 102 #[.pointer (some ⟨rb,5,none⟩),.int .i64 ((i:Nat):Int),sv,.int .i64 ((many:Nat):Int)] w (Zfn (some (6,(ps[i]'hi).at_)) w):=by
 have c5:=h.c5
 have c6:=h.c6
 have hp:=h.hp
 obtain⟨pg,pc,hpv,hc1,hc2,a0,a1,a2,a3,a4⟩:=h.part i hi
 unfold maxLen at hc2
 have hpg:=Zae a0
 have hrb:=Zae c5
 have hne1:=World.new_ne w _ a0
 have hne2:=World.new_ne w _ c5
 have cfi:=Zd8 (h.below (Zab w (Zf5 (ps[i]'hi).op (ps[i]'hi).n (ps[i]'hi).s (ps[i]'hi).at_ (ps[i]'hi).kv))) (ps[i]'hi).s many hm
 obtain⟨fg,fc,hfv,hd1,hd2,b0,b1,b2,b3,b4⟩:=h.fun j hj
 unfold maxLen at hd2
 have hne3:=World.new_ne w _ b0
 have hff:=h.hf
 rw[hav] at b2
 clear b0 b1 b3 b4 hav
 generalize (ps[i]'hi).op=op at *
 generalize (ps[i]'hi).n=nn at *
 generalize (ps[i]'hi).s=ss at *
 generalize (ps[i]'hi).at_=pp at *
 generalize (ps[i]'hi).kv=kv at *
 subst hkv
 subst hfv
 have b2p:=Zac (o:=Zf5 op nn ss pp (.slice kad kn kcp)) b2
 subst hpv
 go_enter func102,ntmps102
 go_wp2_with (go_at_call 100;refine cfi.mono ?_;rintro r w2 ⟨⟨fr,rfl,hfr⟩,rfl⟩;obtain rfl:=hfound _ hfr;clear hfr)
 go_region
 all_goals go_wp2
 all_goals go_quiet (fail)
 all_goals go_wp2
 all_goals go_ret2
 all_goals refine⟨?_,Or.inr ⟨6,pp,rfl,by decide,rfl⟩⟩
 all_goals first
  | exact Zeh (Zab w _)
  | exact Zeh (Zeh (Zab w _))
  | exact Zeh (Zab w _).drew
theorem Zym (h:PM w rb fv pv fs ps fns)(i:Nat)(hi:i<ps.length)(sv:Value)(many:Nat)(hm:many≤fs.length)(q1:((ps[i]'hi).op.toList==[97])=false)(q2:((ps[i]'hi).op.toList==[99,97,108,108])=false)(q3:((ps[i]'hi).op.toList==[109,97,112])=false)(kad:Option Addr)(kcp:Nat)(bs:List ByteArray)(D:Nat→Prop)(hS:Zao w D 9 1 sv bs.length (Zco bs))(ks:List Ex)(js:List Nat)(hkv:(ps[i]'hi).kv=.slice kad js.length kcp)(lo n:Nat)(hjs:Zao w (fun _=>True) 3 1 (ps[i]'hi).kv js.length (Zg9 js))(hks:Zby w (fun _=>True) ps lo ks js)(hwf:Zp9 ks)(hsz:Zes ks≤n+1)(hbs:bs.length+Zes ks+1≤100000)(IH:Zzq rb fv pv fs ps fns n):
  Calls prog 102 #[.pointer (some ⟨rb,5,none⟩),.int .i64 ((i:Nat):Int),sv,.int .i64 ((many:Nat):Int)] w (Zfn (nmK ((fns.take many).map Za5) (Zap bs) (ps[i]'hi).op.data.toList (ps[i]'hi).s.data.toList 0 ks) w):=by
 have c5:=h.c5
 have c6:=h.c6
 have hp:=h.hp
 obtain⟨pg,pc,hpv,hc1,hc2,a0,a1,a2,a3,a4⟩:=h.part i hi
 unfold maxLen at hc2
 have hpg:=Zae a0
 have hrb:=Zae c5
 have hne1:=World.new_ne w _ a0
 have hne2:=World.new_ne w _ c5
 generalize (ps[i]'hi).op=op at *
 generalize (ps[i]'hi).n=nn at *
 generalize (ps[i]'hi).s=ss at *
 generalize (ps[i]'hi).at_=pp at *
 rw[hkv] at hjs
 generalize (ps[i]'hi).kv=kv at *
 subst hkv
 generalize hRES:nmK ((fns.take many).map Za5) (Zap bs) op.data.toList ss.data.toList 0 ks=RES at *
 have HPM:=h
 subst hpv
 go_enter func102,ntmps102
 go_wp2
 have hjl:Aside (js.length=ks.length):=hks.length
 go_loopg [13] js.length (fun gh iv wr=>∃q:Nat,gh=js.length-q∧iv=.int .i64 ((q:Nat):Int)∧q≤js.length∧Below (w.alloc (Zf5 op nn ss pp (.slice kad js.length kcp))).heap.size (w.alloc (Zf5 op nn ss pp (.slice kad js.length kcp))) wr∧Aside (RES=nmK ((fns.take many).map Za5) (Zap bs) op.data.toList ss.data.toList q (ks.drop q)))
 case atStart=>exact⟨0,by omega,rfl,by omega,Below.refl _ _,by show RES=_;rw[←hRES];rfl⟩
 case round =>
  obtain⟨q,rfl,rfl,hq,hbw,hR⟩:=hrel
  have hBw:Below w.heap.size w wr:=(Zab w (Zf5 op nn ss pp (.slice kad js.length kcp))).trans (hbw.mono (by simp))
  have px:Px wr w.heap.size ⟨op,nn,ss,pp,.slice kad js.length kcp⟩:=(Px.new w ⟨op,nn,ss,pp,.slice kad js.length kcp⟩ rfl).below hbw
  obtain⟨o0,o1,o2,o3,o4⟩:=px.facts
  have hzw:=hBw.size
  by_cases hlt:q<js.length
  ·obtain⟨kg,kc,hkv2,_,hk1,hk2,hkcell⟩:=hjs.cell (by omega)
   simp only[Value.slice.injEq] at hkv2
   obtain⟨rfl,_,rfl⟩:=hkv2
   unfold maxLen at hk2
   have kq:wr.cell? ⟨kg,q,none⟩=some (.int .i64 ((js[q]:Nat):Int)):=Below.cellv hBw (by rw[hkcell q (by omega)];simp[Zg9,hlt])
   have hkx:q<ks.length:=by have:=hjl.out;omega
   have hrx:Ze0 w (fun _=>True) ps lo ks[q] js[q]:=Zmt hks q hkx hlt
   have hwx:=Zr8 ks q hkx hwf
   have hsx:=Zks ks q hkx
   have HR2:RES=orE (nmE ((fns.take many).map Za5) (if (op.data.toList==[108,101,116]&&q==1) then Zap bs++[ss.data.toList] else Zap bs) ks[q]) (nmK ((fns.take many).map Za5) (Zap bs) op.data.toList ss.data.toList (q+1) (ks.drop (q+1))):=by
    rw[hR.out,Zra _ _ _ _ _ _ hkx]
   clear hR hkcell
   generalize js[q]=jq at *
   cases q4:(op.toList==[108,101,116])
   ·have hcond:(if (op.data.toList==[108,101,116]&&q==1) then Zap bs++[ss.data.toList] else Zap bs)=Zap bs:=by rw[←ByteArray.toList_eq,q4];rfl
    cases hO:nmE ((fns.take many).map Za5) (if (op.data.toList==[108,101,116]&&q==1) then Zap bs++[ss.data.toList] else Zap bs) ks[q] with
    | none =>
     have HR3:Aside (RES=nmK ((fns.take many).map Za5) (Zap bs) op.data.toList ss.data.toList (q+1) (ks.drop (q+1))):=by show _=_;rw[HR2,hO];rfl
     have HR2x:=HR2
     clear HR2
     have hO1:nmE ((fns.take many).map Za5) (Zap bs) ks[q]=none:=by rw[←hO,hcond]
     have OLEM:∀{r:Ending},((nmE ((fns.take many).map Za5) (Zap bs) ks[q]=none∧r=.returned (.tuple #[.int .i64 0,.int .i64 0]))∨∃c p:Nat,nmE ((fns.take many).map Za5) (Zap bs) ks[q]=some (c,p)∧c≠0∧r=.returned (.tuple #[.int .i64 (c:Int),.int .i64 (p:Int)]))→r=.returned (.tuple #[.int .i64 0,.int .i64 0]):=by
      intro r hr
      rw[hO1] at hr
      rcases hr with ⟨g1,g2⟩ | ⟨c,p,g1,g2,g3⟩
      ·exact g2
      ·cases g1
     clear hO hcond HR2x
     go_wp2_with (first
      |(go_at_call 102;go_loud (refine (IH ks[q] jq _ bs w2 lo many (wr.heap.size≤·) (by omega) hwx ((h.below hBw).below hB2) (hrx.map (fun _ _ _ h=>h) (Nat.le_refl _) (fun _ _ _ hh=>Zai (Zai hh hBw) hB2)) (Zao.of_owns own2) (by first | omega | (simp;omega)) hm).mono ?_;rintro r w5 ⟨hb5,hO5⟩;obtain rfl:=OLEM hO5))
      |(at_builtin;go_loud (obtain⟨i0,hi0,hz0,hz1,hz2⟩:=info_parts Tryz.infoStrR;refine Zcq rfl _ _ 30 rfl 9 i0 _ 1 16 underlying30 hi0 hz0 hz1 hz2 rfl (by decide) rfl sv bs.length (Zco bs) rfl (Zai hS hBw) (fun u hu=>by simp[Zco] at hu;obtain⟨b,_,rfl⟩:=hu;rfl) (by unfold maxLen;omega) (by omega) ?_;intro l1 w2 own2 hg2;clear hi0 hz0 hz1 hz2;obtain⟨lad,lcp,rfl⟩:=Zaf own2;have hB2:=Zc7 hg2;have px2:=px.below hB2;obtain⟨t0,t1,t2,t3,t4⟩:=px2.facts;have kq2:=Below.cellv hB2 kq;have sz2:=hB2.size;have ne2:=World.new_ne w2 _ t0;have ne3:=World.new_ne w2 _ kq2)))
     go_roundg (js.length-(q+1))
     case measure=>omega
     case rel=>exact⟨q+1,rfl,by go_num,by omega,(hbw.trans (hB2.mono (by have:=hbw.size;omega))).trans (hb5.mono (by have:=hB2.size;have:=hbw.size;omega)),HR3.out⟩
    | some x =>
     obtain⟨oc,op2⟩:=x
     have HR3:Aside (RES=some (oc,op2)):=by show _=_;rw[HR2,hO];rfl
     have hoc:oc≠0:=Zgx _ _ _ _ _ hO
     have HR2x:=HR2
     clear HR2
     have hO1:nmE ((fns.take many).map Za5) (Zap bs) ks[q]=some (oc,op2):=by rw[←hO,hcond]
     have OLEM:∀{r:Ending},((nmE ((fns.take many).map Za5) (Zap bs) ks[q]=none∧r=.returned (.tuple #[.int .i64 0,.int .i64 0]))∨∃c p:Nat,nmE ((fns.take many).map Za5) (Zap bs) ks[q]=some (c,p)∧c≠0∧r=.returned (.tuple #[.int .i64 (c:Int),.int .i64 (p:Int)]))→r=.returned (.tuple #[.int .i64 (oc:Int),.int .i64 (op2:Int)]):=by
      intro r hr
      rw[hO1] at hr
      rcases hr with ⟨g1,g2⟩ | ⟨c,p,g1,g2,g3⟩
      ·cases g1
      ·cases g1;exact g3
     clear hO hcond HR2x
     go_wp2_with (first
      |(go_at_call 102;go_loud (refine (IH ks[q] jq _ bs w2 lo many (wr.heap.size≤·) (by omega) hwx ((h.below hBw).below hB2) (hrx.map (fun _ _ _ h=>h) (Nat.le_refl _) (fun _ _ _ hh=>Zai (Zai hh hBw) hB2)) (Zao.of_owns own2) (by first | omega | (simp;omega)) hm).mono ?_;rintro r w5 ⟨hb5,hO5⟩;obtain rfl:=OLEM hO5))
      |(at_builtin;go_loud (obtain⟨i0,hi0,hz0,hz1,hz2⟩:=info_parts Tryz.infoStrR;refine Zcq rfl _ _ 30 rfl 9 i0 _ 1 16 underlying30 hi0 hz0 hz1 hz2 rfl (by decide) rfl sv bs.length (Zco bs) rfl (Zai hS hBw) (fun u hu=>by simp[Zco] at hu;obtain⟨b,_,rfl⟩:=hu;rfl) (by unfold maxLen;omega) (by omega) ?_;intro l1 w2 own2 hg2;clear hi0 hz0 hz1 hz2;obtain⟨lad,lcp,rfl⟩:=Zaf own2;have hB2:=Zc7 hg2;have px2:=px.below hB2;obtain⟨t0,t1,t2,t3,t4⟩:=px2.facts;have kq2:=Below.cellv hB2 kq;have sz2:=hB2.size;have ne2:=World.new_ne w2 _ t0;have ne3:=World.new_ne w2 _ kq2)))
     go_ret2
     exact⟨(hBw.trans (hB2.mono (by omega))).trans (hb5.mono (by have:=hB2.size;omega)),Or.inr ⟨oc,op2,HR3.out,hoc,rfl⟩⟩
   ·by_cases hq1:q=1
    ·have hcond:(if (op.data.toList==[108,101,116]&&q==1) then Zap bs++[ss.data.toList] else Zap bs)=Zap bs++[ss.data.toList]:=by rw[←ByteArray.toList_eq,q4,hq1];rfl
     have hq1b:(((q:Nat):Int)==1)=true:=by rw[hq1];rfl
     clear hq1
     cases hO:nmE ((fns.take many).map Za5) (if (op.data.toList==[108,101,116]&&q==1) then Zap bs++[ss.data.toList] else Zap bs) ks[q] with
     | none =>
      have HR3:Aside (RES=nmK ((fns.take many).map Za5) (Zap bs) op.data.toList ss.data.toList (q+1) (ks.drop (q+1))):=by show _=_;rw[HR2,hO];rfl
      have HR2x:=HR2
      clear HR2
      have hO1:nmE ((fns.take many).map Za5) (Zap (bs++[ss])) ks[q]=none:=by rw[←hO,hcond];simp[Zap]
      have OLEM:∀{r:Ending},((nmE ((fns.take many).map Za5) (Zap (bs++[ss])) ks[q]=none∧r=.returned (.tuple #[.int .i64 0,.int .i64 0]))∨∃c p:Nat,nmE ((fns.take many).map Za5) (Zap (bs++[ss])) ks[q]=some (c,p)∧c≠0∧r=.returned (.tuple #[.int .i64 (c:Int),.int .i64 (p:Int)]))→r=.returned (.tuple #[.int .i64 0,.int .i64 0]):=by
       intro r hr
       rw[hO1] at hr
       rcases hr with ⟨g1,g2⟩ | ⟨c,p,g1,g2,g3⟩
       ·exact g2
       ·cases g1
      clear hO hcond HR2x
      go_wp2_with (first
       |(go_at_call 102;go_loud (refine (IH ks[q] jq _ (bs++[ss]) w3 lo many (wr.heap.size≤·) (by omega) hwx ((h.below hBw).below hB3) (hrx.map (fun _ _ _ h=>h) (Nat.le_refl _) (fun _ _ _ hh=>Zai (Zai hh hBw) hB3)) (by have:=Zao.of_owns own3;simpa[Zco] using this) (by first | omega | (simp;omega)) hm).mono ?_;rintro r w5 ⟨hb5,hO5⟩;obtain rfl:=OLEM hO5))
       |(at_builtin;go_loud (obtain⟨i0,hi0,hz0,hz1,hz2⟩:=info_parts Tryz.infoStrR;refine wpList_append_own_at _ rfl _ _ 30 rfl wr.heap.size 9 i0 _ 1 16 underlying30 hi0 hz0 hz1 hz2 rfl (by decide) _ _ _ rfl (own2.alloc _) ⟨w2.heap.size,0,none⟩ 1 1 [.string ss] rfl rfl (cell_one_new _ _ _) (fun x hx=>by simp at hx;subst hx;rfl) (by unfold maxLen;omega) (by omega) (by simp;omega) ?_;intro l2 w3 own3 hg3 hnil3 hat3;clear hi0 hz0 hz1 hz2;obtain⟨lad2,lcp2,rfl⟩:=Zaf own3;have hB3:=Below.grown (B:=wr.heap.size) (a:=wr) (hB2.alloc sz2 _) hg3 (by simp;omega) (fun k hk=>(own2.lt k hk).1);have px3:=px.below hB3;obtain⟨u0,u1,u2,u3,u4⟩:=px3.facts;have kq3:=Below.cellv hB3 kq))
       |(at_builtin;go_loud (obtain⟨i0,hi0,hz0,hz1,hz2⟩:=info_parts Tryz.infoStrR;refine Zcq rfl _ _ 30 rfl 9 i0 _ 1 16 underlying30 hi0 hz0 hz1 hz2 rfl (by decide) rfl sv bs.length (Zco bs) rfl (Zai hS hBw) (fun u hu=>by simp[Zco] at hu;obtain⟨b,_,rfl⟩:=hu;rfl) (by unfold maxLen;omega) (by omega) ?_;intro l1 w2 own2 hg2;clear hi0 hz0 hz1 hz2;obtain⟨lad,lcp,rfl⟩:=Zaf own2;have hB2:=Zc7 hg2;have px2:=px.below hB2;obtain⟨t0,t1,t2,t3,t4⟩:=px2.facts;have kq2:=Below.cellv hB2 kq;have sz2:=hB2.size;have ne2:=World.new_ne w2 _ t0;have ne3:=World.new_ne w2 _ kq2)))
      go_roundg (js.length-(q+1))
      case measure=>omega
      case rel=>exact⟨q+1,rfl,by go_num,by omega,(hbw.trans (hB3.mono (by have:=hbw.size;omega))).trans (hb5.mono (by have:=hB3.size;have:=hbw.size;omega)),HR3.out⟩
     | some x =>
      obtain⟨oc,op2⟩:=x
      have HR3:Aside (RES=some (oc,op2)):=by show _=_;rw[HR2,hO];rfl
      have hoc:oc≠0:=Zgx _ _ _ _ _ hO
      have HR2x:=HR2
      clear HR2
      have hO1:nmE ((fns.take many).map Za5) (Zap (bs++[ss])) ks[q]=some (oc,op2):=by rw[←hO,hcond];simp[Zap]
      have OLEM:∀{r:Ending},((nmE ((fns.take many).map Za5) (Zap (bs++[ss])) ks[q]=none∧r=.returned (.tuple #[.int .i64 0,.int .i64 0]))∨∃c p:Nat,nmE ((fns.take many).map Za5) (Zap (bs++[ss])) ks[q]=some (c,p)∧c≠0∧r=.returned (.tuple #[.int .i64 (c:Int),.int .i64 (p:Int)]))→r=.returned (.tuple #[.int .i64 (oc:Int),.int .i64 (op2:Int)]):=by
       intro r hr
       rw[hO1] at hr
       rcases hr with ⟨g1,g2⟩ | ⟨c,p,g1,g2,g3⟩
       ·cases g1
       ·cases g1;exact g3
      clear hO hcond HR2x
      go_wp2_with (first
       |(go_at_call 102;go_loud (refine (IH ks[q] jq _ (bs++[ss]) w3 lo many (wr.heap.size≤·) (by omega) hwx ((h.below hBw).below hB3) (hrx.map (fun _ _ _ h=>h) (Nat.le_refl _) (fun _ _ _ hh=>Zai (Zai hh hBw) hB3)) (by have:=Zao.of_owns own3;simpa[Zco] using this) (by first | omega | (simp;omega)) hm).mono ?_;rintro r w5 ⟨hb5,hO5⟩;obtain rfl:=OLEM hO5))
       |(at_builtin;go_loud (obtain⟨i0,hi0,hz0,hz1,hz2⟩:=info_parts Tryz.infoStrR;refine wpList_append_own_at _ rfl _ _ 30 rfl wr.heap.size 9 i0 _ 1 16 underlying30 hi0 hz0 hz1 hz2 rfl (by decide) _ _ _ rfl (own2.alloc _) ⟨w2.heap.size,0,none⟩ 1 1 [.string ss] rfl rfl (cell_one_new _ _ _) (fun x hx=>by simp at hx;subst hx;rfl) (by unfold maxLen;omega) (by omega) (by simp;omega) ?_;intro l2 w3 own3 hg3 hnil3 hat3;clear hi0 hz0 hz1 hz2;obtain⟨lad2,lcp2,rfl⟩:=Zaf own3;have hB3:=Below.grown (B:=wr.heap.size) (a:=wr) (hB2.alloc sz2 _) hg3 (by simp;omega) (fun k hk=>(own2.lt k hk).1);have px3:=px.below hB3;obtain⟨u0,u1,u2,u3,u4⟩:=px3.facts;have kq3:=Below.cellv hB3 kq))
       |(at_builtin;go_loud (obtain⟨i0,hi0,hz0,hz1,hz2⟩:=info_parts Tryz.infoStrR;refine Zcq rfl _ _ 30 rfl 9 i0 _ 1 16 underlying30 hi0 hz0 hz1 hz2 rfl (by decide) rfl sv bs.length (Zco bs) rfl (Zai hS hBw) (fun u hu=>by simp[Zco] at hu;obtain⟨b,_,rfl⟩:=hu;rfl) (by unfold maxLen;omega) (by omega) ?_;intro l1 w2 own2 hg2;clear hi0 hz0 hz1 hz2;obtain⟨lad,lcp,rfl⟩:=Zaf own2;have hB2:=Zc7 hg2;have px2:=px.below hB2;obtain⟨t0,t1,t2,t3,t4⟩:=px2.facts;have kq2:=Below.cellv hB2 kq;have sz2:=hB2.size;have ne2:=World.new_ne w2 _ t0;have ne3:=World.new_ne w2 _ kq2)))
      go_ret2
      exact⟨(hBw.trans (hB3.mono (by omega))).trans (hb5.mono (by have:=hB3.size;omega)),Or.inr ⟨oc,op2,HR3.out,hoc,rfl⟩⟩
    ·have hcond:(if (op.data.toList==[108,101,116]&&q==1) then Zap bs++[ss.data.toList] else Zap bs)=Zap bs:=by rw[show (q==1)=false by simpa using hq1];simp
     have hq1b:(((q:Nat):Int)==1)=false:=Zl2 (by omega)
     cases hO:nmE ((fns.take many).map Za5) (if (op.data.toList==[108,101,116]&&q==1) then Zap bs++[ss.data.toList] else Zap bs) ks[q] with
     | none =>
      have HR3:Aside (RES=nmK ((fns.take many).map Za5) (Zap bs) op.data.toList ss.data.toList (q+1) (ks.drop (q+1))):=by show _=_;rw[HR2,hO];rfl
      have HR2x:=HR2
      clear HR2
      have hO1:nmE ((fns.take many).map Za5) (Zap bs) ks[q]=none:=by rw[←hO,hcond]
      have OLEM:∀{r:Ending},((nmE ((fns.take many).map Za5) (Zap bs) ks[q]=none∧r=.returned (.tuple #[.int .i64 0,.int .i64 0]))∨∃c p:Nat,nmE ((fns.take many).map Za5) (Zap bs) ks[q]=some (c,p)∧c≠0∧r=.returned (.tuple #[.int .i64 (c:Int),.int .i64 (p:Int)]))→r=.returned (.tuple #[.int .i64 0,.int .i64 0]):=by
       intro r hr
       rw[hO1] at hr
       rcases hr with ⟨g1,g2⟩ | ⟨c,p,g1,g2,g3⟩
       ·exact g2
       ·cases g1
      clear hO hcond HR2x
      go_wp2_with (first
       |(go_at_call 102;go_loud (refine (IH ks[q] jq _ bs w2 lo many (wr.heap.size≤·) (by omega) hwx ((h.below hBw).below hB2) (hrx.map (fun _ _ _ h=>h) (Nat.le_refl _) (fun _ _ _ hh=>Zai (Zai hh hBw) hB2)) (Zao.of_owns own2) (by first | omega | (simp;omega)) hm).mono ?_;rintro r w5 ⟨hb5,hO5⟩;obtain rfl:=OLEM hO5))
       |(at_builtin;go_loud (obtain⟨i0,hi0,hz0,hz1,hz2⟩:=info_parts Tryz.infoStrR;refine Zcq rfl _ _ 30 rfl 9 i0 _ 1 16 underlying30 hi0 hz0 hz1 hz2 rfl (by decide) rfl sv bs.length (Zco bs) rfl (Zai hS hBw) (fun u hu=>by simp[Zco] at hu;obtain⟨b,_,rfl⟩:=hu;rfl) (by unfold maxLen;omega) (by omega) ?_;intro l1 w2 own2 hg2;clear hi0 hz0 hz1 hz2;obtain⟨lad,lcp,rfl⟩:=Zaf own2;have hB2:=Zc7 hg2;have px2:=px.below hB2;obtain⟨t0,t1,t2,t3,t4⟩:=px2.facts;have kq2:=Below.cellv hB2 kq;have sz2:=hB2.size;have ne2:=World.new_ne w2 _ t0;have ne3:=World.new_ne w2 _ kq2)))
      go_roundg (js.length-(q+1))
      case measure=>omega
      case rel=>exact⟨q+1,rfl,by go_num,by omega,(hbw.trans (hB2.mono (by have:=hbw.size;omega))).trans (hb5.mono (by have:=hB2.size;have:=hbw.size;omega)),HR3.out⟩
     | some x =>
      obtain⟨oc,op2⟩:=x
      have HR3:Aside (RES=some (oc,op2)):=by show _=_;rw[HR2,hO];rfl
      have hoc:oc≠0:=Zgx _ _ _ _ _ hO
      have HR2x:=HR2
      clear HR2
      have hO1:nmE ((fns.take many).map Za5) (Zap bs) ks[q]=some (oc,op2):=by rw[←hO,hcond]
      have OLEM:∀{r:Ending},((nmE ((fns.take many).map Za5) (Zap bs) ks[q]=none∧r=.returned (.tuple #[.int .i64 0,.int .i64 0]))∨∃c p:Nat,nmE ((fns.take many).map Za5) (Zap bs) ks[q]=some (c,p)∧c≠0∧r=.returned (.tuple #[.int .i64 (c:Int),.int .i64 (p:Int)]))→r=.returned (.tuple #[.int .i64 (oc:Int),.int .i64 (op2:Int)]):=by
       intro r hr
       rw[hO1] at hr
       rcases hr with ⟨g1,g2⟩ | ⟨c,p,g1,g2,g3⟩
       ·cases g1
       ·cases g1;exact g3
      clear hO hcond HR2x
      go_wp2_with (first
       |(go_at_call 102;go_loud (refine (IH ks[q] jq _ bs w2 lo many (wr.heap.size≤·) (by omega) hwx ((h.below hBw).below hB2) (hrx.map (fun _ _ _ h=>h) (Nat.le_refl _) (fun _ _ _ hh=>Zai (Zai hh hBw) hB2)) (Zao.of_owns own2) (by first | omega | (simp;omega)) hm).mono ?_;rintro r w5 ⟨hb5,hO5⟩;obtain rfl:=OLEM hO5))
       |(at_builtin;go_loud (obtain⟨i0,hi0,hz0,hz1,hz2⟩:=info_parts Tryz.infoStrR;refine Zcq rfl _ _ 30 rfl 9 i0 _ 1 16 underlying30 hi0 hz0 hz1 hz2 rfl (by decide) rfl sv bs.length (Zco bs) rfl (Zai hS hBw) (fun u hu=>by simp[Zco] at hu;obtain⟨b,_,rfl⟩:=hu;rfl) (by unfold maxLen;omega) (by omega) ?_;intro l1 w2 own2 hg2;clear hi0 hz0 hz1 hz2;obtain⟨lad,lcp,rfl⟩:=Zaf own2;have hB2:=Zc7 hg2;have px2:=px.below hB2;obtain⟨t0,t1,t2,t3,t4⟩:=px2.facts;have kq2:=Below.cellv hB2 kq;have sz2:=hB2.size;have ne2:=World.new_ne w2 _ t0;have ne3:=World.new_ne w2 _ kq2)))
      go_ret2
      exact⟨(hBw.trans (hB2.mono (by omega))).trans (hb5.mono (by have:=hB2.size;omega)),Or.inr ⟨oc,op2,HR3.out,hoc,rfl⟩⟩
  ·go_wp2
   go_ret2
   refine⟨hBw,Or.inl ⟨?_,rfl⟩⟩
   rw[hR.out,List.drop_of_length_le (by have:=hjl.out;omega),nmK]
theorem Znz (h:PM w rb fv pv fs ps fns)(i:Nat)(hi:i<ps.length)(sv:Value)(many:Nat)(hm:many≤fs.length)(q1:((ps[i]'hi).op.toList==[97])=false)(q2:((ps[i]'hi).op.toList==[99,97,108,108])=true)(_q3:((ps[i]'hi).op.toList==[109,97,112])=false)(q4:((ps[i]'hi).op.toList==[108,101,116])=false)(kad:Option Addr)(kcp:Nat)(bs:List ByteArray)(D:Nat→Prop)(hS:Zao w D 9 1 sv bs.length (Zco bs))(ks:List Ex)(js:List Nat)(hkv:(ps[i]'hi).kv=.slice kad js.length kcp)(lo n:Nat)(hjs:Zao w (fun _=>True) 3 1 (ps[i]'hi).kv js.length (Zg9 js))(hks:Zby w (fun _=>True) ps lo ks js)(hwf:Zp9 ks)(hsz:Zes ks≤n+1)(hbs:bs.length+Zes ks+1≤100000)(IH:Zzq rb fv pv fs ps fns n)(j:Nat)(hj:j<fs.length)(hfound:∀r,Zft fs (ps[i]'hi).s.toList many r→r=(j:Int))(aad:Option Addr)(acp:Nat)(hav:(fs[j]'hj).pv=.slice aad js.length acp):
  Calls prog 102 #[.pointer (some ⟨rb,5,none⟩),.int .i64 ((i:Nat):Int),sv,.int .i64 ((many:Nat):Int)] w (Zfn (nmK ((fns.take many).map Za5) (Zap bs) (ps[i]'hi).op.data.toList (ps[i]'hi).s.data.toList 0 ks) w):=by
 have c5:=h.c5
 have c6:=h.c6
 have hp:=h.hp
 obtain⟨pg,pc,hpv,hc1,hc2,a0,a1,a2,a3,a4⟩:=h.part i hi
 unfold maxLen at hc2
 have hpg:=Zae a0
 have hrb:=Zae c5
 have hne1:=World.new_ne w _ a0
 have hne2:=World.new_ne w _ c5
 have cfi:=Zd8 (h.below (Zab w (Zf5 (ps[i]'hi).op (ps[i]'hi).n (ps[i]'hi).s (ps[i]'hi).at_ (ps[i]'hi).kv))) (ps[i]'hi).s many hm
 obtain⟨fg,fc,hfv,hd1,hd2,b0,b1,b2,b3,b4⟩:=h.fun j hj
 unfold maxLen at hd2
 have hne3:=World.new_ne w _ b0
 have hff:=h.hf
 rw[hav] at b2
 clear b0 b1 b3 b4 hav
 generalize (ps[i]'hi).op=op at *
 generalize (ps[i]'hi).n=nn at *
 generalize (ps[i]'hi).s=ss at *
 generalize (ps[i]'hi).at_=pp at *
 rw[hkv] at hjs
 generalize (ps[i]'hi).kv=kv at *
 subst hkv
 generalize hRES:nmK ((fns.take many).map Za5) (Zap bs) op.data.toList ss.data.toList 0 ks=RES at *
 subst hfv
 have b2p:=Zac (o:=Zf5 op nn ss pp (.slice kad js.length kcp)) b2
 subst hpv
 go_enter func102,ntmps102
 go_wp2_with (go_at_call 100;refine cfi.mono ?_;rintro r w2 ⟨⟨fr,rfl,hfr⟩,rfl⟩;obtain rfl:=hfound _ hfr;clear hfr)
 go_region
 all_goals go_wp2
 have hjl:Aside (js.length=ks.length):=hks.length
 go_loopg [13] js.length (fun gh iv wr=>∃q:Nat,gh=js.length-q∧iv=.int .i64 ((q:Nat):Int)∧q≤js.length∧Below (w.alloc (Zf5 op nn ss pp (.slice kad js.length kcp))).heap.size (w.alloc (Zf5 op nn ss pp (.slice kad js.length kcp))) wr∧Aside (RES=nmK ((fns.take many).map Za5) (Zap bs) op.data.toList ss.data.toList q (ks.drop q)))
 case atStart=>exact⟨0,by omega,rfl,by omega,(by first | exact (Below.refl _ _).drew | exact Zeh (Below.refl _ _) | exact Below.refl _ _),by show RES=_;rw[←hRES];rfl⟩
 case round =>
  obtain⟨q,rfl,rfl,hq,hbw,hR⟩:=hrel
  have hBw:Below w.heap.size w wr:=(Zab w (Zf5 op nn ss pp (.slice kad js.length kcp))).trans (hbw.mono (by simp))
  have px:Px wr w.heap.size ⟨op,nn,ss,pp,.slice kad js.length kcp⟩:=(Px.new w ⟨op,nn,ss,pp,.slice kad js.length kcp⟩ rfl).below hbw
  obtain⟨o0,o1,o2,o3,o4⟩:=px.facts
  have hzw:=hBw.size
  by_cases hlt:q<js.length
  ·obtain⟨kg,kc,hkv2,_,hk1,hk2,hkcell⟩:=hjs.cell (by omega)
   simp only[Value.slice.injEq] at hkv2
   obtain⟨rfl,_,rfl⟩:=hkv2
   unfold maxLen at hk2
   have kq:wr.cell? ⟨kg,q,none⟩=some (.int .i64 ((js[q]:Nat):Int)):=Below.cellv hBw (by rw[hkcell q (by omega)];simp[Zg9,hlt])
   have hkx:q<ks.length:=by have:=hjl.out;omega
   have hrx:Ze0 w (fun _=>True) ps lo ks[q] js[q]:=Zmt hks q hkx hlt
   have hwx:=Zr8 ks q hkx hwf
   have hsx:=Zks ks q hkx
   have HR2:RES=orE (nmE ((fns.take many).map Za5) (if (op.data.toList==[108,101,116]&&q==1) then Zap bs++[ss.data.toList] else Zap bs) ks[q]) (nmK ((fns.take many).map Za5) (Zap bs) op.data.toList ss.data.toList (q+1) (ks.drop (q+1))):=by
    rw[hR.out,Zra _ _ _ _ _ _ hkx]
   clear hR hkcell
   generalize js[q]=jq at *
   have hcond:(if (op.data.toList==[108,101,116]&&q==1) then Zap bs++[ss.data.toList] else Zap bs)=Zap bs:=by rw[←ByteArray.toList_eq,q4];rfl
   cases hO:nmE ((fns.take many).map Za5) (if (op.data.toList==[108,101,116]&&q==1) then Zap bs++[ss.data.toList] else Zap bs) ks[q] with
   | none =>
    have HR3:Aside (RES=nmK ((fns.take many).map Za5) (Zap bs) op.data.toList ss.data.toList (q+1) (ks.drop (q+1))):=by show _=_;rw[HR2,hO];rfl
    have HR2x:=HR2
    clear HR2
    have hO1:nmE ((fns.take many).map Za5) (Zap bs) ks[q]=none:=by rw[←hO,hcond]
    have OLEM:∀{r:Ending},((nmE ((fns.take many).map Za5) (Zap bs) ks[q]=none∧r=.returned (.tuple #[.int .i64 0,.int .i64 0]))∨∃c p:Nat,nmE ((fns.take many).map Za5) (Zap bs) ks[q]=some (c,p)∧c≠0∧r=.returned (.tuple #[.int .i64 (c:Int),.int .i64 (p:Int)]))→r=.returned (.tuple #[.int .i64 0,.int .i64 0]):=by
     intro r hr
     rw[hO1] at hr
     rcases hr with ⟨g1,g2⟩ | ⟨c,p,g1,g2,g3⟩
     ·exact g2
     ·cases g1
    clear hO hcond HR2x
    go_wp2_with (first
     |(go_at_call 102;go_loud (refine (IH ks[q] jq _ bs w2 lo many (wr.heap.size≤·) (by omega) hwx ((h.below hBw).below hB2) (hrx.map (fun _ _ _ h=>h) (Nat.le_refl _) (fun _ _ _ hh=>Zai (Zai hh hBw) hB2)) (Zao.of_owns own2) (by first | omega | (simp;omega)) hm).mono ?_;rintro r w5 ⟨hb5,hO5⟩;obtain rfl:=OLEM hO5))
     |(at_builtin;go_loud (obtain⟨i0,hi0,hz0,hz1,hz2⟩:=info_parts Tryz.infoStrR;refine Zcq rfl _ _ 30 rfl 9 i0 _ 1 16 underlying30 hi0 hz0 hz1 hz2 rfl (by decide) rfl sv bs.length (Zco bs) rfl (Zai hS hBw) (fun u hu=>by simp[Zco] at hu;obtain⟨b,_,rfl⟩:=hu;rfl) (by unfold maxLen;omega) (by omega) ?_;intro l1 w2 own2 hg2;clear hi0 hz0 hz1 hz2;obtain⟨lad,lcp,rfl⟩:=Zaf own2;have hB2:=Zc7 hg2;have px2:=px.below hB2;obtain⟨t0,t1,t2,t3,t4⟩:=px2.facts;have kq2:=Below.cellv hB2 kq;have sz2:=hB2.size;have ne2:=World.new_ne w2 _ t0;have ne3:=World.new_ne w2 _ kq2)))
    go_roundg (js.length-(q+1))
    case measure=>omega
    case rel=>exact⟨q+1,rfl,by go_num,by omega,(hbw.trans (hB2.mono (by have:=hbw.size;omega))).trans (hb5.mono (by have:=hB2.size;have:=hbw.size;omega)),HR3.out⟩
   | some x =>
    obtain⟨oc,op2⟩:=x
    have HR3:Aside (RES=some (oc,op2)):=by show _=_;rw[HR2,hO];rfl
    have hoc:oc≠0:=Zgx _ _ _ _ _ hO
    have HR2x:=HR2
    clear HR2
    have hO1:nmE ((fns.take many).map Za5) (Zap bs) ks[q]=some (oc,op2):=by rw[←hO,hcond]
    have OLEM:∀{r:Ending},((nmE ((fns.take many).map Za5) (Zap bs) ks[q]=none∧r=.returned (.tuple #[.int .i64 0,.int .i64 0]))∨∃c p:Nat,nmE ((fns.take many).map Za5) (Zap bs) ks[q]=some (c,p)∧c≠0∧r=.returned (.tuple #[.int .i64 (c:Int),.int .i64 (p:Int)]))→r=.returned (.tuple #[.int .i64 (oc:Int),.int .i64 (op2:Int)]):=by
     intro r hr
     rw[hO1] at hr
     rcases hr with ⟨g1,g2⟩ | ⟨c,p,g1,g2,g3⟩
     ·cases g1
     ·cases g1;exact g3
    clear hO hcond HR2x
    go_wp2_with (first
     |(go_at_call 102;go_loud (refine (IH ks[q] jq _ bs w2 lo many (wr.heap.size≤·) (by omega) hwx ((h.below hBw).below hB2) (hrx.map (fun _ _ _ h=>h) (Nat.le_refl _) (fun _ _ _ hh=>Zai (Zai hh hBw) hB2)) (Zao.of_owns own2) (by first | omega | (simp;omega)) hm).mono ?_;rintro r w5 ⟨hb5,hO5⟩;obtain rfl:=OLEM hO5))
     |(at_builtin;go_loud (obtain⟨i0,hi0,hz0,hz1,hz2⟩:=info_parts Tryz.infoStrR;refine Zcq rfl _ _ 30 rfl 9 i0 _ 1 16 underlying30 hi0 hz0 hz1 hz2 rfl (by decide) rfl sv bs.length (Zco bs) rfl (Zai hS hBw) (fun u hu=>by simp[Zco] at hu;obtain⟨b,_,rfl⟩:=hu;rfl) (by unfold maxLen;omega) (by omega) ?_;intro l1 w2 own2 hg2;clear hi0 hz0 hz1 hz2;obtain⟨lad,lcp,rfl⟩:=Zaf own2;have hB2:=Zc7 hg2;have px2:=px.below hB2;obtain⟨t0,t1,t2,t3,t4⟩:=px2.facts;have kq2:=Below.cellv hB2 kq;have sz2:=hB2.size;have ne2:=World.new_ne w2 _ t0;have ne3:=World.new_ne w2 _ kq2)))
    go_ret2
    exact⟨(hBw.trans (hB2.mono (by omega))).trans (hb5.mono (by have:=hB2.size;omega)),Or.inr ⟨oc,op2,HR3.out,hoc,rfl⟩⟩
  ·go_wp2
   go_ret2
   refine⟨hBw,Or.inl ⟨?_,rfl⟩⟩
   rw[hR.out,List.drop_of_length_le (by have:=hjl.out;omega),nmK]
theorem Zo2 (h:PM w rb fv pv fs ps fns)(i:Nat)(hi:i<ps.length)(sv:Value)(many:Nat)(hm:many≤fs.length)(q1:((ps[i]'hi).op.toList==[97])=false)(q2:((ps[i]'hi).op.toList==[99,97,108,108])=false)(q3:((ps[i]'hi).op.toList==[109,97,112])=true)(q4:((ps[i]'hi).op.toList==[108,101,116])=false)(kad:Option Addr)(kcp:Nat)(bs:List ByteArray)(D:Nat→Prop)(hS:Zao w D 9 1 sv bs.length (Zco bs))(ks:List Ex)(js:List Nat)(hkv:(ps[i]'hi).kv=.slice kad js.length kcp)(lo n:Nat)(hjs:Zao w (fun _=>True) 3 1 (ps[i]'hi).kv js.length (Zg9 js))(hks:Zby w (fun _=>True) ps lo ks js)(hwf:Zp9 ks)(hsz:Zes ks≤n+1)(hbs:bs.length+Zes ks+1≤100000)(IH:Zzq rb fv pv fs ps fns n)(j:Nat)(hj:j<fs.length)(hfound:∀r,Zft fs (ps[i]'hi).s.toList many r→r=(j:Int))(aad:Option Addr)(acp:Nat)(hav:(fs[j]'hj).pv=.slice aad js.length acp):
  Calls prog 102 #[.pointer (some ⟨rb,5,none⟩),.int .i64 ((i:Nat):Int),sv,.int .i64 ((many:Nat):Int)] w (Zfn (nmK ((fns.take many).map Za5) (Zap bs) (ps[i]'hi).op.data.toList (ps[i]'hi).s.data.toList 0 ks) w):=by
 have c5:=h.c5
 have c6:=h.c6
 have hp:=h.hp
 obtain⟨pg,pc,hpv,hc1,hc2,a0,a1,a2,a3,a4⟩:=h.part i hi
 unfold maxLen at hc2
 have hpg:=Zae a0
 have hrb:=Zae c5
 have hne1:=World.new_ne w _ a0
 have hne2:=World.new_ne w _ c5
 have cfi:=Zd8 (h.below (Zab w (Zf5 (ps[i]'hi).op (ps[i]'hi).n (ps[i]'hi).s (ps[i]'hi).at_ (ps[i]'hi).kv))) (ps[i]'hi).s many hm
 obtain⟨fg,fc,hfv,hd1,hd2,b0,b1,b2,b3,b4⟩:=h.fun j hj
 unfold maxLen at hd2
 have hne3:=World.new_ne w _ b0
 have hff:=h.hf
 rw[hav] at b2
 clear b0 b1 b3 b4 hav
 generalize (ps[i]'hi).op=op at *
 generalize (ps[i]'hi).n=nn at *
 generalize (ps[i]'hi).s=ss at *
 generalize (ps[i]'hi).at_=pp at *
 rw[hkv] at hjs
 generalize (ps[i]'hi).kv=kv at *
 subst hkv
 generalize hRES:nmK ((fns.take many).map Za5) (Zap bs) op.data.toList ss.data.toList 0 ks=RES at *
 subst hfv
 have b2p:=Zac (o:=Zf5 op nn ss pp (.slice kad js.length kcp)) b2
 subst hpv
 go_enter func102,ntmps102
 go_wp2_with (go_at_call 100;refine cfi.mono ?_;rintro r w2 ⟨⟨fr,rfl,hfr⟩,rfl⟩;obtain rfl:=hfound _ hfr;clear hfr)
 go_region
 all_goals go_wp2
 have hjl:Aside (js.length=ks.length):=hks.length
 go_loopg [13] js.length (fun gh iv wr=>∃q:Nat,gh=js.length-q∧iv=.int .i64 ((q:Nat):Int)∧q≤js.length∧Below (w.alloc (Zf5 op nn ss pp (.slice kad js.length kcp))).heap.size (w.alloc (Zf5 op nn ss pp (.slice kad js.length kcp))) wr∧Aside (RES=nmK ((fns.take many).map Za5) (Zap bs) op.data.toList ss.data.toList q (ks.drop q)))
 case atStart=>exact⟨0,by omega,rfl,by omega,(by first | exact (Below.refl _ _).drew | exact Zeh (Below.refl _ _) | exact Below.refl _ _),by show RES=_;rw[←hRES];rfl⟩
 case round =>
  obtain⟨q,rfl,rfl,hq,hbw,hR⟩:=hrel
  have hBw:Below w.heap.size w wr:=(Zab w (Zf5 op nn ss pp (.slice kad js.length kcp))).trans (hbw.mono (by simp))
  have px:Px wr w.heap.size ⟨op,nn,ss,pp,.slice kad js.length kcp⟩:=(Px.new w ⟨op,nn,ss,pp,.slice kad js.length kcp⟩ rfl).below hbw
  obtain⟨o0,o1,o2,o3,o4⟩:=px.facts
  have hzw:=hBw.size
  by_cases hlt:q<js.length
  ·obtain⟨kg,kc,hkv2,_,hk1,hk2,hkcell⟩:=hjs.cell (by omega)
   simp only[Value.slice.injEq] at hkv2
   obtain⟨rfl,_,rfl⟩:=hkv2
   unfold maxLen at hk2
   have kq:wr.cell? ⟨kg,q,none⟩=some (.int .i64 ((js[q]:Nat):Int)):=Below.cellv hBw (by rw[hkcell q (by omega)];simp[Zg9,hlt])
   have hkx:q<ks.length:=by have:=hjl.out;omega
   have hrx:Ze0 w (fun _=>True) ps lo ks[q] js[q]:=Zmt hks q hkx hlt
   have hwx:=Zr8 ks q hkx hwf
   have hsx:=Zks ks q hkx
   have HR2:RES=orE (nmE ((fns.take many).map Za5) (if (op.data.toList==[108,101,116]&&q==1) then Zap bs++[ss.data.toList] else Zap bs) ks[q]) (nmK ((fns.take many).map Za5) (Zap bs) op.data.toList ss.data.toList (q+1) (ks.drop (q+1))):=by
    rw[hR.out,Zra _ _ _ _ _ _ hkx]
   clear hR hkcell
   generalize js[q]=jq at *
   have hcond:(if (op.data.toList==[108,101,116]&&q==1) then Zap bs++[ss.data.toList] else Zap bs)=Zap bs:=by rw[←ByteArray.toList_eq,q4];rfl
   cases hO:nmE ((fns.take many).map Za5) (if (op.data.toList==[108,101,116]&&q==1) then Zap bs++[ss.data.toList] else Zap bs) ks[q] with
   | none =>
    have HR3:Aside (RES=nmK ((fns.take many).map Za5) (Zap bs) op.data.toList ss.data.toList (q+1) (ks.drop (q+1))):=by show _=_;rw[HR2,hO];rfl
    have HR2x:=HR2
    clear HR2
    have hO1:nmE ((fns.take many).map Za5) (Zap bs) ks[q]=none:=by rw[←hO,hcond]
    have OLEM:∀{r:Ending},((nmE ((fns.take many).map Za5) (Zap bs) ks[q]=none∧r=.returned (.tuple #[.int .i64 0,.int .i64 0]))∨∃c p:Nat,nmE ((fns.take many).map Za5) (Zap bs) ks[q]=some (c,p)∧c≠0∧r=.returned (.tuple #[.int .i64 (c:Int),.int .i64 (p:Int)]))→r=.returned (.tuple #[.int .i64 0,.int .i64 0]):=by
     intro r hr
     rw[hO1] at hr
     rcases hr with ⟨g1,g2⟩ | ⟨c,p,g1,g2,g3⟩
     ·exact g2
     ·cases g1
    clear hO hcond HR2x
    go_wp2_with (first
     |(go_at_call 102;go_loud (refine (IH ks[q] jq _ bs w2 lo many (wr.heap.size≤·) (by omega) hwx ((h.below hBw).below hB2) (hrx.map (fun _ _ _ h=>h) (Nat.le_refl _) (fun _ _ _ hh=>Zai (Zai hh hBw) hB2)) (Zao.of_owns own2) (by first | omega | (simp;omega)) hm).mono ?_;rintro r w5 ⟨hb5,hO5⟩;obtain rfl:=OLEM hO5))
     |(at_builtin;go_loud (obtain⟨i0,hi0,hz0,hz1,hz2⟩:=info_parts Tryz.infoStrR;refine Zcq rfl _ _ 30 rfl 9 i0 _ 1 16 underlying30 hi0 hz0 hz1 hz2 rfl (by decide) rfl sv bs.length (Zco bs) rfl (Zai hS hBw) (fun u hu=>by simp[Zco] at hu;obtain⟨b,_,rfl⟩:=hu;rfl) (by unfold maxLen;omega) (by omega) ?_;intro l1 w2 own2 hg2;clear hi0 hz0 hz1 hz2;obtain⟨lad,lcp,rfl⟩:=Zaf own2;have hB2:=Zc7 hg2;have px2:=px.below hB2;obtain⟨t0,t1,t2,t3,t4⟩:=px2.facts;have kq2:=Below.cellv hB2 kq;have sz2:=hB2.size;have ne2:=World.new_ne w2 _ t0;have ne3:=World.new_ne w2 _ kq2)))
    go_roundg (js.length-(q+1))
    case measure=>omega
    case rel=>exact⟨q+1,rfl,by go_num,by omega,(hbw.trans (hB2.mono (by have:=hbw.size;omega))).trans (hb5.mono (by have:=hB2.size;have:=hbw.size;omega)),HR3.out⟩
   | some x =>
    obtain⟨oc,op2⟩:=x
    have HR3:Aside (RES=some (oc,op2)):=by show _=_;rw[HR2,hO];rfl
    have hoc:oc≠0:=Zgx _ _ _ _ _ hO
    have HR2x:=HR2
    clear HR2
    have hO1:nmE ((fns.take many).map Za5) (Zap bs) ks[q]=some (oc,op2):=by rw[←hO,hcond]
    have OLEM:∀{r:Ending},((nmE ((fns.take many).map Za5) (Zap bs) ks[q]=none∧r=.returned (.tuple #[.int .i64 0,.int .i64 0]))∨∃c p:Nat,nmE ((fns.take many).map Za5) (Zap bs) ks[q]=some (c,p)∧c≠0∧r=.returned (.tuple #[.int .i64 (c:Int),.int .i64 (p:Int)]))→r=.returned (.tuple #[.int .i64 (oc:Int),.int .i64 (op2:Int)]):=by
     intro r hr
     rw[hO1] at hr
     rcases hr with ⟨g1,g2⟩ | ⟨c,p,g1,g2,g3⟩
     ·cases g1
     ·cases g1;exact g3
    clear hO hcond HR2x
    go_wp2_with (first
     |(go_at_call 102;go_loud (refine (IH ks[q] jq _ bs w2 lo many (wr.heap.size≤·) (by omega) hwx ((h.below hBw).below hB2) (hrx.map (fun _ _ _ h=>h) (Nat.le_refl _) (fun _ _ _ hh=>Zai (Zai hh hBw) hB2)) (Zao.of_owns own2) (by first | omega | (simp;omega)) hm).mono ?_;rintro r w5 ⟨hb5,hO5⟩;obtain rfl:=OLEM hO5))
     |(at_builtin;go_loud (obtain⟨i0,hi0,hz0,hz1,hz2⟩:=info_parts Tryz.infoStrR;refine Zcq rfl _ _ 30 rfl 9 i0 _ 1 16 underlying30 hi0 hz0 hz1 hz2 rfl (by decide) rfl sv bs.length (Zco bs) rfl (Zai hS hBw) (fun u hu=>by simp[Zco] at hu;obtain⟨b,_,rfl⟩:=hu;rfl) (by unfold maxLen;omega) (by omega) ?_;intro l1 w2 own2 hg2;clear hi0 hz0 hz1 hz2;obtain⟨lad,lcp,rfl⟩:=Zaf own2;have hB2:=Zc7 hg2;have px2:=px.below hB2;obtain⟨t0,t1,t2,t3,t4⟩:=px2.facts;have kq2:=Below.cellv hB2 kq;have sz2:=hB2.size;have ne2:=World.new_ne w2 _ t0;have ne3:=World.new_ne w2 _ kq2)))
    go_ret2
    exact⟨(hBw.trans (hB2.mono (by omega))).trans (hb5.mono (by have:=hB2.size;omega)),Or.inr ⟨oc,op2,HR3.out,hoc,rfl⟩⟩
  ·go_wp2
   go_ret2
   refine⟨hBw,Or.inl ⟨?_,rfl⟩⟩
   rw[hR.out,List.drop_of_length_le (by have:=hjl.out;omega),nmK]
end
end Go.Proofs.YtliapghpeoaonaaGreatDoor
