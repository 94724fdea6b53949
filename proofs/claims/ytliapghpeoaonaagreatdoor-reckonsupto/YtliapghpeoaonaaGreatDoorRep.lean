/-
  Exprs of the implementation as they lie in memory: which values stand for which expr, and what of memory that hangs on.
-/
import Derived.Test.YtliapghpeoaonaaGreatDoorNext
import Derived.Test.YtliapghpeoaonaaGreatDoorTouch
import Derived.Test.YtliapghpeoaonaaGreatDoorVal
import Derived.Lib.ConvBytes
import Derived.Lib.AtoiErrMem
set_option maxHeartbeats 1000000
set_option maxRecDepth 100000
namespace Go.Proofs.YtliapghpeoaonaaGreatDoor
open Go.Proofs.Tryz
open Go.RowKit
def Zug (w:World)(D:Nat→Prop)(sp:Nat)(wd n:List UInt8)(at_:Nat)(vs:List Value)(v:Value):Prop :=
 (wd=[108,105,115,116]∧∃sl,v=.iface 420 (.agg #[.int .i64 ((sp:Nat):Int),sl])∧Zao w D 141 1 sl vs.length vs) ∨
 (wd=[99,97,108,108]∧∃(nb:ByteArray) (sl:Value),nb.data.toList=n∧nb.size≤2000∧v=.iface 414 (.agg #[.int .i64 ((sp:Nat):Int),.string nb,.int .i64 ((at_:Nat):Int),sl])∧Zao w D 141 1 sl vs.length vs) ∨
 (wd=[109,97,112]∧∃(nb:ByteArray) (v0:Value),nb.data.toList=n∧nb.size≤2000∧vs=[v0]∧v=.iface 418 (.agg #[.int .i64 ((sp:Nat):Int),.string nb,.int .i64 ((at_:Nat):Int),v0])) ∨
 (wd=[108,101,116]∧∃(nb:ByteArray) (v0 v1:Value),nb.data.toList=n∧nb.size≤2000∧vs=[v0,v1]∧v=.iface 411 (.agg #[.int .i64 ((sp:Nat):Int),.string nb,.int .i64 ((at_:Nat):Int),v0,v1])) ∨
 (wd=[105,102]∧∃v0 v1 v2,vs=[v0,v1,v2]∧v=.iface 422 (.agg #[.int .i64 ((sp:Nat):Int),v0,v1,v2])) ∨
 (wd=[115,101,116]∧∃v0 v1 v2,vs=[v0,v1,v2]∧v=.iface 424 (.agg #[.int .i64 ((sp:Nat):Int),v0,v1,v2])) ∨
 (wd=[108,101,110]∧∃v0,vs=[v0]∧v=.iface 429 (.agg #[.int .i64 ((sp:Nat):Int),v0])) ∨
 (Za3 wd=some (false,2)∧∃(ob:ByteArray) (v0 v1:Value),ob.data.toList=wd∧vs=[v0,v1]∧v=.iface 427 (.agg #[.int .i64 ((sp:Nat):Int),.string ob,v0,v1]))
theorem Zug.map {w w':World}{D D':Nat→Prop}{sp:Nat}{wd n:List UInt8}{at_:Nat}{vs:List Value}{v:Value}(h:Zug w D sp wd n at_ vs v)(hR:∀sl,Zao w D 141 1 sl vs.length vs→Zao w' D' 141 1 sl vs.length vs):Zug w' D' sp wd n at_ vs v:=by
 rcases h with ⟨a,sl,b,c⟩ | ⟨a,nb,sl,b,c,d,e⟩ | h | h | h | h | h | h
 ·exact Or.inl ⟨a,sl,b,hR sl c⟩
 ·exact Or.inr (Or.inl ⟨a,nb,sl,b,c,d,hR sl e⟩)
 ·exact Or.inr (Or.inr (Or.inl h))
 ·exact Or.inr (Or.inr (Or.inr (Or.inl h)))
 ·exact Or.inr (Or.inr (Or.inr (Or.inr (Or.inl h))))
 ·exact Or.inr (Or.inr (Or.inr (Or.inr (Or.inr (Or.inl h)))))
 ·exact Or.inr (Or.inr (Or.inr (Or.inr (Or.inr (Or.inr (Or.inl h))))))
 ·exact Or.inr (Or.inr (Or.inr (Or.inr (Or.inr (Or.inr (Or.inr h))))))
mutual
def Zc8 (w:World)(D:Nat→Prop):Ex→Value→Prop
 | .num b,v=>∃sp:Nat,v=.iface 432 (.agg #[.int .i64 ((sp:Nat):Int),.int .i64 (Zbb b)])
 | .txt b,v=>∃(sp:Nat) (bb:ByteArray),bb.data.toList=b∧v=.iface 434 (.agg #[.int .i64 ((sp:Nat):Int),.string bb])
 | .var n a,v=>∃nb:ByteArray,nb.data.toList=n∧v=.iface 409 (.agg #[.int .i64 ((a:Nat):Int),.string nb])
 | .form wd n a ks,v=>∃(sp:Nat) (vs:List Value),Zbj w D ks vs∧Zug w D sp wd n a vs v
def Zbj (w:World)(D:Nat→Prop):List Ex→List Value→Prop
 | [],vs=>vs=[]
 | e::es,vs=>∃v r,vs=v::r∧Zc8 w D e v∧Zbj w D es r
end
mutual
theorem Zc8.map {w w':World}{D D':Nat→Prop}(hR:∀sl n vs,Zao w D 141 1 sl n vs→Zao w' D' 141 1 sl n vs):∀{e:Ex} {v:Value},Zc8 w D e v→Zc8 w' D' e v
 | .num b,v,h=>by rw[Zc8] at h ⊢;exact h
 | .txt b,v,h=>by rw[Zc8] at h ⊢;exact h
 | .var n a,v,h=>by rw[Zc8] at h ⊢;exact h
 | .form wd n a ks,v,h=>by
  rw[Zc8] at h ⊢
  obtain⟨sp,vs,h1,h2⟩:=h
  exact⟨sp,vs,Zbj.map hR h1,h2.map fun sl hs=>hR sl _ _ hs⟩
theorem Zbj.map {w w':World}{D D':Nat→Prop}(hR:∀sl n vs,Zao w D 141 1 sl n vs→Zao w' D' 141 1 sl n vs):∀{es:List Ex} {vs:List Value},Zbj w D es vs→Zbj w' D' es vs
 | [],vs,h=>by rw[Zbj] at h ⊢;exact h
 | e::es,vs,h=>by
  rw[Zbj] at h ⊢
  obtain⟨v,r,h1,h2,h3⟩:=h
  exact⟨v,r,h1,Zc8.map hR h2,Zbj.map hR h3⟩
end
theorem Zbj.keep {w w':World}{D:Nat→Prop}{es:List Ex}{vs:List Value}(h:Zbj w D es vs)(hS:Z33 D w w'):Zbj w' (fun k=>D k∧k<w.heap.size) es vs:=h.map fun _ _ _ hr=>hr.keep hS
theorem Zc8.keep {w w':World}{D:Nat→Prop}{e:Ex}{v:Value}(h:Zc8 w D e v)(hS:Z33 D w w'):Zc8 w' (fun k=>D k∧k<w.heap.size) e v:=h.map fun _ _ _ hr=>hr.keep hS
theorem Zbj.weaken {w:World}{D D':Nat→Prop}{es:List Ex}{vs:List Value}(h:Zbj w D es vs)(hD:∀k,D k→D' k):Zbj w D' es vs:=h.map fun _ _ _ hr=>hr.weaken hD
theorem Zc8.weaken {w:World}{D D':Nat→Prop}{e:Ex}{v:Value}(h:Zc8 w D e v)(hD:∀k,D k→D' k):Zc8 w D' e v:=h.map fun _ _ _ hr=>hr.weaken hD
theorem Zbj.length {w:World}{D:Nat→Prop}:∀{es:List Ex} {vs:List Value},Zbj w D es vs→vs.length=es.length
 | [],vs,h=>by rw[Zbj] at h;rw[h];rfl
 | e::es,vs,h=>by
  rw[Zbj] at h
  obtain⟨v,r,rfl,_,h3⟩:=h
  simp[Zbj.length h3]
theorem Zbj.snoc {w:World}{D:Nat→Prop}{e:Ex}{v:Value}(he:Zc8 w D e v):∀{es:List Ex} {vs:List Value},Zbj w D es vs→Zbj w D (es++[e]) (vs++[v])
 | [],vs,h=>by
  rw[Zbj] at h
  subst h
  rw[List.nil_append,List.nil_append,Zbj]
  exact⟨v,[],rfl,he,by rw[Zbj]⟩
 | x::es,vs,h=>by
  rw[Zbj] at h
  obtain⟨y,r,rfl,h2,h3⟩:=h
  rw[List.cons_append,List.cons_append,Zbj]
  exact⟨y,r++[v],rfl,h2,Zbj.snoc he h3⟩
theorem Zc8.iface {w:World}{D:Nat→Prop}:∀{e:Ex} {v:Value},Zc8 w D e v→∃t x,v=.iface t x
 | .num b,v,h=>by rw[Zc8] at h;obtain⟨_,h⟩:=h;exact⟨_,_,h⟩
 | .txt b,v,h=>by rw[Zc8] at h;obtain⟨_,_,_,h⟩:=h;exact⟨_,_,h⟩
 | .var n a,v,h=>by rw[Zc8] at h;obtain⟨_,_,h⟩:=h;exact⟨_,_,h⟩
 | .form wd n a ks,v,h=>by
  rw[Zc8] at h
  obtain⟨sp,vs,_,h2⟩:=h
  rcases h2 with ⟨_,_,h,_⟩ | ⟨_,_,_,_,_,h,_⟩ | ⟨_,_,_,_,_,_,h⟩ | ⟨_,_,_,_,_,_,_,h⟩ | ⟨_,_,_,_,_,h⟩ | ⟨_,_,_,_,_,h⟩ | ⟨_,_,_,h⟩ | ⟨_,_,_,_,_,_,h⟩
  all_goals exact⟨_,_,h⟩
theorem Zkt {pb rb:Nat}{w w':World}{D:Nat→Prop}(h:PT pb rb w w')(hD:∀k,D k→k≠pb∧k≠rb):Z33 D w w':=fun k hk hlt=>h.block k hlt (by rintro (g | g);exact (hD k hk).2 g;exact (hD k hk).1 g)
end Go.Proofs.YtliapghpeoaonaaGreatDoor
namespace Go.Proofs.YtliapghpeoaonaaGreatDoor
open Go.Proofs.Tryz
open Go.RowKit
attribute [local go_sem ↓] Go.wp_at_zero Go.wp_at_succ
theorem Zme {w x:World}(h:Below w.heap.size w x)(n:Nat):Below w.heap.size w (x.drewN n):=below_drewN h n
def Zcj (w:World)(D:Nat→Prop)(sp:Nat)(wd n:List UInt8)(at_:Nat)(vs:List Value)(e:Ending)(w':World):Prop :=
 ∃v,e=.returned v∧Zug w' D sp wd n at_ vs v∧Below w.heap.size w w'
theorem Zzi (bd nb:ByteArray)(sp at_:Nat)(ad:Option Addr)(len cap:Nat)(vs:List Value)(w:World)(D:Nat→Prop)(h:bd.toList=[108,105,115,116])(hR:Zao w D 141 1 (.slice ad len cap) vs.length vs):
  Calls prog 276 #[.string bd,.int .i64 ((sp:Nat):Int),Zd7 nb at_,.slice ad len cap] w (Zcj w D sp [108,105,115,116] nb.data.toList at_ vs):=by
 go_enter func276,ntmps276
 go_wp2
 go_ret
 exact⟨_,rfl,Or.inl ⟨rfl,_,rfl,Zai hR (Zab w _)⟩,Zab w _⟩
theorem Zzl (bd nb:ByteArray)(sp at_:Nat)(ad:Option Addr)(len cap:Nat)(vs:List Value)(w:World)(D:Nat→Prop)(hnb:nb.size≤2000)(h:bd.toList=[99,97,108,108])(hR:Zao w D 141 1 (.slice ad len cap) vs.length vs):
  Calls prog 276 #[.string bd,.int .i64 ((sp:Nat):Int),Zd7 nb at_,.slice ad len cap] w (Zcj w D sp [99,97,108,108] nb.data.toList at_ vs):=by
 go_enter func276,ntmps276
 go_wp2
 go_ret
 exact⟨_,rfl,Or.inr (Or.inl ⟨rfl,nb,_,rfl,hnb,rfl,Zai hR (Zab w _)⟩),Zab w _⟩
theorem Z3h (bd nb:ByteArray)(sp at_ g cap:Nat)(t0:TypeId)(x0:Value)(w:World)(D:Nat→Prop)(hnb:nb.size≤2000)(h:bd.toList=[109,97,112])(_hcap:1≤cap)(_hcm:cap≤maxLen)(c0:w.cell? ⟨g,0,none⟩=some (.iface t0 x0)):
  Calls prog 276 #[.string bd,.int .i64 ((sp:Nat):Int),Zd7 nb at_,.slice (some ⟨g,0,none⟩) 1 cap] w (Zcj w D sp [109,97,112] nb.data.toList at_ [(.iface t0 x0)]):=by
 unfold maxLen at _hcm
 have hlt:=Zae c0
 have hne:=World.new_ne w _ c0
 go_enter func276,ntmps276
 go_wp2
 go_quiet (fail)
 go_wp2
 go_ret
 exact⟨_,rfl,Or.inr (Or.inr (Or.inl ⟨rfl,nb,(.iface t0 x0),rfl,hnb,rfl,rfl⟩)),Zme (Zab w _) _⟩
theorem Z3i (bd nb:ByteArray)(sp at_ g cap:Nat)(t0 t1:TypeId)(x0 x1:Value)(w:World)(D:Nat→Prop)(hnb:nb.size≤2000)(h:bd.toList=[108,101,116])(_hcap:2≤cap)(_hcm:cap≤maxLen)(c0:w.cell? ⟨g,0,none⟩=some (.iface t0 x0))(c1:w.cell? ⟨g,1,none⟩=some (.iface t1 x1)):
  Calls prog 276 #[.string bd,.int .i64 ((sp:Nat):Int),Zd7 nb at_,.slice (some ⟨g,0,none⟩) 2 cap] w (Zcj w D sp [108,101,116] nb.data.toList at_ [(.iface t0 x0),(.iface t1 x1)]):=by
 unfold maxLen at _hcm
 have hlt:=Zae c0
 have hne:=World.new_ne w _ c0
 go_enter func276,ntmps276
 go_wp2
 go_quiet (fail)
 go_wp2
 go_ret
 exact⟨_,rfl,Or.inr (Or.inr (Or.inr (Or.inl ⟨rfl,nb,(.iface t0 x0),(.iface t1 x1),rfl,hnb,rfl,rfl⟩))),Zme (Zab w _) _⟩
theorem build_if (bd nb:ByteArray)(sp at_ g cap:Nat)(t0 t1 t2:TypeId)(x0 x1 x2:Value)(w:World)(D:Nat→Prop)(h:bd.toList=[105,102])(_hcap:3≤cap)(_hcm:cap≤maxLen)(c0:w.cell? ⟨g,0,none⟩=some (.iface t0 x0))(c1:w.cell? ⟨g,1,none⟩=some (.iface t1 x1))(c2:w.cell? ⟨g,2,none⟩=some (.iface t2 x2)):
  Calls prog 276 #[.string bd,.int .i64 ((sp:Nat):Int),Zd7 nb at_,.slice (some ⟨g,0,none⟩) 3 cap] w (Zcj w D sp [105,102] nb.data.toList at_ [(.iface t0 x0),(.iface t1 x1),(.iface t2 x2)]):=by
 unfold maxLen at _hcm
 have hlt:=Zae c0
 have hne:=World.new_ne w _ c0
 go_enter func276,ntmps276
 go_wp2
 go_quiet (fail)
 go_wp2
 go_ret
 exact⟨_,rfl,Or.inr (Or.inr (Or.inr (Or.inr (Or.inl ⟨rfl,(.iface t0 x0),(.iface t1 x1),(.iface t2 x2),rfl,rfl⟩)))),Zme (Zab w _) _⟩
theorem Z3f (bd nb:ByteArray)(sp at_ g cap:Nat)(t0 t1 t2:TypeId)(x0 x1 x2:Value)(w:World)(D:Nat→Prop)(h:bd.toList=[115,101,116])(_hcap:3≤cap)(_hcm:cap≤maxLen)(c0:w.cell? ⟨g,0,none⟩=some (.iface t0 x0))(c1:w.cell? ⟨g,1,none⟩=some (.iface t1 x1))(c2:w.cell? ⟨g,2,none⟩=some (.iface t2 x2)):
  Calls prog 276 #[.string bd,.int .i64 ((sp:Nat):Int),Zd7 nb at_,.slice (some ⟨g,0,none⟩) 3 cap] w (Zcj w D sp [115,101,116] nb.data.toList at_ [(.iface t0 x0),(.iface t1 x1),(.iface t2 x2)]):=by
 unfold maxLen at _hcm
 have hlt:=Zae c0
 have hne:=World.new_ne w _ c0
 go_enter func276,ntmps276
 go_wp2
 go_quiet (fail)
 go_wp2
 go_ret
 exact⟨_,rfl,Or.inr (Or.inr (Or.inr (Or.inr (Or.inr (Or.inl ⟨rfl,(.iface t0 x0),(.iface t1 x1),(.iface t2 x2),rfl,rfl⟩))))),Zme (Zab w _) _⟩
theorem Z3j (bd nb:ByteArray)(sp at_ g cap:Nat)(t0:TypeId)(x0:Value)(w:World)(D:Nat→Prop)(h:bd.toList=[108,101,110])(_hcap:1≤cap)(_hcm:cap≤maxLen)(c0:w.cell? ⟨g,0,none⟩=some (.iface t0 x0)):
  Calls prog 276 #[.string bd,.int .i64 ((sp:Nat):Int),Zd7 nb at_,.slice (some ⟨g,0,none⟩) 1 cap] w (Zcj w D sp [108,101,110] nb.data.toList at_ [(.iface t0 x0)]):=by
 unfold maxLen at _hcm
 have hlt:=Zae c0
 have hne:=World.new_ne w _ c0
 go_enter func276,ntmps276
 go_wp2
 go_ret
 exact⟨_,rfl,Or.inr (Or.inr (Or.inr (Or.inr (Or.inr (Or.inr (Or.inl ⟨rfl,(.iface t0 x0),rfl,rfl⟩)))))),Zab w _⟩
theorem Z3k (bd nb:ByteArray)(sp at_ g cap:Nat)(t0 t1:TypeId)(x0 x1:Value)(w:World)(D:Nat→Prop)(h:bd.toList=[97,100,100])(_hcap:2≤cap)(_hcm:cap≤maxLen)(c0:w.cell? ⟨g,0,none⟩=some (.iface t0 x0))(c1:w.cell? ⟨g,1,none⟩=some (.iface t1 x1)):
  Calls prog 276 #[.string bd,.int .i64 ((sp:Nat):Int),Zd7 nb at_,.slice (some ⟨g,0,none⟩) 2 cap] w (Zcj w D sp [97,100,100] nb.data.toList at_ [(.iface t0 x0),(.iface t1 x1)]):=by
 unfold maxLen at _hcm
 have hlt:=Zae c0
 have hne:=World.new_ne w _ c0
 go_enter func276,ntmps276
 go_wp2
 go_quiet (fail)
 go_wp2
 go_ret
 exact⟨_,rfl,Or.inr (Or.inr (Or.inr (Or.inr (Or.inr (Or.inr (Or.inr ⟨rfl,bd,(.iface t0 x0),(.iface t1 x1),by rw[←ByteArray.toList_eq];exact h,rfl,rfl⟩)))))),Zme (Zab w _) _⟩
theorem Z3e (bd nb:ByteArray)(sp at_ g cap:Nat)(t0 t1:TypeId)(x0 x1:Value)(w:World)(D:Nat→Prop)(h:bd.toList=[115,117,98])(_hcap:2≤cap)(_hcm:cap≤maxLen)(c0:w.cell? ⟨g,0,none⟩=some (.iface t0 x0))(c1:w.cell? ⟨g,1,none⟩=some (.iface t1 x1)):
  Calls prog 276 #[.string bd,.int .i64 ((sp:Nat):Int),Zd7 nb at_,.slice (some ⟨g,0,none⟩) 2 cap] w (Zcj w D sp [115,117,98] nb.data.toList at_ [(.iface t0 x0),(.iface t1 x1)]):=by
 unfold maxLen at _hcm
 have hlt:=Zae c0
 have hne:=World.new_ne w _ c0
 go_enter func276,ntmps276
 go_wp2
 go_quiet (fail)
 go_wp2
 go_ret
 exact⟨_,rfl,Or.inr (Or.inr (Or.inr (Or.inr (Or.inr (Or.inr (Or.inr ⟨rfl,bd,(.iface t0 x0),(.iface t1 x1),by rw[←ByteArray.toList_eq];exact h,rfl,rfl⟩)))))),Zme (Zab w _) _⟩
theorem Z3g (bd nb:ByteArray)(sp at_ g cap:Nat)(t0 t1:TypeId)(x0 x1:Value)(w:World)(D:Nat→Prop)(h:bd.toList=[109,117,108])(_hcap:2≤cap)(_hcm:cap≤maxLen)(c0:w.cell? ⟨g,0,none⟩=some (.iface t0 x0))(c1:w.cell? ⟨g,1,none⟩=some (.iface t1 x1)):
  Calls prog 276 #[.string bd,.int .i64 ((sp:Nat):Int),Zd7 nb at_,.slice (some ⟨g,0,none⟩) 2 cap] w (Zcj w D sp [109,117,108] nb.data.toList at_ [(.iface t0 x0),(.iface t1 x1)]):=by
 unfold maxLen at _hcm
 have hlt:=Zae c0
 have hne:=World.new_ne w _ c0
 go_enter func276,ntmps276
 go_wp2
 go_quiet (fail)
 go_wp2
 go_ret
 exact⟨_,rfl,Or.inr (Or.inr (Or.inr (Or.inr (Or.inr (Or.inr (Or.inr ⟨rfl,bd,(.iface t0 x0),(.iface t1 x1),by rw[←ByteArray.toList_eq];exact h,rfl,rfl⟩)))))),Zme (Zab w _) _⟩
theorem build_eq (bd nb:ByteArray)(sp at_ g cap:Nat)(t0 t1:TypeId)(x0 x1:Value)(w:World)(D:Nat→Prop)(h:bd.toList=[101,113])(_hcap:2≤cap)(_hcm:cap≤maxLen)(c0:w.cell? ⟨g,0,none⟩=some (.iface t0 x0))(c1:w.cell? ⟨g,1,none⟩=some (.iface t1 x1)):
  Calls prog 276 #[.string bd,.int .i64 ((sp:Nat):Int),Zd7 nb at_,.slice (some ⟨g,0,none⟩) 2 cap] w (Zcj w D sp [101,113] nb.data.toList at_ [(.iface t0 x0),(.iface t1 x1)]):=by
 unfold maxLen at _hcm
 have hlt:=Zae c0
 have hne:=World.new_ne w _ c0
 go_enter func276,ntmps276
 go_wp2
 go_quiet (fail)
 go_wp2
 go_ret
 exact⟨_,rfl,Or.inr (Or.inr (Or.inr (Or.inr (Or.inr (Or.inr (Or.inr ⟨rfl,bd,(.iface t0 x0),(.iface t1 x1),by rw[←ByteArray.toList_eq];exact h,rfl,rfl⟩)))))),Zme (Zab w _) _⟩
theorem Zzj (bd nb:ByteArray)(sp at_ g cap:Nat)(t0 t1:TypeId)(x0 x1:Value)(w:World)(D:Nat→Prop)(h:bd.toList=[108,101,115,115])(_hcap:2≤cap)(_hcm:cap≤maxLen)(c0:w.cell? ⟨g,0,none⟩=some (.iface t0 x0))(c1:w.cell? ⟨g,1,none⟩=some (.iface t1 x1)):
  Calls prog 276 #[.string bd,.int .i64 ((sp:Nat):Int),Zd7 nb at_,.slice (some ⟨g,0,none⟩) 2 cap] w (Zcj w D sp [108,101,115,115] nb.data.toList at_ [(.iface t0 x0),(.iface t1 x1)]):=by
 unfold maxLen at _hcm
 have hlt:=Zae c0
 have hne:=World.new_ne w _ c0
 go_enter func276,ntmps276
 go_wp2
 go_quiet (fail)
 go_wp2
 go_ret
 exact⟨_,rfl,Or.inr (Or.inr (Or.inr (Or.inr (Or.inr (Or.inr (Or.inr ⟨rfl,bd,(.iface t0 x0),(.iface t1 x1),by rw[←ByteArray.toList_eq];exact h,rfl,rfl⟩)))))),Zme (Zab w _) _⟩
theorem build_at (bd nb:ByteArray)(sp at_ g cap:Nat)(t0 t1:TypeId)(x0 x1:Value)(w:World)(D:Nat→Prop)(h:bd.toList=[97,116])(_hcap:2≤cap)(_hcm:cap≤maxLen)(c0:w.cell? ⟨g,0,none⟩=some (.iface t0 x0))(c1:w.cell? ⟨g,1,none⟩=some (.iface t1 x1)):
  Calls prog 276 #[.string bd,.int .i64 ((sp:Nat):Int),Zd7 nb at_,.slice (some ⟨g,0,none⟩) 2 cap] w (Zcj w D sp [97,116] nb.data.toList at_ [(.iface t0 x0),(.iface t1 x1)]):=by
 unfold maxLen at _hcm
 have hlt:=Zae c0
 have hne:=World.new_ne w _ c0
 go_enter func276,ntmps276
 go_wp2
 go_quiet (fail)
 go_wp2
 go_ret
 exact⟨_,rfl,Or.inr (Or.inr (Or.inr (Or.inr (Or.inr (Or.inr (Or.inr ⟨rfl,bd,(.iface t0 x0),(.iface t1 x1),by rw[←ByteArray.toList_eq];exact h,rfl,rfl⟩)))))),Zme (Zab w _) _⟩
theorem Zzk (bd nb:ByteArray)(sp at_ g cap:Nat)(t0 t1:TypeId)(x0 x1:Value)(w:World)(D:Nat→Prop)(h:bd.toList=[106,111,105,110])(_hcap:2≤cap)(_hcm:cap≤maxLen)(c0:w.cell? ⟨g,0,none⟩=some (.iface t0 x0))(c1:w.cell? ⟨g,1,none⟩=some (.iface t1 x1)):
  Calls prog 276 #[.string bd,.int .i64 ((sp:Nat):Int),Zd7 nb at_,.slice (some ⟨g,0,none⟩) 2 cap] w (Zcj w D sp [106,111,105,110] nb.data.toList at_ [(.iface t0 x0),(.iface t1 x1)]):=by
 unfold maxLen at _hcm
 have hlt:=Zae c0
 have hne:=World.new_ne w _ c0
 go_enter func276,ntmps276
 go_wp2
 go_quiet (fail)
 go_wp2
 go_ret
 exact⟨_,rfl,Or.inr (Or.inr (Or.inr (Or.inr (Or.inr (Or.inr (Or.inr ⟨rfl,bd,(.iface t0 x0),(.iface t1 x1),by rw[←ByteArray.toList_eq];exact h,rfl,rfl⟩)))))),Zme (Zab w _) _⟩
end Go.Proofs.YtliapghpeoaonaaGreatDoor
namespace Go.Proofs.YtliapghpeoaonaaGreatDoor
open Go.Proofs.Tryz
open Go.RowKit
def Ifs (vs:List Value):Prop:=∀v∈vs,∃t x,v=Value.iface t x
theorem Zbj.ifs {w:World}{D:Nat→Prop}:∀{es:List Ex} {vs:List Value},Zbj w D es vs→Ifs vs
 | [],vs,h=>by rw[Zbj] at h;subst h;intro v hv;cases hv
 | e::es,vs,h=>by
  rw[Zbj] at h
  obtain⟨v,r,rfl,h2,h3⟩:=h
  intro x hx
  rcases List.mem_cons.1 hx with rfl | hx
  ·exact h2.iface
  ·exact Zbj.ifs h3 x hx
theorem Zvo {vs:List Value}(h:vs.length=1):∃a,vs=[a]:=by
 match vs,h with
 | [a],_=>exact⟨a,rfl⟩
theorem Zhq {vs:List Value}(h:vs.length=2):∃a b,vs=[a,b]:=by
 match vs,h with
 | [a,b],_=>exact⟨a,b,rfl⟩
theorem Zts {vs:List Value}(h:vs.length=3):∃a b c,vs=[a,b,c]:=by
 match vs,h with
 | [a,b,c],_=>exact⟨a,b,c,rfl⟩
theorem Zex {l:List UInt8}{nm b:Bool}{m n:Int}(h1:Za3 l=some (nm,m))(h2:Za3 l=some (b,n)):m=n:=by
 rw[h1] at h2
 simp only[Option.some.injEq,Prod.mk.injEq] at h2
 exact h2.2
theorem Zgb {w:World}{D:Nat→Prop}{e:TypeId}{size:Nat}{v:Value}{n:Nat}{xs:List Value}(h:Zao w D e size v n xs):∃ad len cap,v=.slice ad len cap:=by
 rcases h.2 with ⟨h,_⟩ | ⟨g,cap,_,h,_⟩
 ·exact⟨_,_,_,h⟩
 ·exact⟨_,_,_,h⟩
theorem Zub (bd nb:ByteArray)(sp at_:Nat)(pv:Value)(vs:List Value)(w:World)(D:Nat→Prop)(hnb:nb.size≤2000){nm:Bool}{m:Int}(hsh:Za3 bd.data.toList=some (nm,m))(hR:Zao w D 141 1 pv vs.length vs)(hI:Ifs vs)(hlen:0≤m→(vs.length:Int)=m):
  Calls prog 276 #[.string bd,.int .i64 ((sp:Nat):Int),Zd7 nb at_,pv] w (Zcj w D sp bd.data.toList nb.data.toList at_ vs):=by
 rcases Zdx bd.data.toList with h | h | h | h | h | h | h | h | h | h | h | h | h | h | ⟨h,_⟩
 ·have h':bd.toList=[108,105,115,116]:=by rw[ByteArray.toList_eq];exact h
  rw[h]
  obtain⟨ad,len,cap,rfl⟩:=Zgb hR
  exact Zzi bd nb sp at_ ad len cap vs w D h' hR
 ·have h':bd.toList=[99,97,108,108]:=by rw[ByteArray.toList_eq];exact h
  rw[h]
  obtain⟨ad,len,cap,rfl⟩:=Zgb hR
  exact Zzl bd nb sp at_ ad len cap vs w D hnb h' hR
 ·have h':bd.toList=[109,97,112]:=by rw[ByteArray.toList_eq];exact h
  rw[h]
  rw[h] at hsh
  have hm:m=1:=Zex hsh (show Za3 [109,97,112]=some (true,1) by decide)
  obtain⟨a,rfl⟩:=Zvo (vs:=vs) (by have:=hlen (by omega);omega)
  obtain⟨t0,x0,rfl⟩:=hI a (by simp)
  obtain⟨g,cap,rfl,hg,hc1,hc2,hcell⟩:=hR.cell (by simp)
  exact Z3h bd nb sp at_ g cap t0 x0 w D hnb h' hc1 hc2 (by rw[hcell 0 (by simp)];rfl)
 ·have h':bd.toList=[108,101,116]:=by rw[ByteArray.toList_eq];exact h
  rw[h]
  rw[h] at hsh
  have hm:m=2:=Zex hsh (show Za3 [108,101,116]=some (true,2) by decide)
  obtain⟨a,b,rfl⟩:=Zhq (vs:=vs) (by have:=hlen (by omega);omega)
  obtain⟨t0,x0,rfl⟩:=hI a (by simp)
  obtain⟨t1,x1,rfl⟩:=hI b (by simp)
  obtain⟨g,cap,rfl,hg,hc1,hc2,hcell⟩:=hR.cell (by simp)
  exact Z3i bd nb sp at_ g cap t0 t1 x0 x1 w D hnb h' hc1 hc2 (by rw[hcell 0 (by simp)];rfl) (by rw[hcell 1 (by simp)];rfl)
 ·have h':bd.toList=[105,102]:=by rw[ByteArray.toList_eq];exact h
  rw[h]
  rw[h] at hsh
  have hm:m=3:=Zex hsh (show Za3 [105,102]=some (false,3) by decide)
  obtain⟨a,b,c,rfl⟩:=Zts (vs:=vs) (by have:=hlen (by omega);omega)
  obtain⟨t0,x0,rfl⟩:=hI a (by simp)
  obtain⟨t1,x1,rfl⟩:=hI b (by simp)
  obtain⟨t2,x2,rfl⟩:=hI c (by simp)
  obtain⟨g,cap,rfl,hg,hc1,hc2,hcell⟩:=hR.cell (by simp)
  exact build_if bd nb sp at_ g cap t0 t1 t2 x0 x1 x2 w D h' hc1 hc2 (by rw[hcell 0 (by simp)];rfl) (by rw[hcell 1 (by simp)];rfl) (by rw[hcell 2 (by simp)];rfl)
 ·have h':bd.toList=[115,101,116]:=by rw[ByteArray.toList_eq];exact h
  rw[h]
  rw[h] at hsh
  have hm:m=3:=Zex hsh (show Za3 [115,101,116]=some (false,3) by decide)
  obtain⟨a,b,c,rfl⟩:=Zts (vs:=vs) (by have:=hlen (by omega);omega)
  obtain⟨t0,x0,rfl⟩:=hI a (by simp)
  obtain⟨t1,x1,rfl⟩:=hI b (by simp)
  obtain⟨t2,x2,rfl⟩:=hI c (by simp)
  obtain⟨g,cap,rfl,hg,hc1,hc2,hcell⟩:=hR.cell (by simp)
  exact Z3f bd nb sp at_ g cap t0 t1 t2 x0 x1 x2 w D h' hc1 hc2 (by rw[hcell 0 (by simp)];rfl) (by rw[hcell 1 (by simp)];rfl) (by rw[hcell 2 (by simp)];rfl)
 ·have h':bd.toList=[108,101,110]:=by rw[ByteArray.toList_eq];exact h
  rw[h]
  rw[h] at hsh
  have hm:m=1:=Zex hsh (show Za3 [108,101,110]=some (false,1) by decide)
  obtain⟨a,rfl⟩:=Zvo (vs:=vs) (by have:=hlen (by omega);omega)
  obtain⟨t0,x0,rfl⟩:=hI a (by simp)
  obtain⟨g,cap,rfl,hg,hc1,hc2,hcell⟩:=hR.cell (by simp)
  exact Z3j bd nb sp at_ g cap t0 x0 w D h' hc1 hc2 (by rw[hcell 0 (by simp)];rfl)
 ·have h':bd.toList=[97,100,100]:=by rw[ByteArray.toList_eq];exact h
  rw[h]
  rw[h] at hsh
  have hm:m=2:=Zex hsh (show Za3 [97,100,100]=some (false,2) by decide)
  obtain⟨a,b,rfl⟩:=Zhq (vs:=vs) (by have:=hlen (by omega);omega)
  obtain⟨t0,x0,rfl⟩:=hI a (by simp)
  obtain⟨t1,x1,rfl⟩:=hI b (by simp)
  obtain⟨g,cap,rfl,hg,hc1,hc2,hcell⟩:=hR.cell (by simp)
  exact Z3k bd nb sp at_ g cap t0 t1 x0 x1 w D h' hc1 hc2 (by rw[hcell 0 (by simp)];rfl) (by rw[hcell 1 (by simp)];rfl)
 ·have h':bd.toList=[115,117,98]:=by rw[ByteArray.toList_eq];exact h
  rw[h]
  rw[h] at hsh
  have hm:m=2:=Zex hsh (show Za3 [115,117,98]=some (false,2) by decide)
  obtain⟨a,b,rfl⟩:=Zhq (vs:=vs) (by have:=hlen (by omega);omega)
  obtain⟨t0,x0,rfl⟩:=hI a (by simp)
  obtain⟨t1,x1,rfl⟩:=hI b (by simp)
  obtain⟨g,cap,rfl,hg,hc1,hc2,hcell⟩:=hR.cell (by simp)
  exact Z3e bd nb sp at_ g cap t0 t1 x0 x1 w D h' hc1 hc2 (by rw[hcell 0 (by simp)];rfl) (by rw[hcell 1 (by simp)];rfl)
 ·have h':bd.toList=[109,117,108]:=by rw[ByteArray.toList_eq];exact h
  rw[h]
  rw[h] at hsh
  have hm:m=2:=Zex hsh (show Za3 [109,117,108]=some (false,2) by decide)
  obtain⟨a,b,rfl⟩:=Zhq (vs:=vs) (by have:=hlen (by omega);omega)
  obtain⟨t0,x0,rfl⟩:=hI a (by simp)
  obtain⟨t1,x1,rfl⟩:=hI b (by simp)
  obtain⟨g,cap,rfl,hg,hc1,hc2,hcell⟩:=hR.cell (by simp)
  exact Z3g bd nb sp at_ g cap t0 t1 x0 x1 w D h' hc1 hc2 (by rw[hcell 0 (by simp)];rfl) (by rw[hcell 1 (by simp)];rfl)
 ·have h':bd.toList=[101,113]:=by rw[ByteArray.toList_eq];exact h
  rw[h]
  rw[h] at hsh
  have hm:m=2:=Zex hsh (show Za3 [101,113]=some (false,2) by decide)
  obtain⟨a,b,rfl⟩:=Zhq (vs:=vs) (by have:=hlen (by omega);omega)
  obtain⟨t0,x0,rfl⟩:=hI a (by simp)
  obtain⟨t1,x1,rfl⟩:=hI b (by simp)
  obtain⟨g,cap,rfl,hg,hc1,hc2,hcell⟩:=hR.cell (by simp)
  exact build_eq bd nb sp at_ g cap t0 t1 x0 x1 w D h' hc1 hc2 (by rw[hcell 0 (by simp)];rfl) (by rw[hcell 1 (by simp)];rfl)
 ·have h':bd.toList=[108,101,115,115]:=by rw[ByteArray.toList_eq];exact h
  rw[h]
  rw[h] at hsh
  have hm:m=2:=Zex hsh (show Za3 [108,101,115,115]=some (false,2) by decide)
  obtain⟨a,b,rfl⟩:=Zhq (vs:=vs) (by have:=hlen (by omega);omega)
  obtain⟨t0,x0,rfl⟩:=hI a (by simp)
  obtain⟨t1,x1,rfl⟩:=hI b (by simp)
  obtain⟨g,cap,rfl,hg,hc1,hc2,hcell⟩:=hR.cell (by simp)
  exact Zzj bd nb sp at_ g cap t0 t1 x0 x1 w D h' hc1 hc2 (by rw[hcell 0 (by simp)];rfl) (by rw[hcell 1 (by simp)];rfl)
 ·have h':bd.toList=[97,116]:=by rw[ByteArray.toList_eq];exact h
  rw[h]
  rw[h] at hsh
  have hm:m=2:=Zex hsh (show Za3 [97,116]=some (false,2) by decide)
  obtain⟨a,b,rfl⟩:=Zhq (vs:=vs) (by have:=hlen (by omega);omega)
  obtain⟨t0,x0,rfl⟩:=hI a (by simp)
  obtain⟨t1,x1,rfl⟩:=hI b (by simp)
  obtain⟨g,cap,rfl,hg,hc1,hc2,hcell⟩:=hR.cell (by simp)
  exact build_at bd nb sp at_ g cap t0 t1 x0 x1 w D h' hc1 hc2 (by rw[hcell 0 (by simp)];rfl) (by rw[hcell 1 (by simp)];rfl)
 ·have h':bd.toList=[106,111,105,110]:=by rw[ByteArray.toList_eq];exact h
  rw[h]
  rw[h] at hsh
  have hm:m=2:=Zex hsh (show Za3 [106,111,105,110]=some (false,2) by decide)
  obtain⟨a,b,rfl⟩:=Zhq (vs:=vs) (by have:=hlen (by omega);omega)
  obtain⟨t0,x0,rfl⟩:=hI a (by simp)
  obtain⟨t1,x1,rfl⟩:=hI b (by simp)
  obtain⟨g,cap,rfl,hg,hc1,hc2,hcell⟩:=hR.cell (by simp)
  exact Zzk bd nb sp at_ g cap t0 t1 x0 x1 w D h' hc1 hc2 (by rw[hcell 0 (by simp)];rfl) (by rw[hcell 1 (by simp)];rfl)
 ·rw[h] at hsh;cases hsh
def Zuf (l:List UInt8):Prop:=(∀c∈Zaj l,Zav c=true)∧1≤(Zaj l).length∧(Zaj l).length≤9
theorem Zvz (l:List UInt8)(c:UInt8):Zam (l++[c])=10*Zam l+((c.toNat:Int)-48):=by
 simp[Zam]
theorem Z2h:∀(l:List UInt8) (n:Int) (k:Nat),(∀c∈l,Zav c=true)→0≤n→n<10 ^ k→0≤l.foldl (fun n c=>10*n+((c.toNat:Int)-48)) n∧l.foldl (fun n c=>10*n+((c.toNat:Int)-48)) n<10 ^ (k+l.length)
 | [],n,k,_,h0,h1=>⟨h0,h1⟩
 | c::l,n,k,h,h0,h1=>by
  obtain⟨h3,h4⟩:=(Zfq c).1 (h c (by simp))
  have:=Z2h l (10*n+((c.toNat:Int)-48)) (k+1) (fun x hx=>h x (by simp[hx])) (by omega) (by rw[Int.pow_succ];omega)
  rw[show k+(c::l).length=k+1+l.length by simp;omega]
  exact this
theorem Zog (l:List UInt8)(h:∀c∈l,Zav c=true):0≤Zam l∧Zam l<10 ^ l.length:=by
 have:=Z2h l 0 0 h (by omega) (by decide)
 simpa[Zam] using this
theorem Zjv (t:ByteArray)(w:World)(hd:∀c∈t.data.toList,Zav c=true)(h1:1≤t.size)(h9:t.size≤9):
  Calls prog 263 #[.string t,.int .i64 10,.int .i64 64] w fun e w'=>e=.returned (.tuple #[.int .u64 (Zam t.data.toList),.nilIface])∧Below w.heap.size w w':=by
 have e1:t.toList.isEmpty=false:=by
  rw[ByteArray.toList_eq]
  cases h:t.data.toList with
  | nil=>have:=Zax t;rw[h] at this;simp at this;omega
  | cons a l=>rfl
 have hcv:=Lib.run_convert_string_bytes (P:=prog) w 9 153 5 t (u:=.string) underlying9 underlying153 underlying5
 have hB:∀j,j<t.size→(Lib.bytesWorld w 5 t).cell? ⟨w.heap.size,j,none⟩=some (.int .u8 (t.data.toList.getD j 0).toNat):=fun j hj=>Lib.bytesWorld_cell w 5 t j hj
 have hbel:Below w.heap.size w (Lib.bytesWorld w 5 t):=Lib.bytesWorld_below w 5 t
 generalize Lib.bytesWorld w 5 t=W1 at *
 have hmv:IntKind.u64.wrap (IntKind.u64.wrap 18446744073709551616-1)=18446744073709551615:=by
  rw[IntKind.wrap_u64,IntKind.wrap_u64]
  decide
 go_enter func263,ntmps263
 go_wp2
 generalize grownCap w t.size 0 5=cap at *
 clear hcv hmv e1
 have hls:=Zax t
 go_loop [12,13,101] (fun vu vn vi=>∃(k:Nat) (a:Int),vu=.bool false∧vn=.int .u64 a∧vi=.int .i64 k∧k≤t.size∧Hid (a=Zam (t.data.toList.take k)))
  (fun _ _ vi=>t.size-(intOf vi).toNat)
 case atStart=>exact⟨0,0,rfl,rfl,rfl,by omega,rfl⟩
 case round =>
  obtain⟨k,a,rfl,rfl,rfl,hk,ha⟩:=hrel
  have hbd:=Zog (t.data.toList.take k) (fun c hc=>hd c (List.mem_of_mem_take hc))
  rw[←ha.out] at hbd
  obtain⟨a0,a1⟩:=hbd
  by_cases hkn:k<t.size
  ·have hc:=hB k hkn
   have hget:t.data.toList.getD k 0=t.data.toList[k]'(by rw[hls];exact hkn):=by simp[List.getD,hls,hkn]
   have hts:t.data.toList.take (k+1)=t.data.toList.take k++[t.data.toList[k]'(by rw[hls];exact hkn)]:=List.take_succ_eq_append_getElem (by rw[hls];exact hkn)
   have hdg:=(Zfq _).1 (hd (t.data.toList[k]'(by rw[hls];exact hkn)) (List.getElem_mem _))
   rw[hget] at hc
   have HS:=Zvz (t.data.toList.take k) (t.data.toList[k]'(by rw[hls];exact hkn))
   rw[←hts,←ha.out] at HS
   generalize t.data.toList[k]'(by rw[hls];exact hkn)=c at hc hdg HS
   have HS2:Hid (Zam (t.data.toList.take (k+1))=10*a+((c.toNat:Int)-48)):=HS
   obtain⟨d1,d2⟩:=hdg
   have a2:a≤99999999:=by
    have h10:(10:Int) ^ (t.data.toList.take k).length≤100000000:=by
     rw[List.length_take,hls,Nat.min_eq_left (by omega)]
     have:k≤8:=by omega
     have:k=0∨k=1∨k=2∨k=3∨k=4∨k=5∨k=6∨k=7∨k=8:=by omega
     rcases this with rfl | rfl | rfl | rfl | rfl | rfl | rfl | rfl | rfl<;>decide
    omega
   clear hB HS hget hts ha a1 hd hbel
   generalize hx:(c.toNat:Int)=x at *
   go_wp2
   go_round
   case rel=>exact⟨k+1,a*10+(x-48),rfl,rfl,by go_num,by omega,by show _=_;rw[HS2.out];omega⟩
   case measure=>simp[intOf];omega
  ·go_wp2
   go_ret2
   have:k=t.size:=by omega
   subst this
   exact⟨by rw[ha.out,←hls,List.take_length];rfl,hbel⟩
theorem starts_consN (c:UInt8)(l:List UInt8):Zad 45 (c::l)=(c==45):=by simp[Zad]
theorem Zrn (t:ByteArray)(w:World)(h:Zuf t.data.toList):
  Calls prog 244 #[.string t,.int .i64 10,.int .i64 64] w fun e w'=>e=.returned (.tuple #[.int .i64 (Zbb t.data.toList),.nilIface])∧Below w.heap.size w w':=by
 obtain⟨hd,h1,h9⟩:=h
 have hls:=Zax t
 obtain⟨c,l,hcl⟩:∃c l,t.data.toList=c::l:=by
  cases h:t.data.toList with
  | nil=>rw[h] at h1;simp[Zaj,Zad] at h1
  | cons c l=>exact⟨c,l,rfl⟩
 have e1:t.toList.isEmpty=false:=by rw[ByteArray.toList_eq,hcl];rfl
 have hz:1≤t.size:=by rw[hcl] at hls;simp at hls;omega
 have hi:(0:Int)<t.size:=by omega
 have hs0:t[0]=c:=by
  have:=Z20 t 0 (by omega)
  simpa[hcl] using this.symm
 by_cases hm:c=45
 ·subst hm
  have hu:Zaj t.data.toList=t.data.toList.drop 1:=by rw[hcl];simp[Zaj,Zad]
  have hnv:Hid (Zbb t.data.toList=- Zam (t.data.toList.drop 1)):=by show _=_;rw[hcl];simp[Zbb,Zad]
  rw[hu] at hd h1 h9
  have hbd:=Zog _ hd
  have er:(t.extract 1 t.size).data.toList=t.data.toList.drop 1:=Lib.extract_to_end t 1
  have cu:=fun w=>Zjv (t.extract 1 t.size) w (by rw[er];exact hd) (by rw[←Zax,er];exact h1) (by rw[←Zax,er];exact h9)
  rw[er] at cu
  have h10:(10:Int) ^ (t.data.toList.drop 1).length≤1000000000:=by
   have:(t.data.toList.drop 1).length=0∨(t.data.toList.drop 1).length=1∨(t.data.toList.drop 1).length=2∨(t.data.toList.drop 1).length=3∨(t.data.toList.drop 1).length=4∨(t.data.toList.drop 1).length=5∨(t.data.toList.drop 1).length=6∨(t.data.toList.drop 1).length=7∨(t.data.toList.drop 1).length=8∨(t.data.toList.drop 1).length=9:=by omega
   rcases this with h | h | h | h | h | h | h | h | h | h<;>rw[h]<;>decide
  generalize Zam (t.data.toList.drop 1)=a at *
  obtain⟨a0,a1⟩:=hbd
  have a2:a≤1000000000:=by omega
  clear a1 h10 hd h1 h9 hu er hcl
  go_enter func244,ntmps244
  go_wp2_with (go_at_call 263;refine (cu _).mono ?_;rintro e w' ⟨rfl,hb⟩)
  go_ret2
  exact⟨by rw[hnv.out];rfl,hb⟩
 ·have hu:Zaj t.data.toList=t.data.toList:=by rw[hcl];simp[Zaj,Zad,hm]
  have hnv:Hid (Zbb t.data.toList=Zam t.data.toList):=by show _=_;rw[hcl];simp[Zbb,Zad,hm]
  rw[hu] at hd h1 h9
  have hbd:=Zog _ hd
  have cu:=fun w=>Zjv t w hd (by rw[←Zax];exact h1) (by rw[←Zax];exact h9)
  have h10:(10:Int) ^ t.data.toList.length≤1000000000:=by
   have:t.data.toList.length=0∨t.data.toList.length=1∨t.data.toList.length=2∨t.data.toList.length=3∨t.data.toList.length=4∨t.data.toList.length=5∨t.data.toList.length=6∨t.data.toList.length=7∨t.data.toList.length=8∨t.data.toList.length=9:=by omega
   rcases this with h | h | h | h | h | h | h | h | h | h<;>rw[h]<;>decide
  obtain⟨c1,c2⟩:=(Zfq c).1 (hd c (by rw[hcl];simp))
  generalize Zam t.data.toList=a at *
  obtain⟨a0,a1⟩:=hbd
  have a2:a≤1000000000:=by omega
  have b1:((c.toNat:Int)==43)=false:=by simp;omega
  have b2:((c.toNat:Int)==45)=false:=by simp;omega
  clear a1 h10 hd h1 h9 hu hcl hm
  go_enter func244,ntmps244
  go_wp2_with (go_at_call 263;refine (cu _).mono ?_;rintro e w' ⟨rfl,hb⟩)
  go_ret2
  exact⟨by rw[hnv.out];rfl,hb⟩
theorem Zs5 (t:ByteArray)(w:World)(h:Zuf t.data.toList):
  Calls prog 204 #[.string t,.int .i64 10,.int .i64 64] w fun e w'=>e=.returned (.tuple #[.int .i64 (Zbb t.data.toList),.nilIface])∧Below w.heap.size w w':=by
 have ci:=fun w=>Zrn t w h
 go_enter func204,ntmps204
 go_wp2_with (go_at_call 244;refine (ci _).mono ?_;rintro e w' ⟨rfl,hb⟩)
 go_ret2
 exact⟨rfl,hb⟩
theorem Zdz (w:World)(x y z:Value)(t:TypeId):let X:=w.alloc (.cells #[x,y,z] t)
  X.cell? ⟨w.heap.size,0,none⟩=some x∧X.cell? ⟨w.heap.size,1,none⟩=some y∧X.cell? ⟨w.heap.size,2,none⟩=some z∧w.heap.size<X.heap.size:=by
 have h:(w.alloc (Obj.cells #[x,y,z] t)).heap[w.heap.size]?=some (.cells #[x,y,z] t):=heap_alloc_new _ _
 refine⟨?_,?_,?_,by simp⟩<;>(unfold World.cell?;rw[h];rfl)
theorem Ztc (at_:Nat)(bd:ByteArray)(w:World)(h:Zuf bd.data.toList):
  Calls prog 255 #[Zui 3 at_ bd] w fun e w'=>e=.returned (.tuple #[.iface 432 (.agg #[.int .i64 ((at_:Nat):Int),.int .i64 (Zbb bd.data.toList)]),.nilIface])∧Below w.heap.size w w':=by
 have ci:=fun w=>Zs5 bd w h
 obtain⟨n0,n1,n2,n3⟩:=Zdz w (.int .i64 3) (.int .i64 ((at_:Nat):Int)) (.string bd) 310
 go_enter func255,ntmps255
 go_wp2_with (go_at_call 204;refine (ci _).mono ?_;rintro e w' ⟨rfl,hb⟩;have m1:=Below.cellv hb n1)
 go_ret2
 exact⟨rfl,((Below.refl _ _).alloc (Nat.le_refl _) _).trans (hb.mono (by simp))⟩
end Go.Proofs.YtliapghpeoaonaaGreatDoor
