/-
  build of package program: the value of a form out of those of its exprs.
-/
import Derived.Test.YtifhgjpglicjbaaGreatDoorRowK
set_option maxHeartbeats 1000000
namespace Go.Proofs.YtifhgjpglicjbaaGreatDoor
open Go.Proofs.Tryz
open Go.RowKit
attribute [local go_sem ↓] Go.wp_at_zero Go.wp_at_succ
theorem drawn {w x:World}(h:Below w.heap.size w x)(n:Nat):Below w.heap.size w (x.drewN n):=below_drewN h n
def buildPost (w:World)(D:Nat→Prop)(sp:Nat)(wd n:List UInt8)(at_:Nat)(vs:List Value)(e:Ending)(w':World):Prop :=
 ∃v,e=.returned v∧FormV w' D sp wd n at_ vs v∧Below w.heap.size w w'
theorem build_list (bd nb:ByteArray)(sp at_:Nat)(ad:Option Addr)(len cap:Nat)(vs:List Value)(w:World)(D:Nat→Prop)(h:bd.toList=[108,105,115,116])(hR:RowAt w D 64 1 (.slice ad len cap) vs.length vs):
  Calls prog 198 #[.string bd,.int .i64 ((sp:Nat):Int),nameV nb at_,.slice ad len cap] w (buildPost w D sp [108,105,115,116] nb.data.toList at_ vs):=by
 go_enter func198,ntmps198
 go_wp2
 go_ret
 exact⟨_,rfl,Or.inl ⟨rfl,_,rfl,row_below hR (below1 w _)⟩,below1 w _⟩
theorem build_call (bd nb:ByteArray)(sp at_:Nat)(ad:Option Addr)(len cap:Nat)(vs:List Value)(w:World)(D:Nat→Prop)(hnb:nb.size≤2000)(h:bd.toList=[99,97,108,108])(hR:RowAt w D 64 1 (.slice ad len cap) vs.length vs):
  Calls prog 198 #[.string bd,.int .i64 ((sp:Nat):Int),nameV nb at_,.slice ad len cap] w (buildPost w D sp [99,97,108,108] nb.data.toList at_ vs):=by
 go_enter func198,ntmps198
 go_wp2
 go_ret
 exact⟨_,rfl,Or.inr (Or.inl ⟨rfl,nb,_,rfl,hnb,rfl,row_below hR (below1 w _)⟩),below1 w _⟩
theorem build_map (bd nb:ByteArray)(sp at_ g cap:Nat)(t0:TypeId)(x0:Value)(w:World)(D:Nat→Prop)(hnb:nb.size≤2000)(h:bd.toList=[109,97,112])(_hcap:1≤cap)(_hcm:cap≤maxLen)(c0:w.cell? ⟨g,0,none⟩=some (.iface t0 x0)):
  Calls prog 198 #[.string bd,.int .i64 ((sp:Nat):Int),nameV nb at_,.slice (some ⟨g,0,none⟩) 1 cap] w (buildPost w D sp [109,97,112] nb.data.toList at_ [(.iface t0 x0)]):=by
 unfold maxLen at _hcm
 have hlt:=cell_lt c0
 have hne:=World.new_ne w _ c0
 go_enter func198,ntmps198
 go_wp2
 go_quiet (fail)
 go_wp2
 go_ret
 exact⟨_,rfl,Or.inr (Or.inr (Or.inl ⟨rfl,nb,(.iface t0 x0),rfl,hnb,rfl,rfl⟩)),drawn (below1 w _) _⟩
theorem build_let (bd nb:ByteArray)(sp at_ g cap:Nat)(t0 t1:TypeId)(x0 x1:Value)(w:World)(D:Nat→Prop)(hnb:nb.size≤2000)(h:bd.toList=[108,101,116])(_hcap:2≤cap)(_hcm:cap≤maxLen)(c0:w.cell? ⟨g,0,none⟩=some (.iface t0 x0))(c1:w.cell? ⟨g,1,none⟩=some (.iface t1 x1)):
  Calls prog 198 #[.string bd,.int .i64 ((sp:Nat):Int),nameV nb at_,.slice (some ⟨g,0,none⟩) 2 cap] w (buildPost w D sp [108,101,116] nb.data.toList at_ [(.iface t0 x0),(.iface t1 x1)]):=by
 unfold maxLen at _hcm
 have hlt:=cell_lt c0
 have hne:=World.new_ne w _ c0
 go_enter func198,ntmps198
 go_wp2
 go_quiet (fail)
 go_wp2
 go_ret
 exact⟨_,rfl,Or.inr (Or.inr (Or.inr (Or.inl ⟨rfl,nb,(.iface t0 x0),(.iface t1 x1),rfl,hnb,rfl,rfl⟩))),drawn (below1 w _) _⟩
theorem build_if (bd nb:ByteArray)(sp at_ g cap:Nat)(t0 t1 t2:TypeId)(x0 x1 x2:Value)(w:World)(D:Nat→Prop)(h:bd.toList=[105,102])(_hcap:3≤cap)(_hcm:cap≤maxLen)(c0:w.cell? ⟨g,0,none⟩=some (.iface t0 x0))(c1:w.cell? ⟨g,1,none⟩=some (.iface t1 x1))(c2:w.cell? ⟨g,2,none⟩=some (.iface t2 x2)):
  Calls prog 198 #[.string bd,.int .i64 ((sp:Nat):Int),nameV nb at_,.slice (some ⟨g,0,none⟩) 3 cap] w (buildPost w D sp [105,102] nb.data.toList at_ [(.iface t0 x0),(.iface t1 x1),(.iface t2 x2)]):=by
 unfold maxLen at _hcm
 have hlt:=cell_lt c0
 have hne:=World.new_ne w _ c0
 go_enter func198,ntmps198
 go_wp2
 go_quiet (fail)
 go_wp2
 go_ret
 exact⟨_,rfl,Or.inr (Or.inr (Or.inr (Or.inr (Or.inl ⟨rfl,(.iface t0 x0),(.iface t1 x1),(.iface t2 x2),rfl,rfl⟩)))),drawn (below1 w _) _⟩
theorem build_set (bd nb:ByteArray)(sp at_ g cap:Nat)(t0 t1 t2:TypeId)(x0 x1 x2:Value)(w:World)(D:Nat→Prop)(h:bd.toList=[115,101,116])(_hcap:3≤cap)(_hcm:cap≤maxLen)(c0:w.cell? ⟨g,0,none⟩=some (.iface t0 x0))(c1:w.cell? ⟨g,1,none⟩=some (.iface t1 x1))(c2:w.cell? ⟨g,2,none⟩=some (.iface t2 x2)):
  Calls prog 198 #[.string bd,.int .i64 ((sp:Nat):Int),nameV nb at_,.slice (some ⟨g,0,none⟩) 3 cap] w (buildPost w D sp [115,101,116] nb.data.toList at_ [(.iface t0 x0),(.iface t1 x1),(.iface t2 x2)]):=by
 unfold maxLen at _hcm
 have hlt:=cell_lt c0
 have hne:=World.new_ne w _ c0
 go_enter func198,ntmps198
 go_wp2
 go_quiet (fail)
 go_wp2
 go_ret
 exact⟨_,rfl,Or.inr (Or.inr (Or.inr (Or.inr (Or.inr (Or.inl ⟨rfl,(.iface t0 x0),(.iface t1 x1),(.iface t2 x2),rfl,rfl⟩))))),drawn (below1 w _) _⟩
theorem build_len (bd nb:ByteArray)(sp at_ g cap:Nat)(t0:TypeId)(x0:Value)(w:World)(D:Nat→Prop)(h:bd.toList=[108,101,110])(_hcap:1≤cap)(_hcm:cap≤maxLen)(c0:w.cell? ⟨g,0,none⟩=some (.iface t0 x0)):
  Calls prog 198 #[.string bd,.int .i64 ((sp:Nat):Int),nameV nb at_,.slice (some ⟨g,0,none⟩) 1 cap] w (buildPost w D sp [108,101,110] nb.data.toList at_ [(.iface t0 x0)]):=by
 unfold maxLen at _hcm
 have hlt:=cell_lt c0
 have hne:=World.new_ne w _ c0
 go_enter func198,ntmps198
 go_wp2
 go_ret
 exact⟨_,rfl,Or.inr (Or.inr (Or.inr (Or.inr (Or.inr (Or.inr (Or.inl ⟨rfl,(.iface t0 x0),rfl,rfl⟩)))))),below1 w _⟩
theorem build_add (bd nb:ByteArray)(sp at_ g cap:Nat)(t0 t1:TypeId)(x0 x1:Value)(w:World)(D:Nat→Prop)(h:bd.toList=[97,100,100])(_hcap:2≤cap)(_hcm:cap≤maxLen)(c0:w.cell? ⟨g,0,none⟩=some (.iface t0 x0))(c1:w.cell? ⟨g,1,none⟩=some (.iface t1 x1)):
  Calls prog 198 #[.string bd,.int .i64 ((sp:Nat):Int),nameV nb at_,.slice (some ⟨g,0,none⟩) 2 cap] w (buildPost w D sp [97,100,100] nb.data.toList at_ [(.iface t0 x0),(.iface t1 x1)]):=by
 unfold maxLen at _hcm
 have hlt:=cell_lt c0
 have hne:=World.new_ne w _ c0
 go_enter func198,ntmps198
 go_wp2
 go_quiet (fail)
 go_wp2
 go_ret
 exact⟨_,rfl,Or.inr (Or.inr (Or.inr (Or.inr (Or.inr (Or.inr (Or.inr ⟨rfl,bd,(.iface t0 x0),(.iface t1 x1),by rw[←ByteArray.toList_eq];exact h,rfl,rfl⟩)))))),drawn (below1 w _) _⟩
theorem build_sub (bd nb:ByteArray)(sp at_ g cap:Nat)(t0 t1:TypeId)(x0 x1:Value)(w:World)(D:Nat→Prop)(h:bd.toList=[115,117,98])(_hcap:2≤cap)(_hcm:cap≤maxLen)(c0:w.cell? ⟨g,0,none⟩=some (.iface t0 x0))(c1:w.cell? ⟨g,1,none⟩=some (.iface t1 x1)):
  Calls prog 198 #[.string bd,.int .i64 ((sp:Nat):Int),nameV nb at_,.slice (some ⟨g,0,none⟩) 2 cap] w (buildPost w D sp [115,117,98] nb.data.toList at_ [(.iface t0 x0),(.iface t1 x1)]):=by
 unfold maxLen at _hcm
 have hlt:=cell_lt c0
 have hne:=World.new_ne w _ c0
 go_enter func198,ntmps198
 go_wp2
 go_quiet (fail)
 go_wp2
 go_ret
 exact⟨_,rfl,Or.inr (Or.inr (Or.inr (Or.inr (Or.inr (Or.inr (Or.inr ⟨rfl,bd,(.iface t0 x0),(.iface t1 x1),by rw[←ByteArray.toList_eq];exact h,rfl,rfl⟩)))))),drawn (below1 w _) _⟩
theorem build_mul (bd nb:ByteArray)(sp at_ g cap:Nat)(t0 t1:TypeId)(x0 x1:Value)(w:World)(D:Nat→Prop)(h:bd.toList=[109,117,108])(_hcap:2≤cap)(_hcm:cap≤maxLen)(c0:w.cell? ⟨g,0,none⟩=some (.iface t0 x0))(c1:w.cell? ⟨g,1,none⟩=some (.iface t1 x1)):
  Calls prog 198 #[.string bd,.int .i64 ((sp:Nat):Int),nameV nb at_,.slice (some ⟨g,0,none⟩) 2 cap] w (buildPost w D sp [109,117,108] nb.data.toList at_ [(.iface t0 x0),(.iface t1 x1)]):=by
 unfold maxLen at _hcm
 have hlt:=cell_lt c0
 have hne:=World.new_ne w _ c0
 go_enter func198,ntmps198
 go_wp2
 go_quiet (fail)
 go_wp2
 go_ret
 exact⟨_,rfl,Or.inr (Or.inr (Or.inr (Or.inr (Or.inr (Or.inr (Or.inr ⟨rfl,bd,(.iface t0 x0),(.iface t1 x1),by rw[←ByteArray.toList_eq];exact h,rfl,rfl⟩)))))),drawn (below1 w _) _⟩
theorem build_eq (bd nb:ByteArray)(sp at_ g cap:Nat)(t0 t1:TypeId)(x0 x1:Value)(w:World)(D:Nat→Prop)(h:bd.toList=[101,113])(_hcap:2≤cap)(_hcm:cap≤maxLen)(c0:w.cell? ⟨g,0,none⟩=some (.iface t0 x0))(c1:w.cell? ⟨g,1,none⟩=some (.iface t1 x1)):
  Calls prog 198 #[.string bd,.int .i64 ((sp:Nat):Int),nameV nb at_,.slice (some ⟨g,0,none⟩) 2 cap] w (buildPost w D sp [101,113] nb.data.toList at_ [(.iface t0 x0),(.iface t1 x1)]):=by
 unfold maxLen at _hcm
 have hlt:=cell_lt c0
 have hne:=World.new_ne w _ c0
 go_enter func198,ntmps198
 go_wp2
 go_quiet (fail)
 go_wp2
 go_ret
 exact⟨_,rfl,Or.inr (Or.inr (Or.inr (Or.inr (Or.inr (Or.inr (Or.inr ⟨rfl,bd,(.iface t0 x0),(.iface t1 x1),by rw[←ByteArray.toList_eq];exact h,rfl,rfl⟩)))))),drawn (below1 w _) _⟩
theorem build_less (bd nb:ByteArray)(sp at_ g cap:Nat)(t0 t1:TypeId)(x0 x1:Value)(w:World)(D:Nat→Prop)(h:bd.toList=[108,101,115,115])(_hcap:2≤cap)(_hcm:cap≤maxLen)(c0:w.cell? ⟨g,0,none⟩=some (.iface t0 x0))(c1:w.cell? ⟨g,1,none⟩=some (.iface t1 x1)):
  Calls prog 198 #[.string bd,.int .i64 ((sp:Nat):Int),nameV nb at_,.slice (some ⟨g,0,none⟩) 2 cap] w (buildPost w D sp [108,101,115,115] nb.data.toList at_ [(.iface t0 x0),(.iface t1 x1)]):=by
 unfold maxLen at _hcm
 have hlt:=cell_lt c0
 have hne:=World.new_ne w _ c0
 go_enter func198,ntmps198
 go_wp2
 go_quiet (fail)
 go_wp2
 go_ret
 exact⟨_,rfl,Or.inr (Or.inr (Or.inr (Or.inr (Or.inr (Or.inr (Or.inr ⟨rfl,bd,(.iface t0 x0),(.iface t1 x1),by rw[←ByteArray.toList_eq];exact h,rfl,rfl⟩)))))),drawn (below1 w _) _⟩
theorem build_at (bd nb:ByteArray)(sp at_ g cap:Nat)(t0 t1:TypeId)(x0 x1:Value)(w:World)(D:Nat→Prop)(h:bd.toList=[97,116])(_hcap:2≤cap)(_hcm:cap≤maxLen)(c0:w.cell? ⟨g,0,none⟩=some (.iface t0 x0))(c1:w.cell? ⟨g,1,none⟩=some (.iface t1 x1)):
  Calls prog 198 #[.string bd,.int .i64 ((sp:Nat):Int),nameV nb at_,.slice (some ⟨g,0,none⟩) 2 cap] w (buildPost w D sp [97,116] nb.data.toList at_ [(.iface t0 x0),(.iface t1 x1)]):=by
 unfold maxLen at _hcm
 have hlt:=cell_lt c0
 have hne:=World.new_ne w _ c0
 go_enter func198,ntmps198
 go_wp2
 go_quiet (fail)
 go_wp2
 go_ret
 exact⟨_,rfl,Or.inr (Or.inr (Or.inr (Or.inr (Or.inr (Or.inr (Or.inr ⟨rfl,bd,(.iface t0 x0),(.iface t1 x1),by rw[←ByteArray.toList_eq];exact h,rfl,rfl⟩)))))),drawn (below1 w _) _⟩
theorem build_join (bd nb:ByteArray)(sp at_ g cap:Nat)(t0 t1:TypeId)(x0 x1:Value)(w:World)(D:Nat→Prop)(h:bd.toList=[106,111,105,110])(_hcap:2≤cap)(_hcm:cap≤maxLen)(c0:w.cell? ⟨g,0,none⟩=some (.iface t0 x0))(c1:w.cell? ⟨g,1,none⟩=some (.iface t1 x1)):
  Calls prog 198 #[.string bd,.int .i64 ((sp:Nat):Int),nameV nb at_,.slice (some ⟨g,0,none⟩) 2 cap] w (buildPost w D sp [106,111,105,110] nb.data.toList at_ [(.iface t0 x0),(.iface t1 x1)]):=by
 unfold maxLen at _hcm
 have hlt:=cell_lt c0
 have hne:=World.new_ne w _ c0
 go_enter func198,ntmps198
 go_wp2
 go_quiet (fail)
 go_wp2
 go_ret
 exact⟨_,rfl,Or.inr (Or.inr (Or.inr (Or.inr (Or.inr (Or.inr (Or.inr ⟨rfl,bd,(.iface t0 x0),(.iface t1 x1),by rw[←ByteArray.toList_eq];exact h,rfl,rfl⟩)))))),drawn (below1 w _) _⟩
end Go.Proofs.YtifhgjpglicjbaaGreatDoor
