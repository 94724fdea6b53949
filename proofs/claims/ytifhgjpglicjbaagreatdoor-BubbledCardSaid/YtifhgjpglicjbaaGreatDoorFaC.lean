/-
  errors.Is at a fault: api.ErrFault is found; the law's code there.
-/
import Derived.Test.YtifhgjpglicjbaaGreatDoorFaB
import Derived.Test.YtifhgjpglicjbaaGreatDoorFsN
set_option maxHeartbeats 4000000
namespace Go.Proofs.YtifhgjpglicjbaaGreatDoor
open Go.Proofs.Tryz
open Go.RowKit Go.Extern.Stop Go.Stop Go.Extern
attribute [local go_sem ↓] Go.wp_at_zero Go.wp_at_succ
abbrev inV (nb:ByteArray)(i z:Int)(b:ByteArray):Value:=.iface 124 (.agg #[.string nb,.int .i64 i,atV2 z b])
def FltW (f:Value):Prop:=FltV f∨∃nb i z b,f=inV nb i z b
theorem Tryz.is_noIsY (v:Value)(xT:TypeId)(w:World):(Instr.typeAssert (.iface 69 v) xT 137 true).run prog w=.ok (.tuple #[.nilIface,.bool false]) w:=run_typeAssert_lacksB underlying137 (by kernel_rfl) (by kernel_rfl) v xT w
theorem Tryz.is_hasUnwY (v:Value)(xT:TypeId)(w:World):(Instr.typeAssert (.iface 69 v) xT 140 true).run prog w=.ok (.tuple #[.iface 69 v,.bool true]) w:=run_typeAssert_hasB underlying140 (by kernel_rfl) v xT w
theorem Tryz.is_methY (x:Value)(w:World):(Go.method 533 69 x "Unwrap").run prog w=.ok (244,x) w:=by kernel_rfl
theorem Tryz.is_noIsA (v:Value)(xT:TypeId)(w:World):(Instr.typeAssert (.iface 186 v) xT 137 true).run prog w=.ok (.tuple #[.nilIface,.bool false]) w:=run_typeAssert_lacksB underlying137 (by kernel_rfl) (by kernel_rfl) v xT w
theorem Tryz.is_hasUnwA (v:Value)(xT:TypeId)(w:World):(Instr.typeAssert (.iface 186 v) xT 140 true).run prog w=.ok (.tuple #[.iface 186 v,.bool true]) w:=run_typeAssert_hasB underlying140 (by kernel_rfl) v xT w
theorem Tryz.is_methA (x y:Value)(w:World):(Go.method 533 186 (.agg #[x,y]) "Unwrap").run prog w=.ok (265,.agg #[x,y]) w:=by kernel_rfl
theorem Tryz.is_noIsI (v:Value)(xT:TypeId)(w:World):(Instr.typeAssert (.iface 124 v) xT 137 true).run prog w=.ok (.tuple #[.nilIface,.bool false]) w:=run_typeAssert_lacksB underlying137 (by kernel_rfl) (by kernel_rfl) v xT w
theorem Tryz.is_hasUnwI (v:Value)(xT:TypeId)(w:World):(Instr.typeAssert (.iface 124 v) xT 140 true).run prog w=.ok (.tuple #[.iface 124 v,.bool true]) w:=run_typeAssert_hasB underlying140 (by kernel_rfl) v xT w
theorem Tryz.is_methI (x y z:Value)(w:World):(Go.method 533 124 (.agg #[x,y,z]) "Unwrap").run prog w=.ok (249,.agg #[x,y,z]) w:=by kernel_rfl
theorem at_unwrap (z:Int)(b:ByteArray)(w:World):Calls prog 265 #[.agg #[.int .i64 z,whyB b]] w fun e w'=>e=.returned (whyB b)∧Below w.heap.size w w':=by
 go_enter func265,ntmps265
 go_wp2
 go_ret
 exact⟨rfl,by first | exact Below.refl _ _ | exact below1 w _⟩
theorem in_unwrap (nb:ByteArray)(i z:Int)(b:ByteArray)(w:World):Calls prog 249 #[.agg #[.string nb,.int .i64 i,atV2 z b]] w fun e w'=>e=.returned (atV2 z b)∧Below w.heap.size w w':=by
 go_enter func249,ntmps249
 go_wp2
 go_ret
 exact⟨rfl,by first | exact Below.refl _ _ | exact below1 w _⟩
theorem is_why (b:ByteArray)(a:Addr)(w:World)(hF:w.cell? ⟨0,0,none⟩=some (errVal a)):
  Calls prog 12 #[whyB b,errVal a] w fun e w'=>e=.returned (.bool true)∧Below w.heap.size w w':=by
 obtain⟨i,hi,hcmp⟩:=Option.map_eq_some_iff.1 Tryz.isComp
 obtain⟨j,hj,hjs⟩:=Option.map_eq_some_iff.1 Tryz.isSize
 have h8:=@run_callFunc_extern prog 30 _ Extern.ReflectliteType.typeOf func30 (by kernel_rfl) (by kernel_rfl) (by kernel_rfl) (by kernel_rfl)
 have h32:=@run_callFunc_extern prog 253 _ (Extern.ReflectliteType.method fun t=>do Rtype.noPackHeld "Comparable" t;pure (.bool (←typeInfo t).comparable)) func253 (by kernel_rfl) (by kernel_rfl) (by kernel_rfl) (by kernel_rfl)
 have tT:=Tryz.isTypeOf
 have cT:=Tryz.isComparable
 have mR:=Tryz.isMethodComparable
 have mY:=Tryz.is_methY
 have nY:=Tryz.is_noIsY
 have uY:=Tryz.is_hasUnwY
 have mA:=Tryz.is_methA
 have nA:=Tryz.is_noIsA
 have uA:=Tryz.is_hasUnwA
 have mI:=Tryz.is_methI
 have nI:=Tryz.is_noIsI
 have uI:=Tryz.is_hasUnwI
 have ht0:=fun X=>run_eql_iface_types (P:=prog) 69 402 (.string b) (.pointer (some a)) underlying28 (by decide) X
 go_enter func12,ntmps12
 go_wp2
 refine wp_loop_rounds 2 ?_
 rw[rounds_succ]
 go_wp2_with (go_at_call 244;refine (why_unwrap b a _ hF).mono ?_;rintro e w9 ⟨rfl,rfl⟩)
 have heq:=run_eql_iface_ptr_same (P:=prog) w9 a underlying28 underlying402 hi hcmp hj
 rw[rounds_succ]
 go_wp2
 go_ret
 exact⟨rfl,Below.refl _ _⟩
theorem is_at (z:Int)(b:ByteArray)(a:Addr)(w:World)(hF:w.cell? ⟨0,0,none⟩=some (errVal a)):
  Calls prog 12 #[atV2 z b,errVal a] w fun e w'=>e=.returned (.bool true)∧Below w.heap.size w w':=by
 obtain⟨i,hi,hcmp⟩:=Option.map_eq_some_iff.1 Tryz.isComp
 obtain⟨j,hj,hjs⟩:=Option.map_eq_some_iff.1 Tryz.isSize
 have h8:=@run_callFunc_extern prog 30 _ Extern.ReflectliteType.typeOf func30 (by kernel_rfl) (by kernel_rfl) (by kernel_rfl) (by kernel_rfl)
 have h32:=@run_callFunc_extern prog 253 _ (Extern.ReflectliteType.method fun t=>do Rtype.noPackHeld "Comparable" t;pure (.bool (←typeInfo t).comparable)) func253 (by kernel_rfl) (by kernel_rfl) (by kernel_rfl) (by kernel_rfl)
 have tT:=Tryz.isTypeOf
 have cT:=Tryz.isComparable
 have mR:=Tryz.isMethodComparable
 have mY:=Tryz.is_methY
 have nY:=Tryz.is_noIsY
 have uY:=Tryz.is_hasUnwY
 have mA:=Tryz.is_methA
 have nA:=Tryz.is_noIsA
 have uA:=Tryz.is_hasUnwA
 have mI:=Tryz.is_methI
 have nI:=Tryz.is_noIsI
 have uI:=Tryz.is_hasUnwI
 have ht0:=fun X=>run_eql_iface_types (P:=prog) 69 402 (.string b) (.pointer (some a)) underlying28 (by decide) X
 have ht1:=fun X=>run_eql_iface_types (P:=prog) 186 402 (.agg #[.int .i64 z,whyB b]) (.pointer (some a)) underlying28 (by decide) X
 go_enter func12,ntmps12
 go_wp2
 refine wp_loop_rounds 3 ?_
 rw[rounds_succ]
 go_wp2_with (go_at_call 265;refine (at_unwrap z b _).mono ?_;rintro e w1 ⟨rfl,hb1⟩;have hF1:=Below.cellv hb1 hF)
 rw[rounds_succ]
 go_wp2_with (go_at_call 244;refine (why_unwrap b a _ hF1).mono ?_;rintro e w9 ⟨rfl,rfl⟩)
 have heq:=run_eql_iface_ptr_same (P:=prog) w9 a underlying28 underlying402 hi hcmp hj
 rw[rounds_succ]
 go_wp2
 go_ret
 exact⟨rfl,hb1⟩
theorem is_in (nb:ByteArray)(ix z:Int)(b:ByteArray)(a:Addr)(w:World)(hF:w.cell? ⟨0,0,none⟩=some (errVal a)):
  Calls prog 12 #[inV nb ix z b,errVal a] w fun e w'=>e=.returned (.bool true)∧Below w.heap.size w w':=by
 obtain⟨i,hi,hcmp⟩:=Option.map_eq_some_iff.1 Tryz.isComp
 obtain⟨j,hj,hjs⟩:=Option.map_eq_some_iff.1 Tryz.isSize
 have h8:=@run_callFunc_extern prog 30 _ Extern.ReflectliteType.typeOf func30 (by kernel_rfl) (by kernel_rfl) (by kernel_rfl) (by kernel_rfl)
 have h32:=@run_callFunc_extern prog 253 _ (Extern.ReflectliteType.method fun t=>do Rtype.noPackHeld "Comparable" t;pure (.bool (←typeInfo t).comparable)) func253 (by kernel_rfl) (by kernel_rfl) (by kernel_rfl) (by kernel_rfl)
 have tT:=Tryz.isTypeOf
 have cT:=Tryz.isComparable
 have mR:=Tryz.isMethodComparable
 have mY:=Tryz.is_methY
 have nY:=Tryz.is_noIsY
 have uY:=Tryz.is_hasUnwY
 have mA:=Tryz.is_methA
 have nA:=Tryz.is_noIsA
 have uA:=Tryz.is_hasUnwA
 have mI:=Tryz.is_methI
 have nI:=Tryz.is_noIsI
 have uI:=Tryz.is_hasUnwI
 have ht0:=fun X=>run_eql_iface_types (P:=prog) 69 402 (.string b) (.pointer (some a)) underlying28 (by decide) X
 have ht1:=fun X=>run_eql_iface_types (P:=prog) 186 402 (.agg #[.int .i64 z,whyB b]) (.pointer (some a)) underlying28 (by decide) X
 have ht2:=fun X=>run_eql_iface_types (P:=prog) 124 402 (.agg #[.string nb,.int .i64 ix,atV2 z b]) (.pointer (some a)) underlying28 (by decide) X
 go_enter func12,ntmps12
 go_wp2
 refine wp_loop_rounds 4 ?_
 rw[rounds_succ]
 go_wp2_with (go_at_call 249;refine (in_unwrap nb ix z b _).mono ?_;rintro e w0 ⟨rfl,hb0⟩;have hF0:=Below.cellv hb0 hF)
 rw[rounds_succ]
 go_wp2_with (go_at_call 265;refine (at_unwrap z b _).mono ?_;rintro e w1 ⟨rfl,hb1⟩;have hF1:=Below.cellv hb1 hF0)
 rw[rounds_succ]
 go_wp2_with (go_at_call 244;refine (why_unwrap b a _ hF1).mono ?_;rintro e w9 ⟨rfl,rfl⟩)
 have heq:=run_eql_iface_ptr_same (P:=prog) w9 a underlying28 underlying402 hi hcmp hj
 rw[rounds_succ]
 go_wp2
 go_ret
 exact⟨rfl,hb0.trans (hb1.mono hb0.size)⟩
theorem is_flt {f:Value}(h:FltW f)(a:Addr)(w:World)(hF:w.cell? ⟨0,0,none⟩=some (errVal a)):Calls prog 12 #[f,errVal a] w fun e w'=>e=.returned (.bool true)∧Below w.heap.size w w':=by
 rcases h with (⟨b,rfl⟩ | ⟨z,b,rfl⟩) | ⟨nb,i,z,b,rfl⟩
 ·exact is_why b a w hF
 ·exact is_at z b a w hF
 ·exact is_in nb i z b a w hF
theorem FltW.iface {f:Value}(h:FltW f):∃t y,f=.iface t y:=by
 rcases h with (⟨b,rfl⟩ | ⟨z,b,rfl⟩) | ⟨nb,i,z,b,rfl⟩
 ·exact⟨_,_,rfl⟩
 ·exact⟨_,_,rfl⟩
 ·exact⟨_,_,rfl⟩
end Go.Proofs.YtifhgjpglicjbaaGreatDoor
