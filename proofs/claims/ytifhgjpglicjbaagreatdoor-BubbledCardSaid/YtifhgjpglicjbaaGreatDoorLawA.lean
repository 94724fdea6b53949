/-
  errors.Is at what Check answers: an api.Wrong whose cause is a sentinel.
-/
import Derived.Test.YtifhgjpglicjbaaGreatDoorVaI
import Derived.LaidEql
import Derived.Stop.Asserts
import Derived.RowKitTokens
set_option maxHeartbeats 1000000
namespace Go.Proofs.YtifhgjpglicjbaaGreatDoor
open Go.Proofs.Tryz
open Go.RowKit Go.Extern.Stop Go.Stop Go.Extern
theorem Tryz.isTypeOf (v:Value)(w:World):(Extern.ReflectliteType.typeOf #[.iface 402 v]).run prog w=.ok (.iface 135 (.agg #[.pointer (some ⟨15,402,none⟩)])) w:=by kernel_rfl
theorem Tryz.isComparable (w:World):((Extern.ReflectliteType.method fun t=>do Rtype.noPackHeld "Comparable" t;(fun a=>Value.bool a.comparable) <$> typeInfo t) #[.agg #[.pointer (some ⟨15,402,none⟩)]]).run prog w=.ok (.bool true) w:=by kernel_rfl
theorem Tryz.isMethodComparable (v:Value)(w:World):(Go.method 533 135 v "Comparable").run prog w=.ok (253,v) w:=by kernel_rfl
theorem Tryz.methodUnwrap (x y:Value)(w:World):(Go.method 533 116 (.agg #[x,y]) "Unwrap").run prog w=.ok (247,.agg #[x,y]) w:=by kernel_rfl
theorem Tryz.isComp:(prog.info? 402).map (·.comparable)=some true:=by kernel_rfl
theorem Tryz.isSize:(prog.info? 404).map (·.size)=some 1:=by kernel_rfl
theorem Tryz.noIsE (v:Value)(xT:TypeId)(w:World):(Instr.typeAssert (.iface 402 v) xT 137 true).run prog w=.ok (.tuple #[.nilIface,.bool false]) w:=run_typeAssert_lacksB underlying137 (by kernel_rfl) (by kernel_rfl) v xT w
theorem Tryz.noUnwrapE (v:Value)(xT:TypeId)(w:World):(Instr.typeAssert (.iface 402 v) xT 140 true).run prog w=.ok (.tuple #[.nilIface,.bool false]) w:=run_typeAssert_lacksB underlying140 (by kernel_rfl) (by kernel_rfl) v xT w
theorem Tryz.noUnwrapsE (v:Value)(xT:TypeId)(w:World):(Instr.typeAssert (.iface 402 v) xT 141 true).run prog w=.ok (.tuple #[.nilIface,.bool false]) w:=run_typeAssert_lacksB underlying141 (by kernel_rfl) (by kernel_rfl) v xT w
theorem Tryz.noIsW (v:Value)(xT:TypeId)(w:World):(Instr.typeAssert (.iface 116 v) xT 137 true).run prog w=.ok (.tuple #[.nilIface,.bool false]) w:=run_typeAssert_lacksB underlying137 (by kernel_rfl) (by kernel_rfl) v xT w
theorem Tryz.hasUnwrapW (v:Value)(xT:TypeId)(w:World):(Instr.typeAssert (.iface 116 v) xT 140 true).run prog w=.ok (.tuple #[.iface 116 v,.bool true]) w:=run_typeAssert_hasB underlying140 (by kernel_rfl) v xT w
theorem unwrap_any (p:Nat)(a:Addr)(w:World):Calls prog 247 #[.agg #[.int .i64 ((p:Nat):Int),errVal a]] w fun e w'=>e=.returned (errVal a)∧Below w.heap.size w w':=by
 go_enter func247,ntmps247
 go_wp2
 go_ret
 exact⟨rfl,by first | exact Below.refl _ _ | exact below1 w _⟩
theorem is_wrong_same (p:Nat)(b:Addr)(w:World):
  Calls prog 12 #[wrongV p b,errVal b] w fun e w'=>e=.returned (.bool true)∧Below w.heap.size w w':=by
 obtain⟨i,hi,hcmp⟩:=Option.map_eq_some_iff.1 Tryz.isComp
 obtain⟨j,hj,hjs⟩:=Option.map_eq_some_iff.1 Tryz.isSize
 have h8:=@run_callFunc_extern prog 30 _ Extern.ReflectliteType.typeOf func30 (by kernel_rfl) (by kernel_rfl) (by kernel_rfl) (by kernel_rfl)
 have h32:=@run_callFunc_extern prog 253 _ (Extern.ReflectliteType.method fun t=>do Rtype.noPackHeld "Comparable" t;pure (.bool (←typeInfo t).comparable)) func253 (by kernel_rfl) (by kernel_rfl) (by kernel_rfl) (by kernel_rfl)
 have tT:=Tryz.isTypeOf
 have cT:=Tryz.isComparable
 have mR:=Tryz.isMethodComparable
 have mU:=Tryz.methodUnwrap
 have nE:=Tryz.noIsE
 have uE:=Tryz.noUnwrapE
 have vE:=Tryz.noUnwrapsE
 have nW:=Tryz.noIsW
 have uW:=Tryz.hasUnwrapW
 have hty:=run_eql_iface_types (P:=prog) 116 402 (.agg #[.int .i64 ((p:Nat):Int),errVal b]) (.pointer (some b)) underlying28 (by decide) w
 go_enter func12,ntmps12
 go_wp2
 refine wp_loop_rounds 2 ?_
 rw[rounds_succ]
 go_wp2_with (go_at_call 247;refine (unwrap_any p b _).mono ?_;rintro e w2 ⟨rfl,hb2⟩)
 have heq:=run_eql_iface_ptr_same (P:=prog) w2 b underlying28 underlying402 hi hcmp hj
 rw[rounds_succ]
 go_wp2
 go_ret
 exact⟨rfl,hb2⟩
theorem is_wrong_other (p:Nat)(a b:Addr)(ca cb:Array Value)(ta tb:TypeId)(w:World)(hne:a≠b)(ha:w.heap[a.block]?=some (.cells ca ta (0,0)))(hb:w.heap[b.block]?=some (.cells cb tb (0,0))):
  Calls prog 12 #[wrongV p a,errVal b] w fun e w'=>e=.returned (.bool false)∧Below w.heap.size w w':=by
 obtain⟨i,hi,hcmp⟩:=Option.map_eq_some_iff.1 Tryz.isComp
 obtain⟨j,hj,hjs⟩:=Option.map_eq_some_iff.1 Tryz.isSize
 have h8:=@run_callFunc_extern prog 30 _ Extern.ReflectliteType.typeOf func30 (by kernel_rfl) (by kernel_rfl) (by kernel_rfl) (by kernel_rfl)
 have h32:=@run_callFunc_extern prog 253 _ (Extern.ReflectliteType.method fun t=>do Rtype.noPackHeld "Comparable" t;pure (.bool (←typeInfo t).comparable)) func253 (by kernel_rfl) (by kernel_rfl) (by kernel_rfl) (by kernel_rfl)
 have tT:=Tryz.isTypeOf
 have cT:=Tryz.isComparable
 have mR:=Tryz.isMethodComparable
 have mU:=Tryz.methodUnwrap
 have nE:=Tryz.noIsE
 have uE:=Tryz.noUnwrapE
 have vE:=Tryz.noUnwrapsE
 have nW:=Tryz.noIsW
 have uW:=Tryz.hasUnwrapW
 have hty:=run_eql_iface_types (P:=prog) 116 402 (.agg #[.int .i64 ((p:Nat):Int),errVal a]) (.pointer (some b)) underlying28 (by decide) w
 go_enter func12,ntmps12
 go_wp2
 refine wp_loop_rounds 2 ?_
 rw[rounds_succ]
 go_wp2_with (go_at_call 247;refine (unwrap_any p a _).mono ?_;rintro e w2 ⟨rfl,hb2⟩)
 have heq:=run_eql_iface_ptr_other (P:=prog) w2 underlying28 underlying402 hi hcmp hj (by rw[hjs];decide) hne (by rw[hb2.block _ (block_lt ha)];exact ha) (by rw[hb2.block _ (block_lt hb)];exact hb)
 rw[rounds_succ]
 go_wp2
 go_ret
 exact⟨rfl,hb2⟩
end Go.Proofs.YtifhgjpglicjbaaGreatDoor
