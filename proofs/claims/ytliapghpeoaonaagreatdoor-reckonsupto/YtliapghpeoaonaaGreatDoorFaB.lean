/-
  errors.As at a Why: there is no At; fault.Placed.
-/
import Derived.Test.YtliapghpeoaonaaGreatDoorFaA
import Derived.Test.YtliapghpeoaonaaGreatDoorLawD
set_option maxHeartbeats 4000000
set_option maxRecDepth 8000
namespace Go.Proofs.YtliapghpeoaonaaGreatDoor
open Go.Proofs.Tryz
open Go.RowKit Go.Extern.Stop Go.Stop Go.Extern
theorem Tryz.fa_typeOfY (v:Value)(w:World):(ReflectliteType.typeOf #[.iface 146 v]).run prog w=.ok (.iface 334 (.agg #[.pointer (some ⟨15,146,none⟩)])) w:=by kernel_rfl
theorem Tryz.fa_typeOfE (v:Value)(w:World):(ReflectliteType.typeOf #[.iface 503 v]).run prog w=.ok (.iface 334 (.agg #[.pointer (some ⟨15,503,none⟩)])) w:=by kernel_rfl
theorem Tryz.fa_assignY (w:World):(ReflectliteType.relation "AssignableTo" ReflectliteType.assignableTo #[.agg #[.pointer (some ⟨15,146,none⟩)],.iface 334 (.agg #[.pointer (some ⟨15,240,none⟩)])]).run prog w=.ok (.bool false) w:=by kernel_rfl
theorem Tryz.fa_assignE (w:World):(ReflectliteType.relation "AssignableTo" ReflectliteType.assignableTo #[.agg #[.pointer (some ⟨15,503,none⟩)],.iface 334 (.agg #[.pointer (some ⟨15,240,none⟩)])]).run prog w=.ok (.bool false) w:=by kernel_rfl
theorem Tryz.fa_noAsY (v:Value)(xT:TypeId)(w:World):(Instr.typeAssert (.iface 146 v) xT 345 true).run prog w=.ok (.tuple #[.nilIface,.bool false]) w:=run_typeAssert_lacksB underlying345 (by kernel_rfl) (by kernel_rfl) v xT w
theorem Tryz.fa_noAsE (v:Value)(xT:TypeId)(w:World):(Instr.typeAssert (.iface 503 v) xT 345 true).run prog w=.ok (.tuple #[.nilIface,.bool false]) w:=run_typeAssert_lacksB underlying345 (by kernel_rfl) (by kernel_rfl) v xT w
theorem Tryz.fa_hasUnwrapY (v:Value)(xT:TypeId)(w:World):(Instr.typeAssert (.iface 146 v) xT 339 true).run prog w=.ok (.tuple #[.iface 146 v,.bool true]) w:=run_typeAssert_hasB underlying339 (by kernel_rfl) v xT w
theorem Tryz.fa_methodY (x:Value)(w:World):(Go.method 634 146 x "Unwrap").run prog w=.ok (307,x) w:=by kernel_rfl
theorem Zhw (b:ByteArray)(a:Addr)(w:World)(hF:w.cell? ⟨0,0,none⟩=some (Za8 a)):Calls prog 307 #[.string b] w fun e w'=>e=.returned (Za8 a)∧w'=w:=by
 go_enter func307,ntmps307
 go_wp2
 go_ret
 exact⟨rfl,rfl⟩
theorem Z3p (b:ByteArray)(a:Addr)(t:Nat)(w:World)(hg:w.cell? ⟨9,0,none⟩=some (.iface 334 (.agg #[.pointer (some ⟨15,51,none⟩)])))(hF:w.cell? ⟨0,0,none⟩=some (Za8 a)):
  Calls prog 72 #[Zm2 b,.iface 430 (.pointer (some ⟨t,0,none⟩))] w fun e w'=>e=.returned (.bool false)∧Below w.heap.size w w':=by
 have h6:=@run_callFunc_extern prog 120 _ (fun args=>ReflectliteValue.unpack (args.getD 0 (.tuple #[]))) func120 (by kernel_rfl) (by kernel_rfl) (by kernel_rfl) (by kernel_rfl)
 have h7:=@run_callFunc_extern prog 121 _ (ReflectliteValue.methodAny (ReflectliteValue.valueError "reflectlite.Value.Type" 0) (fun t _ _ _=>ReflectliteType.toType t)) func121 (by kernel_rfl) (by kernel_rfl) (by kernel_rfl) (by kernel_rfl)
 have h8:=@run_callFunc_extern prog 122 _ (ReflectliteValue.method (ReflectliteValue.valueError "reflectlite.Value.IsNil" 0) ReflectliteValue.isNil) func122 (by kernel_rfl) (by kernel_rfl) (by kernel_rfl) (by kernel_rfl)
 have h27:=@run_callFunc_extern prog 303 _ (ReflectliteType.abiMethod fun t=>do pure (.int .u8 (←Rtype.kind t))) func303 (by kernel_rfl) (by kernel_rfl) (by kernel_rfl) (by kernel_rfl)
 have h37:=@run_callFunc_extern prog 329 _ (ReflectliteType.method ReflectliteType.elem) func329 (by kernel_rfl) (by kernel_rfl) (by kernel_rfl) (by kernel_rfl)
 have h38:=@run_callFunc_extern prog 330 _ (ReflectliteType.relation "Implements" ReflectliteType.implements_) func330 (by kernel_rfl) (by kernel_rfl) (by kernel_rfl) (by kernel_rfl)
 have h10:=@run_callFunc_extern prog 118 _ ReflectliteType.typeOf func118 (by kernel_rfl) (by kernel_rfl) (by kernel_rfl) (by kernel_rfl)
 have h35:=@run_callFunc_extern prog 327 _ (ReflectliteType.relation "AssignableTo" ReflectliteType.assignableTo) func327 (by kernel_rfl) (by kernel_rfl) (by kernel_rfl) (by kernel_rfl)
 have mA:=Tryz.methodAssignableTo
 have f6:=Tryz.fa_valueOfP
 have f7:=Tryz.fa_typeP
 have mK:=Tryz.methodKind
 have mE:=Tryz.methodElem
 have mI:=Tryz.methodImplements
 have k27:=Tryz.fa_kindP
 have k25:=Tryz.fa_kindW
 have e27:=Tryz.fa_elemP
 have i25:=Tryz.fa_implementsW
 have hlt:9<w.heap.size:=Zae hg
 have n8:=Tryz.fa_isNilP ⟨w.heap.size,0,none⟩ ⟨t,0,none⟩ ((w.alloc (.cells #[.pointer (some ⟨t,0,none⟩)] 430)).alloc (.cells #[.pointer (some ⟨15,430,none⟩),.pointer (some ⟨w.heap.size,0,none⟩),.int .u64 150] 249)) (by simp)
 have hg2:((w.alloc (.cells #[.pointer (some ⟨t,0,none⟩)] 430)).alloc (.cells #[.pointer (some ⟨15,430,none⟩),.pointer (some ⟨w.heap.size,0,none⟩),.int .u64 150] 249)).cell? ⟨9,0,none⟩=some (.iface 334 (.agg #[.pointer (some ⟨15,51,none⟩)])):=Zac (Zac hg)
 have tY:=Tryz.fa_typeOfY
 have tE:=Tryz.fa_typeOfE
 have aY:=Tryz.fa_assignY
 have aE:=Tryz.fa_assignE
 have mA:=Tryz.methodAssignableTo
 have nY:=Tryz.fa_noAsY
 have nE:=Tryz.fa_noAsE
 have uY:=Tryz.fa_hasUnwrapY
 have mY:=Tryz.fa_methodY
 have uE:=Tryz.noUnwrapE
 have vE:=Tryz.noUnwrapsE
 have cu:=fun X hX=>Zhw b a X hX
 have hlF:0<w.heap.size:=Zae hF
 go_enter func72,ntmps72
 go_wp2
 refine wp_loop_rounds 2 ?_
 rw[rounds_succ]
 go_wp2_with (go_at_call 307;refine (cu _ (Zac (Zac (Zac hF)))).mono ?_;rintro e w2 ⟨rfl,rfl⟩)
 rw[rounds_succ]
 go_wp2
 go_ret
 exact⟨rfl,((Zab w _).alloc (by simp) _).alloc (by simp;omega) _⟩
def Zii (x:Value):Prop:=(∃b,x=Zm2 b)∨(∃z b,x=atV2 z b)
structure Zzx (w:World):Prop where
 ty:w.cell? ⟨9,0,none⟩=some (.iface 334 (.agg #[.pointer (some ⟨15,51,none⟩)]))
 fl:∃a,w.cell? ⟨0,0,none⟩=some (Za8 a)
theorem Zzx.below {w w':World}(h:Zzx w)(hb:Below w.heap.size w w'):Zzx w':=by
 obtain⟨h1,a,h2⟩:=h
 exact⟨Below.cellv hb h1,a,Below.cellv hb h2⟩
theorem Zzx.touch {w w':World}{rb:Nat}(h:Zzx w)(ht:Zaa (·=rb) w w')(hr:15≤rb):Zzx w':=by
 obtain⟨h1,a,h2⟩:=h
 exact⟨ht.cell h1 (by show ¬ (9:Nat)=rb;omega),a,ht.cell h2 (by show ¬ (0:Nat)=rb;omega)⟩
theorem Zpw (z:Int)(x:Value)(w:World)(hx:Zii x)(hG:Zzx w):
  Calls prog 192 #[.int .i64 z,x] w fun e w'=>Below w.heap.size w w'∧∃z' b,e=.returned (atV2 z' b):=by
 have bX:=Zab w (Obj.cells #[.int .i64 0,.nilIface] 240)
 have gX:=hG.below bX
 obtain⟨g1,a,g2⟩:=gX
 have hXb:(w.alloc (Obj.cells #[.int .i64 0,.nilIface] 240)).heap[w.heap.size]?=some (.cells #[.int .i64 0,.nilIface] 240):=heap_alloc_new _ _
 have t0:(w.alloc (Obj.cells #[.int .i64 0,.nilIface] 240)).cell? ⟨w.heap.size,0,none⟩=some (.int .i64 0):=by unfold World.cell?;rw[hXb];rfl
 have t1:(w.alloc (Obj.cells #[.int .i64 0,.nilIface] 240)).cell? ⟨w.heap.size,1,none⟩=some .nilIface:=by unfold World.cell?;rw[hXb];rfl
 have f0:∀j,(w.alloc (Obj.cells #[.int .i64 0,.nilIface] 240)).frozen? ⟨w.heap.size,j,none⟩=false:=fun j=>by unfold World.frozen?;rw[hXb];rfl
 rcases hx with ⟨b,rfl⟩ | ⟨z',b,rfl⟩
 ·have CA:Hid (Calls prog 72 #[Zm2 b,.iface 430 (.pointer (some ⟨w.heap.size,0,none⟩))] (w.alloc (Obj.cells #[.int .i64 0,.nilIface] 240)) _):=Z3p b a w.heap.size _ g1 g2
  clear g1 g2 t0 t1 f0 hXb hG
  go_enter func192,ntmps192
  go_wp2_with (go_at_call 72;refine CA.out.mono ?_;rintro e w2 ⟨rfl,hb2⟩)
  go_ret
  exact⟨bX.trans (hb2.mono bX.size),_,_,rfl⟩
 ·have CA:Hid (Calls prog 72 #[atV2 z' b,.iface 430 (.pointer (some ⟨w.heap.size,0,none⟩))] (w.alloc (Obj.cells #[.int .i64 0,.nilIface] 240)) _):=asAt_hit z' b w.heap.size _ _ _ g1 t0 t1 (f0 0) (f0 1)
  clear g1 g2 t0 t1 f0 hXb hG
  go_enter func192,ntmps192
  go_wp2_with (go_at_call 72;refine CA.out.mono ?_;rintro e w2 ⟨rfl,ht2,hc2⟩)
  go_ret
  exact⟨Zaa.fresh bX ht2 (fun g hg=>by show ¬ g=_;omega),_,_,rfl⟩
end Go.Proofs.YtliapghpeoaonaaGreatDoor
namespace Go.Proofs.YtliapghpeoaonaaGreatDoor
open Go.Proofs.Tryz
open Go.RowKit Go.Extern.Stop Go.Stop Go.Extern
attribute [local go_sem ↓] Go.wp_at_zero Go.wp_at_succ
abbrev inV (nb:ByteArray)(i z:Int)(b:ByteArray):Value:=.iface 216 (.agg #[.string nb,.int .i64 i,atV2 z b])
def FltW (f:Value):Prop:=Zii f∨∃nb i z b,f=inV nb i z b
theorem Tryz.is_noIsY (v:Value)(xT:TypeId)(w:World):(Instr.typeAssert (.iface 146 v) xT 336 true).run prog w=.ok (.tuple #[.nilIface,.bool false]) w:=run_typeAssert_lacksB underlying336 (by kernel_rfl) (by kernel_rfl) v xT w
theorem Tryz.is_hasUnwY (v:Value)(xT:TypeId)(w:World):(Instr.typeAssert (.iface 146 v) xT 339 true).run prog w=.ok (.tuple #[.iface 146 v,.bool true]) w:=run_typeAssert_hasB underlying339 (by kernel_rfl) v xT w
theorem Tryz.is_methY (x:Value)(w:World):(Go.method 634 146 x "Unwrap").run prog w=.ok (307,x) w:=by kernel_rfl
theorem Tryz.is_noIsA (v:Value)(xT:TypeId)(w:World):(Instr.typeAssert (.iface 240 v) xT 336 true).run prog w=.ok (.tuple #[.nilIface,.bool false]) w:=run_typeAssert_lacksB underlying336 (by kernel_rfl) (by kernel_rfl) v xT w
theorem Tryz.is_hasUnwA (v:Value)(xT:TypeId)(w:World):(Instr.typeAssert (.iface 240 v) xT 339 true).run prog w=.ok (.tuple #[.iface 240 v,.bool true]) w:=run_typeAssert_hasB underlying339 (by kernel_rfl) v xT w
theorem Tryz.is_methA (x y:Value)(w:World):(Go.method 634 240 (.agg #[x,y]) "Unwrap").run prog w=.ok (318,.agg #[x,y]) w:=by kernel_rfl
theorem Tryz.is_noIsI (v:Value)(xT:TypeId)(w:World):(Instr.typeAssert (.iface 216 v) xT 336 true).run prog w=.ok (.tuple #[.nilIface,.bool false]) w:=run_typeAssert_lacksB underlying336 (by kernel_rfl) (by kernel_rfl) v xT w
theorem Tryz.is_hasUnwI (v:Value)(xT:TypeId)(w:World):(Instr.typeAssert (.iface 216 v) xT 339 true).run prog w=.ok (.tuple #[.iface 216 v,.bool true]) w:=run_typeAssert_hasB underlying339 (by kernel_rfl) v xT w
theorem Tryz.is_methI (x y z:Value)(w:World):(Go.method 634 216 (.agg #[x,y,z]) "Unwrap").run prog w=.ok (313,.agg #[x,y,z]) w:=by kernel_rfl
theorem Zud (z:Int)(b:ByteArray)(w:World):Calls prog 318 #[.agg #[.int .i64 z,Zm2 b]] w fun e w'=>e=.returned (Zm2 b)∧Below w.heap.size w w':=by
 go_enter func318,ntmps318
 go_wp2
 go_ret
 exact⟨rfl,by first | exact Below.refl _ _ | exact Zab w _⟩
theorem Z2b (nb:ByteArray)(i z:Int)(b:ByteArray)(w:World):Calls prog 313 #[.agg #[.string nb,.int .i64 i,atV2 z b]] w fun e w'=>e=.returned (atV2 z b)∧Below w.heap.size w w':=by
 go_enter func313,ntmps313
 go_wp2
 go_ret
 exact⟨rfl,by first | exact Below.refl _ _ | exact Zab w _⟩
theorem is_why (b:ByteArray)(a:Addr)(w:World)(hF:w.cell? ⟨0,0,none⟩=some (Za8 a)):
  Calls prog 71 #[Zm2 b,Za8 a] w fun e w'=>e=.returned (.bool true)∧Below w.heap.size w w':=by
 obtain⟨i,hi,hcmp⟩:=Option.map_eq_some_iff.1 Tryz.isComp
 obtain⟨j,hj,hjs⟩:=Option.map_eq_some_iff.1 Tryz.isSize
 have h8:=@run_callFunc_extern prog 118 _ Extern.ReflectliteType.typeOf func118 (by kernel_rfl) (by kernel_rfl) (by kernel_rfl) (by kernel_rfl)
 have h32:=@run_callFunc_extern prog 328 _ (Extern.ReflectliteType.method fun t=>do Rtype.noPackHeld "Comparable" t;pure (.bool (←typeInfo t).comparable)) func328 (by kernel_rfl) (by kernel_rfl) (by kernel_rfl) (by kernel_rfl)
 have tT:=Tryz.isTypeOf
 have cT:=Tryz.isComparable
 have mR:=Tryz.isMethodComparable
 have mY:=Tryz.is_methY
 have nY:=Tryz.is_noIsY
 have uY:=Tryz.is_hasUnwY
 have mA:=Tryz.is_methA
 have nA:=Tryz.is_noIsA
 have uA:=Tryz.is_hasUnwA
 have mI:=Tryz.is_methI
 have nI:=Tryz.is_noIsI
 have uI:=Tryz.is_hasUnwI
 have ht0:=fun X=>run_eql_iface_types (P:=prog) 146 503 (.string b) (.pointer (some a)) underlying51 (by decide) X
 go_enter func71,ntmps71
 go_wp2
 refine wp_loop_rounds 2 ?_
 rw[rounds_succ]
 go_wp2_with (go_at_call 307;refine (Zhw b a _ hF).mono ?_;rintro e w9 ⟨rfl,rfl⟩)
 have heq:=run_eql_iface_ptr_same (P:=prog) w9 a underlying51 underlying503 hi hcmp hj
 rw[rounds_succ]
 go_wp2
 go_ret
 exact⟨rfl,Below.refl _ _⟩
theorem is_at (z:Int)(b:ByteArray)(a:Addr)(w:World)(hF:w.cell? ⟨0,0,none⟩=some (Za8 a)):
  Calls prog 71 #[atV2 z b,Za8 a] w fun e w'=>e=.returned (.bool true)∧Below w.heap.size w w':=by
 obtain⟨i,hi,hcmp⟩:=Option.map_eq_some_iff.1 Tryz.isComp
 obtain⟨j,hj,hjs⟩:=Option.map_eq_some_iff.1 Tryz.isSize
 have h8:=@run_callFunc_extern prog 118 _ Extern.ReflectliteType.typeOf func118 (by kernel_rfl) (by kernel_rfl) (by kernel_rfl) (by kernel_rfl)
 have h32:=@run_callFunc_extern prog 328 _ (Extern.ReflectliteType.method fun t=>do Rtype.noPackHeld "Comparable" t;pure (.bool (←typeInfo t).comparable)) func328 (by kernel_rfl) (by kernel_rfl) (by kernel_rfl) (by kernel_rfl)
 have tT:=Tryz.isTypeOf
 have cT:=Tryz.isComparable
 have mR:=Tryz.isMethodComparable
 have mY:=Tryz.is_methY
 have nY:=Tryz.is_noIsY
 have uY:=Tryz.is_hasUnwY
 have mA:=Tryz.is_methA
 have nA:=Tryz.is_noIsA
 have uA:=Tryz.is_hasUnwA
 have mI:=Tryz.is_methI
 have nI:=Tryz.is_noIsI
 have uI:=Tryz.is_hasUnwI
 have ht0:=fun X=>run_eql_iface_types (P:=prog) 146 503 (.string b) (.pointer (some a)) underlying51 (by decide) X
 have ht1:=fun X=>run_eql_iface_types (P:=prog) 240 503 (.agg #[.int .i64 z,Zm2 b]) (.pointer (some a)) underlying51 (by decide) X
 go_enter func71,ntmps71
 go_wp2
 refine wp_loop_rounds 3 ?_
 rw[rounds_succ]
 go_wp2_with (go_at_call 318;refine (Zud z b _).mono ?_;rintro e w1 ⟨rfl,hb1⟩;have hF1:=Below.cellv hb1 hF)
 rw[rounds_succ]
 go_wp2_with (go_at_call 307;refine (Zhw b a _ hF1).mono ?_;rintro e w9 ⟨rfl,rfl⟩)
 have heq:=run_eql_iface_ptr_same (P:=prog) w9 a underlying51 underlying503 hi hcmp hj
 rw[rounds_succ]
 go_wp2
 go_ret
 exact⟨rfl,hb1⟩
theorem is_in (nb:ByteArray)(ix z:Int)(b:ByteArray)(a:Addr)(w:World)(hF:w.cell? ⟨0,0,none⟩=some (Za8 a)):
  Calls prog 71 #[inV nb ix z b,Za8 a] w fun e w'=>e=.returned (.bool true)∧Below w.heap.size w w':=by
 obtain⟨i,hi,hcmp⟩:=Option.map_eq_some_iff.1 Tryz.isComp
 obtain⟨j,hj,hjs⟩:=Option.map_eq_some_iff.1 Tryz.isSize
 have h8:=@run_callFunc_extern prog 118 _ Extern.ReflectliteType.typeOf func118 (by kernel_rfl) (by kernel_rfl) (by kernel_rfl) (by kernel_rfl)
 have h32:=@run_callFunc_extern prog 328 _ (Extern.ReflectliteType.method fun t=>do Rtype.noPackHeld "Comparable" t;pure (.bool (←typeInfo t).comparable)) func328 (by kernel_rfl) (by kernel_rfl) (by kernel_rfl) (by kernel_rfl)
 have tT:=Tryz.isTypeOf
 have cT:=Tryz.isComparable
 have mR:=Tryz.isMethodComparable
 have mY:=Tryz.is_methY
 have nY:=Tryz.is_noIsY
 have uY:=Tryz.is_hasUnwY
 have mA:=Tryz.is_methA
 have nA:=Tryz.is_noIsA
 have uA:=Tryz.is_hasUnwA
 have mI:=Tryz.is_methI
 have nI:=Tryz.is_noIsI
 have uI:=Tryz.is_hasUnwI
 have ht0:=fun X=>run_eql_iface_types (P:=prog) 146 503 (.string b) (.pointer (some a)) underlying51 (by decide) X
 have ht1:=fun X=>run_eql_iface_types (P:=prog) 240 503 (.agg #[.int .i64 z,Zm2 b]) (.pointer (some a)) underlying51 (by decide) X
 have ht2:=fun X=>run_eql_iface_types (P:=prog) 216 503 (.agg #[.string nb,.int .i64 ix,atV2 z b]) (.pointer (some a)) underlying51 (by decide) X
 go_enter func71,ntmps71
 go_wp2
 refine wp_loop_rounds 4 ?_
 rw[rounds_succ]
 go_wp2_with (go_at_call 313;refine (Z2b nb ix z b _).mono ?_;rintro e w0 ⟨rfl,hb0⟩;have hF0:=Below.cellv hb0 hF)
 rw[rounds_succ]
 go_wp2_with (go_at_call 318;refine (Zud z b _).mono ?_;rintro e w1 ⟨rfl,hb1⟩;have hF1:=Below.cellv hb1 hF0)
 rw[rounds_succ]
 go_wp2_with (go_at_call 307;refine (Zhw b a _ hF1).mono ?_;rintro e w9 ⟨rfl,rfl⟩)
 have heq:=run_eql_iface_ptr_same (P:=prog) w9 a underlying51 underlying503 hi hcmp hj
 rw[rounds_succ]
 go_wp2
 go_ret
 exact⟨rfl,hb0.trans (hb1.mono hb0.size)⟩
theorem is_flt {f:Value}(h:FltW f)(a:Addr)(w:World)(hF:w.cell? ⟨0,0,none⟩=some (Za8 a)):Calls prog 71 #[f,Za8 a] w fun e w'=>e=.returned (.bool true)∧Below w.heap.size w w':=by
 rcases h with (⟨b,rfl⟩ | ⟨z,b,rfl⟩) | ⟨nb,i,z,b,rfl⟩
 ·exact is_why b a w hF
 ·exact is_at z b a w hF
 ·exact is_in nb i z b a w hF
theorem FltW.iface {f:Value}(h:FltW f):∃t y,f=.iface t y:=by
 rcases h with (⟨b,rfl⟩ | ⟨z,b,rfl⟩) | ⟨nb,i,z,b,rfl⟩
 ·exact⟨_,_,rfl⟩
 ·exact⟨_,_,rfl⟩
 ·exact⟨_,_,rfl⟩
theorem code_flt {f:Value}(h:FltW f)(a:Addr)(w:World)(hF:w.cell? ⟨0,0,none⟩=some (Za8 a)):Calls prog 37 #[f] w fun e w'=>e=.returned (.tuple #[.int .i64 8,.int .i64 0])∧Below w.heap.size w w':=by
 have CI:=is_flt h a w hF
 obtain⟨t,y,rfl⟩:=h.iface
 clear h
 go_enter func37,ntmps37
 go_wp2_with (go_at_call 71;refine CI.mono ?_;rintro e w1 ⟨rfl,hb1⟩)
 go_ret2
 exact⟨rfl,hb1⟩
end Go.Proofs.YtliapghpeoaonaaGreatDoor
