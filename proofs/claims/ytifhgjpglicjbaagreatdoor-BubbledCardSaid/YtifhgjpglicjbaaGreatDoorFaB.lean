/-
  errors.As at a Why: there is no At; fault.Placed.
-/
import Derived.Test.YtifhgjpglicjbaaGreatDoorFaA
set_option maxHeartbeats 4000000
set_option maxRecDepth 8000
namespace Go.Proofs.YtifhgjpglicjbaaGreatDoor
open Go.Proofs.Tryz
open Go.RowKit Go.Extern.Stop Go.Stop Go.Extern
theorem Tryz.fa_typeOfY (v:Value)(w:World):(ReflectliteType.typeOf #[.iface 69 v]).run prog w=.ok (.iface 135 (.agg #[.pointer (some ⟨15,69,none⟩)])) w:=by kernel_rfl
theorem Tryz.fa_typeOfE (v:Value)(w:World):(ReflectliteType.typeOf #[.iface 402 v]).run prog w=.ok (.iface 135 (.agg #[.pointer (some ⟨15,402,none⟩)])) w:=by kernel_rfl
theorem Tryz.fa_assignY (w:World):(ReflectliteType.relation "AssignableTo" ReflectliteType.assignableTo #[.agg #[.pointer (some ⟨15,69,none⟩)],.iface 135 (.agg #[.pointer (some ⟨15,186,none⟩)])]).run prog w=.ok (.bool false) w:=by kernel_rfl
theorem Tryz.fa_assignE (w:World):(ReflectliteType.relation "AssignableTo" ReflectliteType.assignableTo #[.agg #[.pointer (some ⟨15,402,none⟩)],.iface 135 (.agg #[.pointer (some ⟨15,186,none⟩)])]).run prog w=.ok (.bool false) w:=by kernel_rfl
theorem Tryz.fa_noAsY (v:Value)(xT:TypeId)(w:World):(Instr.typeAssert (.iface 69 v) xT 378 true).run prog w=.ok (.tuple #[.nilIface,.bool false]) w:=run_typeAssert_lacksB underlying378 (by kernel_rfl) (by kernel_rfl) v xT w
theorem Tryz.fa_noAsE (v:Value)(xT:TypeId)(w:World):(Instr.typeAssert (.iface 402 v) xT 378 true).run prog w=.ok (.tuple #[.nilIface,.bool false]) w:=run_typeAssert_lacksB underlying378 (by kernel_rfl) (by kernel_rfl) v xT w
theorem Tryz.fa_hasUnwrapY (v:Value)(xT:TypeId)(w:World):(Instr.typeAssert (.iface 69 v) xT 140 true).run prog w=.ok (.tuple #[.iface 69 v,.bool true]) w:=run_typeAssert_hasB underlying140 (by kernel_rfl) v xT w
theorem Tryz.fa_methodY (x:Value)(w:World):(Go.method 533 69 x "Unwrap").run prog w=.ok (244,x) w:=by kernel_rfl
theorem why_unwrap (b:ByteArray)(a:Addr)(w:World)(hF:w.cell? ⟨0,0,none⟩=some (errVal a)):Calls prog 244 #[.string b] w fun e w'=>e=.returned (errVal a)∧w'=w:=by
 go_enter func244,ntmps244
 go_wp2
 go_ret
 exact⟨rfl,rfl⟩
theorem asAt_miss (b:ByteArray)(a:Addr)(t:Nat)(w:World)(hg:w.cell? ⟨9,0,none⟩=some (.iface 135 (.agg #[.pointer (some ⟨15,28,none⟩)])))(hF:w.cell? ⟨0,0,none⟩=some (errVal a)):
  Calls prog 146 #[whyB b,.iface 304 (.pointer (some ⟨t,0,none⟩))] w fun e w'=>e=.returned (.bool false)∧Below w.heap.size w w':=by
 have h6:=@run_callFunc_extern prog 178 _ (fun args=>ReflectliteValue.unpack (args.getD 0 (.tuple #[]))) func178 (by kernel_rfl) (by kernel_rfl) (by kernel_rfl) (by kernel_rfl)
 have h7:=@run_callFunc_extern prog 179 _ (ReflectliteValue.methodAny (ReflectliteValue.valueError "reflectlite.Value.Type" 0) (fun t _ _ _=>ReflectliteType.toType t)) func179 (by kernel_rfl) (by kernel_rfl) (by kernel_rfl) (by kernel_rfl)
 have h8:=@run_callFunc_extern prog 180 _ (ReflectliteValue.method (ReflectliteValue.valueError "reflectlite.Value.IsNil" 0) ReflectliteValue.isNil) func180 (by kernel_rfl) (by kernel_rfl) (by kernel_rfl) (by kernel_rfl)
 have h27:=@run_callFunc_extern prog 240 _ (ReflectliteType.abiMethod fun t=>do pure (.int .u8 (←Rtype.kind t))) func240 (by kernel_rfl) (by kernel_rfl) (by kernel_rfl) (by kernel_rfl)
 have h37:=@run_callFunc_extern prog 254 _ (ReflectliteType.method ReflectliteType.elem) func254 (by kernel_rfl) (by kernel_rfl) (by kernel_rfl) (by kernel_rfl)
 have h38:=@run_callFunc_extern prog 255 _ (ReflectliteType.relation "Implements" ReflectliteType.implements_) func255 (by kernel_rfl) (by kernel_rfl) (by kernel_rfl) (by kernel_rfl)
 have h10:=@run_callFunc_extern prog 30 _ ReflectliteType.typeOf func30 (by kernel_rfl) (by kernel_rfl) (by kernel_rfl) (by kernel_rfl)
 have h35:=@run_callFunc_extern prog 252 _ (ReflectliteType.relation "AssignableTo" ReflectliteType.assignableTo) func252 (by kernel_rfl) (by kernel_rfl) (by kernel_rfl) (by kernel_rfl)
 have mA:=Tryz.methodAssignableTo
 have f6:=Tryz.fa_valueOfP
 have f7:=Tryz.fa_typeP
 have mK:=Tryz.methodKind
 have mE:=Tryz.methodElem
 have mI:=Tryz.methodImplements
 have k27:=Tryz.fa_kindP
 have k25:=Tryz.fa_kindW
 have e27:=Tryz.fa_elemP
 have i25:=Tryz.fa_implementsW
 have hlt:9<w.heap.size:=cell_lt hg
 have n8:=Tryz.fa_isNilP ⟨w.heap.size,0,none⟩ ⟨t,0,none⟩ ((w.alloc (.cells #[.pointer (some ⟨t,0,none⟩)] 304)).alloc (.cells #[.pointer (some ⟨15,304,none⟩),.pointer (some ⟨w.heap.size,0,none⟩),.int .u64 150] 335)) (by simp)
 have hg2:((w.alloc (.cells #[.pointer (some ⟨t,0,none⟩)] 304)).alloc (.cells #[.pointer (some ⟨15,304,none⟩),.pointer (some ⟨w.heap.size,0,none⟩),.int .u64 150] 335)).cell? ⟨9,0,none⟩=some (.iface 135 (.agg #[.pointer (some ⟨15,28,none⟩)])):=alloc_cell (alloc_cell hg)
 have tY:=Tryz.fa_typeOfY
 have tE:=Tryz.fa_typeOfE
 have aY:=Tryz.fa_assignY
 have aE:=Tryz.fa_assignE
 have mA:=Tryz.methodAssignableTo
 have nY:=Tryz.fa_noAsY
 have nE:=Tryz.fa_noAsE
 have uY:=Tryz.fa_hasUnwrapY
 have mY:=Tryz.fa_methodY
 have uE:=Tryz.noUnwrapE
 have vE:=Tryz.noUnwrapsE
 have cu:=fun X hX=>why_unwrap b a X hX
 have hlF:0<w.heap.size:=cell_lt hF
 go_enter func146,ntmps146
 go_wp2
 refine wp_loop_rounds 2 ?_
 rw[rounds_succ]
 go_wp2_with (go_at_call 244;refine (cu _ (alloc_cell (alloc_cell (alloc_cell hF)))).mono ?_;rintro e w2 ⟨rfl,rfl⟩)
 rw[rounds_succ]
 go_wp2
 go_ret
 exact⟨rfl,((below1 w _).alloc (by simp) _).alloc (by simp;omega) _⟩
def FltV (x:Value):Prop:=(∃b,x=whyB b)∨(∃z b,x=atV2 z b)
structure FltG (w:World):Prop where
 ty:w.cell? ⟨9,0,none⟩=some (.iface 135 (.agg #[.pointer (some ⟨15,28,none⟩)]))
 fl:∃a,w.cell? ⟨0,0,none⟩=some (errVal a)
theorem FltG.below {w w':World}(h:FltG w)(hb:Below w.heap.size w w'):FltG w':=by
 obtain⟨h1,a,h2⟩:=h
 exact⟨Below.cellv hb h1,a,Below.cellv hb h2⟩
theorem FltG.touch {w w':World}{rb:Nat}(h:FltG w)(ht:Touch (·=rb) w w')(hr:15≤rb):FltG w':=by
 obtain⟨h1,a,h2⟩:=h
 exact⟨ht.cell h1 (by show ¬ (9:Nat)=rb;omega),a,ht.cell h2 (by show ¬ (0:Nat)=rb;omega)⟩
theorem placed_any (z:Int)(x:Value)(w:World)(hx:FltV x)(hG:FltG w):
  Calls prog 110 #[.int .i64 z,x] w fun e w'=>Below w.heap.size w w'∧∃z' b,e=.returned (atV2 z' b):=by
 have bX:=below1 w (Obj.cells #[.int .i64 0,.nilIface] 186)
 have gX:=hG.below bX
 obtain⟨g1,a,g2⟩:=gX
 have hXb:(w.alloc (Obj.cells #[.int .i64 0,.nilIface] 186)).heap[w.heap.size]?=some (.cells #[.int .i64 0,.nilIface] 186):=heap_alloc_new _ _
 have t0:(w.alloc (Obj.cells #[.int .i64 0,.nilIface] 186)).cell? ⟨w.heap.size,0,none⟩=some (.int .i64 0):=by unfold World.cell?;rw[hXb];rfl
 have t1:(w.alloc (Obj.cells #[.int .i64 0,.nilIface] 186)).cell? ⟨w.heap.size,1,none⟩=some .nilIface:=by unfold World.cell?;rw[hXb];rfl
 have f0:∀j,(w.alloc (Obj.cells #[.int .i64 0,.nilIface] 186)).frozen? ⟨w.heap.size,j,none⟩=false:=fun j=>by unfold World.frozen?;rw[hXb];rfl
 rcases hx with ⟨b,rfl⟩ | ⟨z',b,rfl⟩
 ·have CA:Hid (Calls prog 146 #[whyB b,.iface 304 (.pointer (some ⟨w.heap.size,0,none⟩))] (w.alloc (Obj.cells #[.int .i64 0,.nilIface] 186)) _):=asAt_miss b a w.heap.size _ g1 g2
  clear g1 g2 t0 t1 f0 hXb hG
  go_enter func110,ntmps110
  go_wp2_with (go_at_call 146;refine CA.out.mono ?_;rintro e w2 ⟨rfl,hb2⟩)
  go_ret
  exact⟨bX.trans (hb2.mono bX.size),_,_,rfl⟩
 ·have CA:Hid (Calls prog 146 #[atV2 z' b,.iface 304 (.pointer (some ⟨w.heap.size,0,none⟩))] (w.alloc (Obj.cells #[.int .i64 0,.nilIface] 186)) _):=asAt_hit z' b w.heap.size _ _ _ g1 t0 t1 (f0 0) (f0 1)
  clear g1 g2 t0 t1 f0 hXb hG
  go_enter func110,ntmps110
  go_wp2_with (go_at_call 146;refine CA.out.mono ?_;rintro e w2 ⟨rfl,ht2,hc2⟩)
  go_ret
  exact⟨Touch.fresh bX ht2 (fun g hg=>by show ¬ g=_;omega),_,_,rfl⟩
end Go.Proofs.YtifhgjpglicjbaaGreatDoor
