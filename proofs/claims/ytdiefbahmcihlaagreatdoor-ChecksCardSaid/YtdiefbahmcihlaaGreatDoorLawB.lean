/-
  errors.As at what Check answers.
-/
import Derived.Test.YtdiefbahmcihlaaGreatDoorLawA
namespace Go.Proofs.YtdiefbahmcihlaaGreatDoor
open Go.RowKit Go.Extern.Stop Go.Stop Go.Extern

theorem Tryz.valueOfP (t : Addr) (w : World) : (ReflectliteValue.unpack (.iface 221 (.pointer (some t)))).run Tryz.prog w
    = .ok (.agg #[.pointer (some ⟨15, 221, none⟩), .pointer (some ⟨w.heap.size, 0, none⟩), .int .u64 150]) (w.alloc (.cells #[.pointer (some t)] 221)) := by kernel_rfl
theorem Tryz.typeP (a : Addr) (w : World) : (ReflectliteValue.methodAny (ReflectliteValue.valueError "reflectlite.Value.Type" 0) (fun t _ _ _ => ReflectliteType.toType t) #[.agg #[.pointer (some ⟨15, 221, none⟩), .pointer (some a), .int .u64 150]]).run Tryz.prog w
    = .ok (.iface 182 (.agg #[.pointer (some ⟨15, 221, none⟩)])) w := by kernel_rfl
theorem Tryz.methodKind (h : Value) (w : World) : (Go.method 645 182 (.agg #[h]) "Kind").run Tryz.prog w = .ok (317, h) w := by kernel_rfl
theorem Tryz.kindP (w : World) : ((ReflectliteType.abiMethod fun t => (fun a : Nat => Value.int IntKind.u8 (a : Int)) <$> Rtype.kind t) #[.pointer (some ⟨15, 221, none⟩)]).run Tryz.prog w = .ok (.int .u8 22) w := by kernel_rfl
theorem Tryz.kindW (w : World) : ((ReflectliteType.abiMethod fun t => (fun a : Nat => Value.int IntKind.u8 (a : Int)) <$> Rtype.kind t) #[.pointer (some ⟨15, 163, none⟩)]).run Tryz.prog w = .ok (.int .u8 25) w := by kernel_rfl
theorem rlm {α : Type} (v : Value) (f : Value → α) (g : Array Value → α) : ReflectliteValue.method.match_2 (fun _ => α) #[v] f g = f v := rfl
theorem Tryz.partsP (a : Addr) (w : World) : (ReflectliteValue.parts (.agg #[.pointer (some ⟨15, 221, none⟩), .pointer (some a), .int .u64 150])).run Tryz.prog w = .ok (some (221, a, 150)) w := by kernel_rfl
theorem Tryz.isNilP (a p : Addr) (W : World) (ha : W.cell? a = some (.pointer (some p))) :
    (ReflectliteValue.method (ReflectliteValue.valueError "reflectlite.Value.IsNil" 0) ReflectliteValue.isNil #[.agg #[.pointer (some ⟨15, 221, none⟩), .pointer (some a), .int .u64 150]]).run Tryz.prog W = .ok (.bool false) W := by
  delta ReflectliteValue.method
  rw [rlm]
  simp only [Sem.run_bind, Tryz.partsP, Result.andThen]
  simp [ReflectliteValue.isNil, loadVar, isAgg, underlying, Tryz.underlying221, ha, Result.andThen]
theorem Tryz.methodElem (h : Value) (w : World) : (Go.method 645 182 (.agg #[h]) "Elem").run Tryz.prog w = .ok (331, .agg #[h]) w := by kernel_rfl
theorem Tryz.methodImplements (h : Value) (w : World) : (Go.method 645 182 (.agg #[h]) "Implements").run Tryz.prog w = .ok (332, .agg #[h]) w := by kernel_rfl
theorem Tryz.methodAssignableTo (h : Value) (w : World) : (Go.method 645 182 (.agg #[h]) "AssignableTo").run Tryz.prog w = .ok (329, .agg #[h]) w := by kernel_rfl
theorem Tryz.elemP (w : World) : (ReflectliteType.method ReflectliteType.elem #[.agg #[.pointer (some ⟨15, 221, none⟩)]]).run Tryz.prog w = .ok (.iface 182 (.agg #[.pointer (some ⟨15, 163, none⟩)])) w := by kernel_rfl
theorem Tryz.implementsW (w : World) : (ReflectliteType.relation "Implements" ReflectliteType.implements_ #[.agg #[.pointer (some ⟨15, 163, none⟩)], .iface 182 (.agg #[.pointer (some ⟨15, 33, none⟩)])]).run Tryz.prog w = .ok (.bool true) w := by kernel_rfl
theorem Tryz.typeOfW (v : Value) (w : World) : (ReflectliteType.typeOf #[.iface 163 v]).run Tryz.prog w = .ok (.iface 182 (.agg #[.pointer (some ⟨15, 163, none⟩)])) w := by kernel_rfl
theorem Tryz.assignableW (w : World) : (ReflectliteType.relation "AssignableTo" ReflectliteType.assignableTo #[.agg #[.pointer (some ⟨15, 163, none⟩)], .iface 182 (.agg #[.pointer (some ⟨15, 163, none⟩)])]).run Tryz.prog w = .ok (.bool true) w := by kernel_rfl
theorem Tryz.valueOfW (x y : Value) (w : World) : (ReflectliteValue.unpack (.iface 163 (.agg #[x, y]))).run Tryz.prog w
    = .ok (.agg #[.pointer (some ⟨15, 163, none⟩), .pointer (some ⟨w.heap.size, 0, none⟩), .int .u64 153]) (w.alloc (.cells #[x, y] 163)) := by kernel_rfl
theorem Tryz.elemOfP (w : World) : (Rtype.elem? 221).run Tryz.prog w = .ok (some 163) w := by kernel_rfl
theorem Tryz.mkW (p : Addr) (w : World) : (ReflectliteValue.mk 163 p ReflectliteValue.flagAddr).run Tryz.prog w = .ok (.agg #[.pointer (some ⟨15, 163, none⟩), .pointer (some p), .int .u64 409]) w := by kernel_rfl
theorem Tryz.elemVP (a p : Addr) (W : World) (ha : W.cell? a = some (.pointer (some p))) :
    (ReflectliteValue.method (ReflectliteValue.valueError "reflectlite.Value.Elem" 0) ReflectliteValue.elem #[.agg #[.pointer (some ⟨15, 221, none⟩), .pointer (some a), .int .u64 150]]).run Tryz.prog W
      = .ok (.agg #[.pointer (some ⟨15, 163, none⟩), .pointer (some p), .int .u64 409]) W := by
  delta ReflectliteValue.method
  rw [rlm]
  simp only [Sem.run_bind, Tryz.partsP, Result.andThen]
  simp [ReflectliteValue.elem, loadVar, isAgg, underlying, Tryz.underlying221, ha, Result.andThen, Tryz.elemOfP, Tryz.mkW]
theorem Tryz.partsWa (a : Addr) (w : World) : (ReflectliteValue.parts (.agg #[.pointer (some ⟨15, 163, none⟩), .pointer (some a), .int .u64 409])).run Tryz.prog w = .ok (some (163, a, 409)) w := by kernel_rfl
theorem Tryz.partsW (a : Addr) (w : World) : (ReflectliteValue.parts (.agg #[.pointer (some ⟨15, 163, none⟩), .pointer (some a), .int .u64 153])).run Tryz.prog w = .ok (some (163, a, 153)) w := by kernel_rfl
theorem Tryz.directW (w : World) : (Rtype.directlyAssignable 163 163).run Tryz.prog w = .ok true w := by kernel_rfl
theorem Tryz.sizeW (w : World) : (sizeOf 163).run Tryz.prog w = .ok 2 w := by kernel_rfl
end Go.Proofs.YtdiefbahmcihlaaGreatDoor

/-
  errors.As at what Check answers: the walk.
-/
namespace Go.Proofs.YtdiefbahmcihlaaGreatDoor
open Go.RowKit Go.Extern.Stop Go.Stop Go.Extern

theorem rls {α : Type} (v x : Value) (f : Value → Value → α) (g : Array Value → α) : ReflectliteValue.set.match_3 (fun _ => α) #[v, x] f g = f v x := rfl
theorem Tryz.isAggW (w : World) : (isAgg 163).run Tryz.prog w = .ok true w := by kernel_rfl
theorem Tryz.setW (tB bB : Nat) (p : Int) (a : Addr) (o0 o1 : Value) (W : World) (hb0 : W.cell? ⟨bB, 0, none⟩ = some (.int .i64 p)) (hb1 : W.cell? ⟨bB, 1, none⟩ = some (errVal a)) (ht0 : W.cell? ⟨tB, 0, none⟩ = some o0) (ht1 : W.cell? ⟨tB, 1, none⟩ = some o1) (hf0 : W.frozen? ⟨tB, 0, none⟩ = false) (hf1 : W.frozen? ⟨tB, 1, none⟩ = false) :
    (ReflectliteValue.set #[.agg #[.pointer (some ⟨15, 163, none⟩), .pointer (some ⟨tB, 0, none⟩), .int .u64 409], .agg #[.pointer (some ⟨15, 163, none⟩), .pointer (some ⟨bB, 0, none⟩), .int .u64 153]]).run Tryz.prog W
      = .ok (.tuple #[]) ((W.setCell ⟨tB, 0, none⟩ (.int .i64 p)).setCell ⟨tB, 1, none⟩ (errVal a)) := by
  delta ReflectliteValue.set
  rw [rls]
  simp only [Sem.run_bind, Tryz.partsWa, Tryz.partsW, Result.andThen]
  simp [ReflectliteValue.flagAddr, loadVar, Tryz.directW, Result.andThen, storeVar, hb0, hb1, ht0, ht1, hf0, hf1, go_sem, loadCellsFrom, Value.cells, storeCells, Addr.add]
set_option maxHeartbeats 4000000 in
theorem as_hit (p : Nat) (a : Addr) (t : Nat) (o0 o1 : Value) (w : World) (hg : w.cell? ⟨9, 0, none⟩ = some (.iface 182 (.agg #[.pointer (some ⟨15, 33, none⟩)]))) (ht0 : w.cell? ⟨t, 0, none⟩ = some o0) (ht1 : w.cell? ⟨t, 1, none⟩ = some o1) (hf0 : w.frozen? ⟨t, 0, none⟩ = false) (hf1 : w.frozen? ⟨t, 1, none⟩ = false) :
    Calls Tryz.prog 106 #[wrongV p a, .iface 221 (.pointer (some ⟨t, 0, none⟩))] w fun e w' => e = .returned (.bool true) ∧ Touch (· = t) w w' ∧ w'.cell? ⟨t, 0, none⟩ = some (.int .i64 ((p : Nat) : Int)) := by
  have h6 := @run_callFunc_extern Tryz.prog 149 _ (fun args => ReflectliteValue.unpack (args.getD 0 (.tuple #[]))) Tryz.func149 (by kernel_rfl) (by kernel_rfl) (by kernel_rfl) (by kernel_rfl)
  have h7 := @run_callFunc_extern Tryz.prog 150 _ (ReflectliteValue.methodAny (ReflectliteValue.valueError "reflectlite.Value.Type" 0) (fun t _ _ _ => ReflectliteType.toType t)) Tryz.func150 (by kernel_rfl) (by kernel_rfl) (by kernel_rfl) (by kernel_rfl)
  have h8 := @run_callFunc_extern Tryz.prog 151 _ (ReflectliteValue.method (ReflectliteValue.valueError "reflectlite.Value.IsNil" 0) ReflectliteValue.isNil) Tryz.func151 (by kernel_rfl) (by kernel_rfl) (by kernel_rfl) (by kernel_rfl)
  have h27 := @run_callFunc_extern Tryz.prog 317 _ (ReflectliteType.abiMethod fun t => do pure (.int .u8 (← Rtype.kind t))) Tryz.func317 (by kernel_rfl) (by kernel_rfl) (by kernel_rfl) (by kernel_rfl)
  have h37 := @run_callFunc_extern Tryz.prog 331 _ (ReflectliteType.method ReflectliteType.elem) Tryz.func331 (by kernel_rfl) (by kernel_rfl) (by kernel_rfl) (by kernel_rfl)
  have h38 := @run_callFunc_extern Tryz.prog 332 _ (ReflectliteType.relation "Implements" ReflectliteType.implements_) Tryz.func332 (by kernel_rfl) (by kernel_rfl) (by kernel_rfl) (by kernel_rfl)
  have h10 := @run_callFunc_extern Tryz.prog 41 _ ReflectliteType.typeOf Tryz.func41 (by kernel_rfl) (by kernel_rfl) (by kernel_rfl) (by kernel_rfl)
  have h35 := @run_callFunc_extern Tryz.prog 329 _ (ReflectliteType.relation "AssignableTo" ReflectliteType.assignableTo) Tryz.func329 (by kernel_rfl) (by kernel_rfl) (by kernel_rfl) (by kernel_rfl)
  have h11 := @run_callFunc_extern Tryz.prog 197 _ (ReflectliteValue.method (ReflectliteValue.valueError "reflectlite.Value.Elem" 0) ReflectliteValue.elem) Tryz.func197 (by kernel_rfl) (by kernel_rfl) (by kernel_rfl) (by kernel_rfl)
  have h12 := @run_callFunc_extern Tryz.prog 198 _ ReflectliteValue.set Tryz.func198 (by kernel_rfl) (by kernel_rfl) (by kernel_rfl) (by kernel_rfl)
  have tO := Tryz.typeOfW
  have mA := Tryz.methodAssignableTo
  have a25 := Tryz.assignableW
  have v25 := Tryz.valueOfW
  have f6 := Tryz.valueOfP
  have f7 := Tryz.typeP
  have mK := Tryz.methodKind
  have mE := Tryz.methodElem
  have mI := Tryz.methodImplements
  have k27 := Tryz.kindP
  have k25 := Tryz.kindW
  have e27 := Tryz.elemP
  have i25 := Tryz.implementsW
  have hlt : 9 < w.heap.size := cell_lt hg
  have htl : t < w.heap.size := cell_lt ht0
  have n8 := Tryz.isNilP ⟨w.heap.size, 0, none⟩ ⟨t, 0, none⟩ ((w.alloc (.cells #[.pointer (some ⟨t, 0, none⟩)] 221)).alloc (.cells #[.pointer (some ⟨15, 221, none⟩), .pointer (some ⟨w.heap.size, 0, none⟩), .int .u64 150] 323)) (by simp)
  have hg2 : ((w.alloc (.cells #[.pointer (some ⟨t, 0, none⟩)] 221)).alloc (.cells #[.pointer (some ⟨15, 221, none⟩), .pointer (some ⟨w.heap.size, 0, none⟩), .int .u64 150] 323)).cell? ⟨9, 0, none⟩ = some (.iface 182 (.agg #[.pointer (some ⟨15, 33, none⟩)])) := alloc_cell (alloc_cell hg)
  have el := Tryz.elemVP ⟨w.heap.size, 0, none⟩ ⟨t, 0, none⟩ (((w.alloc (.cells #[.pointer (some ⟨t, 0, none⟩)] 221)).alloc (.cells #[.pointer (some ⟨15, 221, none⟩), .pointer (some ⟨w.heap.size, 0, none⟩), .int .u64 150] 323)).alloc (.cells #[.pointer (some ⟨15, 221, none⟩), .pointer (some ⟨w.heap.size, 0, none⟩), .int .u64 150] 323)) (by rw [World.cell?_alloc_lt _ _ ⟨w.heap.size, 0, none⟩ (by simp; omega)]; simp)
  have st := Tryz.setW t (w.heap.size + 1 + 1 + 1) ((p : Nat) : Int) a o0 o1 ((((w.alloc (.cells #[.pointer (some ⟨t, 0, none⟩)] 221)).alloc (.cells #[.pointer (some ⟨15, 221, none⟩), .pointer (some ⟨w.heap.size, 0, none⟩), .int .u64 150] 323)).alloc (.cells #[.pointer (some ⟨15, 221, none⟩), .pointer (some ⟨w.heap.size, 0, none⟩), .int .u64 150] 323)).alloc (.cells #[.int .i64 ((p : Nat) : Int), errVal a] 163))
    (by rw [World.cell?_alloc_at _ _ _ _ (by simp)]; rfl) (by rw [World.cell?_alloc_at _ _ _ _ (by simp)]; rfl)
    (alloc_cell (alloc_cell (alloc_cell (alloc_cell ht0)))) (alloc_cell (alloc_cell (alloc_cell (alloc_cell ht1))))
    (by rw [World.frozen?_alloc_old _ _ _ (by simp; omega), World.frozen?_alloc_old _ _ _ (by simp; omega), World.frozen?_alloc_old _ _ _ (by simp; omega), World.frozen?_alloc_old _ _ _ (by simp; omega)]; exact hf0)
    (by rw [World.frozen?_alloc_old _ _ _ (by simp; omega), World.frozen?_alloc_old _ _ _ (by simp; omega), World.frozen?_alloc_old _ _ _ (by simp; omega), World.frozen?_alloc_old _ _ _ (by simp; omega)]; exact hf1)
  go_enter Tryz.func106, Tryz.ntmps106
  go_wp2
  refine wp_loop_rounds 1 ?_
  rw [rounds_succ]
  go_wp2
  go_ret
  refine ⟨rfl, ?_, ?_⟩
  · exact ((((((Touch.refl (· = t) w).alloc _).alloc _).alloc _).alloc _).setCell (p := ⟨t, 0, none⟩) (Or.inl rfl) _).setCell (p := ⟨t, 1, none⟩) (Or.inl rfl) _
  · rw [World.cell?_setCell_other _ _ _ _ (by simp)]
    exact World.cell?_setCell_same _ _ _ (alloc_cell (alloc_cell (alloc_cell (alloc_cell ht0))))
end Go.Proofs.YtdiefbahmcihlaaGreatDoor
