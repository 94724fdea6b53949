/- The walk of Names. -/
import Derived.Test.YtdiefbahmcihlaaDoorErr
import Derived.Stop.LaidErr
import Derived.LaidEql
namespace Go.Proofs.YtdiefbahmcihlaaDoor
open Go.RowKit
attribute [local go_sem ↓] Go.wp_at_zero Go.wp_at_succ

theorem nil_ahead (a : Addr) (w : World) : (nilAhead 169 30 (.pointer (some a)) "Error").run Tryd.prog w = .ok (some false) w := by kernel_rfl
theorem method_error (a : Addr) (w : World) : (method 169 30 (.pointer (some a)) "Error").run Tryd.prog w = .ok (35, .pointer (some a)) w := by kernel_rfl

theorem Tryd.comp30 : (Tryd.prog.info? 30).map (·.comparable) = some true := by kernel_rfl
theorem Tryd.size66 : (Tryd.prog.info? 66).map (·.size) = some 1 := by kernel_rfl
theorem eql_same (a : Addr) (y : World) : (binOp .eql 23 (.iface 30 (.pointer (some a))) (.iface 30 (.pointer (some a)))).run Tryd.prog y = .ok (.bool true) y := by
  obtain ⟨i, hi, hcmp⟩ := Option.map_eq_some_iff.1 Tryd.comp30
  obtain ⟨j, hj, _⟩ := Option.map_eq_some_iff.1 Tryd.size66
  exact run_eql_iface_ptr_same y a Tryd.underlying23 Tryd.underlying30 hi hcmp hj

theorem new_cells (w : World) (s0 s1 s2 s3 s4 s5 s6 s7 s8 : ByteArray) (j : Nat) (hj : j < 9) :
    (w.alloc (Obj.cells #[Value.string s0, Value.string s1, Value.string s2, Value.string s3, Value.string s4, Value.string s5, Value.string s6, Value.string s7, Value.string s8] 9)).cell? ⟨w.heap.size, j, none⟩ = some (.string ([s0, s1, s2, s3, s4, s5, s6, s7, s8].getD j ByteArray.empty)) := by
  have h : (w.alloc (Obj.cells #[Value.string s0, Value.string s1, Value.string s2, Value.string s3, Value.string s4, Value.string s5, Value.string s6, Value.string s7, Value.string s8] 9)).heap[w.heap.size]? = some (Obj.cells #[Value.string s0, Value.string s1, Value.string s2, Value.string s3, Value.string s4, Value.string s5, Value.string s6, Value.string s7, Value.string s8] 9) := heap_alloc_new _ _
  have : j = 0 ∨ j = 1 ∨ j = 2 ∨ j = 3 ∨ j = 4 ∨ j = 5 ∨ j = 6 ∨ j = 7 ∨ j = 8 := by omega
  rcases this with rfl | rfl | rfl | rfl | rfl | rfl | rfl | rfl | rfl <;> (unfold World.cell?; rw [h]; rfl)

set_option maxHeartbeats 1000000 in
theorem names_look (a0 a1 a2 a3 a4 a5 a6 a7 a8 : Addr) (s0 s1 s2 s3 s4 s5 s6 s7 s8 : ByteArray) (w : World)
   (g0 : w.cell? ⟨0, 0, none⟩ = some (.iface 30 (.pointer (some a0)))) (c0 : w.cell? a0 = some (.string s0))
   (g1 : w.cell? ⟨1, 0, none⟩ = some (.iface 30 (.pointer (some a1)))) (c1 : w.cell? a1 = some (.string s1))
   (g2 : w.cell? ⟨2, 0, none⟩ = some (.iface 30 (.pointer (some a2)))) (c2 : w.cell? a2 = some (.string s2))
   (g3 : w.cell? ⟨3, 0, none⟩ = some (.iface 30 (.pointer (some a3)))) (c3 : w.cell? a3 = some (.string s3))
   (g4 : w.cell? ⟨4, 0, none⟩ = some (.iface 30 (.pointer (some a4)))) (c4 : w.cell? a4 = some (.string s4))
   (g5 : w.cell? ⟨5, 0, none⟩ = some (.iface 30 (.pointer (some a5)))) (c5 : w.cell? a5 = some (.string s5))
   (g6 : w.cell? ⟨6, 0, none⟩ = some (.iface 30 (.pointer (some a6)))) (c6 : w.cell? a6 = some (.string s6))
   (g7 : w.cell? ⟨7, 0, none⟩ = some (.iface 30 (.pointer (some a7)))) (c7 : w.cell? a7 = some (.string s7))
   (g8 : w.cell? ⟨8, 0, none⟩ = some (.iface 30 (.pointer (some a8)))) (c8 : w.cell? a8 = some (.string s8))
   (hne : ∀ i j, j < i → i < 9 → (([s0, s1, s2, s3, s4, s5, s6, s7, s8][i]?.getD ByteArray.empty).toList == ([s0, s1, s2, s3, s4, s5, s6, s7, s8][j]?.getD ByteArray.empty).toList) = false) :
    Calls Tryd.prog 3 #[] w fun e w' => e = .returned (.bool true) ∧ Below w.heap.size w w' := by
  have hn := nil_ahead
  have hm := method_error
  go_enter Tryd.func3, Tryd.ntmps3
  go_wp2
  go_region_held3 (fun w' => w'.cell? ⟨0, 0, none⟩ = some (.iface 30 (.pointer (some a0))) ∧ w'.cell? ⟨1, 0, none⟩ = some (.iface 30 (.pointer (some a1))) ∧ w'.cell? ⟨2, 0, none⟩ = some (.iface 30 (.pointer (some a2)))
      ∧ w'.cell? ⟨3, 0, none⟩ = some (.iface 30 (.pointer (some a3))) ∧ w'.cell? ⟨4, 0, none⟩ = some (.iface 30 (.pointer (some a4))) ∧ w'.cell? ⟨5, 0, none⟩ = some (.iface 30 (.pointer (some a5)))
      ∧ w'.cell? ⟨6, 0, none⟩ = some (.iface 30 (.pointer (some a6))) ∧ w'.cell? ⟨7, 0, none⟩ = some (.iface 30 (.pointer (some a7))) ∧ w'.cell? ⟨8, 0, none⟩ = some (.iface 30 (.pointer (some a8)))) (go_keep)
    (first
      | (go_at_call_of 35 (Value.pointer (some a0)); refine (error_any a0 s0 _ ?_).mono ?_; (simp [*]); rintro e w' ⟨rfl, rfl⟩)
      | (go_at_call_of 35 (Value.pointer (some a1)); refine (error_any a1 s1 _ ?_).mono ?_; (simp [*]); rintro e w' ⟨rfl, rfl⟩)
      | (go_at_call_of 35 (Value.pointer (some a2)); refine (error_any a2 s2 _ ?_).mono ?_; (simp [*]); rintro e w' ⟨rfl, rfl⟩)
      | (go_at_call_of 35 (Value.pointer (some a3)); refine (error_any a3 s3 _ ?_).mono ?_; (simp [*]); rintro e w' ⟨rfl, rfl⟩)
      | (go_at_call_of 35 (Value.pointer (some a4)); refine (error_any a4 s4 _ ?_).mono ?_; (simp [*]); rintro e w' ⟨rfl, rfl⟩)
      | (go_at_call_of 35 (Value.pointer (some a5)); refine (error_any a5 s5 _ ?_).mono ?_; (simp [*]); rintro e w' ⟨rfl, rfl⟩)
      | (go_at_call_of 35 (Value.pointer (some a6)); refine (error_any a6 s6 _ ?_).mono ?_; (simp [*]); rintro e w' ⟨rfl, rfl⟩)
      | (go_at_call_of 35 (Value.pointer (some a7)); refine (error_any a7 s7 _ ?_).mono ?_; (simp [*]); rintro e w' ⟨rfl, rfl⟩)
      | (go_at_call_of 35 (Value.pointer (some a8)); refine (error_any a8 s8 _ ?_).mono ?_; (simp [*]); rintro e w' ⟨rfl, rfl⟩))
  go_wp2
  generalize hW : w.alloc (Obj.cells #[Value.string s0, Value.string s1, Value.string s2, Value.string s3, Value.string s4, Value.string s5, Value.string s6, Value.string s7, Value.string s8] 9) = W
  have hcells : ∀ j, j < 9 → W.cell? ⟨w.heap.size, j, none⟩ = some (.string ([s0, s1, s2, s3, s4, s5, s6, s7, s8].getD j ByteArray.empty)) := by
    subst hW
    exact fun j hj => new_cells _ _ _ _ _ _ _ _ _ _ j hj
  have hBel : Below w.heap.size w W := by
    subst hW
    exact (Below.refl _ _).alloc (Nat.le_refl _) _
  have gW : W.cell? ⟨1, 0, none⟩ = some (.iface 30 (.pointer (some a1))) := by
    subst hW
    exact cell?_alloc_old _ g1
  clear hW
  generalize [s0, s1, s2, s3, s4, s5, s6, s7, s8] = L at *
  clear c0 c1 c2 c3 c4 c5 c6 c7 c8 g0 g1 g2 g3 g4 g5 g6 g7 g8 hn hm
  go_loopw [1, 3] (fun v i wr => ∃ n k : Nat, v = .bool true ∧ i = .int .i64 k ∧ k ≤ 9 ∧ wr = W.drewN n) (fun _ i _ => 9 - (intOf i).toNat)
  case atStart => exact ⟨1, 0, rfl, rfl, by omega, rfl⟩
  case round =>
    obtain ⟨n, i, rfl, rfl, hi, rfl⟩ := hrel
    by_cases hlt : i < 9
    · have ci := hcells i hlt
      go_wp2
      go_loopw [1, 4] (fun v k wr => ∃ n j : Nat, v = .bool true ∧ k = .int .i64 j ∧ j ≤ i ∧ wr = W.drewN n) (fun _ k _ => i - (intOf k).toNat)
      case atStart => exact ⟨_, 0, rfl, rfl, by omega, rfl⟩
      case round =>
        obtain ⟨m, j, rfl, rfl, hj, rfl⟩ := hrel
        by_cases hjt : j < i
        · have cj := hcells j (by omega)
          have hdis : Hid (((L[i]?.getD ByteArray.empty).toList == (L[j]?.getD ByteArray.empty).toList) = false) := hne i j hjt hlt
          go_wp2
          go_quiet (fail)
          go_wp2
          go_roundw
          case rel => exact ⟨_, j + 1, rfl, by go_num, by omega, rfl⟩
          case measure => simp [intOf]; omega
        · go_wp2
          go_roundw
          case rel => exact ⟨_, i + 1, rfl, by go_num, by omega, rfl⟩
          case measure => simp [intOf]; omega
    · have gX : (W.drewN n).cell? ⟨1, 0, none⟩ = some (.iface 30 (.pointer (some a1))) := gW
      have bX : Below w.heap.size w (W.drewN n) := below_drewN hBel n
      generalize W.drewN n = X at *
      clear hcells hne gW hBel
      have heq : ∀ y : World, (binOp .eql 23 (.iface 30 (.pointer (some a1))) (.iface 30 (.pointer (some a1)))).run Tryd.prog y = .ok (.bool true) y := eql_same a1
      have := World.new_ne X ⟨1, 0, none⟩ gX
      go_wp2
      go_region_held3 (fun w' => w'.cell? ⟨1, 0, none⟩ = some (.iface 30 (.pointer (some a1))) ∧ w'.cell? ⟨X.heap.size, 0, none⟩ = some (.int .i64 7) ∧ w'.cell? ⟨X.heap.size, 1, none⟩ = some (.iface 30 (.pointer (some a1)))) (go_keep)
        ((go_at_call 4; refine (unwrap_any 7 (.iface 30 (.pointer (some a1))) _).mono ?_; rintro e w' ⟨rfl, rfl⟩))
      all_goals go_wp2
      all_goals go_ret
      all_goals exact ⟨rfl, ((bX.alloc bX.size _).alloc (Nat.le_trans bX.size (by simp)) _).drew⟩
end Go.Proofs.YtdiefbahmcihlaaDoor
