/-
  checkExpr at let; checkExpr at every expr.
-/
import Derived.Test.YtdiefbahmcihlaaGreatDoorNamG
namespace Go.Proofs.YtdiefbahmcihlaaGreatDoor
open Go.RowKit
attribute [local go_sem ↓] Go.wp_at_zero Go.wp_at_succ
attribute [local go_sem] ta_Variable_Variable ta_Let_Variable ta_Let_Let ta_Call_Variable ta_Call_Let ta_Call_Call ta_Map_Variable ta_Map_Let ta_Map_Call ta_Map_Map ta_List_Variable ta_List_Let ta_List_Call ta_List_Map ta_List_List ta_If_Variable ta_If_Let ta_If_Call ta_If_Map ta_If_List ta_If_If ta_Set_Variable ta_Set_Let ta_Set_Call ta_Set_Map ta_Set_List ta_Set_If ta_Set_Set ta_Binary_Variable ta_Binary_Let ta_Binary_Call ta_Binary_Map ta_Binary_List ta_Binary_If ta_Binary_Set ta_Binary_Binary ta_Len_Variable ta_Len_Let ta_Len_Call ta_Len_Map ta_Len_List ta_Len_If ta_Len_Set ta_Len_Binary ta_Len_Len ta_Number_Variable ta_Number_Let ta_Number_Call ta_Number_Map ta_Number_List ta_Number_If ta_Number_Set ta_Number_Binary ta_Number_Len ta_Text_Variable ta_Text_Let ta_Text_Call ta_Text_Map ta_Text_List ta_Text_If ta_Text_Set ta_Text_Binary ta_Text_Len

theorem new_cells5 (w : World) (x y z u v : Value) (t : TypeId) : let X := w.alloc (.cells #[x, y, z, u, v] t)
    X.cell? ⟨w.heap.size, 0, none⟩ = some x ∧ X.cell? ⟨w.heap.size, 1, none⟩ = some y ∧ X.cell? ⟨w.heap.size, 2, none⟩ = some z ∧ X.cell? ⟨w.heap.size, 3, none⟩ = some u ∧ X.cell? ⟨w.heap.size, 4, none⟩ = some v ∧ w.heap.size < X.heap.size := by
  have h : (w.alloc (Obj.cells #[x, y, z, u, v] t)).heap[w.heap.size]? = some (.cells #[x, y, z, u, v] t) := heap_alloc_new _ _
  refine ⟨?_, ?_, ?_, ?_, ?_, by simp⟩ <;> (unfold World.cell?; rw [h]; rfl)

set_option maxRecDepth 100000 in
set_option maxHeartbeats 2000000 in
theorem ce_let {k : Nat} (IH : ExprDo k) (sp : Nat) (x y : Ex) (nb : ByteArray) (at_ : Nat) (t0 t1 : TypeId) (x0 x1 : Value) (B : Nat) (fs : List (List UInt8 × Nat)) (sv : Value) (bs : List ByteArray) (w : World) (D D2 : Nat → Prop) (aN aA aW : Addr) (hS : StrsAt w D2 sv bs) (hA : AheadAt w B fs) (hN : ErrsN w aN aA aW) (hsx : szE x ≤ k) (hsy : szE y ≤ k) (hbx : bs.length + szE x ≤ 100000) (hby : bs.length + 1 + szE y ≤ 100000) (hX : RepE w D x (.iface t0 x0)) (hY : RepE w D y (.iface t1 x1)) :
    Calls Tryz.prog 173 #[.iface 401 (.agg #[.int .i64 ((sp : Nat) : Int), .string nb, .int .i64 ((at_ : Nat) : Int), .iface t0 x0, .iface t1 x1]), sv, .map (some B)] w fun r w' => r = .returned (errN (orE (nmE fs (namesOf bs) x) (nmE fs (namesOf bs ++ [nb.data.toList]) y)) aN aA aW) ∧ Below w.heap.size w w' := by
  have bel : Below w.heap.size w (w.alloc (Obj.cells #[.int .i64 ((sp : Nat) : Int), .string nb, .int .i64 ((at_ : Nat) : Int), .iface t0 x0, .iface t1 x1] 401)) := below1 w _
  obtain ⟨n9, n0, n1, n2, n3, n4⟩ := new_cells5 w (.int .i64 ((sp : Nat) : Int)) (.string nb) (.int .i64 ((at_ : Nat) : Int)) (.iface t0 x0) (.iface t1 x1) 401
  have ce := IH x (.iface t0 x0) sv bs B fs _ D D2 aN aA aW hsx hbx (hX.below bel) (hS.below bel) (hA.below bel) (hN.below bel)
  have CW : Hid (∀ w' (bel2 : Below w.heap.size w w'), Calls Tryz.prog 216 #[sv, nameV nb at_] w' fun e w'' => ∃ v', e = .returned v' ∧ StrsAt w'' (w'.heap.size ≤ ·) v' (bs ++ [nb]) ∧ Below w'.heap.size w' w'') := fun w' bel2 => within_any sv bs nb at_ w' D2 (hS.below bel2) (by omega)
  have hns : namesOf (bs ++ [nb]) = namesOf bs ++ [nb.data.toList] := by simp [namesOf]
  have CY : Hid (∀ w' (D4 : Nat → Prop) (v' : Value) (bel2 : Below w.heap.size w w'), StrsAt w' D4 v' (bs ++ [nb]) → Calls Tryz.prog 173 #[.iface t1 x1, v', .map (some B)] w' fun r w'' => r = .returned (errN (nmE fs (namesOf bs ++ [nb.data.toList]) y) aN aA aW) ∧ Below w'.heap.size w' w'') := fun w' D4 v' bel2 hs => by
    have := IH y (.iface t1 x1) v' (bs ++ [nb]) B fs w' D D4 aN aA aW hsy (by simp; omega) (hY.below bel2) hs (hA.below bel2) (hN.below bel2)
    rw [hns] at this
    exact this
  clear hX hY IH hS hA hN hns
  cases hm : nmE fs (namesOf bs) x with
  | some q =>
    obtain ⟨c, p⟩ := q
    rw [hm] at ce
    obtain ⟨a, ha⟩ : ∃ a, errN (some (c, p)) aN aA aW = wrongV p a := ⟨_, rfl⟩
    have e : errN (orE (some (c, p)) (nmE fs (namesOf bs ++ [nb.data.toList]) y)) aN aA aW = wrongV p a := ha
    rw [e]
    rw [ha] at ce
    clear hm ha e
    go_enter Tryz.func173, Tryz.ntmps173
    go_wp2_with (go_at_call 173; refine ce.mono ?_; rintro e w1 ⟨rfl, hb1⟩)
    go_ret
    exact ⟨rfl, bel.trans (hb1.mono bel.size)⟩
  | none =>
    rw [hm] at ce
    have e : orE none (nmE fs (namesOf bs ++ [nb.data.toList]) y) = nmE fs (namesOf bs ++ [nb.data.toList]) y := rfl
    rw [e]
    have e2 : errN none aN aA aW = .nilIface := rfl
    rw [e2] at ce
    generalize hR : errN (nmE fs (namesOf bs ++ [nb.data.toList]) y) aN aA aW = R at CY ⊢
    clear hm e e2 hR
    go_enter Tryz.func173, Tryz.ntmps173
    go_wp2_with fail
    refine ce.mono ?_
    rintro e w1 ⟨rfl, hb1⟩
    have bel1 := bel.trans (hb1.mono bel.size)
    have m0 : w1.cell? ⟨w.heap.size, 1, none⟩ = some (.string nb) := Below.cellv hb1 n0
    have m1 : w1.cell? ⟨w.heap.size, 2, none⟩ = some (.int .i64 ((at_ : Nat) : Int)) := Below.cellv hb1 n1
    have m3 : w1.cell? ⟨w.heap.size, 4, none⟩ = some (.iface t1 x1) := Below.cellv hb1 n3
    clear n9 n0 n1 n2 n3 n4 ce
    go_wp2_with fail
    go_region_held3 (fun w' => w'.cell? ⟨w.heap.size, 1, none⟩ = some (.string nb) ∧ w'.cell? ⟨w.heap.size, 2, none⟩ = some (.int .i64 ((at_ : Nat) : Int)) ∧ w'.cell? ⟨w.heap.size, 4, none⟩ = some (.iface t1 x1)) (first | go_keep | (refine ⟨Below.cellv hb2 ?_, Below.cellv hb2 ?_, Below.cellv hb2 ?_⟩ <;> assumption) | (refine ⟨Below.cellv hb3 ?_, Below.cellv hb3 ?_, Below.cellv hb3 ?_⟩ <;> (refine Below.cellv hb2 ?_) <;> assumption))
      ((first
        | (go_at_call 216; refine (CW.out _ ?_).mono ?_; (exact bel1.drew); rintro e w2 ⟨v', rfl, hs2, hb2⟩)
        | (go_at_call 173; refine (CY.out _ _ v' ?_ hs2).mono ?_; (exact bel1.drew.trans (hb2.mono bel1.size)); rintro e w3 ⟨rfl, hb3⟩)))
    all_goals go_wp2
    all_goals go_ret
    all_goals exact ⟨rfl, (bel1.drew.trans (hb2.mono bel1.size)).trans (hb3.mono (Nat.le_trans bel1.size hb2.size))⟩
end Go.Proofs.YtdiefbahmcihlaaGreatDoor
