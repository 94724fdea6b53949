/-
  checkExpr at len, map, call and let.
-/
import Derived.Test.YtdiefbahmcihlaaGreatDoorNamF
namespace Go.Proofs.YtdiefbahmcihlaaGreatDoor
open Go.RowKit
attribute [local go_sem ↓] Go.wp_at_zero Go.wp_at_succ
attribute [local go_sem] ta_Variable_Variable ta_Let_Variable ta_Let_Let ta_Call_Variable ta_Call_Let ta_Call_Call ta_Map_Variable ta_Map_Let ta_Map_Call ta_Map_Map ta_List_Variable ta_List_Let ta_List_Call ta_List_Map ta_List_List ta_If_Variable ta_If_Let ta_If_Call ta_If_Map ta_If_List ta_If_If ta_Set_Variable ta_Set_Let ta_Set_Call ta_Set_Map ta_Set_List ta_Set_If ta_Set_Set ta_Binary_Variable ta_Binary_Let ta_Binary_Call ta_Binary_Map ta_Binary_List ta_Binary_If ta_Binary_Set ta_Binary_Binary ta_Len_Variable ta_Len_Let ta_Len_Call ta_Len_Map ta_Len_List ta_Len_If ta_Len_Set ta_Len_Binary ta_Len_Len ta_Number_Variable ta_Number_Let ta_Number_Call ta_Number_Map ta_Number_List ta_Number_If ta_Number_Set ta_Number_Binary ta_Number_Len ta_Text_Variable ta_Text_Let ta_Text_Call ta_Text_Map ta_Text_List ta_Text_If ta_Text_Set ta_Text_Binary ta_Text_Len

theorem new_cells4 (w : World) (x y z u : Value) (t : TypeId) : let X := w.alloc (.cells #[x, y, z, u] t)
    X.cell? ⟨w.heap.size, 0, none⟩ = some x ∧ X.cell? ⟨w.heap.size, 1, none⟩ = some y ∧ X.cell? ⟨w.heap.size, 2, none⟩ = some z ∧ X.cell? ⟨w.heap.size, 3, none⟩ = some u ∧ w.heap.size < X.heap.size := by
  have h : (w.alloc (Obj.cells #[x, y, z, u] t)).heap[w.heap.size]? = some (.cells #[x, y, z, u] t) := heap_alloc_new _ _
  refine ⟨?_, ?_, ?_, ?_, by simp⟩ <;> (unfold World.cell?; rw [h]; rfl)

set_option maxRecDepth 100000 in
set_option maxHeartbeats 1000000 in
theorem ce_len {k : Nat} (IH : ExprDo k) (sp : Nat) (x : Ex) (t0 : TypeId) (x0 : Value) (B : Nat) (fs : List (List UInt8 × Nat)) (sv : Value) (bs : List ByteArray) (w : World) (D D2 : Nat → Prop) (aN aA aW : Addr) (hS : StrsAt w D2 sv bs) (hA : AheadAt w B fs) (hN : ErrsN w aN aA aW) (hsz : szE x ≤ k) (hb : bs.length + szE x ≤ 100000) (hE : RepE w D x (.iface t0 x0)) :
    Calls Tryz.prog 173 #[.iface 419 (.agg #[.int .i64 ((sp : Nat) : Int), .iface t0 x0]), sv, .map (some B)] w fun r w' => r = .returned (errN (nmE fs (namesOf bs) x) aN aA aW) ∧ Below w.heap.size w w' := by
  have bel : Below w.heap.size w (w.alloc (Obj.cells #[.int .i64 ((sp : Nat) : Int), .iface t0 x0] 419)) := below1 w _
  have ce := IH x (.iface t0 x0) sv bs B fs _ D D2 aN aA aW hsz hb (hE.below bel) (hS.below bel) (hA.below bel) (hN.below bel)
  clear hE IH
  go_enter Tryz.func173, Tryz.ntmps173
  go_wp2_with (go_at_call 173; refine ce.mono ?_; rintro e w1 ⟨rfl, hb1⟩)
  go_ret
  exact ⟨rfl, bel.trans (hb1.mono bel.size)⟩

set_option maxRecDepth 100000 in
set_option maxHeartbeats 1000000 in
theorem ce_map {k : Nat} (IH : ExprDo k) (sp : Nat) (x : Ex) (nb : ByteArray) (at_ : Nat) (t0 : TypeId) (x0 : Value) (B : Nat) (fs : List (List UInt8 × Nat)) (sv : Value) (bs : List ByteArray) (w : World) (D D2 : Nat → Prop) (aN aA aW : Addr) (hS : StrsAt w D2 sv bs) (hA : AheadAt w B fs) (hN : ErrsN w aN aA aW) (hnb : nb.size ≤ 2000) (hsz : szE x ≤ k) (hb : bs.length + szE x ≤ 100000) (hE : RepE w D x (.iface t0 x0)) :
    Calls Tryz.prog 173 #[.iface 408 (.agg #[.int .i64 ((sp : Nat) : Int), .string nb, .int .i64 ((at_ : Nat) : Int), .iface t0 x0]), sv, .map (some B)] w fun r w' => r = .returned (errN (orE (callErr fs nb.data.toList at_ 1) (nmE fs (namesOf bs) x)) aN aA aW) ∧ Below w.heap.size w w' := by
  have bel : Below w.heap.size w (w.alloc (Obj.cells #[.int .i64 ((sp : Nat) : Int), .string nb, .int .i64 ((at_ : Nat) : Int), .iface t0 x0] 408)) := below1 w _
  obtain ⟨n0, n1, n2, n3, n4⟩ := new_cells4 w (.int .i64 ((sp : Nat) : Int)) (.string nb) (.int .i64 ((at_ : Nat) : Int)) (.iface t0 x0) 408
  have ck := check_any B fs nb at_ 1 _ aN aA aW (hA.below bel) (hN.below bel) hnb
  have ce := fun w' (bel2 : Below w.heap.size w w') => IH x (.iface t0 x0) sv bs B fs w' D D2 aN aA aW hsz hb (hE.below bel2) (hS.below bel2) (hA.below bel2) (hN.below bel2)
  have CE : Hid (∀ w' (bel2 : Below w.heap.size w w'), Calls Tryz.prog 173 #[.iface t0 x0, sv, .map (some B)] w' fun r w'' => r = .returned (errN (nmE fs (namesOf bs) x) aN aA aW) ∧ Below w'.heap.size w' w'') := ce
  clear hE IH ce hS hA hN
  cases hc : callErr fs nb.data.toList at_ 1 with
  | some y =>
    obtain ⟨c, p⟩ := y
    rw [hc] at ck
    obtain ⟨a, ha⟩ : ∃ a, errN (some (c, p)) aN aA aW = wrongV p a := ⟨_, rfl⟩
    have e : errN (orE (some (c, p)) (nmE fs (namesOf bs) x)) aN aA aW = wrongV p a := ha
    rw [e]
    rw [ha] at ck
    clear hc ha e
    go_enter Tryz.func173, Tryz.ntmps173
    go_wp2_with (go_at_call 217; refine ck.mono ?_; rintro e w1 ⟨rfl, hb1⟩)
    go_ret
    exact ⟨rfl, bel.trans (hb1.mono bel.size)⟩
  | none =>
    rw [hc] at ck
    have e : orE none (nmE fs (namesOf bs) x) = nmE fs (namesOf bs) x := rfl
    rw [e]
    have e2 : errN none aN aA aW = .nilIface := rfl
    rw [e2] at ck
    clear hc e e2
    go_enter Tryz.func173, Tryz.ntmps173
    go_wp2_with fail
    refine ck.mono ?_
    rintro e w1 ⟨rfl, hb1⟩
    have bel1 := bel.trans (hb1.mono bel.size)
    have m3 : w1.cell? ⟨w.heap.size, 3, none⟩ = some (.iface t0 x0) := Below.cellv hb1 n3
    clear n0 n1 n2 n3 n4 ck
    go_wp2_with (go_at_call 173; refine (CE.out _ bel1).mono ?_; rintro e w2 ⟨rfl, hb2⟩)
    go_ret
    exact ⟨rfl, bel1.trans (hb2.mono bel1.size)⟩

set_option maxRecDepth 100000 in
set_option maxHeartbeats 1000000 in
theorem ce_call {k : Nat} (IH : ExprDo k) (sp : Nat) (ks : List Ex) (nb : ByteArray) (at_ : Nat) (ad : Option Addr) (cap : Nat) (vs : List Value) (D3 : Nat → Prop) (B : Nat) (fs : List (List UInt8 × Nat)) (sv : Value) (bs : List ByteArray) (w : World) (D D2 : Nat → Prop) (aN aA aW : Addr) (hS : StrsAt w D2 sv bs) (hA : AheadAt w B fs) (hN : ErrsN w aN aA aW) (hnb : nb.size ≤ 2000) (hsz : szEs ks ≤ k + 1) (hb : bs.length + szEs ks ≤ 100000) (hR : RowAt w D3 81 1 (.slice ad vs.length cap) vs.length vs) (hE : RepEs w D ks vs) :
    Calls Tryz.prog 173 #[.iface 404 (.agg #[.int .i64 ((sp : Nat) : Int), .string nb, .int .i64 ((at_ : Nat) : Int), .slice ad vs.length cap]), sv, .map (some B)] w fun r w' => r = .returned (errN (orE (callErr fs nb.data.toList at_ vs.length) (nmEs fs (namesOf bs) ks)) aN aA aW) ∧ Below w.heap.size w w' := by
  have bel : Below w.heap.size w (w.alloc (Obj.cells #[.int .i64 ((sp : Nat) : Int), .string nb, .int .i64 ((at_ : Nat) : Int), .slice ad vs.length cap] 404)) := below1 w _
  obtain ⟨n0, n1, n2, n3, n4⟩ := new_cells4 w (.int .i64 ((sp : Nat) : Int)) (.string nb) (.int .i64 ((at_ : Nat) : Int)) (.slice ad vs.length cap) 404
  have ck := check_any B fs nb at_ vs.length _ aN aA aW (hA.below bel) (hN.below bel) hnb
  have ce := fun w' (bel2 : Below w.heap.size w w') => checkExprs_of IH ks (.slice ad vs.length cap) sv vs bs B fs w' D D2 D3 aN aA aW hsz hb (row_below hR bel2) (hE.below bel2) (hS.below bel2) (hA.below bel2) (hN.below bel2)
  have CE : Hid (∀ w' (bel2 : Below w.heap.size w w'), Calls Tryz.prog 218 #[.slice ad vs.length cap, sv, .map (some B)] w' fun r w'' => r = .returned (errN (nmEs fs (namesOf bs) ks) aN aA aW) ∧ Below w'.heap.size w' w'') := ce
  clear hE IH ce hS hA hN hR
  cases hc : callErr fs nb.data.toList at_ vs.length with
  | some y =>
    obtain ⟨c, p⟩ := y
    rw [hc] at ck
    obtain ⟨a, ha⟩ : ∃ a, errN (some (c, p)) aN aA aW = wrongV p a := ⟨_, rfl⟩
    have e : errN (orE (some (c, p)) (nmEs fs (namesOf bs) ks)) aN aA aW = wrongV p a := ha
    rw [e]
    rw [ha] at ck
    clear hc ha e
    go_enter Tryz.func173, Tryz.ntmps173
    go_wp2_with (go_at_call 217; refine ck.mono ?_; rintro e w1 ⟨rfl, hb1⟩)
    go_ret
    exact ⟨rfl, bel.trans (hb1.mono bel.size)⟩
  | none =>
    rw [hc] at ck
    have e : orE none (nmEs fs (namesOf bs) ks) = nmEs fs (namesOf bs) ks := rfl
    rw [e]
    have e2 : errN none aN aA aW = .nilIface := rfl
    rw [e2] at ck
    clear hc e e2
    go_enter Tryz.func173, Tryz.ntmps173
    go_wp2_with fail
    refine ck.mono ?_
    rintro e w1 ⟨rfl, hb1⟩
    have bel1 := bel.trans (hb1.mono bel.size)
    have m3 : w1.cell? ⟨w.heap.size, 3, none⟩ = some (.slice ad vs.length cap) := Below.cellv hb1 n3
    clear n0 n1 n2 n3 n4 ck
    go_wp2_with (go_at_call 218; refine (CE.out _ bel1).mono ?_; rintro e w2 ⟨rfl, hb2⟩)
    go_ret
    exact ⟨rfl, bel1.trans (hb2.mono bel1.size)⟩
end Go.Proofs.YtdiefbahmcihlaaGreatDoor
