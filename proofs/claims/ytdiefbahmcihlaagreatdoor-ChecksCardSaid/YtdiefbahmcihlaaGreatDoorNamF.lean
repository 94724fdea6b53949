/-
  checkExpr at forms whose exprs are gone through one after the other.
-/
import Derived.Test.YtdiefbahmcihlaaGreatDoorNamE
namespace Go.Proofs.YtdiefbahmcihlaaGreatDoor
open Go.RowKit
attribute [local go_sem ↓] Go.wp_at_zero Go.wp_at_succ
attribute [local go_sem] ta_Variable_Variable ta_Let_Variable ta_Let_Let ta_Call_Variable ta_Call_Let ta_Call_Call ta_Map_Variable ta_Map_Let ta_Map_Call ta_Map_Map ta_List_Variable ta_List_Let ta_List_Call ta_List_Map ta_List_List ta_If_Variable ta_If_Let ta_If_Call ta_If_Map ta_If_List ta_If_If ta_Set_Variable ta_Set_Let ta_Set_Call ta_Set_Map ta_Set_List ta_Set_If ta_Set_Set ta_Binary_Variable ta_Binary_Let ta_Binary_Call ta_Binary_Map ta_Binary_List ta_Binary_If ta_Binary_Set ta_Binary_Binary ta_Len_Variable ta_Len_Let ta_Len_Call ta_Len_Map ta_Len_List ta_Len_If ta_Len_Set ta_Len_Binary ta_Len_Len ta_Number_Variable ta_Number_Let ta_Number_Call ta_Number_Map ta_Number_List ta_Number_If ta_Number_Set ta_Number_Binary ta_Number_Len ta_Text_Variable ta_Text_Let ta_Text_Call ta_Text_Map ta_Text_List ta_Text_If ta_Text_Set ta_Text_Binary ta_Text_Len
theorem lit_row (w : World) (cs : Array Value) (g n : Nat) (hg : g = w.heap.size) (hm : n ≤ maxLen) (hs : cs.size = n * 1) : RowAt (w.alloc (.cells cs 81)) (fun _ => True) 81 1 (.slice (some ⟨g, 0, none⟩) n n) n cs.toList := by
  subst hg
  refine ⟨by simp [hs], Or.inr ⟨w.heap.size, n, cs, rfl, trivial, heap_alloc_new _ _, Nat.le_refl _, hm, hs, ?_⟩⟩
  rw [List.take_of_length_le (by simp [hs])]

set_option maxRecDepth 100000 in
set_option maxHeartbeats 1000000 in
theorem ce_list {k : Nat} (IH : ExprDo k) (sp : Nat) (ks : List Ex) (ad : Option Addr) (len cap : Nat) (vs : List Value) (D3 : Nat → Prop) (B : Nat) (fs : List (List UInt8 × Nat)) (sv : Value) (bs : List ByteArray) (w : World) (D D2 : Nat → Prop) (aN aA aW : Addr) (hS : StrsAt w D2 sv bs) (hA : AheadAt w B fs) (hN : ErrsN w aN aA aW) (hsz : szEs ks ≤ k + 1) (hb : bs.length + szEs ks ≤ 100000) (hR : RowAt w D3 81 1 (.slice ad len cap) vs.length vs) (hE : RepEs w D ks vs) :
    Calls Tryz.prog 173 #[.iface 410 (.agg #[.int .i64 ((sp : Nat) : Int), .slice ad len cap]), sv, .map (some B)] w fun r w' => r = .returned (errN (nmEs fs (namesOf bs) ks) aN aA aW) ∧ Below w.heap.size w w' := by
  have bel : Below w.heap.size w (w.alloc (Obj.cells #[.int .i64 ((sp : Nat) : Int), .slice ad len cap] 410)) := below1 w _
  have ce := checkExprs_of IH ks (.slice ad len cap) sv vs bs B fs _ D D2 D3 aN aA aW hsz hb (row_below hR bel) (hE.below bel) (hS.below bel) (hA.below bel) (hN.below bel)
  clear hR hE
  go_enter Tryz.func173, Tryz.ntmps173
  go_wp2_with (go_at_call 218; refine ce.mono ?_; rintro e w1 ⟨rfl, hb1⟩)
  go_ret
  exact ⟨rfl, bel.trans (hb1.mono bel.size)⟩
set_option maxRecDepth 100000 in
set_option maxHeartbeats 1000000 in
theorem ce_if {k : Nat} (IH : ExprDo k) (sp : Nat) (ks : List Ex) (t0 t1 t2 : TypeId) (x0 x1 x2 : Value) (B : Nat) (fs : List (List UInt8 × Nat)) (sv : Value) (bs : List ByteArray) (w : World) (D D2 : Nat → Prop) (aN aA aW : Addr) (hS : StrsAt w D2 sv bs) (hA : AheadAt w B fs) (hN : ErrsN w aN aA aW) (hsz : szEs ks ≤ k + 1) (hb : bs.length + szEs ks ≤ 100000) (hE : RepEs w D ks [.iface t0 x0, .iface t1 x1, .iface t2 x2]) :
    Calls Tryz.prog 173 #[.iface 412 (.agg #[.int .i64 ((sp : Nat) : Int), .iface t0 x0, .iface t1 x1, .iface t2 x2]), sv, .map (some B)] w fun r w' => r = .returned (errN (nmEs fs (namesOf bs) ks) aN aA aW) ∧ Below w.heap.size w w' := by
  have bel : Below w.heap.size w ((w.alloc (Obj.cells #[.int .i64 ((sp : Nat) : Int), .iface t0 x0, .iface t1 x1, .iface t2 x2] 412)).alloc (Obj.cells #[.iface t0 x0, .iface t1 x1, .iface t2 x2] 81)) := ((Below.refl _ _).alloc (Nat.le_refl _) _).alloc (by simp) _
  have hrow : RowAt ((w.alloc (Obj.cells #[.int .i64 ((sp : Nat) : Int), .iface t0 x0, .iface t1 x1, .iface t2 x2] 412)).alloc (Obj.cells #[.iface t0 x0, .iface t1 x1, .iface t2 x2] 81)) (fun _ => True) 81 1 (.slice (some ⟨w.heap.size + 1, 0, none⟩) 3 3) 3 [.iface t0 x0, .iface t1 x1, .iface t2 x2] := lit_row _ #[.iface t0 x0, .iface t1 x1, .iface t2 x2] (w.heap.size + 1) 3 (by simp) (by unfold maxLen; decide) rfl
  have ce := checkExprs_of IH ks (.slice (some ⟨w.heap.size + 1, 0, none⟩) 3 3) sv [.iface t0 x0, .iface t1 x1, .iface t2 x2] bs B fs _ D D2 (fun _ => True) aN aA aW hsz hb hrow (hE.below bel) (hS.below bel) (hA.below bel) (hN.below bel)
  clear hrow hE
  go_enter Tryz.func173, Tryz.ntmps173
  go_wp2_with (go_at_call 218; refine ce.mono ?_; rintro e w1 ⟨rfl, hb1⟩)
  go_ret
  exact ⟨rfl, bel.trans (hb1.mono bel.size)⟩
set_option maxRecDepth 100000 in
set_option maxHeartbeats 1000000 in
theorem ce_set {k : Nat} (IH : ExprDo k) (sp : Nat) (ks : List Ex) (t0 t1 t2 : TypeId) (x0 x1 x2 : Value) (B : Nat) (fs : List (List UInt8 × Nat)) (sv : Value) (bs : List ByteArray) (w : World) (D D2 : Nat → Prop) (aN aA aW : Addr) (hS : StrsAt w D2 sv bs) (hA : AheadAt w B fs) (hN : ErrsN w aN aA aW) (hsz : szEs ks ≤ k + 1) (hb : bs.length + szEs ks ≤ 100000) (hE : RepEs w D ks [.iface t0 x0, .iface t1 x1, .iface t2 x2]) :
    Calls Tryz.prog 173 #[.iface 414 (.agg #[.int .i64 ((sp : Nat) : Int), .iface t0 x0, .iface t1 x1, .iface t2 x2]), sv, .map (some B)] w fun r w' => r = .returned (errN (nmEs fs (namesOf bs) ks) aN aA aW) ∧ Below w.heap.size w w' := by
  have bel : Below w.heap.size w ((w.alloc (Obj.cells #[.int .i64 ((sp : Nat) : Int), .iface t0 x0, .iface t1 x1, .iface t2 x2] 414)).alloc (Obj.cells #[.iface t0 x0, .iface t1 x1, .iface t2 x2] 81)) := ((Below.refl _ _).alloc (Nat.le_refl _) _).alloc (by simp) _
  have hrow : RowAt ((w.alloc (Obj.cells #[.int .i64 ((sp : Nat) : Int), .iface t0 x0, .iface t1 x1, .iface t2 x2] 414)).alloc (Obj.cells #[.iface t0 x0, .iface t1 x1, .iface t2 x2] 81)) (fun _ => True) 81 1 (.slice (some ⟨w.heap.size + 1, 0, none⟩) 3 3) 3 [.iface t0 x0, .iface t1 x1, .iface t2 x2] := lit_row _ #[.iface t0 x0, .iface t1 x1, .iface t2 x2] (w.heap.size + 1) 3 (by simp) (by unfold maxLen; decide) rfl
  have ce := checkExprs_of IH ks (.slice (some ⟨w.heap.size + 1, 0, none⟩) 3 3) sv [.iface t0 x0, .iface t1 x1, .iface t2 x2] bs B fs _ D D2 (fun _ => True) aN aA aW hsz hb hrow (hE.below bel) (hS.below bel) (hA.below bel) (hN.below bel)
  clear hrow hE
  go_enter Tryz.func173, Tryz.ntmps173
  go_wp2_with (go_at_call 218; refine ce.mono ?_; rintro e w1 ⟨rfl, hb1⟩)
  go_ret
  exact ⟨rfl, bel.trans (hb1.mono bel.size)⟩
set_option maxRecDepth 100000 in
set_option maxHeartbeats 1000000 in
theorem ce_binary {k : Nat} (IH : ExprDo k) (sp : Nat) (ks : List Ex) (ob : ByteArray) (t0 t1 : TypeId) (x0 x1 : Value) (B : Nat) (fs : List (List UInt8 × Nat)) (sv : Value) (bs : List ByteArray) (w : World) (D D2 : Nat → Prop) (aN aA aW : Addr) (hS : StrsAt w D2 sv bs) (hA : AheadAt w B fs) (hN : ErrsN w aN aA aW) (hsz : szEs ks ≤ k + 1) (hb : bs.length + szEs ks ≤ 100000) (hE : RepEs w D ks [.iface t0 x0, .iface t1 x1]) :
    Calls Tryz.prog 173 #[.iface 417 (.agg #[.int .i64 ((sp : Nat) : Int), .string ob, .iface t0 x0, .iface t1 x1]), sv, .map (some B)] w fun r w' => r = .returned (errN (nmEs fs (namesOf bs) ks) aN aA aW) ∧ Below w.heap.size w w' := by
  have bel : Below w.heap.size w ((w.alloc (Obj.cells #[.int .i64 ((sp : Nat) : Int), .string ob, .iface t0 x0, .iface t1 x1] 417)).alloc (Obj.cells #[.iface t0 x0, .iface t1 x1] 81)) := ((Below.refl _ _).alloc (Nat.le_refl _) _).alloc (by simp) _
  have hrow : RowAt ((w.alloc (Obj.cells #[.int .i64 ((sp : Nat) : Int), .string ob, .iface t0 x0, .iface t1 x1] 417)).alloc (Obj.cells #[.iface t0 x0, .iface t1 x1] 81)) (fun _ => True) 81 1 (.slice (some ⟨w.heap.size + 1, 0, none⟩) 2 2) 2 [.iface t0 x0, .iface t1 x1] := lit_row _ #[.iface t0 x0, .iface t1 x1] (w.heap.size + 1) 2 (by simp) (by unfold maxLen; decide) rfl
  have ce := checkExprs_of IH ks (.slice (some ⟨w.heap.size + 1, 0, none⟩) 2 2) sv [.iface t0 x0, .iface t1 x1] bs B fs _ D D2 (fun _ => True) aN aA aW hsz hb hrow (hE.below bel) (hS.below bel) (hA.below bel) (hN.below bel)
  clear hrow hE
  go_enter Tryz.func173, Tryz.ntmps173
  go_wp2_with (go_at_call 218; refine ce.mono ?_; rintro e w1 ⟨rfl, hb1⟩)
  go_ret
  exact ⟨rfl, bel.trans (hb1.mono bel.size)⟩
end Go.Proofs.YtdiefbahmcihlaaGreatDoor
