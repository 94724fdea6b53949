/-
  checkExpr, expr by expr.
-/
import Derived.Test.YtdiefbahmcihlaaGreatDoorNamA
namespace Go.Proofs.YtdiefbahmcihlaaGreatDoor
open Go.RowKit
attribute [local go_sem ↓] Go.wp_at_zero Go.wp_at_succ

theorem ta_Variable_Variable (x : Value) (w : World) : (Instr.typeAssert (.iface 399 x) 81 399 true).run Tryz.prog w = .ok (.tuple #[x, .bool true]) w := by kernel_rfl
theorem ta_Let_Variable (x : Value) (w : World) : (Instr.typeAssert (.iface 401 x) 81 399 true).run Tryz.prog w = .ok (.tuple #[.agg #[.int .i64 0, .string ⟨#[]⟩], .bool false]) w := by kernel_rfl
theorem ta_Let_Let (x : Value) (w : World) : (Instr.typeAssert (.iface 401 x) 81 401 true).run Tryz.prog w = .ok (.tuple #[x, .bool true]) w := by kernel_rfl
theorem ta_Call_Variable (x : Value) (w : World) : (Instr.typeAssert (.iface 404 x) 81 399 true).run Tryz.prog w = .ok (.tuple #[.agg #[.int .i64 0, .string ⟨#[]⟩], .bool false]) w := by kernel_rfl
theorem ta_Call_Let (x : Value) (w : World) : (Instr.typeAssert (.iface 404 x) 81 401 true).run Tryz.prog w = .ok (.tuple #[.agg #[.int .i64 0, .string ⟨#[]⟩, .int .i64 0, .nilIface, .nilIface], .bool false]) w := by kernel_rfl
theorem ta_Call_Call (x : Value) (w : World) : (Instr.typeAssert (.iface 404 x) 81 404 true).run Tryz.prog w = .ok (.tuple #[x, .bool true]) w := by kernel_rfl
theorem ta_Map_Variable (x : Value) (w : World) : (Instr.typeAssert (.iface 408 x) 81 399 true).run Tryz.prog w = .ok (.tuple #[.agg #[.int .i64 0, .string ⟨#[]⟩], .bool false]) w := by kernel_rfl
theorem ta_Map_Let (x : Value) (w : World) : (Instr.typeAssert (.iface 408 x) 81 401 true).run Tryz.prog w = .ok (.tuple #[.agg #[.int .i64 0, .string ⟨#[]⟩, .int .i64 0, .nilIface, .nilIface], .bool false]) w := by kernel_rfl
theorem ta_Map_Call (x : Value) (w : World) : (Instr.typeAssert (.iface 408 x) 81 404 true).run Tryz.prog w = .ok (.tuple #[.agg #[.int .i64 0, .string ⟨#[]⟩, .int .i64 0, .slice none 0 0], .bool false]) w := by kernel_rfl
theorem ta_Map_Map (x : Value) (w : World) : (Instr.typeAssert (.iface 408 x) 81 408 true).run Tryz.prog w = .ok (.tuple #[x, .bool true]) w := by kernel_rfl
theorem ta_List_Variable (x : Value) (w : World) : (Instr.typeAssert (.iface 410 x) 81 399 true).run Tryz.prog w = .ok (.tuple #[.agg #[.int .i64 0, .string ⟨#[]⟩], .bool false]) w := by kernel_rfl
theorem ta_List_Let (x : Value) (w : World) : (Instr.typeAssert (.iface 410 x) 81 401 true).run Tryz.prog w = .ok (.tuple #[.agg #[.int .i64 0, .string ⟨#[]⟩, .int .i64 0, .nilIface, .nilIface], .bool false]) w := by kernel_rfl
theorem ta_List_Call (x : Value) (w : World) : (Instr.typeAssert (.iface 410 x) 81 404 true).run Tryz.prog w = .ok (.tuple #[.agg #[.int .i64 0, .string ⟨#[]⟩, .int .i64 0, .slice none 0 0], .bool false]) w := by kernel_rfl
theorem ta_List_Map (x : Value) (w : World) : (Instr.typeAssert (.iface 410 x) 81 408 true).run Tryz.prog w = .ok (.tuple #[.agg #[.int .i64 0, .string ⟨#[]⟩, .int .i64 0, .nilIface], .bool false]) w := by kernel_rfl
theorem ta_List_List (x : Value) (w : World) : (Instr.typeAssert (.iface 410 x) 81 410 true).run Tryz.prog w = .ok (.tuple #[x, .bool true]) w := by kernel_rfl
theorem ta_If_Variable (x : Value) (w : World) : (Instr.typeAssert (.iface 412 x) 81 399 true).run Tryz.prog w = .ok (.tuple #[.agg #[.int .i64 0, .string ⟨#[]⟩], .bool false]) w := by kernel_rfl
theorem ta_If_Let (x : Value) (w : World) : (Instr.typeAssert (.iface 412 x) 81 401 true).run Tryz.prog w = .ok (.tuple #[.agg #[.int .i64 0, .string ⟨#[]⟩, .int .i64 0, .nilIface, .nilIface], .bool false]) w := by kernel_rfl
theorem ta_If_Call (x : Value) (w : World) : (Instr.typeAssert (.iface 412 x) 81 404 true).run Tryz.prog w = .ok (.tuple #[.agg #[.int .i64 0, .string ⟨#[]⟩, .int .i64 0, .slice none 0 0], .bool false]) w := by kernel_rfl
theorem ta_If_Map (x : Value) (w : World) : (Instr.typeAssert (.iface 412 x) 81 408 true).run Tryz.prog w = .ok (.tuple #[.agg #[.int .i64 0, .string ⟨#[]⟩, .int .i64 0, .nilIface], .bool false]) w := by kernel_rfl
theorem ta_If_List (x : Value) (w : World) : (Instr.typeAssert (.iface 412 x) 81 410 true).run Tryz.prog w = .ok (.tuple #[.agg #[.int .i64 0, .slice none 0 0], .bool false]) w := by kernel_rfl
theorem ta_If_If (x : Value) (w : World) : (Instr.typeAssert (.iface 412 x) 81 412 true).run Tryz.prog w = .ok (.tuple #[x, .bool true]) w := by kernel_rfl
theorem ta_Set_Variable (x : Value) (w : World) : (Instr.typeAssert (.iface 414 x) 81 399 true).run Tryz.prog w = .ok (.tuple #[.agg #[.int .i64 0, .string ⟨#[]⟩], .bool false]) w := by kernel_rfl
theorem ta_Set_Let (x : Value) (w : World) : (Instr.typeAssert (.iface 414 x) 81 401 true).run Tryz.prog w = .ok (.tuple #[.agg #[.int .i64 0, .string ⟨#[]⟩, .int .i64 0, .nilIface, .nilIface], .bool false]) w := by kernel_rfl
theorem ta_Set_Call (x : Value) (w : World) : (Instr.typeAssert (.iface 414 x) 81 404 true).run Tryz.prog w = .ok (.tuple #[.agg #[.int .i64 0, .string ⟨#[]⟩, .int .i64 0, .slice none 0 0], .bool false]) w := by kernel_rfl
theorem ta_Set_Map (x : Value) (w : World) : (Instr.typeAssert (.iface 414 x) 81 408 true).run Tryz.prog w = .ok (.tuple #[.agg #[.int .i64 0, .string ⟨#[]⟩, .int .i64 0, .nilIface], .bool false]) w := by kernel_rfl
theorem ta_Set_List (x : Value) (w : World) : (Instr.typeAssert (.iface 414 x) 81 410 true).run Tryz.prog w = .ok (.tuple #[.agg #[.int .i64 0, .slice none 0 0], .bool false]) w := by kernel_rfl
theorem ta_Set_If (x : Value) (w : World) : (Instr.typeAssert (.iface 414 x) 81 412 true).run Tryz.prog w = .ok (.tuple #[.agg #[.int .i64 0, .nilIface, .nilIface, .nilIface], .bool false]) w := by kernel_rfl
theorem ta_Set_Set (x : Value) (w : World) : (Instr.typeAssert (.iface 414 x) 81 414 true).run Tryz.prog w = .ok (.tuple #[x, .bool true]) w := by kernel_rfl
theorem ta_Binary_Variable (x : Value) (w : World) : (Instr.typeAssert (.iface 417 x) 81 399 true).run Tryz.prog w = .ok (.tuple #[.agg #[.int .i64 0, .string ⟨#[]⟩], .bool false]) w := by kernel_rfl
theorem ta_Binary_Let (x : Value) (w : World) : (Instr.typeAssert (.iface 417 x) 81 401 true).run Tryz.prog w = .ok (.tuple #[.agg #[.int .i64 0, .string ⟨#[]⟩, .int .i64 0, .nilIface, .nilIface], .bool false]) w := by kernel_rfl
theorem ta_Binary_Call (x : Value) (w : World) : (Instr.typeAssert (.iface 417 x) 81 404 true).run Tryz.prog w = .ok (.tuple #[.agg #[.int .i64 0, .string ⟨#[]⟩, .int .i64 0, .slice none 0 0], .bool false]) w := by kernel_rfl
theorem ta_Binary_Map (x : Value) (w : World) : (Instr.typeAssert (.iface 417 x) 81 408 true).run Tryz.prog w = .ok (.tuple #[.agg #[.int .i64 0, .string ⟨#[]⟩, .int .i64 0, .nilIface], .bool false]) w := by kernel_rfl
theorem ta_Binary_List (x : Value) (w : World) : (Instr.typeAssert (.iface 417 x) 81 410 true).run Tryz.prog w = .ok (.tuple #[.agg #[.int .i64 0, .slice none 0 0], .bool false]) w := by kernel_rfl
theorem ta_Binary_If (x : Value) (w : World) : (Instr.typeAssert (.iface 417 x) 81 412 true).run Tryz.prog w = .ok (.tuple #[.agg #[.int .i64 0, .nilIface, .nilIface, .nilIface], .bool false]) w := by kernel_rfl
theorem ta_Binary_Set (x : Value) (w : World) : (Instr.typeAssert (.iface 417 x) 81 414 true).run Tryz.prog w = .ok (.tuple #[.agg #[.int .i64 0, .nilIface, .nilIface, .nilIface], .bool false]) w := by kernel_rfl
theorem ta_Binary_Binary (x : Value) (w : World) : (Instr.typeAssert (.iface 417 x) 81 417 true).run Tryz.prog w = .ok (.tuple #[x, .bool true]) w := by kernel_rfl
theorem ta_Len_Variable (x : Value) (w : World) : (Instr.typeAssert (.iface 419 x) 81 399 true).run Tryz.prog w = .ok (.tuple #[.agg #[.int .i64 0, .string ⟨#[]⟩], .bool false]) w := by kernel_rfl
theorem ta_Len_Let (x : Value) (w : World) : (Instr.typeAssert (.iface 419 x) 81 401 true).run Tryz.prog w = .ok (.tuple #[.agg #[.int .i64 0, .string ⟨#[]⟩, .int .i64 0, .nilIface, .nilIface], .bool false]) w := by kernel_rfl
theorem ta_Len_Call (x : Value) (w : World) : (Instr.typeAssert (.iface 419 x) 81 404 true).run Tryz.prog w = .ok (.tuple #[.agg #[.int .i64 0, .string ⟨#[]⟩, .int .i64 0, .slice none 0 0], .bool false]) w := by kernel_rfl
theorem ta_Len_Map (x : Value) (w : World) : (Instr.typeAssert (.iface 419 x) 81 408 true).run Tryz.prog w = .ok (.tuple #[.agg #[.int .i64 0, .string ⟨#[]⟩, .int .i64 0, .nilIface], .bool false]) w := by kernel_rfl
theorem ta_Len_List (x : Value) (w : World) : (Instr.typeAssert (.iface 419 x) 81 410 true).run Tryz.prog w = .ok (.tuple #[.agg #[.int .i64 0, .slice none 0 0], .bool false]) w := by kernel_rfl
theorem ta_Len_If (x : Value) (w : World) : (Instr.typeAssert (.iface 419 x) 81 412 true).run Tryz.prog w = .ok (.tuple #[.agg #[.int .i64 0, .nilIface, .nilIface, .nilIface], .bool false]) w := by kernel_rfl
theorem ta_Len_Set (x : Value) (w : World) : (Instr.typeAssert (.iface 419 x) 81 414 true).run Tryz.prog w = .ok (.tuple #[.agg #[.int .i64 0, .nilIface, .nilIface, .nilIface], .bool false]) w := by kernel_rfl
theorem ta_Len_Binary (x : Value) (w : World) : (Instr.typeAssert (.iface 419 x) 81 417 true).run Tryz.prog w = .ok (.tuple #[.agg #[.int .i64 0, .string ⟨#[]⟩, .nilIface, .nilIface], .bool false]) w := by kernel_rfl
theorem ta_Len_Len (x : Value) (w : World) : (Instr.typeAssert (.iface 419 x) 81 419 true).run Tryz.prog w = .ok (.tuple #[x, .bool true]) w := by kernel_rfl
theorem ta_Number_Variable (x : Value) (w : World) : (Instr.typeAssert (.iface 427 x) 81 399 true).run Tryz.prog w = .ok (.tuple #[.agg #[.int .i64 0, .string ⟨#[]⟩], .bool false]) w := by kernel_rfl
theorem ta_Number_Let (x : Value) (w : World) : (Instr.typeAssert (.iface 427 x) 81 401 true).run Tryz.prog w = .ok (.tuple #[.agg #[.int .i64 0, .string ⟨#[]⟩, .int .i64 0, .nilIface, .nilIface], .bool false]) w := by kernel_rfl
theorem ta_Number_Call (x : Value) (w : World) : (Instr.typeAssert (.iface 427 x) 81 404 true).run Tryz.prog w = .ok (.tuple #[.agg #[.int .i64 0, .string ⟨#[]⟩, .int .i64 0, .slice none 0 0], .bool false]) w := by kernel_rfl
theorem ta_Number_Map (x : Value) (w : World) : (Instr.typeAssert (.iface 427 x) 81 408 true).run Tryz.prog w = .ok (.tuple #[.agg #[.int .i64 0, .string ⟨#[]⟩, .int .i64 0, .nilIface], .bool false]) w := by kernel_rfl
theorem ta_Number_List (x : Value) (w : World) : (Instr.typeAssert (.iface 427 x) 81 410 true).run Tryz.prog w = .ok (.tuple #[.agg #[.int .i64 0, .slice none 0 0], .bool false]) w := by kernel_rfl
theorem ta_Number_If (x : Value) (w : World) : (Instr.typeAssert (.iface 427 x) 81 412 true).run Tryz.prog w = .ok (.tuple #[.agg #[.int .i64 0, .nilIface, .nilIface, .nilIface], .bool false]) w := by kernel_rfl
theorem ta_Number_Set (x : Value) (w : World) : (Instr.typeAssert (.iface 427 x) 81 414 true).run Tryz.prog w = .ok (.tuple #[.agg #[.int .i64 0, .nilIface, .nilIface, .nilIface], .bool false]) w := by kernel_rfl
theorem ta_Number_Binary (x : Value) (w : World) : (Instr.typeAssert (.iface 427 x) 81 417 true).run Tryz.prog w = .ok (.tuple #[.agg #[.int .i64 0, .string ⟨#[]⟩, .nilIface, .nilIface], .bool false]) w := by kernel_rfl
theorem ta_Number_Len (x : Value) (w : World) : (Instr.typeAssert (.iface 427 x) 81 419 true).run Tryz.prog w = .ok (.tuple #[.agg #[.int .i64 0, .nilIface], .bool false]) w := by kernel_rfl
theorem ta_Text_Variable (x : Value) (w : World) : (Instr.typeAssert (.iface 429 x) 81 399 true).run Tryz.prog w = .ok (.tuple #[.agg #[.int .i64 0, .string ⟨#[]⟩], .bool false]) w := by kernel_rfl
theorem ta_Text_Let (x : Value) (w : World) : (Instr.typeAssert (.iface 429 x) 81 401 true).run Tryz.prog w = .ok (.tuple #[.agg #[.int .i64 0, .string ⟨#[]⟩, .int .i64 0, .nilIface, .nilIface], .bool false]) w := by kernel_rfl
theorem ta_Text_Call (x : Value) (w : World) : (Instr.typeAssert (.iface 429 x) 81 404 true).run Tryz.prog w = .ok (.tuple #[.agg #[.int .i64 0, .string ⟨#[]⟩, .int .i64 0, .slice none 0 0], .bool false]) w := by kernel_rfl
theorem ta_Text_Map (x : Value) (w : World) : (Instr.typeAssert (.iface 429 x) 81 408 true).run Tryz.prog w = .ok (.tuple #[.agg #[.int .i64 0, .string ⟨#[]⟩, .int .i64 0, .nilIface], .bool false]) w := by kernel_rfl
theorem ta_Text_List (x : Value) (w : World) : (Instr.typeAssert (.iface 429 x) 81 410 true).run Tryz.prog w = .ok (.tuple #[.agg #[.int .i64 0, .slice none 0 0], .bool false]) w := by kernel_rfl
theorem ta_Text_If (x : Value) (w : World) : (Instr.typeAssert (.iface 429 x) 81 412 true).run Tryz.prog w = .ok (.tuple #[.agg #[.int .i64 0, .nilIface, .nilIface, .nilIface], .bool false]) w := by kernel_rfl
theorem ta_Text_Set (x : Value) (w : World) : (Instr.typeAssert (.iface 429 x) 81 414 true).run Tryz.prog w = .ok (.tuple #[.agg #[.int .i64 0, .nilIface, .nilIface, .nilIface], .bool false]) w := by kernel_rfl
theorem ta_Text_Binary (x : Value) (w : World) : (Instr.typeAssert (.iface 429 x) 81 417 true).run Tryz.prog w = .ok (.tuple #[.agg #[.int .i64 0, .string ⟨#[]⟩, .nilIface, .nilIface], .bool false]) w := by kernel_rfl
theorem ta_Text_Len (x : Value) (w : World) : (Instr.typeAssert (.iface 429 x) 81 419 true).run Tryz.prog w = .ok (.tuple #[.agg #[.int .i64 0, .nilIface], .bool false]) w := by kernel_rfl
attribute [local go_sem] ta_Variable_Variable ta_Let_Variable ta_Let_Let ta_Call_Variable ta_Call_Let ta_Call_Call ta_Map_Variable ta_Map_Let ta_Map_Call ta_Map_Map ta_List_Variable ta_List_Let ta_List_Call ta_List_Map ta_List_List ta_If_Variable ta_If_Let ta_If_Call ta_If_Map ta_If_List ta_If_If ta_Set_Variable ta_Set_Let ta_Set_Call ta_Set_Map ta_Set_List ta_Set_If ta_Set_Set ta_Binary_Variable ta_Binary_Let ta_Binary_Call ta_Binary_Map ta_Binary_List ta_Binary_If ta_Binary_Set ta_Binary_Binary ta_Len_Variable ta_Len_Let ta_Len_Call ta_Len_Map ta_Len_List ta_Len_If ta_Len_Set ta_Len_Binary ta_Len_Len ta_Number_Variable ta_Number_Let ta_Number_Call ta_Number_Map ta_Number_List ta_Number_If ta_Number_Set ta_Number_Binary ta_Number_Len ta_Text_Variable ta_Text_Let ta_Text_Call ta_Text_Map ta_Text_List ta_Text_If ta_Text_Set ta_Text_Binary ta_Text_Len

set_option maxRecDepth 100000 in
set_option maxHeartbeats 1000000 in
theorem ce_num (sp : Nat) (x : Int) (sv : Value) (B : Nat) (w : World) :
    Calls Tryz.prog 173 #[.iface 427 (.agg #[.int .i64 ((sp : Nat) : Int), .int .i64 x]), sv, .map (some B)] w fun r w' => r = .returned .nilIface ∧ w' = w := by
  go_enter Tryz.func173, Tryz.ntmps173
  go_wp2
  go_ret
  exact ⟨rfl, rfl⟩
set_option maxRecDepth 100000 in
set_option maxHeartbeats 1000000 in
theorem ce_txt (sp : Nat) (b : ByteArray) (sv : Value) (B : Nat) (w : World) :
    Calls Tryz.prog 173 #[.iface 429 (.agg #[.int .i64 ((sp : Nat) : Int), .string b]), sv, .map (some B)] w fun r w' => r = .returned .nilIface ∧ w' = w := by
  go_enter Tryz.func173, Tryz.ntmps173
  go_wp2
  go_ret
  exact ⟨rfl, rfl⟩
theorem place_any (z : Int) (w : World) : Calls Tryz.prog 215 #[.int .i64 z] w fun e w' => e = .returned (.int .i64 z) ∧ w' = w := by
  go_enter Tryz.func215, Tryz.ntmps215
  go_wp2
  go_ret
  exact ⟨rfl, rfl⟩
set_option maxRecDepth 100000 in
set_option maxHeartbeats 1000000 in
theorem ce_var (nb : ByteArray) (a : Nat) (sv : Value) (bs : List ByteArray) (B : Nat) (w : World) (D : Nat → Prop) (aN aA aW : Addr) (hS : StrsAt w D sv bs) (hn : bs.length ≤ 100000) (hN : ErrsN w aN aA aW) :
    Calls Tryz.prog 173 #[.iface 399 (.agg #[.int .i64 ((a : Nat) : Int), .string nb]), sv, .map (some B)] w fun r w' => r = .returned (if hasB bs nb then .nilIface else wrongV a aN) ∧ Below w.heap.size w w' := by
  have cc := fun w h => contains_any sv bs nb w D h hn
  have eN := hN.eN
  have hl := cell_lt eN
  have hS' : StrsAt (w.alloc (Obj.cells #[.int .i64 ((a : Nat) : Int), .string nb] 399)) D sv bs := hS.below (below1 w _)
  cases hb : hasB bs nb with
  | true =>
    rw [hb] at cc
    go_enter Tryz.func173, Tryz.ntmps173
    go_wp2_with (go_at_call 172; refine (cc _ hS').mono ?_; rintro e w1 ⟨rfl, rfl⟩)
    go_ret
    exact ⟨rfl, below1 w _⟩
  | false =>
    rw [hb] at cc
    go_enter Tryz.func173, Tryz.ntmps173
    go_wp2_with (go_at_call 172; refine (cc _ hS').mono ?_; rintro e w1 ⟨rfl, rfl⟩)
    go_quiet ((go_at_call 215; refine Calls.quiet_of_same (place_any _ _)))
    go_wp2
    go_ret
    exact ⟨rfl, drawn (below1 w _) _⟩
end Go.Proofs.YtdiefbahmcihlaaGreatDoor
