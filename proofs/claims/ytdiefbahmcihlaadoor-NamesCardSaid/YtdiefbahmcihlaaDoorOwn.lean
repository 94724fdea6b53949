/-
  The call Names() of package stagehandlaw answers true, in whatever memory in which the nine error variables of package api hold what their initialisers lay: the bounds have their numbers, no two errors have the same text, and a Wrong unwraps to its cause and keeps its place.
  Conditions: the nine variables read as the row lists them (the card ties that to the program's text).
-/
import Derived.Test.YtdiefbahmcihlaaDoorCards
import Derived.Test.YtdiefbahmcihlaaDoorTie
import Derived.Test.YtdiefbahmcihlaaDoorWalk
import Derived.ProofKit
import Derived.LaidMore
import Derived.OpenShut
import Derived.Stop.Joined
import Derived.Stop.ErrReads
namespace Go.Proofs.YtdiefbahmcihlaaDoor
open Go.ChangeShapes Go.WideShapes Go.ChangeAt Go.WideMaps Go.WideElems Go.RowKit

theorem own : ownKnob Tryd.prog.godebug = none := by kernel_rfl
theorem star : "*" ++ "errors.errorString" = "*errors.errorString" := by decide
theorem row30 (u : TypeId) (h : Tryd.prog.typeName? 3 u = some "*errors.errorString") : u = 30 :=
  typeName_ptr_named (nm := "errors.errorString") (by rw [star]; kernel_rfl) (by kernel_rfl) (by decide) u (by rw [star]; exact h)
theorem cells66 : Tryd.prog.cellsOf 66 = 1 := by kernel_rfl
theorem cells9 : Tryd.prog.cellsOf 9 = 1 := by kernel_rfl

/-- The head of the list: the variable's cell, its pointer's text. -/
theorem head_of {n : String} {g : Nat} {text : List UInt8} {r : List (String × DataW Unit)} {W : World}
    (h : laidMet Tryd.prog ((n, .iface "*errors.errorString" (.ptr (.agg [.lit (.string text)]))) :: r) W)
    (hg : Tryd.prog.globalNamed n = some g) (ht : (Tryd.prog.globals[g]?).map (·.type) = some 23) :
    ∃ (a : Addr) (s : ByteArray), W.cell? ⟨g, 0, none⟩ = some (.iface 30 (.pointer (some a))) ∧ W.cell? a = some (.string s) ∧ s.data.toList = text := by
  obtain ⟨a, s, h1, h2, h3, _⟩ := laid_sentinel h hg ht Tryd.underlying23 row30 Tryd.underlying30 Tryd.underlying66 rfl rfl Tryd.underlying9 cells66 cells9
  exact ⟨a, s, by simpa using World.var?_cell hg h1 0, h2, h3⟩

/-- The nine texts. -/
def texts : List (List UInt8) := [[115, 116, 97, 103, 101, 104, 97, 110, 100, 58, 32, 97, 32, 112, 114, 111, 103, 114, 97, 109, 32, 97, 98, 111, 118, 101, 32, 105, 116, 115, 32, 98, 111, 117, 110, 100],
  [115, 116, 97, 103, 101, 104, 97, 110, 100, 58, 32, 97, 32, 116, 111, 107, 101, 110, 32, 119, 105, 116, 104, 32, 119, 104, 105, 99, 104, 32, 110, 111, 32, 112, 114, 111, 103, 114, 97, 109, 32, 103, 111, 101, 115, 32, 111, 110],
  [115, 116, 97, 103, 101, 104, 97, 110, 100, 58, 32, 116, 111, 111, 32, 109, 97, 110, 121, 32, 98, 114, 97, 99, 107, 101, 116, 115, 32, 105, 110, 32, 111, 110, 101, 32, 97, 110, 111, 116, 104, 101, 114],
  [115, 116, 97, 103, 101, 104, 97, 110, 100, 58, 32, 97, 32, 110, 97, 109, 101, 32, 116, 104, 97, 116, 32, 100, 111, 101, 115, 32, 110, 111, 116, 32, 109, 101, 97, 110, 32, 119, 104, 97, 116, 32, 105, 116, 32, 109, 117, 115, 116],
  [115, 116, 97, 103, 101, 104, 97, 110, 100, 58, 32, 97, 32, 110, 97, 109, 101, 32, 116, 104, 97, 116, 32, 105, 115, 32, 116, 104, 101, 114, 101, 32, 97, 108, 114, 101, 97, 100, 121],
  [115, 116, 97, 103, 101, 104, 97, 110, 100, 58, 32, 97, 32, 102, 117, 110, 99, 116, 105, 111, 110, 32, 119, 105, 116, 104, 32, 111, 116, 104, 101, 114, 32, 112, 97, 114, 97, 109, 101, 116, 101, 114, 115],
  [115, 116, 97, 103, 101, 104, 97, 110, 100, 58, 32, 105, 110, 105, 116, 44, 32, 117, 112, 100, 97, 116, 101, 32, 111, 114, 32, 118, 105, 101, 119, 32, 105, 115, 32, 109, 105, 115, 115, 105, 110, 103],
  [115, 116, 97, 103, 101, 104, 97, 110, 100, 58, 32, 115, 111, 109, 101, 116, 104, 105, 110, 103, 32, 99, 111, 117, 108, 100, 32, 110, 111, 116, 32, 98, 101, 32, 114, 101, 99, 107, 111, 110, 101, 100],
  [115, 116, 97, 103, 101, 104, 97, 110, 100, 58, 32, 116, 104, 101, 114, 101, 32, 105, 115, 32, 110, 111, 116, 104, 105, 110, 103, 32, 97, 116, 32, 116, 104, 105, 115, 32, 112, 97, 116, 104]]
theorem apart : (List.range 9).all (fun i => (List.range i).all fun j => !(texts[i]?.getD [] == texts[j]?.getD [])) = true := by decide +kernel

theorem differ {ss : List ByteArray} (h : ss.map (fun s => s.data.toList) = texts) (i j : Nat) (hj : j < i) (hi : i < 9) :
    ((ss[i]?.getD ByteArray.empty).toList == (ss[j]?.getD ByteArray.empty).toList) = false := by
  have len : ss.length = 9 := by
    have := congrArg List.length h
    simpa [texts] using this
  have at_ : ∀ k, k < 9 → (ss[k]?.getD ByteArray.empty).data.toList = texts[k]?.getD [] := fun k hk => by
    rw [← h]
    simp [List.getElem?_map, List.getElem?_eq_getElem (show k < ss.length by omega)]
  rw [ByteArray.toList_eq, ByteArray.toList_eq, at_ i hi, at_ j (by omega)]
  have a1 := List.all_eq_true.1 apart i (List.mem_range.2 hi)
  have a2 := List.all_eq_true.1 a1 j (List.mem_range.2 hj)
  simpa using a2

theorem door_met (os : Os) (args : Array Value) : laidMetH Tryd.prog Rows.namesRow.laid ((World.doorLaid Tryd.prog 400 os).forCall (fun _ _ => 0) ⟨#[], args, []⟩).memory :=
  laidMetH_of_parts3 (fuel := 8) (laidMet_of_run' 8 (by kernel_rfl) (by kernel_rfl)) (by kernel_rfl) (by kernel_rfl)

theorem walk {W : World} (hL : laidMetH Tryd.prog Rows.namesRow.laid W) : Calls Tryd.prog 3 #[] W fun e w' => e = .returned (.bool true) ∧ Below W.heap.size W w' := by
  rw [MakeChecks.laidMetH_plain _ _ _ (by kernel_rfl)] at hL
  obtain ⟨a0, s0, g0, c0, t0⟩ := head_of hL (g := 0) (by kernel_rfl) (by kernel_rfl)
  have h1 := laidMet.tail hL
  obtain ⟨a1, s1, g1, c1, t1⟩ := head_of h1 (g := 1) (by kernel_rfl) (by kernel_rfl)
  have h2 := laidMet.tail h1
  obtain ⟨a2, s2, g2, c2, t2⟩ := head_of h2 (g := 2) (by kernel_rfl) (by kernel_rfl)
  have h3 := laidMet.tail h2
  obtain ⟨a3, s3, g3, c3, t3⟩ := head_of h3 (g := 3) (by kernel_rfl) (by kernel_rfl)
  have h4 := laidMet.tail h3
  obtain ⟨a4, s4, g4, c4, t4⟩ := head_of h4 (g := 4) (by kernel_rfl) (by kernel_rfl)
  have h5 := laidMet.tail h4
  obtain ⟨a5, s5, g5, c5, t5⟩ := head_of h5 (g := 5) (by kernel_rfl) (by kernel_rfl)
  have h6 := laidMet.tail h5
  obtain ⟨a6, s6, g6, c6, t6⟩ := head_of h6 (g := 6) (by kernel_rfl) (by kernel_rfl)
  have h7 := laidMet.tail h6
  obtain ⟨a7, s7, g7, c7, t7⟩ := head_of h7 (g := 7) (by kernel_rfl) (by kernel_rfl)
  have h8 := laidMet.tail h7
  obtain ⟨a8, s8, g8, c8, t8⟩ := head_of h8 (g := 8) (by kernel_rfl) (by kernel_rfl)
  exact names_look a0 a1 a2 a3 a4 a5 a6 a7 a8 s0 s1 s2 s3 s4 s5 s6 s7 s8 W g0 c0 g1 c1 g2 c2 g3 c3 g4 c4 g5 c5 g6 c6 g7 c7 g8 c8
    (differ (by simp only [List.map_cons, List.map_nil, t0, t1, t2, t3, t4, t5, t6, t7, t8, texts]))

set_option maxRecDepth 100000 in
theorem lifted (os : Os) (started : os.Started) (H : Type) (enc : TypeId × Value → H) :
    ReturnsInHanded {} Tryd.checked os 3 .any (fun w args => (Rows.namesSpec.pre enc Tryd.prog Tryd.f3 [] false w args ∧ laidMetH Tryd.prog Rows.namesRow.laid w) ∧ sizedMet enc Tryd.prog Tryd.f3 (OpenSpec.ofChange Rows.namesSpec) false w args)
      (Rows.namesSpec.post enc Tryd.prog Tryd.f3 false true false false) := by
  refine returnsInHanded_of_change_and (C := Tryd.checked) (X := fun w _ => laidMetH Tryd.prog Rows.namesRow.laid w) (fun _ _ _ hh h => h.of_heap hh) own started (by kernel_rfl) Tryd.func3
    (ChangeSpec.witness_shaped (enc := enc) (C := Tryd.checked) (os := os) (X := fun w _ => laidMetH Tryd.prog Rows.namesRow.laid w) false (World.doorLaid Tryd.prog 400 os) #[] 8 rfl (World.shaped_of_RefB (by kernel_rfl) (by kernel_rfl)) (by kernel_rfl) (by kernel_rfl) (by kernel_rfl) (door_met os _)) ?_
  intro W base args ds gs before hval0 hW _ _ hL _
  have hW' := hW
  obtain ⟨p, q, hA0, hV, rfl, hfz, hnd⟩ := hW
  have hA : DataW.TrodAll enc Tryd.prog W 0 (fun _ => true) true Tryd.f3.params.toList args.toList ds p := hA0
  rw [Tryd.params3] at hA
  obtain ⟨hargs, rfl, rfl⟩ := trodAll_none hA
  obtain rfl : args = #[] := by cases args; simp_all
  obtain ⟨rfl, rfl⟩ := trodVars_none hV
  clear hA0 hval0
  simp only [List.append_nil] at hW'
  refine (walk hL).mono fun e W' ⟨he, hb⟩ => ?_
  subst he
  refine ⟨_, rfl, _, _, _, [], [], [], hW', ?_, ?_, ?_, hb.frame _, fun h => by cases h⟩
  · exact trodAll_mk1 (shut_bool Tryd.underlying4 true)
  · rfl
  · rfl

theorem said : Rows.NamesSaid :=
  OpenClaim.holds_of_wide 3 Tryd.f3 rfl rfl rfl rfl rfl rfl rfl ⟨rfl, rfl, rfl, rfl, rfl⟩ rfl rfl rfl rfl rfl (by kernel_rfl) Tryd.func3 (by kernel_rfl)
    (of_decide_eq_true (by kernel_rfl)) (by unfold Func.isWrapper; rw [if_neg (of_decide_eq_false (by kernel_rfl))]; exact ⟨rfl, rfl⟩)
    (fun os started H enc _ => lifted os started H enc)

theorem plain (f : FuncId) (fn : Func) (hf : Tryd.pinned.checked.prog.funcNamed "stagehand/stagehandlaw.Names" = some f) (hfn : Tryd.pinned.checked.prog.funcs[f]? = some fn) :
    true = Tryd.pinned.checked.prog.looks [] ∧ ∀ (j : Nat) t, fn.params[j]? = some t → Tryd.pinned.checked.prog.wantsStandIn t = false := by
  obtain rfl : f = 3 := Option.some.inj ((show Tryd.prog.funcNamed "stagehand/stagehandlaw.Names" = some 3 by kernel_rfl).symm.trans hf) |>.symm
  obtain rfl : fn = Tryd.f3 := (Option.some.inj (Tryd.func3.symm.trans hfn)).symm
  refine ⟨by kernel_rfl, fun j t ht => ?_⟩
  rw [Tryd.params3] at ht
  simp at ht

theorem names_card : Rows.NamesCardSaid :=
  Claim7.holds_tied_plain_at .later [] _ _ _ _ said (fun _ h => by cases h) (by kernel_rfl) (fun _ h => by cases h) names_row_tie rfl ⟨rfl, rfl⟩ (by kernel_rfl) rfl plain (by kernel_rfl)
#print axioms names_card
end Go.Proofs.YtdiefbahmcihlaaDoor
