/-
  DERIVED. GIVEN WITH THE SEED: THE CARDS: each row of YtifhgjpglicjbaaGreatDoorRows.lean that lists a variable, with what it lists TIED to the program's text (the seventh form; the later family's looks); each row that meets fmt, with fmt's text TOLD by the authors' own Lean function (tested against real Go, not proved from fmt's source: count such statements apart). THE CARD IS WHAT COUNTS. Prove the row's statement (the work); the ties are given (YtifhgjpglicjbaaGreatDoorTie.lean); close each card by the builder's one call (the guide's Derived/Test/ToyasCard.lean, 'card_holds'). Laid BY PROGRAM, IN A SANDBOX (cutbox-door.mjs). By AI agents, Wed Nov 11 2026. No macro, syntax, notation, axiom, sorry.
-/
import Derived.Test.YtifhgjpglicjbaaGreatDoorRows
import GoSem.ClaimSeven
namespace Go.Proofs.YtifhgjpglicjbaaGreatDoor
namespace Rows

/-- THE TIED CARD OF 'stagehandkeep.Sums'. -/
def sumsCard : Claim7 := { stood := { row := sumsRow, standIns := [], harness := (true, "00db1b8cf8d0032aa21a79c2decaf74c2ee6e41ac642ba195e86f29bcbeabce7"), looks := true }, kinds := [], alts := [], laidByText := true, laidKinds := [.data, .data, .data, .handle, .sentinel, .sentinel, .sentinel, .sentinel, .sentinel, .sentinel, .sentinel, .sentinel, .sentinel, .sentinel], laidTests := true, laidLooks := .later }
def SumsCardSaid : Prop := Claim7.holds Tryz.pinned (.plain (OpenSpec.ofChange sumsSpec)) sumsCard

/-- THE TIED CARD OF 'stagehandkeep.Back'. -/
def backCard : Claim7 := { stood := { row := backRow, standIns := [], harness := (true, "00db1b8cf8d0032aa21a79c2decaf74c2ee6e41ac642ba195e86f29bcbeabce7"), looks := true }, kinds := [], alts := [], laidByText := true, laidKinds := [.data, .data, .data, .handle, .sentinel, .sentinel, .sentinel, .sentinel, .sentinel, .sentinel, .sentinel, .sentinel, .sentinel, .sentinel], laidTests := true, laidLooks := .later }
def BackCardSaid : Prop := Claim7.holds Tryz.pinned (.plain (OpenSpec.ofChange backSpec)) backCard

/-- THE TIED CARD OF 'stagehandkeep.Moved'. -/
def movedCard : Claim7 := { stood := { row := movedRow, standIns := [], harness := (true, "00db1b8cf8d0032aa21a79c2decaf74c2ee6e41ac642ba195e86f29bcbeabce7"), looks := true }, kinds := [], alts := [], laidByText := true, laidKinds := [.data, .data, .data, .handle, .sentinel, .sentinel, .sentinel, .sentinel, .sentinel, .sentinel, .sentinel, .sentinel, .sentinel, .sentinel], laidTests := true, laidLooks := .later }
def MovedCardSaid : Prop := Claim7.holds Tryz.pinned (.plain (OpenSpec.ofChange movedSpec)) movedCard

/-- THE TIED CARD OF 'stagehandkeep.Eager'. -/
def eagerCard : Claim7 := { stood := { row := eagerRow, standIns := [], harness := (true, "00db1b8cf8d0032aa21a79c2decaf74c2ee6e41ac642ba195e86f29bcbeabce7"), looks := true }, kinds := [], alts := [], laidByText := true, laidKinds := [.data, .data, .data, .handle, .sentinel, .sentinel, .sentinel, .sentinel, .sentinel, .sentinel, .sentinel, .sentinel, .sentinel, .sentinel], laidTests := true, laidLooks := .later }
def EagerCardSaid : Prop := Claim7.holds Tryz.pinned (.plain (OpenSpec.ofChange eagerSpec)) eagerCard

/-- THE TIED CARD OF 'stagehandkeep.Bubbled'. -/
def bubbledCard : Claim7 := { stood := { row := bubbledRow, standIns := [], harness := (true, "00db1b8cf8d0032aa21a79c2decaf74c2ee6e41ac642ba195e86f29bcbeabce7"), looks := true }, kinds := [], alts := [], laidByText := true, laidKinds := [.data, .data, .data, .handle, .sentinel, .sentinel, .sentinel, .sentinel, .sentinel, .sentinel, .sentinel, .sentinel, .sentinel, .sentinel, .sentinel], laidTests := true, laidLooks := .later }
def BubbledCardSaid : Prop := Claim7.holds Tryz.pinned (.plain (OpenSpec.ofChange bubbledSpec)) bubbledCard

/-- THE SECOND FORM's CARD OF 'stagehandkeep.Sums'. -/
def sumsUptoCard : Claim7 := { stood := { row := sumsUptoRow, standIns := [], harness := (true, "00db1b8cf8d0032aa21a79c2decaf74c2ee6e41ac642ba195e86f29bcbeabce7"), looks := true }, kinds := [], alts := [], laidByText := true, laidKinds := [.data, .data, .data, .handle, .sentinel, .sentinel, .sentinel, .sentinel, .sentinel, .sentinel, .sentinel, .sentinel, .sentinel, .sentinel], laidTests := true, laidLooks := .later }
def SumsUptoCardSaid : Prop := Claim7.holds Tryz.pinned (.plain (OpenSpec.upto sumsSpec)) sumsUptoCard

/-- THE SECOND FORM's CARD OF 'stagehandkeep.Back'. -/
def backUptoCard : Claim7 := { stood := { row := backUptoRow, standIns := [], harness := (true, "00db1b8cf8d0032aa21a79c2decaf74c2ee6e41ac642ba195e86f29bcbeabce7"), looks := true }, kinds := [], alts := [], laidByText := true, laidKinds := [.data, .data, .data, .handle, .sentinel, .sentinel, .sentinel, .sentinel, .sentinel, .sentinel, .sentinel, .sentinel, .sentinel, .sentinel], laidTests := true, laidLooks := .later }
def BackUptoCardSaid : Prop := Claim7.holds Tryz.pinned (.plain (OpenSpec.upto backSpec)) backUptoCard

/-- THE SECOND FORM's CARD OF 'stagehandkeep.Moved'. -/
def movedUptoCard : Claim7 := { stood := { row := movedUptoRow, standIns := [], harness := (true, "00db1b8cf8d0032aa21a79c2decaf74c2ee6e41ac642ba195e86f29bcbeabce7"), looks := true }, kinds := [], alts := [], laidByText := true, laidKinds := [.data, .data, .data, .handle, .sentinel, .sentinel, .sentinel, .sentinel, .sentinel, .sentinel, .sentinel, .sentinel, .sentinel, .sentinel], laidTests := true, laidLooks := .later }
def MovedUptoCardSaid : Prop := Claim7.holds Tryz.pinned (.plain (OpenSpec.upto movedSpec)) movedUptoCard

/-- THE SECOND FORM's CARD OF 'stagehandkeep.Eager'. -/
def eagerUptoCard : Claim7 := { stood := { row := eagerUptoRow, standIns := [], harness := (true, "00db1b8cf8d0032aa21a79c2decaf74c2ee6e41ac642ba195e86f29bcbeabce7"), looks := true }, kinds := [], alts := [], laidByText := true, laidKinds := [.data, .data, .data, .handle, .sentinel, .sentinel, .sentinel, .sentinel, .sentinel, .sentinel, .sentinel, .sentinel, .sentinel, .sentinel], laidTests := true, laidLooks := .later }
def EagerUptoCardSaid : Prop := Claim7.holds Tryz.pinned (.plain (OpenSpec.upto eagerSpec)) eagerUptoCard

/-- THE SECOND FORM's CARD OF 'stagehandkeep.Bubbled'. -/
def bubbledUptoCard : Claim7 := { stood := { row := bubbledUptoRow, standIns := [], harness := (true, "00db1b8cf8d0032aa21a79c2decaf74c2ee6e41ac642ba195e86f29bcbeabce7"), looks := true }, kinds := [], alts := [], laidByText := true, laidKinds := [.data, .data, .data, .handle, .sentinel, .sentinel, .sentinel, .sentinel, .sentinel, .sentinel, .sentinel, .sentinel, .sentinel, .sentinel, .sentinel], laidTests := true, laidLooks := .later }
def BubbledUptoCardSaid : Prop := Claim7.holds Tryz.pinned (.plain (OpenSpec.upto bubbledSpec)) bubbledUptoCard
end Rows
end Go.Proofs.YtifhgjpglicjbaaGreatDoor
