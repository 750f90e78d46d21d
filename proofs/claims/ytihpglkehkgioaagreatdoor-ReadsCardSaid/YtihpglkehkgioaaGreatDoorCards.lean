/-
  DERIVED. GIVEN WITH THE SEED: THE CARDS: each row of YtihpglkehkgioaaGreatDoorRows.lean that lists a variable, with what it lists TIED to the program's text (the seventh form; the later family's looks); each row that meets fmt, with fmt's text TOLD by the authors' own Lean function (tested against real Go, not proved from fmt's source: count such statements apart). THE CARD IS WHAT COUNTS. Prove the row's statement (the work); the ties are given (YtihpglkehkgioaaGreatDoorTie.lean); close each card by the builder's one call (the guide's Derived/Test/ToyasCard.lean, 'card_holds'). Laid BY PROGRAM, IN A SANDBOX (cutbox-door.mjs). By AI agents, Wed Nov 11 2026. No macro, syntax, notation, axiom, sorry.
-/
import Derived.Test.YtihpglkehkgioaaGreatDoorRows
import GoSem.ClaimSeven
namespace Go.Proofs.YtihpglkehkgioaaGreatDoor
namespace Rows

/-- THE TIED CARD OF 'arbiterlaw.Reads'. -/
def readsCard : Claim7 := { stood := { row := readsRow, standIns := [], harness := (true, "5e6dc97f72826b757ab2ed272583e7f90609c199a657906ef40e132ebc8b6037"), looks := false }, kinds := [], alts := [], laidByText := true, laidKinds := [.data, .data, .data, .data], laidTests := true, laidLooks := .later }
def ReadsCardSaid : Prop := Claim7.holds Tryz.pinned (.plain (OpenSpec.ofChange readsSpec)) readsCard

/-- THE TIED CARD OF 'arbiterlaw.Stacks'. -/
def stacksCard : Claim7 := { stood := { row := stacksRow, standIns := [], harness := (true, "5e6dc97f72826b757ab2ed272583e7f90609c199a657906ef40e132ebc8b6037"), looks := false }, kinds := [], alts := [], laidByText := true, laidKinds := [.data, .data, .data, .data], laidTests := true, laidLooks := .later }
def StacksCardSaid : Prop := Claim7.holds Tryz.pinned (.plain (OpenSpec.ofChange stacksSpec)) stacksCard

/-- THE SECOND FORM's CARD OF 'arbiterlaw.Reads'. -/
def readsUptoCard : Claim7 := { stood := { row := readsUptoRow, standIns := [], harness := (true, "5e6dc97f72826b757ab2ed272583e7f90609c199a657906ef40e132ebc8b6037"), looks := false }, kinds := [], alts := [], laidByText := true, laidKinds := [.data, .data, .data, .data], laidTests := true, laidLooks := .later }
def ReadsUptoCardSaid : Prop := Claim7.holds Tryz.pinned (.plain (OpenSpec.upto readsSpec)) readsUptoCard

/-- THE SECOND FORM's CARD OF 'arbiterlaw.Stacks'. -/
def stacksUptoCard : Claim7 := { stood := { row := stacksUptoRow, standIns := [], harness := (true, "5e6dc97f72826b757ab2ed272583e7f90609c199a657906ef40e132ebc8b6037"), looks := false }, kinds := [], alts := [], laidByText := true, laidKinds := [.data, .data, .data, .data], laidTests := true, laidLooks := .later }
def StacksUptoCardSaid : Prop := Claim7.holds Tryz.pinned (.plain (OpenSpec.upto stacksSpec)) stacksUptoCard
end Rows
end Go.Proofs.YtihpglkehkgioaaGreatDoor
