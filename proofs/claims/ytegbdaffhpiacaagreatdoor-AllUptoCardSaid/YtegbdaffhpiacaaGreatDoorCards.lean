/-
  DERIVED. GIVEN WITH THE SEED: THE CARDS: each row of YtegbdaffhpiacaaGreatDoorRows.lean that lists a variable, with what it lists TIED to the program's text (the seventh form; the later family's looks); each row that meets fmt, with fmt's text TOLD by the authors' own Lean function (tested against real Go, not proved from fmt's source: count such statements apart). THE CARD IS WHAT COUNTS. Prove the row's statement (the work); the ties are given (YtegbdaffhpiacaaGreatDoorTie.lean); close each card by the builder's one call (the guide's Derived/Test/ToyasCard.lean, 'card_holds'). Laid BY PROGRAM, IN A SANDBOX (cutbox-door.mjs). By AI agents, Wed Nov 11 2026. No macro, syntax, notation, axiom, sorry.
-/
import Derived.Test.YtegbdaffhpiacaaGreatDoorRows
import GoSem.ClaimSeven
namespace Go.Proofs.YtegbdaffhpiacaaGreatDoor
namespace Rows

/-- THE TIED CARD OF 'arbiterlaw.Reads'. -/
def readsCard : Claim7 := { stood := { row := readsRow, standIns := [], harness := (true, "a1c392fcd5f623ebe7990b21e664826869ad08be3d0a7a6f1fad0dfc490e0c68"), looks := true }, kinds := [], alts := [], laidByText := true, laidKinds := [.data, .data, .data, .data, .data], laidTests := true, laidLooks := .later }
def ReadsCardSaid : Prop := Claim7.holds Tryz.pinned (.plain (OpenSpec.ofChange readsSpec)) readsCard

/-- THE TIED CARD OF 'arbiterlaw.Stacks'. -/
def stacksCard : Claim7 := { stood := { row := stacksRow, standIns := [], harness := (true, "a1c392fcd5f623ebe7990b21e664826869ad08be3d0a7a6f1fad0dfc490e0c68"), looks := true }, kinds := [], alts := [], laidByText := true, laidKinds := [.data, .data, .data, .data, .data], laidTests := true, laidLooks := .later }
def StacksCardSaid : Prop := Claim7.holds Tryz.pinned (.plain (OpenSpec.ofChange stacksSpec)) stacksCard

/-- THE TIED CARD OF 'arbiterlaw.Decides'. -/
def decidesCard : Claim7 := { stood := { row := decidesRow, standIns := [], harness := (true, "a1c392fcd5f623ebe7990b21e664826869ad08be3d0a7a6f1fad0dfc490e0c68"), looks := true }, kinds := [], alts := [], laidByText := true, laidKinds := [.data, .data, .data, .data, .data], laidTests := true, laidLooks := .later }
def DecidesCardSaid : Prop := Claim7.holds Tryz.pinned (.plain (OpenSpec.ofChange decidesSpec)) decidesCard

/-- THE TIED CARD OF 'arbiterkeep.Either'. -/
def eitherCard : Claim7 := { stood := { row := eitherRow, standIns := [], harness := (true, "a1c392fcd5f623ebe7990b21e664826869ad08be3d0a7a6f1fad0dfc490e0c68"), looks := true }, kinds := [], alts := [], laidByText := true, laidKinds := [.data, .data], laidTests := true, laidLooks := .later }
def EitherCardSaid : Prop := Claim7.holds Tryz.pinned (.plain (OpenSpec.ofChange eitherSpec)) eitherCard

/-- THE TIED CARD OF 'arbiterkeep.Chained'. -/
def chainedCard : Claim7 := { stood := { row := chainedRow, standIns := [], harness := (true, "a1c392fcd5f623ebe7990b21e664826869ad08be3d0a7a6f1fad0dfc490e0c68"), looks := true }, kinds := [], alts := [], laidByText := true, laidKinds := [.data, .data], laidTests := true, laidLooks := .later }
def ChainedCardSaid : Prop := Claim7.holds Tryz.pinned (.plain (OpenSpec.ofChange chainedSpec)) chainedCard

/-- THE TIED CARD OF 'arbiterkeep.Rounds'. -/
def roundsCard : Claim7 := { stood := { row := roundsRow, standIns := [], harness := (true, "a1c392fcd5f623ebe7990b21e664826869ad08be3d0a7a6f1fad0dfc490e0c68"), looks := true }, kinds := [], alts := [], laidByText := true, laidKinds := [.data, .data], laidTests := true, laidLooks := .later }
def RoundsCardSaid : Prop := Claim7.holds Tryz.pinned (.plain (OpenSpec.ofChange roundsSpec)) roundsCard

/-- THE TIED CARD OF 'arbiterkeep.Back'. -/
def backCard : Claim7 := { stood := { row := backRow, standIns := [], harness := (true, "a1c392fcd5f623ebe7990b21e664826869ad08be3d0a7a6f1fad0dfc490e0c68"), looks := true }, kinds := [], alts := [], laidByText := true, laidKinds := [.data, .data], laidTests := true, laidLooks := .later }
def BackCardSaid : Prop := Claim7.holds Tryz.pinned (.plain (OpenSpec.ofChange backSpec)) backCard

/-- THE TIED CARD OF 'arbiterkeep.Modeled'. -/
def modeledCard : Claim7 := { stood := { row := modeledRow, standIns := [], harness := (true, "a1c392fcd5f623ebe7990b21e664826869ad08be3d0a7a6f1fad0dfc490e0c68"), looks := true }, kinds := [], alts := [], laidByText := true, laidKinds := [.data, .data], laidTests := true, laidLooks := .later }
def ModeledCardSaid : Prop := Claim7.holds Tryz.pinned (.plain (OpenSpec.ofChange modeledSpec)) modeledCard

/-- THE TIED CARD OF 'arbiterlaw.All'. -/
def allCard : Claim7 := { stood := { row := allRow, standIns := [], harness := (true, "a1c392fcd5f623ebe7990b21e664826869ad08be3d0a7a6f1fad0dfc490e0c68"), looks := true }, kinds := [], alts := [], laidByText := true, laidKinds := [.data, .data, .data, .data, .data], laidTests := true, laidLooks := .later }
def AllCardSaid : Prop := Claim7.holds Tryz.pinned (.plain (OpenSpec.ofChange allSpec)) allCard

/-- THE SECOND FORM's CARD OF 'arbiterlaw.Reads'. -/
def readsUptoCard : Claim7 := { stood := { row := readsUptoRow, standIns := [], harness := (true, "a1c392fcd5f623ebe7990b21e664826869ad08be3d0a7a6f1fad0dfc490e0c68"), looks := true }, kinds := [], alts := [], laidByText := true, laidKinds := [.data, .data, .data, .data, .data], laidTests := true, laidLooks := .later }
def ReadsUptoCardSaid : Prop := Claim7.holds Tryz.pinned (.plain (OpenSpec.upto readsSpec)) readsUptoCard

/-- THE SECOND FORM's CARD OF 'arbiterlaw.Stacks'. -/
def stacksUptoCard : Claim7 := { stood := { row := stacksUptoRow, standIns := [], harness := (true, "a1c392fcd5f623ebe7990b21e664826869ad08be3d0a7a6f1fad0dfc490e0c68"), looks := true }, kinds := [], alts := [], laidByText := true, laidKinds := [.data, .data, .data, .data, .data], laidTests := true, laidLooks := .later }
def StacksUptoCardSaid : Prop := Claim7.holds Tryz.pinned (.plain (OpenSpec.upto stacksSpec)) stacksUptoCard

/-- THE SECOND FORM's CARD OF 'arbiterlaw.Decides'. -/
def decidesUptoCard : Claim7 := { stood := { row := decidesUptoRow, standIns := [], harness := (true, "a1c392fcd5f623ebe7990b21e664826869ad08be3d0a7a6f1fad0dfc490e0c68"), looks := true }, kinds := [], alts := [], laidByText := true, laidKinds := [.data, .data, .data, .data, .data], laidTests := true, laidLooks := .later }
def DecidesUptoCardSaid : Prop := Claim7.holds Tryz.pinned (.plain (OpenSpec.upto decidesSpec)) decidesUptoCard

/-- THE SECOND FORM's CARD OF 'arbiterkeep.Either'. -/
def eitherUptoCard : Claim7 := { stood := { row := eitherUptoRow, standIns := [], harness := (true, "a1c392fcd5f623ebe7990b21e664826869ad08be3d0a7a6f1fad0dfc490e0c68"), looks := true }, kinds := [], alts := [], laidByText := true, laidKinds := [.data, .data], laidTests := true, laidLooks := .later }
def EitherUptoCardSaid : Prop := Claim7.holds Tryz.pinned (.plain (OpenSpec.upto eitherSpec)) eitherUptoCard

/-- THE SECOND FORM's CARD OF 'arbiterkeep.Chained'. -/
def chainedUptoCard : Claim7 := { stood := { row := chainedUptoRow, standIns := [], harness := (true, "a1c392fcd5f623ebe7990b21e664826869ad08be3d0a7a6f1fad0dfc490e0c68"), looks := true }, kinds := [], alts := [], laidByText := true, laidKinds := [.data, .data], laidTests := true, laidLooks := .later }
def ChainedUptoCardSaid : Prop := Claim7.holds Tryz.pinned (.plain (OpenSpec.upto chainedSpec)) chainedUptoCard

/-- THE SECOND FORM's CARD OF 'arbiterkeep.Rounds'. -/
def roundsUptoCard : Claim7 := { stood := { row := roundsUptoRow, standIns := [], harness := (true, "a1c392fcd5f623ebe7990b21e664826869ad08be3d0a7a6f1fad0dfc490e0c68"), looks := true }, kinds := [], alts := [], laidByText := true, laidKinds := [.data, .data], laidTests := true, laidLooks := .later }
def RoundsUptoCardSaid : Prop := Claim7.holds Tryz.pinned (.plain (OpenSpec.upto roundsSpec)) roundsUptoCard

/-- THE SECOND FORM's CARD OF 'arbiterkeep.Back'. -/
def backUptoCard : Claim7 := { stood := { row := backUptoRow, standIns := [], harness := (true, "a1c392fcd5f623ebe7990b21e664826869ad08be3d0a7a6f1fad0dfc490e0c68"), looks := true }, kinds := [], alts := [], laidByText := true, laidKinds := [.data, .data], laidTests := true, laidLooks := .later }
def BackUptoCardSaid : Prop := Claim7.holds Tryz.pinned (.plain (OpenSpec.upto backSpec)) backUptoCard

/-- THE SECOND FORM's CARD OF 'arbiterkeep.Modeled'. -/
def modeledUptoCard : Claim7 := { stood := { row := modeledUptoRow, standIns := [], harness := (true, "a1c392fcd5f623ebe7990b21e664826869ad08be3d0a7a6f1fad0dfc490e0c68"), looks := true }, kinds := [], alts := [], laidByText := true, laidKinds := [.data, .data], laidTests := true, laidLooks := .later }
def ModeledUptoCardSaid : Prop := Claim7.holds Tryz.pinned (.plain (OpenSpec.upto modeledSpec)) modeledUptoCard

/-- THE SECOND FORM's CARD OF 'arbiterlaw.All'. -/
def allUptoCard : Claim7 := { stood := { row := allUptoRow, standIns := [], harness := (true, "a1c392fcd5f623ebe7990b21e664826869ad08be3d0a7a6f1fad0dfc490e0c68"), looks := true }, kinds := [], alts := [], laidByText := true, laidKinds := [.data, .data, .data, .data, .data], laidTests := true, laidLooks := .later }
def AllUptoCardSaid : Prop := Claim7.holds Tryz.pinned (.plain (OpenSpec.upto allSpec)) allUptoCard
end Rows
end Go.Proofs.YtegbdaffhpiacaaGreatDoor
