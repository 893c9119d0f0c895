/-
  DERIVED. GIVEN WITH THE SEED: THE CARDS: each row of YtkbmajgbhpecgaaGreatDoorRows.lean that lists a variable, with what it lists TIED to the program's text (the seventh form; the later family's looks); each row that meets fmt, with fmt's text TOLD by the authors' own Lean function (tested against real Go, not proved from fmt's source: count such statements apart). THE CARD IS WHAT COUNTS. Prove the row's statement (the work); the ties are given (YtkbmajgbhpecgaaGreatDoorTie.lean); close each card by the builder's one call (the guide's Derived/Test/ToyasCard.lean, 'card_holds'). Laid BY PROGRAM, IN A SANDBOX (cutbox-door.mjs). By AI agents, Wed Nov 11 2026. No macro, syntax, notation, axiom, sorry.
-/
import Derived.Test.YtkbmajgbhpecgaaGreatDoorRows
import GoSem.ClaimSeven
namespace Go.Proofs.YtkbmajgbhpecgaaGreatDoor
namespace Rows

/-- THE TIED CARD OF 'rootstocklaw06.PagerLoses'. -/
def pagerLosesCard : Claim7 := { stood := { row := pagerLosesRow, standIns := [], harness := (true, "f49bc8ba50dbaae697dc33a592d417aeddaf27179d931ba32d7db661a37028a9"), looks := true }, kinds := [], alts := [], laidByText := true, laidKinds := [.data, .pinned], laidTests := true, laidLooks := .later }
def PagerLosesCardSaid : Prop := Claim7.holds Tryz.pinned (.plain (OpenSpec.ofChange pagerLosesSpec)) pagerLosesCard

/-- THE TIED CARD OF 'rootstocklaw06.PagerForms'. -/
def pagerFormsCard : Claim7 := { stood := { row := pagerFormsRow, standIns := [], harness := (true, "f49bc8ba50dbaae697dc33a592d417aeddaf27179d931ba32d7db661a37028a9"), looks := true }, kinds := [], alts := [], laidByText := true, laidKinds := [.data, .pinned], laidTests := true, laidLooks := .later }
def PagerFormsCardSaid : Prop := Claim7.holds Tryz.pinned (.plain (OpenSpec.ofChange pagerFormsSpec)) pagerFormsCard

/-- THE TIED CARD OF 'rootstocklaw06.PagerAgain'. -/
def pagerAgainCard : Claim7 := { stood := { row := pagerAgainRow, standIns := [], harness := (true, "f49bc8ba50dbaae697dc33a592d417aeddaf27179d931ba32d7db661a37028a9"), looks := true }, kinds := [], alts := [], laidByText := true, laidKinds := [.data, .pinned], laidTests := true, laidLooks := .later }
def PagerAgainCardSaid : Prop := Claim7.holds Tryz.pinned (.plain (OpenSpec.ofChange pagerAgainSpec)) pagerAgainCard

/-- THE SECOND FORM's CARD OF 'rootstocklaw06.PagerLoses'. -/
def pagerLosesUptoCard : Claim7 := { stood := { row := pagerLosesUptoRow, standIns := [], harness := (true, "f49bc8ba50dbaae697dc33a592d417aeddaf27179d931ba32d7db661a37028a9"), looks := true }, kinds := [], alts := [], laidByText := true, laidKinds := [.data, .pinned], laidTests := true, laidLooks := .later }
def PagerLosesUptoCardSaid : Prop := Claim7.holds Tryz.pinned (.plain (OpenSpec.upto pagerLosesSpec)) pagerLosesUptoCard

/-- THE SECOND FORM's CARD OF 'rootstocklaw06.PagerForms'. -/
def pagerFormsUptoCard : Claim7 := { stood := { row := pagerFormsUptoRow, standIns := [], harness := (true, "f49bc8ba50dbaae697dc33a592d417aeddaf27179d931ba32d7db661a37028a9"), looks := true }, kinds := [], alts := [], laidByText := true, laidKinds := [.data, .pinned], laidTests := true, laidLooks := .later }
def PagerFormsUptoCardSaid : Prop := Claim7.holds Tryz.pinned (.plain (OpenSpec.upto pagerFormsSpec)) pagerFormsUptoCard

/-- THE SECOND FORM's CARD OF 'rootstocklaw06.PagerAgain'. -/
def pagerAgainUptoCard : Claim7 := { stood := { row := pagerAgainUptoRow, standIns := [], harness := (true, "f49bc8ba50dbaae697dc33a592d417aeddaf27179d931ba32d7db661a37028a9"), looks := true }, kinds := [], alts := [], laidByText := true, laidKinds := [.data, .pinned], laidTests := true, laidLooks := .later }
def PagerAgainUptoCardSaid : Prop := Claim7.holds Tryz.pinned (.plain (OpenSpec.upto pagerAgainSpec)) pagerAgainUptoCard
end Rows
end Go.Proofs.YtkbmajgbhpecgaaGreatDoor
