/-
  DERIVED. GIVEN WITH THE SEED: THE CARDS: each row of YtbaimgccepjdaaaGreatDoorRows.lean that lists a variable, with what it lists TIED to the program's text (the seventh form; the later family's looks); each row that meets fmt, with fmt's text TOLD by the authors' own Lean function (tested against real Go, not proved from fmt's source: count such statements apart). THE CARD IS WHAT COUNTS. Prove the row's statement (the work); the ties are given (YtbaimgccepjdaaaGreatDoorTie.lean); close each card by the builder's one call (the guide's Derived/Test/ToyasCard.lean, 'card_holds'). Laid BY PROGRAM, IN A SANDBOX (cutbox-door.mjs). By AI agents, Wed Nov 11 2026. No macro, syntax, notation, axiom, sorry.
-/
import Derived.Test.YtbaimgccepjdaaaGreatDoorRows
import GoSem.ClaimSeven
namespace Go.Proofs.YtbaimgccepjdaaaGreatDoor
namespace Rows

/-- THE TIED CARD OF 'rootstocklaw06.PagerCommits'. -/
def pagerCommitsCard : Claim7 := { stood := { row := pagerCommitsRow, standIns := [], harness := (true, "6df330fd4f56eade1556244f9d1ba1a1c954606def6d51b1e8711d502ef706c1"), looks := true }, kinds := [], alts := [], laidByText := true, laidKinds := [.data, .pinned], laidTests := true, laidLooks := .later }
def PagerCommitsCardSaid : Prop := Claim7.holds Tryz.pinned (.plain (OpenSpec.ofChange pagerCommitsSpec)) pagerCommitsCard

/-- THE TIED CARD OF 'rootstocklaw06.PagerLoses'. -/
def pagerLosesCard : Claim7 := { stood := { row := pagerLosesRow, standIns := [], harness := (true, "6df330fd4f56eade1556244f9d1ba1a1c954606def6d51b1e8711d502ef706c1"), looks := true }, kinds := [], alts := [], laidByText := true, laidKinds := [.data, .pinned], laidTests := true, laidLooks := .later }
def PagerLosesCardSaid : Prop := Claim7.holds Tryz.pinned (.plain (OpenSpec.ofChange pagerLosesSpec)) pagerLosesCard

/-- THE TIED CARD OF 'rootstocklaw06.PagerForms'. -/
def pagerFormsCard : Claim7 := { stood := { row := pagerFormsRow, standIns := [], harness := (true, "6df330fd4f56eade1556244f9d1ba1a1c954606def6d51b1e8711d502ef706c1"), looks := true }, kinds := [], alts := [], laidByText := true, laidKinds := [.data, .pinned], laidTests := true, laidLooks := .later }
def PagerFormsCardSaid : Prop := Claim7.holds Tryz.pinned (.plain (OpenSpec.ofChange pagerFormsSpec)) pagerFormsCard

/-- THE TIED CARD OF 'rootstocklaw06.PagerKeeps'. -/
def pagerKeepsCard : Claim7 := { stood := { row := pagerKeepsRow, standIns := [], harness := (true, "6df330fd4f56eade1556244f9d1ba1a1c954606def6d51b1e8711d502ef706c1"), looks := true }, kinds := [], alts := [], laidByText := true, laidKinds := [.data, .pinned], laidTests := true, laidLooks := .later }
def PagerKeepsCardSaid : Prop := Claim7.holds Tryz.pinned (.plain (OpenSpec.ofChange pagerKeepsSpec)) pagerKeepsCard

/-- THE TIED CARD OF 'rootstocklaw06.PagerAgain'. -/
def pagerAgainCard : Claim7 := { stood := { row := pagerAgainRow, standIns := [], harness := (true, "6df330fd4f56eade1556244f9d1ba1a1c954606def6d51b1e8711d502ef706c1"), looks := true }, kinds := [], alts := [], laidByText := true, laidKinds := [.data, .pinned], laidTests := true, laidLooks := .later }
def PagerAgainCardSaid : Prop := Claim7.holds Tryz.pinned (.plain (OpenSpec.ofChange pagerAgainSpec)) pagerAgainCard

/-- THE TIED CARD OF 'rootstocklaw08.BtreeDoes'. -/
def btreeDoesCard : Claim7 := { stood := { row := btreeDoesRow, standIns := [], harness := (true, "6df330fd4f56eade1556244f9d1ba1a1c954606def6d51b1e8711d502ef706c1"), looks := true }, kinds := [], alts := [], laidByText := true, laidKinds := [.data, .pinned], laidTests := true, laidLooks := .later }
def BtreeDoesCardSaid : Prop := Claim7.holds Tryz.pinned (.plain (OpenSpec.ofChange btreeDoesSpec)) btreeDoesCard

/-- THE SECOND FORM's CARD OF 'rootstocklaw06.PagerCommits'. -/
def pagerCommitsUptoCard : Claim7 := { stood := { row := pagerCommitsUptoRow, standIns := [], harness := (true, "6df330fd4f56eade1556244f9d1ba1a1c954606def6d51b1e8711d502ef706c1"), looks := true }, kinds := [], alts := [], laidByText := true, laidKinds := [.data, .pinned], laidTests := true, laidLooks := .later }
def PagerCommitsUptoCardSaid : Prop := Claim7.holds Tryz.pinned (.plain (OpenSpec.upto pagerCommitsSpec)) pagerCommitsUptoCard

/-- THE SECOND FORM's CARD OF 'rootstocklaw06.PagerLoses'. -/
def pagerLosesUptoCard : Claim7 := { stood := { row := pagerLosesUptoRow, standIns := [], harness := (true, "6df330fd4f56eade1556244f9d1ba1a1c954606def6d51b1e8711d502ef706c1"), looks := true }, kinds := [], alts := [], laidByText := true, laidKinds := [.data, .pinned], laidTests := true, laidLooks := .later }
def PagerLosesUptoCardSaid : Prop := Claim7.holds Tryz.pinned (.plain (OpenSpec.upto pagerLosesSpec)) pagerLosesUptoCard

/-- THE SECOND FORM's CARD OF 'rootstocklaw06.PagerForms'. -/
def pagerFormsUptoCard : Claim7 := { stood := { row := pagerFormsUptoRow, standIns := [], harness := (true, "6df330fd4f56eade1556244f9d1ba1a1c954606def6d51b1e8711d502ef706c1"), looks := true }, kinds := [], alts := [], laidByText := true, laidKinds := [.data, .pinned], laidTests := true, laidLooks := .later }
def PagerFormsUptoCardSaid : Prop := Claim7.holds Tryz.pinned (.plain (OpenSpec.upto pagerFormsSpec)) pagerFormsUptoCard

/-- THE SECOND FORM's CARD OF 'rootstocklaw06.PagerKeeps'. -/
def pagerKeepsUptoCard : Claim7 := { stood := { row := pagerKeepsUptoRow, standIns := [], harness := (true, "6df330fd4f56eade1556244f9d1ba1a1c954606def6d51b1e8711d502ef706c1"), looks := true }, kinds := [], alts := [], laidByText := true, laidKinds := [.data, .pinned], laidTests := true, laidLooks := .later }
def PagerKeepsUptoCardSaid : Prop := Claim7.holds Tryz.pinned (.plain (OpenSpec.upto pagerKeepsSpec)) pagerKeepsUptoCard

/-- THE SECOND FORM's CARD OF 'rootstocklaw06.PagerAgain'. -/
def pagerAgainUptoCard : Claim7 := { stood := { row := pagerAgainUptoRow, standIns := [], harness := (true, "6df330fd4f56eade1556244f9d1ba1a1c954606def6d51b1e8711d502ef706c1"), looks := true }, kinds := [], alts := [], laidByText := true, laidKinds := [.data, .pinned], laidTests := true, laidLooks := .later }
def PagerAgainUptoCardSaid : Prop := Claim7.holds Tryz.pinned (.plain (OpenSpec.upto pagerAgainSpec)) pagerAgainUptoCard

/-- THE SECOND FORM's CARD OF 'rootstocklaw08.BtreeDoes'. -/
def btreeDoesUptoCard : Claim7 := { stood := { row := btreeDoesUptoRow, standIns := [], harness := (true, "6df330fd4f56eade1556244f9d1ba1a1c954606def6d51b1e8711d502ef706c1"), looks := true }, kinds := [], alts := [], laidByText := true, laidKinds := [.data, .pinned], laidTests := true, laidLooks := .later }
def BtreeDoesUptoCardSaid : Prop := Claim7.holds Tryz.pinned (.plain (OpenSpec.upto btreeDoesSpec)) btreeDoesUptoCard
end Rows
end Go.Proofs.YtbaimgccepjdaaaGreatDoor
