/-
  Noughts: make([]byte, n), and the text of it. Conditions: none.
-/
import Derived.Test.YtlchmkpnehbnlaaGreatDoorG3
import Derived.Deep.OwnRows
namespace Go.Proofs.YtlchmkpnehbnlaaGreatDoor.Cd
open Go.RowKit

end Go.Proofs.YtlchmkpnehbnlaaGreatDoor.Cd
