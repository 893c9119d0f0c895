/-
  More than is played? Conditions: none.
-/
import Derived.Test.YtlchmkpnehbnlaaGreatDoorG15
import Derived.BigQuiet
namespace Go.Proofs.YtlchmkpnehbnlaaGreatDoor.Cd
open Go.RowKit

end Go.Proofs.YtlchmkpnehbnlaaGreatDoor.Cd
