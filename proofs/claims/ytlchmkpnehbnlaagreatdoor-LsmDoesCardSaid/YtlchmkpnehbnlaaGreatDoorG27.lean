/-
  All together. Conditions: none.
-/
import Derived.Test.YtlchmkpnehbnlaaGreatDoorG23
import Derived.Test.YtlchmkpnehbnlaaGreatDoorG22
import Derived.Test.YtlchmkpnehbnlaaGreatDoorG5
import Derived.Test.YtlchmkpnehbnlaaGreatDoorG24
import Derived.Test.YtlchmkpnehbnlaaGreatDoorG25
import Derived.Test.YtlchmkpnehbnlaaGreatDoorG15
import Derived.Test.YtlchmkpnehbnlaaGreatDoorG26
import Derived.Test.YtlchmkpnehbnlaaGreatDoorG1
namespace Go.Proofs.YtlchmkpnehbnlaaGreatDoor.Cd
end Go.Proofs.YtlchmkpnehbnlaaGreatDoor.Cd
