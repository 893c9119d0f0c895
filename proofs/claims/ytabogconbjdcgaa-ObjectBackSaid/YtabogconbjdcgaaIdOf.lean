/-
  Noughts, and how many cells they have: what the document's Id leans on. Conditions: none.
-/
import Derived.Test.YtabogconbjdcgaaIdParse
namespace Go.Proofs.Ytabogconbjdcgaa.Cd
open Go.RowKit

theorem zero_32 (W : World) : (zeroValue 39).run Try.prog W = .ok (.agg (vb (zer 32)).toArray) W := by kernel_rfl

theorem cells_32 : (Try.prog.info? 39).map (·.size) = some 32 := by kernel_rfl

end Go.Proofs.Ytabogconbjdcgaa.Cd
