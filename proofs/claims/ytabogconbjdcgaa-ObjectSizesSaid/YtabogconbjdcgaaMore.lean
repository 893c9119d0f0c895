/-
  fnv.More, fnv.Sum; the document's step and sum. Conditions: none.
-/
import Derived.Test.YtabogconbjdcgaaBase
import Derived.Test.YtabogconbjdcgaaFnvMath
import Derived.IntWalk
import Derived.Laws.BitsAllLaws
namespace Go.Proofs.Ytabogconbjdcgaa.Cd
open Go.RowKit

theorem wrap_byte (c : UInt8) : IntKind.u64.wrap (c.toNat : Int) = (c.toNat : Int) := by
  have := c.toNat_lt
  rw [IntKind.wrap_u64]
  omega

theorem wrap_stp (m : Nat) (c : UInt8) : IntKind.u64.wrap (((m ^^^ c.toNat : Nat) : Int) * 1099511628211) = (stp m c : Nat) := by
  rw [IntKind.wrap_u64]
  unfold stp
  omega


/-- Pieces, one behind the other. -/
theorem mor_flat (s : Nat) (l : List (List UInt8)) (k : Nat) (h : k < l.length) : mor s (l.take (k + 1)).flatten = mor (mor s (l.take k).flatten) l[k] := by
  rw [List.take_succ_eq_append_getElem h, List.flatten_append, mor_append]
  simp


end Go.Proofs.Ytabogconbjdcgaa.Cd
