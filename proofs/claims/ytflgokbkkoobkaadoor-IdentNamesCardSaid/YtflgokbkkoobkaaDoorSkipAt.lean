/-
  In a region that draws: an operation that isn't wanted. Conditions: none.
-/
import Derived.Test.YtflgokbkkoobkaaDoorByHand
namespace Go.Proofs.YtflgokbkkoobkaaDoor.Cd
open Go.RowKit

section
variable {P : Program} {md : Region.Mode} {ops : Array Oper} {Q : Exit → Act → World → Prop} {S : World → Prop} {i fuel : Nat} {listed : Array Bool} {a : Act} {w : World}
/-- An operation that isn't wanted. -/
theorem skip_at (d : Option Nat) (h : i < ops.size) (hd : (ops[i]'h).dst = d) (hs : Region.noSelect ops = true) (hf : Region.free md ops listed i = true) (hr : (Region.ready md ops listed).contains i = true)
    (hQ : ∀ c a w, Q (.panic c) (a.put d undef) w → Q (.panic c) a w) (hw : Region.wanted (ops[i]'h) (yielded ops a.tmps) = false) (hS : S w)
    (hrest : wpAnyH P md ops Q S fuel (listed.setIfInBounds i true) (a.put d undef) w) : wpAnyH P md ops Q S (fuel + 1) listed a w := by
  subst hd
  exact wpAnyH_take (Array.getElem?_eq_getElem h) hs hf hr hQ (.inr ⟨hw, rfl⟩) hS hrest
end

end Go.Proofs.YtflgokbkkoobkaaDoor.Cd
