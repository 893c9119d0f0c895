/-
  In a region that draws: an operation that isn't wanted. Conditions: none.
-/
import Derived.Test.YthbahbcihaebeaaDoorG3
import Derived.Deep.RegionHeld3
import Derived.Deep.DrawnRows
/-
  A region that draws its order, taken by hand. Conditions: none.
-/
namespace Go.Proofs.YthbahbcihaebeaaDoor.Cd
open Go.RowKit

section
variable {P : Program} {md : Region.Mode} {ops : Array Oper} {Q : Exit → Act → World → Prop} {S : World → Prop} {i fuel : Nat} {listed : Array Bool} {a : Act} {w : World}

theorem region_begin {id : Nat} {W0 : World} (hW : w.drew = W0) (hm : P.follows .mixedOrders = true) (hS : S W0) (h : S W0 → wpAnyH P .any ops Q S ops.size (Array.replicate ops.size false) a W0) : (Code.region id ops true).wp P Q a w := by
  subst hW
  exact wp_region_held_drew hm hS h
/-- An operation that yields v wherever S holds is taken first. -/
theorem take_at (v : Value) (d : Option Nat) (h : i < ops.size) (hd : (ops[i]'h).dst = d) (hs : Region.noSelect ops = true) (hf : Region.free md ops listed i = true) (hr : (Region.ready md ops listed).contains i = true)
    (hQ : ∀ c a w, Q (.panic c) (a.put d v) w → Q (.panic c) a w) (hw : Region.wanted (ops[i]'h) (yielded ops a.tmps) = true) (hy : ∀ W, S W → (execOp a.eval (ops[i]'h)).run P W = .ok (.value v) W) (hS : S w)
    (hrest : wpAnyH P md ops Q S fuel (listed.setIfInBounds i true) (a.put d v) w) : wpAnyH P md ops Q S (fuel + 1) listed a w := by
  subst hd
  exact wpAnyH_take (Array.getElem?_eq_getElem h) hs hf hr hQ (.inl ⟨hw, hy⟩) hS hrest
/-- One that comes up, and yields v in this world. -/
theorem come {rs : List Nat} (v : Value) (w' : World) (d : Option Nat) (h : i < ops.size) (hd : (ops[i]'h).dst = d) (hw : Region.wanted (ops[i]'h) (yielded ops a.tmps) = true) (hy : (execOp a.eval (ops[i]'h)).run P w = .ok (.value v) w') (hS : S w')
    (hrest : wpAnyH P md ops Q S fuel (listed.setIfInBounds i true) (a.put d v) w') (hs : AllReadyH P md ops Q S fuel listed a w rs) : AllReadyH P md ops Q S fuel listed a w (i :: rs) := by
  subst hd
  refine AllReadyH.cons (Array.getElem?_eq_getElem h) (fun K' hK => ?_) hs
  rw [if_pos hw]
  unfold Oper.wp
  simp only [hy, Oper.upon]
  exact hK.out _ _ hS (fun _ => hrest)
end

end Go.Proofs.YthbahbcihaebeaaDoor.Cd

/-
  In a region that draws: an operation that isn't wanted. Conditions: none.
-/
namespace Go.Proofs.YthbahbcihaebeaaDoor.Cd
open Go.RowKit

section
variable {P : Program} {md : Region.Mode} {ops : Array Oper} {Q : Exit → Act → World → Prop} {S : World → Prop} {i fuel : Nat} {listed : Array Bool} {a : Act} {w : World}
/-- An operation that isn't wanted. -/
theorem skip_at (d : Option Nat) (h : i < ops.size) (hd : (ops[i]'h).dst = d) (hs : Region.noSelect ops = true) (hf : Region.free md ops listed i = true) (hr : (Region.ready md ops listed).contains i = true)
    (hQ : ∀ c a w, Q (.panic c) (a.put d undef) w → Q (.panic c) a w) (hw : Region.wanted (ops[i]'h) (yielded ops a.tmps) = false) (hS : S w)
    (hrest : wpAnyH P md ops Q S fuel (listed.setIfInBounds i true) (a.put d undef) w) : wpAnyH P md ops Q S (fuel + 1) listed a w := by
  subst hd
  exact wpAnyH_take (Array.getElem?_eq_getElem h) hs hf hr hQ (.inr ⟨hw, rfl⟩) hS hrest
end

end Go.Proofs.YthbahbcihaebeaaDoor.Cd
