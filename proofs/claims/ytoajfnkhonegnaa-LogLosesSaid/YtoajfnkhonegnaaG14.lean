/-
  Slices of ints and of bools as arguments: how they read. Conditions: none.
-/
import Derived.Test.YtoajfnkhonegnaaG1
import Derived.ChangeSlices
import Derived.Deep.Grids
namespace Go.Proofs.Ytoajfnkhonegnaa.Cd
open Go.RowKit Go.ChangeShapes Go.WideShapes Go.Deep

/-- A slice value that reads as l, each element by f. -/
def Flat {α : Type} (f : α → Value) (w : World) (B : Nat) (v : Value) (l : List α) : Prop :=
  ∃ A c, v = .slice A l.length c ∧ l.length ≤ c ∧ c ≤ maxLen ∧
    (0 < l.length → ∃ b off, A = some ⟨b, off, none⟩ ∧ b < B ∧ ∀ j (hj : j < l.length), w.cell? ⟨b, off + j, none⟩ = some (f l[j]))

section
variable {α : Type} {f : α → Value} {w w' : World} {B : Nat} {v : Value} {l : List α}
theorem Flat.below (h : Flat f w B v l) (hb : Below B w w') : Flat f w' B v l := by
  obtain ⟨A, c, h1, h2, h3, h4⟩ := h
  refine ⟨A, c, h1, h2, h3, fun h0 => ?_⟩
  obtain ⟨b, off, e, hB, hc⟩ := h4 h0
  exact ⟨b, off, e, hB, fun j hj => (hb.cell (p := ⟨b, off + j, none⟩) hB).trans (hc j hj)⟩
theorem Flat.len (h : Flat f w B v l) : ∃ A c, v = .slice A l.length c ∧ l.length ≤ c ∧ c ≤ 9223372036854775807 := by
  obtain ⟨A, c, h1, h2, h3, _⟩ := h
  exact ⟨A, c, h1, h2, h3⟩
theorem Flat.at {A : Option Addr} {n c : Nat} (h : Flat f w B (.slice A n c) l) {k : Nat} (hk : k < l.length) : ∃ b off, A = some ⟨b, off, none⟩ ∧ b < B ∧ w.cell? ⟨b, off + k, none⟩ = some (f l[k]) := by
  obtain ⟨A0, c0, e, _, _, h5⟩ := h
  injection e with e1 e2 e3
  obtain ⟨b, off, e, hB, hc⟩ := h5 (by omega)
  exact ⟨b, off, e1.trans e, hB, hc k hk⟩
end

theorem cells_bool : Try.prog.cellsOf 4 = 1 := by kernel_rfl
theorem bools_of_trod {H : Type} {enc : TypeId × Value → H} {w : World} {v : Value} {d : DataW H} {ps : List MemPlace} (hv : ∃ A n c, v = .slice A n c)
    (h : DataW.Trod enc Try.prog w 0 (fun _ => true) true 23 v d ps) (_hw : ∀ n ∈ d.weights Try.prog 23, n ≤ reachBytes) : ∃ l : List Bool, Flat Value.bool w w.heap.size v l := by
  obtain ⟨A0, n0, c0, rfl⟩ := hv
  obtain ⟨fuel, hf⟩ := h
  rcases open_bools Try.underlying23 Try.underlying4 cells_bool hf with ⟨hcs, _⟩ | ⟨a, len, cap, Bx, hcs, _, hl, hm, _, hi⟩
  · simp [Value.cells] at hcs
    obtain ⟨rfl, rfl, rfl⟩ := hcs
    exact ⟨[], none, 0, rfl, by simp, by simp, fun h => by simp at h⟩
  · simp [Value.cells] at hcs
    obtain ⟨rfl, rfl, rfl⟩ := hcs
    have hlen : ((List.range n0).map Bx).length = n0 := by simp
    refine ⟨(List.range n0).map Bx, some a, c0, by rw [hlen], by rw [hlen]; exact hl, hm, fun hp => ?_⟩
    rw [hlen] at hp
    obtain ⟨b, off, spot⟩ := a
    have hc := hi 0 (by omega)
    have hspot : spot = none := by simpa [Addr.add] using World.cell?_spot hc
    subst hspot
    refine ⟨b, off, rfl, ?_, fun j hj => ?_⟩
    · have := World.block_lt_of_cell? w _ hc
      rwa [block_of_add] at this
    · rw [hlen] at hj
      have := hi j (by omega)
      rw [Addr.add_lit] at this
      rw [this]
      simp

end Go.Proofs.Ytoajfnkhonegnaa.Cd
