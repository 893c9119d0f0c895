/-
  Footprints: what a call leaves that writes to the blocks of a set alone, and to new ones. Conditions: none.
-/
import Derived.Test.YtabogconbjdcgaaBase
namespace Go.Proofs.Ytabogconbjdcgaa.Cd
open Go.RowKit

/-- Nothing that was there has turned, but for the blocks of S. -/
structure Apart (S : Nat → Prop) (w w' : World) : Prop where
  os : w'.os = w.os
  tape : w'.tape = w.tape
  output : w'.output = w.output
  size : w.heap.size ≤ w'.heap.size
  block : ∀ k, k < w.heap.size → ¬ S k → w'.heap[k]? = w.heap[k]?

/-- The set, and what was laid since. -/
def since (S : Nat → Prop) (w w' : World) : Nat → Prop := fun k => S k ∨ (w.heap.size ≤ k ∧ k < w'.heap.size)

theorem Apart.refl (S : Nat → Prop) (w : World) : Apart S w w := ⟨rfl, rfl, rfl, Nat.le_refl _, fun _ _ _ => rfl⟩
theorem Apart.mono {S T : Nat → Prop} {w w' : World} (h : Apart S w w') (hs : ∀ k, S k → T k) : Apart T w w' :=
  ⟨h.os, h.tape, h.output, h.size, fun k hk hn => h.block k hk (fun e => hn (hs k e))⟩
theorem Apart.trans {S : Nat → Prop} {w w1 w2 : World} (h : Apart S w w1) (k : Apart (since S w w1) w1 w2) : Apart S w w2 :=
  ⟨k.os.trans h.os, k.tape.trans h.tape, k.output.trans h.output, Nat.le_trans h.size k.size, fun i hi hn =>
    (k.block i (Nat.lt_of_lt_of_le hi h.size) (fun e => e.elim hn (fun e => by omega))).trans (h.block i hi hn)⟩
theorem Apart.below {S : Nat → Prop} {w w' : World} (h : Below w.heap.size w w') : Apart S w w' := ⟨h.os, h.tape, h.output, h.size, fun k hk _ => h.block k hk⟩
theorem Apart.grown {S : Nat → Prop} {w w' : World} {g : Nat} (h : w.grownBy w' (some g)) (hg : S g) : Apart S w w' :=
  ⟨h.os, h.tape, h.output, h.size, fun k hk hn => h.block k hk (fun e => by injection e with e; exact hn (by rw [e]; exact hg))⟩
theorem Apart.cell {S : Nat → Prop} {w w' : World} (h : Apart S w w') {p : Addr} (hp : p.block < w.heap.size) (hn : ¬ S p.block) : w'.cell? p = w.cell? p := World.cell?_of_block (h.block p.block hp hn)
/-- Where the set lies above B, all below B is as it was. -/
theorem Apart.low {S : Nat → Prop} {w w' : World} {B : Nat} (h : Apart S w w') (hB : B ≤ w.heap.size) (hs : ∀ k, S k → B ≤ k) : Below B w w' :=
  ⟨h.os, h.tape, h.output, h.size, fun k hk => h.block k (Nat.lt_of_lt_of_le hk hB) (fun e => by have := hs k e; omega)⟩

theorem since_refl (S : Nat → Prop) (w : World) (k : Nat) : since S w w k ↔ S k := ⟨fun h => h.elim id (fun e => by omega), .inl⟩
theorem since_trans {S : Nat → Prop} {w w1 w2 : World} (h1 : w.heap.size ≤ w1.heap.size) (h2 : w1.heap.size ≤ w2.heap.size) (k : Nat) : since (since S w w1) w1 w2 k ↔ since S w w2 k := by
  unfold since
  constructor
  · rintro ((h | h) | h)
    · exact .inl h
    · exact .inr ⟨h.1, by omega⟩
    · exact .inr ⟨by omega, h.2⟩
  · rintro (h | h)
    · exact .inl (.inl h)
    · by_cases hk : k < w1.heap.size
      · exact .inl (.inr ⟨h.1, hk⟩)
      · exact .inr ⟨by omega, h.2⟩
theorem since_old {S : Nat → Prop} {w w' : World} {k : Nat} (hk : k < w.heap.size) : since S w w' k ↔ S k := ⟨fun h => h.elim id (fun e => by omega), .inl⟩

/-- Two sets that are apart stay so: what is laid for the one is new to the other. -/
theorem since_apart {S T : Nat → Prop} {w w' : World} (h : ∀ k, S k → ¬ T k) (ht : ∀ k, T k → k < w.heap.size) : ∀ k, since S w w' k → ¬ T k := by
  rintro k (hs | hs) hk
  · exact h k hs hk
  · have := ht k hk; omega

end Go.Proofs.Ytabogconbjdcgaa.Cd
