/-
  A disk of the call's own: its blocks lie at B and above. Conditions: none.
-/
import Derived.Test.YtbepanhndpkdhaaWriteD
import Derived.Test.YtbepanhndpkdhaaReadD
import Derived.Test.YtbepanhndpkdhaaNewD
namespace Go.Proofs.Ytbepanhndpkdhaa.Cd
open Go.RowKit

/-- The disk P lies at g, its blocks at B and above. -/
def Mine (w : World) (B g N : Nat) (P : Pd) : Prop := B ≤ w.heap.size ∧ ∃ S, Rep w g S P N ∧ ∀ k, S k → B ≤ k
/-- What a call leaves that makes a disk of one's own another one and answers v. -/
def Did (B g N : Nat) (P : Pd) (v : Value) (w : World) (e : Ending) (w' : World) : Prop := e = .returned v ∧ Mine w' B g N P ∧ Below B w w'

section
variable {w w' : World} {B g N M : Nat} {P Q : Pd} {v : Value} {e : Ending}

theorem below_of_apart {S : Nat → Prop} (h : Apart S w w') (hB : B ≤ w.heap.size) (hS : ∀ k, S k → B ≤ k) : Below B w w' :=
  ⟨h.os, h.tape, h.output, h.size, fun k hk => h.block k (by omega) (fun e => by have := hS k e; omega)⟩
theorem Mine.below (h : Mine w B g N P) (hb : Below w.heap.size w w') : Mine w' B g N P := by
  obtain ⟨h1, S, h2, h3⟩ := h
  exact ⟨Nat.le_trans h1 hb.size, S, h2.below hb h2.lt, h3⟩
theorem Mine.mono (h : Mine w B g N P) (hN : N ≤ M) (hM : M ≤ 137438953472) : Mine w B g M P := by
  obtain ⟨h1, S, h2, h3⟩ := h
  exact ⟨h1, S, h2.mono hN hM, h3⟩
theorem Mine.lower {C : Nat} (h : Mine w B g N P) (hC : C ≤ B) : Mine w C g N P := by
  obtain ⟨h1, S, h2, h3⟩ := h
  exact ⟨by omega, S, h2, fun k hk => by have := h3 k hk; omega⟩
theorem Mine.fits (h : Mine w B g N P) : Fits P N := by
  obtain ⟨h1, S, h2, h3⟩ := h
  exact h2.fits
theorem did_of {S : Nat → Prop} (hB : B ≤ w.heap.size) (hS : ∀ k, S k → B ≤ k) (h : Makes g S P N v w e w') : Did B g N P v w e w' := by
  obtain ⟨h1, h2, h3⟩ := h
  have := h3.size
  exact ⟨h1, ⟨by omega, _, h2, fun k hk => by rcases hk with hk | hk; exact hS k hk; omega⟩, below_of_apart h3 hB hS⟩
theorem Did.up {w0 : World} (h : Did B g N P v w e w') (h0 : Below B w0 w) : Did B g N P v w0 e w' := ⟨h.1, h.2.1, h0.trans h.2.2⟩
end

theorem new_mine (room : Int) (w : World) (h1 : -9223372036854775808 ≤ room) (h2 : room ≤ 9223372036854775807) :
    Calls Try.prog 12 #[.int .i64 room] w (fun e w' => ∃ g, e = .returned (.pointer (some ⟨g, 0, none⟩)) ∧ Mine w' w.heap.size g 0 (freshP room) ∧ Below w.heap.size w w') := by
  refine (new_disk room w h1 h2).mono ?_
  rintro e w' ⟨g, S, rfl, hr, hS, hb⟩
  exact ⟨g, rfl, ⟨hb.size, S, hr, hS⟩, hb⟩

/-- A write of a row of bytes that was laid a moment ago. -/
theorem write_mine (B g N : Nat) (P : Pd) (s bs : List UInt8) (i : Int) (n : Nat) (cs : Array Value) (fr : Nat × Nat) (w : World) (h : Mine w B g N P) (hn : n = bs.length) (hcs : cs = (vb bs).toArray) (hs : s.length ≤ 140737488355328) (hm : bs.length ≤ 512)
    (hi2 : i ≤ 9223372036854775807) (hN : N + 4 ≤ 137438953472) (hcn : countR P s ≤ P.nn) (hr : P.fuse = 1 → P.off = false → 0 ≤ i ∧ i ≤ (countR P s : Int) → ¬ (i = (countR P s : Int) ∧ (P.room : Int) - P.nn = 0) → ∀ x, (playS (keepSel P.keep) 0 (P.late ++ [⟨numP P s, i.toNat, x⟩]) (P.safe, P.ns)).2 ≤ P.room) :
    Calls Try.prog 20 #[.pointer (some ⟨g, 0, none⟩), .string ⟨s.toArray⟩, .int .i64 i, .slice (some ⟨w.heap.size, 0, none⟩) n n] (w.alloc (.cells cs 5 fr)) (Did B g (N + 4) (writeR P s i bs).1 (.int .i64 ((writeR P s i bs).2 : Nat)) w) := by
  obtain ⟨hB, S, hR, hS⟩ := h
  have hb : Below w.heap.size w (w.alloc (.cells cs 5 fr)) := (Below.refl _ _).alloc (Nat.le_refl _) _
  have hz : (w.alloc (.cells cs 5 fr)).heap.size = w.heap.size + 1 := by simp
  subst hn
  have hsl := sl_mark w bs cs hcs (by simp only [maxLen]; omega) bs.length rfl fr
  refine (write_any g N S P s bs i _ _ (hR.below hb hR.lt) hs (by rw [hz]; exact hsl) (fun _ A m c e hA => ?_) hi2 hN hcn hr).mono ?_
  · injection e with e
    injection e with e
    rw [← e] at hA
    have := hR.lt _ hA
    simp at this
  · intro e w' hm
    exact (did_of (by omega) hS hm).up (hb.mono hB)

theorem off_mine (B g N keep : Nat) (P : Pd) (w : World) (h : Mine w B g N P) (hkeep : keep < 18446744073709551616) (hr : P.off = false → (playS (keepSel keep) 0 P.late (P.safe, P.ns)).2 ≤ P.room) :
    Calls Try.prog 18 #[.pointer (some ⟨g, 0, none⟩), .int .u64 keep] w (Did B g N (offP P keep) (.tuple #[]) w) := by
  obtain ⟨hB, S, hR, hS⟩ := h
  exact (off_any g N keep S P w hR hkeep hr).mono fun e w' hm => did_of hB hS hm
theorem on_mine (B g N : Nat) (P : Pd) (w : World) (h : Mine w B g N P) :
    Calls Try.prog 16 #[.pointer (some ⟨g, 0, none⟩)] w (Did B g N { P with off := false } (.tuple #[]) w) := by
  obtain ⟨hB, S, hR, hS⟩ := h
  exact (on_any g N S P w hR).mono fun e w' hm => did_of hB hS hm
theorem arm_mine (B g N : Nat) (P : Pd) (n : Int) (k : Nat) (w : World) (h : Mine w B g N P) (hn : n ≤ 9223372036854775807) (hk : k < 18446744073709551616) :
    Calls Try.prog 19 #[.pointer (some ⟨g, 0, none⟩), .int .i64 n, .int .u64 k] w (Did B g N { P with fuse := n.toNat, keep := k } (.tuple #[]) w) := by
  obtain ⟨hB, S, hR, hS⟩ := h
  exact (arm_any g N S P n k w hR hn hk).mono fun e w' hm => did_of hB hS hm
theorem free_mine (B g N : Nat) (P : Pd) (w : World) (h : Mine w B g N P) : Calls Try.prog 28 #[.pointer (some ⟨g, 0, none⟩)] w (Says (.int .i64 ((P.room : Int) - P.nn)) w) := by
  obtain ⟨hB, S, hR, hS⟩ := h
  exact free_any g N S P w hR
theorem read_mine (B g N : Nat) (P : Pd) (s : List UInt8) (i : Int) (w : World) (h : Mine w B g N P) (hs : s.length ≤ 140737488355328) (hi : (Lit.int .i64 i).wf = true) :
    Calls Try.prog 17 #[.pointer (some ⟨g, 0, none⟩), .string ⟨s.toArray⟩, .int .i64 i] w (ReadIs P s i w) := by
  obtain ⟨hB, S, hR, hS⟩ := h
  exact read_disk g N S P s i w hR hs hi
theorem count_mine (B g N : Nat) (P : Pd) (s : List UInt8) (w : World) (h : Mine w B g N P) (hs : s.length ≤ 140737488355328) :
    Calls Try.prog 29 #[.pointer (some ⟨g, 0, none⟩), .string ⟨s.toArray⟩] w (fun e w' => e = .returned (.int .i64 (countR P s : Nat)) ∧ w' = w) := by
  obtain ⟨hB, S, hR, hS⟩ := h
  exact count_any g N S P s w hR hs

end Go.Proofs.Ytbepanhndpkdhaa.Cd
