/-
  More plain facts on numbers as bytes: no Go in sight. Conditions: none.
-/
import Derived.Test.YtabogconbjdcgaaMath
namespace Go.Proofs.Ytabogconbjdcgaa.Cd

/-! ### A number and its opposite less one -/

theorem enc_pair (m : Nat) : ∃ c d r, enc (2 * m) = c :: r ∧ enc (2 * m + 1) = d :: r ∧ c.toNat ^^^ d.toNat = 1 := by
  have hx : ∀ j : Nat, (2 * j) ^^^ (2 * j + 1) = 1 := fun j => by
    apply Nat.eq_of_testBit_eq
    intro i
    cases i with
    | zero => simp [Nat.testBit_zero]
    | succ i =>
      simp only [Nat.testBit_succ, Nat.xor_div_two]
      rw [show 2 * j / 2 = j by omega, show (2 * j + 1) / 2 = j by omega]
      simp
  by_cases h : 2 * m < 128
  · exact ⟨_, _, [], enc_lo h, enc_lo (by omega), by rw [lo8_nat h, lo8_nat (by omega)]; exact hx m⟩
  · refine ⟨hi8 (2 * m), hi8 (2 * m + 1), enc (2 * m / 128), enc_hi (by omega), ?_, ?_⟩
    · rw [enc_hi (by omega), show (2 * m + 1) / 128 = 2 * m / 128 by omega]
    · rw [hi8_nat, hi8_nat]
      have := hx (64 + m % 64)
      rwa [show 2 * (64 + m % 64) = 128 + 2 * m % 128 by omega, show 128 + 2 * m % 128 + 1 = 128 + (2 * m + 1) % 128 by omega] at this

theorem zig_pair (n : Int) : ∃ c d r, enc (zig n) = c :: r ∧ enc (zig (-n - 1)) = d :: r ∧ c.toNat ^^^ d.toNat = 1 := by
  by_cases h : 0 ≤ n
  · obtain ⟨c, d, r, h1, h2, h3⟩ := enc_pair n.toNat
    refine ⟨c, d, r, ?_, ?_, h3⟩
    · rw [← h1]; unfold zig; rw [if_pos h]; congr 1; omega
    · rw [← h2]; unfold zig; rw [if_neg (by omega)]; congr 1; omega
  · obtain ⟨c, d, r, h1, h2, h3⟩ := enc_pair (-n - 1).toNat
    refine ⟨d, c, r, ?_, ?_, by rw [Nat.xor_comm]; exact h3⟩
    · rw [← h2]; unfold zig; rw [if_neg h]; congr 1; omega
    · rw [← h1]; unfold zig; rw [if_pos (by omega)]; congr 1; omega

end Go.Proofs.Ytabogconbjdcgaa.Cd
