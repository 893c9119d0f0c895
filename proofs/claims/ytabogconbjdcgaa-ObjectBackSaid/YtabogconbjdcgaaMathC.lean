/-
  What a number is written as is read back, and only that: no Go in sight. Conditions: none.
-/
import Derived.Test.YtabogconbjdcgaaMathB
namespace Go.Proofs.Ytabogconbjdcgaa.Cd

theorem at8_zero (c : UInt8) (r : List UInt8) : at8 (c :: r) 0 = c.toNat := by simp [at8]
theorem at8_succ (c : UInt8) (r : List UInt8) (k : Nat) : at8 (c :: r) (k + 1) = at8 r k := by simp [at8]

theorem val_cons (c : UInt8) (r : List UInt8) (k : Nat) : val (c :: r) (k + 1) = c.toNat % 128 + 128 * val r k := by
  induction k with
  | zero => simp [val, at8_zero]
  | succ k ih =>
    have e : at8 r k % 128 * (128 ^ k * 128) = 128 * (at8 r k % 128 * 128 ^ k) := by rw [← Nat.mul_assoc, Nat.mul_comm]
    rw [val, ih, val, at8_succ, Nat.pow_succ, e, Nat.mul_add, Nat.add_assoc]

theorem stop_lo_cons {c : UInt8} (h : c.toNat < 128) (r : List UInt8) : stop (c :: r) = 0 := by rw [stop, if_pos h]
theorem stop_hi_cons {c : UInt8} (h : 128 ≤ c.toNat) (r : List UInt8) : stop (c :: r) = stop r + 1 := by rw [stop, if_neg (by omega)]

theorem hi8_ge (n : Nat) : 128 ≤ (hi8 n).toNat := by rw [hi8_nat]; omega

theorem stop_enc (n : Nat) (t : List UInt8) : stop (enc n ++ t) + 1 = (enc n).length := by
  induction n using Nat.strongRecOn with
  | _ n ih =>
    by_cases h : n < 128
    · rw [enc_lo h, List.singleton_append, stop_lo_cons (by rw [lo8_nat h]; exact h)]; rfl
    · rw [enc_hi (by omega), List.cons_append, stop_hi_cons (hi8_ge n), List.length_cons, ih (n / 128) (by omega)]

theorem stop_cut (n k : Nat) (h : k < (enc n).length) : stop ((enc n).take k) = k := by
  induction n using Nat.strongRecOn generalizing k with
  | _ n ih =>
    cases k with
    | zero => simp [stop]
    | succ k =>
      by_cases hn : n < 128
      · rw [enc_lo hn] at h; simp at h
      · rw [enc_hi (by omega)] at h ⊢
        rw [List.take_succ_cons, stop_hi_cons (hi8_ge n), ih (n / 128) (by omega) k (by simpa using h)]

theorem last_enc (n : Nat) (t : List UInt8) : at8 (enc n ++ t) (stop (enc n ++ t)) = n / 128 ^ stop (enc n ++ t) := by
  induction n using Nat.strongRecOn with
  | _ n ih =>
    by_cases h : n < 128
    · rw [enc_lo h, List.singleton_append, stop_lo_cons (by rw [lo8_nat h]; exact h), at8_zero, lo8_nat h]; simp
    · rw [enc_hi (by omega), List.cons_append, stop_hi_cons (hi8_ge n), at8_succ, ih (n / 128) (by omega), Nat.div_div_eq_div_mul, Nat.pow_succ, Nat.mul_comm]

theorem last_pos (n : Nat) (hn : 1 ≤ n) (t : List UInt8) : 1 ≤ at8 (enc n ++ t) (stop (enc n ++ t)) := by
  induction n using Nat.strongRecOn with
  | _ n ih =>
    by_cases h : n < 128
    · rw [enc_lo h, List.singleton_append, stop_lo_cons (by rw [lo8_nat h]; exact h), at8_zero, lo8_nat h]; exact hn
    · rw [enc_hi (by omega), List.cons_append, stop_hi_cons (hi8_ge n), at8_succ]
      exact ih (n / 128) (by omega) (by omega)

theorem val_enc (n : Nat) (t : List UInt8) : val (enc n ++ t) (stop (enc n ++ t) + 1) = n := by
  induction n using Nat.strongRecOn with
  | _ n ih =>
    by_cases h : n < 128
    · rw [enc_lo h, List.singleton_append, stop_lo_cons (by rw [lo8_nat h]; exact h), val_cons, lo8_nat h]
      simp [val]; omega
    · rw [enc_hi (by omega), List.cons_append, stop_hi_cons (hi8_ge n), val_cons, ih (n / 128) (by omega), hi8_nat]
      omega

theorem enc_good {n : Nat} (hn : n < 18446744073709551616) (t : List UInt8) : ¬ Bad (enc n ++ t) := by
  have h1 := stop_enc n t
  have h2 := enc_u64 n hn
  have h3 := last_enc n t
  unfold Bad
  rintro (h | h | ⟨h, h0⟩ | ⟨h, h0⟩)
  · rw [List.length_append] at h; omega
  · omega
  · have hn1 : 1 ≤ n := by
      rcases Nat.eq_zero_or_pos n with rfl | h4
      · rw [enc_lo (by omega)] at h1; simp at h1; rw [enc_lo (by omega)] at h; simp at h; omega
      · exact h4
    have := last_pos n hn1 t
    omega
  · rw [h] at h3
    have h9 : (128 : Nat) ^ 9 = 9223372036854775808 := by decide
    rw [h9] at h3
    omega

theorem nv_enc {n : Nat} (hn : n < 18446744073709551616) (t : List UInt8) : nv (enc n ++ t) = n := by rw [nv_good (enc_good hn t), val_enc]
theorem ns_enc {n : Nat} (hn : n < 18446744073709551616) (t : List UInt8) : ns (enc n ++ t) = (enc n).length := by rw [ns_good (enc_good hn t), stop_enc]

theorem cut_bad {n k : Nat} (h : k < (enc n).length) : Bad ((enc n).take k) := by
  refine .inl ?_
  rw [stop_cut n k h, List.length_take]
  omega

theorem uB_enc {n : Nat} (hn : n < 18446744073709551616) (t : List UInt8) : uB (enc n ++ t) = t := by
  unfold uB; rw [if_neg (enc_good hn t), ns_enc hn, List.drop_left]
theorem uX_enc {n : Nat} (hn : n < 18446744073709551616) (t : List UInt8) : uX (enc n ++ t) = false := decide_eq_false (enc_good hn t)

theorem zag_zig (n : Int) : zag (zig n) = n := by
  unfold zag zig
  split <;> split <;> omega

theorem zig_lt {n : Int} (h0 : -9223372036854775808 ≤ n) (h1 : n ≤ 9223372036854775807) : zig n < 18446744073709551616 := by
  unfold zig; split <;> omega

/-! ### One way -/

theorem enc_val (l : List UInt8) (h : stop l < l.length) (hz : at8 l (stop l) ≠ 0) : 1 ≤ val l (stop l + 1) ∧ enc (val l (stop l + 1)) = l.take (stop l + 1) := by
  induction l with
  | nil => simp at h
  | cons c r ih =>
    by_cases hc : c.toNat < 128
    · rw [stop_lo_cons hc] at hz ⊢
      rw [at8_zero] at hz
      have hv : val (c :: r) (0 + 1) = c.toNat := by rw [val_cons]; simp [val]; omega
      rw [hv]
      refine ⟨by omega, ?_⟩
      rw [enc_lo hc]
      simp only [Nat.zero_add, List.take_succ_cons, List.take_zero]
      congr 1
      apply UInt8.toNat_inj.1
      rw [lo8_nat hc]
    · rw [stop_hi_cons (by omega)] at h hz ⊢
      rw [at8_succ] at hz
      obtain ⟨h1, h2⟩ := ih (by simpa using h) hz
      rw [val_cons]
      refine ⟨by omega, ?_⟩
      rw [enc_hi (by omega), List.take_succ_cons, ← h2]
      congr 1
      · apply UInt8.toNat_inj.1
        rw [hi8_nat]
        have := c.toNat_lt
        omega
      · congr 1
        omega

theorem enc_nv {l : List UInt8} (h : ¬ Bad l) : enc (nv l) = l.take (ns l) := by
  rw [nv_good h, ns_good h]
  unfold Bad at h
  by_cases h0 : at8 l (stop l) = 0
  · have hs : stop l = 0 := by omega
    cases l with
    | nil => simp [stop] at h
    | cons c r =>
      rw [hs] at h0 ⊢
      rw [at8_zero] at h0
      have hv : val (c :: r) (0 + 1) = 0 := by rw [val_cons]; simp [val]; omega
      rw [hv, enc_lo (by omega)]
      simp only [Nat.zero_add, List.take_succ_cons, List.take_zero]
      congr 1
      apply UInt8.toNat_inj.1
      rw [lo8_nat (by omega)]
      omega
  · exact (enc_val l (by omega) h0).2

theorem enc_uB {l : List UInt8} (h : ¬ Bad l) : enc (nv l) ++ uB l = l := by
  unfold uB
  rw [if_neg h, enc_nv h, List.take_append_drop]

theorem zig_zag (n : Nat) : zig (zag n) = n := by
  unfold zag zig
  split <;> split <;> omega

end Go.Proofs.Ytabogconbjdcgaa.Cd
