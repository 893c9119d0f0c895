/-
  Bytes that are fed in one piece behind the other: the state and the block between two pieces; no Go in sight. Conditions: none.
-/

/-
  Plain facts on numbers as bytes, seven bits a byte: no Go in sight. Conditions: none.
-/
namespace Go.Proofs.YthbahbcihaebeaaDoor.Cd

/-- A byte behind which none follows; one behind which another follows. -/
def lo8 (n : Nat) : UInt8 := UInt8.ofNat n
def hi8 (n : Nat) : UInt8 := UInt8.ofNat (128 + n % 128)

theorem lo8_nat {n : Nat} (h : n < 128) : (lo8 n).toNat = n := by unfold lo8; rw [UInt8.toNat_ofNat']; omega
theorem hi8_nat (n : Nat) : (hi8 n).toNat = 128 + n % 128 := by unfold hi8; rw [UInt8.toNat_ofNat']; omega

/-- A number's bytes. -/
def enc (n : Nat) : List UInt8 := if n < 128 then [lo8 n] else hi8 n :: enc (n / 128)
termination_by n
decreasing_by omega

theorem enc_lo {n : Nat} (h : n < 128) : enc n = [lo8 n] := by rw [enc, if_pos h]
theorem enc_hi {n : Nat} (h : 128 ≤ n) : enc n = hi8 n :: enc (n / 128) := by rw [enc, if_neg (by omega)]

theorem enc_pos (n : Nat) : 1 ≤ (enc n).length := by
  rw [enc]; split <;> simp

theorem enc_mono (m n : Nat) (h : m ≤ n) : (enc m).length ≤ (enc n).length := by
  induction n using Nat.strongRecOn generalizing m with
  | _ n ih =>
    by_cases hm : m < 128
    · rw [enc_lo hm]; exact enc_pos n
    · rw [enc_hi (n := m) (by omega), enc_hi (n := n) (by omega)]
      simp only [List.length_cons]
      have := ih (n / 128) (by omega) (m / 128) (Nat.div_le_div_right h)
      omega

theorem enc_len (k n : Nat) (h : n < 128 ^ k) (hk : 1 ≤ k) : (enc n).length ≤ k := by
  induction k generalizing n with
  | zero => omega
  | succ k ih =>
    by_cases hn : n < 128
    · rw [enc_lo hn]; simp
    · rw [enc_hi (by omega)]
      have hk1 : 1 ≤ k := by
        rcases Nat.eq_zero_or_pos k with rfl | h1
        · simp at h; omega
        · exact h1
      have := ih (n / 128) (by rw [Nat.div_lt_iff_lt_mul (by omega)]; rw [Nat.pow_succ] at h; exact h) hk1
      simp only [List.length_cons]; omega

theorem enc_u64 (n : Nat) (h : n < 18446744073709551616) : (enc n).length ≤ 10 := by
  refine enc_len 10 n (Nat.lt_of_lt_of_le h ?_) (by omega)
  decide

/-- The bytes of a number that may be below 0. -/
def zig (n : Int) : Nat := if 0 ≤ n then (2 * n).toNat else (2 * (-(n + 1)) + 1).toNat

/-! ### Reading a number -/

/-- A byte of a list, as a number; 0 behind the end. -/
def at8 (l : List UInt8) (k : Nat) : Nat := (l.getD k 0).toNat
theorem at8_lt (l : List UInt8) (k : Nat) : at8 l k < 256 := UInt8.toNat_lt _

/-- What the first k bytes say. -/
def val (l : List UInt8) : Nat → Nat
  | 0 => 0
  | k + 1 => val l k + at8 l k % 128 * 128 ^ k

theorem val_lt (l : List UInt8) (k : Nat) : val l k < 128 ^ k := by
  induction k with
  | zero => simp [val]
  | succ k ih =>
    have h : at8 l k % 128 ≤ 127 := by omega
    have h2 : at8 l k % 128 * 128 ^ k ≤ 127 * 128 ^ k := Nat.mul_le_mul_right _ h
    rw [val, Nat.pow_succ]
    omega

/-- How many bytes from the first on are not the last of a number. -/
def stop : List UInt8 → Nat
  | [] => 0
  | c :: r => if c.toNat < 128 then 0 else stop r + 1

theorem stop_le (l : List UInt8) : stop l ≤ l.length := by
  induction l with
  | nil => simp [stop]
  | cons c r ih => rw [stop]; split <;> simp; omega

theorem stop_lo (l : List UInt8) (j : Nat) (h : j < stop l) : 128 ≤ at8 l j := by
  induction l generalizing j with
  | nil => simp [stop] at h
  | cons c r ih =>
    rw [stop] at h
    split at h
    · omega
    · cases j with
      | zero => simp [at8]; omega
      | succ j => have := ih j (by omega); simpa [at8] using this

theorem stop_hi (l : List UInt8) (h : stop l < l.length) : at8 l (stop l) < 128 := by
  induction l with
  | nil => simp at h
  | cons c r ih =>
    rw [stop] at h ⊢
    split
    · simpa [at8]
    · rename_i hc
      rw [if_neg hc] at h
      have := ih (by simpa using h)
      simpa [at8] using this

/-- No byte before k is a last one. -/
def More (l : List UInt8) (k : Nat) : Prop := ∀ j, j < k → 128 ≤ at8 l j

theorem More.zero (l : List UInt8) : More l 0 := fun _ h => absurd h (by omega)
theorem More.succ {l : List UInt8} {k : Nat} (h : More l k) (hk : 128 ≤ at8 l k) : More l (k + 1) := fun j hj => by
  rcases Nat.lt_succ_iff_lt_or_eq.1 hj with h1 | rfl
  · exact h j h1
  · exact hk
theorem More.le {l : List UInt8} {k : Nat} (h : More l k) (hk : k ≤ l.length) : k ≤ stop l := by
  rcases Nat.lt_or_ge (stop l) k with hlt | hge
  · have h1 := h _ hlt
    have h2 := stop_hi l (by omega)
    omega
  · exact hge
theorem More.eq {l : List UInt8} {k : Nat} (h : More l k) (hk : k < l.length) (h8 : at8 l k < 128) : stop l = k := by
  have h1 := h.le (by omega)
  rcases Nat.lt_or_ge k (stop l) with hlt | hge
  · have := stop_lo l k hlt; omega
  · omega

/-- Where no number stands. -/
def Bad (l : List UInt8) : Prop := l.length ≤ stop l ∨ 9 < stop l ∨ (0 < stop l ∧ at8 l (stop l) = 0) ∨ (stop l = 9 ∧ 1 < at8 l 9)

instance (l : List UInt8) : Decidable (Bad l) := by unfold Bad; infer_instance

/-- The number that stands first (0 where none does), and how many bytes it takes (0 where none does). -/
def nv (l : List UInt8) : Nat := if Bad l then 0 else val l (stop l + 1)
def ns (l : List UInt8) : Nat := if Bad l then 0 else stop l + 1

theorem nv_bad {l : List UInt8} (h : Bad l) : nv l = 0 := if_pos h
theorem ns_bad {l : List UInt8} (h : Bad l) : ns l = 0 := if_pos h
theorem nv_good {l : List UInt8} (h : ¬ Bad l) : nv l = val l (stop l + 1) := if_neg h
theorem ns_good {l : List UInt8} (h : ¬ Bad l) : ns l = stop l + 1 := if_neg h
theorem ns_zero {l : List UInt8} : ns l = 0 ↔ Bad l := by
  unfold ns; split <;> simp [*]
theorem ns_le (l : List UInt8) : ns l ≤ l.length := by
  unfold ns
  split
  · omega
  · rename_i h
    unfold Bad at h
    omega
theorem ns_le10 (l : List UInt8) : ns l ≤ 10 := by
  unfold ns
  split
  · omega
  · rename_i h
    unfold Bad at h
    omega

theorem pow7 (k : Nat) : 2 ^ (7 * k) = 128 ^ k := by rw [Nat.pow_mul]

/-- A number's part, shifted up, and down again. -/
def up (p k : Nat) : Nat := p * 2 ^ min (7 * k) 64 % 18446744073709551616
def down (y k : Nat) : Nat := y / 2 ^ min (7 * k) 64

theorem up_lt (p k : Nat) : up p k < 18446744073709551616 := Nat.mod_lt _ (by omega)

theorem up_lo {p k : Nat} (hp : p < 128) (hk : k ≤ 8) : up p k = p * 128 ^ k := by
  unfold up
  rw [Nat.min_eq_left (by omega), pow7]
  have h1 : 128 ^ k ≤ 128 ^ 8 := Nat.pow_le_pow_right (by omega) hk
  have h2 : p * 128 ^ k ≤ 127 * 128 ^ 8 := Nat.mul_le_mul (by omega) h1
  exact Nat.mod_eq_of_lt (Nat.lt_of_le_of_lt h2 (by decide))

theorem down_lo {p k : Nat} (hp : p < 128) (hk : k ≤ 8) : down (up p k) k = p := by
  rw [up_lo hp hk]
  unfold down
  rw [Nat.min_eq_left (by omega), pow7]
  exact Nat.mul_div_cancel _ (Nat.pow_pos (by omega))

theorem up_nine (p : Nat) : up p 9 = p % 2 * 9223372036854775808 := by
  unfold up
  rw [show min (7 * 9) 64 = 63 from rfl]
  omega

theorem down_nine (p : Nat) : down (up p 9) 9 = p % 2 := by
  rw [up_nine]
  unfold down
  rw [show min (7 * 9) 64 = 63 from rfl]
  omega

theorem up_hi (p : Nat) {k : Nat} (hk : 10 ≤ k) : up p k = 0 := by
  unfold up
  rw [Nat.min_eq_right (by omega)]
  omega

theorem down_hi (p : Nat) {k : Nat} (hk : 10 ≤ k) : down (up p k) k = 0 := by
  rw [up_hi p hk]
  unfold down
  simp

theorem or_part {m p k : Nat} (hm : m < 128 ^ k) : m ||| p * 128 ^ k = m + p * 128 ^ k := by
  have h := Nat.two_pow_add_eq_or_of_lt (i := 7 * k) (b := m) (by rwa [pow7]) p
  rw [pow7] at h
  rw [Nat.or_comm, Nat.mul_comm p, ← h]
  omega

section
variable {l : List UInt8} {k m : Nat}

theorem num_zero (hb : More l k) (hk : k < l.length) (h0 : 0 < k) (hz : at8 l k = 0) : Bad l := by
  have := hb.eq hk (by omega)
  exact .inr (.inr (.inl (by rw [this]; exact ⟨h0, hz⟩)))

theorem num_end (hb : More l l.length) : Bad l := .inl (hb.le (Nat.le_refl _))

theorem num_over (hb : More l k) (hk : k < l.length) (ho : down (up (at8 l k % 128) k) k ≠ at8 l k % 128) : Bad l := by
  have hp : at8 l k % 128 < 128 := by omega
  have h9 : 9 ≤ k := by
    rcases Nat.lt_or_ge k 9 with h | h
    · exact absurd (down_lo hp (by omega)) ho
    · exact h
  have hs := hb.le (by omega)
  rcases Nat.lt_or_ge k 10 with h | h
  · obtain rfl : k = 9 := by omega
    rw [down_nine] at ho
    by_cases h8 : at8 l 9 < 128
    · have := hb.eq hk h8
      exact .inr (.inr (.inr ⟨this, by omega⟩))
    · have h10 := (hb.succ (by omega : 128 ≤ at8 l 9)).le (by omega)
      exact .inr (.inl (by omega))
  · exact .inr (.inl (by omega))

theorem num_step (hm : k ≤ 9 → m = val l k) (hk : k ≤ 8) : m ||| up (at8 l k % 128) k = val l (k + 1) := by
  rw [up_lo (by omega) hk, hm (by omega), or_part (val_lt l k), val]

theorem num_done (hb : More l k) (hk : k < l.length) (h8 : at8 l k < 128) (hz : k = 0 ∨ at8 l k ≠ 0) (ho : down (up (at8 l k % 128) k) k = at8 l k % 128) (hm : k ≤ 9 → m = val l k) :
    ¬ Bad l ∧ stop l = k ∧ m ||| up (at8 l k % 128) k = val l (k + 1) := by
  have he := hb.eq hk h8
  have hk9 : k ≤ 9 := by
    rcases Nat.lt_or_ge k 10 with h | h
    · omega
    · rw [down_hi _ h] at ho
      omega
  have h91 : k = 9 → at8 l 9 ≤ 1 := by
    rintro rfl
    rw [down_nine] at ho
    omega
  refine ⟨?_, he, ?_⟩
  · unfold Bad
    rw [he]
    omega
  · rcases Nat.lt_or_ge k 9 with h | h
    · exact num_step hm (by omega)
    · obtain rfl : k = 9 := by omega
      have h1 := h91 rfl
      have h2 := up_nine (at8 l 9 % 128)
      have h3 : at8 l 9 % 128 % 2 = at8 l 9 % 128 := by omega
      rw [h2, h3, hm (by omega), show (9223372036854775808 : Nat) = 128 ^ 9 from by decide, or_part (val_lt l 9)]
      rfl
end

/-! ### What a reader answers, and what it has left: bytes 'bs', fault 'bad' (where there was one nothing is left) -/

def uB (bs : List UInt8) : List UInt8 := if Bad bs then [] else bs.drop (ns bs)
def uX (bs : List UInt8) : Bool := decide (Bad bs)
def zag (n : Nat) : Int := if n % 2 = 1 then -((n / 2 : Nat) : Int) - 1 else ((n / 2 : Nat) : Int)
def InBad (lo hi : Int) (bs : List UInt8) : Prop := Bad bs ∨ zag (nv bs) < lo ∨ hi < zag (nv bs)
instance (lo hi : Int) (bs : List UInt8) : Decidable (InBad lo hi bs) := by unfold InBad; infer_instance
def inV (lo hi : Int) (bs : List UInt8) : Int := if InBad lo hi bs then 0 else zag (nv bs)
def inB (lo hi : Int) (bs : List UInt8) : List UInt8 := if InBad lo hi bs then [] else bs.drop (ns bs)
def inX (lo hi : Int) (bs : List UInt8) : Bool := decide (InBad lo hi bs)
def TkBad (bad : Bool) (n : Int) (bs : List UInt8) : Prop := bad = true ∨ n < 0 ∨ (bs.length : Int) < n
instance (bad : Bool) (n : Int) (bs : List UInt8) : Decidable (TkBad bad n bs) := by unfold TkBad; infer_instance
def tkV (bad : Bool) (n : Int) (bs : List UInt8) : List UInt8 := if TkBad bad n bs then [] else bs.take n.toNat
def tkB (bad : Bool) (n : Int) (bs : List UInt8) : List UInt8 := if TkBad bad n bs then [] else bs.drop n.toNat
def tkX (bad : Bool) (n : Int) (bs : List UInt8) : Bool := decide (TkBad bad n bs)
def TxBad (most : Int) (bs : List UInt8) : Prop := Bad bs ∨ most < 0 ∨ most < (nv bs : Nat) ∨ (bs.drop (ns bs)).length < nv bs
instance (most : Int) (bs : List UInt8) : Decidable (TxBad most bs) := by unfold TxBad; infer_instance
def txV (most : Int) (bs : List UInt8) : List UInt8 := if TxBad most bs then [] else (bs.drop (ns bs)).take (nv bs)
def txB (most : Int) (bs : List UInt8) : List UInt8 := if TxBad most bs then [] else (bs.drop (ns bs)).drop (nv bs)
def txX (most : Int) (bs : List UInt8) : Bool := decide (TxBad most bs)

/-- Behind a fault nothing is left. -/
def Sane (bad : Bool) (bs : List UInt8) : Prop := bad = true → bs = []

theorem bad_nil : Bad [] := .inl (by simp)
theorem Sane.start (bs : List UInt8) : Sane false bs := fun h => by cases h
theorem Sane.u (bs : List UInt8) : Sane (uX bs) (uB bs) := fun h => by unfold uB; rw [if_pos (of_decide_eq_true h)]
theorem Sane.in (lo hi : Int) (bs : List UInt8) : Sane (inX lo hi bs) (inB lo hi bs) := fun h => by unfold inB; rw [if_pos (of_decide_eq_true h)]
theorem Sane.tk (bad : Bool) (n : Int) (bs : List UInt8) : Sane (tkX bad n bs) (tkB bad n bs) := fun h => by unfold tkB; rw [if_pos (of_decide_eq_true h)]
theorem Sane.tx (most : Int) (bs : List UInt8) : Sane (txX most bs) (txB most bs) := fun h => by unfold txB; rw [if_pos (of_decide_eq_true h)]

theorem uB_len (bs : List UInt8) : (uB bs).length ≤ bs.length := by unfold uB; split <;> simp
theorem inB_len (lo hi : Int) (bs : List UInt8) : (inB lo hi bs).length ≤ bs.length := by unfold inB; split <;> simp
theorem tkB_len (bad : Bool) (n : Int) (bs : List UInt8) : (tkB bad n bs).length ≤ bs.length := by unfold tkB; split <;> simp
theorem txB_len (most : Int) (bs : List UInt8) : (txB most bs).length ≤ bs.length := by unfold txB; split <;> simp <;> omega

theorem val_u64 {l : List UInt8} (h : ¬ Bad l) : val l (stop l + 1) < 18446744073709551616 := by
  unfold Bad at h
  have h9 : stop l ≤ 9 := by omega
  rcases Nat.lt_or_ge (stop l) 9 with h1 | h1
  · have h2 := val_lt l (stop l + 1)
    have h3 : 128 ^ (stop l + 1) ≤ 128 ^ 9 := Nat.pow_le_pow_right (by omega) (by omega)
    exact Nat.lt_of_lt_of_le h2 (Nat.le_trans h3 (by decide))
  · have h2 : stop l = 9 := by omega
    have h3 := val_lt l 9
    have h4 : at8 l 9 ≤ 1 := by omega
    have h5 : at8 l 9 % 128 * 128 ^ 9 ≤ 1 * 128 ^ 9 := Nat.mul_le_mul_right _ (by omega)
    rw [h2, val]
    have h6 : 1 * 128 ^ 9 + 128 ^ 9 = 18446744073709551616 := by decide
    omega

theorem nv_u64 (l : List UInt8) : nv l < 18446744073709551616 := by
  unfold nv
  split
  · omega
  · exact val_u64 ‹_›

end Go.Proofs.YthbahbcihaebeaaDoor.Cd

/-
  More plain facts on numbers as bytes: no Go in sight. Conditions: none.
-/
namespace Go.Proofs.YthbahbcihaebeaaDoor.Cd

/-! ### A number and its opposite less one -/

theorem enc_pair (m : Nat) : ∃ c d r, enc (2 * m) = c :: r ∧ enc (2 * m + 1) = d :: r ∧ c.toNat ^^^ d.toNat = 1 := by
  have hx : ∀ j : Nat, (2 * j) ^^^ (2 * j + 1) = 1 := fun j => by
    apply Nat.eq_of_testBit_eq
    intro i
    cases i with
    | zero => simp [Nat.testBit_zero]
    | succ i =>
      simp only [Nat.testBit_succ, Nat.xor_div_two]
      rw [show 2 * j / 2 = j by omega, show (2 * j + 1) / 2 = j by omega]
      simp
  by_cases h : 2 * m < 128
  · exact ⟨_, _, [], enc_lo h, enc_lo (by omega), by rw [lo8_nat h, lo8_nat (by omega)]; exact hx m⟩
  · refine ⟨hi8 (2 * m), hi8 (2 * m + 1), enc (2 * m / 128), enc_hi (by omega), ?_, ?_⟩
    · rw [enc_hi (by omega), show (2 * m + 1) / 128 = 2 * m / 128 by omega]
    · rw [hi8_nat, hi8_nat]
      have := hx (64 + m % 64)
      rwa [show 2 * (64 + m % 64) = 128 + 2 * m % 128 by omega, show 128 + 2 * m % 128 + 1 = 128 + (2 * m + 1) % 128 by omega] at this

theorem zig_pair (n : Int) : ∃ c d r, enc (zig n) = c :: r ∧ enc (zig (-n - 1)) = d :: r ∧ c.toNat ^^^ d.toNat = 1 := by
  by_cases h : 0 ≤ n
  · obtain ⟨c, d, r, h1, h2, h3⟩ := enc_pair n.toNat
    refine ⟨c, d, r, ?_, ?_, h3⟩
    · rw [← h1]; unfold zig; rw [if_pos h]; congr 1; omega
    · rw [← h2]; unfold zig; rw [if_neg (by omega)]; congr 1; omega
  · obtain ⟨c, d, r, h1, h2, h3⟩ := enc_pair (-n - 1).toNat
    refine ⟨d, c, r, ?_, ?_, by rw [Nat.xor_comm]; exact h3⟩
    · rw [← h2]; unfold zig; rw [if_neg h]; congr 1; omega
    · rw [← h1]; unfold zig; rw [if_pos (by omega)]; congr 1; omega

end Go.Proofs.YthbahbcihaebeaaDoor.Cd

/-
  What a number is written as is read back, and only that: no Go in sight. Conditions: none.
-/
namespace Go.Proofs.YthbahbcihaebeaaDoor.Cd

theorem at8_zero (c : UInt8) (r : List UInt8) : at8 (c :: r) 0 = c.toNat := by simp [at8]
theorem at8_succ (c : UInt8) (r : List UInt8) (k : Nat) : at8 (c :: r) (k + 1) = at8 r k := by simp [at8]

theorem val_cons (c : UInt8) (r : List UInt8) (k : Nat) : val (c :: r) (k + 1) = c.toNat % 128 + 128 * val r k := by
  induction k with
  | zero => simp [val, at8_zero]
  | succ k ih =>
    have e : at8 r k % 128 * (128 ^ k * 128) = 128 * (at8 r k % 128 * 128 ^ k) := by rw [← Nat.mul_assoc, Nat.mul_comm]
    rw [val, ih, val, at8_succ, Nat.pow_succ, e, Nat.mul_add, Nat.add_assoc]

theorem stop_lo_cons {c : UInt8} (h : c.toNat < 128) (r : List UInt8) : stop (c :: r) = 0 := by rw [stop, if_pos h]
theorem stop_hi_cons {c : UInt8} (h : 128 ≤ c.toNat) (r : List UInt8) : stop (c :: r) = stop r + 1 := by rw [stop, if_neg (by omega)]

theorem hi8_ge (n : Nat) : 128 ≤ (hi8 n).toNat := by rw [hi8_nat]; omega

theorem stop_enc (n : Nat) (t : List UInt8) : stop (enc n ++ t) + 1 = (enc n).length := by
  induction n using Nat.strongRecOn with
  | _ n ih =>
    by_cases h : n < 128
    · rw [enc_lo h, List.singleton_append, stop_lo_cons (by rw [lo8_nat h]; exact h)]; rfl
    · rw [enc_hi (by omega), List.cons_append, stop_hi_cons (hi8_ge n), List.length_cons, ih (n / 128) (by omega)]

theorem stop_cut (n k : Nat) (h : k < (enc n).length) : stop ((enc n).take k) = k := by
  induction n using Nat.strongRecOn generalizing k with
  | _ n ih =>
    cases k with
    | zero => simp [stop]
    | succ k =>
      by_cases hn : n < 128
      · rw [enc_lo hn] at h; simp at h
      · rw [enc_hi (by omega)] at h ⊢
        rw [List.take_succ_cons, stop_hi_cons (hi8_ge n), ih (n / 128) (by omega) k (by simpa using h)]

theorem last_enc (n : Nat) (t : List UInt8) : at8 (enc n ++ t) (stop (enc n ++ t)) = n / 128 ^ stop (enc n ++ t) := by
  induction n using Nat.strongRecOn with
  | _ n ih =>
    by_cases h : n < 128
    · rw [enc_lo h, List.singleton_append, stop_lo_cons (by rw [lo8_nat h]; exact h), at8_zero, lo8_nat h]; simp
    · rw [enc_hi (by omega), List.cons_append, stop_hi_cons (hi8_ge n), at8_succ, ih (n / 128) (by omega), Nat.div_div_eq_div_mul, Nat.pow_succ, Nat.mul_comm]

theorem last_pos (n : Nat) (hn : 1 ≤ n) (t : List UInt8) : 1 ≤ at8 (enc n ++ t) (stop (enc n ++ t)) := by
  induction n using Nat.strongRecOn with
  | _ n ih =>
    by_cases h : n < 128
    · rw [enc_lo h, List.singleton_append, stop_lo_cons (by rw [lo8_nat h]; exact h), at8_zero, lo8_nat h]; exact hn
    · rw [enc_hi (by omega), List.cons_append, stop_hi_cons (hi8_ge n), at8_succ]
      exact ih (n / 128) (by omega) (by omega)

theorem val_enc (n : Nat) (t : List UInt8) : val (enc n ++ t) (stop (enc n ++ t) + 1) = n := by
  induction n using Nat.strongRecOn with
  | _ n ih =>
    by_cases h : n < 128
    · rw [enc_lo h, List.singleton_append, stop_lo_cons (by rw [lo8_nat h]; exact h), val_cons, lo8_nat h]
      simp [val]; omega
    · rw [enc_hi (by omega), List.cons_append, stop_hi_cons (hi8_ge n), val_cons, ih (n / 128) (by omega), hi8_nat]
      omega

theorem enc_good {n : Nat} (hn : n < 18446744073709551616) (t : List UInt8) : ¬ Bad (enc n ++ t) := by
  have h1 := stop_enc n t
  have h2 := enc_u64 n hn
  have h3 := last_enc n t
  unfold Bad
  rintro (h | h | ⟨h, h0⟩ | ⟨h, h0⟩)
  · rw [List.length_append] at h; omega
  · omega
  · have hn1 : 1 ≤ n := by
      rcases Nat.eq_zero_or_pos n with rfl | h4
      · rw [enc_lo (by omega)] at h1; simp at h1; rw [enc_lo (by omega)] at h; simp at h; omega
      · exact h4
    have := last_pos n hn1 t
    omega
  · rw [h] at h3
    have h9 : (128 : Nat) ^ 9 = 9223372036854775808 := by decide
    rw [h9] at h3
    omega

theorem nv_enc {n : Nat} (hn : n < 18446744073709551616) (t : List UInt8) : nv (enc n ++ t) = n := by rw [nv_good (enc_good hn t), val_enc]
theorem ns_enc {n : Nat} (hn : n < 18446744073709551616) (t : List UInt8) : ns (enc n ++ t) = (enc n).length := by rw [ns_good (enc_good hn t), stop_enc]

theorem cut_bad {n k : Nat} (h : k < (enc n).length) : Bad ((enc n).take k) := by
  refine .inl ?_
  rw [stop_cut n k h, List.length_take]
  omega

theorem uB_enc {n : Nat} (hn : n < 18446744073709551616) (t : List UInt8) : uB (enc n ++ t) = t := by
  unfold uB; rw [if_neg (enc_good hn t), ns_enc hn, List.drop_left]
theorem uX_enc {n : Nat} (hn : n < 18446744073709551616) (t : List UInt8) : uX (enc n ++ t) = false := decide_eq_false (enc_good hn t)

theorem zag_zig (n : Int) : zag (zig n) = n := by
  unfold zag zig
  split <;> split <;> omega

theorem zig_lt {n : Int} (h0 : -9223372036854775808 ≤ n) (h1 : n ≤ 9223372036854775807) : zig n < 18446744073709551616 := by
  unfold zig; split <;> omega

/-! ### One way -/

theorem enc_val (l : List UInt8) (h : stop l < l.length) (hz : at8 l (stop l) ≠ 0) : 1 ≤ val l (stop l + 1) ∧ enc (val l (stop l + 1)) = l.take (stop l + 1) := by
  induction l with
  | nil => simp at h
  | cons c r ih =>
    by_cases hc : c.toNat < 128
    · rw [stop_lo_cons hc] at hz ⊢
      rw [at8_zero] at hz
      have hv : val (c :: r) (0 + 1) = c.toNat := by rw [val_cons]; simp [val]; omega
      rw [hv]
      refine ⟨by omega, ?_⟩
      rw [enc_lo hc]
      simp only [Nat.zero_add, List.take_succ_cons, List.take_zero]
      congr 1
      apply UInt8.toNat_inj.1
      rw [lo8_nat hc]
    · rw [stop_hi_cons (by omega)] at h hz ⊢
      rw [at8_succ] at hz
      obtain ⟨h1, h2⟩ := ih (by simpa using h) hz
      rw [val_cons]
      refine ⟨by omega, ?_⟩
      rw [enc_hi (by omega), List.take_succ_cons, ← h2]
      congr 1
      · apply UInt8.toNat_inj.1
        rw [hi8_nat]
        have := c.toNat_lt
        omega
      · congr 1
        omega

theorem enc_nv {l : List UInt8} (h : ¬ Bad l) : enc (nv l) = l.take (ns l) := by
  rw [nv_good h, ns_good h]
  unfold Bad at h
  by_cases h0 : at8 l (stop l) = 0
  · have hs : stop l = 0 := by omega
    cases l with
    | nil => simp [stop] at h
    | cons c r =>
      rw [hs] at h0 ⊢
      rw [at8_zero] at h0
      have hv : val (c :: r) (0 + 1) = 0 := by rw [val_cons]; simp [val]; omega
      rw [hv, enc_lo (by omega)]
      simp only [Nat.zero_add, List.take_succ_cons, List.take_zero]
      congr 1
      apply UInt8.toNat_inj.1
      rw [lo8_nat (by omega)]
      omega
  · exact (enc_val l (by omega) h0).2

theorem enc_uB {l : List UInt8} (h : ¬ Bad l) : enc (nv l) ++ uB l = l := by
  unfold uB
  rw [if_neg h, enc_nv h, List.take_append_drop]

theorem zig_zag (n : Nat) : zig (zag n) = n := by
  unfold zag zig
  split <;> split <;> omega

end Go.Proofs.YthbahbcihaebeaaDoor.Cd

/-
  A part that is written is read by the same call: no Go in sight. Conditions: none.
-/
namespace Go.Proofs.YthbahbcihaebeaaDoor.Cd

section
variable {n : Nat} (t : List UInt8)

theorem in_enc {z : Int} (h0 : -9223372036854775808 ≤ z) (h1 : z ≤ 9223372036854775807) : ¬ InBad z z (enc (zig z) ++ t) := by
  have h := zig_lt h0 h1
  unfold InBad
  rw [nv_enc h, zag_zig]
  rintro (h2 | h2 | h2)
  · exact enc_good h t h2
  · omega
  · omega
theorem inV_enc {z : Int} (h0 : -9223372036854775808 ≤ z) (h1 : z ≤ 9223372036854775807) : inV z z (enc (zig z) ++ t) = z := by
  unfold inV; rw [if_neg (in_enc t h0 h1), nv_enc (zig_lt h0 h1), zag_zig]
theorem inB_enc {z : Int} (h0 : -9223372036854775808 ≤ z) (h1 : z ≤ 9223372036854775807) : inB z z (enc (zig z) ++ t) = t := by
  unfold inB; rw [if_neg (in_enc t h0 h1), ns_enc (zig_lt h0 h1), List.drop_left]
theorem inX_enc {z : Int} (h0 : -9223372036854775808 ≤ z) (h1 : z ≤ 9223372036854775807) : inX z z (enc (zig z) ++ t) = false := decide_eq_false (in_enc t h0 h1)

theorem tx_enc (s : List UInt8) (hs : s.length < 18446744073709551616) : ¬ TxBad s.length (enc s.length ++ (s ++ t)) := by
  unfold TxBad
  rw [nv_enc hs, ns_enc hs, List.drop_left, List.length_append]
  rintro (h | h | h | h)
  · exact enc_good hs _ h
  · omega
  · omega
  · omega
theorem txV_enc (s : List UInt8) (hs : s.length < 18446744073709551616) : txV s.length (enc s.length ++ (s ++ t)) = s := by
  unfold txV; rw [if_neg (tx_enc t s hs), nv_enc hs, ns_enc hs, List.drop_left, List.take_left]
theorem txB_enc (s : List UInt8) (hs : s.length < 18446744073709551616) : txB s.length (enc s.length ++ (s ++ t)) = t := by
  unfold txB; rw [if_neg (tx_enc t s hs), nv_enc hs, ns_enc hs, List.drop_left, List.drop_left]
theorem txX_enc (s : List UInt8) (hs : s.length < 18446744073709551616) : txX s.length (enc s.length ++ (s ++ t)) = false := decide_eq_false (tx_enc t s hs)

theorem tk_enc (s : List UInt8) : ¬ TkBad false s.length (s ++ t) := by
  unfold TkBad
  rw [List.length_append]
  rintro (h | h | h)
  · cases h
  · omega
  · omega
theorem tkV_enc (s : List UInt8) : tkV false s.length (s ++ t) = s := by
  unfold tkV; rw [if_neg (tk_enc t s), Int.toNat_natCast, List.take_left]
theorem tkB_enc (s : List UInt8) : tkB false s.length (s ++ t) = t := by
  unfold tkB; rw [if_neg (tk_enc t s), Int.toNat_natCast, List.drop_left]
theorem tkX_enc (s : List UInt8) : tkX false s.length (s ++ t) = false := decide_eq_false (tk_enc t s)
end

end Go.Proofs.YthbahbcihaebeaaDoor.Cd

/-
  What was read is written as the bytes that were read: no Go in sight. Conditions: none.
-/
namespace Go.Proofs.YthbahbcihaebeaaDoor.Cd

theorem one_u {bs : List UInt8} (h : uX bs = false) : enc (nv bs) ++ uB bs = bs := enc_uB (of_decide_eq_false h)

theorem one_int {bs : List UInt8} (h : uX bs = false) : enc (zig (zag (nv bs))) ++ uB bs = bs := by rw [zig_zag]; exact one_u h

theorem one_in {lo hi : Int} {bs : List UInt8} (h : inX lo hi bs = false) : enc (zig (inV lo hi bs)) ++ inB lo hi bs = bs := by
  have hn : ¬ InBad lo hi bs := of_decide_eq_false h
  have hb : ¬ Bad bs := fun h => hn (.inl h)
  unfold inV inB
  rw [if_neg hn, if_neg hn, zig_zag, enc_nv hb, List.take_append_drop]

theorem one_tk {bad : Bool} {n : Int} {bs : List UInt8} (h : tkX bad n bs = false) : tkV bad n bs ++ tkB bad n bs = bs := by
  have hn : ¬ TkBad bad n bs := of_decide_eq_false h
  unfold tkV tkB
  rw [if_neg hn, if_neg hn, List.take_append_drop]

theorem one_tx {most : Int} {bs : List UInt8} (h : txX most bs = false) : (enc (txV most bs).length ++ txV most bs) ++ txB most bs = bs := by
  have hn : ¬ TxBad most bs := of_decide_eq_false h
  have hb : ¬ Bad bs := fun h => hn (.inl h)
  have hl : nv bs ≤ (bs.drop (ns bs)).length := Nat.le_of_not_lt (fun h => hn (.inr (.inr (.inr h))))
  unfold txV txB
  rw [if_neg hn, if_neg hn, List.length_take, Nat.min_eq_left hl, enc_nv hb, List.append_assoc, List.take_append_drop, List.take_append_drop]

theorem tkV_len (bad : Bool) (n : Int) (bs : List UInt8) : (tkV bad n bs).length ≤ bs.length := by
  unfold tkV; split <;> simp; omega
theorem txV_len (most : Int) (bs : List UInt8) : (txV most bs).length ≤ bs.length := by
  unfold txV
  split
  · simp
  · rw [List.length_take, List.length_drop]; omega

theorem zag_lt {n : Nat} (h : n < 18446744073709551616) : -9223372036854775808 ≤ zag n ∧ zag n ≤ 9223372036854775807 := by
  unfold zag; split <;> omega

theorem inV_lt {lo hi : Int} {bs : List UInt8} : -9223372036854775808 ≤ inV lo hi bs ∧ inV lo hi bs ≤ 9223372036854775807 := by
  unfold inV
  split
  · omega
  · exact zag_lt (nv_u64 bs)

end Go.Proofs.YthbahbcihaebeaaDoor.Cd

/-
  Blocks of sixty-four bytes, and what stands behind all bytes: no Go in sight. Conditions: none.
-/
namespace Go.Proofs.YthbahbcihaebeaaDoor.Cd

/-- A state behind n blocks. -/
def blks {σ : Type} (mix : σ → List UInt8 → σ) : Nat → σ → List UInt8 → σ
  | 0, s, _ => s
  | n + 1, s, b => blks mix n (mix s (b.take 64)) (b.drop 64)

def zer (n : Nat) : List UInt8 := List.replicate n 0
/-- How many noughts stand between the mark and the length. -/
def gapZ (n : Nat) : Nat := (119 - n % 64) % 64
/-- The length in bits, as eight bytes, the highest first. -/
def tail8 (n : Nat) : List UInt8 := (List.range 8).map fun i => UInt8.ofNat (8 * n / 2 ^ (56 - 8 * i))
/-- Bytes with what stands behind them. -/
def padS (b : List UInt8) : List UInt8 := b ++ 128 :: (zer (gapZ b.length) ++ tail8 b.length)

theorem zer_length (n : Nat) : (zer n).length = n := by simp [zer]
theorem tail8_length (n : Nat) : (tail8 n).length = 8 := by simp [tail8]
theorem padS_length (b : List UInt8) : (padS b).length = b.length + 9 + gapZ b.length := by
  simp [padS, zer_length, tail8_length]
  omega
theorem padS_mod (b : List UInt8) : (padS b).length % 64 = 0 := by
  rw [padS_length]
  unfold gapZ
  omega

theorem blks_add {σ : Type} (mix : σ → List UInt8 → σ) (n m : Nat) (s : σ) (b c : List UInt8) (h : 64 * n ≤ b.length) :
    blks mix (n + m) s (b ++ c) = blks mix m (blks mix n s b) (b.drop (64 * n) ++ c) := by
  induction n generalizing s b with
  | zero => simp [blks]
  | succ n ih =>
    have h1 : 64 ≤ b.length := by omega
    rw [show n + 1 + m = (n + m) + 1 by omega]
    simp only [blks]
    rw [List.take_append_of_le_length h1, List.drop_append_of_le_length h1, ih _ _ (by rw [List.length_drop]; omega), List.drop_drop]
    rw [show 64 + 64 * n = 64 * (n + 1) by omega]

theorem blks_snoc {σ : Type} (mix : σ → List UInt8 → σ) (n : Nat) (s : σ) (b : List UInt8) (h : 64 * n ≤ b.length) :
    blks mix (n + 1) s b = mix (blks mix n s b) ((b.drop (64 * n)).take 64) := by
  have := blks_add mix n 1 s b [] h
  simpa [blks] using this

/-- A state behind bytes of which some fill no block: the whole blocks' state, and the rest. -/
structure Fed (σ : Type) where
  st : σ
  rest : List UInt8

/-- What stands at the end, if the mark and the length fit into the block that is begun. -/
theorem pad_one {σ : Type} (mix : σ → List UInt8 → σ) (n : Nat) (s : σ) (b : List UInt8) (h : 64 * n ≤ b.length) (h2 : b.length ≤ 64 * n + 55) :
    blks mix ((padS b).length / 64) s (padS b) = mix (blks mix n s b) (b.drop (64 * n) ++ 128 :: (zer (55 - (b.length - 64 * n)) ++ tail8 b.length)) := by
  have hg : gapZ b.length = 55 - (b.length - 64 * n) := by unfold gapZ; omega
  have hn : (padS b).length / 64 = n + 1 := by rw [padS_length, hg]; omega
  rw [hn, padS, blks_add mix n 1 s b _ h, hg]
  simp only [blks]
  rw [List.take_of_length_le]
  simp [zer_length, tail8_length]
  omega

/-- Otherwise there is a block more. -/
theorem pad_two {σ : Type} (mix : σ → List UInt8 → σ) (n : Nat) (s : σ) (b : List UInt8) (h : 64 * n + 56 ≤ b.length) (h2 : b.length ≤ 64 * n + 63) :
    blks mix ((padS b).length / 64) s (padS b) = mix (mix (blks mix n s b) (b.drop (64 * n) ++ 128 :: zer (63 - (b.length - 64 * n)))) (zer 56 ++ tail8 b.length) := by
  have hg : gapZ b.length = (63 - (b.length - 64 * n)) + 56 := by unfold gapZ; omega
  have hn : (padS b).length / 64 = n + 2 := by rw [padS_length, hg]; omega
  have hz : zer ((63 - (b.length - 64 * n)) + 56) = zer (63 - (b.length - 64 * n)) ++ zer 56 := by unfold zer; rw [List.replicate_append_replicate]
  rw [hn, padS, blks_add mix n 2 s b _ (by omega), hg, hz]
  have e : b.drop (64 * n) ++ 128 :: (zer (63 - (b.length - 64 * n)) ++ zer 56 ++ tail8 b.length) = (b.drop (64 * n) ++ 128 :: zer (63 - (b.length - 64 * n))) ++ (zer 56 ++ tail8 b.length) := by simp
  have hl : (b.drop (64 * n) ++ 128 :: zer (63 - (b.length - 64 * n))).length = 64 := by
    simp [zer_length]
    omega
  rw [e]
  simp only [blks]
  rw [List.take_append_of_le_length (by omega), List.take_of_length_le (by omega), List.drop_append_of_le_length (by omega), List.drop_of_length_le (l := b.drop (64 * n) ++ 128 :: zer (63 - (b.length - 64 * n))) (by omega), List.nil_append]
  rw [List.take_of_length_le]
  simp [zer_length, tail8_length]

end Go.Proofs.YthbahbcihaebeaaDoor.Cd

/-
  Plain facts on FNV-1a of 64 bits: no Go in sight. Conditions: none.
-/
namespace Go.Proofs.YthbahbcihaebeaaDoor.Cd

/-- A byte more. -/
def stp (s : Nat) (c : UInt8) : Nat := ((s ^^^ c.toNat) * 1099511628211) % 18446744073709551616
/-- Bytes more. -/
def mor (s : Nat) : List UInt8 → Nat
  | [] => s
  | c :: r => mor (stp s c) r
def fnv0 : Nat := 14695981039346656037

theorem stp_lt (s : Nat) (c : UInt8) : stp s c < 18446744073709551616 := Nat.mod_lt _ (by omega)
theorem mor_lt (s : Nat) (l : List UInt8) (h : s < 18446744073709551616) : mor s l < 18446744073709551616 := by
  induction l generalizing s with
  | nil => exact h
  | cons c r ih => exact ih _ (stp_lt s c)
theorem mor_append (s : Nat) (a b : List UInt8) : mor s (a ++ b) = mor (mor s a) b := by
  induction a generalizing s with
  | nil => rfl
  | cons c r ih => exact ih _
theorem mor_snoc (s : Nat) (l : List UInt8) (k : Nat) (h : k < l.length) : mor s (l.take (k + 1)) = stp (mor s (l.take k)) l[k] := by
  rw [List.take_succ_eq_append_getElem h, mor_append]
  rfl

theorem byte_lt64 (c : UInt8) : c.toNat < 18446744073709551616 := by have := c.toNat_lt; omega

/-- The prime has an inverse: what is taken in can be taken back. -/
theorem undo (x : Nat) (h : x < 18446744073709551616) : (x * 1099511628211 % 18446744073709551616) * 14886173955864302971 % 18446744073709551616 = x := by
  rw [Nat.mul_mod, Nat.mod_mod, ← Nat.mul_mod, Nat.mul_assoc, Nat.mul_mod, show 1099511628211 * 14886173955864302971 % 18446744073709551616 = 1 by decide, Nat.mul_one, Nat.mod_mod]
  exact Nat.mod_eq_of_lt h

theorem xor_lt64 {s c : Nat} (h : s < 18446744073709551616) (hc : c < 18446744073709551616) : s ^^^ c < 18446744073709551616 := Nat.xor_lt_two_pow (n := 64) h hc

theorem stp_parts {x y : Nat} {c d : UInt8} (hx : x < 18446744073709551616) (hy : y < 18446744073709551616) (h : stp x c = stp y d) : x ^^^ c.toNat = y ^^^ d.toNat := by
  have e := congrArg (fun z => z * 14886173955864302971 % 18446744073709551616) h
  simp only [stp] at e
  rwa [undo _ (xor_lt64 hx (byte_lt64 c)), undo _ (xor_lt64 hy (byte_lt64 d))] at e

theorem stp_sum {x y : Nat} {c : UInt8} (hx : x < 18446744073709551616) (hy : y < 18446744073709551616) (h : stp x c = stp y c) : x = y := by
  have e := stp_parts hx hy h
  have e2 := congrArg (fun z => z ^^^ c.toNat) e
  simpa [Nat.xor_assoc] using e2

theorem stp_byte {x : Nat} {c d : UInt8} (hx : x < 18446744073709551616) (h : stp x c = stp x d) : c = d := by
  have e := stp_parts hx hx h
  have e2 := congrArg (fun z => x ^^^ z) e
  simp [← Nat.xor_assoc] at e2
  exact UInt8.toNat_inj.1 e2

theorem mor_parts {x y : Nat} (l : List UInt8) (hx : x < 18446744073709551616) (hy : y < 18446744073709551616) : mor x l = mor y l ↔ x = y := by
  induction l generalizing x y with
  | nil => exact Iff.rfl
  | cons c r ih =>
    rw [mor, mor, ih (stp_lt x c) (stp_lt y c)]
    exact ⟨stp_sum hx hy, fun h => by rw [h]⟩

/-- One byte turned: another sum. -/
theorem mor_turned (s : Nat) (hs : s < 18446744073709551616) (l : List UInt8) (k : Nat) (hk : k < l.length) (d : UInt8) (hd : d ≠ l[k]) : mor s (l.set k d) ≠ mor s l := by
  have e : l = l.take k ++ l[k] :: l.drop (k + 1) := by rw [List.getElem_cons_drop, List.take_append_drop]
  have e2 : l.set k d = l.take k ++ d :: l.drop (k + 1) := by
    rw [List.set_eq_take_append_cons_drop, if_pos hk]
  rw [e2]
  intro h
  have h2 : mor s (l.take k ++ d :: l.drop (k + 1)) = mor s (l.take k ++ l[k] :: l.drop (k + 1)) := by
    rw [h]
    exact congrArg (mor s) e
  rw [mor_append, mor_append] at h2
  simp only [mor] at h2
  have h3 := (mor_parts _ (stp_lt _ _) (stp_lt _ _)).1 h2
  exact hd (stp_byte (mor_lt s _ hs) h3)

/-- As the document's answer has a step: the lowest byte alone is turned, and the product is made of parts. -/
theorem xor_low (s : Nat) (c : UInt8) : s - s % 256 + ((s % 256) ^^^ c.toNat) = s ^^^ c.toNat := by
  have hc := c.toNat_lt
  generalize c.toNat = x at hc
  have h1 : (s % 256) ^^^ x < 256 := Nat.xor_lt_two_pow (n := 8) (Nat.mod_lt _ (by omega)) hc
  have h2 : s - s % 256 = 256 * (s / 256) := by omega
  have h3 : (s ^^^ x) / 256 = s / 256 := by
    have := Nat.xor_div_two_pow (a := s) (b := x) (n := 8)
    rw [show (2 : Nat) ^ 8 = 256 from rfl] at this
    rw [this, Nat.div_eq_of_lt hc, Nat.xor_zero]
  have h4 : (s ^^^ x) % 256 = (s % 256) ^^^ x := by
    have := Nat.xor_mod_two_pow (a := s) (b := x) (n := 8)
    rw [show (2 : Nat) ^ 8 = 256 from rfl] at this
    rw [this, Nat.mod_eq_of_lt hc]
  omega

/-- A number that bytes are cut off. -/
def dn (n : Nat) : Nat → Nat
  | 0 => n
  | j + 1 => dn n j / 256
theorem dn_lt (n j : Nat) (h : n < 18446744073709551616) : dn n j < 18446744073709551616 := by
  induction j with
  | zero => exact h
  | succ j ih => simp only [dn]; omega
/-- A number's eight bytes, the highest first. -/
def be8 (n : Nat) : List UInt8 := [UInt8.ofNat (dn n 7), UInt8.ofNat (dn n 6), UInt8.ofNat (dn n 5), UInt8.ofNat (dn n 4), UInt8.ofNat (dn n 3), UInt8.ofNat (dn n 2), UInt8.ofNat (dn n 1), UInt8.ofNat (dn n 0)]

end Go.Proofs.YthbahbcihaebeaaDoor.Cd

/-
  Bytes that are fed in one piece behind the other: the state and the block between two pieces; no Go in sight. Conditions: none.
-/
namespace Go.Proofs.YthbahbcihaebeaaDoor.Cd

section
variable {σ : Type} (mix : σ → List UInt8 → σ) (s0 : σ)

/-- The state of the whole blocks, and the block that isn't whole, with noughts behind it. -/
def stF (P : List UInt8) : σ := blks mix (P.length / 64) s0 P
def blkF (P : List UInt8) : List UInt8 := P.drop (64 * (P.length / 64)) ++ zer (64 - P.length % 64)
theorem blkF_length (P : List UInt8) : (blkF P).length = 64 := by
  simp [blkF, zer_length]
  omega
theorem blks_prefix (n : Nat) (s : σ) (b c : List UInt8) (h : 64 * n ≤ b.length) : blks mix n s (b ++ c) = blks mix n s b := by
  have := blks_add mix n 0 s b c h
  simpa [blks] using this
/-- What a piece's beginning makes of the block. -/
theorem blkF_put (P r : List UInt8) (n : Nat) (hn : n = P.length % 64) :
    (blkF P).take n ++ r.take (64 - n) ++ (blkF P).drop (n + (r.take (64 - n)).length) = P.drop (64 * (P.length / 64)) ++ r.take (64 - n) ++ zer (64 - n - (r.take (64 - n)).length) := by
  have hl : (P.drop (64 * (P.length / 64))).length = n := by rw [List.length_drop]; omega
  have ht : (r.take (64 - n)).length ≤ 64 - n := by rw [List.length_take]; omega
  unfold blkF
  rw [← hn]
  generalize (r.take (64 - n)) = Q at ht ⊢
  generalize P.drop (64 * (P.length / 64)) = R at hl ⊢
  rw [List.take_append_of_le_length (by omega), List.take_of_length_le (by omega), List.drop_append, hl, List.drop_of_length_le (by omega), List.nil_append, show n + Q.length - n = Q.length by omega]
  unfold zer
  rw [List.drop_replicate]
theorem stF_more (P Q : List UInt8) (h : P.length % 64 + Q.length < 64) : stF mix s0 (P ++ Q) = stF mix s0 P := by
  unfold stF
  have e : (P ++ Q).length / 64 = P.length / 64 := by rw [List.length_append]; omega
  rw [e, blks_prefix mix _ _ _ _ (by omega)]
theorem blkF_more (P Q : List UInt8) (h : P.length % 64 + Q.length < 64) : blkF (P ++ Q) = P.drop (64 * (P.length / 64)) ++ Q ++ zer (64 - P.length % 64 - Q.length) := by
  unfold blkF
  have e : (P ++ Q).length / 64 = P.length / 64 := by rw [List.length_append]; omega
  rw [e, List.drop_append_of_le_length (by omega)]
  congr 2
  rw [List.length_append]
  omega
theorem stF_full (P Q : List UInt8) (h : P.length % 64 + Q.length = 64) : stF mix s0 (P ++ Q) = mix (stF mix s0 P) (P.drop (64 * (P.length / 64)) ++ Q) := by
  unfold stF
  have e : (P ++ Q).length / 64 = P.length / 64 + 1 := by rw [List.length_append]; omega
  rw [e, blks_snoc mix _ _ _ (by rw [List.length_append]; omega), blks_prefix mix _ _ _ _ (by omega), List.drop_append_of_le_length (by omega), List.take_of_length_le]
  simp
  omega
theorem blkF_full (P Q : List UInt8) (h : P.length % 64 + Q.length = 64) : blkF (P ++ Q) = zer 64 := by
  unfold blkF
  have e : (P ++ Q).length = 64 * ((P ++ Q).length / 64) := by rw [List.length_append]; omega
  rw [List.drop_of_length_le (by omega), show (P ++ Q).length % 64 = 0 by omega]
  rfl

/-- A piece bs behind P, of which r is left: the state, the block, how much of it is used. -/
def FedTo (P bs r : List UInt8) (S : σ) (B : List UInt8) (n : Nat) : Prop := ∃ Q, Q ++ r = bs ∧ S = stF mix s0 (P ++ Q) ∧ B = blkF (P ++ Q) ∧ n = (P ++ Q).length % 64
theorem FedTo.start (P bs : List UInt8) : FedTo mix s0 P bs bs (stF mix s0 P) (blkF P) (P.length % 64) := ⟨[], rfl, by rw [List.append_nil], by rw [List.append_nil], by rw [List.append_nil]⟩
variable {mix s0}
theorem FedTo.more {P bs r B : List UInt8} {S : σ} {n : Nat} (h : FedTo mix s0 P bs r S B n) {m : Nat} (hm : Nat.min r.length (64 - n) = m) (hf : n + m < 64) :
    FedTo mix s0 P bs (r.drop m) S (B.take n ++ r.take (64 - n) ++ B.drop (n + (r.take (64 - n)).length)) (n + m) := by
  obtain ⟨Q, h1, rfl, rfl, h4⟩ := h
  have hm2 : m = r.length := by have : m = min r.length (64 - n) := hm.symm; omega
  have ht : r.take (64 - n) = r := List.take_of_length_le (by omega)
  refine ⟨Q ++ r, ?_, ?_, ?_, ?_⟩
  · rw [hm2, List.drop_length, List.append_nil]; exact h1
  · rw [← List.append_assoc, stF_more mix s0 (P ++ Q) r (by omega)]
  · rw [← List.append_assoc, blkF_more (P ++ Q) r (by omega), blkF_put _ _ n h4, ht, h4]
  · rw [← List.append_assoc, List.length_append (as := P ++ Q)]; omega
theorem FedTo.full {P bs r B : List UInt8} {S : σ} {n : Nat} (h : FedTo mix s0 P bs r S B n) {m : Nat} (hm : Nat.min r.length (64 - n) = m) (hf : n + m = 64) :
    FedTo mix s0 P bs (r.drop m) (mix S (B.take n ++ r.take (64 - n) ++ B.drop (n + (r.take (64 - n)).length))) (zer 64) 0 := by
  obtain ⟨Q, h1, rfl, rfl, h4⟩ := h
  have hm2 : m = min r.length (64 - n) := hm.symm
  have hl : (r.take (64 - n)).length = m := by rw [List.length_take]; omega
  have e64 : r.take (64 - n) = r.take m := by rw [show 64 - n = m by omega]
  refine ⟨Q ++ r.take m, ?_, ?_, ?_, ?_⟩
  · rw [List.append_assoc, List.take_append_drop]; exact h1
  · rw [← List.append_assoc, stF_full mix s0 (P ++ Q) (r.take m) (by rw [← e64, hl]; omega), blkF_put (P ++ Q) r n h4, hl, show 64 - n - m = 0 by omega, e64]
    simp [zer]
  · rw [← List.append_assoc, blkF_full (P ++ Q) (r.take m) (by rw [← e64, hl]; omega)]
  · rw [← List.append_assoc, List.length_append (as := P ++ Q), ← e64, hl]; omega
theorem FedTo.done {P bs r B : List UInt8} {S : σ} {n : Nat} (h : FedTo mix s0 P bs r S B n) (hr : r.length = 0) : S = stF mix s0 (P ++ bs) ∧ B = blkF (P ++ bs) ∧ n = (P ++ bs).length % 64 := by
  obtain ⟨Q, h1, h2, h3, h4⟩ := h
  obtain rfl : r = [] := List.length_eq_zero_iff.1 hr
  rw [List.append_nil] at h1
  subst h1
  exact ⟨h2, h3, h4⟩
variable (mix s0)
/-- A whole digest's state. -/
def endF (P : List UInt8) : σ := blks mix ((padS P).length / 64) s0 (padS P)
theorem endF_few (P : List UInt8) (h : (P ++ [128]).length % 64 ≤ 56) : endF mix s0 P = mix (stF mix s0 (P ++ [128])) ((blkF (P ++ [128])).take 56 ++ tail8 P.length) := by
  have hl : (P ++ [128]).length = P.length + 1 := by simp
  rw [hl] at h
  by_cases h0 : P.length % 64 = 63
  · rw [blkF_full P [128] (by simp; omega), stF_full mix s0 P [128] (by simp; omega)]
    have := pad_two mix (P.length / 64) s0 P (by omega) (by omega)
    rw [show 63 - (P.length - 64 * (P.length / 64)) = 0 by omega] at this
    exact this
  · rw [stF_more mix s0 P [128] (by simp; omega), blkF_more P [128] (by simp; omega)]
    have := pad_one mix (P.length / 64) s0 P (by omega) (by omega)
    rw [show 55 - (P.length - 64 * (P.length / 64)) = 55 - P.length % 64 by omega] at this
    unfold endF stF
    rw [this]
    congr 1
    have hd : (P.drop (64 * (P.length / 64)) ++ [128]).length = P.length % 64 + 1 := by simp; omega
    rw [List.take_append, hd, List.take_of_length_le (by omega)]
    simp [zer, List.take_replicate]
    congr 1
    omega
theorem endF_many (P : List UInt8) (h : 56 < (P ++ [128]).length % 64) : endF mix s0 P = mix (mix (stF mix s0 (P ++ [128])) (blkF (P ++ [128]))) ((zer 64).take 56 ++ tail8 P.length) := by
  have hl : (P ++ [128]).length = P.length + 1 := by simp
  rw [hl] at h
  rw [stF_more mix s0 P [128] (by simp; omega), blkF_more P [128] (by simp; omega)]
  have := pad_two mix (P.length / 64) s0 P (by omega) (by omega)
  rw [show 63 - (P.length - 64 * (P.length / 64)) = 63 - P.length % 64 by omega] at this
  unfold endF stF
  rw [this]
  congr 2
  simp
  congr 1
  omega
end
theorem put_tail (B : List UInt8) (k : Nat) (hk : k < B.length) (c : UInt8) : (B.set k c).take (k + 1) = B.take k ++ [c] := by
  rw [List.take_add_one, List.getElem?_set_self hk, List.take_set_of_le (Nat.le_refl _)]
  rfl
theorem tail8_at (n k : Nat) (hk : k < 8) : (tail8 n).take (k + 1) = (tail8 n).take k ++ [UInt8.ofNat (8 * n / 2 ^ (56 - 8 * k))] := by
  rw [List.take_add_one]
  congr 1
  unfold tail8
  rw [List.getElem?_map, List.getElem?_range hk]
  rfl

end Go.Proofs.YthbahbcihaebeaaDoor.Cd
