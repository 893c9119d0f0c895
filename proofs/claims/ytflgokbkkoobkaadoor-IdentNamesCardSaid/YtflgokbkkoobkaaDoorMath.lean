/-
  Plain facts on numbers as bytes, seven bits a byte: no Go in sight. Conditions: none.
-/
namespace Go.Proofs.YtflgokbkkoobkaaDoor.Cd

/-- A byte behind which none follows; one behind which another follows. -/
def lo8 (n : Nat) : UInt8 := UInt8.ofNat n
def hi8 (n : Nat) : UInt8 := UInt8.ofNat (128 + n % 128)

theorem lo8_nat {n : Nat} (h : n < 128) : (lo8 n).toNat = n := by unfold lo8; rw [UInt8.toNat_ofNat']; omega
theorem hi8_nat (n : Nat) : (hi8 n).toNat = 128 + n % 128 := by unfold hi8; rw [UInt8.toNat_ofNat']; omega

/-- A number's bytes. -/
def enc (n : Nat) : List UInt8 := if n < 128 then [lo8 n] else hi8 n :: enc (n / 128)
termination_by n
decreasing_by omega

theorem enc_lo {n : Nat} (h : n < 128) : enc n = [lo8 n] := by rw [enc, if_pos h]
theorem enc_hi {n : Nat} (h : 128 ≤ n) : enc n = hi8 n :: enc (n / 128) := by rw [enc, if_neg (by omega)]

theorem enc_pos (n : Nat) : 1 ≤ (enc n).length := by
  rw [enc]; split <;> simp

theorem enc_mono (m n : Nat) (h : m ≤ n) : (enc m).length ≤ (enc n).length := by
  induction n using Nat.strongRecOn generalizing m with
  | _ n ih =>
    by_cases hm : m < 128
    · rw [enc_lo hm]; exact enc_pos n
    · rw [enc_hi (n := m) (by omega), enc_hi (n := n) (by omega)]
      simp only [List.length_cons]
      have := ih (n / 128) (by omega) (m / 128) (Nat.div_le_div_right h)
      omega

theorem enc_len (k n : Nat) (h : n < 128 ^ k) (hk : 1 ≤ k) : (enc n).length ≤ k := by
  induction k generalizing n with
  | zero => omega
  | succ k ih =>
    by_cases hn : n < 128
    · rw [enc_lo hn]; simp
    · rw [enc_hi (by omega)]
      have hk1 : 1 ≤ k := by
        rcases Nat.eq_zero_or_pos k with rfl | h1
        · simp at h; omega
        · exact h1
      have := ih (n / 128) (by rw [Nat.div_lt_iff_lt_mul (by omega)]; rw [Nat.pow_succ] at h; exact h) hk1
      simp only [List.length_cons]; omega

theorem enc_u64 (n : Nat) (h : n < 18446744073709551616) : (enc n).length ≤ 10 := by
  refine enc_len 10 n (Nat.lt_of_lt_of_le h ?_) (by omega)
  decide

/-- The bytes of a number that may be below 0. -/
def zig (n : Int) : Nat := if 0 ≤ n then (2 * n).toNat else (2 * (-(n + 1)) + 1).toNat

/-! ### Reading a number -/

/-- A byte of a list, as a number; 0 behind the end. -/
def at8 (l : List UInt8) (k : Nat) : Nat := (l.getD k 0).toNat
theorem at8_lt (l : List UInt8) (k : Nat) : at8 l k < 256 := UInt8.toNat_lt _

/-- What the first k bytes say. -/
def val (l : List UInt8) : Nat → Nat
  | 0 => 0
  | k + 1 => val l k + at8 l k % 128 * 128 ^ k

theorem val_lt (l : List UInt8) (k : Nat) : val l k < 128 ^ k := by
  induction k with
  | zero => simp [val]
  | succ k ih =>
    have h : at8 l k % 128 ≤ 127 := by omega
    have h2 : at8 l k % 128 * 128 ^ k ≤ 127 * 128 ^ k := Nat.mul_le_mul_right _ h
    rw [val, Nat.pow_succ]
    omega

/-- How many bytes from the first on are not the last of a number. -/
def stop : List UInt8 → Nat
  | [] => 0
  | c :: r => if c.toNat < 128 then 0 else stop r + 1

theorem stop_le (l : List UInt8) : stop l ≤ l.length := by
  induction l with
  | nil => simp [stop]
  | cons c r ih => rw [stop]; split <;> simp; omega

theorem stop_lo (l : List UInt8) (j : Nat) (h : j < stop l) : 128 ≤ at8 l j := by
  induction l generalizing j with
  | nil => simp [stop] at h
  | cons c r ih =>
    rw [stop] at h
    split at h
    · omega
    · cases j with
      | zero => simp [at8]; omega
      | succ j => have := ih j (by omega); simpa [at8] using this

theorem stop_hi (l : List UInt8) (h : stop l < l.length) : at8 l (stop l) < 128 := by
  induction l with
  | nil => simp at h
  | cons c r ih =>
    rw [stop] at h ⊢
    split
    · simpa [at8]
    · rename_i hc
      rw [if_neg hc] at h
      have := ih (by simpa using h)
      simpa [at8] using this

/-- No byte before k is a last one. -/
def More (l : List UInt8) (k : Nat) : Prop := ∀ j, j < k → 128 ≤ at8 l j

theorem More.zero (l : List UInt8) : More l 0 := fun _ h => absurd h (by omega)
theorem More.succ {l : List UInt8} {k : Nat} (h : More l k) (hk : 128 ≤ at8 l k) : More l (k + 1) := fun j hj => by
  rcases Nat.lt_succ_iff_lt_or_eq.1 hj with h1 | rfl
  · exact h j h1
  · exact hk
theorem More.le {l : List UInt8} {k : Nat} (h : More l k) (hk : k ≤ l.length) : k ≤ stop l := by
  rcases Nat.lt_or_ge (stop l) k with hlt | hge
  · have h1 := h _ hlt
    have h2 := stop_hi l (by omega)
    omega
  · exact hge
theorem More.eq {l : List UInt8} {k : Nat} (h : More l k) (hk : k < l.length) (h8 : at8 l k < 128) : stop l = k := by
  have h1 := h.le (by omega)
  rcases Nat.lt_or_ge k (stop l) with hlt | hge
  · have := stop_lo l k hlt; omega
  · omega

/-- Where no number stands. -/
def Bad (l : List UInt8) : Prop := l.length ≤ stop l ∨ 9 < stop l ∨ (0 < stop l ∧ at8 l (stop l) = 0) ∨ (stop l = 9 ∧ 1 < at8 l 9)

instance (l : List UInt8) : Decidable (Bad l) := by unfold Bad; infer_instance

/-- The number that stands first (0 where none does), and how many bytes it takes (0 where none does). -/
def nv (l : List UInt8) : Nat := if Bad l then 0 else val l (stop l + 1)
def ns (l : List UInt8) : Nat := if Bad l then 0 else stop l + 1

theorem nv_bad {l : List UInt8} (h : Bad l) : nv l = 0 := if_pos h
theorem ns_bad {l : List UInt8} (h : Bad l) : ns l = 0 := if_pos h
theorem nv_good {l : List UInt8} (h : ¬ Bad l) : nv l = val l (stop l + 1) := if_neg h
theorem ns_good {l : List UInt8} (h : ¬ Bad l) : ns l = stop l + 1 := if_neg h
theorem ns_zero {l : List UInt8} : ns l = 0 ↔ Bad l := by
  unfold ns; split <;> simp [*]
theorem ns_le (l : List UInt8) : ns l ≤ l.length := by
  unfold ns
  split
  · omega
  · rename_i h
    unfold Bad at h
    omega
theorem ns_le10 (l : List UInt8) : ns l ≤ 10 := by
  unfold ns
  split
  · omega
  · rename_i h
    unfold Bad at h
    omega

theorem pow7 (k : Nat) : 2 ^ (7 * k) = 128 ^ k := by rw [Nat.pow_mul]

/-- A number's part, shifted up, and down again. -/
def up (p k : Nat) : Nat := p * 2 ^ min (7 * k) 64 % 18446744073709551616
def down (y k : Nat) : Nat := y / 2 ^ min (7 * k) 64

theorem up_lt (p k : Nat) : up p k < 18446744073709551616 := Nat.mod_lt _ (by omega)

theorem up_lo {p k : Nat} (hp : p < 128) (hk : k ≤ 8) : up p k = p * 128 ^ k := by
  unfold up
  rw [Nat.min_eq_left (by omega), pow7]
  have h1 : 128 ^ k ≤ 128 ^ 8 := Nat.pow_le_pow_right (by omega) hk
  have h2 : p * 128 ^ k ≤ 127 * 128 ^ 8 := Nat.mul_le_mul (by omega) h1
  exact Nat.mod_eq_of_lt (Nat.lt_of_le_of_lt h2 (by decide))

theorem down_lo {p k : Nat} (hp : p < 128) (hk : k ≤ 8) : down (up p k) k = p := by
  rw [up_lo hp hk]
  unfold down
  rw [Nat.min_eq_left (by omega), pow7]
  exact Nat.mul_div_cancel _ (Nat.pow_pos (by omega))

theorem up_nine (p : Nat) : up p 9 = p % 2 * 9223372036854775808 := by
  unfold up
  rw [show min (7 * 9) 64 = 63 from rfl]
  omega

theorem down_nine (p : Nat) : down (up p 9) 9 = p % 2 := by
  rw [up_nine]
  unfold down
  rw [show min (7 * 9) 64 = 63 from rfl]
  omega

theorem up_hi (p : Nat) {k : Nat} (hk : 10 ≤ k) : up p k = 0 := by
  unfold up
  rw [Nat.min_eq_right (by omega)]
  omega

theorem down_hi (p : Nat) {k : Nat} (hk : 10 ≤ k) : down (up p k) k = 0 := by
  rw [up_hi p hk]
  unfold down
  simp

theorem or_part {m p k : Nat} (hm : m < 128 ^ k) : m ||| p * 128 ^ k = m + p * 128 ^ k := by
  have h := Nat.two_pow_add_eq_or_of_lt (i := 7 * k) (b := m) (by rwa [pow7]) p
  rw [pow7] at h
  rw [Nat.or_comm, Nat.mul_comm p, ← h]
  omega

section
variable {l : List UInt8} {k m : Nat}

theorem num_zero (hb : More l k) (hk : k < l.length) (h0 : 0 < k) (hz : at8 l k = 0) : Bad l := by
  have := hb.eq hk (by omega)
  exact .inr (.inr (.inl (by rw [this]; exact ⟨h0, hz⟩)))

theorem num_end (hb : More l l.length) : Bad l := .inl (hb.le (Nat.le_refl _))

theorem num_over (hb : More l k) (hk : k < l.length) (ho : down (up (at8 l k % 128) k) k ≠ at8 l k % 128) : Bad l := by
  have hp : at8 l k % 128 < 128 := by omega
  have h9 : 9 ≤ k := by
    rcases Nat.lt_or_ge k 9 with h | h
    · exact absurd (down_lo hp (by omega)) ho
    · exact h
  have hs := hb.le (by omega)
  rcases Nat.lt_or_ge k 10 with h | h
  · obtain rfl : k = 9 := by omega
    rw [down_nine] at ho
    by_cases h8 : at8 l 9 < 128
    · have := hb.eq hk h8
      exact .inr (.inr (.inr ⟨this, by omega⟩))
    · have h10 := (hb.succ (by omega : 128 ≤ at8 l 9)).le (by omega)
      exact .inr (.inl (by omega))
  · exact .inr (.inl (by omega))

theorem num_step (hm : k ≤ 9 → m = val l k) (hk : k ≤ 8) : m ||| up (at8 l k % 128) k = val l (k + 1) := by
  rw [up_lo (by omega) hk, hm (by omega), or_part (val_lt l k), val]

theorem num_done (hb : More l k) (hk : k < l.length) (h8 : at8 l k < 128) (hz : k = 0 ∨ at8 l k ≠ 0) (ho : down (up (at8 l k % 128) k) k = at8 l k % 128) (hm : k ≤ 9 → m = val l k) :
    ¬ Bad l ∧ stop l = k ∧ m ||| up (at8 l k % 128) k = val l (k + 1) := by
  have he := hb.eq hk h8
  have hk9 : k ≤ 9 := by
    rcases Nat.lt_or_ge k 10 with h | h
    · omega
    · rw [down_hi _ h] at ho
      omega
  have h91 : k = 9 → at8 l 9 ≤ 1 := by
    rintro rfl
    rw [down_nine] at ho
    omega
  refine ⟨?_, he, ?_⟩
  · unfold Bad
    rw [he]
    omega
  · rcases Nat.lt_or_ge k 9 with h | h
    · exact num_step hm (by omega)
    · obtain rfl : k = 9 := by omega
      have h1 := h91 rfl
      have h2 := up_nine (at8 l 9 % 128)
      have h3 : at8 l 9 % 128 % 2 = at8 l 9 % 128 := by omega
      rw [h2, h3, hm (by omega), show (9223372036854775808 : Nat) = 128 ^ 9 from by decide, or_part (val_lt l 9)]
      rfl
end

/-! ### What a reader answers, and what it has left: bytes 'bs', fault 'bad' (where there was one nothing is left) -/

def uB (bs : List UInt8) : List UInt8 := if Bad bs then [] else bs.drop (ns bs)
def uX (bs : List UInt8) : Bool := decide (Bad bs)
def zag (n : Nat) : Int := if n % 2 = 1 then -((n / 2 : Nat) : Int) - 1 else ((n / 2 : Nat) : Int)
def InBad (lo hi : Int) (bs : List UInt8) : Prop := Bad bs ∨ zag (nv bs) < lo ∨ hi < zag (nv bs)
instance (lo hi : Int) (bs : List UInt8) : Decidable (InBad lo hi bs) := by unfold InBad; infer_instance
def inV (lo hi : Int) (bs : List UInt8) : Int := if InBad lo hi bs then 0 else zag (nv bs)
def inB (lo hi : Int) (bs : List UInt8) : List UInt8 := if InBad lo hi bs then [] else bs.drop (ns bs)
def inX (lo hi : Int) (bs : List UInt8) : Bool := decide (InBad lo hi bs)
def TkBad (bad : Bool) (n : Int) (bs : List UInt8) : Prop := bad = true ∨ n < 0 ∨ (bs.length : Int) < n
instance (bad : Bool) (n : Int) (bs : List UInt8) : Decidable (TkBad bad n bs) := by unfold TkBad; infer_instance
def tkV (bad : Bool) (n : Int) (bs : List UInt8) : List UInt8 := if TkBad bad n bs then [] else bs.take n.toNat
def tkB (bad : Bool) (n : Int) (bs : List UInt8) : List UInt8 := if TkBad bad n bs then [] else bs.drop n.toNat
def tkX (bad : Bool) (n : Int) (bs : List UInt8) : Bool := decide (TkBad bad n bs)
def TxBad (most : Int) (bs : List UInt8) : Prop := Bad bs ∨ most < 0 ∨ most < (nv bs : Nat) ∨ (bs.drop (ns bs)).length < nv bs
instance (most : Int) (bs : List UInt8) : Decidable (TxBad most bs) := by unfold TxBad; infer_instance
def txV (most : Int) (bs : List UInt8) : List UInt8 := if TxBad most bs then [] else (bs.drop (ns bs)).take (nv bs)
def txB (most : Int) (bs : List UInt8) : List UInt8 := if TxBad most bs then [] else (bs.drop (ns bs)).drop (nv bs)
def txX (most : Int) (bs : List UInt8) : Bool := decide (TxBad most bs)

/-- Behind a fault nothing is left. -/
def Sane (bad : Bool) (bs : List UInt8) : Prop := bad = true → bs = []

theorem bad_nil : Bad [] := .inl (by simp)
theorem Sane.start (bs : List UInt8) : Sane false bs := fun h => by cases h
theorem Sane.u (bs : List UInt8) : Sane (uX bs) (uB bs) := fun h => by unfold uB; rw [if_pos (of_decide_eq_true h)]
theorem Sane.in (lo hi : Int) (bs : List UInt8) : Sane (inX lo hi bs) (inB lo hi bs) := fun h => by unfold inB; rw [if_pos (of_decide_eq_true h)]
theorem Sane.tk (bad : Bool) (n : Int) (bs : List UInt8) : Sane (tkX bad n bs) (tkB bad n bs) := fun h => by unfold tkB; rw [if_pos (of_decide_eq_true h)]
theorem Sane.tx (most : Int) (bs : List UInt8) : Sane (txX most bs) (txB most bs) := fun h => by unfold txB; rw [if_pos (of_decide_eq_true h)]

theorem uB_len (bs : List UInt8) : (uB bs).length ≤ bs.length := by unfold uB; split <;> simp
theorem inB_len (lo hi : Int) (bs : List UInt8) : (inB lo hi bs).length ≤ bs.length := by unfold inB; split <;> simp
theorem tkB_len (bad : Bool) (n : Int) (bs : List UInt8) : (tkB bad n bs).length ≤ bs.length := by unfold tkB; split <;> simp
theorem txB_len (most : Int) (bs : List UInt8) : (txB most bs).length ≤ bs.length := by unfold txB; split <;> simp <;> omega

theorem val_u64 {l : List UInt8} (h : ¬ Bad l) : val l (stop l + 1) < 18446744073709551616 := by
  unfold Bad at h
  have h9 : stop l ≤ 9 := by omega
  rcases Nat.lt_or_ge (stop l) 9 with h1 | h1
  · have h2 := val_lt l (stop l + 1)
    have h3 : 128 ^ (stop l + 1) ≤ 128 ^ 9 := Nat.pow_le_pow_right (by omega) (by omega)
    exact Nat.lt_of_lt_of_le h2 (Nat.le_trans h3 (by decide))
  · have h2 : stop l = 9 := by omega
    have h3 := val_lt l 9
    have h4 : at8 l 9 ≤ 1 := by omega
    have h5 : at8 l 9 % 128 * 128 ^ 9 ≤ 1 * 128 ^ 9 := Nat.mul_le_mul_right _ (by omega)
    rw [h2, val]
    have h6 : 1 * 128 ^ 9 + 128 ^ 9 = 18446744073709551616 := by decide
    omega

theorem nv_u64 (l : List UInt8) : nv l < 18446744073709551616 := by
  unfold nv
  split
  · omega
  · exact val_u64 ‹_›

end Go.Proofs.YtflgokbkkoobkaaDoor.Cd
