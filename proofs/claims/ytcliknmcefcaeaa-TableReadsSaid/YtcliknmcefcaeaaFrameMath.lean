/-
  Plain facts on CRC-32C and on records: no Go in sight. Conditions: none.
-/
import Derived.Test.YtcliknmcefcaeaaMathD
import Derived.Test.YtcliknmcefcaeaaMathE
namespace Go.Proofs.Ytcliknmcefcaeaa.Cd

/-- What is taken in, by the bit that fell out. -/
def fell (b : Nat) : Nat := if b % 2 = 1 then 2197175160 else 0
/-- One bit taken in. -/
def bit1 (s : Nat) : Nat := (s / 2) ^^^ fell s
def bitsN : Nat → Nat → Nat
  | 0, s => s
  | k + 1, s => bit1 (bitsN k s)
def crcB (s : Nat) (c : UInt8) : Nat := bitsN 8 (s ^^^ c.toNat)
def crcOn (s : Nat) : List UInt8 → Nat
  | [] => s
  | c :: r => crcOn (crcB s c) r
/-- The check. -/
def crc (bs : List UInt8) : Nat := 4294967295 - crcOn 4294967295 bs

theorem fell_lt (b : Nat) : fell b < 4294967296 := by unfold fell; split <;> omega
theorem bit1_lt {s : Nat} (h : s < 4294967296) : bit1 s < 4294967296 := Nat.xor_lt_two_pow (n := 32) (by omega) (fell_lt s)
theorem bitsN_lt {s : Nat} (h : s < 4294967296) (k : Nat) : bitsN k s < 4294967296 := by
  induction k with
  | zero => exact h
  | succ k ih => exact bit1_lt ih
theorem xor_byte_lt {s : Nat} (h : s < 4294967296) (c : UInt8) : s ^^^ c.toNat < 4294967296 := Nat.xor_lt_two_pow (n := 32) h (by have := c.toNat_lt; omega)
theorem crcB_lt {s : Nat} (h : s < 4294967296) (c : UInt8) : crcB s c < 4294967296 := bitsN_lt (xor_byte_lt h c) 8
theorem crcOn_lt {s : Nat} (h : s < 4294967296) (l : List UInt8) : crcOn s l < 4294967296 := by
  induction l generalizing s with
  | nil => exact h
  | cons c r ih => exact ih (crcB_lt h c)
theorem crc_lt (l : List UInt8) : crc l < 4294967296 := by unfold crc; omega
theorem crcOn_append (s : Nat) (a b : List UInt8) : crcOn s (a ++ b) = crcOn (crcOn s a) b := by
  induction a generalizing s with
  | nil => rfl
  | cons c r ih => exact ih _
theorem crcOn_snoc (s : Nat) (l : List UInt8) (k : Nat) (h : k < l.length) : crcOn s (l.take (k + 1)) = crcB (crcOn s (l.take k)) l[k] := by
  rw [List.take_succ_eq_append_getElem h, crcOn_append]
  rfl

/-- The document's way: bit by bit of the byte. -/
def refN (s c : Nat) : Nat → Nat
  | 0 => s
  | k + 1 => (refN s c k / 2) ^^^ fell (refN s c k ^^^ (c / 2 ^ k))
theorem bits_ref (s c k : Nat) : bitsN k (s ^^^ c) = refN s c k ^^^ (c / 2 ^ k) := by
  induction k with
  | zero => simp [bitsN, refN]
  | succ k ih =>
    rw [bitsN, refN, ih, bit1, Nat.xor_div_two, Nat.div_div_eq_div_mul, ← Nat.pow_succ]
    rw [Nat.xor_assoc, Nat.xor_comm (c / 2 ^ (k + 1)), ← Nat.xor_assoc]
theorem crcB_ref (s : Nat) (c : UInt8) : crcB s c = refN s c.toNat 8 := by
  have h := bits_ref s c.toNat 8
  have := c.toNat_lt
  rw [show c.toNat / 2 ^ 8 = 0 by omega, Nat.xor_zero] at h
  exact h
theorem refN_lt {s : Nat} (h : s < 4294967296) (c k : Nat) : refN s c k < 4294967296 := by
  induction k with
  | zero => exact h
  | succ k ih => exact Nat.xor_lt_two_pow (n := 32) (by omega) (fell_lt _)
theorem odd_xor (a b : Nat) : fell (a ^^^ b) = if (a % 2 = 1) ↔ (b % 2 = 1) then 0 else 2197175160 := by
  unfold fell
  have h : (a ^^^ b) % 2 = 1 ↔ ¬ ((a % 2 = 1) ↔ (b % 2 = 1)) := by
    have h2 : (a ^^^ b) % 2 = (a % 2 ^^^ b % 2) := by
      rw [show (2 : Nat) = 2 ^ 1 from rfl, Nat.xor_mod_two_pow]
    rw [h2]
    rcases (by omega : a % 2 = 0 ∨ a % 2 = 1) with h3 | h3 <;> rcases (by omega : b % 2 = 0 ∨ b % 2 = 1) with h4 | h4 <;> simp [h3, h4]
  by_cases hq : (a % 2 = 1) ↔ (b % 2 = 1)
  · rw [if_pos hq, if_neg (fun hx => (h.1 hx) hq)]
  · rw [if_neg hq, if_pos (h.2 hq)]

/-- A byte. -/
def b8 (n : Nat) : UInt8 := UInt8.ofNat n
theorem b8_nat (n : Nat) : (b8 n).toNat = n % 256 := by unfold b8; rw [UInt8.toNat_ofNat']
/-- Four bytes, the lowest first. -/
def le4 (n : Nat) : List UInt8 := [b8 n, b8 (n / 256), b8 (n / 65536), b8 (n / 16777216)]
theorem le4_len (n : Nat) : (le4 n).length = 4 := rfl

/-- A record's bytes. -/
def frm (x : List UInt8) : List UInt8 := (enc x.length ++ x) ++ le4 (crc (enc x.length ++ x))
theorem frm_len (x : List UInt8) : (frm x).length = (enc x.length).length + x.length + 4 := by simp [frm, le4_len]; omega
theorem frm_ge (x : List UInt8) : x.length + 5 ≤ (frm x).length := by have := enc_pos x.length; rw [frm_len]; omega
theorem frm_le (x : List UInt8) (h : x.length < 18446744073709551616) : (frm x).length ≤ x.length + 14 := by have := enc_u64 x.length h; rw [frm_len]; omega

theorem tx_most (t s : List UInt8) (hs : s.length < 18446744073709551616) (most : Int) (hm : (s.length : Int) ≤ most) : ¬ TxBad most (enc s.length ++ (s ++ t)) := by
  unfold TxBad
  rw [nv_enc hs, ns_enc hs, List.drop_left, List.length_append]
  rintro (h | h | h | h)
  · exact enc_good hs _ h
  · omega
  · omega
  · omega
theorem tx_all (t s : List UInt8) (hs : s.length < 18446744073709551616) (most : Int) (hm : (s.length : Int) ≤ most) :
    txV most (enc s.length ++ (s ++ t)) = s ∧ txB most (enc s.length ++ (s ++ t)) = t ∧ txX most (enc s.length ++ (s ++ t)) = false := by
  have h := tx_most t s hs most hm
  unfold txV txB txX
  rw [if_neg h, if_neg h, nv_enc hs, ns_enc hs, List.drop_left, List.take_left, List.drop_left]
  exact ⟨rfl, rfl, decide_eq_false h⟩

theorem frm_split (x t : List UInt8) : frm x ++ t = enc x.length ++ (x ++ (le4 (crc (enc x.length ++ x)) ++ t)) := by simp [frm]

/-- A record stands there. -/
def HasRec (c : List UInt8) : Prop := ∃ x, frm x <+: c

theorem pre_tx {x c : List UInt8} (h : frm x <+: c) (hc : c.length < 18446744073709551616) :
    txX c.length c = false ∧ txV c.length c = x ∧ txB c.length c = le4 (crc (enc x.length ++ x)) ++ c.drop (frm x).length := by
  obtain ⟨t, rfl⟩ := h
  have hg := frm_ge x
  rw [List.length_append] at hc ⊢
  have h2 := tx_all (le4 (crc (enc x.length ++ x)) ++ t) x (by omega) (((frm x).length + t.length : Nat) : Int) (by omega)
  rw [← frm_split] at h2
  rw [List.drop_left]
  exact ⟨h2.2.2, h2.1, h2.2.1⟩

theorem pre_uniq {x y c : List UInt8} (h : frm x <+: c) (k : frm y <+: c) (hc : c.length < 18446744073709551616) : x = y := by
  rw [← (pre_tx h hc).2.1, (pre_tx k hc).2.1]

/-- What is read as a text, and its check behind it: a record. -/
theorem rec_of {c : List UInt8} (h : txX c.length c = false) (hk : (txB c.length c).take 4 = le4 (crc (enc (txV c.length c).length ++ txV c.length c))) : frm (txV c.length c) <+: c := by
  have h1 := one_tx h
  refine ⟨(txB c.length c).drop 4, ?_⟩
  unfold frm
  rw [List.append_assoc, ← hk, List.take_append_drop]
  exact h1

theorem no_rec {c : List UInt8} (hc : c.length < 18446744073709551616) (h : txX c.length c = true ∨ (txB c.length c).length < 4 ∨ (txB c.length c).take 4 ≠ le4 (crc (enc (txV c.length c).length ++ txV c.length c))) : ¬ HasRec c := by
  rintro ⟨x, hx⟩
  obtain ⟨h1, h2, h3⟩ := pre_tx hx hc
  rw [h1, h2, h3] at h
  rcases h with h | h | h
  · cases h
  · rw [List.length_append, le4_len] at h; omega
  · exact h (by rw [show (4 : Nat) = (le4 (crc (enc x.length ++ x))).length from rfl, List.take_left])

theorem no_nil : ¬ HasRec [] := by
  rintro ⟨x, hx⟩
  have h1 := hx.length_le
  have h2 := frm_ge x
  rw [List.length_nil] at h1
  omega

/-- Records, one behind the other. -/
def flat (l : List (List UInt8)) : List UInt8 := (l.map frm).flatten
theorem flat_nil : flat [] = [] := rfl
theorem flat_cons (x : List UInt8) (l : List (List UInt8)) : flat (x :: l) = frm x ++ flat l := by simp [flat]
theorem flat_append (a b : List (List UInt8)) : flat (a ++ b) = flat a ++ flat b := by simp [flat]
theorem flat_one (x : List UInt8) : flat [x] = frm x := by simp [flat]
theorem flat_take (l : List (List UInt8)) (k : Nat) (h : k < l.length) : flat (l.take (k + 1)) = flat (l.take k) ++ frm l[k] := by
  rw [List.take_succ_eq_append_getElem h, flat_append, flat_one]
theorem flat_ge (l : List (List UInt8)) : 5 * l.length ≤ (flat l).length := by
  induction l with
  | nil => simp [flat]
  | cons x l ih => have := frm_ge x; rw [flat_cons, List.length_append, List.length_cons]; omega

/-- The records of bytes, and what is left. -/
def Splits (bs : List UInt8) (ds : List (List UInt8)) (cur : List UInt8) : Prop := bs = flat ds ++ cur ∧ ¬ HasRec cur

theorem splits_uniq {ds es : List (List UInt8)} {bs cur cur' : List UInt8} (hb : bs.length < 18446744073709551616) (h : Splits bs ds cur) (k : Splits bs es cur') : ds = es ∧ cur = cur' := by
  induction ds generalizing es bs with
  | nil =>
    cases es with
    | nil =>
      have h1 := h.1
      have k1 := k.1
      rw [flat_nil, List.nil_append] at h1 k1
      exact ⟨rfl, by rw [← h1, ← k1]⟩
    | cons e es =>
      refine absurd ?_ h.2
      have h1 := h.1
      rw [flat_nil, List.nil_append] at h1
      exact ⟨e, by rw [← h1, k.1, flat_cons, List.append_assoc]; exact List.prefix_append _ _⟩
  | cons d ds ih =>
    cases es with
    | nil =>
      refine absurd ?_ k.2
      have k1 := k.1
      rw [flat_nil, List.nil_append] at k1
      exact ⟨d, by rw [← k1, h.1, flat_cons, List.append_assoc]; exact List.prefix_append _ _⟩
    | cons e es =>
      have hd : frm d <+: bs := by rw [h.1, flat_cons, List.append_assoc]; exact List.prefix_append _ _
      have he : frm e <+: bs := by rw [k.1, flat_cons, List.append_assoc]; exact List.prefix_append _ _
      obtain rfl := pre_uniq hd he hb
      have e1 := h.1
      have e2 := k.1
      rw [flat_cons, List.append_assoc] at e1 e2
      have e3 := List.append_cancel_left (e1.symm.trans e2)
      have hl : (flat ds ++ cur).length < 18446744073709551616 := by rw [e1, List.length_append] at hb; omega
      obtain ⟨r1, r2⟩ := ih hl ⟨rfl, h.2⟩ ⟨e3, k.2⟩
      exact ⟨by rw [r1], r2⟩

theorem splits_all (l : List (List UInt8)) : Splits (flat l) l [] := ⟨by simp, no_nil⟩

theorem splits_join {b cur : List UInt8} {ds : List (List UInt8)} (a : List (List UInt8)) (h : Splits b ds cur) : Splits (flat a ++ b) (a ++ ds) cur :=
  ⟨by rw [h.1, flat_append, List.append_assoc], h.2⟩

/-- A record that is cut is none. -/
theorem cut_none (x : List UInt8) (m : Nat) (hm : m < (frm x).length) (hx : (frm x).length < 18446744073709551616) : ¬ HasRec ((frm x).take m) := by
  rintro ⟨y, hy⟩
  have h1 := pre_uniq (hy.trans (List.take_prefix _ _)) (List.prefix_refl (frm x)) hx
  subst h1
  have h2 := hy.length_le
  rw [List.length_take] at h2
  omega

theorem splits_cut (l : List (List UInt8)) (k n : Nat) (hk : k ≤ l.length) (h1 : (flat (l.take k)).length ≤ n) (h2 : k < l.length → n < (flat (l.take (k + 1))).length)
    (hb : (flat l).length < 18446744073709551616) : ∃ cur, Splits ((flat l).take n) (l.take k) cur := by
  by_cases hlt : k < l.length
  · have e := flat_take l k hlt
    have h3 := h2 hlt
    have hpre : flat l = flat (l.take (k + 1)) ++ flat (l.drop (k + 1)) := by rw [← flat_append, List.take_append_drop]
    have e2 : (flat l).take n = flat (l.take k) ++ (frm l[k]).take (n - (flat (l.take k)).length) := by
      rw [hpre, List.take_append_of_le_length (by omega), e, List.take_append, List.take_of_length_le h1]
    rw [e, List.length_append] at h3
    refine ⟨_, e2, cut_none _ _ (by omega) ?_⟩
    rw [hpre, e, List.length_append, List.length_append] at hb
    omega
  · have hkl : k = l.length := by omega
    subst hkl
    rw [List.take_length] at h1 ⊢
    rw [List.take_of_length_le (by omega)]
    exact ⟨[], splits_all l⟩

theorem flat_mono (l : List (List UInt8)) (j k : Nat) (h : j ≤ k) : (flat (l.take j)).length ≤ (flat (l.take k)).length := by
  have e : l.take j = (l.take k).take j := by rw [List.take_take, Nat.min_eq_left h]
  rw [e]
  have h2 : flat (l.take k) = flat ((l.take k).take j) ++ flat ((l.take k).drop j) := by rw [← flat_append, List.take_append_drop]
  rw [h2, List.length_append]
  omega

/-- One record and no more. -/
theorem one_rec {c : List UInt8} {ds : List (List UInt8)} {cur : List UInt8} (h : Splits c ds cur) (hc : c.length < 18446744073709551616) : (∃ x, ds = [x] ∧ cur = []) ↔ ∃ x, frm x = c := by
  constructor
  · rintro ⟨x, rfl, rfl⟩
    have := h.1
    rw [flat_one, List.append_nil] at this
    exact ⟨x, this.symm⟩
  · rintro ⟨x, rfl⟩
    have h2 := splits_all [x]
    rw [flat_one] at h2
    obtain ⟨h3, h4⟩ := splits_uniq hc h h2
    exact ⟨x, h3, h4⟩

end Go.Proofs.Ytcliknmcefcaeaa.Cd
