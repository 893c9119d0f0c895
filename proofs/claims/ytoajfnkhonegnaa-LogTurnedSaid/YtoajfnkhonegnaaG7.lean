/-
  A region that draws its order, taken by hand. Conditions: none.
-/
import Derived.Test.YtoajfnkhonegnaaG6
import Derived.Test.YtoajfnkhonegnaaG1
import Derived.IntWalk
import Derived.Laws.BitsAllLaws
import Derived.Deep.OwnRows
import Derived.Deep.RegionHeld3
import Derived.Deep.DrawnRows
/-
  Plain facts on CRC-32C and on records: no Go in sight. Conditions: none.
-/
namespace Go.Proofs.Ytoajfnkhonegnaa.Cd

/-- What is taken in, by the bit that fell out. -/
def fell (b : Nat) : Nat := if b % 2 = 1 then 2197175160 else 0
/-- One bit taken in. -/
def bit1 (s : Nat) : Nat := (s / 2) ^^^ fell s
def bitsN : Nat → Nat → Nat
  | 0, s => s
  | k + 1, s => bit1 (bitsN k s)
def crcB (s : Nat) (c : UInt8) : Nat := bitsN 8 (s ^^^ c.toNat)
def crcOn (s : Nat) : List UInt8 → Nat
  | [] => s
  | c :: r => crcOn (crcB s c) r
/-- The check. -/
def crc (bs : List UInt8) : Nat := 4294967295 - crcOn 4294967295 bs

theorem fell_lt (b : Nat) : fell b < 4294967296 := by unfold fell; split <;> omega
theorem bit1_lt {s : Nat} (h : s < 4294967296) : bit1 s < 4294967296 := Nat.xor_lt_two_pow (n := 32) (by omega) (fell_lt s)
theorem bitsN_lt {s : Nat} (h : s < 4294967296) (k : Nat) : bitsN k s < 4294967296 := by
  induction k with
  | zero => exact h
  | succ k ih => exact bit1_lt ih
theorem xor_byte_lt {s : Nat} (h : s < 4294967296) (c : UInt8) : s ^^^ c.toNat < 4294967296 := Nat.xor_lt_two_pow (n := 32) h (by have := c.toNat_lt; omega)
theorem crcB_lt {s : Nat} (h : s < 4294967296) (c : UInt8) : crcB s c < 4294967296 := bitsN_lt (xor_byte_lt h c) 8
theorem crcOn_lt {s : Nat} (h : s < 4294967296) (l : List UInt8) : crcOn s l < 4294967296 := by
  induction l generalizing s with
  | nil => exact h
  | cons c r ih => exact ih (crcB_lt h c)
theorem crc_lt (l : List UInt8) : crc l < 4294967296 := by unfold crc; omega
theorem crcOn_append (s : Nat) (a b : List UInt8) : crcOn s (a ++ b) = crcOn (crcOn s a) b := by
  induction a generalizing s with
  | nil => rfl
  | cons c r ih => exact ih _
theorem crcOn_snoc (s : Nat) (l : List UInt8) (k : Nat) (h : k < l.length) : crcOn s (l.take (k + 1)) = crcB (crcOn s (l.take k)) l[k] := by
  rw [List.take_succ_eq_append_getElem h, crcOn_append]
  rfl

/-- The document's way: bit by bit of the byte. -/
def refN (s c : Nat) : Nat → Nat
  | 0 => s
  | k + 1 => (refN s c k / 2) ^^^ fell (refN s c k ^^^ (c / 2 ^ k))
theorem bits_ref (s c k : Nat) : bitsN k (s ^^^ c) = refN s c k ^^^ (c / 2 ^ k) := by
  induction k with
  | zero => simp [bitsN, refN]
  | succ k ih =>
    rw [bitsN, refN, ih, bit1, Nat.xor_div_two, Nat.div_div_eq_div_mul, ← Nat.pow_succ]
    rw [Nat.xor_assoc, Nat.xor_comm (c / 2 ^ (k + 1)), ← Nat.xor_assoc]
theorem crcB_ref (s : Nat) (c : UInt8) : crcB s c = refN s c.toNat 8 := by
  have h := bits_ref s c.toNat 8
  have := c.toNat_lt
  rw [show c.toNat / 2 ^ 8 = 0 by omega, Nat.xor_zero] at h
  exact h
theorem refN_lt {s : Nat} (h : s < 4294967296) (c k : Nat) : refN s c k < 4294967296 := by
  induction k with
  | zero => exact h
  | succ k ih => exact Nat.xor_lt_two_pow (n := 32) (by omega) (fell_lt _)
theorem odd_xor (a b : Nat) : fell (a ^^^ b) = if (a % 2 = 1) ↔ (b % 2 = 1) then 0 else 2197175160 := by
  unfold fell
  have h : (a ^^^ b) % 2 = 1 ↔ ¬ ((a % 2 = 1) ↔ (b % 2 = 1)) := by
    have h2 : (a ^^^ b) % 2 = (a % 2 ^^^ b % 2) := by
      rw [show (2 : Nat) = 2 ^ 1 from rfl, Nat.xor_mod_two_pow]
    rw [h2]
    rcases (by omega : a % 2 = 0 ∨ a % 2 = 1) with h3 | h3 <;> rcases (by omega : b % 2 = 0 ∨ b % 2 = 1) with h4 | h4 <;> simp [h3, h4]
  by_cases hq : (a % 2 = 1) ↔ (b % 2 = 1)
  · rw [if_pos hq, if_neg (fun hx => (h.1 hx) hq)]
  · rw [if_neg hq, if_pos (h.2 hq)]

/-- A byte. -/
def b8 (n : Nat) : UInt8 := UInt8.ofNat n
theorem b8_nat (n : Nat) : (b8 n).toNat = n % 256 := by unfold b8; rw [UInt8.toNat_ofNat']
/-- Four bytes, the lowest first. -/
def le4 (n : Nat) : List UInt8 := [b8 n, b8 (n / 256), b8 (n / 65536), b8 (n / 16777216)]
theorem le4_len (n : Nat) : (le4 n).length = 4 := rfl

/-- A record's bytes. -/
def frm (x : List UInt8) : List UInt8 := (enc x.length ++ x) ++ le4 (crc (enc x.length ++ x))
theorem frm_len (x : List UInt8) : (frm x).length = (enc x.length).length + x.length + 4 := by simp [frm, le4_len]; omega
theorem frm_ge (x : List UInt8) : x.length + 5 ≤ (frm x).length := by have := enc_pos x.length; rw [frm_len]; omega
theorem frm_le (x : List UInt8) (h : x.length < 18446744073709551616) : (frm x).length ≤ x.length + 14 := by have := enc_u64 x.length h; rw [frm_len]; omega

theorem tx_most (t s : List UInt8) (hs : s.length < 18446744073709551616) (most : Int) (hm : (s.length : Int) ≤ most) : ¬ TxBad most (enc s.length ++ (s ++ t)) := by
  unfold TxBad
  rw [nv_enc hs, ns_enc hs, List.drop_left, List.length_append]
  rintro (h | h | h | h)
  · exact enc_good hs _ h
  · omega
  · omega
  · omega
theorem tx_all (t s : List UInt8) (hs : s.length < 18446744073709551616) (most : Int) (hm : (s.length : Int) ≤ most) :
    txV most (enc s.length ++ (s ++ t)) = s ∧ txB most (enc s.length ++ (s ++ t)) = t ∧ txX most (enc s.length ++ (s ++ t)) = false := by
  have h := tx_most t s hs most hm
  unfold txV txB txX
  rw [if_neg h, if_neg h, nv_enc hs, ns_enc hs, List.drop_left, List.take_left, List.drop_left]
  exact ⟨rfl, rfl, decide_eq_false h⟩

theorem frm_split (x t : List UInt8) : frm x ++ t = enc x.length ++ (x ++ (le4 (crc (enc x.length ++ x)) ++ t)) := by simp [frm]

/-- A record stands there. -/
def HasRec (c : List UInt8) : Prop := ∃ x, frm x <+: c

theorem pre_tx {x c : List UInt8} (h : frm x <+: c) (hc : c.length < 18446744073709551616) :
    txX c.length c = false ∧ txV c.length c = x ∧ txB c.length c = le4 (crc (enc x.length ++ x)) ++ c.drop (frm x).length := by
  obtain ⟨t, rfl⟩ := h
  have hg := frm_ge x
  rw [List.length_append] at hc ⊢
  have h2 := tx_all (le4 (crc (enc x.length ++ x)) ++ t) x (by omega) (((frm x).length + t.length : Nat) : Int) (by omega)
  rw [← frm_split] at h2
  rw [List.drop_left]
  exact ⟨h2.2.2, h2.1, h2.2.1⟩

theorem pre_uniq {x y c : List UInt8} (h : frm x <+: c) (k : frm y <+: c) (hc : c.length < 18446744073709551616) : x = y := by
  rw [← (pre_tx h hc).2.1, (pre_tx k hc).2.1]

/-- What is read as a text, and its check behind it: a record. -/
theorem rec_of {c : List UInt8} (h : txX c.length c = false) (hk : (txB c.length c).take 4 = le4 (crc (enc (txV c.length c).length ++ txV c.length c))) : frm (txV c.length c) <+: c := by
  have h1 := one_tx h
  refine ⟨(txB c.length c).drop 4, ?_⟩
  unfold frm
  rw [List.append_assoc, ← hk, List.take_append_drop]
  exact h1

theorem no_rec {c : List UInt8} (hc : c.length < 18446744073709551616) (h : txX c.length c = true ∨ (txB c.length c).length < 4 ∨ (txB c.length c).take 4 ≠ le4 (crc (enc (txV c.length c).length ++ txV c.length c))) : ¬ HasRec c := by
  rintro ⟨x, hx⟩
  obtain ⟨h1, h2, h3⟩ := pre_tx hx hc
  rw [h1, h2, h3] at h
  rcases h with h | h | h
  · cases h
  · rw [List.length_append, le4_len] at h; omega
  · exact h (by rw [show (4 : Nat) = (le4 (crc (enc x.length ++ x))).length from rfl, List.take_left])

theorem no_nil : ¬ HasRec [] := by
  rintro ⟨x, hx⟩
  have h1 := hx.length_le
  have h2 := frm_ge x
  rw [List.length_nil] at h1
  omega

/-- Records, one behind the other. -/
def flat (l : List (List UInt8)) : List UInt8 := (l.map frm).flatten
theorem flat_nil : flat [] = [] := rfl
theorem flat_cons (x : List UInt8) (l : List (List UInt8)) : flat (x :: l) = frm x ++ flat l := by simp [flat]
theorem flat_append (a b : List (List UInt8)) : flat (a ++ b) = flat a ++ flat b := by simp [flat]
theorem flat_one (x : List UInt8) : flat [x] = frm x := by simp [flat]
theorem flat_take (l : List (List UInt8)) (k : Nat) (h : k < l.length) : flat (l.take (k + 1)) = flat (l.take k) ++ frm l[k] := by
  rw [List.take_succ_eq_append_getElem h, flat_append, flat_one]
theorem flat_ge (l : List (List UInt8)) : 5 * l.length ≤ (flat l).length := by
  induction l with
  | nil => simp [flat]
  | cons x l ih => have := frm_ge x; rw [flat_cons, List.length_append, List.length_cons]; omega

/-- The records of bytes, and what is left. -/
def Splits (bs : List UInt8) (ds : List (List UInt8)) (cur : List UInt8) : Prop := bs = flat ds ++ cur ∧ ¬ HasRec cur

theorem splits_uniq {ds es : List (List UInt8)} {bs cur cur' : List UInt8} (hb : bs.length < 18446744073709551616) (h : Splits bs ds cur) (k : Splits bs es cur') : ds = es ∧ cur = cur' := by
  induction ds generalizing es bs with
  | nil =>
    cases es with
    | nil =>
      have h1 := h.1
      have k1 := k.1
      rw [flat_nil, List.nil_append] at h1 k1
      exact ⟨rfl, by rw [← h1, ← k1]⟩
    | cons e es =>
      refine absurd ?_ h.2
      have h1 := h.1
      rw [flat_nil, List.nil_append] at h1
      exact ⟨e, by rw [← h1, k.1, flat_cons, List.append_assoc]; exact List.prefix_append _ _⟩
  | cons d ds ih =>
    cases es with
    | nil =>
      refine absurd ?_ k.2
      have k1 := k.1
      rw [flat_nil, List.nil_append] at k1
      exact ⟨d, by rw [← k1, h.1, flat_cons, List.append_assoc]; exact List.prefix_append _ _⟩
    | cons e es =>
      have hd : frm d <+: bs := by rw [h.1, flat_cons, List.append_assoc]; exact List.prefix_append _ _
      have he : frm e <+: bs := by rw [k.1, flat_cons, List.append_assoc]; exact List.prefix_append _ _
      obtain rfl := pre_uniq hd he hb
      have e1 := h.1
      have e2 := k.1
      rw [flat_cons, List.append_assoc] at e1 e2
      have e3 := List.append_cancel_left (e1.symm.trans e2)
      have hl : (flat ds ++ cur).length < 18446744073709551616 := by rw [e1, List.length_append] at hb; omega
      obtain ⟨r1, r2⟩ := ih hl ⟨rfl, h.2⟩ ⟨e3, k.2⟩
      exact ⟨by rw [r1], r2⟩

theorem splits_all (l : List (List UInt8)) : Splits (flat l) l [] := ⟨by simp, no_nil⟩

theorem splits_join {b cur : List UInt8} {ds : List (List UInt8)} (a : List (List UInt8)) (h : Splits b ds cur) : Splits (flat a ++ b) (a ++ ds) cur :=
  ⟨by rw [h.1, flat_append, List.append_assoc], h.2⟩

/-- A record that is cut is none. -/
theorem cut_none (x : List UInt8) (m : Nat) (hm : m < (frm x).length) (hx : (frm x).length < 18446744073709551616) : ¬ HasRec ((frm x).take m) := by
  rintro ⟨y, hy⟩
  have h1 := pre_uniq (hy.trans (List.take_prefix _ _)) (List.prefix_refl (frm x)) hx
  subst h1
  have h2 := hy.length_le
  rw [List.length_take] at h2
  omega

theorem splits_cut (l : List (List UInt8)) (k n : Nat) (hk : k ≤ l.length) (h1 : (flat (l.take k)).length ≤ n) (h2 : k < l.length → n < (flat (l.take (k + 1))).length)
    (hb : (flat l).length < 18446744073709551616) : ∃ cur, Splits ((flat l).take n) (l.take k) cur := by
  by_cases hlt : k < l.length
  · have e := flat_take l k hlt
    have h3 := h2 hlt
    have hpre : flat l = flat (l.take (k + 1)) ++ flat (l.drop (k + 1)) := by rw [← flat_append, List.take_append_drop]
    have e2 : (flat l).take n = flat (l.take k) ++ (frm l[k]).take (n - (flat (l.take k)).length) := by
      rw [hpre, List.take_append_of_le_length (by omega), e, List.take_append, List.take_of_length_le h1]
    rw [e, List.length_append] at h3
    refine ⟨_, e2, cut_none _ _ (by omega) ?_⟩
    rw [hpre, e, List.length_append, List.length_append] at hb
    omega
  · have hkl : k = l.length := by omega
    subst hkl
    rw [List.take_length] at h1 ⊢
    rw [List.take_of_length_le (by omega)]
    exact ⟨[], splits_all l⟩

theorem flat_mono (l : List (List UInt8)) (j k : Nat) (h : j ≤ k) : (flat (l.take j)).length ≤ (flat (l.take k)).length := by
  have e : l.take j = (l.take k).take j := by rw [List.take_take, Nat.min_eq_left h]
  rw [e]
  have h2 : flat (l.take k) = flat ((l.take k).take j) ++ flat ((l.take k).drop j) := by rw [← flat_append, List.take_append_drop]
  rw [h2, List.length_append]
  omega

/-- One record and no more. -/
theorem one_rec {c : List UInt8} {ds : List (List UInt8)} {cur : List UInt8} (h : Splits c ds cur) (hc : c.length < 18446744073709551616) : (∃ x, ds = [x] ∧ cur = []) ↔ ∃ x, frm x = c := by
  constructor
  · rintro ⟨x, rfl, rfl⟩
    have := h.1
    rw [flat_one, List.append_nil] at this
    exact ⟨x, this.symm⟩
  · rintro ⟨x, rfl⟩
    have h2 := splits_all [x]
    rw [flat_one] at h2
    obtain ⟨h3, h4⟩ := splits_uniq hc h h2
    exact ⟨x, h3, h4⟩

end Go.Proofs.Ytoajfnkhonegnaa.Cd

/-
  frame.Sum: the check of bytes. Conditions: none.
-/
namespace Go.Proofs.Ytoajfnkhonegnaa.Cd
open Go.RowKit

theorem ret_u32 {a b : Int} (h : a = b) : Ending.returned (.int .u32 a) = .returned (.int .u32 b) := by rw [h]

theorem wrap_byte32 (c : UInt8) : IntKind.u32.wrap (c.toNat : Int) = (c.toNat : Int) := by
  have := c.toNat_lt
  rw [IntKind.wrap_u32']
  omega

theorem and_one32 (s : Nat) (h : s < 4294967296) : bits BinOp.and IntKind.u32 (s : Int) 1 = ((s % 2 : Nat) : Int) := by
  have := u32_and_nat s 1 h (by omega)
  rw [nat_mask1] at this
  exact this

theorem bit1_xor (s : Nat) (h : s < 4294967296) (hs : s % 2 = 1) : bits BinOp.xor IntKind.u32 ((s : Int) / 2) 2197175160 = (bit1 s : Nat) := by
  have h2 := u32_xor_nat (s / 2) 2197175160 (by omega) (by omega)
  unfold bit1 fell
  rw [if_pos hs, ← h2]
  rfl
theorem bit1_none (s : Nat) (h : s < 4294967296) (hs : s % 2 = 0) : bits BinOp.xor IntKind.u32 ((s : Int) / 2) 0 = (bit1 s : Nat) := by
  have h2 := u32_xor_nat (s / 2) 0 (by omega) (by omega)
  unfold bit1 fell
  rw [if_neg (by omega), ← h2]
  rfl
theorem poly_all : bits BinOp.and IntKind.u32 2197175160 4294967295 = 2197175160 := by
  have := u32_and_nat 2197175160 4294967295 (by omega) (by omega)
  exact this.trans (by decide)
theorem poly_none : bits BinOp.and IntKind.u32 2197175160 0 = 0 := by
  have := u32_and_nat 2197175160 0 (by omega) (by omega)
  exact this.trans (by decide)

theorem xor_ones (s : Nat) (h : s < 4294967296) : 4294967295 ^^^ s = 4294967295 - s := by
  have e := congrArg BitVec.toNat (BitVec.allOnes_xor (x := BitVec.ofNat 32 s))
  rw [BitVec.toNat_xor, BitVec.toNat_not, BitVec.toNat_allOnes, BitVec.toNat_ofNat, Nat.mod_eq_of_lt (by omega)] at e
  exact e
theorem not32 (s : Nat) (h : s < 4294967296) : bits BinOp.xor IntKind.u32 IntKind.u32.max (s : Int) = ((4294967295 - s : Nat) : Int) := by
  rw [← xor_ones s h]
  exact u32_xor_nat 4294967295 s (by omega) h

set_option maxRecDepth 100000 in
set_option maxHeartbeats 1600000 in
theorem fsum_any (v : Value) (bs : List UInt8) (w : World) {B : Nat} (h : Sl w B v bs) :
    Calls Try.prog 76 #[v] w fun e w' => e = .returned (.int .u32 (crc bs : Nat)) ∧ w = w' := by
  have hat := fun h0 => h.at h0
  obtain ⟨A, c, rfl, h2, h3⟩ := h.len
  clear h
  have HAT := Lib.hid hat
  clear hat
  have hm2 : bs.length ≤ 9223372036854775807 := by unfold maxLen at h3; omega
  clear h3
  go_enter Try.func76, Try.ntmps76
  go_wp2
  go_loop [3, 9] (fun s1 i => ∃ k : Nat, k ≤ bs.length ∧ i = .int .i64 k ∧ s1 = .int .u32 (crcOn 4294967295 (bs.take k) : Nat)) (fun _ i => bs.length - (intOf i).toNat)
  case atStart => exact ⟨0, Nat.zero_le _, rfl, rfl⟩
  case round =>
    obtain ⟨k, hk, rfl, rfl⟩ := hrel
    by_cases hlt : k < bs.length
    · obtain ⟨b, off, c', he, _, _, _, hc⟩ := HAT.out (by omega)
      have hcell := hc k hlt
      have hsn := crcOn_snoc 4294967295 bs k hlt
      injection he with e1 _ e3
      subst e1 e3
      clear hc
      have hlt32 := crcOn_lt (s := 4294967295) (by omega) (bs.take k)
      generalize hx : bs[k] = x at hcell hsn
      generalize hm : crcOn 4294967295 (bs.take k) = m at hsn hlt32 ⊢
      have E1 := wrap_byte32 x
      have E2 := u32_xor_nat m x.toNat hlt32 (by have := x.toNat_lt; omega)
      have HX := Lib.hid (xor_byte_lt hlt32 x)
      have HSN := Lib.hid hsn
      clear hx hm hsn hlt32
      go_wp2
      go_loop [3, 17] (fun s1 i => ∃ j : Nat, j ≤ 8 ∧ i = .int .i64 j ∧ s1 = .int .u32 (bitsN j (m ^^^ x.toNat) : Nat)) (fun _ i => 8 - (intOf i).toNat)
      case atStart => exact ⟨0, Nat.zero_le _, rfl, rfl⟩
      case round =>
        obtain ⟨j, hj, rfl, rfl⟩ := hrel
        by_cases hjl : j < 8
        · have hl := bitsN_lt HX.out j
          have hnx : Hid (bitsN (j + 1) (m ^^^ x.toNat) = bit1 (bitsN j (m ^^^ x.toNat))) := rfl
          generalize bitsN j (m ^^^ x.toNat) = s at hl hnx ⊢
          have F1 := and_one32 s hl
          rcases (by omega : s % 2 = 0 ∨ s % 2 = 1) with h0 | h0
          · have F2 := bit1_none s hl h0
            have F3 := poly_none
            rw [h0] at F1
            clear h0
            go_wp2
            go_round
            case rel => exact ⟨j + 1, by omega, by go_num, by rw [hnx.out]⟩
            case measure => simp [intOf]; omega
          · have F2 := bit1_xor s hl h0
            have F3 := poly_all
            rw [h0] at F1
            clear h0
            go_wp2
            go_round
            case rel => exact ⟨j + 1, by omega, by go_num, by rw [hnx.out]⟩
            case measure => simp [intOf]; omega
        · have hj8 : j = 8 := by omega
          have hcb : Hid (bitsN j (m ^^^ x.toNat) = crcB m x) := by unfold Hid; rw [hj8]; rfl
          clear hj8
          go_wp2
          go_round
          case rel => exact ⟨k + 1, by omega, by go_num, by rw [HSN.out, hcb.out]⟩
          case measure => simp [intOf]; omega
    · have hkl : k = bs.length := by omega
      have htk : Hid (bs.take k = bs) := by unfold Hid; rw [hkl, List.take_of_length_le (Nat.le_refl _)]
      have hl := crcOn_lt (s := 4294967295) (by omega) (bs.take k)
      clear hkl
      go_wp2
      go_ret
      refine ⟨ret_u32 ?_, rfl⟩
      rw [htk.out] at hl ⊢
      exact not32 _ hl

end Go.Proofs.Ytoajfnkhonegnaa.Cd

/-
  The document's check: bit by bit. Conditions: none.
-/
namespace Go.Proofs.Ytoajfnkhonegnaa.Cd
open Go.RowKit

/-- The bit of a byte that stands at k. -/
theorem bit_at (n k : Nat) : (((n : Int) / 2 ^ k).tmod 2 == 1) = decide (n / 2 ^ k % 2 = 1) := by
  have e : ((n : Int) / 2 ^ k) = ((n / 2 ^ k : Nat) : Int) := by rw [Int.natCast_ediv, Int.natCast_pow]; rfl
  rw [e]
  generalize n / 2 ^ k = b
  rw [Int.tmod_eq_emod_of_nonneg (by omega), Bool.eq_iff_iff]
  simp
  omega

theorem half_xor (s : Nat) (h : s < 4294967296) : bits BinOp.xor IntKind.u32 ((s : Int) / 2) 2197175160 = ((s / 2 ^^^ 2197175160 : Nat) : Int) := by
  have h2 := u32_xor_nat (s / 2) 2197175160 (by omega) (by omega)
  rw [← h2]
  rfl

theorem ref_same {s b : Nat} (h : (s % 2 = 1) ↔ (b % 2 = 1)) : (s / 2) ^^^ fell (s ^^^ b) = s / 2 := by rw [odd_xor, if_pos h, Nat.xor_zero]
theorem ref_other {s b : Nat} (h : ¬ ((s % 2 = 1) ↔ (b % 2 = 1))) : (s / 2) ^^^ fell (s ^^^ b) = s / 2 ^^^ 2197175160 := by rw [odd_xor, if_neg h]

set_option maxRecDepth 100000 in
set_option maxHeartbeats 1600000 in
theorem rsum_any (bs : List UInt8) (w : World) (hb : bs.length ≤ 140737488355328) :
    Calls Try.prog 44 #[.string ⟨bs.toArray⟩] w fun e w' => e = .returned (.int .u32 (crc bs : Nat)) ∧ w = w' := by
  have hsz : (ByteArray.mk bs.toArray).size = bs.length := rfl
  go_enter Try.func44, Try.ntmps44
  go_wp2
  go_loop [3, 4] (fun s1 i => ∃ k : Nat, k ≤ bs.length ∧ i = .int .i64 k ∧ s1 = .int .u32 (crcOn 4294967295 (bs.take k) : Nat)) (fun _ i => bs.length - (intOf i).toNat)
  case atStart => exact ⟨0, Nat.zero_le _, rfl, rfl⟩
  case round =>
    obtain ⟨k, hk, rfl, rfl⟩ := hrel
    by_cases hlt : k < bs.length
    · have hsn := crcOn_snoc 4294967295 bs k hlt
      have hlt32 := crcOn_lt (s := 4294967295) (by omega) (bs.take k)
      obtain ⟨x, hx⟩ : ∃ x, (ByteArray.mk bs.toArray)[k]'hlt = x := ⟨_, rfl⟩
      have hx2 : bs[k] = x := hx
      rw [hx2] at hsn
      generalize crcOn 4294967295 (bs.take k) = m at hsn hlt32 ⊢
      have HL := Lib.hid hlt32
      have HSN := Lib.hid hsn
      have hx8 := x.toNat_lt
      clear hx2 hsn hlt32
      go_wp2
      go_loop [3, 5] (fun s1 i => ∃ j : Nat, j ≤ 8 ∧ i = .int .i64 j ∧ s1 = .int .u32 (refN m x.toNat j : Nat)) (fun _ i => 8 - (intOf i).toNat)
      case atStart => exact ⟨0, Nat.zero_le _, rfl, rfl⟩
      case round =>
        obtain ⟨j, hj, rfl, rfl⟩ := hrel
        by_cases hjl : j < 8
        · have hl := refN_lt HL.out x.toNat j
          have hnx : refN m x.toNat (j + 1) = (refN m x.toNat j / 2) ^^^ fell (refN m x.toNat j ^^^ (x.toNat / 2 ^ j)) := rfl
          generalize refN m x.toNat j = s at hl hnx ⊢
          have F1 := bit_at x.toNat j
          generalize x.toNat / 2 ^ j = b at F1 hnx
          have F2 := half_xor s hl
          by_cases hq : (s % 2 = 1) ↔ (b % 2 = 1)
          · rw [ref_same hq] at hnx
            have HNX := Lib.hid hnx
            clear hnx
            rcases (by omega : s % 2 = 0 ∨ s % 2 = 1) with h0 | h0
            · have q1 : ((s : Int) % 2 == 1) = false := by simp; omega
              have q2 : decide (b % 2 = 1) = false := by simp; omega
              rw [q2] at F1
              clear hq h0 q2
              go_wp2
              go_round
              case rel => exact ⟨j + 1, by omega, by go_num, by rw [HNX.out]; go_num⟩
              case measure => simp [intOf]; omega
            · have q1 : ((s : Int) % 2 == 1) = true := by simp; omega
              have q2 : decide (b % 2 = 1) = true := by simp; omega
              rw [q2] at F1
              clear hq h0 q2
              go_wp2
              go_round
              case rel => exact ⟨j + 1, by omega, by go_num, by rw [HNX.out]; go_num⟩
              case measure => simp [intOf]; omega
          · rw [ref_other hq] at hnx
            have HNX := Lib.hid hnx
            clear hnx
            rcases (by omega : s % 2 = 0 ∨ s % 2 = 1) with h0 | h0
            · have q1 : ((s : Int) % 2 == 1) = false := by simp; omega
              have q2 : decide (b % 2 = 1) = true := by simp; omega
              rw [q2] at F1
              clear hq h0 q2
              go_wp2
              go_round
              case rel => exact ⟨j + 1, by omega, by go_num, by rw [HNX.out]⟩
              case measure => simp [intOf]; omega
            · have q1 : ((s : Int) % 2 == 1) = true := by simp; omega
              have q2 : decide (b % 2 = 1) = false := by simp; omega
              rw [q2] at F1
              clear hq h0 q2
              go_wp2
              go_round
              case rel => exact ⟨j + 1, by omega, by go_num, by rw [HNX.out]⟩
              case measure => simp [intOf]; omega
        · have hj8 : j = 8 := by omega
          have hcb : Hid (refN m x.toNat j = crcB m x) := by unfold Hid; rw [hj8, crcB_ref]
          clear hj8
          go_wp2
          go_round
          case rel => exact ⟨k + 1, by omega, by go_num, by rw [HSN.out, hcb.out]⟩
          case measure => simp [intOf]; omega
    · have hkl : k = bs.length := by omega
      have htk : Hid (bs.take k = bs) := by unfold Hid; rw [hkl, List.take_of_length_le (Nat.le_refl _)]
      have hl := crcOn_lt (s := 4294967295) (by omega) (bs.take k)
      clear hkl
      go_wp2
      go_ret
      refine ⟨ret_u32 ?_, rfl⟩
      rw [htk.out] at hl ⊢
      unfold crc
      omega

end Go.Proofs.Ytoajfnkhonegnaa.Cd

/-
  frame.tail, the document's record. Conditions: none.
-/
namespace Go.Proofs.Ytoajfnkhonegnaa.Cd
open Go.RowKit

theorem le4_at (n k : Nat) (h : k < 4) : (le4 n).take (k + 1) = (le4 n).take k ++ [b8 (n / 256 ^ k)] := by
  rcases (by omega : k = 0 ∨ k = 1 ∨ k = 2 ∨ k = 3) with rfl | rfl | rfl | rfl <;> simp [le4]

/-- One new cell that is a byte. -/
theorem one_byte8 (w : World) (x : Int) (b : UInt8) (hx : x = (b.toNat : Int)) : Sl (w.alloc (.cells #[.int .u8 x] 5)) (w.heap.size + 1) (.slice (some ⟨w.heap.size, 0, none⟩) 1 1) [b] :=
  sl_new w [b] #[.int .u8 x] (by rw [hx]; rfl) (by simp [maxLen]) 1 rfl

set_option maxRecDepth 100000 in
set_option maxHeartbeats 1600000 in
theorem tail_any (v : Value) (bs : List UInt8) (w : World) {B : Nat} (h : Sl w B v bs) :
    Calls Try.prog 55 #[v] w (Wrote w (le4 (crc bs))) := by
  have H := Lib.hid h
  clear h
  go_enter Try.func55, Try.ntmps55
  go_wp2_with fail
  refine (fsum_any v bs w H.out).mono ?_
  rintro e w1 ⟨rfl, rfl⟩
  have hcl := crc_lt bs
  have HCL := Lib.hid hcl
  generalize crc bs = n at *
  clear hcl
  go_wp2
  go_loopw [3, 4, 7] (fun s o i wr => ∃ k : Nat, k ≤ 4 ∧ i = .int .i64 k ∧ s = .int .u32 (n / 256 ^ k : Nat) ∧ Own wr w.heap.size o ((le4 n).take k) ∧ Below w.heap.size w wr) (fun _ _ i _ => 4 - (intOf i).toNat)
  case atStart => exact ⟨0, Nat.zero_le _, rfl, by rw [Nat.pow_zero, Nat.div_one], World.ownsRow_nil _ _ _ _, Below.refl _ _⟩
  case round =>
    obtain ⟨k, hk, rfl, rfl, ho, hbel⟩ := hrel
    have hB := hbel.size
    by_cases hlt : k < 4
    · have hat := le4_at n k hlt
      have hlen : ((le4 n).take k).length = k := by rw [List.length_take, le4_len]; omega
      have hdn : n / 256 ^ (k + 1) = n / 256 ^ k / 256 := by rw [Nat.pow_succ, Nat.div_div_eq_div_mul]
      have hsm : n / 256 ^ k < 4294967296 := Nat.lt_of_le_of_lt (Nat.div_le_self _ _) HCL.out
      generalize n / 256 ^ (k + 1) = m2 at hdn
      have HDN : Hid (n / 256 ^ (k + 1) = n / 256 ^ k / 256) := by unfold Hid; rw [Nat.pow_succ, Nat.div_div_eq_div_mul]
      generalize n / 256 ^ k = m at *
      have HX : Hid ((m : Int) % 256 = ((b8 m).toNat : Int)) := by unfold Hid; rw [b8_nat]; omega
      have HAT := Lib.hid hat
      have HL := Lib.hid hlen
      clear hat hdn hlen
      go_wp2_with (at_builtin; refine wp_append_sl rfl _ _ rfl w.heap.size _ ((le4 n).take k) rfl ?ho ?hB _ (wr.heap.size + 1) [b8 m] rfl ?hn ?hm ?hK)
      case ho => exact ho.alloc _
      case hB => simp; omega
      case hn => exact one_byte8 _ _ _ (by have := HX.out; omega)
      case hm => rw [HL.out]; simp; omega
      case hK =>
        intro v' w' hown hb'
        go_wp2
        go_roundw
        case rel => exact ⟨k + 1, by omega, by go_num, by rw [HDN.out]; go_num, by rw [HAT.out]; exact hown, (hbel.alloc hB _).trans hb'⟩
        case measure => simp [intOf]; omega
    · have hk4 : k = 4 := by omega
      have htk : Hid ((le4 n).take k = le4 n) := by unfold Hid; rw [hk4]; rfl
      clear hk4
      go_wp2
      go_ret
      exact ⟨_, rfl, by rw [← htk.out]; exact ho, hbel⟩

end Go.Proofs.Ytoajfnkhonegnaa.Cd

/-
  frame.Put, and the document's record. Conditions: none.
-/
namespace Go.Proofs.Ytoajfnkhonegnaa.Cd
open Go.RowKit

theorem text_of (v : Value) (bs s : List UInt8) (w : World) (hs : Sl w w.heap.size v bs) (hb : bs.length + 10 + s.length ≤ 140737488355328) :
    Calls Try.prog 54 #[v, .string ⟨s.toArray⟩] w (Wrote w (bs ++ (enc s.length ++ s))) := text_any v bs ⟨s.toArray⟩ w hs hb
theorem ref_text_of (s : List UInt8) (w : World) (hb : s.length ≤ 140737488355328) :
    Calls Try.prog 43 #[.string ⟨s.toArray⟩] w (Said w (enc s.length ++ s)) := ref_text_any ⟨s.toArray⟩ w hb

theorem le4_text (W : World) (n : Nat) (hn : n < 4294967296) :
    (convert 27 9 (.slice (some ⟨W.heap.size, 0, none⟩) 4 4)).run Try.prog (W.alloc (.cells #[.int .u8 ((n : Int) % 256), .int .u8 ((n : Int) / 256 % 256), .int .u8 ((n : Int) / 65536 % 256), .int .u8 ((n : Int) / 16777216)] 5))
      = .ok (.string ⟨(le4 n).toArray⟩) (W.alloc (.cells #[.int .u8 ((n : Int) % 256), .int .u8 ((n : Int) / 256 % 256), .int .u8 ((n : Int) / 65536 % 256), .int .u8 ((n : Int) / 16777216)] 5)) := by
  refine run_text_of _ (W.heap.size + 1) _ (le4 n) (sl_new W (le4 n) _ ?_ (by simp [maxLen, le4_len]) 4 rfl)
  simp only [le4, vb, List.map_cons, List.map_nil, b8_nat]
  rw [Nat.mod_eq_of_lt (by omega : n / 16777216 < 256)]
  simp

set_option maxRecDepth 100000 in
set_option maxHeartbeats 800000 in
theorem rframe_any (s : List UInt8) (w : World) (hb : s.length + 10 ≤ 140737488355328) :
    Calls Try.prog 22 #[.string ⟨s.toArray⟩] w (Said w (frm s)) := by
  have hl := enc_u64 s.length (by omega)
  obtain ⟨t, ht⟩ : ∃ t, enc s.length ++ s = t := ⟨_, rfl⟩
  have htl : t.length ≤ 140737488355328 := by rw [← ht, List.length_append]; omega
  have HF : Hid (frm s = t ++ le4 (crc t)) := by unfold Hid frm; rw [ht]
  have hadd := fun W => add_text W t (le4 (crc t)) (by rw [le4_len]; omega)
  have hcl := crc_lt t
  have hcv := fun W => le4_text W (crc t) hcl
  have HT := Lib.hid ht
  clear ht hl
  go_enter Try.func22, Try.ntmps22
  go_wp2_with fail
  refine (ref_text_of s w (by omega)).mono ?_
  rintro e w1 ⟨rfl, hb1⟩
  rw [HT.out]
  go_wp2_with fail
  refine (rsum_any t w1 htl).mono ?_
  rintro e w2 ⟨rfl, rfl⟩
  generalize crc t = n at *
  go_wp2_with fail
  go_ret
  exact ⟨by rw [HF.out]; rfl, hb1.alloc hb1.size _⟩

/-- A slice's rest. -/
theorem sl_drop {w : World} {B : Nat} {g off L cap : Nat} {bs : List UInt8} (h : Sl w B (.slice (some ⟨g, off, none⟩) L cap) bs) (k : Nat) (hk : k ≤ bs.length) (a : Nat) (ha : 0 < bs.length - k → a = off + k) (hB : g < B) :
    Sl w B (.slice (some ⟨g, a, none⟩) (L - k) (cap - k)) (bs.drop k) := by
  obtain ⟨A, c, e, h2, h3, h4, h5, h6⟩ := h
  injection e with e1 e2 e3
  subst e1 e2 e3
  refine ⟨some ⟨g, a, none⟩, cap - k, by rw [List.length_drop], by rw [List.length_drop]; omega, by omega, (fun hn => by cases hn), fun ad e h0 => ?_, fun ad e j u hu => ?_⟩
  · injection e with e
    subst e
    exact hB
  · have hj := (List.getElem?_eq_some_iff.1 hu).1
    rw [vb_length, List.length_drop] at hj
    have hu2 : (vb bs)[k + j]? = some u := by
      rw [← hu]
      simp only [vb, List.map_drop, List.getElem?_drop]
    have h7 := h6 _ rfl (k + j) u hu2
    injection e with e
    subst e
    rw [Addr.add_lit] at h7 ⊢
    rw [ha (by omega), Nat.add_assoc]
    exact h7

set_option maxRecDepth 100000 in
set_option maxHeartbeats 800000 in
theorem put_any (v : Value) (bs s : List UInt8) (w : World) (hs : Sl w w.heap.size v bs) (hb : bs.length + s.length + 14 ≤ 140737488355328) :
    Calls Try.prog 33 #[v, .string ⟨s.toArray⟩] w (Wrote w (bs ++ frm s)) := by
  have hl := enc_u64 s.length (by omega)
  have hp := enc_pos s.length
  obtain ⟨c, hc⟩ : ∃ c, bs ++ (enc s.length ++ s) = c := ⟨_, rfl⟩
  have hcl : bs.length + 1 ≤ c.length ∧ c.length ≤ bs.length + 10 + s.length := by rw [← hc, List.length_append, List.length_append]; omega
  have hcd : Hid (c.drop bs.length = enc s.length ++ s) := by unfold Hid; rw [← hc, List.drop_left]
  have HC := Lib.hid hc
  clear hc hl hp
  have HS := Lib.hid hs
  obtain ⟨A, k, rfl, h2, h3⟩ := hs.len
  have h3 : k ≤ 9223372036854775807 := h3
  clear hs
  go_enter Try.func33, Try.ntmps33
  go_wp2_with fail
  refine (text_of _ bs s w HS.out (by omega)).mono ?_
  rintro e w1 ⟨v1, rfl, ho1, hb1⟩
  rw [HC.out] at ho1
  obtain ⟨g, cap, cur, rfl, hg1, hg2, hg3, hg4, hg5, hg6⟩ := own_block ho1 (by omega)
  have hg5 : cap ≤ 9223372036854775807 := hg5
  have HO := Lib.hid ho1
  clear ho1 hg6 hg3
  go_wp2_with fail
  refine (tail_any _ (enc s.length ++ s) w1 (by have := sl_drop HO.out.sl bs.length (by omega) bs.length (fun _ => by omega) hg2; rw [hcd.out] at this; exact this)).mono ?_
  rintro e w2 ⟨v2, rfl, ho2, hb2⟩
  have hs1 := hb1.size
  have hs2 := hb2.size
  go_wp2_with (at_builtin; refine wp_append_sl rfl _ _ rfl w.heap.size _ c rfl ?ho ?hB _ w2.heap.size (le4 (crc (enc s.length ++ s))) rfl ?hn ?hm ?hK)
  case ho => exact HO.out.keep hb2
  case hB => omega
  case hn => exact ho2.sl
  case hm => rw [le4_len]; omega
  case hK =>
    intro v3 w3 ho3 hb3
    go_wp2_with fail
    go_ret
    refine ⟨v3, rfl, ?_, (hb1.trans (hb2.mono hs1)).trans hb3⟩
    have e : bs ++ frm s = c ++ le4 (crc (enc s.length ++ s)) := by rw [← HC.out]; simp [frm]
    rw [e]
    exact ho3

end Go.Proofs.Ytoajfnkhonegnaa.Cd

/-
  Noughts: make([]byte, n), and the text of it. Conditions: none.
-/
namespace Go.Proofs.Ytoajfnkhonegnaa.Cd
open Go.RowKit

def noughts (n : Nat) : List UInt8 := List.replicate n 0
theorem noughts_len (n : Nat) : (noughts n).length = n := List.length_replicate
theorem made_noughts (n : Nat) : madeCells #[.int .u8 0] n = (vb (noughts n)).toArray := by
  apply Array.ext'
  simp [madeCells, noughts, vb, List.map_replicate, Nat.mod_one, List.map_const']

theorem make_bytes (n : Nat) (h : n ≤ 140737488355328) (W : World) :
    (Instr.makeSlice 27 (.int .i64 (n : Int)) (.int .i64 (n : Int))).run Try.prog W = .ok (.slice (some ⟨W.heap.size, 0, none⟩) n n) (W.alloc (.cells (vb (noughts n)).toArray 5)) := by
  rw [run_make_row' 27 5 (.int .u8 0) 1 Try.underlying27 info5 rfl .i64 .i64 n (by omega) (by omega) W, made_noughts]
theorem sl_noughts (W : World) (n : Nat) (h : n ≤ 140737488355328) (fr : Nat × Nat) : Sl (W.alloc (.cells (vb (noughts n)).toArray 5 fr)) (W.heap.size + 1) (.slice (some ⟨W.heap.size, 0, none⟩) n n) (noughts n) :=
  sl_mark W (noughts n) _ rfl (by rw [noughts_len]; simp only [maxLen]; omega) n (noughts_len n).symm fr
/-- The text of noughts that were laid a moment ago. -/
theorem text_noughts (W : World) (n : Nat) (h : n ≤ 140737488355328) (g : Nat) (hg : W.heap.size = g) : (convert 27 9 (.slice (some ⟨g, 0, none⟩) n n)).run Try.prog (W.alloc (.cells (vb (noughts n)).toArray 5)) =
    .ok (.string ⟨(noughts n).toArray⟩) (W.alloc (.cells (vb (noughts n)).toArray 5)) := by
  subst hg
  exact run_text_of _ _ _ _ (sl_noughts W n h (0, 0))
theorem text_noughts2 (W : World) (n : Nat) (h : n ≤ 140737488355328) : (convert 27 9 (.slice (some ⟨W.heap.size, 0, none⟩) n n)).run Try.prog (W.alloc (.cells (vb (noughts n)).toArray 5)).drew =
    .ok (.string ⟨(noughts n).toArray⟩) (W.alloc (.cells (vb (noughts n)).toArray 5)).drew :=
  run_text_of _ _ _ _ ((sl_noughts W n h (0, 0)).below (Below.refl _ _).drew)

end Go.Proofs.Ytoajfnkhonegnaa.Cd

/-
  A region that draws its order, taken by hand. Conditions: none.
-/
namespace Go.Proofs.Ytoajfnkhonegnaa.Cd
open Go.RowKit

section
variable {P : Program} {md : Region.Mode} {ops : Array Oper} {Q : Exit → Act → World → Prop} {S : World → Prop} {i fuel : Nat} {listed : Array Bool} {a : Act} {w : World}

theorem region_begin {id : Nat} {W0 : World} (hW : w.drew = W0) (hm : P.follows .mixedOrders = true) (hS : S W0) (h : S W0 → wpAnyH P .any ops Q S ops.size (Array.replicate ops.size false) a W0) : (Code.region id ops true).wp P Q a w := by
  subst hW
  exact wp_region_held_drew hm hS h
/-- An operation that yields v wherever S holds is taken first. -/
theorem take_at (v : Value) (d : Option Nat) (h : i < ops.size) (hd : (ops[i]'h).dst = d) (hs : Region.noSelect ops = true) (hf : Region.free md ops listed i = true) (hr : (Region.ready md ops listed).contains i = true)
    (hQ : ∀ c a w, Q (.panic c) (a.put d v) w → Q (.panic c) a w) (hw : Region.wanted (ops[i]'h) (yielded ops a.tmps) = true) (hy : ∀ W, S W → (execOp a.eval (ops[i]'h)).run P W = .ok (.value v) W) (hS : S w)
    (hrest : wpAnyH P md ops Q S fuel (listed.setIfInBounds i true) (a.put d v) w) : wpAnyH P md ops Q S (fuel + 1) listed a w := by
  subst hd
  exact wpAnyH_take (Array.getElem?_eq_getElem h) hs hf hr hQ (.inl ⟨hw, hy⟩) hS hrest
/-- One that comes up, and yields v in this world. -/
theorem come {rs : List Nat} (v : Value) (w' : World) (d : Option Nat) (h : i < ops.size) (hd : (ops[i]'h).dst = d) (hw : Region.wanted (ops[i]'h) (yielded ops a.tmps) = true) (hy : (execOp a.eval (ops[i]'h)).run P w = .ok (.value v) w') (hS : S w')
    (hrest : wpAnyH P md ops Q S fuel (listed.setIfInBounds i true) (a.put d v) w') (hs : AllReadyH P md ops Q S fuel listed a w rs) : AllReadyH P md ops Q S fuel listed a w (i :: rs) := by
  subst hd
  refine AllReadyH.cons (Array.getElem?_eq_getElem h) (fun K' hK => ?_) hs
  rw [if_pos hw]
  unfold Oper.wp
  simp only [hy, Oper.upon]
  exact hK.out _ _ hS (fun _ => hrest)
end

end Go.Proofs.Ytoajfnkhonegnaa.Cd
