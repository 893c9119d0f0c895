/-
  Maps of the program as functions: what a look-up, a store, a delete and len do. Conditions: none.
-/
import Derived.Test.YtkbmajgbhpecgaaGreatDoorRows
import Derived.WalkKit
import Derived.WalkSpells
import Derived.WalkLawsBesides
import Derived.Outline
import Derived.ArgAppend
import Derived.Laws.BytesString
import Derived.Laws.IdiomStrings
import Derived.Lib.AppendStr
import Derived.Lib.ConvBytes
import Derived.Lib.BufferRead
import Derived.Lib.Hide
import Derived.Deep.Slices
import Derived.Deep.Fields
import Derived.Deep.RegionLaw
import Derived.RegionTactic
import Derived.BigRegion
import Derived.OpenShut
import Derived.ChangeSame
import Derived.LoopTactic
import Derived.Laws.Rows
import Derived.SizedLaws
import Derived.Lib.SlBytesConst
import Derived.Maps.OwnSet
import Derived.DeepKeys4
import Derived.Deep.MidRow
/-
  Plain facts on numbers as bytes, seven bits a byte: no Go in sight. Conditions: none.
-/
namespace Go.Proofs.YtkbmajgbhpecgaaGreatDoor.Cd

/-- A byte behind which none follows; one behind which another follows. -/
def lo8 (n : Nat) : UInt8 := UInt8.ofNat n
def hi8 (n : Nat) : UInt8 := UInt8.ofNat (128 + n % 128)

theorem lo8_nat {n : Nat} (h : n < 128) : (lo8 n).toNat = n := by unfold lo8; rw [UInt8.toNat_ofNat']; omega
theorem hi8_nat (n : Nat) : (hi8 n).toNat = 128 + n % 128 := by unfold hi8; rw [UInt8.toNat_ofNat']; omega

/-- A number's bytes. -/
def enc (n : Nat) : List UInt8 := if n < 128 then [lo8 n] else hi8 n :: enc (n / 128)
termination_by n
decreasing_by omega

theorem enc_lo {n : Nat} (h : n < 128) : enc n = [lo8 n] := by rw [enc, if_pos h]
theorem enc_hi {n : Nat} (h : 128 ≤ n) : enc n = hi8 n :: enc (n / 128) := by rw [enc, if_neg (by omega)]

theorem enc_pos (n : Nat) : 1 ≤ (enc n).length := by
  rw [enc]; split <;> simp

theorem enc_mono (m n : Nat) (h : m ≤ n) : (enc m).length ≤ (enc n).length := by
  induction n using Nat.strongRecOn generalizing m with
  | _ n ih =>
    by_cases hm : m < 128
    · rw [enc_lo hm]; exact enc_pos n
    · rw [enc_hi (n := m) (by omega), enc_hi (n := n) (by omega)]
      simp only [List.length_cons]
      have := ih (n / 128) (by omega) (m / 128) (Nat.div_le_div_right h)
      omega

theorem enc_len (k n : Nat) (h : n < 128 ^ k) (hk : 1 ≤ k) : (enc n).length ≤ k := by
  induction k generalizing n with
  | zero => omega
  | succ k ih =>
    by_cases hn : n < 128
    · rw [enc_lo hn]; simp
    · rw [enc_hi (by omega)]
      have hk1 : 1 ≤ k := by
        rcases Nat.eq_zero_or_pos k with rfl | h1
        · simp at h; omega
        · exact h1
      have := ih (n / 128) (by rw [Nat.div_lt_iff_lt_mul (by omega)]; rw [Nat.pow_succ] at h; exact h) hk1
      simp only [List.length_cons]; omega

theorem enc_u64 (n : Nat) (h : n < 18446744073709551616) : (enc n).length ≤ 10 := by
  refine enc_len 10 n (Nat.lt_of_lt_of_le h ?_) (by omega)
  decide

/-- The bytes of a number that may be below 0. -/
def zig (n : Int) : Nat := if 0 ≤ n then (2 * n).toNat else (2 * (-(n + 1)) + 1).toNat

/-! ### Reading a number -/

/-- A byte of a list, as a number; 0 behind the end. -/
def at8 (l : List UInt8) (k : Nat) : Nat := (l.getD k 0).toNat
theorem at8_lt (l : List UInt8) (k : Nat) : at8 l k < 256 := UInt8.toNat_lt _

/-- What the first k bytes say. -/
def val (l : List UInt8) : Nat → Nat
  | 0 => 0
  | k + 1 => val l k + at8 l k % 128 * 128 ^ k

theorem val_lt (l : List UInt8) (k : Nat) : val l k < 128 ^ k := by
  induction k with
  | zero => simp [val]
  | succ k ih =>
    have h : at8 l k % 128 ≤ 127 := by omega
    have h2 : at8 l k % 128 * 128 ^ k ≤ 127 * 128 ^ k := Nat.mul_le_mul_right _ h
    rw [val, Nat.pow_succ]
    omega

/-- How many bytes from the first on are not the last of a number. -/
def stop : List UInt8 → Nat
  | [] => 0
  | c :: r => if c.toNat < 128 then 0 else stop r + 1

theorem stop_le (l : List UInt8) : stop l ≤ l.length := by
  induction l with
  | nil => simp [stop]
  | cons c r ih => rw [stop]; split <;> simp; omega

theorem stop_lo (l : List UInt8) (j : Nat) (h : j < stop l) : 128 ≤ at8 l j := by
  induction l generalizing j with
  | nil => simp [stop] at h
  | cons c r ih =>
    rw [stop] at h
    split at h
    · omega
    · cases j with
      | zero => simp [at8]; omega
      | succ j => have := ih j (by omega); simpa [at8] using this

theorem stop_hi (l : List UInt8) (h : stop l < l.length) : at8 l (stop l) < 128 := by
  induction l with
  | nil => simp at h
  | cons c r ih =>
    rw [stop] at h ⊢
    split
    · simpa [at8]
    · rename_i hc
      rw [if_neg hc] at h
      have := ih (by simpa using h)
      simpa [at8] using this

/-- No byte before k is a last one. -/
def More (l : List UInt8) (k : Nat) : Prop := ∀ j, j < k → 128 ≤ at8 l j

theorem More.zero (l : List UInt8) : More l 0 := fun _ h => absurd h (by omega)
theorem More.succ {l : List UInt8} {k : Nat} (h : More l k) (hk : 128 ≤ at8 l k) : More l (k + 1) := fun j hj => by
  rcases Nat.lt_succ_iff_lt_or_eq.1 hj with h1 | rfl
  · exact h j h1
  · exact hk
theorem More.le {l : List UInt8} {k : Nat} (h : More l k) (hk : k ≤ l.length) : k ≤ stop l := by
  rcases Nat.lt_or_ge (stop l) k with hlt | hge
  · have h1 := h _ hlt
    have h2 := stop_hi l (by omega)
    omega
  · exact hge
theorem More.eq {l : List UInt8} {k : Nat} (h : More l k) (hk : k < l.length) (h8 : at8 l k < 128) : stop l = k := by
  have h1 := h.le (by omega)
  rcases Nat.lt_or_ge k (stop l) with hlt | hge
  · have := stop_lo l k hlt; omega
  · omega

/-- Where no number stands. -/
def Bad (l : List UInt8) : Prop := l.length ≤ stop l ∨ 9 < stop l ∨ (0 < stop l ∧ at8 l (stop l) = 0) ∨ (stop l = 9 ∧ 1 < at8 l 9)

instance (l : List UInt8) : Decidable (Bad l) := by unfold Bad; infer_instance

/-- The number that stands first (0 where none does), and how many bytes it takes (0 where none does). -/
def nv (l : List UInt8) : Nat := if Bad l then 0 else val l (stop l + 1)
def ns (l : List UInt8) : Nat := if Bad l then 0 else stop l + 1

theorem nv_bad {l : List UInt8} (h : Bad l) : nv l = 0 := if_pos h
theorem ns_bad {l : List UInt8} (h : Bad l) : ns l = 0 := if_pos h
theorem nv_good {l : List UInt8} (h : ¬ Bad l) : nv l = val l (stop l + 1) := if_neg h
theorem ns_good {l : List UInt8} (h : ¬ Bad l) : ns l = stop l + 1 := if_neg h
theorem ns_zero {l : List UInt8} : ns l = 0 ↔ Bad l := by
  unfold ns; split <;> simp [*]
theorem ns_le (l : List UInt8) : ns l ≤ l.length := by
  unfold ns
  split
  · omega
  · rename_i h
    unfold Bad at h
    omega
theorem ns_le10 (l : List UInt8) : ns l ≤ 10 := by
  unfold ns
  split
  · omega
  · rename_i h
    unfold Bad at h
    omega

theorem pow7 (k : Nat) : 2 ^ (7 * k) = 128 ^ k := by rw [Nat.pow_mul]

/-- A number's part, shifted up, and down again. -/
def up (p k : Nat) : Nat := p * 2 ^ min (7 * k) 64 % 18446744073709551616
def down (y k : Nat) : Nat := y / 2 ^ min (7 * k) 64

theorem up_lt (p k : Nat) : up p k < 18446744073709551616 := Nat.mod_lt _ (by omega)

theorem up_lo {p k : Nat} (hp : p < 128) (hk : k ≤ 8) : up p k = p * 128 ^ k := by
  unfold up
  rw [Nat.min_eq_left (by omega), pow7]
  have h1 : 128 ^ k ≤ 128 ^ 8 := Nat.pow_le_pow_right (by omega) hk
  have h2 : p * 128 ^ k ≤ 127 * 128 ^ 8 := Nat.mul_le_mul (by omega) h1
  exact Nat.mod_eq_of_lt (Nat.lt_of_le_of_lt h2 (by decide))

theorem down_lo {p k : Nat} (hp : p < 128) (hk : k ≤ 8) : down (up p k) k = p := by
  rw [up_lo hp hk]
  unfold down
  rw [Nat.min_eq_left (by omega), pow7]
  exact Nat.mul_div_cancel _ (Nat.pow_pos (by omega))

theorem up_nine (p : Nat) : up p 9 = p % 2 * 9223372036854775808 := by
  unfold up
  rw [show min (7 * 9) 64 = 63 from rfl]
  omega

theorem down_nine (p : Nat) : down (up p 9) 9 = p % 2 := by
  rw [up_nine]
  unfold down
  rw [show min (7 * 9) 64 = 63 from rfl]
  omega

theorem up_hi (p : Nat) {k : Nat} (hk : 10 ≤ k) : up p k = 0 := by
  unfold up
  rw [Nat.min_eq_right (by omega)]
  omega

theorem down_hi (p : Nat) {k : Nat} (hk : 10 ≤ k) : down (up p k) k = 0 := by
  rw [up_hi p hk]
  unfold down
  simp

theorem or_part {m p k : Nat} (hm : m < 128 ^ k) : m ||| p * 128 ^ k = m + p * 128 ^ k := by
  have h := Nat.two_pow_add_eq_or_of_lt (i := 7 * k) (b := m) (by rwa [pow7]) p
  rw [pow7] at h
  rw [Nat.or_comm, Nat.mul_comm p, ← h]
  omega

section
variable {l : List UInt8} {k m : Nat}

theorem num_zero (hb : More l k) (hk : k < l.length) (h0 : 0 < k) (hz : at8 l k = 0) : Bad l := by
  have := hb.eq hk (by omega)
  exact .inr (.inr (.inl (by rw [this]; exact ⟨h0, hz⟩)))

theorem num_end (hb : More l l.length) : Bad l := .inl (hb.le (Nat.le_refl _))

theorem num_over (hb : More l k) (hk : k < l.length) (ho : down (up (at8 l k % 128) k) k ≠ at8 l k % 128) : Bad l := by
  have hp : at8 l k % 128 < 128 := by omega
  have h9 : 9 ≤ k := by
    rcases Nat.lt_or_ge k 9 with h | h
    · exact absurd (down_lo hp (by omega)) ho
    · exact h
  have hs := hb.le (by omega)
  rcases Nat.lt_or_ge k 10 with h | h
  · obtain rfl : k = 9 := by omega
    rw [down_nine] at ho
    by_cases h8 : at8 l 9 < 128
    · have := hb.eq hk h8
      exact .inr (.inr (.inr ⟨this, by omega⟩))
    · have h10 := (hb.succ (by omega : 128 ≤ at8 l 9)).le (by omega)
      exact .inr (.inl (by omega))
  · exact .inr (.inl (by omega))

theorem num_step (hm : k ≤ 9 → m = val l k) (hk : k ≤ 8) : m ||| up (at8 l k % 128) k = val l (k + 1) := by
  rw [up_lo (by omega) hk, hm (by omega), or_part (val_lt l k), val]

theorem num_done (hb : More l k) (hk : k < l.length) (h8 : at8 l k < 128) (hz : k = 0 ∨ at8 l k ≠ 0) (ho : down (up (at8 l k % 128) k) k = at8 l k % 128) (hm : k ≤ 9 → m = val l k) :
    ¬ Bad l ∧ stop l = k ∧ m ||| up (at8 l k % 128) k = val l (k + 1) := by
  have he := hb.eq hk h8
  have hk9 : k ≤ 9 := by
    rcases Nat.lt_or_ge k 10 with h | h
    · omega
    · rw [down_hi _ h] at ho
      omega
  have h91 : k = 9 → at8 l 9 ≤ 1 := by
    rintro rfl
    rw [down_nine] at ho
    omega
  refine ⟨?_, he, ?_⟩
  · unfold Bad
    rw [he]
    omega
  · rcases Nat.lt_or_ge k 9 with h | h
    · exact num_step hm (by omega)
    · obtain rfl : k = 9 := by omega
      have h1 := h91 rfl
      have h2 := up_nine (at8 l 9 % 128)
      have h3 : at8 l 9 % 128 % 2 = at8 l 9 % 128 := by omega
      rw [h2, h3, hm (by omega), show (9223372036854775808 : Nat) = 128 ^ 9 from by decide, or_part (val_lt l 9)]
      rfl
end

/-! ### What a reader answers, and what it has left: bytes 'bs', fault 'bad' (where there was one nothing is left) -/

def uB (bs : List UInt8) : List UInt8 := if Bad bs then [] else bs.drop (ns bs)
def uX (bs : List UInt8) : Bool := decide (Bad bs)
def zag (n : Nat) : Int := if n % 2 = 1 then -((n / 2 : Nat) : Int) - 1 else ((n / 2 : Nat) : Int)
def InBad (lo hi : Int) (bs : List UInt8) : Prop := Bad bs ∨ zag (nv bs) < lo ∨ hi < zag (nv bs)
instance (lo hi : Int) (bs : List UInt8) : Decidable (InBad lo hi bs) := by unfold InBad; infer_instance
def inV (lo hi : Int) (bs : List UInt8) : Int := if InBad lo hi bs then 0 else zag (nv bs)
def inB (lo hi : Int) (bs : List UInt8) : List UInt8 := if InBad lo hi bs then [] else bs.drop (ns bs)
def inX (lo hi : Int) (bs : List UInt8) : Bool := decide (InBad lo hi bs)
def TkBad (bad : Bool) (n : Int) (bs : List UInt8) : Prop := bad = true ∨ n < 0 ∨ (bs.length : Int) < n
instance (bad : Bool) (n : Int) (bs : List UInt8) : Decidable (TkBad bad n bs) := by unfold TkBad; infer_instance
def tkV (bad : Bool) (n : Int) (bs : List UInt8) : List UInt8 := if TkBad bad n bs then [] else bs.take n.toNat
def tkB (bad : Bool) (n : Int) (bs : List UInt8) : List UInt8 := if TkBad bad n bs then [] else bs.drop n.toNat
def tkX (bad : Bool) (n : Int) (bs : List UInt8) : Bool := decide (TkBad bad n bs)
def TxBad (most : Int) (bs : List UInt8) : Prop := Bad bs ∨ most < 0 ∨ most < (nv bs : Nat) ∨ (bs.drop (ns bs)).length < nv bs
instance (most : Int) (bs : List UInt8) : Decidable (TxBad most bs) := by unfold TxBad; infer_instance
def txV (most : Int) (bs : List UInt8) : List UInt8 := if TxBad most bs then [] else (bs.drop (ns bs)).take (nv bs)
def txB (most : Int) (bs : List UInt8) : List UInt8 := if TxBad most bs then [] else (bs.drop (ns bs)).drop (nv bs)
def txX (most : Int) (bs : List UInt8) : Bool := decide (TxBad most bs)

/-- Behind a fault nothing is left. -/
def Sane (bad : Bool) (bs : List UInt8) : Prop := bad = true → bs = []

theorem bad_nil : Bad [] := .inl (by simp)
theorem Sane.start (bs : List UInt8) : Sane false bs := fun h => by cases h
theorem Sane.u (bs : List UInt8) : Sane (uX bs) (uB bs) := fun h => by unfold uB; rw [if_pos (of_decide_eq_true h)]
theorem Sane.in (lo hi : Int) (bs : List UInt8) : Sane (inX lo hi bs) (inB lo hi bs) := fun h => by unfold inB; rw [if_pos (of_decide_eq_true h)]
theorem Sane.tk (bad : Bool) (n : Int) (bs : List UInt8) : Sane (tkX bad n bs) (tkB bad n bs) := fun h => by unfold tkB; rw [if_pos (of_decide_eq_true h)]
theorem Sane.tx (most : Int) (bs : List UInt8) : Sane (txX most bs) (txB most bs) := fun h => by unfold txB; rw [if_pos (of_decide_eq_true h)]

theorem uB_len (bs : List UInt8) : (uB bs).length ≤ bs.length := by unfold uB; split <;> simp
theorem inB_len (lo hi : Int) (bs : List UInt8) : (inB lo hi bs).length ≤ bs.length := by unfold inB; split <;> simp
theorem tkB_len (bad : Bool) (n : Int) (bs : List UInt8) : (tkB bad n bs).length ≤ bs.length := by unfold tkB; split <;> simp
theorem txB_len (most : Int) (bs : List UInt8) : (txB most bs).length ≤ bs.length := by unfold txB; split <;> simp <;> omega

theorem val_u64 {l : List UInt8} (h : ¬ Bad l) : val l (stop l + 1) < 18446744073709551616 := by
  unfold Bad at h
  have h9 : stop l ≤ 9 := by omega
  rcases Nat.lt_or_ge (stop l) 9 with h1 | h1
  · have h2 := val_lt l (stop l + 1)
    have h3 : 128 ^ (stop l + 1) ≤ 128 ^ 9 := Nat.pow_le_pow_right (by omega) (by omega)
    exact Nat.lt_of_lt_of_le h2 (Nat.le_trans h3 (by decide))
  · have h2 : stop l = 9 := by omega
    have h3 := val_lt l 9
    have h4 : at8 l 9 ≤ 1 := by omega
    have h5 : at8 l 9 % 128 * 128 ^ 9 ≤ 1 * 128 ^ 9 := Nat.mul_le_mul_right _ (by omega)
    rw [h2, val]
    have h6 : 1 * 128 ^ 9 + 128 ^ 9 = 18446744073709551616 := by decide
    omega

theorem nv_u64 (l : List UInt8) : nv l < 18446744073709551616 := by
  unfold nv
  split
  · omega
  · exact val_u64 ‹_›

end Go.Proofs.YtkbmajgbhpecgaaGreatDoor.Cd

/-
  Slices of bytes that read as a list of bytes; what append and a conversion do to them. Conditions: none.
-/
namespace Go.Proofs.YtkbmajgbhpecgaaGreatDoor.Cd
open Go.RowKit

/-- Bytes as cells. -/
def vb (bs : List UInt8) : List Value := bs.map fun b => Value.int .u8 b.toNat

theorem vb_length (bs : List UInt8) : (vb bs).length = bs.length := by simp [vb]
theorem vb_append (a b : List UInt8) : vb (a ++ b) = vb a ++ vb b := by simp [vb]
theorem vb_at (bs : List UInt8) (j : Nat) (hj : j < bs.length) : (vb bs)[j]? = some (.int .u8 (bs[j]).toNat) := by simp [vb, hj]
theorem vb_one (bs : List UInt8) : ∀ u ∈ vb bs, u.oneCell' = true := by
  intro u hu
  simp only [vb, List.mem_map] at hu
  obtain ⟨b, _, rfl⟩ := hu
  rfl

/-- A slice value that reads as the bytes 'bs'; where it has bytes its block lies below B. -/
def Sl (w : World) (B : Nat) (v : Value) (bs : List UInt8) : Prop :=
  ∃ A c, v = .slice A bs.length c ∧ bs.length ≤ c ∧ c ≤ maxLen ∧ (A = none → c = 0) ∧ (∀ ad, A = some ad → 0 < bs.length → ad.block < B) ∧
    ∀ ad, A = some ad → ∀ j u, (vb bs)[j]? = some u → w.cell? (ad.add j) = some u

theorem Sl.nil (w : World) (B : Nat) : Sl w B (.slice none 0 0) [] := ⟨none, 0, rfl, by simp, by simp, fun _ => rfl, fun _ h => by simp at h, fun _ h => by simp at h⟩

theorem block_of_add (a : Addr) (n : Nat) : (a.add n).block = a.block := by unfold Addr.add; split <;> rfl

theorem Sl.keep {w w' : World} {B : Nat} {v : Value} {bs : List UInt8} (h : Sl w B v bs) (hk : ∀ p : Addr, p.block < B → w'.cell? p = w.cell? p) : Sl w' B v bs := by
  obtain ⟨A, c, h1, h2, h3, h4, h5, h6⟩ := h
  refine ⟨A, c, h1, h2, h3, h4, h5, fun ad e j u hu => ?_⟩
  have hj : j < bs.length := by
    have := (List.getElem?_eq_some_iff.1 hu).1
    rwa [vb_length] at this
  rw [hk _ (by rw [block_of_add]; exact h5 ad e (by omega))]
  exact h6 ad e j u hu

theorem Sl.below {w w' : World} {B : Nat} {v : Value} {bs : List UInt8} (h : Sl w B v bs) (hb : Below B w w') : Sl w' B v bs := h.keep fun _ hp => hb.cell hp

theorem Sl.more {w : World} {B B' : Nat} {v : Value} {bs : List UInt8} (h : Sl w B v bs) (hB : B ≤ B') : Sl w B' v bs := by
  obtain ⟨A, c, h1, h2, h3, h4, h5, h6⟩ := h
  exact ⟨A, c, h1, h2, h3, h4, fun ad e hn => Nat.lt_of_lt_of_le (h5 ad e hn) hB, h6⟩

/-- A row of the call's own that holds the bytes. -/
def Own (w : World) (B : Nat) (v : Value) (bs : List UInt8) : Prop := w.ownsRow B 5 1 v bs.length (vb bs)

theorem Own.sl {w : World} {B : Nat} {v : Value} {bs : List UInt8} (h : Own w B v bs) : Sl w w.heap.size v bs := by
  have hlt := h.lt
  have hc := fun g hg => h.cells (g := g) hg
  rcases h.2 with ⟨rfl, h0⟩ | ⟨g, cap, cur, rfl, _, hg, hn, hm, _, _⟩
  · have : bs = [] := List.eq_nil_of_length_eq_zero h0
    subst this
    exact Sl.nil _ _
  · exact ⟨_, cap, rfl, hn, hm, (fun h => by cases h), (fun ad e _ => by injection e with e; subst e; exact (hlt g rfl).2), fun ad e => by injection e with e; subst e; exact hc g rfl⟩

theorem Own.lower {w : World} {B B' : Nat} {v : Value} {bs : List UInt8} (h : Own w B v bs) (hB : B' ≤ B) : Own w B' v bs := by
  refine ⟨h.1, ?_⟩
  rcases h.2 with h2 | ⟨g, cap, cur, hv, hg, r⟩
  · exact .inl h2
  · exact .inr ⟨g, cap, cur, hv, Nat.le_trans hB hg, r⟩

/-- What a writer leaves: the bytes in a row of its own, and all that was there as it was. -/
def Wrote (w : World) (bs : List UInt8) (e : Ending) (w' : World) : Prop :=
  ∃ v, e = .returned v ∧ Own w' w.heap.size v bs ∧ Below w.heap.size w w'

theorem info5 : (Tryz.prog.info? 5).map (fun i => (i.zero, i.size, i.bytes)) = some (some (.int .u8 0), 1, 1) := by kernel_rfl

/-- Either a row of the call's own, or a slice without spare room. -/
def Out (w : World) (B : Nat) (v : Value) (bs : List UInt8) : Prop :=
  Own w B v bs ∨ ∃ A, v = .slice A bs.length bs.length ∧ (A = none → bs = []) ∧ ∀ ad, A = some ad → ∀ j u, (vb bs)[j]? = some u → w.cell? (ad.add j) = some u

theorem cell_kept {w w' : World} (hb : Below w.heap.size w w') {p : Addr} {u : Value} (h : w.cell? p = some u) : w'.cell? p = some u :=
  (hb.cell (World.block_lt_of_cell? w p h)).trans h

theorem Out.alloc {w : World} {B : Nat} {v : Value} {bs : List UInt8} (h : Out w B v bs) (o : Obj) : Out (w.alloc o) B v bs := by
  rcases h with h | ⟨A, h1, h2, h3⟩
  · exact .inl (World.ownsRow.alloc h o)
  · exact .inr ⟨A, h1, h2, fun ad e j u hu => cell_kept ((Below.refl _ _).alloc (Nat.le_refl _) _) (h3 ad e j u hu)⟩

theorem run_append_out (w : World) (B : Nat) (v : Value) (bs : List UInt8) (ho : Out w B v bs) (hB : B ≤ w.heap.size) (ad : Addr) (c : Nat) (ns : List UInt8) (h1 : 1 ≤ ns.length)
    (hnews : ∀ j u, (vb ns)[j]? = some u → w.cell? (ad.add j) = some u) (hm : bs.length + ns.length ≤ 140737488355328) (ty : TypeId) :
    ∃ v' w', (Builtin.append_ #[49, 49] ty #[v, .slice (some ad) ns.length c]).run Tryz.prog w = .ok v' w' ∧ Own w' B v' (bs ++ ns) ∧ Below B w w' := by
  obtain ⟨i0, hi, hz0, hz1, hz2⟩ := info_parts info5
  have hmax : bs.length + ns.length ≤ maxLen := by simp only [maxLen]; omega
  rcases ho with ho | ⟨A, rfl, hA, hc⟩
  · obtain ⟨v', w', hr, h2, h3, _⟩ := run_append_own (P := Tryz.prog) w B 49 ty 5 i0 _ 1 1 Tryz.underlying49 hi hz0 hz1 hz2 rfl (by omega) v bs.length (vb bs) ho ad ns.length c (vb ns) (by simp [vb]) hnews (vb_one ns) hmax (by omega) hB
    refine ⟨v', w', hr, ?_, (Below.refl _ _).grown h3 hB (fun k hk => (ho.lt k hk).1)⟩
    unfold Own
    rw [vb_append, List.length_append]
    exact h2
  · cases A with
    | some b =>
      obtain ⟨v', w', hrun, r1, r2⟩ := run_append_arg_grows (P := Tryz.prog) w 49 ty 5 i0 _ 1 1 Tryz.underlying49 hi hz0 hz1 hz2 rfl (by omega) b bs.length bs.length (vb bs) (by simp [vb]) (hc b rfl) ad ns.length c (vb ns) (by simp [vb]) hnews (by omega) hmax (by omega)
      refine ⟨v', w', hrun, ?_, (Below.refl _ _).grown r2 hB (fun k hk => by cases hk)⟩
      refine Own.lower (B := w.heap.size) ?_ hB
      unfold Own
      rw [vb_append, List.length_append]
      exact r1
    | none =>
      obtain rfl := hA rfl
      obtain ⟨v', w', hrun, r1, r2, _⟩ := run_append_own (P := Tryz.prog) w B 49 ty 5 i0 _ 1 1 Tryz.underlying49 hi hz0 hz1 hz2 rfl (by omega) (.slice none 0 0) 0 [] (World.ownsRow_nil w _ 5 1) ad ns.length c (vb ns) (by simp [vb]) hnews (vb_one ns) (by simpa using hmax) (by simpa using hm) hB
      refine ⟨v', w', hrun, ?_, (Below.refl _ _).grown r2 hB (fun k hk => by cases hk)⟩
      unfold Own
      simpa using r1

/-- append of bytes, for the walk. -/
theorem wp_append_out {w : World} {ops : Array Oper} {rest : List Oper} {o : Oper} {a : Act} {Q : Exit → Act → World → Prop} (hgd : o.guard = none) (s x : Operand)
    (hop : o.op = .call { callee := .builtin .append, args := #[s, x], argTypes := #[49, 49] })
    (B : Nat) (v : Value) (bs : List UInt8) (hs : a.eval s = v) (ho : Out w B v bs) (hB : B ≤ w.heap.size) (ad : Addr) (c : Nat) (ns : List UInt8) (hx : a.eval x = .slice (some ad) ns.length c)
    (h1 : 1 ≤ ns.length) (hnews : ∀ j u, (vb ns)[j]? = some u → w.cell? (ad.add j) = some u) (hm : bs.length + ns.length ≤ 140737488355328)
    (hK : ∀ v' w', Own w' B v' (bs ++ ns) → Below B w w' → wpList Tryz.prog ops Q rest (a.put o.dst v') w') : wpList Tryz.prog ops Q (o :: rest) a w := by
  refine wpList_plain hgd fun K hK' => ?_
  obtain ⟨v', w', hrun, r1, r2⟩ := run_append_out w B v bs ho hB ad c ns h1 hnews hm o.type
  unfold Oper.wp
  simp [execOp, hop, resolve, invoke, builtin, hs, hx, hrun, Result.andThen]
  exact hK' _ _ (hK v' w' r1 r2)

/-- append of a string's bytes, for the walk. -/
theorem wp_append_text {w : World} {ops : Array Oper} {rest : List Oper} {o : Oper} {a : Act} {Q : Exit → Act → World → Prop} (hgd : o.guard = none) (s x : Operand)
    (hop : o.op = .call { callee := .builtin .append, args := #[s, x], argTypes := #[49, 9] })
    (B : Nat) (v : Value) (bs : List UInt8) (hs : a.eval s = v) (ho : Own w B v bs) (hB : B ≤ w.heap.size) (t : ByteArray) (hx : a.eval x = .string t)
    (hm : bs.length + t.size ≤ 140737488355328)
    (hK : ∀ v' w', Own w' B v' (bs ++ t.data.toList) → Below B w w' → wpList Tryz.prog ops Q rest (a.put o.dst v') w') : wpList Tryz.prog ops Q (o :: rest) a w := by
  obtain ⟨i0, hi, hz0, hz1, hz2⟩ := info_parts info5
  have hmax : bs.length + t.size ≤ maxLen := by simp only [maxLen]; omega
  refine wpList_plain hgd fun K hK' => ?_
  obtain ⟨v', w', hrun, r1, r2⟩ := Lib.run_append_own_string (P := Tryz.prog) w B 49 9 o.type 5 i0 Tryz.underlying49 Tryz.underlying9 hi hz0 hz1 hz2 v bs.length (vb bs) ho t hmax (by omega) hB
  unfold Oper.wp
  simp [execOp, hop, resolve, invoke, builtin, hs, hx, hrun, Result.andThen]
  refine hK' _ _ (hK v' w' ?_ ((Below.refl _ _).grown r2.1 hB (fun k hk => (ho.lt k hk).1)))
  unfold Own
  rw [vb_append, List.length_append]
  exact r1

/-- string(b), of bytes. -/
theorem run_text_of (w : World) (B : Nat) (v : Value) (bs : List UInt8) (h : Sl w B v bs) : (convert 49 9 v).run Tryz.prog w = .ok (.string ⟨bs.toArray⟩) w := by
  obtain ⟨A, c, rfl, _, _, h4, _, h6⟩ := h
  cases A with
  | some ad => exact run_convert_bytes_back w 49 9 5 ad c bs Tryz.underlying49 Tryz.underlying5 Tryz.underlying9 fun j hj => h6 ad rfl j _ (vb_at bs j hj)
  | none =>
    have hc := h4 rfl
    subst hc
    have : bs = [] := List.eq_nil_of_length_eq_zero (by omega)
    subst this
    exact Lib.run_convert_nil_bytes w 49 9 5 0 Tryz.underlying49 Tryz.underlying5 Tryz.underlying9

/-- string([]byte{..}) of one byte that lies in a block of its own. -/
theorem run_text_one (w : World) (g c : Nat) (x : Int) (b : UInt8) (hx : x = (b.toNat : Int)) (hc : w.cell? ⟨g, 0, none⟩ = some (.int .u8 x)) :
    (convert 49 9 (.slice (some ⟨g, 0, none⟩) 1 c)).run Tryz.prog w = .ok (.string ⟨#[b]⟩) w := by
  subst hx
  exact run_convert_bytes_back w 49 9 5 ⟨g, 0, none⟩ c [b] Tryz.underlying49 Tryz.underlying5 Tryz.underlying9 fun j hj => by
    obtain rfl : j = 0 := by simp at hj; omega
    simpa [Addr.add] using hc

end Go.Proofs.YtkbmajgbhpecgaaGreatDoor.Cd

/-
  []byte(s), and slices of byte slices. Conditions: none.
-/
namespace Go.Proofs.YtkbmajgbhpecgaaGreatDoor.Cd
open Go.RowKit

/-- A byte slice in a block that is known by its number. -/
def Row (w : World) (g c : Nat) (bs : List UInt8) : Prop := bs.length ≤ c ∧ c ≤ maxLen ∧ g < w.heap.size ∧ ∀ j u, (vb bs)[j]? = some u → w.cell? ⟨g, j, none⟩ = some u

theorem Row.keep {w w' : World} {g c B : Nat} {bs : List UInt8} (h : Row w g c bs) (hb : Below B w w') (hB : g < B) : Row w' g c bs :=
  ⟨h.1, h.2.1, Nat.lt_of_lt_of_le h.2.2.1 hb.size, fun j u hu => (hb.cell (p := ⟨g, j, none⟩) hB).trans (h.2.2.2 j u hu)⟩

theorem Row.sl {w : World} {g c : Nat} {bs : List UInt8} (h : Row w g c bs) : Sl w w.heap.size (.slice (some ⟨g, 0, none⟩) bs.length c) bs :=
  ⟨_, c, rfl, h.1, h.2.1, (fun h => by cases h), (fun ad e _ => by injection e with e; subst e; exact h.2.2.1), fun ad e j u hu => by
    injection e with e
    subst e
    rw [Addr.add_lit, Nat.zero_add]
    exact h.2.2.2 j u hu⟩

theorem Row.take {w : World} {g c : Nat} {bs : List UInt8} (h : Row w g c bs) (k : Nat) : Row w g c (bs.take k) :=
  ⟨by have := h.1; rw [List.length_take]; omega, h.2.1, h.2.2.1, fun j u hu => h.2.2.2 j u (by
    have hj := (List.getElem?_eq_some_iff.1 hu).1
    rw [vb_length, List.length_take] at hj
    rw [← hu]
    simp only [vb, List.map_take]
    rw [List.getElem?_take, if_pos (by omega)])⟩

theorem Row.slTake {w : World} {g c : Nat} {bs : List UInt8} (h : Row w g c bs) {k : Nat} (hk : k ≤ bs.length) : Sl w w.heap.size (.slice (some ⟨g, 0, none⟩) k c) (bs.take k) := by
  have h2 := (h.take k).sl
  rwa [List.length_take, Nat.min_eq_left hk] at h2

/-- []byte(s), for the walk. -/
theorem wp_bytes_of {w : World} {ops : Array Oper} {rest : List Oper} {o : Oper} {a : Act} {Q : Exit → Act → World → Prop} (hgd : o.guard = none) (x : Operand)
    (hop : o.op = .convert 9 49 x) (s : List UInt8) (hx : a.eval x = .string ⟨s.toArray⟩) (hs : s.length ≤ 140737488355328)
    (hK : ∀ g c w', Row w' g c s → w.heap.size ≤ g → Below w.heap.size w w' → wpList Tryz.prog ops Q rest (a.put o.dst (.slice (some ⟨g, 0, none⟩) s.length c)) w') : wpList Tryz.prog ops Q (o :: rest) a w := by
  refine wpList_plain hgd fun K hK' => ?_
  have hrun := Lib.run_convert_string_bytes (P := Tryz.prog) w 9 49 5 ⟨s.toArray⟩ Tryz.underlying9 Tryz.underlying49 Tryz.underlying5
  have hsz : (ByteArray.mk s.toArray).size = s.length := rfl
  rw [hsz] at hrun
  unfold Oper.wp
  simp [execOp, hop, hx, hrun, Result.andThen]
  refine hK' _ _ (hK _ _ _ ⟨grownCap_ge w s.length 0 5, grownCap_le_maxLen w s.length 0 5 (by simp only [maxLen]; omega), by rw [Lib.bytesWorld_size]; omega, fun j u hu => ?_⟩ (Nat.le_refl _) ⟨rfl, rfl, rfl, by rw [Lib.bytesWorld_size]; omega, fun k hk => Lib.bytesWorld_at_old w _ _ k hk⟩)
  have hj := (List.getElem?_eq_some_iff.1 hu).1
  rw [vb_length] at hj
  rw [Lib.bytesWorld_cell w 5 ⟨s.toArray⟩ j hj]
  rw [vb_at s j hj] at hu
  rw [← hu]
  simp [List.getD, hj]

end Go.Proofs.YtkbmajgbhpecgaaGreatDoor.Cd

/-
  What every seat's texts lean on: what a call gives, slices of bytes that grow, the reading of an argument of bytes. Conditions: none.
-/
namespace Go.Proofs.YtkbmajgbhpecgaaGreatDoor.Cd
open Go.RowKit Go.ChangeShapes Go.WideShapes Go.Deep

/-- What a call leaves that answers one value and writes to nothing that was there. -/
def Gives (v : Value) (w : World) (e : Ending) (w' : World) : Prop := e = .returned v ∧ Below w.heap.size w w'

theorem below_of_grown {w0 w w' : World} {g B : Nat} (h : Below B w0 w) (hg : w.grownBy w' (some g)) (hB : B ≤ w.heap.size) (hr : B ≤ g) : Below B w0 w' :=
  h.grown hg hB (fun k hk => by injection hk with hk; omega)

theorem below_drewN {B : Nat} {a w : World} (h : Below B a w) (n : Nat) : Below B a (w.drewN n) := ⟨h.os, h.tape, h.output, h.size, h.block⟩

theorem asz (w : World) (o : Obj) : (w.alloc o).heap.size = w.heap.size + 1 := by simp

theorem sl_mark (w : World) (cs : List UInt8) (xs : Array Value) (hx : xs = (vb cs).toArray) (hm : cs.length ≤ maxLen) (n : Nat) (hn : n = cs.length) (fr : Nat × Nat) :
    Sl (w.alloc (.cells xs 5 fr)) (w.heap.size + 1) (.slice (some ⟨w.heap.size, 0, none⟩) n n) cs := by
  subst hx hn
  refine ⟨_, cs.length, rfl, Nat.le_refl _, hm, (fun h => by cases h), (fun ad e _ => by injection e with e; subst e; simp), fun ad e j u hu => ?_⟩
  injection e with e
  subst e
  rw [Addr.add_lit, Nat.zero_add]
  have := cell_of_row (w.alloc (.cells (vb cs).toArray 5 fr)) w.heap.size j (vb cs).toArray 5 fr (heap_alloc_new w _)
  rw [this]
  simpa using hu

theorem sl_new (w : World) (cs : List UInt8) (xs : Array Value) (hx : xs = (vb cs).toArray) (hm : cs.length ≤ maxLen) (n : Nat) (hn : n = cs.length) :
    Sl (w.alloc (.cells xs 5)) (w.heap.size + 1) (.slice (some ⟨w.heap.size, 0, none⟩) n n) cs := sl_mark w cs xs hx hm n hn (0, 0)

/-- []byte of a constant, for the walk. -/
theorem bytes_const (w : World) (C : Array Value) (n c : Nat) : (convert 49 49 (.slice (some ⟨w.heap.size, 0, none⟩) n c)).run Tryz.prog (w.alloc (.cells C 5)) = .ok (.slice (some ⟨w.heap.size, 0, none⟩) n c) (w.alloc (.cells C 5 (C.size, C.size + 1))) :=
  Lib.run_convert_bytes_const (P := Tryz.prog) w 49 5 C n c Tryz.underlying49 Tryz.underlying5

/-- A row of the call's own that has a first byte. -/
theorem Own.open {w : World} {B : Nat} {v : Value} {c : UInt8} {r : List UInt8} (h : Own w B v (c :: r)) :
    ∃ g cap, v = .slice (some ⟨g, 0, none⟩) (r.length + 1) cap ∧ r.length + 1 ≤ cap ∧ cap ≤ maxLen ∧ g < w.heap.size ∧ ∀ j u, (vb (c :: r))[j]? = some u → w.cell? ⟨g, j, none⟩ = some u := by
  obtain ⟨g, cap, hv, hlt⟩ : ∃ g cap, v = .slice (some ⟨g, 0, none⟩) (r.length + 1) cap ∧ g < w.heap.size := by
    have hlt := h.lt
    rcases h.2 with ⟨_, h0⟩ | ⟨g, cap, cur, rfl, _⟩
    · simp at h0
    · exact ⟨g, cap, by simp, (hlt g rfl).2⟩
  have hc := World.ownsRow.cells h (g := g) (by rw [hv]; rfl)
  have hs := h.sl
  obtain ⟨A, c', e, h2, h3, _⟩ := hs
  rw [hv] at e
  injection e with e1 e2 e3
  subst e3
  exact ⟨g, cap, hv, h2, h3, hlt, fun j u hu => by have := hc j u hu; rwa [Addr.add_lit, Nat.zero_add] at this⟩

/-- string(x[1:]). -/
theorem run_text_tail (w : World) (g cap : Nat) (c : UInt8) (r : List UInt8) (hcap : r.length + 1 ≤ cap) (hc : ∀ j u, (vb (c :: r))[j]? = some u → w.cell? ⟨g, j, none⟩ = some u) :
    (convert 49 9 (.slice (if cap = 1 then some ⟨g, 0, none⟩ else some ⟨g, 1, none⟩) r.length (cap - 1))).run Tryz.prog w = .ok (.string ⟨r.toArray⟩) w := by
  by_cases h : cap = 1
  · have hr : r = [] := List.eq_nil_of_length_eq_zero (by omega)
    subst hr
    rw [if_pos h]
    exact run_convert_bytes_back w 49 9 5 ⟨g, 0, none⟩ _ [] Tryz.underlying49 Tryz.underlying5 Tryz.underlying9 fun j hj => by simp at hj
  · rw [if_neg h]
    refine run_convert_bytes_back w 49 9 5 ⟨g, 1, none⟩ _ r Tryz.underlying49 Tryz.underlying5 Tryz.underlying9 fun j hj => ?_
    rw [Addr.add_lit, Nat.add_comm]
    refine hc (j + 1) _ ?_
    simp [vb, hj]

theorem Own.alloc {w : World} {B : Nat} {v : Value} {bs : List UInt8} (h : Own w B v bs) (o : Obj) : Own (w.alloc o) B v bs := World.ownsRow.alloc h o
theorem Own.drew {w : World} {B : Nat} {v : Value} {bs : List UInt8} (h : Own w B v bs) : Own w.drew B v bs := h

theorem Own.keep {w w' : World} {B : Nat} {v : Value} {bs : List UInt8} (h : Own w B v bs) (hb : Below w.heap.size w w') : Own w' B v bs := by
  have hlt := h.lt
  refine ⟨h.1, ?_⟩
  rcases h.2 with h2 | ⟨g, cap, cur, rfl, hg, hh, r⟩
  · exact .inl h2
  · exact .inr ⟨g, cap, cur, rfl, hg, (hb.block g (hlt g rfl).2).trans hh, r⟩

theorem hO_sl {w : World} {B : Nat} {v : Value} {bs : List UInt8} (h : Own w B v bs) (o : Obj) : Sl (w.alloc o) (w.heap.size + 1) v bs := by
  have h2 := (h.alloc o).sl
  rwa [show (w.alloc o).heap.size = w.heap.size + 1 by simp] at h2

/-- append(own, b...), b whatever slice of bytes. -/
theorem run_append_sl (w : World) (B : Nat) (v : Value) (bs : List UInt8) (ho : Own w B v bs) (hB : B ≤ w.heap.size) (x : Value) (B' : Nat) (ns : List UInt8) (hx : Sl w B' x ns)
    (hm : bs.length + ns.length ≤ 140737488355328) (ty : TypeId) :
    ∃ v' w', (Builtin.append_ #[49, 49] ty #[v, x]).run Tryz.prog w = .ok v' w' ∧ Own w' B v' (bs ++ ns) ∧ Below B w w' := by
  obtain ⟨i0, hi, hz0, hz1, hz2⟩ := info_parts info5
  have hmax : bs.length + ns.length ≤ maxLen := by simp only [maxLen]; omega
  obtain ⟨A, c, rfl, _, _, h4, _, h6⟩ := hx
  cases A with
  | some ad =>
    obtain ⟨v', w', hr, h2, h3, _⟩ := run_append_own (P := Tryz.prog) w B 49 ty 5 i0 _ 1 1 Tryz.underlying49 hi hz0 hz1 hz2 rfl (by omega) v bs.length (vb bs) ho ad ns.length c (vb ns) (by simp [vb]) (h6 ad rfl) (vb_one ns) hmax (by omega) hB
    refine ⟨v', w', hr, ?_, (Below.refl _ _).grown h3 hB (fun k hk => (ho.lt k hk).1)⟩
    unfold Own
    rw [vb_append, List.length_append]
    exact h2
  | none =>
    have hc := h4 rfl
    subst hc
    have : ns = [] := List.eq_nil_of_length_eq_zero (by omega)
    subst this
    refine ⟨v, w, ?_, by simpa using ho, Below.refl _ _⟩
    rcases ho.2 with ⟨rfl, h0⟩ | ⟨g, cap, cur, rfl, _, _, hnc, _⟩
    · simp [Builtin.append_, run_underlying Tryz.underlying49, sizeOf, typeInfo, hi, Builtin.lenOf, Builtin.firstCells]
    · simp [Builtin.append_, run_underlying Tryz.underlying49, sizeOf, typeInfo, hi, Builtin.lenOf, Builtin.firstCells, hnc, storeCells]

theorem step_append_sl {w : World} {ops : Array Oper} {o : Oper} {a : Act} {K : Act → World → Prop} {Q : Exit → Act → World → Prop} {E : Prop} (hgd : o.guard = none) (s x : Operand)
    (hop : o.op = .call { callee := .builtin .append, args := #[s, x], argTypes := #[49, 49] })
    (B : Nat) (v : Value) (bs : List UInt8) (hs : a.eval s = v) (ho : Own w B v bs) (hB : B ≤ w.heap.size) (y : Value) (B' : Nat) (ns : List UInt8) (hx : a.eval x = y) (hy : Sl w B' y ns)
    (hm : bs.length + ns.length ≤ 140737488355328)
    (h : ∀ v' w', Own w' B v' (bs ++ ns) → Below B w w' → K (a.put o.dst v') w') : if Region.wanted o (yielded ops a.tmps) = true then Oper.wp Tryz.prog o a w K Q else E := by
  have hw : Region.wanted o (yielded ops a.tmps) = true := by simp [Region.wanted, hgd]
  rw [if_pos hw]
  obtain ⟨v', w', hrun, r1, r2⟩ := run_append_sl w B v bs ho hB y B' ns hy hm o.type
  unfold Oper.wp
  simp [execOp, hop, resolve, invoke, builtin, hs, hx, hrun, Result.andThen]
  exact h v' w' r1 r2

theorem step_append_text {w : World} {ops : Array Oper} {o : Oper} {a : Act} {K : Act → World → Prop} {Q : Exit → Act → World → Prop} {E : Prop} (hgd : o.guard = none) (s x : Operand)
    (hop : o.op = .call { callee := .builtin .append, args := #[s, x], argTypes := #[49, 9] })
    (B : Nat) (v : Value) (bs : List UInt8) (hs : a.eval s = v) (ho : Own w B v bs) (hB : B ≤ w.heap.size) (t : List UInt8) (hx : a.eval x = .string ⟨t.toArray⟩)
    (hm : bs.length + t.length ≤ 140737488355328)
    (h : ∀ v' w', Own w' B v' (bs ++ t) → Below B w w' → K (a.put o.dst v') w') : if Region.wanted o (yielded ops a.tmps) = true then Oper.wp Tryz.prog o a w K Q else E := by
  have hw : Region.wanted o (yielded ops a.tmps) = true := by simp [Region.wanted, hgd]
  rw [if_pos hw]
  obtain ⟨i0, hi, hz0, hz1, hz2⟩ := info_parts info5
  have hmax : bs.length + t.length ≤ maxLen := by simp only [maxLen]; omega
  obtain ⟨v', w', hrun, r1, r2⟩ := Lib.run_append_own_string (P := Tryz.prog) w B 49 9 o.type 5 i0 Tryz.underlying49 Tryz.underlying9 hi hz0 hz1 hz2 v bs.length (vb bs) ho ⟨t.toArray⟩ hmax (by have : (ByteArray.mk t.toArray).size = t.length := rfl; omega) hB
  unfold Oper.wp
  simp [execOp, hop, resolve, invoke, builtin, hs, hx, hrun, Result.andThen]
  refine h v' w' ?_ ((Below.refl _ _).grown r2.1 hB (fun k hk => (ho.lt k hk).1))
  unfold Own
  rw [vb_append, List.length_append]
  exact r1

theorem own_empty (wr : World) (o : Obj) (B : Nat) (hB : B ≤ wr.heap.size + 1) : Own (((wr.alloc o).alloc (.cells #[] 5)).drew) B (.slice (some ⟨wr.heap.size + 1, 0, none⟩) 0 0) [] := by
  have h := World.ownsRow_made (base := B) (e := 5) (size := 1) (wr.alloc o) #[] 0 (by simp; omega) (by simp) rfl
  rw [show (wr.alloc o).heap.size = wr.heap.size + 1 by simp] at h
  exact h

/-- A slice that has bytes: where they lie. -/
theorem Sl.at {w : World} {B : Nat} {v : Value} {bs : List UInt8} (h : Sl w B v bs) (h0 : 0 < bs.length) :
    ∃ b off c, v = .slice (some ⟨b, off, none⟩) bs.length c ∧ bs.length ≤ c ∧ c ≤ maxLen ∧ b < B ∧ ∀ j (hj : j < bs.length), w.cell? ⟨b, off + j, none⟩ = some (.int .u8 (bs[j]).toNat) := by
  obtain ⟨A, c, rfl, h2, h3, h4, h5, h6⟩ := h
  cases A with
  | none => have := h4 rfl; omega
  | some a =>
    obtain ⟨b, off, spot⟩ := a
    have hc := h6 _ rfl 0 _ (vb_at bs 0 h0)
    have hspot : spot = none := by simpa [Addr.add] using World.cell?_spot hc
    subst hspot
    refine ⟨b, off, c, rfl, h2, h3, h5 _ rfl h0, fun j hj => ?_⟩
    have := h6 _ rfl j _ (vb_at bs j hj)
    rwa [Addr.add_lit] at this

theorem Sl.len {w : World} {B : Nat} {v : Value} {bs : List UInt8} (h : Sl w B v bs) : ∃ A c, v = .slice A bs.length c ∧ bs.length ≤ c ∧ c ≤ maxLen := by
  obtain ⟨A, c, rfl, h2, h3, _⟩ := h
  exact ⟨A, c, rfl, h2, h3⟩

/-- A slice of byte slices. -/
def Sls (w : World) (B : Nat) (v : Value) (l : List (List UInt8)) : Prop :=
  ∃ A c, v = .slice A l.length c ∧ l.length ≤ c ∧ c ≤ maxLen ∧
    (0 < l.length → ∃ b off, A = some ⟨b, off, none⟩ ∧ b < B ∧ ∀ i (hi : i < l.length), ∃ u, w.cell? ⟨b, off + i, none⟩ = some u ∧ Sl w B u l[i])

theorem Sls.below {w w' : World} {B : Nat} {v : Value} {l : List (List UInt8)} (h : Sls w B v l) (hb : Below B w w') : Sls w' B v l := by
  obtain ⟨A, c, h1, h2, h3, h4⟩ := h
  refine ⟨A, c, h1, h2, h3, fun h0 => ?_⟩
  obtain ⟨b, off, e, hB, hc⟩ := h4 h0
  refine ⟨b, off, e, hB, fun i hi => ?_⟩
  obtain ⟨u, q1, q2⟩ := hc i hi
  exact ⟨u, (hb.cell (p := ⟨b, off + i, none⟩) hB).trans q1, q2.below hb⟩

theorem Sls.more {w : World} {B B' : Nat} {v : Value} {l : List (List UInt8)} (h : Sls w B v l) (hB : B ≤ B') : Sls w B' v l := by
  obtain ⟨A, c, h1, h2, h3, h4⟩ := h
  refine ⟨A, c, h1, h2, h3, fun h0 => ?_⟩
  obtain ⟨b, off, e, hB', hc⟩ := h4 h0
  refine ⟨b, off, e, Nat.lt_of_lt_of_le hB' hB, fun i hi => ?_⟩
  obtain ⟨u, q1, q2⟩ := hc i hi
  exact ⟨u, q1, q2.more hB⟩

theorem Sls.nil (w : World) (B : Nat) : Sls w B (.slice none 0 0) [] := ⟨none, 0, rfl, by simp, by simp, fun h => by simp at h⟩

/-- A slice of slices that was laid out a moment ago. -/
theorem Sls.new {w : World} {B : Nat} (xs : List Value) (l : List (List UInt8)) (hl : xs.length = l.length) (hm : l.length ≤ maxLen) (h : ∀ i (hi : i < l.length) (hx : i < xs.length), Sl w B xs[i] l[i])
    (hB : B ≤ w.heap.size) (n : Nat) (hn : n = l.length) (T : TypeId) (X : Array Value) (hX : X = xs.toArray) :
    Sls (w.alloc (.cells X T)) (w.heap.size + 1) (.slice (some ⟨w.heap.size, 0, none⟩) n n) l := by
  subst hn hX
  refine ⟨_, _, rfl, Nat.le_refl _, hm, fun _ => ⟨w.heap.size, 0, rfl, by omega, fun i hi => ?_⟩⟩
  have hx : i < xs.length := by omega
  refine ⟨xs[i], ?_, ((h i hi hx).below ((Below.refl _ _).alloc hB _)).more (by omega)⟩
  have := cell_of_row (w.alloc (.cells xs.toArray T)) w.heap.size i xs.toArray T (0, 0) (heap_alloc_new w _)
  rw [Nat.zero_add, this]
  simp [hx]

/-- append of bytes, for the walk: the source whatever slice of bytes. -/
theorem wp_append_sl {w : World} {ops : Array Oper} {rest : List Oper} {o : Oper} {a : Act} {Q : Exit → Act → World → Prop} (hgd : o.guard = none) (s x : Operand)
    (hop : o.op = .call { callee := .builtin .append, args := #[s, x], argTypes := #[49, 49] })
    (B : Nat) (v : Value) (bs : List UInt8) (hs : a.eval s = v) (ho : Own w B v bs) (hB : B ≤ w.heap.size) (y : Value) (B' : Nat) (ns : List UInt8) (hx : a.eval x = y) (hy : Sl w B' y ns)
    (hm : bs.length + ns.length ≤ 140737488355328)
    (hK : ∀ v' w', Own w' B v' (bs ++ ns) → Below B w w' → wpList Tryz.prog ops Q rest (a.put o.dst v') w') : wpList Tryz.prog ops Q (o :: rest) a w := by
  refine wpList_plain hgd fun K hK' => ?_
  obtain ⟨v', w', hrun, r1, r2⟩ := run_append_sl w B v bs ho hB y B' ns hy hm o.type
  unfold Oper.wp
  simp [execOp, hop, resolve, invoke, builtin, hs, hx, hrun, Result.andThen]
  exact hK' _ _ (hK v' w' r1 r2)

theorem own_new (w : World) (B : Nat) (hB : B ≤ w.heap.size) : Own (w.alloc (.cells #[] 5)) B (.slice (some ⟨w.heap.size, 0, none⟩) 0 0) [] :=
  World.ownsRow_made (base := B) (e := 5) (size := 1) w #[] 0 hB (by simp) rfl

/-- A row of the call's own that has bytes: its block, known whole. -/
theorem own_block {w : World} {B : Nat} {v : Value} {bs : List UInt8} (h : Own w B v bs) (h0 : 0 < bs.length) :
    ∃ (g cap : Nat) (cur : Array Value), v = .slice (some ⟨g, 0, none⟩) bs.length cap ∧ B ≤ g ∧ g < w.heap.size ∧ w.heap[g]? = some (.cells cur 5 (0, 0)) ∧ bs.length ≤ cap ∧ cap ≤ maxLen ∧ ∀ (j : Nat) (u : Value), (vb bs)[j]? = some u → cur[j]? = some u := by
  have hlt := h.lt
  rcases h.2 with ⟨_, h1⟩ | ⟨g, cap, cur, rfl, hb, hh, hn, hm, hc, ht⟩
  · omega
  · refine ⟨g, cap, cur, rfl, hb, (hlt g rfl).2, hh, hn, hm, fun j u hu => ?_⟩
    have hj := (List.getElem?_eq_some_iff.1 hu).1
    rw [vb_length] at hj
    rw [← ht] at hu
    rw [List.getElem?_take, if_pos (by omega)] at hu
    simpa using hu

theorem own_far {w w' : World} {B g : Nat} {v : Value} {bs : List UInt8} (h : Own w B v bs) (hg : w.grownBy w' (some g)) (hlt0 : g < B) : Own w' B v bs := by
  have hlt := h.lt
  refine ⟨h.1, ?_⟩
  rcases h.2 with h2 | ⟨g', cap, cur, rfl, hb, hh, r⟩
  · exact .inl h2
  · exact .inr ⟨g', cap, cur, rfl, hb, (hg.block g' (hlt g' rfl).2 (fun e => by injection e with e; omega)).trans hh, r⟩

/-- A byte of a row of the call's own is written over. -/
theorem Own.stored {w : World} {B g n cap : Nat} {bs : List UInt8} (h : Own w B (.slice (some ⟨g, 0, none⟩) n cap) bs) (k : Nat) (c : UInt8) :
    Own (w.setCell ⟨g, k, none⟩ (.int .u8 c.toNat)) B (.slice (some ⟨g, 0, none⟩) n cap) (bs.set k c) := by
  have hn : n = bs.length := by
    rcases h.2 with ⟨h1, _⟩ | ⟨g', cap', cur, h1, _⟩
    · cases h1
    · injection h1
  subst hn
  have h2 := (World.ownsRow.stored h k (.int .u8 c.toNat)).1
  unfold Own
  rw [List.length_set]
  have e : vb (bs.set k c) = (vb bs).set k (.int .u8 c.toNat) := by simp [vb, List.map_set]
  rw [e]
  exact h2

theorem byte_of (a : Int) (h0 : 0 ≤ a) (h1 : a ≤ 255) : ∃ c : UInt8, a = (c.toNat : Int) :=
  ⟨UInt8.ofNat a.toNat, by rw [UInt8.toNat_ofNat']; omega⟩

theorem weightsAll_mem {H : Type} {P : Program} {e : TypeId} {d : DataW H} {l : List (DataW H)} (hd : d ∈ l) {n : Nat} (hn : n ∈ d.weights P e) : n ∈ DataW.weightsAll P e l := by
  induction l with
  | nil => cases hd
  | cons x r ih =>
    simp only [DataW.weightsAll, List.mem_append]
    rcases List.mem_cons.1 hd with rfl | h
    · exact .inl hn
    · exact .inr (ih h)

theorem cells_u8 : Tryz.prog.bytesOf 5 = 1 := by kernel_rfl
theorem cells_sl : Tryz.prog.cellsOf 49 = 1 := by kernel_rfl

/-- Cells that are read as a slice of bytes. -/
theorem sl_of_cells {H : Type} {enc : TypeId × Value → H} {w : World} {fuel : Nat} {cs : List Value} {x : DataW H × List MemPlace} (hf : DataW.trod enc Tryz.prog w 0 (fun _ => true) true fuel 49 cs = some x) :
    ∃ A n c bs, cs = [.slice A n c] ∧ Sl w w.heap.size (.slice A n c) bs ∧ ((∀ m ∈ x.1.weights Tryz.prog 49, m ≤ reachBytes) → bs.length ≤ 140737488351232) := by
  rcases open_ints Tryz.underlying49 Tryz.underlying5 (by kernel_rfl) hf with ⟨rfl, _⟩ | ⟨a, n0, c0, zs, rfl, _, hl, hm, hz, hx, hcell, hwz⟩
  · exact ⟨none, 0, 0, [], rfl, Sl.nil _ _, fun _ => by simp⟩
  · have hzl : zs.length = c0 := by simpa using hz
    have hlen : ((zs.take n0).map fun z => UInt8.ofNat z.toNat).length = n0 := by rw [List.length_map, List.length_take]; omega
    have hcells : ∀ j u, (vb ((zs.take n0).map fun z => UInt8.ofNat z.toNat))[j]? = some u → w.cell? (a.add j) = some u := by
      intro j u hu
      have hj := (List.getElem?_eq_some_iff.1 hu).1
      rw [vb_length, hlen] at hj
      have hjz : j < zs.length := by omega
      have hr := range_u8 hwz j
      rw [hcell j hjz]
      rw [← hu]
      simp only [vb, List.map_map, List.getElem?_map, List.getElem?_take, if_pos hj, List.getElem?_eq_getElem hjz, Option.map_some, Function.comp]
      rw [List.getElem?_eq_getElem hjz] at hr
      simp only [Option.getD_some] at hr
      congr 2
      rw [List.getD_eq_getElem?_getD, List.getElem?_eq_getElem hjz, Option.getD_some, UInt8.toNat_ofNat']
      omega
    refine ⟨some a, n0, c0, (zs.take n0).map fun z => UInt8.ofNat z.toNat, rfl, ⟨some a, c0, by rw [hlen], by rw [hlen]; exact hl, hm, (fun h => by cases h), ?_, ?_⟩, fun hw => ?_⟩
    · intro ad e h0
      injection e with e
      subst e
      rw [hlen] at h0
      have := World.block_lt_of_cell? w _ (hcell 0 (by omega))
      rwa [block_of_add] at this
    · intro ad e
      injection e with e
      subst e
      exact hcells
    · have h2 := hw ((lits .u8 (zs.take n0)).length + (lits .u8 (zs.drop n0)).length) (by
        rw [hx]
        simp only [DataW.weights, Tryz.underlying49, cells_u8, Nat.mul_one]
        exact List.mem_cons_self)
      simp only [lits, List.length_map, List.length_take, List.length_drop, reachBytes] at h2
      rw [hlen]
      omega

theorem sl_of_trod {H : Type} {enc : TypeId × Value → H} {w : World} {v : Value} {d : DataW H} {ps : List MemPlace} (hv : ∃ A n c, v = .slice A n c)
    (h : DataW.Trod enc Tryz.prog w 0 (fun _ => true) true 49 v d ps) : ∃ bs, Sl w w.heap.size v bs := by
  obtain ⟨A0, n0, c0, rfl⟩ := hv
  obtain ⟨fuel, hf⟩ := h
  obtain ⟨A, n, c, bs, e, h1, _⟩ := sl_of_cells hf
  simp [Value.cells] at e
  obtain ⟨rfl, rfl, rfl⟩ := e
  exact ⟨bs, h1⟩

end Go.Proofs.YtkbmajgbhpecgaaGreatDoor.Cd

/-
  Footprints: what a call leaves that writes to the blocks of a set alone, and to new ones. Conditions: none.
-/
namespace Go.Proofs.YtkbmajgbhpecgaaGreatDoor.Cd
open Go.RowKit

/-- Nothing that was there has turned, but for the blocks of S. -/
structure Apart (S : Nat → Prop) (w w' : World) : Prop where
  os : w'.os = w.os
  tape : w'.tape = w.tape
  output : w'.output = w.output
  size : w.heap.size ≤ w'.heap.size
  block : ∀ k, k < w.heap.size → ¬ S k → w'.heap[k]? = w.heap[k]?

/-- The set, and what was laid since. -/
def since (S : Nat → Prop) (w w' : World) : Nat → Prop := fun k => S k ∨ (w.heap.size ≤ k ∧ k < w'.heap.size)

theorem Apart.refl (S : Nat → Prop) (w : World) : Apart S w w := ⟨rfl, rfl, rfl, Nat.le_refl _, fun _ _ _ => rfl⟩
theorem Apart.mono {S T : Nat → Prop} {w w' : World} (h : Apart S w w') (hs : ∀ k, S k → T k) : Apart T w w' :=
  ⟨h.os, h.tape, h.output, h.size, fun k hk hn => h.block k hk (fun e => hn (hs k e))⟩
theorem Apart.trans {S : Nat → Prop} {w w1 w2 : World} (h : Apart S w w1) (k : Apart (since S w w1) w1 w2) : Apart S w w2 :=
  ⟨k.os.trans h.os, k.tape.trans h.tape, k.output.trans h.output, Nat.le_trans h.size k.size, fun i hi hn =>
    (k.block i (Nat.lt_of_lt_of_le hi h.size) (fun e => e.elim hn (fun e => by omega))).trans (h.block i hi hn)⟩
theorem Apart.below {S : Nat → Prop} {w w' : World} (h : Below w.heap.size w w') : Apart S w w' := ⟨h.os, h.tape, h.output, h.size, fun k hk _ => h.block k hk⟩
theorem Apart.grown {S : Nat → Prop} {w w' : World} {g : Nat} (h : w.grownBy w' (some g)) (hg : S g) : Apart S w w' :=
  ⟨h.os, h.tape, h.output, h.size, fun k hk hn => h.block k hk (fun e => by injection e with e; exact hn (by rw [e]; exact hg))⟩
theorem Apart.cell {S : Nat → Prop} {w w' : World} (h : Apart S w w') {p : Addr} (hp : p.block < w.heap.size) (hn : ¬ S p.block) : w'.cell? p = w.cell? p := World.cell?_of_block (h.block p.block hp hn)
/-- Where the set lies above B, all below B is as it was. -/
theorem Apart.low {S : Nat → Prop} {w w' : World} {B : Nat} (h : Apart S w w') (hB : B ≤ w.heap.size) (hs : ∀ k, S k → B ≤ k) : Below B w w' :=
  ⟨h.os, h.tape, h.output, h.size, fun k hk => h.block k (Nat.lt_of_lt_of_le hk hB) (fun e => by have := hs k e; omega)⟩

theorem since_refl (S : Nat → Prop) (w : World) (k : Nat) : since S w w k ↔ S k := ⟨fun h => h.elim id (fun e => by omega), .inl⟩
theorem since_trans {S : Nat → Prop} {w w1 w2 : World} (h1 : w.heap.size ≤ w1.heap.size) (h2 : w1.heap.size ≤ w2.heap.size) (k : Nat) : since (since S w w1) w1 w2 k ↔ since S w w2 k := by
  unfold since
  constructor
  · rintro ((h | h) | h)
    · exact .inl h
    · exact .inr ⟨h.1, by omega⟩
    · exact .inr ⟨by omega, h.2⟩
  · rintro (h | h)
    · exact .inl (.inl h)
    · by_cases hk : k < w1.heap.size
      · exact .inl (.inr ⟨h.1, hk⟩)
      · exact .inr ⟨by omega, h.2⟩
theorem since_old {S : Nat → Prop} {w w' : World} {k : Nat} (hk : k < w.heap.size) : since S w w' k ↔ S k := ⟨fun h => h.elim id (fun e => by omega), .inl⟩

/-- Two sets that are apart stay so: what is laid for the one is new to the other. -/
theorem since_apart {S T : Nat → Prop} {w w' : World} (h : ∀ k, S k → ¬ T k) (ht : ∀ k, T k → k < w.heap.size) : ∀ k, since S w w' k → ¬ T k := by
  rintro k (hs | hs) hk
  · exact h k hs hk
  · have := ht k hk; omega

end Go.Proofs.YtkbmajgbhpecgaaGreatDoor.Cd

/-
  A disk, as the document tells of it: files of pages, what is safe, what waits; and what its lists answer. No Go in sight. Conditions: none.
-/
namespace Go.Proofs.YtkbmajgbhpecgaaGreatDoor.Cd

/-- A file: a name, and pages. -/
structure Fil where
  name : List UInt8
  pages : List (List UInt8)
/-- A page that isn't safe. -/
structure Wrt where
  name : List UInt8
  page : Nat
  data : List UInt8
/-- A disk. -/
structure Dsk where
  now : List Fil
  safe : List Fil
  waits : List Wrt
  room : Nat
  off : Bool
  acts : Nat
  fuse : Nat
  keep : Nat

def getF : List Fil → List UInt8 → Option Fil
  | [], _ => none
  | f :: r, n => if f.name = n then some f else getF r n
def pagesF (l : List Fil) (n : List UInt8) : List (List UInt8) := match getF l n with
  | some f => f.pages
  | none => []
def without (l : List Fil) (n : List UInt8) : List Fil := l.filter fun f => decide (f.name ≠ n)
def putF : List Fil → Fil → List Fil
  | [], x => [x]
  | f :: r, x => if f.name < x.name then f :: putF r x else x :: without (f :: r) x.name

theorem getF_name {l : List Fil} {n : List UInt8} {f : Fil} (h : getF l n = some f) : f.name = n := by
  induction l with
  | nil => cases h
  | cons g r ih =>
    rw [getF] at h
    by_cases e : g.name = n
    · rw [if_pos e] at h; injection h with h; rw [← h]; exact e
    · rw [if_neg e] at h; exact ih h

theorem getF_without (l : List Fil) (n m : List UInt8) : getF (without l n) m = if m = n then none else getF l m := by
  induction l with
  | nil => simp [without, getF]
  | cons f r ih =>
    unfold without at ih ⊢
    by_cases e : f.name = n
    · rw [List.filter_cons_of_neg (by simp [e]), ih, getF]
      by_cases e2 : m = n
      · rw [if_pos e2, if_pos e2]
      · rw [if_neg e2, if_neg e2, if_neg (fun h => e2 (by rw [← h, e]))]
    · rw [List.filter_cons_of_pos (by simp [e]), getF, ih, getF]
      by_cases e2 : m = n
      · rw [if_pos e2, if_neg (fun h => e (by rw [h, e2]))]
        simp [e2]
      · rw [if_neg e2, if_neg e2]

theorem getF_put (l : List Fil) (x : Fil) (m : List UInt8) : getF (putF l x) m = if m = x.name then some x else getF l m := by
  induction l with
  | nil =>
    simp only [putF, getF]
    by_cases e : x.name = m
    · rw [if_pos e, if_pos e.symm]
    · rw [if_neg e, if_neg (fun h => e h.symm)]
  | cons f r ih =>
    rw [putF]
    by_cases hlt : f.name < x.name
    · rw [if_pos hlt, getF, ih, getF]
      by_cases e : f.name = m
      · rw [if_pos e, if_pos e]
        have hne : ¬ m = x.name := by
          intro h
          rw [← e] at h
          rw [h] at hlt
          exact List.lt_irrefl _ hlt
        rw [if_neg hne]
      · rw [if_neg e, if_neg e]
    · rw [if_neg hlt, getF]
      by_cases e : x.name = m
      · rw [if_pos e, if_pos e.symm]
      · rw [if_neg e, if_neg (fun h => e h.symm), getF_without, if_neg (fun h => e h.symm)]

theorem pagesF_put (l : List Fil) (x : Fil) (m : List UInt8) : pagesF (putF l x) m = if m = x.name then x.pages else pagesF l m := by
  unfold pagesF
  rw [getF_put]
  by_cases e : m = x.name
  · rw [if_pos e, if_pos e]
  · rw [if_neg e, if_neg e]

/-! ### How many pages -/

def count : List Fil → Nat
  | [] => 0
  | f :: r => f.pages.length + count r
theorem count_append (a b : List Fil) : count (a ++ b) = count a + count b := by
  induction a with
  | nil => simp [count]
  | cons f r ih => simp [count, ih]; omega

/-- Every name once. -/
def Once (l : List Fil) : Prop := (l.map Fil.name).Nodup
theorem once_nil : Once [] := List.nodup_nil
theorem getF_none {l : List Fil} {n : List UInt8} : getF l n = none ↔ n ∉ l.map Fil.name := by
  induction l with
  | nil => simp [getF]
  | cons f r ih =>
    rw [getF, List.map_cons, List.mem_cons]
    by_cases e : f.name = n
    · rw [if_pos e]; simp [e]
    · rw [if_neg e, ih]
      constructor
      · rintro h (h2 | h2)
        · exact e h2.symm
        · exact h h2
      · intro h h2
        exact h (.inr h2)

theorem without_none {l : List Fil} {n : List UInt8} (h : getF l n = none) : without l n = l := by
  unfold without
  rw [List.filter_eq_self]
  intro f hf
  have h2 := getF_none.1 h
  simp only [decide_eq_true_eq]
  intro e
  exact h2 (List.mem_map.2 ⟨f, hf, e⟩)

theorem count_without {l : List Fil} (h : Once l) (n : List UInt8) : count (without l n) + (pagesF l n).length = count l := by
  induction l with
  | nil => simp [without, count, pagesF, getF]
  | cons f r ih =>
    have h1 : f.name ∉ r.map Fil.name := (List.nodup_cons.1 h).1
    have h2 : Once r := (List.nodup_cons.1 h).2
    have ih := ih h2
    by_cases e : f.name = n
    · have hn : getF r n = none := getF_none.2 (by rw [← e]; exact h1)
      have e2 : without (f :: r) n = r := by
        have := without_none hn
        unfold without at this ⊢
        rw [List.filter_cons_of_neg (by simp [e]), this]
      rw [e2]
      unfold pagesF
      rw [getF, if_pos e]
      simp only [count]
      omega
    · have e2 : without (f :: r) n = f :: without r n := by unfold without; rw [List.filter_cons_of_pos (by simp [e])]
      have e3 : pagesF (f :: r) n = pagesF r n := by unfold pagesF; rw [getF, if_neg e]
      rw [e2, e3]
      simp only [count]
      omega

theorem without_once {l : List Fil} (h : Once l) (n : List UInt8) : Once (without l n) := by
  unfold Once without at *
  induction l with
  | nil => exact h
  | cons f r ih =>
    have h1 := List.nodup_cons.1 h
    by_cases e : f.name = n
    · rw [List.filter_cons_of_neg (by simp [e])]; exact ih h1.2
    · rw [List.filter_cons_of_pos (by simp [e]), List.map_cons, List.nodup_cons]
      refine ⟨fun hm => h1.1 ?_, ih h1.2⟩
      obtain ⟨g, hg, hn⟩ := List.mem_map.1 hm
      exact List.mem_map.2 ⟨g, (List.mem_filter.1 hg).1, hn⟩

theorem put_names (l : List Fil) (x : Fil) (m : List UInt8) : m ∈ (putF l x).map Fil.name ↔ m = x.name ∨ m ∈ l.map Fil.name := by
  have h := getF_put l x m
  by_cases e : m = x.name
  · rw [if_pos e] at h
    refine ⟨fun _ => .inl e, fun _ => ?_⟩
    apply Classical.byContradiction
    intro hc
    rw [getF_none.2 hc] at h
    cases h
  · rw [if_neg e] at h
    constructor
    · intro hm
      refine .inr ?_
      apply Classical.byContradiction
      intro hc
      rw [getF_none.2 hc] at h
      exact getF_none.1 h hm
    · rintro (h1 | h1)
      · exact absurd h1 e
      · apply Classical.byContradiction
        intro hc
        rw [getF_none.2 hc] at h
        exact getF_none.1 h.symm h1

theorem put_once {l : List Fil} (h : Once l) (x : Fil) : Once (putF l x) := by
  induction l with
  | nil => simp [Once, putF]
  | cons f r ih =>
    have h1 := List.nodup_cons.1 h
    rw [putF]
    by_cases hlt : f.name < x.name
    · rw [if_pos hlt]
      refine List.nodup_cons.2 ⟨fun hm => ?_, ih h1.2⟩
      rcases (put_names r x f.name).1 hm with e | e
      · rw [e] at hlt; exact List.lt_irrefl _ hlt
      · exact h1.1 e
    · rw [if_neg hlt]
      refine List.nodup_cons.2 ⟨fun hm => ?_, without_once h x.name⟩
      have := getF_without (f :: r) x.name x.name
      rw [if_pos rfl] at this
      exact getF_none.1 this hm

theorem count_put {l : List Fil} (h : Once l) (x : Fil) : count (putF l x) + (pagesF l x.name).length = count l + x.pages.length := by
  induction l with
  | nil => simp [putF, count, pagesF, getF]
  | cons f r ih =>
    have h1 := List.nodup_cons.1 h
    have ih := ih h1.2
    rw [putF]
    by_cases hlt : f.name < x.name
    · have hne : ¬ f.name = x.name := fun e => by rw [e] at hlt; exact List.lt_irrefl _ hlt
      have e3 : pagesF (f :: r) x.name = pagesF r x.name := by unfold pagesF; rw [getF, if_neg hne]
      rw [if_pos hlt, e3]
      simp only [count]
      omega
    · have := count_without h x.name
      rw [if_neg hlt]
      simp only [count] at this ⊢
      omega

/-! ### Pages -/

def nought : List UInt8 := List.replicate 512 0
/-- A page of pages, and noughts ahead of it. -/
def setP (p : List (List UInt8)) (i : Nat) (d : List UInt8) : List (List UInt8) := (p ++ List.replicate (i + 1 - p.length) nought).set i d
theorem setP_len (p : List (List UInt8)) (i : Nat) (d : List UInt8) : (setP p i d).length = max p.length (i + 1) := by
  simp [setP]; omega
theorem setP_in {p : List (List UInt8)} {i : Nat} (h : i < p.length) (d : List UInt8) : setP p i d = p.set i d := by
  unfold setP
  rw [show i + 1 - p.length = 0 by omega]
  simp
theorem setP_end (p : List (List UInt8)) (d : List UInt8) : setP p p.length d = p ++ [d] := by
  unfold setP
  rw [show p.length + 1 - p.length = 1 by omega, List.set_append_right _ _ (Nat.le_refl _)]
  simp
/-- A page's bytes, noughts behind. -/
def pad (b : List UInt8) : List UInt8 := b ++ List.replicate (512 - b.length) 0
theorem pad_len {b : List UInt8} (h : b.length ≤ 512) : (pad b).length = 512 := by simp [pad]; omega

/-! ### The power goes -/

def keepBit (keep i : Nat) : Bool := keep / 2 ^ (i % 64) % 2 == 1
/-- The writes that wait, from the i-th on, those that are kept. -/
def keeps (keep : Nat) : Nat → List Wrt → List Fil → List Fil
  | _, [], s => s
  | i, w :: r, s => keeps keep (i + 1) r (if keepBit keep i = true then putF s ⟨w.name, setP (pagesF s w.name) w.page w.data⟩ else s)
/-- Files that are there, without pages where none is safe. -/
def there : List Fil → List Fil → List Fil
  | [], s => s
  | f :: r, s => there r (if (getF s f.name).isSome = true then s else putF s ⟨f.name, []⟩)
def lose (D : Dsk) (keep : Nat) : Dsk :=
  if D.off = true then D else
    { D with now := there D.now (keeps keep 0 D.waits D.safe), safe := there D.now (keeps keep 0 D.waits D.safe), waits := [], off := true, fuse := 0 }

theorem keeps_once {keep : Nat} (ws : List Wrt) : ∀ (i : Nat) (s : List Fil), Once s → Once (keeps keep i ws s) := by
  induction ws with
  | nil => intro i s h; exact h
  | cons w r ih =>
    intro i s h
    rw [keeps]
    refine ih _ _ ?_
    split
    · exact put_once h _
    · exact h
theorem there_once (l : List Fil) : ∀ (s : List Fil), Once s → Once (there l s) := by
  induction l with
  | nil => intro s h; exact h
  | cons f r ih =>
    intro s h
    rw [there]
    refine ih _ ?_
    split
    · exact h
    · exact put_once h _

/-- What isn't written isn't turned. -/
theorem keeps_other {keep : Nat} {n : List UInt8} (ws : List Wrt) : ∀ (i : Nat) (s : List Fil), (∀ w ∈ ws, w.name ≠ n) → getF (keeps keep i ws s) n = getF s n := by
  induction ws with
  | nil => intro i s _; rfl
  | cons w r ih =>
    intro i s h
    rw [keeps, ih _ _ (fun x hx => h x (by simp [hx]))]
    split
    · rw [getF_put, if_neg (fun e => h w (by simp) e.symm)]
    · rfl

theorem there_some (l : List Fil) : ∀ (s : List Fil) (n : List UInt8) (f : Fil), getF s n = some f → getF (there l s) n = some f := by
  induction l with
  | nil => intro s n f h; exact h
  | cons g r ih =>
    intro s n f h
    rw [there]
    refine ih _ _ _ ?_
    by_cases hs : (getF s g.name).isSome = true
    · rw [if_pos hs]; exact h
    · rw [if_neg hs, getF_put]
      have hne : ¬ n = g.name := fun e => by rw [← e, h] at hs; exact hs rfl
      show (if n = g.name then _ else _) = _
      rw [if_neg hne]
      exact h

theorem there_none (l : List Fil) : ∀ (s : List Fil) (n : List UInt8), getF s n = none → getF (there l s) n = if (getF l n).isSome = true then some ⟨n, []⟩ else none := by
  induction l with
  | nil => intro s n h; simpa [there, getF] using h
  | cons g r ih =>
    intro s n h
    rw [there, getF]
    by_cases e : g.name = n
    · rw [if_pos e]
      have hs : ¬ (getF s g.name).isSome = true := by rw [e, h]; simp
      rw [if_neg hs, there_some r _ n ⟨n, []⟩ (by rw [getF_put, if_pos (by exact e.symm)]; rw [e])]
      simp
    · rw [if_neg e]
      refine ih _ _ ?_
      by_cases hs : (getF s g.name).isSome = true
      · rw [if_pos hs]; exact h
      · rw [if_neg hs, getF_put]
        show (if n = g.name then _ else _) = _
        rw [if_neg (fun h2 => e h2.symm)]
        exact h

/-- Pages of a file that are written in their places: each is as it was, or as a write made it. -/
theorem keeps_pages {keep : Nat} {n : List UInt8} {L : Nat} (ws : List Wrt) : ∀ (i : Nat) (s : List Fil), (∀ w ∈ ws, w.name = n → w.page < L) → (getF s n).isSome = true → (pagesF s n).length = L →
    (getF (keeps keep i ws s) n).isSome = true ∧ (pagesF (keeps keep i ws s) n).length = L ∧
      ∀ p x, (pagesF (keeps keep i ws s) n)[p]? = some x → (pagesF s n)[p]? = some x ∨ ∃ w ∈ ws, w.name = n ∧ w.page = p ∧ w.data = x := by
  induction ws with
  | nil => intro i s _ h1 h2; exact ⟨h1, h2, fun p x hx => .inl hx⟩
  | cons w r ih =>
    intro i s hw h1 h2
    have hr := fun x hx => hw x (List.mem_cons_of_mem w hx)
    rw [keeps]
    by_cases hk : keepBit keep i = true
    · rw [if_pos hk]
      by_cases hn : w.name = n
      · have hp := hw w (by simp) hn
        have hset : setP (pagesF s w.name) w.page w.data = (pagesF s n).set w.page w.data := by rw [hn, setP_in (by rw [h2]; exact hp)]
        obtain ⟨q1, q2, q3⟩ := ih (i + 1) (putF s ⟨w.name, setP (pagesF s w.name) w.page w.data⟩) hr (by rw [getF_put, if_pos (by exact hn.symm)]; rfl) (by rw [pagesF_put, if_pos (by exact hn.symm)]; show (setP _ _ _).length = L; rw [hset, List.length_set, h2])
        refine ⟨q1, q2, fun p x hx => ?_⟩
        rcases q3 p x hx with h3 | ⟨v, hv, h3⟩
        · rw [pagesF_put, if_pos (by exact hn.symm)] at h3
          have h3 : (setP (pagesF s w.name) w.page w.data)[p]? = some x := h3
          rw [hset, List.getElem?_set] at h3
          by_cases e : w.page = p
          · rw [if_pos e] at h3
            split at h3
            · injection h3 with h3
              exact .inr ⟨w, by simp, hn, e, h3⟩
            · cases h3
          · rw [if_neg e] at h3
            exact .inl h3
        · exact .inr ⟨v, List.mem_cons_of_mem w hv, h3⟩
      · obtain ⟨q1, q2, q3⟩ := ih (i + 1) (putF s ⟨w.name, setP (pagesF s w.name) w.page w.data⟩) hr (by rw [getF_put, if_neg (fun e => hn e.symm)]; exact h1) (by rw [pagesF_put, if_neg (fun e => hn e.symm)]; exact h2)
        refine ⟨q1, q2, fun p x hx => ?_⟩
        rcases q3 p x hx with h3 | ⟨v, hv, h3⟩
        · rw [pagesF_put, if_neg (fun e => hn e.symm)] at h3
          exact .inl h3
        · exact .inr ⟨v, List.mem_cons_of_mem w hv, h3⟩
    · rw [if_neg hk]
      obtain ⟨q1, q2, q3⟩ := ih (i + 1) s hr h1 h2
      refine ⟨q1, q2, fun p x hx => ?_⟩
      rcases q3 p x hx with h3 | ⟨v, hv, h3⟩
      · exact .inl h3
      · exact .inr ⟨v, List.mem_cons_of_mem w hv, h3⟩

/-- A file whose writes all lie ahead of L has no more than L pages. -/
theorem keeps_short {keep : Nat} {n : List UInt8} {L : Nat} (ws : List Wrt) : ∀ (i : Nat) (s : List Fil), (∀ w ∈ ws, w.name = n → w.page < L) → (pagesF s n).length ≤ L → (pagesF (keeps keep i ws s) n).length ≤ L := by
  induction ws with
  | nil => intro i s _ h; exact h
  | cons w r ih =>
    intro i s hw h
    rw [keeps]
    refine ih _ _ (fun x hx => hw x (List.mem_cons_of_mem w hx)) ?_
    split
    · rw [pagesF_put]
      split
      · rename_i e
        have hp := hw w (by simp) e.symm
        have e2 : n = w.name := e
        show (setP _ _ _).length ≤ L
        rw [setP_len, ← e2]
        omega
      · exact h
    · exact h

/-! ### Calls -/

def newD (room : Int) : Dsk := ⟨[], [], [], (if room < 0 then 0 else if 4096 < room then 4096 else room.toNat), false, 0, 0, 0⟩
def freeD (D : Dsk) : Int := (D.room : Int) - (count D.now : Int)
def actD (D : Dsk) : Dsk := { D with acts := D.acts + 1, fuse := D.fuse - 1 }
def armD (D : Dsk) (n : Int) (keep : Nat) : Dsk := { D with fuse := n.toNat, keep := keep }
def onD (D : Dsk) : Dsk := { D with off := false }
/-- What an act leaves that was the fuse's last. -/
def ends (D D1 : Dsk) (e : Nat) : Dsk × Nat := if D.fuse = 1 then (lose D1 D.keep, 8) else (D1, e)
def wrote (D : Dsk) (n : List UInt8) (i : Nat) (b : List UInt8) : Dsk :=
  { actD D with now := putF D.now ⟨n, setP (pagesF D.now n) i (pad b)⟩, waits := D.waits ++ [⟨n, i, pad b⟩] }
def writeD (D : Dsk) (n : List UInt8) (i : Int) (b : List UInt8) : Dsk × Nat :=
  if D.off = true then (D, 8) else if 512 < b.length then (D, 3) else if i < 0 ∨ ((pagesF D.now n).length : Int) < i then (D, 1)
  else if i = ((pagesF D.now n).length : Int) ∧ freeD D = 0 then (D, 7) else ends D (wrote D n i.toNat b) 0
def readD (D : Dsk) (n : List UInt8) (i : Int) : List UInt8 × Nat :=
  if D.off = true then ([], 8) else if i < 0 ∨ ((pagesF D.now n).length : Int) ≤ i then ([], 5) else ((pagesF D.now n).getD i.toNat [], 0)
def mayD (D : Dsk) (n : List UInt8) : Dsk × Nat :=
  if D.off = true then (D, 8) else if (getF D.now n).isSome = false then (D, 5) else ends D (actD D) 0
def dropW (ws : List Wrt) (n : List UInt8) (k : Nat) : List Wrt := ws.filter fun w => decide (w.name ≠ n ∨ w.page < k)
def syncs (D : Dsk) (n : List UInt8) : Dsk := { D with safe := putF D.safe ⟨n, pagesF D.now n⟩, waits := dropW D.waits n 0 }
def syncD (D : Dsk) (n : List UInt8) : Dsk × Nat := if (mayD D n).2 = 0 then (syncs (mayD D n).1 n, 0) else mayD D n
def cuts (D : Dsk) (n : List UInt8) (k : Nat) : Dsk :=
  { D with now := putF D.now ⟨n, (pagesF D.now n).take k⟩, safe := putF D.safe ⟨n, (pagesF D.safe n).take k⟩, waits := dropW D.waits n k }
def cutD (D : Dsk) (n : List UInt8) (k : Int) : Dsk × Nat :=
  if D.off = false ∧ (getF D.now n).isSome = true ∧ k < 0 then (D, 1) else if (mayD D n).2 = 0 then (cuts (mayD D n).1 n k.toNat, 0) else mayD D n
def renames (D : Dsk) (a b : List UInt8) : Dsk :=
  { D with now := putF (without D.now a) ⟨b, pagesF D.now a⟩, safe := putF (without D.safe a) ⟨b, pagesF D.safe a⟩, waits := (dropW D.waits b 0).map fun w => if w.name = a then ⟨b, w.page, w.data⟩ else w }
def renameD (D : Dsk) (a b : List UInt8) : Dsk × Nat := if (mayD D a).2 = 0 ∧ a ≠ b then (renames (mayD D a).1 a b, 0) else mayD D a
def removes (D : Dsk) (n : List UInt8) : Dsk := { D with now := without D.now n, safe := without D.safe n, waits := dropW D.waits n 0 }
def removeD (D : Dsk) (n : List UInt8) : Dsk × Nat := if (mayD D n).2 = 0 then (removes (mayD D n).1 n, 0) else mayD D n
def namesD (D : Dsk) : List (List UInt8) := if D.off = true then [] else D.now.map Fil.name

theorem lose_off (D : Dsk) (keep : Nat) : (lose D keep).off = true := by
  unfold lose
  by_cases h : D.off = true
  · rw [if_pos h]; exact h
  · rw [if_neg h]
theorem lose_again {D : Dsk} (h : D.off = true) (keep : Nat) : lose D keep = D := by unfold lose; rw [if_pos h]
theorem lose_now {D : Dsk} (h : D.off = false) (keep : Nat) : (lose D keep).now = there D.now (keeps keep 0 D.waits D.safe) := by unfold lose; rw [if_neg (by rw [h]; simp)]

/-- The lists of a disk that can be: every name once. -/
def Sound (D : Dsk) : Prop := Once D.now ∧ Once D.safe
theorem Sound.lose {D : Dsk} (h : Sound D) (keep : Nat) : Sound (lose D keep) := by
  unfold Cd.lose
  split
  · exact h
  · exact ⟨there_once _ _ (keeps_once _ _ _ h.2), there_once _ _ (keeps_once _ _ _ h.2)⟩

end Go.Proofs.YtkbmajgbhpecgaaGreatDoor.Cd

/-
  Maps of the program as functions: what a look-up, a store, a delete and len do. Conditions: none.
-/
namespace Go.Proofs.YtkbmajgbhpecgaaGreatDoor.Cd
open Go.RowKit Go.Maps

theorem laid_out : laidOutB Tryz.prog = true := by kernel_rfl

/-- A kind of maps: how keys and elements are values. -/
structure MKind (κ ν : Type) where
  T : TypeId
  K : TypeId
  E : TypeId
  R : Value → Option (DataW Unit × List MemPlace)
  key : κ → Value
  ok : κ → Prop
  lit : κ → Lit
  val : ν → Value
  okv : ν → Prop
  dat : ν → DataW Unit
  z0 : ν
  law : Keyed Tryz.prog K
  under : Tryz.prog.underlying T = some (.map K E)
  keyed : ∀ {x}, ok x → keyOf Tryz.prog K (key x) = some (lit x)
  one : ∀ {x y}, key x = key y → x = y
  read : ∀ {v}, okv v → R (val v) = some (dat v, [])
  inv : ∀ {u v ps}, R u = some (dat v, ps) → u = val v ∧ okv v
  okz : okv z0
  zero : ∀ w, (zeroValue E).run Tryz.prog w = .ok (val z0) w

section
variable {κ ν : Type} (M : MKind κ ν)

theorem MKind.lit_one {x y : κ} (hx : M.ok x) (hy : M.ok y) (h : M.lit x = M.lit y) : x = y :=
  M.one (M.law.inj (M.keyed hx) (by rw [h]; exact M.keyed hy))

/-- Block b is a map of n entries: the function q. -/
def MapF (w : World) (b n : Nat) (q : κ → Option ν) : Prop :=
  ∃ D : DataW Unit, w.ownsMap Tryz.prog M.K M.R b n D ∧ Maps.size D = n ∧ ∀ x, M.ok x → ∀ z, D.atKey (M.lit x) z = ((q x).map M.dat).getD z

variable {M} {w : World} {b n : Nat} {q : κ → Option ν}

theorem MapF.lt (h : MapF M w b n q) : b < w.heap.size := h.elim fun _ hD => hD.1.lt
theorem MapF.heap {w' : World} (h : MapF M w b n q) (hb : w'.heap[b]? = w.heap[b]?) : MapF M w' b n q := by
  obtain ⟨D, ⟨es, clock, h1, h2⟩, h3⟩ := h
  exact ⟨D, ⟨es, clock, hb.trans h1, h2⟩, h3⟩
theorem MapF.grown {w' : World} {r : Option Nat} (h : MapF M w b n q) (hg : w.grownBy w' r) (hne : some b ≠ r) : MapF M w' b n q := h.heap (hg.block b h.lt hne)
theorem MapF.apart {w' : World} {S : Nat → Prop} (h : MapF M w b n q) (hg : Apart S w w') (hne : ¬ S b) : MapF M w' b n q := h.heap (hg.block b h.lt hne)
theorem MapF.below {w' : World} {B : Nat} (h : MapF M w b n q) (hg : Below B w w') (hlt : b < B) : MapF M w' b n q := h.heap (hg.block b hlt)
theorem MapF.alloc (h : MapF M w b n q) (o : Obj) : MapF M (w.alloc o) b n q := h.grown (World.grownBy_alloc w o none) (by simp)
theorem MapF.drew (h : MapF M w b n q) : MapF M w.drew b n q := h
theorem MapF.setCell (h : MapF M w b n q) {a : Addr} (ha : b ≠ a.block) (u : Value) : MapF M (w.setCell a u) b n q := by
  obtain ⟨D, h1, h2⟩ := h
  exact ⟨D, h1.setCell ha u, h2⟩
theorem MapF.congr {q' : κ → Option ν} (h : MapF M w b n q) (hq : ∀ x, M.ok x → q' x = q x) : MapF M w b n q' := by
  obtain ⟨D, h1, h2, h3⟩ := h
  exact ⟨D, h1, h2, fun x hx z => by rw [hq x hx]; exact h3 x hx z⟩

theorem MapF.made (M : MKind κ ν) (w : World) : MapF M (w.alloc (.map #[] 0)) w.heap.size 0 (fun _ => none) :=
  ⟨_, World.ownsMap_made w Tryz.prog M.K M.R, rfl, fun _ _ _ => rfl⟩

theorem MapF.val (h : MapF M w b n q) {x : κ} (_hx : M.ok x) {u : Value} {ps : List MemPlace} {D : DataW Unit} (hD : ∀ z, D.atKey (M.lit x) z = ((q x).map M.dat).getD z)
    (hu : M.R u = some (D.atKey (M.lit x) (M.dat M.z0), ps)) : u = M.val ((q x).getD M.z0) := by
  have := h
  rw [hD] at hu
  cases hq : q x with
  | none => rw [hq] at hu; exact (M.inv hu).1
  | some v => rw [hq] at hu; exact (M.inv hu).1

theorem MapF.okv (h : MapF M w b n q) {x : κ} (hx : M.ok x) {v : ν} (hv : q x = some v) : M.okv v := by
  obtain ⟨D, h1, _, h3⟩ := h
  obtain ⟨u, ps, _, hu⟩ := h1.lookup M.law M.under (M.zero w) (M.read M.okz) (M.keyed hx)
  rw [h3 x hx, hv] at hu
  exact (M.inv hu).2

theorem MapF.look (h : MapF M w b n q) {x : κ} (hx : M.ok x) : (Instr.lookup M.T (.map (some b)) (M.key x) false).run Tryz.prog w = .ok (M.val ((q x).getD M.z0)) w := by
  have h0 := h
  obtain ⟨D, h1, _, h3⟩ := h
  obtain ⟨u, ps, hr, hu⟩ := h1.lookup M.law M.under (M.zero w) (M.read M.okz) (M.keyed hx)
  rw [← h0.val hx (h3 x hx) hu]
  exact hr

theorem MapF.has {D : DataW Unit} {x : κ} (h : ∀ z, D.atKey (M.lit x) z = ((q x).map M.dat).getD z) : Maps.has D (M.lit x) = (q x).isSome := by
  cases hq : q x with
  | none => exact Maps.has_false_of_atKey fun z => by rw [h z, hq]; rfl
  | some v => exact Maps.has_true_of_atKey (y := M.dat v) fun z => by rw [h z, hq]; rfl

theorem MapF.look_ok (h : MapF M w b n q) {x : κ} (hx : M.ok x) :
    (Instr.lookup M.T (.map (some b)) (M.key x) true).run Tryz.prog w = .ok (.tuple #[M.val ((q x).getD M.z0), .bool (q x).isSome]) w := by
  have h0 := h
  obtain ⟨D, h1, _, h3⟩ := h
  obtain ⟨u, ps, hr, hu⟩ := h1.look_ok M.law M.under (M.zero w) (M.read M.okz) (M.keyed hx)
  rw [← h0.val hx (h3 x hx) hu, ← MapF.has (h3 x hx)]
  exact hr

theorem MapF.len (h : MapF M w b n q) (ty : TypeId) : (Builtin.len_ #[M.T] ty #[.map (some b)]).run Tryz.prog w = .ok (.int .i64 n) w := by
  obtain ⟨D, h1, h2, _⟩ := h
  rw [← h2]
  exact h1.len M.under ty

theorem ownsMap_tight {P : Program} {k : TypeId} {R : Value → Option (DataW Unit × List MemPlace)} {D : DataW Unit} (h : w.ownsMap P k R b n D) : w.ownsMap P k R b (Maps.size D) D := by
  obtain ⟨es, clock, h1, h2, h3, rfl⟩ := h
  exact ⟨es, clock, h1, h2, by simp [Maps.size, length_sorted], rfl⟩

/-- One place of a function is another. -/
def upd [DecidableEq κ] (q : κ → Option ν) (x : κ) (v : Option ν) : κ → Option ν := fun y => if y = x then v else q y

theorem MapF.store [DecidableEq κ] (h : MapF M w b n q) (hn : n < maxLen) {x : κ} (hx : M.ok x) {v : ν} (hv : M.okv v) :
    ∃ w', (Instr.mapUpdate M.T (.map (some b)) (M.key x) (M.val v)).run Tryz.prog w = .ok () w' ∧ MapF M w' b (n + if (q x).isSome = true then 0 else 1) (upd q x (some v)) ∧ w.mapTurned w' b := by
  obtain ⟨D, h1, h2, h3⟩ := h
  have ht := h1.tidy M.law
  have hk := M.law.key (M.keyed hx)
  obtain ⟨w', hr, r1, r2⟩ := h1.store M.law M.under hn (M.keyed hx) (M.read hv)
  have hs : Maps.size (D.put (M.lit x) (M.dat v)) = n + if (q x).isSome = true then 0 else 1 := by
    rw [Maps.size_put ht, MapF.has (h3 x hx), h2]
    split <;> rfl
  refine ⟨w', hr, ⟨_, ?_, hs, fun y hy z => ?_⟩, r2⟩
  · rw [← hs]
    exact ownsMap_tight r1
  · unfold upd
    by_cases e : y = x
    · subst e
      rw [if_pos rfl, Maps.atKey_put_same ht.isMap hk]
      rfl
    · rw [if_neg e, Maps.atKey_put_other (fun hl => e (M.lit_one hy hx hl))]
      exact h3 y hy z

theorem MapF.drop [DecidableEq κ] (h : MapF M w b n q) {x : κ} (hx : M.ok x) (ty : TypeId) :
    ∃ w', (Builtin.delete_ #[M.T, M.K] ty #[.map (some b), M.key x]).run Tryz.prog w = .ok (.tuple #[]) w' ∧ MapF M w' b (n - if (q x).isSome = true then 1 else 0) (upd q x none) ∧ w.mapTurned w' b := by
  obtain ⟨D, h1, h2, h3⟩ := h
  have ht := h1.tidy M.law
  obtain ⟨w', hr, r1, r2⟩ := h1.drop M.law M.under (M.keyed hx) ty
  have hs : Maps.size (D.del (M.lit x)) = n - if (q x).isSome = true then 1 else 0 := by
    have := Maps.size_del (k := M.lit x) ht
    rw [MapF.has (h3 x hx), h2] at this
    omega
  refine ⟨w', hr, ⟨_, ?_, hs, fun y hy z => ?_⟩, r2⟩
  · rw [← hs]
    exact ownsMap_tight r1
  · unfold upd
    by_cases e : y = x
    · subst e
      rw [if_pos rfl, Maps.atKey_del_same]
      rfl
    · rw [if_neg e, Maps.atKey_del_other (fun hl => e (M.lit_one hy hx hl))]
      exact h3 y hy z

end

/-! ### At the operation, for the walk -/
section
variable {κ ν : Type} [DecidableEq κ] {M : MKind κ ν} {w : World} {ops : Array Oper} {rest : List Oper} {o : Oper} {a : Act} {Q : Exit → Act → World → Prop} {b n : Nat} {q : κ → Option ν}

theorem wp_store (M : MKind κ ν) (hgd : o.guard = none) (m x v : Operand) (hop : o.op = Op.mapUpdate M.T m x v) (b n : Nat) (q : κ → Option ν) (hm : a.eval m = .map (some b)) (h : MapF M w b n q) (hn : n < maxLen)
    (k : κ) (hx : a.eval x = M.key k) (hok : M.ok k) (u : ν) (hv : a.eval v = M.val u) (hu : M.okv u) (n' : Nat) (hn' : (n + if (q k).isSome = true then 0 else 1) = n')
    (hK : ∀ w', MapF M w' b n' (upd q k (some u)) → w.grownBy w' (some b) → wpList Tryz.prog ops Q rest (a.put o.dst undef) w') : wpList Tryz.prog ops Q (o :: rest) a w := by
  subst hn'
  refine wpList_plain hgd fun K' hK' => ?_
  obtain ⟨w', hrun, r1, r2⟩ := h.store hn hok hu
  unfold Oper.wp
  simp [execOp, hop, hm, hx, hv, hrun, Result.andThen]
  exact hK' _ _ (hK w' r1 r2.grown)

theorem wp_drop (M : MKind κ ν) (hgd : o.guard = none) (m x : Operand) (hop : o.op = Op.call { callee := Callee.builtin Builtin.delete, args := #[m, x], argTypes := #[M.T, M.K] }) (b n : Nat) (q : κ → Option ν) (hm : a.eval m = .map (some b)) (h : MapF M w b n q)
    (k : κ) (hx : a.eval x = M.key k) (hok : M.ok k) (n' : Nat) (hn' : (n - if (q k).isSome = true then 1 else 0) = n')
    (hK : ∀ w', MapF M w' b n' (upd q k none) → w.grownBy w' (some b) → wpList Tryz.prog ops Q rest (a.put o.dst (.tuple #[])) w') : wpList Tryz.prog ops Q (o :: rest) a w := by
  subst hn'
  refine wpList_plain hgd fun K' hK' => ?_
  obtain ⟨w', hrun, r1, r2⟩ := h.drop hok o.type
  unfold Oper.wp
  simp [execOp, hop, resolve, invoke, builtin, hm, hx, hrun, Result.andThen]
  exact hK' _ _ (hK w' r1 r2.grown)
end

/-! ### The three kinds -/

abbrev lim : Nat := 4611686018427387904

theorem wf_nat {f : Nat} (h : f ≤ lim) : (Lit.int .i64 (f : Int)).wf = true := WalkArith.wf_i64 (by unfold lim at h; omega)

/-- map[int]int. -/
def cntK : MKind Nat Nat where
  T := 59
  K := 3
  E := 3
  R := fun v => match v with
    | .int .i64 n => if 0 ≤ n then some (.lit (.int .i64 n), []) else none
    | _ => none
  key := fun f => .int .i64 f
  ok := fun f => f ≤ lim
  lit := fun f => .int .i64 f
  val := fun n => .int .i64 n
  okv := fun _ => True
  dat := fun n => .lit (.int .i64 n)
  z0 := 0
  law := int_keyed Tryz.underlying3
  under := Tryz.underlying59
  keyed := fun h => keyOf_int_mk Tryz.underlying3 (wf_nat h)
  one := fun h => by injection h with _ h; omega
  read := fun {v} _ => by
    show (if (0 : Int) ≤ (v : Int) then _ else _) = _
    rw [if_pos (by omega)]
  inv := fun {u v ps} h => by
    split at h
    · split at h
      · simp only [Option.some.injEq, Prod.mk.injEq, DataW.lit.injEq, Lit.int.injEq, true_and] at h
        exact ⟨by rw [h.1], trivial⟩
      · cases h
    · cases h
  okz := trivial
  zero := fun w => Tryz.zeroValue3 w

/-- map[string]int. -/
def filK : MKind (List UInt8) Nat where
  T := 58
  K := 9
  E := 3
  R := fun v => match v with
    | .int .i64 n => if 0 ≤ n then some (.lit (.int .i64 n), []) else none
    | _ => none
  key := fun s => .string ⟨s.toArray⟩
  ok := fun s => s.length ≤ maxLen
  lit := fun s => .string s
  val := fun n => .int .i64 n
  okv := fun _ => True
  dat := fun n => .lit (.int .i64 n)
  z0 := 0
  law := string_keyed Tryz.underlying9
  under := Tryz.underlying58
  keyed := fun h => by
    have := WideMaps.keyOf_string_mk Tryz.underlying9 (s := ⟨(_ : List UInt8).toArray⟩) h
    simpa using this
  one := fun h => by
    injection h with h
    injection h with h
    simpa using congrArg Array.toList h
  read := fun {v} _ => by
    show (if (0 : Int) ≤ (v : Int) then _ else _) = _
    rw [if_pos (by omega)]
  inv := fun {u v ps} h => by
    split at h
    · split at h
      · simp only [Option.some.injEq, Prod.mk.injEq, DataW.lit.injEq, Lit.int.injEq, true_and] at h
        exact ⟨by rw [h.1], trivial⟩
      · cases h
    · cases h
  okz := trivial
  zero := fun w => Tryz.zeroValue3 w

/-! Pages by place -/

/-- Cells that are bytes. -/
def bytesIn : List Value → Option (List UInt8)
  | [] => some []
  | .int .u8 n :: r => if 0 ≤ n ∧ n < 256 then (bytesIn r).map (UInt8.ofNat n.toNat :: ·) else none
  | _ :: _ => none
theorem bytesIn_vb (p : List UInt8) : bytesIn (vb p) = some p := by
  induction p with
  | nil => rfl
  | cons x r ih =>
    have hx := x.toNat_lt
    show (if 0 ≤ (x.toNat : Int) ∧ (x.toNat : Int) < 256 then (bytesIn (vb r)).map _ else none) = _
    rw [if_pos (by omega), ih]
    simp
theorem vb_of_bytesIn : ∀ {l : List Value} {p : List UInt8}, bytesIn l = some p → l = vb p := by
  intro l
  induction l with
  | nil => intro p h; injection h with h; subst h; rfl
  | cons v r ih =>
    intro p h
    unfold bytesIn at h
    split at h
    · rename_i e; cases e
    · rename_i n r' e
      injection e with e1 e2
      subst e1 e2
      split at h
      · rename_i hn
        cases hr : bytesIn r with
        | none => rw [hr] at h; cases h
        | some p' =>
          rw [hr] at h
          injection h with h
          subst h
          rw [ih hr]
          have : ((UInt8.ofNat n.toNat).toNat : Int) = n := by
            rw [UInt8.toNat_ofNat_of_lt' (by show n.toNat < 256; omega)]
            omega
          show Value.int .u8 n :: vb p' = Value.int .u8 ((UInt8.ofNat n.toNat).toNat : Int) :: vb p'
          rw [this]
      · cases h
    · cases h
theorem vb_inj {a b : List UInt8} (h : vb a = vb b) : a = b := by
  have := congrArg bytesIn h
  rw [bytesIn_vb, bytesIn_vb] at this
  injection this

def pageR (v : Value) : Option (DataW Unit × List MemPlace) := match v with
  | .agg cs => if cs.size = 512 then (bytesIn cs.toList).map fun p => (.lit (.string p), []) else none
  | _ => none

theorem zero_page : Tryz.zeroCells110 = (vb nought).toArray := by kernel_rfl

/-- A place as a value. -/
def placeV (x : Nat × Int) : Value := .agg #[.int .i64 x.1, .int .i64 x.2]
theorem place_key {x : Nat × Int} (h : x.1 ≤ lim) (hi : (Lit.int .i64 x.2).wf = true) : keyOf Tryz.prog 108 (placeV x) = some (.string (keyBytes [.int .i64 x.1, .int .i64 x.2])) := by
  have h1 := wf_nat h
  have hk : Tryz.prog.keyType 108 = true := by kernel_rfl
  have hc : Tryz.prog.cellsOf 108 = 2 := by kernel_rfl
  have hc2 : Tryz.prog.cellsOf 3 = 1 := by kernel_rfl
  have hf : (placeV x).formed Tryz.prog 108 = true := by simp [Value.formed, placeV, Tryz.underlying108, hc]
  obtain ⟨m, hm⟩ : ∃ m, Tryz.prog.types.size = m + 1 := ⟨_, (by kernel_rfl : Tryz.prog.types.size = (Tryz.prog.types.size - 1) + 1)⟩
  unfold keyOf
  rw [Tryz.underlying108]
  simp only [hk, hf, hm, Bool.and_self, if_true]
  simp [placeV, Value.cells, Program.keyLits, Tryz.underlying108, Tryz.underlying3, hc, hc2, h1, hi]

/-- map[place]page. -/
def pgK : MKind (Nat × Int) (List UInt8) where
  T := 60
  K := 108
  E := 110
  R := pageR
  key := placeV
  ok := fun x => x.1 ≤ lim ∧ (Lit.int .i64 x.2).wf = true
  lit := fun x => .string (keyBytes [.int .i64 x.1, .int .i64 x.2])
  val := fun p => .agg (vb p).toArray
  okv := fun p => p.length = 512
  dat := fun p => .lit (.string p)
  z0 := nought
  law := Keyed.of_law (deep_law_laid laid_out (m := 3) (by omega) (of_decide_eq_true (by kernel_rfl)) (by kernel_rfl) (by kernel_rfl))
  under := Tryz.underlying60
  keyed := fun h => place_key h.1 h.2
  one := fun {x y} h => by
    obtain ⟨f, i⟩ := x
    obtain ⟨g, j⟩ := y
    simp only [placeV, Value.agg.injEq, Array.mk.injEq, List.cons.injEq, Value.int.injEq, true_and, and_true] at h
    have h1 : f = g := by omega
    rw [h1, h.2]
  read := fun {v} h => by
    show (if (vb v).toArray.size = 512 then _ else _) = _
    rw [if_pos (by simpa [vb] using h), show (vb v).toArray.toList = vb v by simp, bytesIn_vb]
    rfl
  inv := fun {u v ps} h => by
    unfold pageR at h
    split at h
    · rename_i cs
      split at h
      · rename_i hs
        cases hb : bytesIn cs.toList with
        | none => rw [hb] at h; cases h
        | some p =>
          rw [hb] at h
          simp only [Option.map_some, Option.some.injEq, Prod.mk.injEq, DataW.lit.injEq, Lit.string.injEq] at h
          have h1 := vb_of_bytesIn hb
          rw [← h.1]
          refine ⟨by rw [← h1], ?_⟩
          have := congrArg List.length h1
          rw [vb_length] at this
          simpa using this.symm.trans hs
      · cases h
    · cases h
  okz := List.length_replicate
  zero := fun w => by rw [← zero_page]; exact Tryz.zeroValue110 w

theorem cnt_look {w : World} {b n f c : Nat} {q : Nat → Option Nat} (h : MapF cntK w b n q) (hf : f ≤ lim) (hq : (q f).getD 0 = c) :
    (Instr.lookup 59 (.map (some b)) (.int .i64 f) false).run Tryz.prog w = .ok (.int .i64 c) w := by
  rw [← hq]
  exact h.look (x := f) hf
theorem fil_look {w : World} {b n : Nat} {s : List UInt8} {q : List UInt8 → Option Nat} (h : MapF filK w b n q) (hs : s.length ≤ maxLen) :
    (Instr.lookup 58 (.map (some b)) (.string ⟨s.toArray⟩) true).run Tryz.prog w = .ok (.tuple #[.int .i64 ((q s).getD 0 : Nat), .bool (q s).isSome]) w := h.look_ok (x := s) hs
theorem pg_look {w : World} {b n f : Nat} {i : Int} {q : Nat × Int → Option (List UInt8)} (h : MapF pgK w b n q) (hf : f ≤ lim) (hi : (Lit.int .i64 i).wf = true) :
    (Instr.lookup 60 (.map (some b)) (.agg #[.int .i64 f, .int .i64 i]) true).run Tryz.prog w = .ok (.tuple #[.agg (vb ((q (f, i)).getD nought)).toArray, .bool (q (f, i)).isSome]) w := h.look_ok (x := (f, i)) ⟨hf, hi⟩

end Go.Proofs.YtkbmajgbhpecgaaGreatDoor.Cd
