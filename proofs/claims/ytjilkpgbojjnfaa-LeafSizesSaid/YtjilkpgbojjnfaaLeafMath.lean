/-
  A search tree's page: what can be, its bytes, how many they are: no Go in sight. Conditions: none.
-/
import Derived.Test.YtjilkpgbojjnfaaMathD
import Derived.Test.YtjilkpgbojjnfaaMathE
namespace Go.Proofs.Ytjilkpgbojjnfaa.Cd

/-- A node, as the laws' text has it. -/
structure Nd where
  leaf : Bool
  keys : List (List UInt8)
  vals : List (List UInt8)
  kids : List Int

def rise : List (List UInt8) → Bool
  | [] => true
  | [_] => true
  | a :: b :: r => decide (a < b) && rise (b :: r)

theorem rise_iff (l : List (List UInt8)) : rise l = true ↔ ∀ j (h : j + 1 < l.length), l[j] < l[j + 1] := by
  induction l with
  | nil => simp [rise]
  | cons a r ih =>
    cases r with
    | nil => simp [rise]
    | cons b r =>
      rw [rise, Bool.and_eq_true, ih, decide_eq_true_iff]
      constructor
      · rintro ⟨h1, h2⟩ j hj
        cases j with
        | zero => exact h1
        | succ j => exact h2 j (by simpa using hj)
      · intro h
        exact ⟨h 0 (by simp), fun j hj => h (j + 1) (by simpa using hj)⟩

theorem rise_false {l : List (List UInt8)} {j : Nat} (h : j + 1 < l.length) (hn : ¬ l[j] < l[j + 1]) : rise l = false := by
  rw [Bool.eq_false_iff]
  exact fun hr => hn ((rise_iff l).1 hr j h)

def fit (m : Nat) (l : List (List UInt8)) : Bool := l.all fun s => decide (s.length ≤ m)
theorem fit_iff (m : Nat) (l : List (List UInt8)) : fit m l = true ↔ ∀ j (h : j < l.length), l[j].length ≤ m := by
  unfold fit
  simp only [List.all_eq_true, decide_eq_true_eq]
  exact ⟨fun h j hj => h _ (List.getElem_mem hj), fun h s hs => by obtain ⟨j, hj, rfl⟩ := List.getElem_of_mem hs; exact h j hj⟩
theorem fit_false {m : Nat} {l : List (List UInt8)} {j : Nat} (h : j < l.length) (hn : m < l[j].length) : fit m l = false := by
  rw [Bool.eq_false_iff]
  exact fun hr => by have := (fit_iff m l).1 hr j h; omega

def pages (l : List Int) : Bool := l.all fun p => decide (1 ≤ p ∧ p ≤ 4095)
theorem pages_iff (l : List Int) : pages l = true ↔ ∀ j (h : j < l.length), 1 ≤ l[j] ∧ l[j] ≤ 4095 := by
  unfold pages
  simp only [List.all_eq_true, decide_eq_true_eq]
  exact ⟨fun h j hj => h _ (List.getElem_mem hj), fun h s hs => by obtain ⟨j, hj, rfl⟩ := List.getElem_of_mem hs; exact h j hj⟩
theorem pages_false {l : List Int} {j : Nat} (h : j < l.length) (hn : l[j] < 1 ∨ 4095 < l[j]) : pages l = false := by
  rw [Bool.eq_false_iff]
  exact fun hr => by have := (pages_iff l).1 hr j h; omega

/-- The part that a leaf, or an inner node, asks for. -/
def goodR (n : Nd) : Bool :=
  if n.leaf then decide (n.vals.length = n.keys.length) && fit 160 n.vals && decide (n.kids.length = 0)
  else decide (n.kids.length = n.keys.length + 1) && pages n.kids && decide (n.vals.length = 0)
def good (n : Nd) : Bool := rise n.keys && fit 48 n.keys && goodR n

structure Good (n : Nd) : Prop where
  rise : rise n.keys = true
  keys : ∀ s ∈ n.keys, s.length ≤ 48
  vals : ∀ s ∈ n.vals, s.length ≤ 160
  kids : ∀ p ∈ n.kids, 1 ≤ p ∧ p ≤ 4095
  leaf : n.leaf = true → n.vals.length = n.keys.length ∧ n.kids = []
  inner : n.leaf = false → n.kids.length = n.keys.length + 1 ∧ n.vals = []

theorem fit_mem {m : Nat} {l : List (List UInt8)} (h : fit m l = true) : ∀ s ∈ l, s.length ≤ m := by
  unfold fit at h
  simpa using h
theorem pages_mem {l : List Int} (h : pages l = true) : ∀ p ∈ l, 1 ≤ p ∧ p ≤ 4095 := by
  unfold pages at h
  simpa using h
theorem good_iff (n : Nd) : good n = true ↔ Good n := by
  unfold good goodR
  constructor
  · intro h
    rw [Bool.and_eq_true, Bool.and_eq_true] at h
    obtain ⟨⟨h1, h2⟩, h3⟩ := h
    cases hl : n.leaf
    · rw [hl] at h3
      simp only [Bool.false_eq_true, if_false, Bool.and_eq_true, decide_eq_true_eq] at h3
      have hv : n.vals = [] := List.eq_nil_of_length_eq_zero h3.2
      exact ⟨h1, fit_mem h2, by rw [hv]; simp, pages_mem h3.1.2, fun h => absurd (hl.symm.trans h) (by decide), fun _ => ⟨h3.1.1, hv⟩⟩
    · rw [hl] at h3
      simp only [if_true, Bool.and_eq_true, decide_eq_true_eq] at h3
      have hv : n.kids = [] := List.eq_nil_of_length_eq_zero h3.2
      exact ⟨h1, fit_mem h2, fit_mem h3.1.2, by rw [hv]; simp, fun _ => ⟨h3.1.1, hv⟩, fun h => absurd (hl.symm.trans h) (by decide)⟩
  · intro h
    have h2 : fit 48 n.keys = true := by unfold fit; simpa using h.keys
    have h3 : fit 160 n.vals = true := by unfold fit; simpa using h.vals
    have h4 : pages n.kids = true := by unfold pages; simpa using h.kids
    rw [h.rise, h2, h3, h4]
    cases hl : n.leaf
    · have := h.inner hl
      simp [this.1, this.2]
    · have := h.leaf hl
      simp [this.1, this.2]

/-- A text with its length ahead. -/
def txt (s : List UInt8) : List UInt8 := enc s.length ++ s

def head (n : Nd) : Nat := 2 * n.keys.length + (if n.leaf then 1 else 0)
def ent (n : Nd) (j : Nat) : List UInt8 := txt (n.keys.getD j []) ++ (if n.leaf then txt (n.vals.getD j []) else [])
def pre (n : Nd) : Nat → List UInt8
  | 0 => []
  | k + 1 => pre n k ++ ent n k
def kidB (l : List Int) : Nat → List UInt8
  | 0 => []
  | k + 1 => kidB l k ++ enc (l.getD k 0).toNat
def encN (n : Nd) : List UInt8 := enc (head n) ++ (pre n n.keys.length ++ kidB n.kids n.kids.length)

def tsz (l : List (List UInt8)) : Nat → Nat
  | 0 => 0
  | k + 1 => tsz l k + ((enc (l.getD k []).length).length + (l.getD k []).length)
def ksz (l : List Int) : Nat → Nat
  | 0 => 0
  | k + 1 => ksz l k + (enc (l.getD k 0).toNat).length

theorem kidB_len (l : List Int) (k : Nat) : (kidB l k).length = ksz l k := by
  induction k with
  | zero => rfl
  | succ k ih => rw [kidB, List.length_append, ih, ksz]
theorem txt_len (s : List UInt8) : (txt s).length = (enc s.length).length + s.length := by rw [txt, List.length_append]
theorem pre_len (n : Nd) (k : Nat) : (pre n k).length = tsz n.keys k + (if n.leaf then tsz n.vals k else 0) := by
  induction k with
  | zero => cases n.leaf <;> rfl
  | succ k ih =>
    rw [pre, List.length_append, ih, ent, List.length_append, tsz, tsz, txt_len]
    cases n.leaf
    · simp
    · simp only [if_true, txt_len]
      omega
theorem encN_len {n : Nd} (h : Good n) : (encN n).length = (enc (head n)).length + tsz n.keys n.keys.length + tsz n.vals n.vals.length + ksz n.kids n.kids.length := by
  rw [encN, List.length_append, List.length_append, kidB_len, pre_len]
  cases hl : n.leaf
  · have := (h.inner hl).2
    rw [this]
    simp [tsz]
    omega
  · have := (h.leaf hl).1
    rw [this]
    simp
    omega

theorem enc_le10 {x : Nat} (h : x < 18446744073709551616) : (enc x).length ≤ 10 := enc_u64 x h

theorem tsz_le (l : List (List UInt8)) (m : Nat) (hm : m < 1000000) (h : ∀ s ∈ l, s.length ≤ m) (k : Nat) (hk : k ≤ l.length) : tsz l k ≤ k * (m + 10) := by
  induction k with
  | zero => simp [tsz]
  | succ k ih =>
    have h1 := ih (by omega)
    have h2 : l.getD k [] ∈ l := by rw [List.getD_eq_getElem?_getD, List.getElem?_eq_getElem (by omega), Option.getD_some]; exact List.getElem_mem _
    have h3 := h _ h2
    have h4 := enc_le10 (x := (l.getD k []).length) (by omega)
    rw [tsz, Nat.add_mul, Nat.one_mul]
    omega
theorem ksz_le (l : List Int) (h : ∀ p ∈ l, p < 18446744073709551616) (k : Nat) (hk : k ≤ l.length) : ksz l k ≤ k * 10 := by
  induction k with
  | zero => simp [ksz]
  | succ k ih =>
    have h1 := ih (by omega)
    have h2 : l.getD k 0 ∈ l := by rw [List.getD_eq_getElem?_getD, List.getElem?_eq_getElem (by omega), Option.getD_some]; exact List.getElem_mem _
    have h3 := h _ h2
    have h4 := enc_le10 (x := (l.getD k 0).toNat) (by omega)
    rw [ksz]
    omega
theorem tsz_mono (l : List (List UInt8)) {j k : Nat} (h : j ≤ k) : tsz l j ≤ tsz l k := by
  induction k with
  | zero => obtain rfl : j = 0 := by omega
            exact Nat.le_refl _
  | succ k ih =>
    by_cases e : j = k + 1
    · subst e; exact Nat.le_refl _
    · have := ih (by omega); rw [tsz]; omega
theorem ksz_mono (l : List Int) {j k : Nat} (h : j ≤ k) : ksz l j ≤ ksz l k := by
  induction k with
  | zero => obtain rfl : j = 0 := by omega
            exact Nat.le_refl _
  | succ k ih =>
    by_cases e : j = k + 1
    · subst e; exact Nat.le_refl _
    · have := ih (by omega); rw [ksz]; omega

/-! ### Great -/

def tot (l : List (List UInt8)) : Nat → Nat
  | 0 => 0
  | k + 1 => tot l k + (1 + (l.getD k []).length)
def wide (n : Nd) : Nat := n.kids.length + tot n.keys n.keys.length + tot n.vals n.vals.length
def great (n : Nd) (most : Nat) : Bool := decide (most < wide n)

theorem tot_mono (l : List (List UInt8)) {j k : Nat} (h : j ≤ k) : tot l j ≤ tot l k := by
  induction k with
  | zero => obtain rfl : j = 0 := by omega
            exact Nat.le_refl _
  | succ k ih =>
    by_cases e : j = k + 1
    · subst e; exact Nat.le_refl _
    · have := ih (by omega); rw [tot]; omega
theorem tot_ge (l : List (List UInt8)) (k : Nat) : k ≤ tot l k := by
  induction k with
  | zero => exact Nat.zero_le _
  | succ k ih => rw [tot]; omega
theorem tot_mem (l : List (List UInt8)) {s : List UInt8} (hs : s ∈ l) : s.length ≤ tot l l.length := by
  obtain ⟨j, hj, rfl⟩ := List.getElem_of_mem hs
  have h1 : tot l (j + 1) ≤ tot l l.length := tot_mono l (by omega)
  rw [tot, List.getD_eq_getElem?_getD, List.getElem?_eq_getElem hj, Option.getD_some] at h1
  omega

/-- What isn't great is small. -/
structure Small (n : Nd) (m : Nat) : Prop where
  kids : n.kids.length ≤ m
  keys : n.keys.length ≤ m
  vals : n.vals.length ≤ m
  key : ∀ s ∈ n.keys, s.length ≤ m
  val : ∀ s ∈ n.vals, s.length ≤ m
theorem small_of {n : Nd} {m : Nat} (h : great n m = false) : Small n m := by
  have h := of_decide_eq_false h
  unfold wide at h
  have h1 := tot_ge n.keys n.keys.length
  have h2 := tot_ge n.vals n.vals.length
  exact ⟨by omega, by omega, by omega, fun s hs => by have := tot_mem _ hs; omega, fun s hs => by have := tot_mem _ hs; omega⟩

/-- The sizes of one that is small. -/
theorem small_sz {n : Nd} {m : Nat} (h : Small n m) (hm : m ≤ 8192) (hk : ∀ p ∈ n.kids, p < 18446744073709551616) :
    tsz n.keys n.keys.length ≤ 67190784 ∧ tsz n.vals n.vals.length ≤ 67190784 ∧ ksz n.kids n.kids.length ≤ 81920 := by
  have k1 := h.keys
  have k2 := h.vals
  have k3 := h.kids
  have h1 := tsz_le n.keys 8192 (by omega) (fun s hs => by have := h.key s hs; omega) _ (Nat.le_refl _)
  have h2 := tsz_le n.vals 8192 (by omega) (fun s hs => by have := h.val s hs; omega) _ (Nat.le_refl _)
  have h3 := ksz_le n.kids hk _ (Nat.le_refl _)
  omega
theorem pre_le {n : Nd} {m : Nat} (h : Small n m) (hm : m ≤ 8192) (k : Nat) (hk : k ≤ n.keys.length) (hv : n.leaf = true → n.vals.length = n.keys.length) : (pre n k).length ≤ 134381568 := by
  have k1 := h.keys
  have h1 := tsz_le n.keys 8192 (by omega) (fun s hs => by have := h.key s hs; omega) k hk
  rw [pre_len]
  cases hl : n.leaf
  · simp
    omega
  · have h2 := tsz_le n.vals 8192 (by omega) (fun s hs => by have := h.val s hs; omega) k (by rw [hv hl]; exact hk)
    simp
    omega
theorem head_lt {n : Nd} {m : Nat} (h : Small n m) (hm : m ≤ 8192) : head n ≤ 16385 := by
  have := h.keys
  unfold head
  split <;> omega

end Go.Proofs.Ytjilkpgbojjnfaa.Cd
