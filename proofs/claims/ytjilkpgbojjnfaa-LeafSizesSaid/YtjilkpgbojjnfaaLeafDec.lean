/-
  What bytes begin with a node: there and back, and one way alone: no Go in sight. Conditions: none.
-/
import Derived.Test.YtjilkpgbojjnfaaLeafMath
namespace Go.Proofs.Ytjilkpgbojjnfaa.Cd

section
variable {most : Int} (t : List UInt8)
theorem txm (s : List UInt8) (hs : s.length < 18446744073709551616) (hm : (s.length : Int) ≤ most) : ¬ TxBad most (txt s ++ t) := by
  unfold TxBad txt
  rw [List.append_assoc, nv_enc hs, ns_enc hs, List.drop_left, List.length_append]
  rintro (h | h | h | h)
  · exact enc_good hs _ h
  · omega
  · omega
  · omega
theorem txmV (s : List UInt8) (hs : s.length < 18446744073709551616) (hm : (s.length : Int) ≤ most) : txV most (txt s ++ t) = s := by
  unfold txV; rw [if_neg (txm t s hs hm)]; unfold txt; rw [List.append_assoc, nv_enc hs, ns_enc hs, List.drop_left, List.take_left]
theorem txmB (s : List UInt8) (hs : s.length < 18446744073709551616) (hm : (s.length : Int) ≤ most) : txB most (txt s ++ t) = t := by
  unfold txB; rw [if_neg (txm t s hs hm)]; unfold txt; rw [List.append_assoc, nv_enc hs, ns_enc hs, List.drop_left, List.drop_left]
theorem txmX (s : List UInt8) (hs : s.length < 18446744073709551616) (hm : (s.length : Int) ≤ most) : txX most (txt s ++ t) = false := decide_eq_false (txm t s hs hm)
end

/-- A reader's state, and the node so far. -/
structure St where
  n : Nd
  bs : List UInt8
  bad : Bool

def stK (s : St) : St :=
  if s.n.leaf then ⟨⟨true, s.n.keys ++ [txV 48 s.bs], s.n.vals ++ [txV 160 (txB 48 s.bs)], s.n.kids⟩, txB 160 (txB 48 s.bs), txX 160 (txB 48 s.bs)⟩
  else ⟨⟨false, s.n.keys ++ [txV 48 s.bs], s.n.vals, s.n.kids⟩, txB 48 s.bs, txX 48 s.bs⟩
def itK (s : St) : Nat → St
  | 0 => s
  | k + 1 => stK (itK s k)
def stP (s : St) : St := ⟨⟨s.n.leaf, s.n.keys, s.n.vals, s.n.kids ++ [((min (nv s.bs) 4096 : Nat) : Int)]⟩, uB s.bs, uX s.bs⟩
def itP (s : St) : Nat → St
  | 0 => s
  | k + 1 => stP (itP s k)

def dec0 (b : List UInt8) : St := ⟨⟨decide (nv b % 2 = 1), [], [], []⟩, uB b, uX b⟩
def dec1 (b : List UInt8) : St := itK (dec0 b) (nv b / 2)
def dec2 (b : List UInt8) : St := if nv b % 2 = 1 then dec1 b else itP (dec1 b) (nv b / 2 + 1)
def dec (b : List UInt8) : Option Nd := if 512 < nv b / 2 then none else if (dec2 b).bad = true ∨ good (dec2 b).n = false then none else some (dec2 b).n

/-! ### Where there was a fault there is one -/

theorem txX_nil (most : Int) : txX most [] = true := decide_eq_true (.inl bad_nil)
theorem txB_nil (most : Int) : txB most [] = [] := if_pos (.inl bad_nil)
theorem uX_nil : uX [] = true := decide_eq_true bad_nil

theorem sane_stK (s : St) : Sane (stK s).bad (stK s).bs := by
  unfold stK
  split
  · exact Sane.tx _ _
  · exact Sane.tx _ _
theorem sane_itK {s : St} (h : Sane s.bad s.bs) (k : Nat) : Sane (itK s k).bad (itK s k).bs := by
  cases k with
  | zero => exact h
  | succ k => exact sane_stK _
theorem sane_stP (s : St) : Sane (stP s).bad (stP s).bs := Sane.u _
theorem sane_itP {s : St} (h : Sane s.bad s.bs) (k : Nat) : Sane (itP s k).bad (itP s k).bs := by
  cases k with
  | zero => exact h
  | succ k => exact sane_stP _
theorem bad_stK {s : St} (hs : Sane s.bad s.bs) (h : s.bad = true) : (stK s).bad = true := by
  have := hs h
  unfold stK
  rw [this]
  split
  · simp [txB_nil, txX_nil]
  · simp [txX_nil]
theorem bad_itK {s : St} (hs : Sane s.bad s.bs) {j k : Nat} (h : (itK s j).bad = true) (hk : j ≤ k) : (itK s k).bad = true := by
  induction k with
  | zero => obtain rfl : j = 0 := by omega
            exact h
  | succ k ih =>
    by_cases e : j = k + 1
    · subst e; exact h
    · exact bad_stK (sane_itK hs k) (ih (by omega))
theorem bad_stP {s : St} (hs : Sane s.bad s.bs) (h : s.bad = true) : (stP s).bad = true := by
  have := hs h
  unfold stP
  rw [this]
  exact uX_nil
theorem bad_itP {s : St} (hs : Sane s.bad s.bs) {j k : Nat} (h : (itP s j).bad = true) (hk : j ≤ k) : (itP s k).bad = true := by
  induction k with
  | zero => obtain rfl : j = 0 := by omega
            exact h
  | succ k ih =>
    by_cases e : j = k + 1
    · subst e; exact h
    · exact bad_stP (sane_itP hs k) (ih (by omega))

/-! ### The shape of what was read -/

theorem stK_leaf (s : St) : (stK s).n.leaf = s.n.leaf := by unfold stK; split <;> simp_all
theorem itK_leaf (s : St) (k : Nat) : (itK s k).n.leaf = s.n.leaf := by
  induction k with
  | zero => rfl
  | succ k ih => rw [itK, stK_leaf, ih]
theorem itP_leaf (s : St) (k : Nat) : (itP s k).n.leaf = s.n.leaf := by
  induction k with
  | zero => rfl
  | succ k ih => exact ih
theorem itP_keys (s : St) (k : Nat) : (itP s k).n.keys = s.n.keys ∧ (itP s k).n.vals = s.n.vals := by
  induction k with
  | zero => exact ⟨rfl, rfl⟩
  | succ k ih => exact ih
theorem itK_kids (s : St) (k : Nat) : (itK s k).n.kids = s.n.kids := by
  induction k with
  | zero => rfl
  | succ k ih => rw [itK, stK]; split <;> exact ih
theorem itK_lens (s : St) (k : Nat) : (itK s k).n.keys.length = s.n.keys.length + k ∧ (itK s k).n.vals.length = s.n.vals.length + (if s.n.leaf then k else 0) := by
  induction k with
  | zero => simp [itK]
  | succ k ih =>
    have hl := itK_leaf s k
    rw [itK, stK]
    split
    · rename_i h
      rw [hl] at h
      simp only [List.length_append, List.length_singleton, ih.1, ih.2, h, if_true]
      omega
    · rename_i h
      rw [hl] at h
      simp only [List.length_append, List.length_singleton, ih.1, ih.2]
      simp [h]
      omega
theorem itP_kids (s : St) (k : Nat) : (itP s k).n.kids.length = s.n.kids.length + k := by
  induction k with
  | zero => rfl
  | succ k ih => rw [itP, stP]; simp only [List.length_append, List.length_singleton, ih]; omega
/-- What was read stays. -/
theorem itP_pre (s : St) {j k : Nat} (h : j ≤ k) : ∃ r, (itP s k).n.kids = (itP s j).n.kids ++ r := by
  induction k with
  | zero => obtain rfl : j = 0 := by omega
            exact ⟨[], by simp⟩
  | succ k ih =>
    by_cases e : j = k + 1
    · subst e; exact ⟨[], by simp⟩
    · obtain ⟨r, hr⟩ := ih (by omega)
      exact ⟨r ++ [((min (nv (itP s k).bs) 4096 : Nat) : Int)], by rw [itP, stP]; simp only [hr, List.append_assoc]⟩

/-- Where a kid's number is too great, nothing that can be is read. -/
theorem far_kid (s : St) {j k : Nat} (h : j < k) (hb : 4095 < nv (itP s j).bs) : good (itP s k).n = false := by
  rw [Bool.eq_false_iff]
  intro hg
  obtain ⟨r, hr⟩ := itP_pre s (show j + 1 ≤ k by omega)
  have := ((good_iff _).1 hg).kids ((min (nv (itP s j).bs) 4096 : Nat) : Int) (by rw [hr, itP, stP]; simp)
  omega

/-! ### There and back -/

theorem getD_at {α : Type} (l : List α) (d : α) {k : Nat} (h : k < l.length) : l.getD k d = l[k] := by
  rw [List.getD_eq_getElem?_getD, List.getElem?_eq_getElem h, Option.getD_some]

def upto (n : Nd) (k : Nat) : Nd := ⟨n.leaf, n.keys.take k, (if n.leaf then n.vals.take k else []), []⟩

theorem back_keys {n : Nd} (h : Good n) (b : List UInt8) (k : Nat) (hk : k ≤ n.keys.length) (t : List UInt8) (hb : b = pre n k ++ t) :
    itK ⟨⟨n.leaf, [], [], []⟩, b, false⟩ k = ⟨upto n k, t, false⟩ := by
  induction k generalizing t with
  | zero => rw [hb]; unfold upto; cases n.leaf <;> rfl
  | succ k ih =>
    have h1 := ih (by omega) (ent n k ++ t) (by rw [hb, pre, List.append_assoc])
    have hk1 : n.keys.getD k [] = n.keys[k] := getD_at _ _ (by omega)
    have hkl := h.keys _ (List.getElem_mem (show k < n.keys.length by omega))
    rw [itK, h1]
    unfold stK upto
    cases hl : n.leaf
    · have e : ent n k ++ t = txt n.keys[k] ++ t := by unfold ent; rw [hl, hk1]; simp
      simp only [Bool.false_eq_true, if_false]
      rw [e, txmV _ _ (by omega) (by omega), txmB _ _ (by omega) (by omega), txmX _ _ (by omega) (by omega), List.take_succ_eq_append_getElem (by omega)]
    · have hv := (h.leaf hl).1
      have hv1 : n.vals.getD k [] = n.vals[k] := getD_at _ _ (by omega)
      have hvl := h.vals _ (List.getElem_mem (show k < n.vals.length by omega))
      have e : ent n k ++ t = txt n.keys[k] ++ (txt n.vals[k] ++ t) := by unfold ent; rw [hl, hk1, hv1]; simp
      simp only [if_true]
      rw [e, txmV _ _ (by omega) (by omega), txmB _ _ (by omega) (by omega), txmV _ _ (by omega) (by omega), txmB _ _ (by omega) (by omega), txmX _ _ (by omega) (by omega), List.take_succ_eq_append_getElem (by omega), List.take_succ_eq_append_getElem (by omega)]

theorem back_kids {n m : Nd} (h : Good n) (hm : m.kids = []) (b : List UInt8) (k : Nat) (hk : k ≤ n.kids.length) (t : List UInt8) (hb : b = kidB n.kids k ++ t) :
    itP ⟨m, b, false⟩ k = ⟨⟨m.leaf, m.keys, m.vals, n.kids.take k⟩, t, false⟩ := by
  induction k generalizing t with
  | zero => rw [hb, itP]; cases m; simp_all [kidB]
  | succ k ih =>
    have h1 := ih (by omega) (enc (n.kids.getD k 0).toNat ++ t) (by rw [hb, kidB, List.append_assoc])
    have hk1 : n.kids.getD k 0 = n.kids[k] := getD_at _ _ (by omega)
    have hkl := h.kids _ (List.getElem_mem (show k < n.kids.length by omega))
    rw [itP, h1]
    unfold stP
    have hu : n.kids[k].toNat < 18446744073709551616 := by omega
    simp only [hk1]
    rw [nv_enc hu, uB_enc hu, uX_enc hu, List.take_succ_eq_append_getElem (by omega)]
    congr 4
    omega

theorem dec_enc {n : Nd} (h : Good n) (hk : n.keys.length ≤ 512) (t : List UInt8) : dec (encN n ++ t) = some n := by
  have hh : head n < 18446744073709551616 := by unfold head; split <;> omega
  have e : encN n ++ t = enc (head n) ++ (pre n n.keys.length ++ (kidB n.kids n.kids.length ++ t)) := by unfold encN; simp only [List.append_assoc]
  have hd : head n / 2 = n.keys.length := by unfold head; split <;> omega
  have h1 : dec1 (encN n ++ t) = ⟨upto n n.keys.length, kidB n.kids n.kids.length ++ t, false⟩ := by
    unfold dec1 dec0
    rw [e, nv_enc hh, uB_enc hh, uX_enc hh, hd]
    have hl : decide (head n % 2 = 1) = n.leaf := by unfold head; cases n.leaf <;> simp <;> omega
    rw [hl]
    exact back_keys h _ _ (Nat.le_refl _) _ rfl
  have h2 : dec2 (encN n ++ t) = ⟨n, t, false⟩ := by
    unfold dec2
    rw [h1, e, nv_enc hh, hd]
    cases hl : n.leaf
    · have hi := h.inner hl
      rw [if_neg (by unfold head; rw [hl]; simp), ← hi.1, back_kids h rfl _ _ (Nat.le_refl _) _ rfl]
      unfold upto
      simp only [hl, List.take_length]
      obtain ⟨a, b, c, d⟩ := n
      simp_all
    · have hi := h.leaf hl
      rw [if_pos (by unfold head; rw [hl]; simp only [if_true]; omega), hi.2]
      unfold upto
      obtain ⟨a, b, c, d⟩ := n
      simp_all [kidB]
      rw [← hi.1, List.take_length]
  unfold dec
  rw [h2]
  have hn : nv (encN n ++ t) = head n := by rw [e, nv_enc hh]
  rw [hn, hd, if_neg (by omega), if_neg]
  rintro (h3 | h3)
  · cases h3
  · rw [(good_iff n).2 h] at h3
    cases h3

/-! ### One way alone -/

theorem pre_same {n m : Nd} (k : Nat) (h : ∀ j, j < k → ent n j = ent m j) : pre n k = pre m k := by
  induction k with
  | zero => rfl
  | succ k ih => rw [pre, pre, ih (fun j hj => h j (by omega)), h k (by omega)]
theorem kidB_same {l m : List Int} (k : Nat) (h : ∀ j, j < k → l.getD j 0 = m.getD j 0) : kidB l k = kidB m k := by
  induction k with
  | zero => rfl
  | succ k ih => rw [kidB, kidB, ih (fun j hj => h j (by omega)), h k (by omega)]

theorem getD_snoc {α : Type} (l : List α) (x d : α) {j : Nat} (h : j < l.length) : (l ++ [x]).getD j d = l.getD j d := by
  rw [List.getD_eq_getElem?_getD, List.getD_eq_getElem?_getD, List.getElem?_append_left h]
theorem getD_last {α : Type} (l : List α) (x d : α) : (l ++ [x]).getD l.length d = x := by
  rw [List.getD_eq_getElem?_getD]; simp

theorem txt_one {most : Int} {bs : List UInt8} (h : txX most bs = false) : txt (txV most bs) ++ txB most bs = bs := one_tx h

theorem txX_next {m1 m2 : Int} {bs : List UInt8} (h : txX m2 (txB m1 bs) = false) : txX m1 bs = false := by
  cases hx : txX m1 bs
  · rfl
  · rw [Sane.tx m1 bs hx, txX_nil] at h
    cases h

theorem one_keys (s : St) (hn : s.n.keys = [] ∧ s.n.vals = []) (k : Nat) (h : (itK s k).bad = false) (hs : Sane s.bad s.bs) : s.bs = pre (itK s k).n k ++ (itK s k).bs := by
  induction k with
  | zero => rfl
  | succ k ih =>
    have hb : (itK s k).bad = false := by
      cases hx : (itK s k).bad
      · rfl
      · rw [bad_itK hs hx (Nat.le_succ k)] at h; cases h
    have h1 := ih hb
    have hlen := itK_lens s k
    rw [hn.1, hn.2] at hlen
    simp only [List.length_nil, Nat.zero_add] at hlen
    have hlf := itK_leaf s k
    rw [itK] at h ⊢
    generalize itK s k = q at *
    rw [h1]
    unfold stK at h ⊢
    cases hl : q.n.leaf
    · rw [hl] at h
      simp only [Bool.false_eq_true, if_false] at h ⊢
      rw [pre]
      have e1 : pre ⟨false, q.n.keys ++ [txV 48 q.bs], q.n.vals, q.n.kids⟩ k = pre q.n k := pre_same k fun j hj => by
        unfold ent
        simp only [hl]
        rw [getD_snoc _ _ _ (by omega)]
      have e2 : ent ⟨false, q.n.keys ++ [txV 48 q.bs], q.n.vals, q.n.kids⟩ k = txt (txV 48 q.bs) := by
        unfold ent
        have := getD_last q.n.keys (txV 48 q.bs) []
        rw [hlen.1] at this
        simp only [this]
        simp
      rw [e1, e2, List.append_assoc, txt_one h]
    · rw [hl] at h
      simp only [if_true] at h ⊢
      have hvl : q.n.vals.length = k := by rw [hlen.2, ← hlf, hl]; rfl
      rw [pre]
      have e1 : pre ⟨true, q.n.keys ++ [txV 48 q.bs], q.n.vals ++ [txV 160 (txB 48 q.bs)], q.n.kids⟩ k = pre q.n k := pre_same k fun j hj => by
        unfold ent
        simp only [hl]
        rw [getD_snoc _ _ _ (by omega), getD_snoc _ _ _ (by omega)]
      have e2 : ent ⟨true, q.n.keys ++ [txV 48 q.bs], q.n.vals ++ [txV 160 (txB 48 q.bs)], q.n.kids⟩ k = txt (txV 48 q.bs) ++ txt (txV 160 (txB 48 q.bs)) := by
        unfold ent
        have t1 := getD_last q.n.keys (txV 48 q.bs) []
        have t2 := getD_last q.n.vals (txV 160 (txB 48 q.bs)) []
        rw [hlen.1] at t1
        rw [hvl] at t2
        simp only [t1, t2]
        simp
      rw [e1, e2, List.append_assoc, List.append_assoc, txt_one h, txt_one (txX_next h)]

theorem one_kids (s : St) (hn : s.n.kids = []) (k : Nat) (h : (itP s k).bad = false) (hs : Sane s.bad s.bs) (hp : ∀ p ∈ (itP s k).n.kids, p ≤ 4095) : s.bs = kidB (itP s k).n.kids k ++ (itP s k).bs := by
  induction k with
  | zero => rfl
  | succ k ih =>
    have hb : (itP s k).bad = false := by
      cases hx : (itP s k).bad
      · rfl
      · rw [bad_itP hs hx (Nat.le_succ k)] at h; cases h
    have hlen := itP_kids s k
    rw [hn] at hlen
    simp only [List.length_nil, Nat.zero_add] at hlen
    rw [itP] at h hp ⊢
    have h1 := ih hb (fun p hm => hp p (by unfold stP; simp [hm]))
    generalize itP s k = q at *
    rw [h1]
    unfold stP at h hp ⊢
    simp only at h hp ⊢
    have hu : uX q.bs = false := h
    have hle := hp ((min (nv q.bs) 4096 : Nat) : Int) (by simp)
    rw [kidB]
    have e1 : kidB (q.n.kids ++ [((min (nv q.bs) 4096 : Nat) : Int)]) k = kidB q.n.kids k := kidB_same k fun j hj => getD_snoc _ _ _ (by omega)
    have e2 := getD_last q.n.kids ((min (nv q.bs) 4096 : Nat) : Int) 0
    rw [hlen] at e2
    have e3 : (((min (nv q.bs) 4096 : Nat) : Int)).toNat = nv q.bs := by omega
    rw [e1, e2, e3, List.append_assoc, one_u hu]

theorem dec_one {b : List UInt8} {n : Nd} (h : dec b = some n) : Good n ∧ n.keys.length ≤ 512 ∧ ∃ t, b = encN n ++ t := by
  unfold dec at h
  split at h
  · cases h
  · rename_i hk
    split at h
    · cases h
    · rename_i hbad
      have hn : (dec2 b).n = n := by injection h
      have hb : (dec2 b).bad = false := by
        cases hx : (dec2 b).bad
        · rfl
        · exact absurd (.inl hx) hbad
      have hg : good n = true := by
        rw [← hn]
        cases hx : good (dec2 b).n
        · exact absurd (.inr hx) hbad
        · rfl
      have hG := (good_iff n).1 hg
      have hs0 : Sane (dec0 b).bad (dec0 b).bs := Sane.u b
      have hs1 : Sane (dec1 b).bad (dec1 b).bs := sane_itK hs0 _
      have hlens := itK_lens (dec0 b) (nv b / 2)
      have hkids := itK_kids (dec0 b) (nv b / 2)
      have hleaf := itK_leaf (dec0 b) (nv b / 2)
      have hb1 : (dec1 b).bad = false := by
        unfold dec2 at hb
        split at hb
        · exact hb
        · cases hx : (dec1 b).bad
          · rfl
          · rw [bad_itP hs1 (j := 0) hx (Nat.zero_le _)] at hb; cases hb
      have hb0 : uX b = false := by
        cases hx : uX b
        · rfl
        · have := bad_itK (s := dec0 b) hs0 (j := 0) (k := nv b / 2) hx (Nat.zero_le _)
          unfold dec1 at hb1
          rw [this] at hb1
          cases hb1
      have h1 := one_keys (dec0 b) ⟨rfl, rfl⟩ (nv b / 2) hb1 hs0
      have h0 := one_u hb0
      have e0 : (dec0 b).bs = uB b := rfl
      have ek : (dec0 b).n.keys.length = 0 := rfl
      rw [ek, Nat.zero_add] at hlens
      rw [e0] at h1
      by_cases hl : nv b % 2 = 1
      · have e2 : dec2 b = dec1 b := by unfold dec2; rw [if_pos hl]
        rw [e2] at hn
        unfold dec1 at hn
        have el : (dec0 b).n.leaf = true := decide_eq_true hl
        rw [el] at hleaf hlens
        rw [hn] at hlens hkids hleaf h1
        have hki : n.kids = [] := hkids
        refine ⟨hG, by rw [hlens.1]; omega, (itK (dec0 b) (nv b / 2)).bs, ?_⟩
        have hhd : head n = nv b := by unfold head; rw [hleaf, hlens.1]; simp; omega
        unfold encN
        rw [hhd, hki, hlens.1]
        simp only [List.length_nil, kidB, List.append_nil, List.append_assoc]
        rw [← h1, h0]
      · have e2 : dec2 b = itP (dec1 b) (nv b / 2 + 1) := by unfold dec2; rw [if_neg hl]
        have el : (dec0 b).n.leaf = false := decide_eq_false hl
        rw [el] at hleaf hlens
        rw [e2] at hn hb
        have hkk := itP_keys (dec1 b) (nv b / 2 + 1)
        have hll := itP_leaf (dec1 b) (nv b / 2 + 1)
        have hkl := itP_kids (dec1 b) (nv b / 2 + 1)
        have hki1 : (dec1 b).n.kids = [] := hkids
        have h2 := one_kids (dec1 b) hki1 (nv b / 2 + 1) hb hs1 (by rw [hn]; exact fun p hp => (hG.kids p hp).2)
        rw [hn] at hkk hll hkl h2
        rw [hki1] at hkl
        simp only [List.length_nil, Nat.zero_add] at hkl
        have hl1 : (dec1 b).n.keys.length = nv b / 2 := hlens.1
        have hlf : n.leaf = false := by rw [hll]; exact hleaf
        have hkn : n.keys.length = nv b / 2 := by rw [hkk.1]; exact hl1
        refine ⟨hG, by rw [hkn]; omega, (itP (dec1 b) (nv b / 2 + 1)).bs, ?_⟩
        have hhd : head n = nv b := by unfold head; rw [hlf, hkn]; simp; omega
        have hpre : pre (dec1 b).n (nv b / 2) = pre n (nv b / 2) := pre_same _ fun j _ => by
          unfold ent
          rw [hkk.1, hkk.2, hll]
        have h1' : uB b = pre (dec1 b).n (nv b / 2) ++ (dec1 b).bs := h1
        unfold encN
        rw [hhd, hkn, hkl]
        simp only [List.append_assoc]
        rw [← h2, ← hpre, ← h1', h0]

/-- Cut, it isn't read. -/
theorem dec_cut {n : Nd} (h : Good n) (hk : n.keys.length ≤ 512) : dec ((encN n).take ((encN n).length - 1)) = none := by
  cases hd : dec ((encN n).take ((encN n).length - 1)) with
  | none => rfl
  | some m =>
    obtain ⟨hm, hmk, t, ht⟩ := dec_one hd
    have h1 : encN n = encN m ++ (t ++ (encN n).drop ((encN n).length - 1)) := by
      rw [← List.append_assoc, ← ht, List.take_append_drop]
    have h2 := dec_enc hm hmk (t ++ (encN n).drop ((encN n).length - 1))
    rw [← h1] at h2
    have h3 := dec_enc h hk []
    rw [List.append_nil] at h3
    rw [h3] at h2
    injection h2 with h2
    subst h2
    have h4 := congrArg List.length ht
    have h5 := enc_pos (head n)
    have h6 : (encN n).length = (enc (head n)).length + (pre n n.keys.length ++ kidB n.kids n.kids.length).length := by rw [encN, List.length_append]
    rw [List.length_take, List.length_append] at h4
    omega

end Go.Proofs.Ytjilkpgbojjnfaa.Cd
