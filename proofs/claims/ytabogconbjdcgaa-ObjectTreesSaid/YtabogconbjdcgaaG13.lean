/-
  What the document reads of a tree's bytes: no Go in sight. Conditions: none.
-/
import Derived.Test.YtabogconbjdcgaaG7
namespace Go.Proofs.Ytabogconbjdcgaa.Cd

/-! ### Kids, as the document's own rounds read them -/

def nxQ (s : StK) : StK := ⟨s.l ++ [(txV 16 s.bs, fnV (txB 16 s.bs))], fnB (txB 16 s.bs), fnX (txB 16 s.bs)⟩
def atQ (s : StK) : Nat → StK
  | 0 => s
  | k + 1 => nxQ (atQ s k)
theorem sane_atQ {s : StK} (h : Sane s.bad s.bs) (k : Nat) : Sane (atQ s k).bad (atQ s k).bs := by
  cases k with
  | zero => exact h
  | succ k => exact sane_fn _
theorem len_atQ (s : StK) (k : Nat) : (atQ s k).l.length = s.l.length + k ∧ (atQ s k).bs.length ≤ s.bs.length := by
  induction k with
  | zero => exact ⟨rfl, Nat.le_refl _⟩
  | succ k ih =>
    refine ⟨?_, Nat.le_trans (Nat.le_trans (fn_len _) (txB_len _ _)) ih.2⟩
    rw [atQ, nxQ]
    simp only [List.length_append, List.length_singleton, ih.1]
    omega
theorem bad_nxQ {s : StK} (hs : Sane s.bad s.bs) (h : s.bad = true) : (nxQ s).bad = true := by
  show fnX (txB 16 s.bs) = true
  rw [hs h, txB_nil]
  exact fn_nil
theorem bad_atQ {s : StK} (hs : Sane s.bad s.bs) {j k : Nat} (h : (atQ s j).bad = true) (hk : j ≤ k) : (atQ s k).bad = true := by
  induction k with
  | zero => obtain rfl : j = 0 := by omega
            exact h
  | succ k ih =>
    by_cases e : j = k + 1
    · subst e; exact h
    · exact bad_nxQ (sane_atQ hs k) (ih (by omega))
theorem back_atQ (ks : List Kd) (hk : ∀ p ∈ ks, p.1.length ≤ 16) (hv : ∀ p ∈ ks, goodI p.2.1 = true) (t : List UInt8) (l : List Kd) : atQ ⟨l, ksB ks ++ t, false⟩ ks.length = ⟨l ++ ks, t, false⟩ := by
  induction ks using snoc_ind generalizing t with
  | nil => simp [atQ, ksB]
  | snoc r p ih =>
    have h1 := ih (fun q hq => hk q (by simp [hq])) (fun q hq => hv q (by simp [hq])) (txt p.1 ++ (textI p.2.1 ++ t))
    have hk1 := hk p (by simp)
    obtain ⟨g1, g2, g3⟩ := fn_text (hv p (by simp)) t
    have e : ksB (r ++ [p]) ++ t = ksB r ++ (txt p.1 ++ (textI p.2.1 ++ t)) := by rw [ksB_snoc]; simp only [List.append_assoc]
    rw [e, List.length_append, List.length_singleton, atQ, h1]
    unfold nxQ
    simp only
    rw [txmV _ _ (by omega) (by omega), txmB _ _ (by omega) (by omega), g1, g2, g3]
    simp

/-! ### What the document's Get answers -/

theorem fT_short {b : List UInt8} (h : b.length < 2) : GetsT b none := getT_none fun t ht e => by
  rcases ht with ⟨h3, h4⟩ | ⟨h3, h4⟩
  · rw [treeB_ps h3] at e
    rw [← e] at h
    simp only [List.length_cons] at h
    omega
  · rw [treeB_ks h4] at e
    rw [← e] at h
    simp only [List.length_cons] at h
    omega
theorem fT_kind {c0 n : UInt8} {r : List UInt8} (h1 : c0 ≠ 1) (h2 : c0 ≠ 2) : GetsT (c0 :: n :: r) none := getT_none fun t ht e => by
  rcases ht with ⟨h3, h4⟩ | ⟨h3, h4⟩
  · rw [treeB_ps h3] at e
    injection e with e
    exact h1 e.symm
  · rw [treeB_ks h4] at e
    injection e with e
    exact h2 e.symm
/-- The rounds end where all are read, or where something was wrong. -/
theorem fT_nops {n : UInt8} {r : List UInt8} {k : Nat} (hk : k ≤ n.toNat) (hend : k = n.toNat ∨ (atP ⟨[], r, false⟩ k).bad = true)
    (hn : ¬ ((atP ⟨[], r, false⟩ k).bad = false ∧ (atP ⟨[], r, false⟩ k).bs = [] ∧ GoodT ⟨(atP ⟨[], r, false⟩ k).l, []⟩ ∧ treeB ⟨(atP ⟨[], r, false⟩ k).l, []⟩ = 1 :: n :: r)) : GetsT (1 :: n :: r) none := getT_none fun t ht e => by
  have ht0 := ht
  have e0 := e
  rcases ht with ⟨h3, h4⟩ | ⟨h3, h4⟩
  · rw [treeB_ps h3] at e
    injection e with _ e
    injection e with e1 e2
    have hf := h4.few
    have hl : n.toNat = t.ps.length := by rw [← e1, ofNat_small (by omega)]
    have hb := back_atP t.ps h4.key h4.val [] []
    rw [List.append_nil, e2, ← hl] at hb
    have hk2 : k = n.toNat := by
      rcases hend with h | h
      · exact h
      · have := bad_atP (s := ⟨[], r, false⟩) (fun h => by cases h) h hk
        rw [hb] at this
        cases this
    rw [hk2, hb] at hn
    have et : (⟨[] ++ t.ps, []⟩ : Tre) = t := by
      obtain ⟨a, b⟩ := t
      simp only at h3
      rw [h3]
      rfl
    simp only [et] at hn
    exact hn ⟨trivial, trivial, ht0, e0⟩
  · rw [treeB_ks h4] at e
    injection e with e
    cases e
theorem fT_noks {n : UInt8} {r : List UInt8} {k : Nat} (hk : k ≤ n.toNat) (hend : k = n.toNat ∨ (atQ ⟨[], r, false⟩ k).bad = true)
    (hn : ¬ ((atQ ⟨[], r, false⟩ k).bad = false ∧ (atQ ⟨[], r, false⟩ k).bs = [] ∧ GoodT ⟨[], (atQ ⟨[], r, false⟩ k).l⟩ ∧ treeB ⟨[], (atQ ⟨[], r, false⟩ k).l⟩ = 2 :: n :: r)) : GetsT (2 :: n :: r) none := getT_none fun t ht e => by
  have ht0 := ht
  have e0 := e
  rcases ht with ⟨h3, h4⟩ | ⟨h3, h4⟩
  · rw [treeB_ps h3] at e
    injection e with e
    cases e
  · rw [treeB_ks h4] at e
    injection e with _ e
    injection e with e1 e2
    have hf := h4.few
    have hl : n.toNat = t.ks.length := by rw [← e1, ofNat_small (by omega)]
    have hb := back_atQ t.ks h4.key h4.name [] []
    rw [List.append_nil, e2, ← hl] at hb
    have hk2 : k = n.toNat := by
      rcases hend with h | h
      · exact h
      · have := bad_atQ (s := ⟨[], r, false⟩) (fun h => by cases h) h hk
        rw [hb] at this
        cases this
    rw [hk2, hb] at hn
    have et : (⟨[], [] ++ t.ks⟩ : Tre) = t := by
      obtain ⟨a, b⟩ := t
      simp only at h3
      rw [h3]
      rfl
    simp only [et] at hn
    exact hn ⟨trivial, trivial, ht0, e0⟩

end Go.Proofs.Ytabogconbjdcgaa.Cd
