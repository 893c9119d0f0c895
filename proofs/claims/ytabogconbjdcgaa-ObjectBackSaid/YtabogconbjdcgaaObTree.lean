/-
  Trees and commits: what can be, their bytes, what is read from bytes: no Go in sight. Conditions: none.
-/
import Derived.Test.YtabogconbjdcgaaObMath
namespace Go.Proofs.Ytabogconbjdcgaa.Cd

theorem snoc_ind {α : Type} {motive : List α → Prop} (nil : motive []) (snoc : ∀ r p, motive r → motive (r ++ [p])) (l : List α) : motive l := by
  have h : ∀ n (l : List α), l.length = n → motive l := by
    intro n
    induction n with
    | zero => intro l hl; rw [List.eq_nil_of_length_eq_zero hl]; exact nil
    | succ n ih =>
      intro l hl
      have hne : l ≠ [] := fun e => by rw [e] at hl; cases hl
      rw [← List.dropLast_concat_getLast hne]
      exact snoc _ _ (ih _ (by rw [List.length_dropLast, hl]; rfl))
  exact h _ l rfl

abbrev Bp := List UInt8 × List UInt8
abbrev Kd := List UInt8 × Idn

def Rises (ks : List (List UInt8)) : Prop := ∀ (j : Nat) a b, ks[j]? = some a → ks[j + 1]? = some b → a < b

structure GoodPs (ps : List Bp) : Prop where
  few : ps.length ≤ 4
  key : ∀ p ∈ ps, p.1.length ≤ 16
  val : ∀ p ∈ ps, p.2.length ≤ 16
  rise : Rises (ps.map (·.1))
structure GoodKs (ks : List Kd) : Prop where
  more : 2 ≤ ks.length
  few : ks.length ≤ 3
  key : ∀ p ∈ ks, p.1.length ≤ 16
  name : ∀ p ∈ ks, goodI p.2.1 = true
  kind : ∀ p ∈ ks, ∀ q, ks[0]? = some q → kd p.2 = kd q.2
  rise : Rises (ks.map (·.1))
structure GoodIs (r : UInt8) (is : List Idn) : Prop where
  few : is.length ≤ 2
  name : ∀ p ∈ is, goodI p.1 = true
  kind : ∀ p ∈ is, kd p = r
  two : ∀ a b, is[0]? = some a → is[1]? = some b → a ≠ b

structure Tre where
  ps : List Bp
  ks : List Kd
structure Cmt where
  root : Idn
  is : List Idn
  note : List UInt8
  num : Int

def GoodT (t : Tre) : Prop := (t.ks = [] ∧ GoodPs t.ps) ∨ (t.ps = [] ∧ GoodKs t.ks)
structure GoodC (c : Cmt) : Prop where
  root : goodI c.root.1 = true
  is : GoodIs (kd c.root) c.is
  note : c.note.length ≤ 32
  low : 1 ≤ c.num
  high : c.num ≤ 1024

def psB (ps : List Bp) : List UInt8 := (ps.map fun p => txt p.1 ++ txt p.2).flatten
def ksB (ks : List Kd) : List UInt8 := (ks.map fun p => txt p.1 ++ textI p.2.1).flatten
def isB (is : List Idn) : List UInt8 := (is.map fun p => textI p.1).flatten
theorem psB_snoc (ps : List Bp) (p : Bp) : psB (ps ++ [p]) = psB ps ++ (txt p.1 ++ txt p.2) := by simp [psB]
theorem ksB_snoc (ks : List Kd) (p : Kd) : ksB (ks ++ [p]) = ksB ks ++ (txt p.1 ++ textI p.2.1) := by simp [ksB]
theorem isB_snoc (is : List Idn) (p : Idn) : isB (is ++ [p]) = isB is ++ textI p.1 := by simp [isB]

def treeB (t : Tre) : List UInt8 := if t.ks = [] then 1 :: UInt8.ofNat t.ps.length :: psB t.ps else 2 :: UInt8.ofNat t.ks.length :: ksB t.ks
def comB (c : Cmt) : List UInt8 := 3 :: UInt8.ofNat c.is.length :: (textI c.root.1 ++ (isB c.is ++ (txt c.note ++ enc (zig c.num))))

/-! ### The program's rounds: pairs -/

structure StP where
  l : List Bp
  bs : List UInt8
  bad : Bool
def nxP (s : StP) : StP := ⟨s.l ++ [(txV 16 s.bs, txV 16 (txB 16 s.bs))], txB 16 (txB 16 s.bs), txX 16 (txB 16 s.bs)⟩
def atP (s : StP) : Nat → StP
  | 0 => s
  | k + 1 => nxP (atP s k)
theorem sane_atP {s : StP} (h : Sane s.bad s.bs) (k : Nat) : Sane (atP s k).bad (atP s k).bs := by
  cases k with
  | zero => exact h
  | succ k => exact Sane.tx _ _
theorem len_atP (s : StP) (k : Nat) : (atP s k).l.length = s.l.length + k ∧ (atP s k).bs.length ≤ s.bs.length := by
  induction k with
  | zero => exact ⟨rfl, Nat.le_refl _⟩
  | succ k ih =>
    refine ⟨?_, Nat.le_trans (Nat.le_trans (txB_len _ _) (txB_len _ _)) ih.2⟩
    rw [atP, nxP]
    simp only [List.length_append, List.length_singleton, ih.1]
    omega
theorem bad_nxP {s : StP} (hs : Sane s.bad s.bs) (h : s.bad = true) : (nxP s).bad = true := by
  have := hs h
  unfold nxP
  rw [this]
  simp [txB_nil, txX_nil]
theorem bad_atP {s : StP} (hs : Sane s.bad s.bs) {j k : Nat} (h : (atP s j).bad = true) (hk : j ≤ k) : (atP s k).bad = true := by
  induction k with
  | zero => obtain rfl : j = 0 := by omega
            exact h
  | succ k ih =>
    by_cases e : j = k + 1
    · subst e; exact h
    · exact bad_nxP (sane_atP hs k) (ih (by omega))
/-- What is read is as it is written. -/
theorem one_atP {s : StP} (hs : Sane s.bad s.bs) (hl : s.l = []) (k : Nat) (h : (atP s k).bad = false) : s.bs = psB (atP s k).l ++ (atP s k).bs := by
  induction k with
  | zero => rw [atP, hl]; rfl
  | succ k ih =>
    have hb : (atP s k).bad = false := by
      cases hx : (atP s k).bad
      · rfl
      · rw [bad_atP hs hx (Nat.le_succ k)] at h; cases h
    rw [ih hb]
    rw [atP] at h ⊢
    generalize atP s k = q at *
    unfold nxP at h ⊢
    simp only at h ⊢
    rw [psB_snoc]
    have e1 := txt_one (txX_next h)
    have e2 := txt_one h
    rw [List.append_assoc, List.append_assoc, e2, e1]
/-- What is written is read. -/
theorem back_atP (ps : List Bp) (hk : ∀ p ∈ ps, p.1.length ≤ 16) (hv : ∀ p ∈ ps, p.2.length ≤ 16) (t : List UInt8) (l : List Bp) : atP ⟨l, psB ps ++ t, false⟩ ps.length = ⟨l ++ ps, t, false⟩ := by
  induction ps using snoc_ind generalizing t with
  | nil => simp [atP, psB]
  | snoc r p ih =>
    have h1 := ih (fun q hq => hk q (by simp [hq])) (fun q hq => hv q (by simp [hq])) (txt p.1 ++ (txt p.2 ++ t))
    have hk1 := hk p (by simp)
    have hv1 := hv p (by simp)
    have e : psB (r ++ [p]) ++ t = psB r ++ (txt p.1 ++ (txt p.2 ++ t)) := by rw [psB_snoc]; simp only [List.append_assoc]
    rw [e, List.length_append, List.length_singleton, atP, h1]
    unfold nxP
    simp only
    rw [txmV _ _ (by omega) (by omega), txmB _ _ (by omega) (by omega), txmV _ _ (by omega) (by omega), txmB _ _ (by omega) (by omega), txmX _ _ (by omega) (by omega)]
    simp

/-! ### The program's rounds: kids -/

structure StK where
  l : List Kd
  bs : List UInt8
  bad : Bool
def nxK (s : StK) : StK := ⟨s.l ++ [(txV 16 s.bs, gnV (txX 16 s.bs) (txB 16 s.bs))], gnB (txX 16 s.bs) (txB 16 s.bs), gnX (txX 16 s.bs) (txB 16 s.bs)⟩
def atK (s : StK) : Nat → StK
  | 0 => s
  | k + 1 => nxK (atK s k)
theorem sane_atK {s : StK} (h : Sane s.bad s.bs) (k : Nat) : Sane (atK s k).bad (atK s k).bs := by
  cases k with
  | zero => exact h
  | succ k => exact sane_gn _ _
theorem len_atK (s : StK) (k : Nat) : (atK s k).l.length = s.l.length + k ∧ (atK s k).bs.length ≤ s.bs.length := by
  induction k with
  | zero => exact ⟨rfl, Nat.le_refl _⟩
  | succ k ih =>
    refine ⟨?_, Nat.le_trans (Nat.le_trans (gn_len _ _) (txB_len _ _)) ih.2⟩
    rw [atK, nxK]
    simp only [List.length_append, List.length_singleton, ih.1]
    omega
theorem bad_nxK {s : StK} (hs : Sane s.bad s.bs) (h : s.bad = true) : (nxK s).bad = true := by
  have := hs h
  unfold nxK
  rw [this]
  simp only [txX_nil]
  exact gn_bad _
theorem bad_atK {s : StK} (hs : Sane s.bad s.bs) {j k : Nat} (h : (atK s j).bad = true) (hk : j ≤ k) : (atK s k).bad = true := by
  induction k with
  | zero => obtain rfl : j = 0 := by omega
            exact h
  | succ k ih =>
    by_cases e : j = k + 1
    · subst e; exact h
    · exact bad_nxK (sane_atK hs k) (ih (by omega))
theorem one_atK {s : StK} (hs : Sane s.bad s.bs) (hl : s.l = []) (k : Nat) (h : (atK s k).bad = false) (hg : ∀ p ∈ (atK s k).l, goodI p.2.1 = true) : s.bs = ksB (atK s k).l ++ (atK s k).bs := by
  induction k with
  | zero => rw [atK, hl]; rfl
  | succ k ih =>
    have hb : (atK s k).bad = false := by
      cases hx : (atK s k).bad
      · rfl
      · rw [bad_atK hs hx (Nat.le_succ k)] at h; cases h
    rw [atK] at h hg ⊢
    rw [ih hb (fun p hp => hg p (by unfold nxK; simp [hp]))]
    generalize atK s k = q at *
    unfold nxK at h hg ⊢
    simp only at h hg ⊢
    have hg1 := hg (txV 16 q.bs, gnV (txX 16 q.bs) (txB 16 q.bs)) (by simp)
    obtain ⟨h1, h2⟩ := gn_one h hg1
    rw [ksB_snoc]
    have e1 := txt_one h1
    rw [List.append_assoc, List.append_assoc, ← h2, e1]
theorem back_atK (ks : List Kd) (hk : ∀ p ∈ ks, p.1.length ≤ 16) (hv : ∀ p ∈ ks, goodI p.2.1 = true) (t : List UInt8) (l : List Kd) : atK ⟨l, ksB ks ++ t, false⟩ ks.length = ⟨l ++ ks, t, false⟩ := by
  induction ks using snoc_ind generalizing t with
  | nil => simp [atK, ksB]
  | snoc r p ih =>
    have h1 := ih (fun q hq => hk q (by simp [hq])) (fun q hq => hv q (by simp [hq])) (txt p.1 ++ (textI p.2.1 ++ t))
    have hk1 := hk p (by simp)
    obtain ⟨g1, g2, g3⟩ := gn_text (hv p (by simp)) t
    have e : ksB (r ++ [p]) ++ t = ksB r ++ (txt p.1 ++ (textI p.2.1 ++ t)) := by rw [ksB_snoc]; simp only [List.append_assoc]
    rw [e, List.length_append, List.length_singleton, atK, h1]
    unfold nxK
    simp only
    rw [txmV _ _ (by omega) (by omega), txmB _ _ (by omega) (by omega), txmX _ _ (by omega) (by omega), g1, g2, g3]
    simp

/-! ### The program's rounds: parents -/

structure StI where
  l : List Idn
  bs : List UInt8
  bad : Bool
def nxI (s : StI) : StI := ⟨s.l ++ [gnV s.bad s.bs], gnB s.bad s.bs, gnX s.bad s.bs⟩
def atI (s : StI) : Nat → StI
  | 0 => s
  | k + 1 => nxI (atI s k)
theorem sane_atI {s : StI} (h : Sane s.bad s.bs) (k : Nat) : Sane (atI s k).bad (atI s k).bs := by
  cases k with
  | zero => exact h
  | succ k => exact sane_gn _ _
theorem len_atI (s : StI) (k : Nat) : (atI s k).l.length = s.l.length + k ∧ (atI s k).bs.length ≤ s.bs.length := by
  induction k with
  | zero => exact ⟨rfl, Nat.le_refl _⟩
  | succ k ih =>
    refine ⟨?_, Nat.le_trans (gn_len _ _) ih.2⟩
    rw [atI, nxI]
    simp only [List.length_append, List.length_singleton, ih.1]
    omega
theorem bad_nxI {s : StI} (h : s.bad = true) : (nxI s).bad = true := by
  show gnX s.bad s.bs = true
  rw [h]
  exact gn_bad _
theorem bad_atI {s : StI} {j k : Nat} (h : (atI s j).bad = true) (hk : j ≤ k) : (atI s k).bad = true := by
  induction k with
  | zero => obtain rfl : j = 0 := by omega
            exact h
  | succ k ih =>
    by_cases e : j = k + 1
    · subst e; exact h
    · exact bad_nxI (ih (by omega))
theorem one_atI {s : StI} (hl : s.l = []) (k : Nat) (h : (atI s k).bad = false) (hg : ∀ p ∈ (atI s k).l, goodI p.1 = true) : s.bs = isB (atI s k).l ++ (atI s k).bs := by
  induction k with
  | zero => rw [atI, hl]; rfl
  | succ k ih =>
    have hb : (atI s k).bad = false := by
      cases hx : (atI s k).bad
      · rfl
      · rw [bad_atI hx (Nat.le_succ k)] at h; cases h
    rw [atI] at h hg ⊢
    rw [ih hb (fun p hp => hg p (by unfold nxI; simp [hp]))]
    generalize atI s k = q at *
    unfold nxI at h hg ⊢
    simp only at h hg ⊢
    obtain ⟨_, h2⟩ := gn_one h (hg (gnV q.bad q.bs) (by simp))
    rw [isB_snoc, List.append_assoc, ← h2]
theorem back_atI (is : List Idn) (hv : ∀ p ∈ is, goodI p.1 = true) (t : List UInt8) (l : List Idn) : atI ⟨l, isB is ++ t, false⟩ is.length = ⟨l ++ is, t, false⟩ := by
  induction is using snoc_ind generalizing t with
  | nil => simp [atI, isB]
  | snoc r p ih =>
    have h1 := ih (fun q hq => hv q (by simp [hq])) (textI p.1 ++ t)
    obtain ⟨g1, g2, g3⟩ := gn_text (hv p (by simp)) t
    have e : isB (r ++ [p]) ++ t = isB r ++ (textI p.1 ++ t) := by rw [isB_snoc]; simp only [List.append_assoc]
    rw [e, List.length_append, List.length_singleton, atI, h1]
    unfold nxI
    simp only
    rw [g1, g2, g3]
    simp

end Go.Proofs.Ytabogconbjdcgaa.Cd
