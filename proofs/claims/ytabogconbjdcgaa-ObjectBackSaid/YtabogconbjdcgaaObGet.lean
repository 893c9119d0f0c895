/-
  The tree, and the commit, of bytes: there is at most one. Conditions: none.
-/
import Derived.Test.YtabogconbjdcgaaObTree
namespace Go.Proofs.Ytabogconbjdcgaa.Cd

/-! ### Trees -/

theorem goodKs_ne {ks : List Kd} (h : GoodKs ks) : ks ≠ [] := fun e => by have := h.more; rw [e] at this; simp at this
theorem treeB_ps {t : Tre} (h : t.ks = []) : treeB t = 1 :: UInt8.ofNat t.ps.length :: psB t.ps := if_pos h
theorem treeB_ks {t : Tre} (h : GoodKs t.ks) : treeB t = 2 :: UInt8.ofNat t.ks.length :: ksB t.ks := if_neg (goodKs_ne h)

/-- What the program reads behind the first byte, where that is 1; where that is 2. -/
def rdP (b : List UInt8) : StP := atP ⟨[], gbB (gbX false b) (gbB false b), gbX (gbX false b) (gbB false b)⟩ (gbV (gbX false b) (gbB false b)).toNat
def rdK (b : List UInt8) : StK := atK ⟨[], gbB (gbX false b) (gbB false b), gbX (gbX false b) (gbB false b)⟩ (gbV (gbX false b) (gbB false b)).toNat

theorem two_bytes (c n : UInt8) (r : List UInt8) : gbV false (c :: n :: r) = c ∧ gbV (gbX false (c :: n :: r)) (gbB false (c :: n :: r)) = n ∧ gbB (gbX false (c :: n :: r)) (gbB false (c :: n :: r)) = r ∧ gbX (gbX false (c :: n :: r)) (gbB false (c :: n :: r)) = false := by
  obtain ⟨h1, h2, h3⟩ := gb_cons c (n :: r)
  obtain ⟨h4, h5, h6⟩ := gb_cons n r
  rw [h1, h2, h3, h4, h5, h6]
  exact ⟨rfl, rfl, rfl, rfl⟩
theorem ofNat_small {n : Nat} (h : n < 256) : (UInt8.ofNat n).toNat = n := by rw [UInt8.toNat_ofNat']; omega
theorem ofNat_toNat (c : UInt8) : UInt8.ofNat c.toNat = c := by simp
/-- Where a first byte was read that isn't 0, and the second one, too, these lead. -/
theorem lead {b : List UInt8} (h0 : gbV false b ≠ 0) (h1 : gbX (gbX false b) (gbB false b) = false) : b = gbV false b :: gbV (gbX false b) (gbB false b) :: gbB (gbX false b) (gbB false b) := by
  have hx : gbX false b = false := by
    cases b with
    | nil => exact absurd gb_nil.2.2 h0
    | cons c r => exact (gb_cons c r).2.2
  obtain ⟨_, h2⟩ := gb_one hx
  obtain ⟨_, h3⟩ := gb_one h1
  rw [← h3]
  exact h2

theorem rdP_of {t : Tre} (hk : t.ks = []) (h : GoodPs t.ps) : rdP (treeB t) = ⟨t.ps, [], false⟩ := by
  obtain ⟨_, h1, h2, h3⟩ := two_bytes 1 (UInt8.ofNat t.ps.length) (psB t.ps)
  unfold rdP
  have hf := h.few
  rw [treeB_ps hk, h1, h2, h3, ofNat_small (by omega)]
  have := back_atP t.ps h.key h.val [] []
  rw [List.append_nil] at this
  rw [this]
  rfl
theorem rdK_of {t : Tre} (h : GoodKs t.ks) : rdK (treeB t) = ⟨t.ks, [], false⟩ := by
  obtain ⟨_, h1, h2, h3⟩ := two_bytes 2 (UInt8.ofNat t.ks.length) (ksB t.ks)
  unfold rdK
  have hf := h.few
  rw [treeB_ks h, h1, h2, h3, ofNat_small (by omega)]
  have := back_atK t.ks h.key h.name [] []
  rw [List.append_nil] at this
  rw [this]
  rfl
theorem treeB_inj {s t : Tre} (hs : GoodT s) (ht : GoodT t) (h : treeB s = treeB t) : s = t := by
  obtain ⟨sp, sk⟩ := s
  obtain ⟨tp, tk⟩ := t
  rcases hs with ⟨h1, h2⟩ | ⟨h1, h2⟩
  · rcases ht with ⟨h3, h4⟩ | ⟨h3, h4⟩
    · have e1 := rdP_of h1 h2
      rw [h, rdP_of h3 h4] at e1
      injection e1 with e1
      simp only at h1 h3 e1
      rw [h1, h3, e1]
    · rw [treeB_ps h1, treeB_ks h4] at h
      injection h with h
      cases h
  · rcases ht with ⟨h3, h4⟩ | ⟨h3, h4⟩
    · rw [treeB_ps h3, treeB_ks h2] at h
      injection h with h
      cases h
    · have e1 := rdK_of h2
      rw [h, rdK_of h4] at e1
      injection e1 with e1
      simp only at h1 h3 e1
      rw [h1, h3, e1]

/-- The tree of bytes, if there is one. -/
def GetsT (b : List UInt8) (o : Option Tre) : Prop := ∀ t, o = some t ↔ GoodT t ∧ treeB t = b
theorem getT_some {b : List UInt8} {t : Tre} (h : GoodT t) (e : treeB t = b) : GetsT b (some t) := fun s => by
  constructor
  · intro hs
    injection hs with hs
    subst hs
    exact ⟨h, e⟩
  · rintro ⟨h1, h2⟩
    exact congrArg some (treeB_inj h h1 (e.trans h2.symm))
theorem getT_none {b : List UInt8} (h : ∀ t, GoodT t → treeB t ≠ b) : GetsT b none := fun s => by
  constructor
  · intro hs
    cases hs
  · rintro ⟨h1, h2⟩
    exact absurd h2 (h s h1)
theorem getT_is {b : List UInt8} {t : Tre} (h : GetsT b (some t)) : GoodT t ∧ treeB t = b := (h t).1 rfl
theorem getT_uniq {b : List UInt8} {o p : Option Tre} (h : GetsT b o) (k : GetsT b p) : o = p := by
  cases o with
  | none =>
    cases p with
    | none => rfl
    | some s => exact absurd ((h s).2 ((k s).1 rfl)) (by simp)
  | some t => exact ((k t).2 ((h t).1 rfl)).symm

theorem getT_ps {b : List UInt8} (h1 : gbV false b = 1) (hb : (rdP b).bad = false) (hn : (rdP b).bs = []) (hg : GoodPs (rdP b).l) : GetsT b (some ⟨(rdP b).l, []⟩) := by
  refine getT_some (.inl ⟨rfl, hg⟩) ?_
  have hx : gbX (gbX false b) (gbB false b) = false := by
    cases hx : gbX (gbX false b) (gbB false b)
    · rfl
    · have : (rdP b).bad = true := bad_atP (sane_gb _ _) (j := 0) hx (Nat.zero_le _)
      rw [this] at hb
      cases hb
  have hl := lead (by rw [h1]; decide) hx
  have ho := one_atP (sane_gb _ _) rfl _ hb
  have hlen := (len_atP ⟨[], gbB (gbX false b) (gbB false b), gbX (gbX false b) (gbB false b)⟩ (gbV (gbX false b) (gbB false b)).toNat).1
  rw [treeB_ps rfl]
  unfold rdP at hn ⊢
  rw [hn, List.append_nil] at ho
  simp only [List.length_nil, Nat.zero_add] at ho hlen ⊢
  rw [hlen, ofNat_toNat, ← ho]
  rw [h1] at hl
  exact hl.symm
theorem getT_nops {b : List UInt8} (h1 : gbV false b = 1) (hn : ¬ ((rdP b).bad = false ∧ (rdP b).bs = [] ∧ GoodPs (rdP b).l)) : GetsT b none := by
  refine getT_none fun t ht e => ?_
  rcases ht with ⟨h3, h4⟩ | ⟨h3, h4⟩
  · have := rdP_of h3 h4
    rw [e] at this
    rw [this] at hn
    exact hn ⟨rfl, rfl, h4⟩
  · have := (two_bytes 2 (UInt8.ofNat t.ks.length) (ksB t.ks)).1
    rw [← treeB_ks h4, e, h1] at this
    cases this
theorem getT_ks {b : List UInt8} (h1 : gbV false b = 2) (hb : (rdK b).bad = false) (hn : (rdK b).bs = []) (hg : GoodKs (rdK b).l) : GetsT b (some ⟨[], (rdK b).l⟩) := by
  refine getT_some (.inr ⟨rfl, hg⟩) ?_
  have hx : gbX (gbX false b) (gbB false b) = false := by
    cases hx : gbX (gbX false b) (gbB false b)
    · rfl
    · have : (rdK b).bad = true := bad_atK (sane_gb _ _) (j := 0) hx (Nat.zero_le _)
      rw [this] at hb
      cases hb
  have hl := lead (by rw [h1]; decide) hx
  have ho := one_atK (sane_gb _ _) rfl _ hb hg.name
  have hlen := (len_atK ⟨[], gbB (gbX false b) (gbB false b), gbX (gbX false b) (gbB false b)⟩ (gbV (gbX false b) (gbB false b)).toNat).1
  rw [treeB_ks hg]
  unfold rdK at hn ⊢
  rw [hn, List.append_nil] at ho
  simp only [List.length_nil, Nat.zero_add] at ho hlen ⊢
  rw [hlen, ofNat_toNat, ← ho]
  rw [h1] at hl
  exact hl.symm
theorem getT_noks {b : List UInt8} (h1 : gbV false b = 2) (hn : ¬ ((rdK b).bad = false ∧ (rdK b).bs = [] ∧ GoodKs (rdK b).l)) : GetsT b none := by
  refine getT_none fun t ht e => ?_
  rcases ht with ⟨h3, h4⟩ | ⟨h3, h4⟩
  · have := (two_bytes 1 (UInt8.ofNat t.ps.length) (psB t.ps)).1
    rw [← treeB_ps h3, e, h1] at this
    cases this
  · have := rdK_of h4
    rw [e] at this
    rw [this] at hn
    exact hn ⟨rfl, rfl, h4⟩
theorem getT_else {b : List UInt8} (h1 : gbV false b ≠ 1) (h2 : gbV false b ≠ 2) : GetsT b none := by
  refine getT_none fun t ht e => ?_
  rcases ht with ⟨h3, h4⟩ | ⟨h3, h4⟩
  · have := (two_bytes 1 (UInt8.ofNat t.ps.length) (psB t.ps)).1
    rw [← treeB_ps h3, e] at this
    exact h1 this
  · have := (two_bytes 2 (UInt8.ofNat t.ks.length) (ksB t.ks)).1
    rw [← treeB_ks h4, e] at this
    exact h2 this

/-! ### Commits -/

def rd0 (b : List UInt8) : StI := ⟨[], gnB (gbX (gbX false b) (gbB false b)) (gbB (gbX false b) (gbB false b)), gnX (gbX (gbX false b) (gbB false b)) (gbB (gbX false b) (gbB false b))⟩
def rdR (b : List UInt8) : Idn := gnV (gbX (gbX false b) (gbB false b)) (gbB (gbX false b) (gbB false b))
def rdI (b : List UInt8) : StI := atI (rd0 b) (gbV (gbX false b) (gbB false b)).toNat
def rdN (b : List UInt8) : List UInt8 := txV 32 (rdI b).bs
/-- The commit that the program reads, what is left, whether something was wrong. -/
def rdC (b : List UInt8) : Cmt := ⟨rdR b, (rdI b).l, rdN b, inV 1 1024 (txB 32 (rdI b).bs)⟩
def rdB (b : List UInt8) : List UInt8 := inB 1 1024 (txB 32 (rdI b).bs)
def rdX (b : List UInt8) : Bool := inX 1 1024 (txB 32 (rdI b).bs)

theorem in_some {z : Int} (t : List UInt8) (h0 : 1 ≤ z) (h1 : z ≤ 1024) : inV 1 1024 (enc (zig z) ++ t) = z ∧ inB 1 1024 (enc (zig z) ++ t) = t ∧ inX 1 1024 (enc (zig z) ++ t) = false := by
  have hz : zig z < 18446744073709551616 := zig_lt (by omega) (by omega)
  have hn : ¬ InBad 1 1024 (enc (zig z) ++ t) := by
    unfold InBad
    rw [nv_enc hz, zag_zig]
    rintro (h | h | h)
    · exact enc_good hz _ h
    · omega
    · omega
  unfold inV inB inX
  rw [if_neg hn, if_neg hn, decide_eq_false hn, nv_enc hz, zag_zig, ns_enc hz, List.drop_left]
  exact ⟨rfl, rfl, rfl⟩
theorem inX_nil : inX 1 1024 [] = true := decide_eq_true (.inl bad_nil)

theorem rdC_of {c : Cmt} (h : GoodC c) : rdC (comB c) = c ∧ rdB (comB c) = [] ∧ rdX (comB c) = false := by
  obtain ⟨r, is, note, num⟩ := c
  have hr := h.root
  have hi := h.is
  have hn := h.note
  have h0 := h.low
  have h1 := h.high
  simp only at hr hi hn h0 h1
  obtain ⟨_, g1, g2, g3⟩ := two_bytes 3 (UInt8.ofNat is.length) (textI r.1 ++ (isB is ++ (txt note ++ enc (zig num))))
  have hf := hi.few
  obtain ⟨a1, a2, a3⟩ := gn_text hr (isB is ++ (txt note ++ enc (zig num)))
  have e : comB ⟨r, is, note, num⟩ = 3 :: UInt8.ofNat is.length :: (textI r.1 ++ (isB is ++ (txt note ++ enc (zig num)))) := rfl
  have hR : rdR (comB ⟨r, is, note, num⟩) = r := by unfold rdR; rw [e, g2, g3, a1]
  have h00 : rd0 (comB ⟨r, is, note, num⟩) = ⟨[], isB is ++ (txt note ++ enc (zig num)), false⟩ := by unfold rd0; rw [e, g2, g3, a2, a3]
  have hI : rdI (comB ⟨r, is, note, num⟩) = ⟨is, txt note ++ enc (zig num), false⟩ := by
    unfold rdI
    rw [h00, e, g1, ofNat_small (by omega), back_atI is hi.name]
    rfl
  have t1 := txmV (most := 32) (enc (zig num)) note (by omega) (by omega)
  have t2 := txmB (most := 32) (enc (zig num)) note (by omega) (by omega)
  obtain ⟨i1, i2, i3⟩ := in_some [] h0 h1
  rw [List.append_nil] at i1 i2 i3
  unfold rdC rdB rdX rdN
  rw [hR, hI]
  simp only
  rw [t1, t2, i1, i2, i3]
  exact ⟨rfl, rfl, rfl⟩
theorem comB_inj {c d : Cmt} (hc : GoodC c) (hd : GoodC d) (h : comB c = comB d) : c = d := by
  rw [← (rdC_of hc).1, h, (rdC_of hd).1]

/-- The commit of bytes, if there is one. -/
def GetsC (b : List UInt8) (o : Option Cmt) : Prop := ∀ t, o = some t ↔ GoodC t ∧ comB t = b
theorem getC_some {b : List UInt8} {t : Cmt} (h : GoodC t) (e : comB t = b) : GetsC b (some t) := fun s => by
  constructor
  · intro hs
    injection hs with hs
    subst hs
    exact ⟨h, e⟩
  · rintro ⟨h1, h2⟩
    exact congrArg some (comB_inj h h1 (e.trans h2.symm))
theorem getC_none {b : List UInt8} (h : ∀ t, GoodC t → comB t ≠ b) : GetsC b none := fun s => by
  constructor
  · intro hs
    cases hs
  · rintro ⟨h1, h2⟩
    exact absurd h2 (h s h1)
theorem getC_is {b : List UInt8} {t : Cmt} (h : GetsC b (some t)) : GoodC t ∧ comB t = b := (h t).1 rfl
theorem getC_uniq {b : List UInt8} {o p : Option Cmt} (h : GetsC b o) (k : GetsC b p) : o = p := by
  cases o with
  | none =>
    cases p with
    | none => rfl
    | some s => exact absurd ((h s).2 ((k s).1 rfl)) (by simp)
  | some t => exact ((k t).2 ((h t).1 rfl)).symm

theorem getC_else {b : List UInt8} (h1 : gbV false b ≠ 3) : GetsC b none := by
  refine getC_none fun t _ e => ?_
  have := (two_bytes 3 (UInt8.ofNat t.is.length) (textI t.root.1 ++ (isB t.is ++ (txt t.note ++ enc (zig t.num))))).1
  exact h1 (by rw [← e]; exact this)
theorem getC_no {b : List UInt8} (hn : ¬ (rdX b = false ∧ rdB b = [] ∧ GoodC (rdC b))) : GetsC b none := by
  refine getC_none fun t ht e => ?_
  obtain ⟨h1, h2, h3⟩ := rdC_of ht
  rw [e] at h1 h2 h3
  exact hn ⟨h3, h2, by rw [h1]; exact ht⟩
theorem getC_yes {b : List UInt8} (h1 : gbV false b = 3) (hb : rdX b = false) (hn : rdB b = []) (hg : GoodC (rdC b)) : GetsC b (some (rdC b)) := by
  refine getC_some hg ?_
  have hin : enc (zig (inV 1 1024 (txB 32 (rdI b).bs))) = txB 32 (rdI b).bs := by
    have := one_in hb
    have hn' : inB 1 1024 (txB 32 (rdI b).bs) = [] := hn
    rw [hn', List.append_nil] at this
    exact this
  have hx1 : txX 32 (rdI b).bs = false := by
    cases hx : txX 32 (rdI b).bs
    · rfl
    · have h2 : rdX b = true := by
        unfold rdX
        rw [Sane.tx 32 _ hx]
        exact inX_nil
      rw [h2] at hb
      cases hb
  have htx := txt_one hx1
  have hxI : (rdI b).bad = false := by
    cases hx : (rdI b).bad
    · rfl
    · have h3 : (rdI b).bs = [] := sane_atI (s := rd0 b) (sane_gn _ _) _ hx
      rw [h3, txX_nil] at hx1
      cases hx1
  have hoI := one_atI (s := rd0 b) rfl _ hxI hg.is.name
  have hx0 : (rd0 b).bad = false := by
    cases hx : (rd0 b).bad
    · rfl
    · have : (rdI b).bad = true := bad_atI (s := rd0 b) (j := 0) hx (Nat.zero_le _)
      rw [this] at hxI
      cases hxI
  obtain ⟨g1, g2⟩ := gn_one hx0 hg.root
  have hl := lead (by rw [h1]; decide) g1
  have hlen := (len_atI (rd0 b) (gbV (gbX false b) (gbB false b)).toNat).1
  have hlen2 : (rdI b).l.length = (gbV (gbX false b) (gbB false b)).toNat := by
    unfold rdI
    rw [hlen]
    simp [rd0]
  have e : comB (rdC b) = 3 :: UInt8.ofNat (rdI b).l.length :: (textI (rdR b).1 ++ (isB (rdI b).l ++ (txt (rdN b) ++ enc (zig (inV 1 1024 (txB 32 (rdI b).bs)))))) := rfl
  rw [e, hlen2, ofNat_toNat, hin]
  have e2 : txt (rdN b) ++ txB 32 (rdI b).bs = (rdI b).bs := htx
  rw [e2]
  have e3 : isB (rdI b).l ++ (rdI b).bs = (rd0 b).bs := hoI.symm
  rw [e3]
  have e4 : textI (rdR b).1 ++ (rd0 b).bs = gbB (gbX false b) (gbB false b) := g2.symm
  rw [e4]
  rw [h1] at hl
  exact hl.symm

/-- None is a tree's and a commit's. -/
theorem tree_not_com {t : Tre} {c : Cmt} (h : GoodT t) : treeB t ≠ comB c := by
  intro e
  rcases h with ⟨h3, h4⟩ | ⟨h3, h4⟩
  · rw [treeB_ps h3] at e
    injection e with e
    cases e
  · rw [treeB_ks h4] at e
    injection e with e
    cases e

end Go.Proofs.Ytabogconbjdcgaa.Cd
