/-
  Trees and commits as bytes, and read from bytes: no Go in sight. Conditions: none.
-/
import Derived.Test.YtabogconbjdcgaaMathD
import Derived.Test.YtabogconbjdcgaaMathE
import Derived.Test.YtabogconbjdcgaaIdBackWalk
namespace Go.Proofs.Ytabogconbjdcgaa.Cd

/-! ### Texts -/

def txt (s : List UInt8) : List UInt8 := enc s.length ++ s
theorem txt_len (s : List UInt8) : (txt s).length = (enc s.length).length + s.length := by rw [txt, List.length_append]
section
variable {most : Int} (t : List UInt8)
theorem txm (s : List UInt8) (hs : s.length < 18446744073709551616) (hm : (s.length : Int) ≤ most) : ¬ TxBad most (txt s ++ t) := by
  unfold TxBad txt
  rw [List.append_assoc, nv_enc hs, ns_enc hs, List.drop_left, List.length_append]
  rintro (h | h | h | h)
  · exact enc_good hs _ h
  · omega
  · omega
  · omega
theorem txmV (s : List UInt8) (hs : s.length < 18446744073709551616) (hm : (s.length : Int) ≤ most) : txV most (txt s ++ t) = s := by
  unfold txV; rw [if_neg (txm t s hs hm)]; unfold txt; rw [List.append_assoc, nv_enc hs, ns_enc hs, List.drop_left, List.take_left]
theorem txmB (s : List UInt8) (hs : s.length < 18446744073709551616) (hm : (s.length : Int) ≤ most) : txB most (txt s ++ t) = t := by
  unfold txB; rw [if_neg (txm t s hs hm)]; unfold txt; rw [List.append_assoc, nv_enc hs, ns_enc hs, List.drop_left, List.drop_left]
theorem txmX (s : List UInt8) (hs : s.length < 18446744073709551616) (hm : (s.length : Int) ≤ most) : txX most (txt s ++ t) = false := decide_eq_false (txm t s hs hm)
end
theorem txX_nil (most : Int) : txX most [] = true := decide_eq_true (.inl bad_nil)
theorem txB_nil (most : Int) : txB most [] = [] := if_pos (.inl bad_nil)
theorem txt_one {most : Int} {bs : List UInt8} (h : txX most bs = false) : txt (txV most bs) ++ txB most bs = bs := one_tx h
theorem txX_next {m1 m2 : Int} {bs : List UInt8} (h : txX m2 (txB m1 bs) = false) : txX m1 bs = false := by
  cases hx : txX m1 bs
  · rfl
  · rw [Sane.tx m1 bs hx, txX_nil] at h
    cases h

/-! ### Names -/

abbrev Idn := {l : List UInt8 // l.length = 33}
def idZ : Idn := ⟨zer 33, zer_length _⟩
def idP (l : List UInt8) : Idn := ⟨(parseI l).1, parse_length l⟩
/-- A name's hash. -/
def kd (i : Idn) : UInt8 := i.1.headD 0

theorem idn_cons (i : Idn) : ∃ k s, i.1 = k :: s ∧ s.length = 32 ∧ kd i = k := by
  obtain ⟨l, hl⟩ := i
  obtain ⟨k, s, rfl⟩ := List.exists_cons_of_length_pos (l := l) (by omega)
  exact ⟨k, s, rfl, by simpa using hl, rfl⟩
theorem textI_good {i : Idn} (h : goodI i.1 = true) : ∃ s, textI i.1 = kd i :: s ∧ s.length = sizeI (kd i) ∧ 0 < sizeI (kd i) ∧ i.1 = kd i :: pad32 s := by
  obtain ⟨k, s, e, hs, hk⟩ := idn_cons i
  rw [e] at h
  obtain ⟨h0, h1⟩ := good_parts h
  rw [hk]
  refine ⟨s.take (sizeI k), ?_, ?_, h0, ?_⟩
  · rw [e, textI_cons, h]; rfl
  · rw [List.length_take]
    have := sizeI_le k
    omega
  · rw [e, ← h1]
theorem textI_bad {l : List UInt8} (h : goodI l = false) : textI l = [] := by
  cases l with
  | nil => rfl
  | cons k s => rw [textI_cons, h]; rfl
theorem textI_pos {i : Idn} : textI i.1 = [] ↔ goodI i.1 = false := by
  constructor
  · intro h
    cases hg : goodI i.1
    · rfl
    · obtain ⟨s, e, _⟩ := textI_good hg
      rw [e] at h
      cases h
  · exact textI_bad
theorem idP_text {i : Idn} (h : goodI i.1 = true) : idP (textI i.1) = i := by
  apply Subtype.ext
  have := parse_text i.1 i.2
  rw [h] at this
  show (parseI (textI i.1)).1 = i.1
  rw [this]
  rfl
theorem goodZ : goodI idZ.1 = false := good_zero

/-! ### What the program reads of a name -/

/-- A byte as it is; 0, if there is none. -/
def gbV (bad : Bool) (bs : List UInt8) : UInt8 := (tkV bad 1 bs).headD 0
def gbB (bad : Bool) (bs : List UInt8) : List UInt8 := tkB bad 1 bs
def gbX (bad : Bool) (bs : List UInt8) : Bool := tkX bad 1 bs
theorem gb_cons (c : UInt8) (r : List UInt8) : gbV false (c :: r) = c ∧ gbB false (c :: r) = r ∧ gbX false (c :: r) = false := by
  have h := tk_enc r [c]
  unfold gbV gbB gbX
  have e1 := tkV_enc r [c]
  have e2 := tkB_enc r [c]
  have e3 := tkX_enc r [c]
  simp only [List.length_singleton, List.singleton_append] at e1 e2 e3
  have ec : ((1 : Nat) : Int) = 1 := rfl
  rw [ec] at e1 e2 e3
  rw [e1, e2, e3]
  exact ⟨rfl, rfl, rfl⟩
theorem gb_bad (bs : List UInt8) : gbX true bs = true ∧ gbB true bs = [] ∧ gbV true bs = 0 := by
  have hb : TkBad true 1 bs := .inl rfl
  unfold gbX gbB gbV
  exact ⟨decide_eq_true hb, if_pos hb, by rw [show tkV true 1 bs = [] from if_pos hb]; rfl⟩
theorem gb_nil : gbX false [] = true ∧ gbB false [] = [] ∧ gbV false [] = 0 := by decide
theorem gb_one {bad : Bool} {bs : List UInt8} (h : gbX bad bs = false) : bad = false ∧ bs = gbV bad bs :: gbB bad bs := by
  cases bad
  · cases bs with
    | nil => rw [gb_nil.1] at h; cases h
    | cons c r =>
      obtain ⟨h1, h2, _⟩ := gb_cons c r
      exact ⟨rfl, by rw [h1, h2]⟩
  · rw [(gb_bad bs).1] at h; cases h
theorem sane_gb (bad : Bool) (bs : List UInt8) : Sane (gbX bad bs) (gbB bad bs) := Sane.tk bad 1 bs

def gnS (bad : Bool) (bs : List UInt8) : List UInt8 := gbV bad bs :: tkV (gbX bad bs) (sizeI (gbV bad bs)) (gbB bad bs)
def gnV (bad : Bool) (bs : List UInt8) : Idn := idP (gnS bad bs)
def gnB (bad : Bool) (bs : List UInt8) : List UInt8 := tkB (gbX bad bs) (sizeI (gbV bad bs)) (gbB bad bs)
def gnX (bad : Bool) (bs : List UInt8) : Bool := tkX (gbX bad bs) (sizeI (gbV bad bs)) (gbB bad bs)
theorem sane_gn (bad : Bool) (bs : List UInt8) : Sane (gnX bad bs) (gnB bad bs) := Sane.tk _ _ _
theorem gn_len (bad : Bool) (bs : List UInt8) : (gnB bad bs).length ≤ bs.length := Nat.le_trans (tkB_len _ _ _) (tkB_len _ _ _)
theorem tk_bad_stays (n : Int) (bs : List UInt8) : tkX true n bs = true := decide_eq_true (.inl rfl)
theorem gn_bad (bs : List UInt8) : gnX true bs = true := by
  unfold gnX
  rw [(gb_bad bs).1]
  exact tk_bad_stays _ _
theorem gn_text {i : Idn} (h : goodI i.1 = true) (t : List UInt8) : gnV false (textI i.1 ++ t) = i ∧ gnB false (textI i.1 ++ t) = t ∧ gnX false (textI i.1 ++ t) = false := by
  obtain ⟨s, e, hs, _, _⟩ := textI_good h
  have hp := idP_text h
  rw [e] at hp ⊢
  obtain ⟨h1, h2, h3⟩ := gb_cons (kd i) (s ++ t)
  have h4 : gbV false (kd i :: s ++ t) = kd i := h1
  have h5 : gbB false (kd i :: s ++ t) = s ++ t := h2
  have h6 : gbX false (kd i :: s ++ t) = false := h3
  unfold gnV gnB gnX gnS
  rw [h4, h5, h6, ← hs, tkV_enc, tkB_enc, tkX_enc]
  exact ⟨hp, rfl, rfl⟩
theorem gn_one {bad : Bool} {bs : List UInt8} (h : gnX bad bs = false) (hg : goodI (gnV bad bs).1 = true) : bad = false ∧ bs = textI (gnV bad bs).1 ++ gnB bad bs := by
  have h1 : gbX bad bs = false := by
    cases hx : gbX bad bs
    · rfl
    · unfold gnX at h; rw [hx, tk_bad_stays] at h; cases h
  obtain ⟨h2, h3⟩ := gb_one h1
  refine ⟨h2, ?_⟩
  have h4 := one_tk h
  have h5 : (parseI (gnS bad bs)).2 = true := by
    cases hp : (parseI (gnS bad bs)).2
    · have hz : (parseI (gnS bad bs)).1 = zer 33 := by
        unfold gnS at hp ⊢
        rw [parseI_cons] at hp ⊢
        split at hp
        · cases hp
        · rename_i hn; rw [if_neg hn]
      have : goodI (gnV bad bs).1 = goodI (zer 33) := by
        show goodI (parseI (gnS bad bs)).1 = _
        rw [hz]
      rw [this, good_zero] at hg
      cases hg
    · rfl
  have h6 : textI (gnV bad bs).1 = gnS bad bs := (text_parse _ h5).1
  rw [h6]
  unfold gnS gnB
  rw [List.cons_append, h4, ← h3]

/-! ### What the document reads of a name -/

def fnBad (bs : List UInt8) : Prop := bs = [] ∨ sizeI (bs.headD 0) = 0 ∨ bs.length < 1 + sizeI (bs.headD 0)
instance (bs : List UInt8) : Decidable (fnBad bs) := by unfold fnBad; infer_instance
def fnX (bs : List UInt8) : Bool := decide (fnBad bs)
def fnB (bs : List UInt8) : List UInt8 := if fnBad bs then [] else bs.drop (1 + sizeI (bs.headD 0))
def fnV (bs : List UInt8) : Idn := if fnBad bs then idZ else idP (bs.take (1 + sizeI (bs.headD 0)))
theorem sane_fn (bs : List UInt8) : Sane (fnX bs) (fnB bs) := fun h => if_pos (of_decide_eq_true h)
theorem fn_len (bs : List UInt8) : (fnB bs).length ≤ bs.length := by unfold fnB; split <;> simp
theorem fn_nil : fnX [] = true := decide_eq_true (.inl rfl)
theorem fn_text {i : Idn} (h : goodI i.1 = true) (t : List UInt8) : fnV (textI i.1 ++ t) = i ∧ fnB (textI i.1 ++ t) = t ∧ fnX (textI i.1 ++ t) = false := by
  obtain ⟨s, e, hs, h0, _⟩ := textI_good h
  have hp := idP_text h
  have hn : ¬ fnBad (textI i.1 ++ t) := by
    rw [e]
    unfold fnBad
    simp only [List.cons_append, List.headD_cons, List.length_cons, List.length_append]
    rintro (h | h | h)
    · cases h
    · omega
    · omega
  have hl : (textI i.1).length = 1 + sizeI (kd i) := by rw [e, List.length_cons, hs]; omega
  have hd : (textI i.1 ++ t).headD 0 = kd i := by rw [e]; rfl
  unfold fnV fnB fnX
  rw [if_neg hn, if_neg hn, decide_eq_false hn, hd, ← hl, List.take_left, List.drop_left, hp]
  exact ⟨rfl, rfl, rfl⟩
theorem fn_one {bs : List UInt8} (h : fnX bs = false) : goodI (fnV bs).1 = true ∧ bs = textI (fnV bs).1 ++ fnB bs := by
  have hn : ¬ fnBad bs := of_decide_eq_false h
  unfold fnV fnB
  rw [if_neg hn, if_neg hn]
  cases bs with
  | nil => exact absurd (.inl rfl) hn
  | cons c r =>
    have h1 : sizeI c ≠ 0 := fun e => hn (.inr (.inl e))
    have h2 : sizeI c ≤ r.length := by
      have : ¬ (c :: r).length < 1 + sizeI c := fun e => hn (.inr (.inr e))
      simp only [List.length_cons] at this
      omega
    have h3 : (c :: r).take (1 + sizeI c) = c :: r.take (sizeI c) := by rw [Nat.add_comm]; rfl
    have h4 : (parseI (c :: r.take (sizeI c))).2 = true := by
      rw [parseI_cons, if_pos ⟨by omega, by rw [List.length_take]; omega⟩]
    show goodI (idP ((c :: r).take (1 + sizeI c))).1 = true ∧ c :: r = textI (idP ((c :: r).take (1 + sizeI c))).1 ++ (c :: r).drop (1 + sizeI c)
    rw [h3]
    have h5 := text_parse _ h4
    refine ⟨h5.2, ?_⟩
    show c :: r = textI (parseI (c :: r.take (sizeI c))).1 ++ _
    rw [h5.1, ← h3, List.take_append_drop]

end Go.Proofs.Ytabogconbjdcgaa.Cd
