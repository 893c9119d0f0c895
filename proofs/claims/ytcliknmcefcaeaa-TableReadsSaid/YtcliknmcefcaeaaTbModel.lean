/-
  Tables in plain Lean: writes by rising keys, each key once; what a write puts in, what is found, what is put together. Conditions: none.
-/
namespace Go.Proofs.Ytcliknmcefcaeaa.Cd

/-- A write: its key, its value, whether it is gone. -/
structure Wr where
  key : List UInt8
  rest : List UInt8 × Bool

/-- Of one that is gone the value is empty. -/
def flatG (w : Wr) : Wr := if w.2.2 then ⟨w.1, [], true⟩ else w
theorem flatG_key (w : Wr) : (flatG w).1 = w.1 := by unfold flatG; split <;> rfl
theorem flatG_gone (w : Wr) : (flatG w).2.2 = w.2.2 := by unfold flatG; split <;> simp_all
theorem flatG_flat (w : Wr) : flatG (flatG w) = flatG w := by unfold flatG; split <;> simp_all

def insW : List Wr → Wr → List Wr
  | [], w => [w]
  | x :: r, w => if x.1 < w.1 then x :: insW r w else w :: (x :: r).filter fun y => y.1 != w.1
def ofFrom (t : List Wr) (l : List Wr) : List Wr := l.foldl (fun t w => insW t (flatG w)) t
def ofW (l : List Wr) : List Wr := ofFrom [] l
def getW (t : List Wr) (k : List UInt8) : Option Wr := t.find? fun w => w.1 == k
def SrtW (t : List Wr) : Prop := t.Pairwise fun a b => a.1 < b.1
def FlatW (t : List Wr) : Prop := ∀ w ∈ t, flatG w = w
def keepW (whole : Bool) (t : List Wr) : List Wr := t.filter fun w => !whole || !w.2.2
def mergeW (whole : Bool) (ts : List (List Wr)) : List Wr := keepW whole (ofW ts.flatten)

theorem less_irrefl (a : List UInt8) : ¬ a < a := List.lt_irrefl a
theorem less_trans {a b c : List UInt8} (h1 : a < b) (h2 : b < c) : a < c := List.lt_trans h1 h2
theorem less_asymm {a b : List UInt8} (h1 : a < b) : ¬ b < a := List.lt_asymm h1
theorem less_tri {a b : List UInt8} (h1 : ¬ a < b) (h2 : ¬ b < a) : a = b := List.le_antisymm (List.not_lt.1 h2) (List.not_lt.1 h1)
theorem less_ne {a b : List UInt8} (h : a < b) : a ≠ b := fun e => by subst e; exact less_irrefl _ h

theorem getW_key {t : List Wr} {k : List UInt8} {w : Wr} (h : getW t k = some w) : w.1 = k := by
  have := List.find?_some h
  simpa using this
theorem getW_mem {t : List Wr} {k : List UInt8} {w : Wr} (h : getW t k = some w) : w ∈ t := List.mem_of_find?_eq_some h
theorem getW_of_mem {t : List Wr} (h : SrtW t) {w : Wr} (hw : w ∈ t) : getW t w.1 = some w := by
  induction t with
  | nil => cases hw
  | cons x r ih =>
    obtain ⟨h1, h2⟩ := List.pairwise_cons.1 h
    unfold getW
    rw [List.find?_cons]
    rcases List.mem_cons.1 hw with rfl | hw
    · simp
    · have := less_ne (h1 w hw)
      have hb : (x.1 == w.1) = false := by simpa using this
      rw [hb]
      exact ih h2 hw
theorem getW_none {t : List Wr} {k : List UInt8} : getW t k = none ↔ ∀ w ∈ t, w.1 ≠ k := by
  unfold getW
  rw [List.find?_eq_none]
  simp

theorem getW_filter_ne (t : List Wr) (j k : List UInt8) (h : k ≠ j) : getW (t.filter fun y => y.1 != j) k = getW t k := by
  induction t with
  | nil => rfl
  | cons x r ih =>
    unfold getW at ih ⊢
    rw [List.filter_cons]
    by_cases e : x.1 = j
    · have h1 : (x.1 != j) = false := by simpa using e
      have h2 : (x.1 == k) = false := by rw [e]; simpa using fun e => h e.symm
      rw [h1, List.find?_cons, h2]
      exact ih
    · have h1 : (x.1 != j) = true := by simpa using e
      rw [h1, if_pos rfl, List.find?_cons, List.find?_cons, ih]

theorem getW_ins (t : List Wr) (w : Wr) (k : List UInt8) : getW (insW t w) k = if k = w.1 then some w else getW t k := by
  induction t with
  | nil =>
    unfold insW getW
    by_cases e : k = w.1
    · subst e; simp
    · have h2 : (w.1 == k) = false := by simpa using fun e2 => e e2.symm
      rw [if_neg e]; simp [h2]
  | cons x r ih =>
    unfold insW
    split
    · rename_i hx
      show (x :: insW r w).find? _ = _
      rw [List.find?_cons]
      by_cases e : x.1 = k
      · have hb : (x.1 == k) = true := by simpa using e
        have hne : k ≠ w.1 := by rw [← e]; exact less_ne hx
        rw [hb, if_neg hne]
        unfold getW
        rw [List.find?_cons, hb]
      · have hb : (x.1 == k) = false := by simpa using e
        rw [hb]
        show getW (insW r w) k = _
        rw [ih]
        unfold getW
        rw [List.find?_cons, hb]
    · show (w :: _).find? _ = _
      rw [List.find?_cons]
      by_cases e : k = w.1
      · subst e; simp
      · have hb : (w.1 == k) = false := by simpa using fun e2 => e e2.symm
        rw [hb, if_neg e]
        exact getW_filter_ne (x :: r) w.1 k e

theorem mem_ins {t : List Wr} {w y : Wr} (h : y ∈ insW t w) : y = w ∨ y ∈ t := by
  induction t with
  | nil => unfold insW at h; exact .inl (List.mem_singleton.1 h)
  | cons x r ih =>
    unfold insW at h
    split at h
    · rcases List.mem_cons.1 h with h | h
      · exact .inr (h ▸ List.mem_cons_self)
      · rcases ih h with h | h
        · exact .inl h
        · exact .inr (List.mem_cons_of_mem _ h)
    · rcases List.mem_cons.1 h with h | h
      · exact .inl h
      · exact .inr (List.mem_filter.1 h).1

theorem ins_srt {t : List Wr} (h : SrtW t) (w : Wr) : SrtW (insW t w) := by
  induction t with
  | nil => exact List.pairwise_singleton _ _
  | cons x r ih =>
    obtain ⟨h1, h2⟩ := List.pairwise_cons.1 h
    unfold insW
    split
    · rename_i hx
      refine List.pairwise_cons.2 ⟨fun y hy => ?_, ih h2⟩
      rcases mem_ins hy with rfl | hy
      · exact hx
      · exact h1 y hy
    · rename_i hx
      refine List.pairwise_cons.2 ⟨fun y hy => ?_, h.sublist List.filter_sublist⟩
      obtain ⟨hy1, hy2⟩ := List.mem_filter.1 hy
      have hne : y.1 ≠ w.1 := by simpa using hy2
      rcases List.mem_cons.1 hy1 with rfl | hy3
      · refine Decidable.byContradiction fun hn => hne (less_tri hx hn)
      · have hxy := h1 y hy3
        refine Decidable.byContradiction fun hn => ?_
        by_cases e : x.1 = w.1
        · exact hn (e ▸ hxy)
        · have : w.1 < x.1 := Decidable.byContradiction fun hn2 => e (less_tri hx hn2)
          exact hn (less_trans this hxy)

theorem ins_flat {t : List Wr} (h : FlatW t) {w : Wr} (hw : flatG w = w) : FlatW (insW t w) := fun y hy => by
  rcases mem_ins hy with rfl | hy
  · exact hw
  · exact h y hy

/-- Tables that find the same are the same. -/
theorem srt_ext : ∀ {a b : List Wr}, SrtW a → SrtW b → (∀ k, getW a k = getW b k) → a = b
  | [], [], _, _, _ => rfl
  | [], y :: r, _, _, h => by
    have := h y.1
    rw [show getW (y :: r) y.1 = some y by simp [getW]] at this
    cases this
  | x :: r, [], _, _, h => by
    have := h x.1
    rw [show getW (x :: r) x.1 = some x by simp [getW]] at this
    cases this
  | x :: r, y :: s, ha, hb, h => by
    obtain ⟨a1, a2⟩ := List.pairwise_cons.1 ha
    obtain ⟨b1, b2⟩ := List.pairwise_cons.1 hb
    have hx : x ∈ y :: s := getW_mem (k := x.1) (by rw [← h]; simp [getW])
    have hy : y ∈ x :: r := getW_mem (k := y.1) (by rw [h]; simp [getW])
    have e : x = y := by
      rcases List.mem_cons.1 hx with hx | hx
      · exact hx
      · rcases List.mem_cons.1 hy with hy | hy
        · exact hy.symm
        · exact absurd (b1 x hx) (less_asymm (a1 y hy))
    subst e
    refine congrArg _ (srt_ext a2 b2 fun k => ?_)
    have hk := h k
    unfold getW at hk ⊢
    rw [List.find?_cons, List.find?_cons] at hk
    by_cases e : x.1 = k
    · rw [List.find?_eq_none.2 fun z hz => by have := less_ne (a1 z hz); rw [e] at this; simpa using fun e2 => this e2.symm]
      rw [List.find?_eq_none.2 fun z hz => by have := less_ne (b1 z hz); rw [e] at this; simpa using fun e2 => this e2.symm]
    · have hb : (x.1 == k) = false := by simpa using e
      rw [hb] at hk
      exact hk

theorem filter_key_len {t : List Wr} (h : SrtW t) (k : List UInt8) : (t.filter fun y => y.1 != k).length + (if (getW t k).isSome = true then 1 else 0) = t.length := by
  induction t with
  | nil => rfl
  | cons x r ih =>
    obtain ⟨h1, h2⟩ := List.pairwise_cons.1 h
    have ih := ih h2
    rw [List.filter_cons]
    unfold getW at ih ⊢
    rw [List.find?_cons]
    by_cases e : x.1 = k
    · have hb : (x.1 != k) = false := by simpa using e
      have hb2 : (x.1 == k) = true := by simpa using e
      have hn : r.find? (fun w => w.1 == k) = none := List.find?_eq_none.2 fun z hz => by have := less_ne (h1 z hz); rw [e] at this; simpa using fun e2 => this e2.symm
      rw [hn] at ih
      rw [hb, hb2]
      simp at ih ⊢
      exact ih
    · have hb : (x.1 != k) = true := by simpa using e
      have hb2 : (x.1 == k) = false := by simpa using e
      rw [hb, hb2, if_pos rfl]
      simp only [List.length_cons]
      omega

theorem ins_len {t : List Wr} (h : SrtW t) (w : Wr) : (insW t w).length = t.length + if (getW t w.1).isSome = true then 0 else 1 := by
  induction t with
  | nil => rfl
  | cons x r ih =>
    obtain ⟨h1, h2⟩ := List.pairwise_cons.1 h
    unfold insW
    split
    · rename_i hx
      have hb2 : (x.1 == w.1) = false := by simpa using less_ne hx
      rw [List.length_cons, ih h2]
      unfold getW
      rw [List.find?_cons, hb2]
      simp only [List.length_cons]
      omega
    · have := filter_key_len h w.1
      rw [List.length_cons]
      split at this
      · rename_i hs
        rw [if_pos hs]
        omega
      · rename_i hs
        rw [if_neg hs]
        omega

section
variable {t l : List Wr}
theorem ofFrom_srt (h : SrtW t) (l : List Wr) : SrtW (ofFrom t l) := by
  induction l generalizing t with
  | nil => exact h
  | cons w r ih => exact ih (ins_srt h _)
theorem ofFrom_flat (h : FlatW t) (l : List Wr) : FlatW (ofFrom t l) := by
  induction l generalizing t with
  | nil => exact h
  | cons w r ih => exact ih (ins_flat h (flatG_flat w))
theorem ofW_srt (l : List Wr) : SrtW (ofW l) := ofFrom_srt List.Pairwise.nil l
theorem ofW_flat (l : List Wr) : FlatW (ofW l) := ofFrom_flat (fun _ h => by cases h) l
theorem ofFrom_snoc (t l : List Wr) (w : Wr) : ofFrom t (l ++ [w]) = insW (ofFrom t l) (flatG w) := by
  unfold ofFrom; rw [List.foldl_append]; rfl
theorem ofFrom_append (t a b : List Wr) : ofFrom t (a ++ b) = ofFrom (ofFrom t a) b := by
  unfold ofFrom; rw [List.foldl_append]
theorem ofW_take {k : Nat} {w : Wr} (h : l[k]? = some w) : ofW (l.take (k + 1)) = insW (ofW (l.take k)) (flatG w) := by
  obtain ⟨hk, rfl⟩ := List.getElem?_eq_some_iff.1 h
  rw [List.take_succ_eq_append_getElem hk]
  exact ofFrom_snoc _ _ _
/-- What is found behind writes: the last of a key. -/
theorem getW_from (t l : List Wr) (k : List UInt8) : getW (ofFrom t l) k = ((l.reverse.find? fun w => w.1 == k).map flatG).or (getW t k) := by
  induction l generalizing t with
  | nil => rfl
  | cons w r ih =>
    show getW (ofFrom (insW t (flatG w)) r) k = _
    rw [ih, getW_ins, flatG_key, List.reverse_cons, List.find?_append]
    cases r.reverse.find? (fun w => w.1 == k) with
    | some x => rfl
    | none =>
      by_cases e : k = w.1
      · subst e; simp
      · have hb : (w.1 == k) = false := by simpa using fun e2 => e e2.symm
        rw [if_neg e]; simp [hb]
theorem find_rev {k : List UInt8} (h : SrtW l) : (l.reverse.find? fun w => w.1 == k) = getW l k := by
  cases hg : getW l k with
  | none =>
    rw [List.find?_eq_none]
    intro x hx
    have := getW_none.1 hg x (List.mem_reverse.1 hx)
    simpa using this
  | some w =>
    have hk := getW_key hg
    have hm := getW_mem hg
    cases hf : l.reverse.find? (fun w => w.1 == k) with
    | none =>
      have := List.find?_eq_none.1 hf w (List.mem_reverse.2 hm)
      simp [hk] at this
    | some x =>
      have hx := List.mem_reverse.1 (List.mem_of_find?_eq_some hf)
      have hxk : x.1 = k := by simpa using List.find?_some hf
      have := getW_of_mem h hx
      rw [hxk, hg] at this
      exact this.symm
/-- A table's writes on top of others: what it has, else what they have. -/
theorem getW_over (t : List Wr) (hl : SrtW l) (hf : FlatW l) (k : List UInt8) : getW (ofFrom t l) k = (getW l k).or (getW t k) := by
  rw [getW_from, find_rev hl]
  cases hg : getW l k with
  | none => rfl
  | some w => rw [Option.map_some, hf w (getW_mem hg)]
theorem ofW_self (h : SrtW t) (hf : FlatW t) : ofW t = t := srt_ext (ofW_srt t) h fun k => by
  show getW (ofFrom [] t) k = _
  rw [getW_over [] h hf]
  cases getW t k <;> rfl
theorem ofFrom_len (h : SrtW t) (l : List Wr) : (ofFrom t l).length ≤ t.length + l.length := by
  induction l generalizing t with
  | nil => exact Nat.le_refl _
  | cons w r ih =>
    have h1 := ih (ins_srt h (flatG w))
    have h2 := ins_len h (flatG w)
    show (ofFrom (insW t (flatG w)) r).length ≤ _
    simp only [List.length_cons]
    split at h2 <;> omega
theorem ofW_len (l : List Wr) : (ofW l).length ≤ l.length := by
  have := ofFrom_len (t := []) List.Pairwise.nil l
  simpa [ofW] using this
theorem getW_keep (hs : SrtW t) (whole : Bool) (k : List UInt8) : getW (keepW whole t) k = (getW t k).bind fun w => if whole && w.2.2 then none else some w := by
  cases hg : getW t k with
  | none =>
    show getW (keepW whole t) k = none
    rw [getW_none] at hg ⊢
    exact fun w hw => hg w (List.mem_filter.1 hw).1
  | some w =>
    have hk := getW_key hg
    have hm := getW_mem hg
    subst hk
    have hs' : SrtW (keepW whole t) := hs.sublist List.filter_sublist
    by_cases e : (whole && w.2.2) = true
    · show _ = if _ then _ else _
      rw [if_pos e, getW_none]
      intro x hx hxk
      have h1 := List.mem_filter.1 hx
      have h2 := getW_of_mem hs h1.1
      rw [hxk, hg] at h2
      injection h2 with h2
      subst h2
      revert e
      have h3 := h1.2
      cases whole <;> cases hw : w.2.2 <;> simp_all
    · show _ = if _ then _ else _
      rw [if_neg e]
      refine getW_of_mem hs' (List.mem_filter.2 ⟨hm, ?_⟩)
      revert e
      cases whole <;> cases hw : w.2.2 <;> simp
theorem keep_srt (h : SrtW t) (whole : Bool) : SrtW (keepW whole t) := h.sublist List.filter_sublist
theorem keep_flat (h : FlatW t) (whole : Bool) : FlatW (keepW whole t) := fun w hw => h w (List.mem_filter.1 hw).1
theorem keep_false (t : List Wr) : keepW false t = t := by unfold keepW; simp
end

end Go.Proofs.Ytcliknmcefcaeaa.Cd
