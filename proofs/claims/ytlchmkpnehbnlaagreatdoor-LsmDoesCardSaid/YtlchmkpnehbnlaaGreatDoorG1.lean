/-
  Save of a table's bytes, as the document tells of it, wherever the power goes: no Go in sight. Conditions: none.
-/

/-
  Tables in plain Lean: writes by rising keys, each key once; what a write puts in, what is found, what is put together. Conditions: none.
-/
namespace Go.Proofs.YtlchmkpnehbnlaaGreatDoor.Cd

structure Wr where
  key : List UInt8
  rest : List UInt8 × Bool

def flatG (w : Wr) : Wr := if w.2.2 then ⟨w.1, [], true⟩ else w
theorem flatG_key (w : Wr) : (flatG w).1 = w.1 := by unfold flatG; split <;> rfl
theorem flatG_flat (w : Wr) : flatG (flatG w) = flatG w := by unfold flatG; split <;> simp_all

def insW : List Wr → Wr → List Wr
  | [], w => [w]
  | x :: r, w => if x.1 < w.1 then x :: insW r w else w :: (x :: r).filter fun y => y.1 != w.1
def ofFrom (t : List Wr) (l : List Wr) : List Wr := l.foldl (fun t w => insW t (flatG w)) t
def ofW (l : List Wr) : List Wr := ofFrom [] l
def getW (t : List Wr) (k : List UInt8) : Option Wr := t.find? fun w => w.1 == k
def SrtW (t : List Wr) : Prop := t.Pairwise fun a b => a.1 < b.1
def FlatW (t : List Wr) : Prop := ∀ w ∈ t, flatG w = w
def keepW (whole : Bool) (t : List Wr) : List Wr := t.filter fun w => !whole || !w.2.2
def mergeW (whole : Bool) (ts : List (List Wr)) : List Wr := keepW whole (ofW ts.flatten)

theorem less_irrefl (a : List UInt8) : ¬ a < a := List.lt_irrefl a
theorem less_trans {a b c : List UInt8} (h1 : a < b) (h2 : b < c) : a < c := List.lt_trans h1 h2
theorem less_asymm {a b : List UInt8} (h1 : a < b) : ¬ b < a := List.lt_asymm h1
theorem less_tri {a b : List UInt8} (h1 : ¬ a < b) (h2 : ¬ b < a) : a = b := List.le_antisymm (List.not_lt.1 h2) (List.not_lt.1 h1)
theorem less_ne {a b : List UInt8} (h : a < b) : a ≠ b := fun e => by subst e; exact less_irrefl _ h

theorem getW_key {t : List Wr} {k : List UInt8} {w : Wr} (h : getW t k = some w) : w.1 = k := by
  have := List.find?_some h
  simpa using this
theorem getW_mem {t : List Wr} {k : List UInt8} {w : Wr} (h : getW t k = some w) : w ∈ t := List.mem_of_find?_eq_some h
theorem getW_of_mem {t : List Wr} (h : SrtW t) {w : Wr} (hw : w ∈ t) : getW t w.1 = some w := by
  induction t with
  | nil => cases hw
  | cons x r ih =>
    obtain ⟨h1, h2⟩ := List.pairwise_cons.1 h
    unfold getW
    rw [List.find?_cons]
    rcases List.mem_cons.1 hw with rfl | hw
    · simp
    · have := less_ne (h1 w hw)
      have hb : (x.1 == w.1) = false := by simpa using this
      rw [hb]
      exact ih h2 hw
theorem getW_none {t : List Wr} {k : List UInt8} : getW t k = none ↔ ∀ w ∈ t, w.1 ≠ k := by
  unfold getW
  rw [List.find?_eq_none]
  simp

theorem getW_filter_ne (t : List Wr) (j k : List UInt8) (h : k ≠ j) : getW (t.filter fun y => y.1 != j) k = getW t k := by
  induction t with
  | nil => rfl
  | cons x r ih =>
    unfold getW at ih ⊢
    rw [List.filter_cons]
    by_cases e : x.1 = j
    · have h1 : (x.1 != j) = false := by simpa using e
      have h2 : (x.1 == k) = false := by rw [e]; simpa using fun e => h e.symm
      rw [h1, List.find?_cons, h2]
      exact ih
    · have h1 : (x.1 != j) = true := by simpa using e
      rw [h1, if_pos rfl, List.find?_cons, List.find?_cons, ih]

theorem getW_ins (t : List Wr) (w : Wr) (k : List UInt8) : getW (insW t w) k = if k = w.1 then some w else getW t k := by
  induction t with
  | nil =>
    unfold insW getW
    by_cases e : k = w.1
    · subst e; simp
    · have h2 : (w.1 == k) = false := by simpa using fun e2 => e e2.symm
      rw [if_neg e]; simp [h2]
  | cons x r ih =>
    unfold insW
    split
    · rename_i hx
      show (x :: insW r w).find? _ = _
      rw [List.find?_cons]
      by_cases e : x.1 = k
      · have hb : (x.1 == k) = true := by simpa using e
        have hne : k ≠ w.1 := by rw [← e]; exact less_ne hx
        rw [hb, if_neg hne]
        unfold getW
        rw [List.find?_cons, hb]
      · have hb : (x.1 == k) = false := by simpa using e
        rw [hb]
        show getW (insW r w) k = _
        rw [ih]
        unfold getW
        rw [List.find?_cons, hb]
    · show (w :: _).find? _ = _
      rw [List.find?_cons]
      by_cases e : k = w.1
      · subst e; simp
      · have hb : (w.1 == k) = false := by simpa using fun e2 => e e2.symm
        rw [hb, if_neg e]
        exact getW_filter_ne (x :: r) w.1 k e

theorem mem_ins {t : List Wr} {w y : Wr} (h : y ∈ insW t w) : y = w ∨ y ∈ t := by
  induction t with
  | nil => unfold insW at h; exact .inl (List.mem_singleton.1 h)
  | cons x r ih =>
    unfold insW at h
    split at h
    · rcases List.mem_cons.1 h with h | h
      · exact .inr (h ▸ List.mem_cons_self)
      · rcases ih h with h | h
        · exact .inl h
        · exact .inr (List.mem_cons_of_mem _ h)
    · rcases List.mem_cons.1 h with h | h
      · exact .inl h
      · exact .inr (List.mem_filter.1 h).1

theorem ins_srt {t : List Wr} (h : SrtW t) (w : Wr) : SrtW (insW t w) := by
  induction t with
  | nil => exact List.pairwise_singleton _ _
  | cons x r ih =>
    obtain ⟨h1, h2⟩ := List.pairwise_cons.1 h
    unfold insW
    split
    · rename_i hx
      refine List.pairwise_cons.2 ⟨fun y hy => ?_, ih h2⟩
      rcases mem_ins hy with rfl | hy
      · exact hx
      · exact h1 y hy
    · rename_i hx
      refine List.pairwise_cons.2 ⟨fun y hy => ?_, h.sublist List.filter_sublist⟩
      obtain ⟨hy1, hy2⟩ := List.mem_filter.1 hy
      have hne : y.1 ≠ w.1 := by simpa using hy2
      rcases List.mem_cons.1 hy1 with rfl | hy3
      · refine Decidable.byContradiction fun hn => hne (less_tri hx hn)
      · have hxy := h1 y hy3
        refine Decidable.byContradiction fun hn => ?_
        by_cases e : x.1 = w.1
        · exact hn (e ▸ hxy)
        · have : w.1 < x.1 := Decidable.byContradiction fun hn2 => e (less_tri hx hn2)
          exact hn (less_trans this hxy)

theorem ins_flat {t : List Wr} (h : FlatW t) {w : Wr} (hw : flatG w = w) : FlatW (insW t w) := fun y hy => by
  rcases mem_ins hy with rfl | hy
  · exact hw
  · exact h y hy

theorem srt_ext : ∀ {a b : List Wr}, SrtW a → SrtW b → (∀ k, getW a k = getW b k) → a = b
  | [], [], _, _, _ => rfl
  | [], y :: r, _, _, h => by
    have := h y.1
    rw [show getW (y :: r) y.1 = some y by simp [getW]] at this
    cases this
  | x :: r, [], _, _, h => by
    have := h x.1
    rw [show getW (x :: r) x.1 = some x by simp [getW]] at this
    cases this
  | x :: r, y :: s, ha, hb, h => by
    obtain ⟨a1, a2⟩ := List.pairwise_cons.1 ha
    obtain ⟨b1, b2⟩ := List.pairwise_cons.1 hb
    have hx : x ∈ y :: s := getW_mem (k := x.1) (by rw [← h]; simp [getW])
    have hy : y ∈ x :: r := getW_mem (k := y.1) (by rw [h]; simp [getW])
    have e : x = y := by
      rcases List.mem_cons.1 hx with hx | hx
      · exact hx
      · rcases List.mem_cons.1 hy with hy | hy
        · exact hy.symm
        · exact absurd (b1 x hx) (less_asymm (a1 y hy))
    subst e
    refine congrArg _ (srt_ext a2 b2 fun k => ?_)
    have hk := h k
    unfold getW at hk ⊢
    rw [List.find?_cons, List.find?_cons] at hk
    by_cases e : x.1 = k
    · rw [List.find?_eq_none.2 fun z hz => by have := less_ne (a1 z hz); rw [e] at this; simpa using fun e2 => this e2.symm]
      rw [List.find?_eq_none.2 fun z hz => by have := less_ne (b1 z hz); rw [e] at this; simpa using fun e2 => this e2.symm]
    · have hb : (x.1 == k) = false := by simpa using e
      rw [hb] at hk
      exact hk

theorem filter_key_len {t : List Wr} (h : SrtW t) (k : List UInt8) : (t.filter fun y => y.1 != k).length + (if (getW t k).isSome = true then 1 else 0) = t.length := by
  induction t with
  | nil => rfl
  | cons x r ih =>
    obtain ⟨h1, h2⟩ := List.pairwise_cons.1 h
    have ih := ih h2
    rw [List.filter_cons]
    unfold getW at ih ⊢
    rw [List.find?_cons]
    by_cases e : x.1 = k
    · have hb : (x.1 != k) = false := by simpa using e
      have hb2 : (x.1 == k) = true := by simpa using e
      have hn : r.find? (fun w => w.1 == k) = none := List.find?_eq_none.2 fun z hz => by have := less_ne (h1 z hz); rw [e] at this; simpa using fun e2 => this e2.symm
      rw [hn] at ih
      rw [hb, hb2]
      simp at ih ⊢
      exact ih
    · have hb : (x.1 != k) = true := by simpa using e
      have hb2 : (x.1 == k) = false := by simpa using e
      rw [hb, hb2, if_pos rfl]
      simp only [List.length_cons]
      omega

theorem ins_len {t : List Wr} (h : SrtW t) (w : Wr) : (insW t w).length = t.length + if (getW t w.1).isSome = true then 0 else 1 := by
  induction t with
  | nil => rfl
  | cons x r ih =>
    obtain ⟨h1, h2⟩ := List.pairwise_cons.1 h
    unfold insW
    split
    · rename_i hx
      have hb2 : (x.1 == w.1) = false := by simpa using less_ne hx
      rw [List.length_cons, ih h2]
      unfold getW
      rw [List.find?_cons, hb2]
      simp only [List.length_cons]
      omega
    · have := filter_key_len h w.1
      rw [List.length_cons]
      split at this
      · rename_i hs
        rw [if_pos hs]
        omega
      · rename_i hs
        rw [if_neg hs]
        omega

section
variable {t l : List Wr}
theorem ofFrom_srt (h : SrtW t) (l : List Wr) : SrtW (ofFrom t l) := by
  induction l generalizing t with
  | nil => exact h
  | cons w r ih => exact ih (ins_srt h _)
theorem ofFrom_flat (h : FlatW t) (l : List Wr) : FlatW (ofFrom t l) := by
  induction l generalizing t with
  | nil => exact h
  | cons w r ih => exact ih (ins_flat h (flatG_flat w))
theorem ofW_srt (l : List Wr) : SrtW (ofW l) := ofFrom_srt List.Pairwise.nil l
theorem ofW_flat (l : List Wr) : FlatW (ofW l) := ofFrom_flat (fun _ h => by cases h) l
theorem ofFrom_snoc (t l : List Wr) (w : Wr) : ofFrom t (l ++ [w]) = insW (ofFrom t l) (flatG w) := by
  unfold ofFrom; rw [List.foldl_append]; rfl
theorem ofFrom_append (t a b : List Wr) : ofFrom t (a ++ b) = ofFrom (ofFrom t a) b := by
  unfold ofFrom; rw [List.foldl_append]
theorem ofW_take {k : Nat} {w : Wr} (h : l[k]? = some w) : ofW (l.take (k + 1)) = insW (ofW (l.take k)) (flatG w) := by
  obtain ⟨hk, rfl⟩ := List.getElem?_eq_some_iff.1 h
  rw [List.take_succ_eq_append_getElem hk]
  exact ofFrom_snoc _ _ _
theorem getW_from (t l : List Wr) (k : List UInt8) : getW (ofFrom t l) k = ((l.reverse.find? fun w => w.1 == k).map flatG).or (getW t k) := by
  induction l generalizing t with
  | nil => rfl
  | cons w r ih =>
    show getW (ofFrom (insW t (flatG w)) r) k = _
    rw [ih, getW_ins, flatG_key, List.reverse_cons, List.find?_append]
    cases r.reverse.find? (fun w => w.1 == k) with
    | some x => rfl
    | none =>
      by_cases e : k = w.1
      · subst e; simp
      · have hb : (w.1 == k) = false := by simpa using fun e2 => e e2.symm
        rw [if_neg e]; simp [hb]
theorem find_rev {k : List UInt8} (h : SrtW l) : (l.reverse.find? fun w => w.1 == k) = getW l k := by
  cases hg : getW l k with
  | none =>
    rw [List.find?_eq_none]
    intro x hx
    have := getW_none.1 hg x (List.mem_reverse.1 hx)
    simpa using this
  | some w =>
    have hk := getW_key hg
    have hm := getW_mem hg
    cases hf : l.reverse.find? (fun w => w.1 == k) with
    | none =>
      have := List.find?_eq_none.1 hf w (List.mem_reverse.2 hm)
      simp [hk] at this
    | some x =>
      have hx := List.mem_reverse.1 (List.mem_of_find?_eq_some hf)
      have hxk : x.1 = k := by simpa using List.find?_some hf
      have := getW_of_mem h hx
      rw [hxk, hg] at this
      exact this.symm
theorem getW_over (t : List Wr) (hl : SrtW l) (hf : FlatW l) (k : List UInt8) : getW (ofFrom t l) k = (getW l k).or (getW t k) := by
  rw [getW_from, find_rev hl]
  cases hg : getW l k with
  | none => rfl
  | some w => rw [Option.map_some, hf w (getW_mem hg)]
theorem ofW_self (h : SrtW t) (hf : FlatW t) : ofW t = t := srt_ext (ofW_srt t) h fun k => by
  show getW (ofFrom [] t) k = _
  rw [getW_over [] h hf]
  cases getW t k <;> rfl
theorem ofFrom_len (h : SrtW t) (l : List Wr) : (ofFrom t l).length ≤ t.length + l.length := by
  induction l generalizing t with
  | nil => exact Nat.le_refl _
  | cons w r ih =>
    have h1 := ih (ins_srt h (flatG w))
    have h2 := ins_len h (flatG w)
    show (ofFrom (insW t (flatG w)) r).length ≤ _
    simp only [List.length_cons]
    split at h2 <;> omega
theorem ofW_len (l : List Wr) : (ofW l).length ≤ l.length := by
  have := ofFrom_len (t := []) List.Pairwise.nil l
  simpa [ofW] using this
theorem getW_keep (hs : SrtW t) (whole : Bool) (k : List UInt8) : getW (keepW whole t) k = (getW t k).bind fun w => if whole && w.2.2 then none else some w := by
  cases hg : getW t k with
  | none =>
    show getW (keepW whole t) k = none
    rw [getW_none] at hg ⊢
    exact fun w hw => hg w (List.mem_filter.1 hw).1
  | some w =>
    have hk := getW_key hg
    have hm := getW_mem hg
    subst hk
    have hs' : SrtW (keepW whole t) := hs.sublist List.filter_sublist
    by_cases e : (whole && w.2.2) = true
    · show _ = if _ then _ else _
      rw [if_pos e, getW_none]
      intro x hx hxk
      have h1 := List.mem_filter.1 hx
      have h2 := getW_of_mem hs h1.1
      rw [hxk, hg] at h2
      injection h2 with h2
      subst h2
      revert e
      have h3 := h1.2
      cases whole <;> cases hw : w.2.2 <;> simp_all
    · show _ = if _ then _ else _
      rw [if_neg e]
      refine getW_of_mem hs' (List.mem_filter.2 ⟨hm, ?_⟩)
      revert e
      cases whole <;> cases hw : w.2.2 <;> simp
theorem keep_srt (h : SrtW t) (whole : Bool) : SrtW (keepW whole t) := h.sublist List.filter_sublist
theorem keep_flat (h : FlatW t) (whole : Bool) : FlatW (keepW whole t) := fun w hw => h w (List.mem_filter.1 hw).1
theorem keep_false (t : List Wr) : keepW false t = t := by unfold keepW; simp
end

end Go.Proofs.YtlchmkpnehbnlaaGreatDoor.Cd

/-
  Pairs by rising keys in plain Lean, as the document puts writes in; a tree's lists of writes, elder ones first; the least key of their beginnings. Conditions: none.
-/
namespace Go.Proofs.YtlchmkpnehbnlaaGreatDoor.Cd

abbrev Prs := List (List UInt8 × List UInt8)
def putQ : Prs → List UInt8 → List UInt8 → Prs
  | [], k, v => [(k, v)]
  | p :: r, k, v => if p.1 < k then p :: putQ r k v else (k, v) :: (p :: r).filter fun q => q.1 != k
def doneP (P : Prs) (w : Wr) : Prs := if w.2.2 then P.filter fun q => q.1 != w.1 else putQ P w.1 w.2.1
def allP (P : Prs) (ws : List Wr) : Prs := ws.foldl doneP P
def liveP (t : List Wr) : Prs := (t.filter fun w => !w.2.2).map fun w => (w.1, w.2.1)

theorem liveP_cons (x : Wr) (t : List Wr) : liveP (x :: t) = if x.2.2 then liveP t else (x.1, x.2.1) :: liveP t := by
  unfold liveP
  rw [List.filter_cons]
  cases x.2.2 <;> simp
theorem live_filter (t : List Wr) (k : List UInt8) : liveP (t.filter fun y => y.1 != k) = (liveP t).filter fun q => q.1 != k := by
  induction t with
  | nil => rfl
  | cons x r ih =>
    rw [List.filter_cons, liveP_cons]
    by_cases e : (x.1 != k) = true
    · rw [if_pos e, liveP_cons, ih]
      cases hx : x.2.2
      · simp only [Bool.false_eq_true, if_false]
        rw [List.filter_cons, if_pos (by exact e)]
      · rfl
    · rw [if_neg e, ih]
      cases hx : x.2.2
      · simp only [Bool.false_eq_true, if_false]
        rw [List.filter_cons, if_neg (by exact e)]
      · rfl
theorem live_mem {t : List Wr} {p : List UInt8 × List UInt8} (h : p ∈ liveP t) : ∃ w ∈ t, w.1 = p.1 := by
  obtain ⟨w, hw, rfl⟩ := List.mem_map.1 h
  exact ⟨w, (List.mem_filter.1 hw).1, rfl⟩
theorem put_low {P : Prs} {k v : List UInt8} (h : ∀ p ∈ P, ¬ p.1 < k) : putQ P k v = (k, v) :: P.filter fun q => q.1 != k := by
  cases P with
  | nil => rfl
  | cons p r => unfold putQ; rw [if_neg (h p (by simp))]

theorem put_live {t : List Wr} (h : SrtW t) (w : Wr) (hg : w.2.2 = false) : putQ (liveP t) w.1 w.2.1 = liveP (insW t w) := by
  induction t with
  | nil => simp [liveP, putQ, insW, hg]
  | cons x r ih =>
    obtain ⟨h1, h2⟩ := List.pairwise_cons.1 h
    unfold insW
    by_cases hx : x.1 < w.1
    · rw [if_pos hx, liveP_cons, liveP_cons]
      cases hg2 : x.2.2
      · simp only [Bool.false_eq_true, if_false]
        rw [← ih h2]
        show putQ ((x.1, x.2.1) :: liveP r) w.1 w.2.1 = _
        rw [putQ, if_pos (by exact hx)]
      · exact ih h2
    · rw [if_neg hx, liveP_cons w, hg]
      simp only [Bool.false_eq_true, if_false]
      rw [live_filter]
      refine put_low fun p hp => ?_
      obtain ⟨y, hy, he⟩ := live_mem hp
      rw [← he]
      rcases List.mem_cons.1 hy with rfl | hy
      · exact hx
      · exact fun h3 => hx (less_trans (h1 y hy) h3)
theorem out_live {t : List Wr} (h : SrtW t) (w : Wr) (hg : w.2.2 = true) : ((liveP t).filter fun q => q.1 != w.1) = liveP (insW t w) := by
  induction t with
  | nil => simp [liveP, insW, hg]
  | cons x r ih =>
    obtain ⟨h1, h2⟩ := List.pairwise_cons.1 h
    unfold insW
    by_cases hx : x.1 < w.1
    · rw [if_pos hx, liveP_cons, liveP_cons]
      have hne : (x.1 != w.1) = true := by simpa using less_ne hx
      cases hg2 : x.2.2
      · simp only [Bool.false_eq_true, if_false]
        rw [← ih h2, List.filter_cons, if_pos (by exact hne)]
      · exact ih h2
    · rw [if_neg hx, liveP_cons w, hg, if_pos rfl, live_filter]
theorem done_live {t : List Wr} (h : SrtW t) (w : Wr) : doneP (liveP t) w = liveP (insW t (flatG w)) := by
  unfold doneP flatG
  cases hg : w.2.2
  · simp only [Bool.false_eq_true, if_false]
    exact put_live h w hg
  · simp only [if_true]
    exact out_live h ⟨w.1, [], true⟩ rfl
theorem all_live {t : List Wr} (h : SrtW t) (ws : List Wr) : allP (liveP t) ws = liveP (ofFrom t ws) := by
  induction ws generalizing t with
  | nil => rfl
  | cons w r ih =>
    show allP (doneP (liveP t) w) r = liveP (ofFrom (insW t (flatG w)) r)
    rw [done_live h, ih (ins_srt h _)]
def Lists (ls : List (List Wr)) : Prop := ∀ l ∈ ls, SrtW l ∧ FlatW l
theorem Lists.cons {l : List Wr} {ls : List (List Wr)} (h : Lists (l :: ls)) : SrtW l ∧ FlatW l ∧ Lists ls :=
  ⟨(h l (by simp)).1, (h l (by simp)).2, fun m hm => h m (by simp [hm])⟩
def getL : List (List Wr) → List UInt8 → Option Wr
  | [], _ => none
  | l :: ls, k => (getL ls k).or (getW l k)
theorem flat_map {l : List Wr} (h : FlatW l) (k : List UInt8) : (getW l k).map flatG = getW l k := by
  cases hg : getW l k with
  | none => rfl
  | some w => rw [Option.map_some, h w (getW_mem hg)]
theorem getL_find {ls : List (List Wr)} (h : Lists ls) (k : List UInt8) : (ls.flatten.reverse.find? fun w => w.1 == k).map flatG = getL ls k := by
  induction ls with
  | nil => rfl
  | cons l r ih =>
    obtain ⟨h1, h2, h3⟩ := h.cons
    rw [List.flatten_cons, List.reverse_append, List.find?_append, find_rev h1, Option.map_or, ih h3, flat_map h2]
    rfl
theorem getW_lists {ls : List (List Wr)} (h : Lists ls) (k : List UInt8) : getW (ofW ls.flatten) k = getL ls k := by
  unfold ofW
  rw [getW_from, getL_find h]
  cases getL ls k <;> rfl

def leastW (b : Option Wr) : List (List Wr) → Option Wr
  | [] => b
  | [] :: ls => leastW b ls
  | (x :: _) :: ls => leastW (if b.all fun y => decide (¬ y.1 < x.1) then some x else b) ls
def dropK (k : List UInt8) : List Wr → List Wr
  | [] => []
  | x :: r => if x.1 = k then r else x :: r
def dropL (k : List UInt8) (ls : List (List Wr)) : List (List Wr) := ls.map (dropK k)

theorem dropK_sub (k : List UInt8) (l : List Wr) : (dropK k l).Sublist l := by
  cases l with
  | nil => exact List.Sublist.refl _
  | cons x r =>
    show (if x.1 = k then r else x :: r).Sublist (x :: r)
    split
    · exact List.sublist_cons_self x r
    · exact List.Sublist.refl _
theorem dropL_lists {ls : List (List Wr)} (h : Lists ls) (k : List UInt8) : Lists (dropL k ls) := fun m hm => by
  obtain ⟨l, hl, rfl⟩ := List.mem_map.1 hm
  exact ⟨(h l hl).1.sublist (dropK_sub k l), fun w hw => (h l hl).2 w ((dropK_sub k l).subset hw)⟩
theorem getW_dropK {l : List Wr} (h : SrtW l) {j k : List UInt8} (hj : k ≠ j) : getW (dropK j l) k = getW l k := by
  cases l with
  | nil => rfl
  | cons x r =>
    show getW (if x.1 = j then r else x :: r) k = _
    split
    · rename_i e
      have hb : (x.1 == k) = false := by rw [e]; simpa using fun e => hj e.symm
      unfold getW
      rw [List.find?_cons, hb]
    · rfl
theorem getL_dropL {ls : List (List Wr)} (h : Lists ls) {j k : List UInt8} (hj : k ≠ j) : getL (dropL j ls) k = getL ls k := by
  induction ls with
  | nil => rfl
  | cons l r ih =>
    obtain ⟨h1, h2, h3⟩ := h.cons
    show (getL (dropL j r) k).or (getW (dropK j l) k) = _
    rw [ih h3, getW_dropK h1 hj]
    rfl

theorem least_spec {ls : List (List Wr)} : ∀ {b : Option Wr} {w : Wr}, leastW b ls = some w →
    (∀ y, b = some y → ¬ y.1 < w.1) ∧ (∀ x r, (x :: r) ∈ ls → ¬ x.1 < w.1) ∧ ((b = some w ∧ ∀ x r, (x :: r) ∈ ls → x.1 ≠ w.1) ∨ ∃ a r c, ls = a ++ (w :: r) :: c ∧ ∀ x s, (x :: s) ∈ c → x.1 ≠ w.1) := by
  induction ls with
  | nil =>
    intro b w h
    have h : b = some w := h
    subst h
    exact ⟨fun y e => by injection e with e; subst e; exact less_irrefl _, (fun x r h => by cases h), .inl ⟨rfl, fun x r h => by cases h⟩⟩
  | cons l ls ih =>
    intro b w h
    cases l with
    | nil =>
      obtain ⟨h1, h2, h3⟩ := ih (b := b) h
      refine ⟨h1, fun x r hx => ?_, ?_⟩
      · rcases List.mem_cons.1 hx with e | hx
        · cases e
        · exact h2 x r hx
      · rcases h3 with ⟨e, h4⟩ | ⟨a, r, c, e, h4⟩
        · refine .inl ⟨e, fun x r hx => ?_⟩
          rcases List.mem_cons.1 hx with e | hx
          · cases e
          · exact h4 x r hx
        · exact .inr ⟨[] :: a, r, c, by rw [e]; rfl, h4⟩
    | cons z s =>
      have h : leastW (if b.all (fun y => decide (¬ y.1 < z.1)) then some z else b) ls = some w := h
      by_cases hb : b.all (fun y => decide (¬ y.1 < z.1)) = true
      · rw [if_pos hb] at h
        obtain ⟨h1, h2, h3⟩ := ih h
        have hz := h1 z rfl
        refine ⟨fun y e => ?_, fun x r hx => ?_, ?_⟩
        · subst e
          have : ¬ y.1 < z.1 := by simpa using hb
          exact fun h5 => by
            rcases Decidable.em (z.1 < y.1) with h6 | h6
            · exact hz (less_trans h6 h5)
            · exact hz (less_tri this h6 ▸ h5)
        · rcases List.mem_cons.1 hx with e | hx
          · injection e with e _; subst e; exact hz
          · exact h2 x r hx
        · rcases h3 with ⟨e, h4⟩ | ⟨a, r, c, e, h4⟩
          · injection e with e
            subst e
            exact .inr ⟨[], s, ls, rfl, h4⟩
          · exact .inr ⟨(z :: s) :: a, r, c, by rw [e]; rfl, h4⟩
      · rw [if_neg hb] at h
        obtain ⟨h1, h2, h3⟩ := ih h
        obtain ⟨y, hy⟩ : ∃ y, b = some y := by
          cases b with
          | none => exact absurd rfl hb
          | some y => exact ⟨y, rfl⟩
        have hyz : y.1 < z.1 := by subst hy; simpa using hb
        have hyw := h1 y hy
        have hzw : ¬ z.1 < w.1 := fun h5 => hyw (less_trans hyz h5)
        have hne : z.1 ≠ w.1 := fun e => hyw (e ▸ hyz)
        refine ⟨h1, fun x r hx => ?_, ?_⟩
        · rcases List.mem_cons.1 hx with e | hx
          · injection e with e _; subst e; exact hzw
          · exact h2 x r hx
        · rcases h3 with ⟨e, h4⟩ | ⟨a, r, c, e, h4⟩
          · refine .inl ⟨e, fun x r hx => ?_⟩
            rcases List.mem_cons.1 hx with e2 | hx
            · injection e2 with e2 _; subst e2; exact hne
            · exact h4 x r hx
          · exact .inr ⟨(z :: s) :: a, r, c, by rw [e]; rfl, h4⟩

theorem least_none : ∀ {ls : List (List Wr)} {b : Option Wr}, leastW b ls = none → b = none ∧ ∀ l ∈ ls, l = []
  | [], b, h => ⟨h, fun _ h => by cases h⟩
  | [] :: ls, b, h => by
    obtain ⟨h1, h2⟩ := least_none (ls := ls) (b := b) h
    exact ⟨h1, fun l hl => (List.mem_cons.1 hl).elim (fun e => e) (h2 l)⟩
  | (x :: r) :: ls, b, h => by
    have h : leastW (if b.all (fun y => decide (¬ y.1 < x.1)) then some x else b) ls = none := h
    obtain ⟨h1, _⟩ := least_none h
    split at h1
    · cases h1
    · rename_i hb
      subst h1
      exact absurd rfl hb

theorem getL_append (a b : List (List Wr)) (k : List UInt8) : getL (a ++ b) k = (getL b k).or (getL a k) := by
  induction a with
  | nil =>
    show getL b k = (getL b k).or none
    cases getL b k <;> rfl
  | cons l r ih =>
    show (getL (r ++ b) k).or (getW l k) = (getL b k).or ((getL r k).or (getW l k))
    rw [ih, Option.or_assoc]
theorem getL_mem {ls : List (List Wr)} {k : List UInt8} {y : Wr} (h : getL ls k = some y) : ∃ l ∈ ls, y ∈ l ∧ y.1 = k := by
  induction ls with
  | nil => cases h
  | cons l r ih =>
    rcases Option.or_eq_some_iff.1 h with h1 | ⟨_, h1⟩
    · obtain ⟨m, hm, h2⟩ := ih h1
      exact ⟨m, by simp [hm], h2⟩
    · exact ⟨l, by simp, getW_mem h1, getW_key h1⟩
theorem above_drop {l : List Wr} (h : SrtW l) {k : List UInt8} (hk : ∀ x r, l = x :: r → ¬ x.1 < k) : ∀ y ∈ dropK k l, k < y.1 := by
  cases l with
  | nil => intro y hy; cases hy
  | cons x r =>
    obtain ⟨h1, h2⟩ := List.pairwise_cons.1 h
    intro y hy
    have hx := hk x r rfl
    have hy : y ∈ (if x.1 = k then r else x :: r) := hy
    split at hy
    · rename_i e
      exact e ▸ h1 y hy
    · rename_i e
      have : k < x.1 := Decidable.byContradiction fun hn => e (less_tri hx hn)
      rcases List.mem_cons.1 hy with rfl | hy
      · exact this
      · exact less_trans this (h1 y hy)
theorem least_cons {ls : List (List Wr)} (h : Lists ls) {w : Wr} (hw : leastW none ls = some w) : ofW ls.flatten = w :: ofW (dropL w.1 ls).flatten := by
  obtain ⟨_, h2, h3⟩ := least_spec hw
  have hd := dropL_lists h w.1
  have hab : ∀ y ∈ ofW (dropL w.1 ls).flatten, w.1 < y.1 := fun y hy => by
    have := getW_of_mem (ofW_srt _) hy
    rw [getW_lists hd] at this
    obtain ⟨m, hm, hy2, _⟩ := getL_mem this
    obtain ⟨l, hl, rfl⟩ := List.mem_map.1 hm
    exact above_drop (h l hl).1 (fun x r e => h2 x r (e ▸ hl)) y hy2
  refine srt_ext (ofW_srt _) (List.pairwise_cons.2 ⟨hab, ofW_srt _⟩) fun k => ?_
  rw [getW_lists h]
  unfold getW
  rw [List.find?_cons]
  by_cases e : w.1 = k
  · have hb : (w.1 == k) = true := by simpa using e
    rw [hb]
    subst e
    rcases h3 with ⟨e, _⟩ | ⟨a, r, c, e, h4⟩
    · cases e
    · have hc : getL c w.1 = none := by
        cases hg : getL c w.1 with
        | none => rfl
        | some y =>
          obtain ⟨l, hl, hy, hk⟩ := getL_mem hg
          have hl2 : l ∈ ls := by rw [e]; simp [hl]
          cases l with
          | nil => cases hy
          | cons x s =>
            have h5 := h2 x s hl2
            have h6 := h4 x s hl
            rcases List.mem_cons.1 hy with rfl | hy
            · exact absurd hk h6
            · have := (List.pairwise_cons.1 (h _ hl2).1).1 y hy
              exact absurd (hk ▸ this) h5
      rw [e, getL_append]
      have : getL ((w :: r) :: c) w.1 = some w := by
        show (getL c w.1).or (getW (w :: r) w.1) = _
        rw [hc]
        simp [getW]
      rw [this]
      rfl
  · have hb : (w.1 == k) = false := by simpa using e
    rw [hb]
    show getL ls k = getW (ofW (dropL w.1 ls).flatten) k
    rw [getW_lists hd, getL_dropL h (fun e2 => e e2.symm)]
theorem least_nil {ls : List (List Wr)} (hw : leastW none ls = none) : ofW ls.flatten = [] := by
  have h2 := (least_none hw).2
  rw [List.flatten_eq_nil_iff.2 h2]
  rfl

def fromW (k : List UInt8) (t : List Wr) : List Wr := t.filter fun w => decide (¬ w.1 < k)
theorem fromW_srt {t : List Wr} (h : SrtW t) (k : List UInt8) : SrtW (fromW k t) := h.sublist List.filter_sublist
theorem fromW_lists {ls : List (List Wr)} (h : Lists ls) (k : List UInt8) : Lists (ls.map (fromW k)) := fun m hm => by
  obtain ⟨l, hl, rfl⟩ := List.mem_map.1 hm
  exact ⟨fromW_srt (h l hl).1 k, fun w hw => (h l hl).2 w (List.mem_filter.1 hw).1⟩
theorem getW_fromW (t : List Wr) (k j : List UInt8) : getW (fromW k t) j = if j < k then none else getW t j := by
  induction t with
  | nil => unfold fromW getW; simp
  | cons x r ih =>
    unfold fromW at ih ⊢
    rw [List.filter_cons]
    by_cases hx : x.1 < k
    · rw [if_neg (by simpa using hx), ih]
      split
      · rfl
      · rename_i hj
        have hb : (x.1 == j) = false := by
          rw [beq_eq_false_iff_ne]
          exact fun e => hj (e ▸ hx)
        unfold getW
        rw [List.find?_cons, hb]
    · rw [if_pos (by simpa using hx)]
      unfold getW at ih ⊢
      rw [List.find?_cons, List.find?_cons]
      by_cases e : x.1 = j
      · have hb : (x.1 == j) = true := by simpa using e
        rw [hb, if_neg (by rw [← e]; exact hx)]
      · have hb : (x.1 == j) = false := by simpa using e
        rw [hb]
        exact ih
theorem getL_fromW (ls : List (List Wr)) (k j : List UInt8) : getL (ls.map (fromW k)) j = if j < k then none else getL ls j := by
  induction ls with
  | nil => show none = _; split <;> rfl
  | cons l r ih =>
    show (getL (r.map (fromW k)) j).or (getW (fromW k l) j) = _
    rw [ih, getW_fromW]
    split <;> rfl
theorem from_lists {ls : List (List Wr)} (h : Lists ls) (k : List UInt8) : ofW (ls.map (fromW k)).flatten = fromW k (ofW ls.flatten) :=
  srt_ext (ofW_srt _) (fromW_srt (ofW_srt _) k) fun j => by rw [getW_lists (fromW_lists h k), getL_fromW, getW_fromW, getW_lists h]
def scanP (P : Prs) (k : List UInt8) (n : Nat) : Prs := (P.filter fun p => decide (¬ p.1 < k)).take n
theorem live_from (t : List Wr) (k : List UInt8) : liveP (fromW k t) = (liveP t).filter fun p => decide (¬ p.1 < k) := by
  induction t with
  | nil => rfl
  | cons x r ih =>
    unfold fromW at ih ⊢
    rw [List.filter_cons, liveP_cons]
    by_cases hx : x.1 < k
    · rw [if_neg (by simpa using hx), ih]
      cases x.2.2
      · simp only [Bool.false_eq_true, if_false]
        rw [List.filter_cons, if_neg (by simpa using hx)]
      · rfl
    · rw [if_pos (by simpa using hx), liveP_cons, ih]
      cases x.2.2
      · simp only [Bool.false_eq_true, if_false]
        rw [List.filter_cons, if_pos (by simpa using hx)]
      · rfl

def treeP (tabs : List (List Wr)) (mem : List Wr) : Prs := liveP (ofW (tabs ++ [mem]).flatten)
theorem treeP_eq (tabs : List (List Wr)) (mem : List Wr) : treeP tabs mem = allP (liveP (ofW tabs.flatten)) mem := by
  unfold treeP
  rw [List.flatten_append, List.flatten_singleton, all_live (ofW_srt _)]
  unfold ofW
  rw [ofFrom_append]
theorem live_keep (t : List Wr) : liveP (keepW true t) = liveP t := by
  unfold liveP keepW
  rw [List.filter_filter]
  congr 2
  funext w
  simp
theorem treeP_remember (tabs : List (List Wr)) {mem : List Wr} (h : SrtW mem) (hf : FlatW mem) (ws : List Wr) : treeP tabs (ofFrom mem ws) = allP (treeP tabs mem) ws := by
  have hX := ofW_srt tabs.flatten
  rw [treeP_eq, treeP_eq, all_live hX, all_live hX, all_live (ofFrom_srt hX _)]
  congr 1
  refine srt_ext (ofFrom_srt hX _) (ofFrom_srt (ofFrom_srt hX _) _) fun k => ?_
  rw [getW_over _ (ofFrom_srt h ws) (ofFrom_flat hf ws), getW_from, getW_from, getW_over _ h hf, Option.or_assoc]
theorem treeP_lay (tabs : List (List Wr)) (mem : List Wr) : treeP (tabs ++ [mem]) [] = treeP tabs mem := by
  unfold treeP
  congr 2
  simp
theorem treeP_join (tabs : List (List Wr)) (mem : List Wr) : treeP [keepW true (ofW tabs.flatten)] mem = treeP tabs mem := by
  rw [treeP_eq, treeP_eq, List.flatten_singleton, ofW_self (keep_srt (ofW_srt _) true) (keep_flat (ofW_flat _) true), live_keep]
theorem ofW_of (l : List Wr) : ofW (ofW l) = ofW l := ofW_self (ofW_srt l) (ofW_flat l)
theorem getL_tree {tabs : List (List Wr)} {mem : List Wr} (h : Lists (tabs ++ [mem])) (k : List UInt8) : getW (ofW (tabs ++ [mem]).flatten) k = getL (tabs ++ [mem]) k := getW_lists h k
theorem live_get {t : List Wr} (h : SrtW t) (k : List UInt8) : (liveP t).find? (fun p => p.1 == k) = (getW t k).bind fun w => if w.2.2 then none else some (w.1, w.2.1) := by
  induction t with
  | nil => rfl
  | cons x r ih =>
    obtain ⟨h1, h2⟩ := List.pairwise_cons.1 h
    have ih := ih h2
    unfold getW at ih ⊢
    rw [liveP_cons, List.find?_cons]
    by_cases e : x.1 = k
    · have hb : (x.1 == k) = true := by simpa using e
      rw [hb]
      cases hg : x.2.2
      · simp [hb, hg]
      · simp only [if_true, Option.bind_some, hg]
        rw [ih, List.find?_eq_none.2 fun y hy => by have := less_ne (h1 y hy); rw [e] at this; simpa using fun e2 => this e2.symm]
        rfl
    · have hb : (x.1 == k) = false := by simpa using e
      rw [hb]
      cases hg : x.2.2
      · simp only [Bool.false_eq_true, if_false]
        rw [List.find?_cons]
        simp only [hb]
        exact ih
      · exact ih
theorem scan_next {ls : List (List Wr)} (h : Lists ls) {w : Wr} (hw : leastW none ls = some w) : liveP (ofW ls.flatten) = if w.2.2 then liveP (ofW (dropL w.1 ls).flatten) else (w.1, w.2.1) :: liveP (ofW (dropL w.1 ls).flatten) := by
  rw [least_cons h hw, liveP_cons]
theorem scan_tree {tabs : List (List Wr)} {mem : List Wr} (h : Lists (tabs ++ [mem])) (k : List UInt8) (n : Nat) : (liveP (ofW ((tabs ++ [mem]).map (fromW k)).flatten)).take n = scanP (treeP tabs mem) k n := by
  rw [from_lists h, live_from]
  rfl

end Go.Proofs.YtlchmkpnehbnlaaGreatDoor.Cd

/-
  A disk, as the document tells of it: files of pages, what is safe, what waits; and what its lists answer. No Go in sight. Conditions: none.
-/
namespace Go.Proofs.YtlchmkpnehbnlaaGreatDoor.Cd

structure Fil where
  name : List UInt8
  pages : List (List UInt8)
structure Wrt where
  name : List UInt8
  page : Nat
  data : List UInt8
structure Dsk where
  now : List Fil
  safe : List Fil
  waits : List Wrt
  room : Nat
  off : Bool
  acts : Nat
  fuse : Nat
  keep : Nat

def getF : List Fil → List UInt8 → Option Fil
  | [], _ => none
  | f :: r, n => if f.name = n then some f else getF r n
def pagesF (l : List Fil) (n : List UInt8) : List (List UInt8) := match getF l n with
  | some f => f.pages
  | none => []
def without (l : List Fil) (n : List UInt8) : List Fil := l.filter fun f => decide (f.name ≠ n)
def putF : List Fil → Fil → List Fil
  | [], x => [x]
  | f :: r, x => if f.name < x.name then f :: putF r x else x :: without (f :: r) x.name

theorem getF_name {l : List Fil} {n : List UInt8} {f : Fil} (h : getF l n = some f) : f.name = n := by
  induction l with
  | nil => cases h
  | cons g r ih =>
    rw [getF] at h
    by_cases e : g.name = n
    · rw [if_pos e] at h; injection h with h; rw [← h]; exact e
    · rw [if_neg e] at h; exact ih h

theorem getF_without (l : List Fil) (n m : List UInt8) : getF (without l n) m = if m = n then none else getF l m := by
  induction l with
  | nil => simp [without, getF]
  | cons f r ih =>
    unfold without at ih ⊢
    by_cases e : f.name = n
    · rw [List.filter_cons_of_neg (by simp [e]), ih, getF]
      by_cases e2 : m = n
      · rw [if_pos e2, if_pos e2]
      · rw [if_neg e2, if_neg e2, if_neg (fun h => e2 (by rw [← h, e]))]
    · rw [List.filter_cons_of_pos (by simp [e]), getF, ih, getF]
      by_cases e2 : m = n
      · rw [if_pos e2, if_neg (fun h => e (by rw [h, e2]))]
        simp [e2]
      · rw [if_neg e2, if_neg e2]

theorem getF_put (l : List Fil) (x : Fil) (m : List UInt8) : getF (putF l x) m = if m = x.name then some x else getF l m := by
  induction l with
  | nil =>
    simp only [putF, getF]
    by_cases e : x.name = m
    · rw [if_pos e, if_pos e.symm]
    · rw [if_neg e, if_neg (fun h => e h.symm)]
  | cons f r ih =>
    rw [putF]
    by_cases hlt : f.name < x.name
    · rw [if_pos hlt, getF, ih, getF]
      by_cases e : f.name = m
      · rw [if_pos e, if_pos e]
        have hne : ¬ m = x.name := by
          intro h
          rw [← e] at h
          rw [h] at hlt
          exact List.lt_irrefl _ hlt
        rw [if_neg hne]
      · rw [if_neg e, if_neg e]
    · rw [if_neg hlt, getF]
      by_cases e : x.name = m
      · rw [if_pos e, if_pos e.symm]
      · rw [if_neg e, if_neg (fun h => e h.symm), getF_without, if_neg (fun h => e h.symm)]

theorem pagesF_put (l : List Fil) (x : Fil) (m : List UInt8) : pagesF (putF l x) m = if m = x.name then x.pages else pagesF l m := by
  unfold pagesF
  rw [getF_put]
  by_cases e : m = x.name
  · rw [if_pos e, if_pos e]
  · rw [if_neg e, if_neg e]

def count : List Fil → Nat
  | [] => 0
  | f :: r => f.pages.length + count r
def Once (l : List Fil) : Prop := (l.map Fil.name).Nodup
theorem once_nil : Once [] := List.nodup_nil
theorem getF_none {l : List Fil} {n : List UInt8} : getF l n = none ↔ n ∉ l.map Fil.name := by
  induction l with
  | nil => simp [getF]
  | cons f r ih =>
    rw [getF, List.map_cons, List.mem_cons]
    by_cases e : f.name = n
    · rw [if_pos e]; simp [e]
    · rw [if_neg e, ih]
      constructor
      · rintro h (h2 | h2)
        · exact e h2.symm
        · exact h h2
      · intro h h2
        exact h (.inr h2)

theorem without_none {l : List Fil} {n : List UInt8} (h : getF l n = none) : without l n = l := by
  unfold without
  rw [List.filter_eq_self]
  intro f hf
  have h2 := getF_none.1 h
  simp only [decide_eq_true_eq]
  intro e
  exact h2 (List.mem_map.2 ⟨f, hf, e⟩)

theorem count_without {l : List Fil} (h : Once l) (n : List UInt8) : count (without l n) + (pagesF l n).length = count l := by
  induction l with
  | nil => simp [without, count, pagesF, getF]
  | cons f r ih =>
    have h1 : f.name ∉ r.map Fil.name := (List.nodup_cons.1 h).1
    have h2 : Once r := (List.nodup_cons.1 h).2
    have ih := ih h2
    by_cases e : f.name = n
    · have hn : getF r n = none := getF_none.2 (by rw [← e]; exact h1)
      have e2 : without (f :: r) n = r := by
        have := without_none hn
        unfold without at this ⊢
        rw [List.filter_cons_of_neg (by simp [e]), this]
      rw [e2]
      unfold pagesF
      rw [getF, if_pos e]
      simp only [count]
      omega
    · have e2 : without (f :: r) n = f :: without r n := by unfold without; rw [List.filter_cons_of_pos (by simp [e])]
      have e3 : pagesF (f :: r) n = pagesF r n := by unfold pagesF; rw [getF, if_neg e]
      rw [e2, e3]
      simp only [count]
      omega

theorem without_once {l : List Fil} (h : Once l) (n : List UInt8) : Once (without l n) := by
  unfold Once without at *
  induction l with
  | nil => exact h
  | cons f r ih =>
    have h1 := List.nodup_cons.1 h
    by_cases e : f.name = n
    · rw [List.filter_cons_of_neg (by simp [e])]; exact ih h1.2
    · rw [List.filter_cons_of_pos (by simp [e]), List.map_cons, List.nodup_cons]
      refine ⟨fun hm => h1.1 ?_, ih h1.2⟩
      obtain ⟨g, hg, hn⟩ := List.mem_map.1 hm
      exact List.mem_map.2 ⟨g, (List.mem_filter.1 hg).1, hn⟩

theorem put_names (l : List Fil) (x : Fil) (m : List UInt8) : m ∈ (putF l x).map Fil.name ↔ m = x.name ∨ m ∈ l.map Fil.name := by
  have h := getF_put l x m
  by_cases e : m = x.name
  · rw [if_pos e] at h
    refine ⟨fun _ => .inl e, fun _ => ?_⟩
    apply Classical.byContradiction
    intro hc
    rw [getF_none.2 hc] at h
    cases h
  · rw [if_neg e] at h
    constructor
    · intro hm
      refine .inr ?_
      apply Classical.byContradiction
      intro hc
      rw [getF_none.2 hc] at h
      exact getF_none.1 h hm
    · rintro (h1 | h1)
      · exact absurd h1 e
      · apply Classical.byContradiction
        intro hc
        rw [getF_none.2 hc] at h
        exact getF_none.1 h.symm h1

theorem put_once {l : List Fil} (h : Once l) (x : Fil) : Once (putF l x) := by
  induction l with
  | nil => simp [Once, putF]
  | cons f r ih =>
    have h1 := List.nodup_cons.1 h
    rw [putF]
    by_cases hlt : f.name < x.name
    · rw [if_pos hlt]
      refine List.nodup_cons.2 ⟨fun hm => ?_, ih h1.2⟩
      rcases (put_names r x f.name).1 hm with e | e
      · rw [e] at hlt; exact List.lt_irrefl _ hlt
      · exact h1.1 e
    · rw [if_neg hlt]
      refine List.nodup_cons.2 ⟨fun hm => ?_, without_once h x.name⟩
      have := getF_without (f :: r) x.name x.name
      rw [if_pos rfl] at this
      exact getF_none.1 this hm

theorem count_put {l : List Fil} (h : Once l) (x : Fil) : count (putF l x) + (pagesF l x.name).length = count l + x.pages.length := by
  induction l with
  | nil => simp [putF, count, pagesF, getF]
  | cons f r ih =>
    have h1 := List.nodup_cons.1 h
    have ih := ih h1.2
    rw [putF]
    by_cases hlt : f.name < x.name
    · have hne : ¬ f.name = x.name := fun e => by rw [e] at hlt; exact List.lt_irrefl _ hlt
      have e3 : pagesF (f :: r) x.name = pagesF r x.name := by unfold pagesF; rw [getF, if_neg hne]
      rw [if_pos hlt, e3]
      simp only [count]
      omega
    · have := count_without h x.name
      rw [if_neg hlt]
      simp only [count] at this ⊢
      omega

def nought : List UInt8 := List.replicate 512 0
def setP (p : List (List UInt8)) (i : Nat) (d : List UInt8) : List (List UInt8) := (p ++ List.replicate (i + 1 - p.length) nought).set i d
theorem setP_len (p : List (List UInt8)) (i : Nat) (d : List UInt8) : (setP p i d).length = max p.length (i + 1) := by
  simp [setP]; omega
theorem setP_in {p : List (List UInt8)} {i : Nat} (h : i < p.length) (d : List UInt8) : setP p i d = p.set i d := by
  unfold setP
  rw [show i + 1 - p.length = 0 by omega]
  simp
theorem setP_end (p : List (List UInt8)) (d : List UInt8) : setP p p.length d = p ++ [d] := by
  unfold setP
  rw [show p.length + 1 - p.length = 1 by omega, List.set_append_right _ _ (Nat.le_refl _)]
  simp
def pad (b : List UInt8) : List UInt8 := b ++ List.replicate (512 - b.length) 0
theorem pad_len {b : List UInt8} (h : b.length ≤ 512) : (pad b).length = 512 := by simp [pad]; omega

def keepBit (keep i : Nat) : Bool := keep / 2 ^ (i % 64) % 2 == 1
def keeps (keep : Nat) : Nat → List Wrt → List Fil → List Fil
  | _, [], s => s
  | i, w :: r, s => keeps keep (i + 1) r (if keepBit keep i = true then putF s ⟨w.name, setP (pagesF s w.name) w.page w.data⟩ else s)
def there : List Fil → List Fil → List Fil
  | [], s => s
  | f :: r, s => there r (if (getF s f.name).isSome = true then s else putF s ⟨f.name, []⟩)
def lose (D : Dsk) (keep : Nat) : Dsk :=
  if D.off = true then D else
    { D with now := there D.now (keeps keep 0 D.waits D.safe), safe := there D.now (keeps keep 0 D.waits D.safe), waits := [], off := true, fuse := 0 }

theorem keeps_once {keep : Nat} (ws : List Wrt) : ∀ (i : Nat) (s : List Fil), Once s → Once (keeps keep i ws s) := by
  induction ws with
  | nil => intro i s h; exact h
  | cons w r ih =>
    intro i s h
    rw [keeps]
    refine ih _ _ ?_
    split
    · exact put_once h _
    · exact h
theorem there_once (l : List Fil) : ∀ (s : List Fil), Once s → Once (there l s) := by
  induction l with
  | nil => intro s h; exact h
  | cons f r ih =>
    intro s h
    rw [there]
    refine ih _ ?_
    split
    · exact h
    · exact put_once h _

theorem there_some (l : List Fil) : ∀ (s : List Fil) (n : List UInt8) (f : Fil), getF s n = some f → getF (there l s) n = some f := by
  induction l with
  | nil => intro s n f h; exact h
  | cons g r ih =>
    intro s n f h
    rw [there]
    refine ih _ _ _ ?_
    by_cases hs : (getF s g.name).isSome = true
    · rw [if_pos hs]; exact h
    · rw [if_neg hs, getF_put]
      have hne : ¬ n = g.name := fun e => by rw [← e, h] at hs; exact hs rfl
      show (if n = g.name then _ else _) = _
      rw [if_neg hne]
      exact h

theorem there_none (l : List Fil) : ∀ (s : List Fil) (n : List UInt8), getF s n = none → getF (there l s) n = if (getF l n).isSome = true then some ⟨n, []⟩ else none := by
  induction l with
  | nil => intro s n h; simpa [there, getF] using h
  | cons g r ih =>
    intro s n h
    rw [there, getF]
    by_cases e : g.name = n
    · rw [if_pos e]
      have hs : ¬ (getF s g.name).isSome = true := by rw [e, h]; simp
      rw [if_neg hs, there_some r _ n ⟨n, []⟩ (by rw [getF_put, if_pos (by exact e.symm)]; rw [e])]
      simp
    · rw [if_neg e]
      refine ih _ _ ?_
      by_cases hs : (getF s g.name).isSome = true
      · rw [if_pos hs]; exact h
      · rw [if_neg hs, getF_put]
        show (if n = g.name then _ else _) = _
        rw [if_neg (fun h2 => e h2.symm)]
        exact h

theorem keeps_short {keep : Nat} {n : List UInt8} {L : Nat} (ws : List Wrt) : ∀ (i : Nat) (s : List Fil), (∀ w ∈ ws, w.name = n → w.page < L) → (pagesF s n).length ≤ L → (pagesF (keeps keep i ws s) n).length ≤ L := by
  induction ws with
  | nil => intro i s _ h; exact h
  | cons w r ih =>
    intro i s hw h
    rw [keeps]
    refine ih _ _ (fun x hx => hw x (List.mem_cons_of_mem w hx)) ?_
    split
    · rw [pagesF_put]
      split
      · rename_i e
        have hp := hw w (by simp) e.symm
        have e2 : n = w.name := e
        show (setP _ _ _).length ≤ L
        rw [setP_len, ← e2]
        omega
      · exact h
    · exact h

def newD (room : Int) : Dsk := ⟨[], [], [], (if room < 0 then 0 else if 4096 < room then 4096 else room.toNat), false, 0, 0, 0⟩
def freeD (D : Dsk) : Int := (D.room : Int) - (count D.now : Int)
def actD (D : Dsk) : Dsk := { D with acts := D.acts + 1, fuse := D.fuse - 1 }
def onD (D : Dsk) : Dsk := { D with off := false }
def ends (D D1 : Dsk) (e : Nat) : Dsk × Nat := if D.fuse = 1 then (lose D1 D.keep, 8) else (D1, e)
def wrote (D : Dsk) (n : List UInt8) (i : Nat) (b : List UInt8) : Dsk :=
  { actD D with now := putF D.now ⟨n, setP (pagesF D.now n) i (pad b)⟩, waits := D.waits ++ [⟨n, i, pad b⟩] }
def writeD (D : Dsk) (n : List UInt8) (i : Int) (b : List UInt8) : Dsk × Nat :=
  if D.off = true then (D, 8) else if 512 < b.length then (D, 3) else if i < 0 ∨ ((pagesF D.now n).length : Int) < i then (D, 1)
  else if i = ((pagesF D.now n).length : Int) ∧ freeD D = 0 then (D, 7) else ends D (wrote D n i.toNat b) 0
def readD (D : Dsk) (n : List UInt8) (i : Int) : List UInt8 × Nat :=
  if D.off = true then ([], 8) else if i < 0 ∨ ((pagesF D.now n).length : Int) ≤ i then ([], 5) else ((pagesF D.now n).getD i.toNat [], 0)
def mayD (D : Dsk) (n : List UInt8) : Dsk × Nat :=
  if D.off = true then (D, 8) else if (getF D.now n).isSome = false then (D, 5) else ends D (actD D) 0
def dropW (ws : List Wrt) (n : List UInt8) (k : Nat) : List Wrt := ws.filter fun w => decide (w.name ≠ n ∨ w.page < k)
def syncs (D : Dsk) (n : List UInt8) : Dsk := { D with safe := putF D.safe ⟨n, pagesF D.now n⟩, waits := dropW D.waits n 0 }
def syncD (D : Dsk) (n : List UInt8) : Dsk × Nat := if (mayD D n).2 = 0 then (syncs (mayD D n).1 n, 0) else mayD D n
def cuts (D : Dsk) (n : List UInt8) (k : Nat) : Dsk :=
  { D with now := putF D.now ⟨n, (pagesF D.now n).take k⟩, safe := putF D.safe ⟨n, (pagesF D.safe n).take k⟩, waits := dropW D.waits n k }
def cutD (D : Dsk) (n : List UInt8) (k : Int) : Dsk × Nat :=
  if D.off = false ∧ (getF D.now n).isSome = true ∧ k < 0 then (D, 1) else if (mayD D n).2 = 0 then (cuts (mayD D n).1 n k.toNat, 0) else mayD D n
def renames (D : Dsk) (a b : List UInt8) : Dsk :=
  { D with now := putF (without D.now a) ⟨b, pagesF D.now a⟩, safe := putF (without D.safe a) ⟨b, pagesF D.safe a⟩, waits := (dropW D.waits b 0).map fun w => if w.name = a then ⟨b, w.page, w.data⟩ else w }
def renameD (D : Dsk) (a b : List UInt8) : Dsk × Nat := if (mayD D a).2 = 0 ∧ a ≠ b then (renames (mayD D a).1 a b, 0) else mayD D a
def removes (D : Dsk) (n : List UInt8) : Dsk := { D with now := without D.now n, safe := without D.safe n, waits := dropW D.waits n 0 }
def removeD (D : Dsk) (n : List UInt8) : Dsk × Nat := if (mayD D n).2 = 0 then (removes (mayD D n).1 n, 0) else mayD D n
theorem lose_again {D : Dsk} (h : D.off = true) (keep : Nat) : lose D keep = D := by unfold lose; rw [if_pos h]
theorem lose_now {D : Dsk} (h : D.off = false) (keep : Nat) : (lose D keep).now = there D.now (keeps keep 0 D.waits D.safe) := by unfold lose; rw [if_neg (by rw [h]; simp)]

end Go.Proofs.YtlchmkpnehbnlaaGreatDoor.Cd

/-
  What a loss of power leaves of pages that are written in their places: no Go in sight. Conditions: none.
-/
namespace Go.Proofs.YtlchmkpnehbnlaaGreatDoor.Cd

theorem may_ok {D : Dsk} {n : List UInt8} (h : D.off = false) (h2 : (getF D.now n).isSome = true) : mayD D n = ends D (actD D) 0 := by
  unfold mayD
  rw [if_neg (by rw [h]; simp), if_neg (by rw [h2]; simp)]

end Go.Proofs.YtlchmkpnehbnlaaGreatDoor.Cd

/-
  What the calls leave of files that are written at their ends, cut, renamed and removed: no Go in sight. Conditions: none.
-/
namespace Go.Proofs.YtlchmkpnehbnlaaGreatDoor.Cd

theorem ends_calm {D D1 : Dsk} {e : Nat} (h : D.fuse ≠ 1) : ends D D1 e = (D1, e) := if_neg h

theorem wrote_is (D : Dsk) (n b : List UInt8) (i : Nat) (m : List UInt8) : (getF (wrote D n i b).now m).isSome = if m = n then true else (getF D.now m).isSome := by
  show (getF (putF D.now ⟨n, setP (pagesF D.now n) i (pad b)⟩) m).isSome = _
  rw [getF_put]
  by_cases e : m = n
  · rw [if_pos e, if_pos (by exact e)]; rfl
  · rw [if_neg e, if_neg (by exact e)]
theorem sync_calm {D : Dsk} {n : List UInt8} (h : D.off = false) (h2 : (getF D.now n).isSome = true) (hf : D.fuse ≠ 1) : syncD D n = (syncs (actD D) n, 0) := by
  unfold syncD
  rw [may_ok h h2, ends_calm hf, if_pos rfl]
theorem remove_calm {D : Dsk} {n : List UInt8} (h : D.off = false) (h2 : (getF D.now n).isSome = true) (hf : D.fuse ≠ 1) : removeD D n = (removes (actD D) n, 0) := by
  unfold removeD
  rw [may_ok h h2, ends_calm hf, if_pos rfl]

structure Roomy (D : Dsk) (room k : Nat) : Prop where
  off : D.off = false
  fuse : D.fuse = 0
  once : Once D.now
  room : D.room = room
  count : count D.now = k

theorem new_roomy {room : Nat} (h : room ≤ 4096) : Roomy (newD room) room 0 :=
  ⟨rfl, rfl, once_nil, by show (if (room : Int) < 0 then 0 else if (4096 : Int) < room then 4096 else (room : Int).toNat) = room; rw [if_neg (by omega), if_neg (by omega), Int.toNat_natCast], rfl⟩
theorem Roomy.free {D : Dsk} {room k : Nat} (h : Roomy D room k) : freeD D = (room : Int) - k := by unfold freeD; rw [h.room, h.count]
theorem pages_of_none {l : List Fil} {n : List UInt8} (h : (getF l n).isSome = false) : pagesF l n = [] := by
  unfold pagesF
  cases hg : getF l n with
  | none => rfl
  | some f => rw [hg] at h; cases h
theorem Roomy.remove {D : Dsk} {room k : Nat} (h : Roomy D room k) {n : List UInt8} (h2 : (getF D.now n).isSome = true) :
    (removeD D n).2 = 0 ∧ Roomy (removeD D n).1 room (k - (pagesF D.now n).length) ∧ (pagesF D.now n).length ≤ k := by
  rw [remove_calm h.off h2 (by rw [h.fuse]; omega)]
  have hw := count_without h.once n
  have hk := h.count
  exact ⟨rfl, ⟨h.off, by show D.fuse - 1 = 0; rw [h.fuse], without_once h.once _, h.room, by show Cd.count (without D.now n) = _; omega⟩, by omega⟩

end Go.Proofs.YtlchmkpnehbnlaaGreatDoor.Cd

/-
  Plain facts on numbers as bytes, seven bits a byte: no Go in sight. Conditions: none.
-/
namespace Go.Proofs.YtlchmkpnehbnlaaGreatDoor.Cd

def lo8 (n : Nat) : UInt8 := UInt8.ofNat n
def hi8 (n : Nat) : UInt8 := UInt8.ofNat (128 + n % 128)

theorem lo8_nat {n : Nat} (h : n < 128) : (lo8 n).toNat = n := by unfold lo8; rw [UInt8.toNat_ofNat']; omega
theorem hi8_nat (n : Nat) : (hi8 n).toNat = 128 + n % 128 := by unfold hi8; rw [UInt8.toNat_ofNat']; omega

def enc (n : Nat) : List UInt8 := if n < 128 then [lo8 n] else hi8 n :: enc (n / 128)
termination_by n
decreasing_by omega

theorem enc_lo {n : Nat} (h : n < 128) : enc n = [lo8 n] := by rw [enc, if_pos h]
theorem enc_hi {n : Nat} (h : 128 ≤ n) : enc n = hi8 n :: enc (n / 128) := by rw [enc, if_neg (by omega)]

theorem enc_pos (n : Nat) : 1 ≤ (enc n).length := by
  rw [enc]; split <;> simp

theorem enc_mono (m n : Nat) (h : m ≤ n) : (enc m).length ≤ (enc n).length := by
  induction n using Nat.strongRecOn generalizing m with
  | _ n ih =>
    by_cases hm : m < 128
    · rw [enc_lo hm]; exact enc_pos n
    · rw [enc_hi (n := m) (by omega), enc_hi (n := n) (by omega)]
      simp only [List.length_cons]
      have := ih (n / 128) (by omega) (m / 128) (Nat.div_le_div_right h)
      omega

theorem enc_len (k n : Nat) (h : n < 128 ^ k) (hk : 1 ≤ k) : (enc n).length ≤ k := by
  induction k generalizing n with
  | zero => omega
  | succ k ih =>
    by_cases hn : n < 128
    · rw [enc_lo hn]; simp
    · rw [enc_hi (by omega)]
      have hk1 : 1 ≤ k := by
        rcases Nat.eq_zero_or_pos k with rfl | h1
        · simp at h; omega
        · exact h1
      have := ih (n / 128) (by rw [Nat.div_lt_iff_lt_mul (by omega)]; rw [Nat.pow_succ] at h; exact h) hk1
      simp only [List.length_cons]; omega

theorem enc_u64 (n : Nat) (h : n < 18446744073709551616) : (enc n).length ≤ 10 := by
  refine enc_len 10 n (Nat.lt_of_lt_of_le h ?_) (by omega)
  decide

def zig (n : Int) : Nat := if 0 ≤ n then (2 * n).toNat else (2 * (-(n + 1)) + 1).toNat

def at8 (l : List UInt8) (k : Nat) : Nat := (l.getD k 0).toNat
def val (l : List UInt8) : Nat → Nat
  | 0 => 0
  | k + 1 => val l k + at8 l k % 128 * 128 ^ k

theorem val_lt (l : List UInt8) (k : Nat) : val l k < 128 ^ k := by
  induction k with
  | zero => simp [val]
  | succ k ih =>
    have h : at8 l k % 128 ≤ 127 := by omega
    have h2 : at8 l k % 128 * 128 ^ k ≤ 127 * 128 ^ k := Nat.mul_le_mul_right _ h
    rw [val, Nat.pow_succ]
    omega

def stop : List UInt8 → Nat
  | [] => 0
  | c :: r => if c.toNat < 128 then 0 else stop r + 1

theorem stop_lo (l : List UInt8) (j : Nat) (h : j < stop l) : 128 ≤ at8 l j := by
  induction l generalizing j with
  | nil => simp [stop] at h
  | cons c r ih =>
    rw [stop] at h
    split at h
    · omega
    · cases j with
      | zero => simp [at8]; omega
      | succ j => have := ih j (by omega); simpa [at8] using this

theorem stop_hi (l : List UInt8) (h : stop l < l.length) : at8 l (stop l) < 128 := by
  induction l with
  | nil => simp at h
  | cons c r ih =>
    rw [stop] at h ⊢
    split
    · simpa [at8]
    · rename_i hc
      rw [if_neg hc] at h
      have := ih (by simpa using h)
      simpa [at8] using this

def More (l : List UInt8) (k : Nat) : Prop := ∀ j, j < k → 128 ≤ at8 l j

theorem More.zero (l : List UInt8) : More l 0 := fun _ h => absurd h (by omega)
theorem More.succ {l : List UInt8} {k : Nat} (h : More l k) (hk : 128 ≤ at8 l k) : More l (k + 1) := fun j hj => by
  rcases Nat.lt_succ_iff_lt_or_eq.1 hj with h1 | rfl
  · exact h j h1
  · exact hk
theorem More.le {l : List UInt8} {k : Nat} (h : More l k) (hk : k ≤ l.length) : k ≤ stop l := by
  rcases Nat.lt_or_ge (stop l) k with hlt | hge
  · have h1 := h _ hlt
    have h2 := stop_hi l (by omega)
    omega
  · exact hge
theorem More.eq {l : List UInt8} {k : Nat} (h : More l k) (hk : k < l.length) (h8 : at8 l k < 128) : stop l = k := by
  have h1 := h.le (by omega)
  rcases Nat.lt_or_ge k (stop l) with hlt | hge
  · have := stop_lo l k hlt; omega
  · omega

def Bad (l : List UInt8) : Prop := l.length ≤ stop l ∨ 9 < stop l ∨ (0 < stop l ∧ at8 l (stop l) = 0) ∨ (stop l = 9 ∧ 1 < at8 l 9)

instance (l : List UInt8) : Decidable (Bad l) := by unfold Bad; infer_instance

def nv (l : List UInt8) : Nat := if Bad l then 0 else val l (stop l + 1)
def ns (l : List UInt8) : Nat := if Bad l then 0 else stop l + 1

theorem nv_bad {l : List UInt8} (h : Bad l) : nv l = 0 := if_pos h
theorem ns_bad {l : List UInt8} (h : Bad l) : ns l = 0 := if_pos h
theorem nv_good {l : List UInt8} (h : ¬ Bad l) : nv l = val l (stop l + 1) := if_neg h
theorem ns_good {l : List UInt8} (h : ¬ Bad l) : ns l = stop l + 1 := if_neg h
theorem ns_zero {l : List UInt8} : ns l = 0 ↔ Bad l := by
  unfold ns; split <;> simp [*]
theorem ns_le (l : List UInt8) : ns l ≤ l.length := by
  unfold ns
  split
  · omega
  · rename_i h
    unfold Bad at h
    omega
theorem pow7 (k : Nat) : 2 ^ (7 * k) = 128 ^ k := by rw [Nat.pow_mul]

def up (p k : Nat) : Nat := p * 2 ^ min (7 * k) 64 % 18446744073709551616
def down (y k : Nat) : Nat := y / 2 ^ min (7 * k) 64

theorem up_lt (p k : Nat) : up p k < 18446744073709551616 := Nat.mod_lt _ (by omega)

theorem up_lo {p k : Nat} (hp : p < 128) (hk : k ≤ 8) : up p k = p * 128 ^ k := by
  unfold up
  rw [Nat.min_eq_left (by omega), pow7]
  have h1 : 128 ^ k ≤ 128 ^ 8 := Nat.pow_le_pow_right (by omega) hk
  have h2 : p * 128 ^ k ≤ 127 * 128 ^ 8 := Nat.mul_le_mul (by omega) h1
  exact Nat.mod_eq_of_lt (Nat.lt_of_le_of_lt h2 (by decide))

theorem down_lo {p k : Nat} (hp : p < 128) (hk : k ≤ 8) : down (up p k) k = p := by
  rw [up_lo hp hk]
  unfold down
  rw [Nat.min_eq_left (by omega), pow7]
  exact Nat.mul_div_cancel _ (Nat.pow_pos (by omega))

theorem up_nine (p : Nat) : up p 9 = p % 2 * 9223372036854775808 := by
  unfold up
  rw [show min (7 * 9) 64 = 63 from rfl]
  omega

theorem down_nine (p : Nat) : down (up p 9) 9 = p % 2 := by
  rw [up_nine]
  unfold down
  rw [show min (7 * 9) 64 = 63 from rfl]
  omega

theorem up_hi (p : Nat) {k : Nat} (hk : 10 ≤ k) : up p k = 0 := by
  unfold up
  rw [Nat.min_eq_right (by omega)]
  omega

theorem down_hi (p : Nat) {k : Nat} (hk : 10 ≤ k) : down (up p k) k = 0 := by
  rw [up_hi p hk]
  unfold down
  simp

theorem or_part {m p k : Nat} (hm : m < 128 ^ k) : m ||| p * 128 ^ k = m + p * 128 ^ k := by
  have h := Nat.two_pow_add_eq_or_of_lt (i := 7 * k) (b := m) (by rwa [pow7]) p
  rw [pow7] at h
  rw [Nat.or_comm, Nat.mul_comm p, ← h]
  omega

section
variable {l : List UInt8} {k m : Nat}

theorem num_zero (hb : More l k) (hk : k < l.length) (h0 : 0 < k) (hz : at8 l k = 0) : Bad l := by
  have := hb.eq hk (by omega)
  exact .inr (.inr (.inl (by rw [this]; exact ⟨h0, hz⟩)))

theorem num_end (hb : More l l.length) : Bad l := .inl (hb.le (Nat.le_refl _))

theorem num_over (hb : More l k) (hk : k < l.length) (ho : down (up (at8 l k % 128) k) k ≠ at8 l k % 128) : Bad l := by
  have hp : at8 l k % 128 < 128 := by omega
  have h9 : 9 ≤ k := by
    rcases Nat.lt_or_ge k 9 with h | h
    · exact absurd (down_lo hp (by omega)) ho
    · exact h
  have hs := hb.le (by omega)
  rcases Nat.lt_or_ge k 10 with h | h
  · obtain rfl : k = 9 := by omega
    rw [down_nine] at ho
    by_cases h8 : at8 l 9 < 128
    · have := hb.eq hk h8
      exact .inr (.inr (.inr ⟨this, by omega⟩))
    · have h10 := (hb.succ (by omega : 128 ≤ at8 l 9)).le (by omega)
      exact .inr (.inl (by omega))
  · exact .inr (.inl (by omega))

theorem num_step (hm : k ≤ 9 → m = val l k) (hk : k ≤ 8) : m ||| up (at8 l k % 128) k = val l (k + 1) := by
  rw [up_lo (by omega) hk, hm (by omega), or_part (val_lt l k), val]

theorem num_done (hb : More l k) (hk : k < l.length) (h8 : at8 l k < 128) (hz : k = 0 ∨ at8 l k ≠ 0) (ho : down (up (at8 l k % 128) k) k = at8 l k % 128) (hm : k ≤ 9 → m = val l k) :
    ¬ Bad l ∧ stop l = k ∧ m ||| up (at8 l k % 128) k = val l (k + 1) := by
  have he := hb.eq hk h8
  have hk9 : k ≤ 9 := by
    rcases Nat.lt_or_ge k 10 with h | h
    · omega
    · rw [down_hi _ h] at ho
      omega
  have h91 : k = 9 → at8 l 9 ≤ 1 := by
    rintro rfl
    rw [down_nine] at ho
    omega
  refine ⟨?_, he, ?_⟩
  · unfold Bad
    rw [he]
    omega
  · rcases Nat.lt_or_ge k 9 with h | h
    · exact num_step hm (by omega)
    · obtain rfl : k = 9 := by omega
      have h1 := h91 rfl
      have h2 := up_nine (at8 l 9 % 128)
      have h3 : at8 l 9 % 128 % 2 = at8 l 9 % 128 := by omega
      rw [h2, h3, hm (by omega), show (9223372036854775808 : Nat) = 128 ^ 9 from by decide, or_part (val_lt l 9)]
      rfl
end

def uB (bs : List UInt8) : List UInt8 := if Bad bs then [] else bs.drop (ns bs)
def uX (bs : List UInt8) : Bool := decide (Bad bs)
def zag (n : Nat) : Int := if n % 2 = 1 then -((n / 2 : Nat) : Int) - 1 else ((n / 2 : Nat) : Int)
def InBad (lo hi : Int) (bs : List UInt8) : Prop := Bad bs ∨ zag (nv bs) < lo ∨ hi < zag (nv bs)
instance (lo hi : Int) (bs : List UInt8) : Decidable (InBad lo hi bs) := by unfold InBad; infer_instance
def inV (lo hi : Int) (bs : List UInt8) : Int := if InBad lo hi bs then 0 else zag (nv bs)
def inB (lo hi : Int) (bs : List UInt8) : List UInt8 := if InBad lo hi bs then [] else bs.drop (ns bs)
def inX (lo hi : Int) (bs : List UInt8) : Bool := decide (InBad lo hi bs)
def TkBad (bad : Bool) (n : Int) (bs : List UInt8) : Prop := bad = true ∨ n < 0 ∨ (bs.length : Int) < n
instance (bad : Bool) (n : Int) (bs : List UInt8) : Decidable (TkBad bad n bs) := by unfold TkBad; infer_instance
def tkV (bad : Bool) (n : Int) (bs : List UInt8) : List UInt8 := if TkBad bad n bs then [] else bs.take n.toNat
def tkB (bad : Bool) (n : Int) (bs : List UInt8) : List UInt8 := if TkBad bad n bs then [] else bs.drop n.toNat
def tkX (bad : Bool) (n : Int) (bs : List UInt8) : Bool := decide (TkBad bad n bs)
def TxBad (most : Int) (bs : List UInt8) : Prop := Bad bs ∨ most < 0 ∨ most < (nv bs : Nat) ∨ (bs.drop (ns bs)).length < nv bs
instance (most : Int) (bs : List UInt8) : Decidable (TxBad most bs) := by unfold TxBad; infer_instance
def txV (most : Int) (bs : List UInt8) : List UInt8 := if TxBad most bs then [] else (bs.drop (ns bs)).take (nv bs)
def txB (most : Int) (bs : List UInt8) : List UInt8 := if TxBad most bs then [] else (bs.drop (ns bs)).drop (nv bs)
def txX (most : Int) (bs : List UInt8) : Bool := decide (TxBad most bs)

def Sane (bad : Bool) (bs : List UInt8) : Prop := bad = true → bs = []

theorem bad_nil : Bad [] := .inl (by simp)
theorem Sane.start (bs : List UInt8) : Sane false bs := fun h => by cases h
theorem Sane.u (bs : List UInt8) : Sane (uX bs) (uB bs) := fun h => by unfold uB; rw [if_pos (of_decide_eq_true h)]
theorem Sane.tk (bad : Bool) (n : Int) (bs : List UInt8) : Sane (tkX bad n bs) (tkB bad n bs) := fun h => by unfold tkB; rw [if_pos (of_decide_eq_true h)]
theorem Sane.tx (most : Int) (bs : List UInt8) : Sane (txX most bs) (txB most bs) := fun h => by unfold txB; rw [if_pos (of_decide_eq_true h)]

theorem uB_len (bs : List UInt8) : (uB bs).length ≤ bs.length := by unfold uB; split <;> simp
theorem txB_len (most : Int) (bs : List UInt8) : (txB most bs).length ≤ bs.length := by unfold txB; split <;> simp <;> omega

theorem val_u64 {l : List UInt8} (h : ¬ Bad l) : val l (stop l + 1) < 18446744073709551616 := by
  unfold Bad at h
  have h9 : stop l ≤ 9 := by omega
  rcases Nat.lt_or_ge (stop l) 9 with h1 | h1
  · have h2 := val_lt l (stop l + 1)
    have h3 : 128 ^ (stop l + 1) ≤ 128 ^ 9 := Nat.pow_le_pow_right (by omega) (by omega)
    exact Nat.lt_of_lt_of_le h2 (Nat.le_trans h3 (by decide))
  · have h2 : stop l = 9 := by omega
    have h3 := val_lt l 9
    have h4 : at8 l 9 ≤ 1 := by omega
    have h5 : at8 l 9 % 128 * 128 ^ 9 ≤ 1 * 128 ^ 9 := Nat.mul_le_mul_right _ (by omega)
    rw [h2, val]
    have h6 : 1 * 128 ^ 9 + 128 ^ 9 = 18446744073709551616 := by decide
    omega

theorem nv_u64 (l : List UInt8) : nv l < 18446744073709551616 := by
  unfold nv
  split
  · omega
  · exact val_u64 ‹_›

end Go.Proofs.YtlchmkpnehbnlaaGreatDoor.Cd

/-
  More plain facts on numbers as bytes: no Go in sight. Conditions: none.
-/
namespace Go.Proofs.YtlchmkpnehbnlaaGreatDoor.Cd

end Go.Proofs.YtlchmkpnehbnlaaGreatDoor.Cd

/-
  What a number is written as is read back, and only that: no Go in sight. Conditions: none.
-/
namespace Go.Proofs.YtlchmkpnehbnlaaGreatDoor.Cd

theorem at8_zero (c : UInt8) (r : List UInt8) : at8 (c :: r) 0 = c.toNat := by simp [at8]
theorem at8_succ (c : UInt8) (r : List UInt8) (k : Nat) : at8 (c :: r) (k + 1) = at8 r k := by simp [at8]

theorem val_cons (c : UInt8) (r : List UInt8) (k : Nat) : val (c :: r) (k + 1) = c.toNat % 128 + 128 * val r k := by
  induction k with
  | zero => simp [val, at8_zero]
  | succ k ih =>
    have e : at8 r k % 128 * (128 ^ k * 128) = 128 * (at8 r k % 128 * 128 ^ k) := by rw [← Nat.mul_assoc, Nat.mul_comm]
    rw [val, ih, val, at8_succ, Nat.pow_succ, e, Nat.mul_add, Nat.add_assoc]

theorem stop_lo_cons {c : UInt8} (h : c.toNat < 128) (r : List UInt8) : stop (c :: r) = 0 := by rw [stop, if_pos h]
theorem stop_hi_cons {c : UInt8} (h : 128 ≤ c.toNat) (r : List UInt8) : stop (c :: r) = stop r + 1 := by rw [stop, if_neg (by omega)]

theorem hi8_ge (n : Nat) : 128 ≤ (hi8 n).toNat := by rw [hi8_nat]; omega

theorem stop_enc (n : Nat) (t : List UInt8) : stop (enc n ++ t) + 1 = (enc n).length := by
  induction n using Nat.strongRecOn with
  | _ n ih =>
    by_cases h : n < 128
    · rw [enc_lo h, List.singleton_append, stop_lo_cons (by rw [lo8_nat h]; exact h)]; rfl
    · rw [enc_hi (by omega), List.cons_append, stop_hi_cons (hi8_ge n), List.length_cons, ih (n / 128) (by omega)]

theorem last_enc (n : Nat) (t : List UInt8) : at8 (enc n ++ t) (stop (enc n ++ t)) = n / 128 ^ stop (enc n ++ t) := by
  induction n using Nat.strongRecOn with
  | _ n ih =>
    by_cases h : n < 128
    · rw [enc_lo h, List.singleton_append, stop_lo_cons (by rw [lo8_nat h]; exact h), at8_zero, lo8_nat h]; simp
    · rw [enc_hi (by omega), List.cons_append, stop_hi_cons (hi8_ge n), at8_succ, ih (n / 128) (by omega), Nat.div_div_eq_div_mul, Nat.pow_succ, Nat.mul_comm]

theorem last_pos (n : Nat) (hn : 1 ≤ n) (t : List UInt8) : 1 ≤ at8 (enc n ++ t) (stop (enc n ++ t)) := by
  induction n using Nat.strongRecOn with
  | _ n ih =>
    by_cases h : n < 128
    · rw [enc_lo h, List.singleton_append, stop_lo_cons (by rw [lo8_nat h]; exact h), at8_zero, lo8_nat h]; exact hn
    · rw [enc_hi (by omega), List.cons_append, stop_hi_cons (hi8_ge n), at8_succ]
      exact ih (n / 128) (by omega) (by omega)

theorem val_enc (n : Nat) (t : List UInt8) : val (enc n ++ t) (stop (enc n ++ t) + 1) = n := by
  induction n using Nat.strongRecOn with
  | _ n ih =>
    by_cases h : n < 128
    · rw [enc_lo h, List.singleton_append, stop_lo_cons (by rw [lo8_nat h]; exact h), val_cons, lo8_nat h]
      simp [val]; omega
    · rw [enc_hi (by omega), List.cons_append, stop_hi_cons (hi8_ge n), val_cons, ih (n / 128) (by omega), hi8_nat]
      omega

theorem enc_good {n : Nat} (hn : n < 18446744073709551616) (t : List UInt8) : ¬ Bad (enc n ++ t) := by
  have h1 := stop_enc n t
  have h2 := enc_u64 n hn
  have h3 := last_enc n t
  unfold Bad
  rintro (h | h | ⟨h, h0⟩ | ⟨h, h0⟩)
  · rw [List.length_append] at h; omega
  · omega
  · have hn1 : 1 ≤ n := by
      rcases Nat.eq_zero_or_pos n with rfl | h4
      · rw [enc_lo (by omega)] at h1; simp at h1; rw [enc_lo (by omega)] at h; simp at h; omega
      · exact h4
    have := last_pos n hn1 t
    omega
  · rw [h] at h3
    have h9 : (128 : Nat) ^ 9 = 9223372036854775808 := by decide
    rw [h9] at h3
    omega

theorem nv_enc {n : Nat} (hn : n < 18446744073709551616) (t : List UInt8) : nv (enc n ++ t) = n := by rw [nv_good (enc_good hn t), val_enc]
theorem ns_enc {n : Nat} (hn : n < 18446744073709551616) (t : List UInt8) : ns (enc n ++ t) = (enc n).length := by rw [ns_good (enc_good hn t), stop_enc]

theorem uB_enc {n : Nat} (hn : n < 18446744073709551616) (t : List UInt8) : uB (enc n ++ t) = t := by
  unfold uB; rw [if_neg (enc_good hn t), ns_enc hn, List.drop_left]
theorem uX_enc {n : Nat} (hn : n < 18446744073709551616) (t : List UInt8) : uX (enc n ++ t) = false := decide_eq_false (enc_good hn t)

theorem zag_zig (n : Int) : zag (zig n) = n := by
  unfold zag zig
  split <;> split <;> omega

theorem enc_val (l : List UInt8) (h : stop l < l.length) (hz : at8 l (stop l) ≠ 0) : 1 ≤ val l (stop l + 1) ∧ enc (val l (stop l + 1)) = l.take (stop l + 1) := by
  induction l with
  | nil => simp at h
  | cons c r ih =>
    by_cases hc : c.toNat < 128
    · rw [stop_lo_cons hc] at hz ⊢
      rw [at8_zero] at hz
      have hv : val (c :: r) (0 + 1) = c.toNat := by rw [val_cons]; simp [val]; omega
      rw [hv]
      refine ⟨by omega, ?_⟩
      rw [enc_lo hc]
      simp only [Nat.zero_add, List.take_succ_cons, List.take_zero]
      congr 1
      apply UInt8.toNat_inj.1
      rw [lo8_nat hc]
    · rw [stop_hi_cons (by omega)] at h hz ⊢
      rw [at8_succ] at hz
      obtain ⟨h1, h2⟩ := ih (by simpa using h) hz
      rw [val_cons]
      refine ⟨by omega, ?_⟩
      rw [enc_hi (by omega), List.take_succ_cons, ← h2]
      congr 1
      · apply UInt8.toNat_inj.1
        rw [hi8_nat]
        have := c.toNat_lt
        omega
      · congr 1
        omega

theorem enc_nv {l : List UInt8} (h : ¬ Bad l) : enc (nv l) = l.take (ns l) := by
  rw [nv_good h, ns_good h]
  unfold Bad at h
  by_cases h0 : at8 l (stop l) = 0
  · have hs : stop l = 0 := by omega
    cases l with
    | nil => simp [stop] at h
    | cons c r =>
      rw [hs] at h0 ⊢
      rw [at8_zero] at h0
      have hv : val (c :: r) (0 + 1) = 0 := by rw [val_cons]; simp [val]; omega
      rw [hv, enc_lo (by omega)]
      simp only [Nat.zero_add, List.take_succ_cons, List.take_zero]
      congr 1
      apply UInt8.toNat_inj.1
      rw [lo8_nat (by omega)]
      omega
  · exact (enc_val l (by omega) h0).2

theorem enc_uB {l : List UInt8} (h : ¬ Bad l) : enc (nv l) ++ uB l = l := by
  unfold uB
  rw [if_neg h, enc_nv h, List.take_append_drop]

end Go.Proofs.YtlchmkpnehbnlaaGreatDoor.Cd

/-
  A part that is written is read by the same call: no Go in sight. Conditions: none.
-/
namespace Go.Proofs.YtlchmkpnehbnlaaGreatDoor.Cd

section
variable {n : Nat} (t : List UInt8)

end

end Go.Proofs.YtlchmkpnehbnlaaGreatDoor.Cd

/-
  What was read is written as the bytes that were read: no Go in sight. Conditions: none.
-/
namespace Go.Proofs.YtlchmkpnehbnlaaGreatDoor.Cd

theorem one_u {bs : List UInt8} (h : uX bs = false) : enc (nv bs) ++ uB bs = bs := enc_uB (of_decide_eq_false h)

theorem one_tx {most : Int} {bs : List UInt8} (h : txX most bs = false) : (enc (txV most bs).length ++ txV most bs) ++ txB most bs = bs := by
  have hn : ¬ TxBad most bs := of_decide_eq_false h
  have hb : ¬ Bad bs := fun h => hn (.inl h)
  have hl : nv bs ≤ (bs.drop (ns bs)).length := Nat.le_of_not_lt (fun h => hn (.inr (.inr (.inr h))))
  unfold txV txB
  rw [if_neg hn, if_neg hn, List.length_take, Nat.min_eq_left hl, enc_nv hb, List.append_assoc, List.take_append_drop, List.take_append_drop]

theorem txV_len (most : Int) (bs : List UInt8) : (txV most bs).length ≤ bs.length := by
  unfold txV
  split
  · simp
  · rw [List.length_take, List.length_drop]; omega

end Go.Proofs.YtlchmkpnehbnlaaGreatDoor.Cd

/-
  Plain facts on CRC-32C and on records: no Go in sight. Conditions: none.
-/
namespace Go.Proofs.YtlchmkpnehbnlaaGreatDoor.Cd

def fell (b : Nat) : Nat := if b % 2 = 1 then 2197175160 else 0
def bit1 (s : Nat) : Nat := (s / 2) ^^^ fell s
def bitsN : Nat → Nat → Nat
  | 0, s => s
  | k + 1, s => bit1 (bitsN k s)
def crcB (s : Nat) (c : UInt8) : Nat := bitsN 8 (s ^^^ c.toNat)
def crcOn (s : Nat) : List UInt8 → Nat
  | [] => s
  | c :: r => crcOn (crcB s c) r
def crc (bs : List UInt8) : Nat := 4294967295 - crcOn 4294967295 bs

theorem fell_lt (b : Nat) : fell b < 4294967296 := by unfold fell; split <;> omega
theorem bit1_lt {s : Nat} (h : s < 4294967296) : bit1 s < 4294967296 := Nat.xor_lt_two_pow (n := 32) (by omega) (fell_lt s)
theorem bitsN_lt {s : Nat} (h : s < 4294967296) (k : Nat) : bitsN k s < 4294967296 := by
  induction k with
  | zero => exact h
  | succ k ih => exact bit1_lt ih
theorem xor_byte_lt {s : Nat} (h : s < 4294967296) (c : UInt8) : s ^^^ c.toNat < 4294967296 := Nat.xor_lt_two_pow (n := 32) h (by have := c.toNat_lt; omega)
theorem crcB_lt {s : Nat} (h : s < 4294967296) (c : UInt8) : crcB s c < 4294967296 := bitsN_lt (xor_byte_lt h c) 8
theorem crcOn_lt {s : Nat} (h : s < 4294967296) (l : List UInt8) : crcOn s l < 4294967296 := by
  induction l generalizing s with
  | nil => exact h
  | cons c r ih => exact ih (crcB_lt h c)
theorem crc_lt (l : List UInt8) : crc l < 4294967296 := by unfold crc; omega
theorem crcOn_append (s : Nat) (a b : List UInt8) : crcOn s (a ++ b) = crcOn (crcOn s a) b := by
  induction a generalizing s with
  | nil => rfl
  | cons c r ih => exact ih _
theorem crcOn_snoc (s : Nat) (l : List UInt8) (k : Nat) (h : k < l.length) : crcOn s (l.take (k + 1)) = crcB (crcOn s (l.take k)) l[k] := by
  rw [List.take_succ_eq_append_getElem h, crcOn_append]
  rfl

def b8 (n : Nat) : UInt8 := UInt8.ofNat n
theorem b8_nat (n : Nat) : (b8 n).toNat = n % 256 := by unfold b8; rw [UInt8.toNat_ofNat']
def le4 (n : Nat) : List UInt8 := [b8 n, b8 (n / 256), b8 (n / 65536), b8 (n / 16777216)]
theorem le4_len (n : Nat) : (le4 n).length = 4 := rfl

def frm (x : List UInt8) : List UInt8 := (enc x.length ++ x) ++ le4 (crc (enc x.length ++ x))
theorem frm_len (x : List UInt8) : (frm x).length = (enc x.length).length + x.length + 4 := by simp [frm, le4_len]; omega
theorem frm_ge (x : List UInt8) : x.length + 5 ≤ (frm x).length := by have := enc_pos x.length; rw [frm_len]; omega
theorem frm_le (x : List UInt8) (h : x.length < 18446744073709551616) : (frm x).length ≤ x.length + 14 := by have := enc_u64 x.length h; rw [frm_len]; omega

theorem tx_most (t s : List UInt8) (hs : s.length < 18446744073709551616) (most : Int) (hm : (s.length : Int) ≤ most) : ¬ TxBad most (enc s.length ++ (s ++ t)) := by
  unfold TxBad
  rw [nv_enc hs, ns_enc hs, List.drop_left, List.length_append]
  rintro (h | h | h | h)
  · exact enc_good hs _ h
  · omega
  · omega
  · omega
theorem tx_all (t s : List UInt8) (hs : s.length < 18446744073709551616) (most : Int) (hm : (s.length : Int) ≤ most) :
    txV most (enc s.length ++ (s ++ t)) = s ∧ txB most (enc s.length ++ (s ++ t)) = t ∧ txX most (enc s.length ++ (s ++ t)) = false := by
  have h := tx_most t s hs most hm
  unfold txV txB txX
  rw [if_neg h, if_neg h, nv_enc hs, ns_enc hs, List.drop_left, List.take_left, List.drop_left]
  exact ⟨rfl, rfl, decide_eq_false h⟩

theorem frm_split (x t : List UInt8) : frm x ++ t = enc x.length ++ (x ++ (le4 (crc (enc x.length ++ x)) ++ t)) := by simp [frm]

def HasRec (c : List UInt8) : Prop := ∃ x, frm x <+: c

theorem pre_tx {x c : List UInt8} (h : frm x <+: c) (hc : c.length < 18446744073709551616) :
    txX c.length c = false ∧ txV c.length c = x ∧ txB c.length c = le4 (crc (enc x.length ++ x)) ++ c.drop (frm x).length := by
  obtain ⟨t, rfl⟩ := h
  have hg := frm_ge x
  rw [List.length_append] at hc ⊢
  have h2 := tx_all (le4 (crc (enc x.length ++ x)) ++ t) x (by omega) (((frm x).length + t.length : Nat) : Int) (by omega)
  rw [← frm_split] at h2
  rw [List.drop_left]
  exact ⟨h2.2.2, h2.1, h2.2.1⟩

theorem pre_uniq {x y c : List UInt8} (h : frm x <+: c) (k : frm y <+: c) (hc : c.length < 18446744073709551616) : x = y := by
  rw [← (pre_tx h hc).2.1, (pre_tx k hc).2.1]

theorem rec_of {c : List UInt8} (h : txX c.length c = false) (hk : (txB c.length c).take 4 = le4 (crc (enc (txV c.length c).length ++ txV c.length c))) : frm (txV c.length c) <+: c := by
  have h1 := one_tx h
  refine ⟨(txB c.length c).drop 4, ?_⟩
  unfold frm
  rw [List.append_assoc, ← hk, List.take_append_drop]
  exact h1

theorem no_rec {c : List UInt8} (hc : c.length < 18446744073709551616) (h : txX c.length c = true ∨ (txB c.length c).length < 4 ∨ (txB c.length c).take 4 ≠ le4 (crc (enc (txV c.length c).length ++ txV c.length c))) : ¬ HasRec c := by
  rintro ⟨x, hx⟩
  obtain ⟨h1, h2, h3⟩ := pre_tx hx hc
  rw [h1, h2, h3] at h
  rcases h with h | h | h
  · cases h
  · rw [List.length_append, le4_len] at h; omega
  · exact h (by rw [show (4 : Nat) = (le4 (crc (enc x.length ++ x))).length from rfl, List.take_left])

theorem no_nil : ¬ HasRec [] := by
  rintro ⟨x, hx⟩
  have h1 := hx.length_le
  have h2 := frm_ge x
  rw [List.length_nil] at h1
  omega

def flat (l : List (List UInt8)) : List UInt8 := (l.map frm).flatten
theorem flat_nil : flat [] = [] := rfl
theorem flat_cons (x : List UInt8) (l : List (List UInt8)) : flat (x :: l) = frm x ++ flat l := by simp [flat]
theorem flat_append (a b : List (List UInt8)) : flat (a ++ b) = flat a ++ flat b := by simp [flat]
theorem flat_one (x : List UInt8) : flat [x] = frm x := by simp [flat]
theorem flat_take (l : List (List UInt8)) (k : Nat) (h : k < l.length) : flat (l.take (k + 1)) = flat (l.take k) ++ frm l[k] := by
  rw [List.take_succ_eq_append_getElem h, flat_append, flat_one]
theorem flat_ge (l : List (List UInt8)) : 5 * l.length ≤ (flat l).length := by
  induction l with
  | nil => simp [flat]
  | cons x l ih => have := frm_ge x; rw [flat_cons, List.length_append, List.length_cons]; omega

def Splits (bs : List UInt8) (ds : List (List UInt8)) (cur : List UInt8) : Prop := bs = flat ds ++ cur ∧ ¬ HasRec cur

theorem splits_uniq {ds es : List (List UInt8)} {bs cur cur' : List UInt8} (hb : bs.length < 18446744073709551616) (h : Splits bs ds cur) (k : Splits bs es cur') : ds = es ∧ cur = cur' := by
  induction ds generalizing es bs with
  | nil =>
    cases es with
    | nil =>
      have h1 := h.1
      have k1 := k.1
      rw [flat_nil, List.nil_append] at h1 k1
      exact ⟨rfl, by rw [← h1, ← k1]⟩
    | cons e es =>
      refine absurd ?_ h.2
      have h1 := h.1
      rw [flat_nil, List.nil_append] at h1
      exact ⟨e, by rw [← h1, k.1, flat_cons, List.append_assoc]; exact List.prefix_append _ _⟩
  | cons d ds ih =>
    cases es with
    | nil =>
      refine absurd ?_ k.2
      have k1 := k.1
      rw [flat_nil, List.nil_append] at k1
      exact ⟨d, by rw [← k1, h.1, flat_cons, List.append_assoc]; exact List.prefix_append _ _⟩
    | cons e es =>
      have hd : frm d <+: bs := by rw [h.1, flat_cons, List.append_assoc]; exact List.prefix_append _ _
      have he : frm e <+: bs := by rw [k.1, flat_cons, List.append_assoc]; exact List.prefix_append _ _
      obtain rfl := pre_uniq hd he hb
      have e1 := h.1
      have e2 := k.1
      rw [flat_cons, List.append_assoc] at e1 e2
      have e3 := List.append_cancel_left (e1.symm.trans e2)
      have hl : (flat ds ++ cur).length < 18446744073709551616 := by rw [e1, List.length_append] at hb; omega
      obtain ⟨r1, r2⟩ := ih hl ⟨rfl, h.2⟩ ⟨e3, k.2⟩
      exact ⟨by rw [r1], r2⟩

theorem splits_all (l : List (List UInt8)) : Splits (flat l) l [] := ⟨by simp, no_nil⟩

theorem flat_mono (l : List (List UInt8)) (j k : Nat) (h : j ≤ k) : (flat (l.take j)).length ≤ (flat (l.take k)).length := by
  have e : l.take j = (l.take k).take j := by rw [List.take_take, Nat.min_eq_left h]
  rw [e]
  have h2 : flat (l.take k) = flat ((l.take k).take j) ++ flat ((l.take k).drop j) := by rw [← flat_append, List.take_append_drop]
  rw [h2, List.length_append]
  omega

end Go.Proofs.YtlchmkpnehbnlaaGreatDoor.Cd

/-
  A file's pages that are written all or none, as the document tells of it, over a disk as the document tells of it: what a commit does. No Go in sight. Conditions: none.
-/
namespace Go.Proofs.YtlchmkpnehbnlaaGreatDoor.Cd

abbrev Pgs := List (Int × List UInt8)

def pagesOf (n : Nat) : Nat := (n + 511) / 512
def chunk (b : List UInt8) (k : Nat) : List UInt8 := (b.drop (512 * k)).take 512
def chunks (b : List UInt8) : Pgs := (List.range (pagesOf b.length)).map fun (k : Nat) => ((k : Int), chunk b k)
theorem chunk_len (b : List UInt8) (k : Nat) : (chunk b k).length ≤ 512 := by simp [chunk]; omega
theorem chunks_len (b : List UInt8) : (chunks b).length = pagesOf b.length := by simp [chunks]

def writes (D : Dsk) (n : List UInt8) : Pgs → Dsk × Nat
  | [] => (D, 0)
  | p :: r => if (writeD D n p.1 p.2).2 = 0 then writes (writeD D n p.1 p.2).1 n r else writeD D n p.1 p.2

theorem writes_cons {D : Dsk} {n : List UInt8} {p : Int × List UInt8} {r : Pgs} (h : (writeD D n p.1 p.2).2 = 0) : writes D n (p :: r) = writes (writeD D n p.1 p.2).1 n r := by rw [writes, if_pos h]
theorem writes_bad {D : Dsk} {n : List UInt8} {p : Int × List UInt8} {r : Pgs} (h : (writeD D n p.1 p.2).2 ≠ 0) : writes D n (p :: r) = writeD D n p.1 p.2 := by rw [writes, if_neg h]
theorem writes_append (n : List UInt8) (a b : Pgs) : ∀ (D : Dsk), writes D n (a ++ b) = if (writes D n a).2 = 0 then writes (writes D n a).1 n b else writes D n a := by
  induction a with
  | nil => intro D; simp [writes]
  | cons p r ih =>
    intro D
    by_cases h : (writeD D n p.1 p.2).2 = 0
    · rw [List.cons_append, writes_cons h, writes_cons h]; exact ih _
    · rw [List.cons_append, writes_bad h, writes_bad h, if_neg h]
theorem writes_one (D : Dsk) (n : List UInt8) (p : Int × List UInt8) : writes D n [p] = writeD D n p.1 p.2 := by
  simp only [writes]
  split
  · rename_i h; rw [← h]
  · rfl
theorem writes_take (n : List UInt8) (l : Pgs) (D : Dsk) {k : Nat} (hk : k < l.length) (h : (writes D n (l.take k)).2 = 0) : writes D n (l.take (k + 1)) = writeD (writes D n (l.take k)).1 n l[k].1 l[k].2 := by
  rw [List.take_succ_eq_append_getElem hk, writes_append, if_pos h, writes_one]
theorem writes_stop (n : List UInt8) (l : Pgs) (D : Dsk) {k : Nat} (h : (writes D n (l.take k)).2 ≠ 0) : writes D n l = writes D n (l.take k) := by
  conv => lhs; rw [← List.take_append_drop k l, writes_append]
  rw [if_neg h]

def freshN : Nat → Pgs → Option Nat
  | _, [] => some 0
  | c, p :: r => if p.1 < 0 ∨ (c : Int) < p.1 then none else if p.1 = c then (freshN (c + 1) r).map (· + 1) else freshN c r
def laidP (P : List (List UInt8)) (ws : Pgs) : List (List UInt8) := ws.foldl (fun P p => setP P p.1.toNat (pad p.2)) P

theorem free_pos {D : Dsk} {room k : Nat} (h : Roomy D room k) (hk : k < room) : freeD D ≠ 0 := by rw [h.free]; omega

theorem Roomy.put {D : Dsk} {room k : Nat} (h : Roomy D room k) {n b : List UInt8} {i : Nat} (hi : i ≤ (pagesF D.now n).length) (hb : b.length ≤ 512) (hk : i = (pagesF D.now n).length → k < room) :
    (writeD D n i b).2 = 0 ∧ Roomy (writeD D n i b).1 room (k + if i = (pagesF D.now n).length then 1 else 0) ∧
      (∀ m, pagesF (writeD D n i b).1.now m = if m = n then setP (pagesF D.now n) i (pad b) else pagesF D.now m) ∧
      (∀ m, (getF (writeD D n i b).1.now m).isSome = if m = n then true else (getF D.now m).isSome) := by
  have hw : writeD D n i b = (wrote D n i b, 0) := by
    unfold writeD
    rw [if_neg (by rw [h.off]; simp), if_neg (by omega), if_neg (by omega), if_neg (fun h2 => free_pos h (hk (by omega)) h2.2), Int.toNat_natCast]
    exact ends_calm (by rw [h.fuse]; omega)
  rw [hw]
  have hc := count_put h.once ⟨n, setP (pagesF D.now n) i (pad b)⟩
  simp only [setP_len] at hc
  have hkc := h.count
  refine ⟨rfl, ⟨h.off, by show D.fuse - 1 = 0; rw [h.fuse], put_once h.once _, h.room, ?_⟩, fun m => ?_, fun m => wrote_is D n b i m⟩
  · show Cd.count (putF D.now ⟨n, setP (pagesF D.now n) i (pad b)⟩) = _
    split <;> omega
  · show pagesF (putF D.now ⟨n, _⟩) m = _
    rw [pagesF_put]

theorem Roomy.writes {n : List UInt8} {room : Nat} (ws : Pgs) : ∀ {D : Dsk} {k f : Nat}, Roomy D room k → freshN (pagesF D.now n).length ws = some f → k + f ≤ room → (∀ p ∈ ws, p.2.length ≤ 512) →
    (Cd.writes D n ws).2 = 0 ∧ Roomy (Cd.writes D n ws).1 room (k + f) ∧
      (∀ m, pagesF (Cd.writes D n ws).1.now m = if m = n then laidP (pagesF D.now n) ws else pagesF D.now m) ∧
      (∀ m, (getF (Cd.writes D n ws).1.now m).isSome = if m = n ∧ ws ≠ [] then true else (getF D.now m).isSome) := by
  induction ws with
  | nil =>
    intro D k f h hf _ _
    injection hf with hf
    subst hf
    refine ⟨rfl, h, fun m => ?_, fun m => ?_⟩
    · show pagesF D.now m = if m = n then pagesF D.now n else _
      split
      · rename_i e; rw [e]
      · rfl
    · simp [Cd.writes]
  | cons p r ih =>
    intro D k f h hf hk hl
    obtain ⟨i, b⟩ := p
    rw [freshN] at hf
    by_cases hbad : i < 0 ∨ ((pagesF D.now n).length : Int) < i
    · rw [if_pos hbad] at hf; cases hf
    · rw [if_neg hbad] at hf
      obtain ⟨j, rfl⟩ := Int.eq_ofNat_of_zero_le (a := i) (by omega)
      have hb : b.length ≤ 512 := hl (↑j, b) (by simp)
      have hr : ∀ p ∈ r, p.2.length ≤ 512 := fun p hp => hl p (by simp [hp])
      have key : ∀ f', freshN (setP (pagesF D.now n) j (pad b)).length r = some f' → k + (if j = (pagesF D.now n).length then 1 else 0) + f' ≤ room → (j = (pagesF D.now n).length → k < room) → (k + if j = (pagesF D.now n).length then 1 else 0) + f' = k + f →
          (Cd.writes D n ((↑j, b) :: r)).2 = 0 ∧ Roomy (Cd.writes D n ((↑j, b) :: r)).1 room (k + f) ∧
            (∀ m, pagesF (Cd.writes D n ((↑j, b) :: r)).1.now m = if m = n then laidP (pagesF D.now n) ((↑j, b) :: r) else pagesF D.now m) ∧
            (∀ m, (getF (Cd.writes D n ((↑j, b) :: r)).1.now m).isSome = if m = n ∧ ((↑j, b) :: r : Pgs) ≠ [] then true else (getF D.now m).isSome) := by
        intro f' h1 h2 h3 h4
        obtain ⟨q1, q2, q3, q4⟩ := h.put (n := n) (b := b) (i := j) (by omega) hb h3
        have e : Cd.writes D n ((↑j, b) :: r) = Cd.writes (writeD D n j b).1 n r := by rw [Cd.writes, if_pos q1]
        rw [e]
        have hp := q3 n
        rw [if_pos rfl] at hp
        obtain ⟨s1, s2, s3, s4⟩ := ih q2 (f := f') (by rw [hp]; exact h1) h2 hr
        refine ⟨s1, by rw [← h4]; exact s2, fun m => ?_, fun m => ?_⟩
        · rw [s3 m, hp, q3 m]
          by_cases em : m = n
          · rw [if_pos em, if_pos em]; rfl
          · rw [if_neg em, if_neg em, if_neg em]
        · rw [s4 m, q4 m]
          by_cases em : m = n
          · simp [em]
          · simp [em]
      by_cases he : (j : Int) = ((pagesF D.now n).length : Int)
      · rw [if_pos he] at hf
        have he' : j = (pagesF D.now n).length := by omega
        cases hf2 : freshN ((pagesF D.now n).length + 1) r with
        | none => rw [hf2] at hf; cases hf
        | some f' =>
          rw [hf2] at hf
          injection hf with hf
          have hf : f' + 1 = f := hf
          refine key f' ?_ ?_ (fun _ => by omega) ?_
          · rw [setP_len, ← hf2]; congr 1; omega
          · rw [if_pos he']; omega
          · rw [if_pos he']; omega
      · rw [if_neg he] at hf
        refine key f ?_ ?_ (fun e => absurd (by omega) he) ?_
        · rw [setP_len, ← hf]; congr 1; omega
        · rw [if_neg (by omega)]; omega
        · rw [if_neg (by omega), Nat.add_zero]

theorem fresh_chunks_aux (g : Nat → List UInt8) (m : Nat) : ∀ c, freshN c ((List.range' c m).map fun (k : Nat) => ((k : Int), g k)) = some m := by
  induction m with
  | zero => intro c; rfl
  | succ m ih =>
    intro c
    rw [List.range'_succ, List.map_cons, freshN, if_neg (by omega), if_pos rfl, ih]
    rfl
theorem fresh_chunks (b : List UInt8) : freshN 0 (chunks b) = some (pagesOf b.length) := by
  unfold chunks
  rw [List.range_eq_range']
  exact fresh_chunks_aux _ _ 0
theorem chunks_short (b : List UInt8) : ∀ p ∈ chunks b, p.2.length ≤ 512 := by
  intro p hp
  obtain ⟨k, _, rfl⟩ := List.mem_map.1 hp
  exact chunk_len b k

theorem Roomy.sync {D : Dsk} {room k : Nat} (h : Roomy D room k) {n : List UInt8} (h2 : (getF D.now n).isSome = true) : (syncD D n).2 = 0 ∧ Roomy (syncD D n).1 room k ∧ (syncD D n).1.now = D.now := by
  rw [sync_calm h.off h2 (by rw [h.fuse]; omega)]
  exact ⟨rfl, ⟨h.off, by show D.fuse - 1 = 0; rw [h.fuse], h.once, h.room, h.count⟩, rfl⟩
theorem Roomy.removed {D : Dsk} {room k : Nat} (h : Roomy D room k) {n : List UInt8} (h2 : (getF D.now n).isSome = true) :
    (removeD D n).2 = 0 ∧ Roomy (removeD D n).1 room (k - (pagesF D.now n).length) ∧ (pagesF D.now n).length ≤ k ∧ (∀ m, getF (removeD D n).1.now m = if m = n then none else getF D.now m) := by
  obtain ⟨a, b, c⟩ := h.remove h2
  refine ⟨a, b, c, fun m => ?_⟩
  rw [remove_calm h.off h2 (by rw [h.fuse]; omega)]
  exact getF_without D.now n m
theorem pagesF_get {l l' : List Fil} {m : List UInt8} (h : getF l m = getF l' m) : pagesF l m = pagesF l' m := by unfold pagesF; rw [h]
theorem Roomy.rename {D : Dsk} {room k : Nat} (h : Roomy D room k) {a b : List UInt8} (h2 : (getF D.now a).isSome = true) (h3 : (getF D.now b).isSome = false) (hne : a ≠ b) :
    (renameD D a b).2 = 0 ∧ Roomy (renameD D a b).1 room k ∧ (∀ m, getF (renameD D a b).1.now m = if m = b then some ⟨b, pagesF D.now a⟩ else if m = a then none else getF D.now m) := by
  have e : renameD D a b = (renames (actD D) a b, 0) := by
    unfold renameD
    rw [may_ok h.off h2, ends_calm (by rw [h.fuse]; omega), if_pos ⟨rfl, hne⟩]
  rw [e]
  have h1 := count_without h.once a
  have h4 := count_put (without_once h.once a) ⟨b, pagesF D.now a⟩
  have h5 : pagesF (without D.now a) b = [] := pages_of_none (by rw [getF_without, if_neg hne.symm]; exact h3)
  simp only [h5, List.length_nil] at h4
  have hkc := h.count
  refine ⟨rfl, ⟨h.off, by show D.fuse - 1 = 0; rw [h.fuse], put_once (without_once h.once a) _, h.room, ?_⟩, fun m => ?_⟩
  · show Cd.count (putF (without D.now a) ⟨b, pagesF D.now a⟩) = k
    omega
  · show getF (putF (without D.now a) ⟨b, pagesF D.now a⟩) m = _
    rw [getF_put, getF_without]

theorem pagesOf_pos {n : Nat} (h : 0 < n) : 0 < pagesOf n := by unfold pagesOf; omega
theorem chunks_ne {b : List UInt8} (h : 0 < b.length) : chunks b ≠ [] := fun e => by
  have := chunks_len b
  rw [e] at this
  have := pagesOf_pos h
  simp at *
  omega
theorem frm_pos (x : List UInt8) : 0 < (frm x).length := by have := frm_ge x; omega

end Go.Proofs.YtlchmkpnehbnlaaGreatDoor.Cd

/-
  Records in a file's pages, as the document tells of it, over a disk as the document tells of it: what pages tell, what Open, Append, Sync and Clear do. No Go in sight. Conditions: none.
-/
namespace Go.Proofs.YtlchmkpnehbnlaaGreatDoor.Cd

def toldP (p : List UInt8) : Nat := min ((p.getD 0 0).toNat + 256 * (p.getD 1 0).toNat) 510
def partP (p : List UInt8) : List UInt8 := (p.drop 2).take (toldP p)
def logB : List (List UInt8) → List UInt8
  | [] => []
  | p :: r => if (partP p).length < 510 then partP p else partP p ++ logB r
def needP (n : Nat) : Nat := (n + 509) / 510
def lastP (s : List UInt8) : List UInt8 := s.drop (s.length / 510 * 510)
def part (s : List UInt8) (j : Nat) : List UInt8 := (s.drop (510 * j)).take 510
def pageB (b : List UInt8) : List UInt8 := [b8 b.length, b8 (b.length / 256)] ++ b

theorem toldP_le (p : List UInt8) : toldP p ≤ 510 := Nat.min_le_right _ _
theorem partP_le (p : List UInt8) : (partP p).length ≤ 510 := by have := toldP_le p; simp [partP]; omega
theorem partP_len {p : List UInt8} (h : p.length = 512) : (partP p).length = toldP p := by have := toldP_le p; simp [partP, h]; omega
theorem part_le (s : List UInt8) (j : Nat) : (part s j).length ≤ 510 := by simp [part]; omega
theorem part_len (s : List UInt8) (j : Nat) : (part s j).length = min 510 (s.length - 510 * j) := by simp [part]
theorem pageB_len (b : List UInt8) : (pageB b).length = b.length + 2 := by simp [pageB]
theorem lastP_len (s : List UInt8) : (lastP s).length = s.length % 510 := by simp [lastP]; omega
theorem told_page {b : List UInt8} (h : b.length ≤ 510) (t : List UInt8) : toldP (pageB b ++ t) = b.length := by
  unfold toldP pageB
  simp only [List.cons_append, List.nil_append, List.getD_cons_zero, List.getD_cons_succ]
  rw [b8_nat, b8_nat]
  omega
theorem part_page {b : List UInt8} (h : b.length ≤ 510) (t : List UInt8) : partP (pageB b ++ t) = b := by
  unfold partP
  rw [told_page h]
  simp [pageB]
theorem part_pad {b : List UInt8} (h : b.length ≤ 510) : partP (pad (pageB b)) = b := part_page h _
def Lay (P : List (List UInt8)) (s : List UInt8) : Prop := logB P = s ∧ P.length = needP s.length

theorem needP_pos {n : Nat} (h : 0 < n) : 0 < needP n := by unfold needP; omega

theorem logB_of (s : List UInt8) : ∀ (P : List (List UInt8)) (j : Nat), (∀ i p, P[i]? = some p → partP p = part s (j + i)) → s.length ≤ 510 * (j + P.length) → 510 * j ≤ s.length → logB P = s.drop (510 * j) := by
  intro P
  induction P with
  | nil =>
    intro j _ h1 h2
    rw [logB, List.drop_of_length_le (by simp at h1; omega)]
  | cons p r ih =>
    intro j h h1 h2
    have hp := h 0 p rfl
    rw [Nat.add_zero] at hp
    rw [logB, hp, part_len]
    simp only [List.length_cons] at h1
    by_cases hs : min 510 (s.length - 510 * j) < 510
    · rw [if_pos hs]
      unfold part
      rw [List.take_of_length_le (by simp; omega)]
    · rw [if_neg hs, ih (j + 1) (fun i q hq => by rw [h (i + 1) q (by simpa using hq)]; congr 1; omega) (by omega) (by omega)]
      unfold part
      rw [show 510 * (j + 1) = 510 * j + 510 by omega, ← List.drop_drop, List.take_append_drop]

theorem lay_nil : Lay [] [] := ⟨rfl, rfl⟩

theorem logB_at : ∀ (P : List (List UInt8)) (i : Nat) (p : List UInt8), P[i]? = some p → 510 * i < (logB P).length → partP p = part (logB P) i := by
  intro P
  induction P with
  | nil => intro i p h; cases h
  | cons q r ih =>
    intro i p h hi
    rw [logB] at hi ⊢
    have hq := partP_le q
    by_cases hs : (partP q).length < 510
    · rw [if_pos hs] at hi ⊢
      have : i = 0 := by omega
      subst this
      injection h with h
      subst h
      unfold part
      rw [Nat.mul_zero, List.drop_zero, List.take_of_length_le hq]
    · rw [if_neg hs] at hi ⊢
      have hl : (partP q).length = 510 := by omega
      cases i with
      | zero =>
        injection h with h
        subst h
        unfold part
        rw [Nat.mul_zero, List.drop_zero, List.take_append_of_le_length (by omega), List.take_of_length_le hq]
      | succ i =>
        rw [List.length_append, hl] at hi
        rw [ih i p (by simpa using h) (by omega)]
        unfold part
        rw [show 510 * (i + 1) = (partP q).length + 510 * i by omega, ← List.drop_drop, List.drop_left]

theorem logB_le (P : List (List UInt8)) : (logB P).length ≤ 510 * P.length := by
  induction P with
  | nil => simp [logB]
  | cons p r ih =>
    have := partP_le p
    rw [logB]
    split
    · simp only [List.length_cons]; omega
    · rw [List.length_append, List.length_cons]; omega

theorem logB_append (A B : List (List UInt8)) (h : (logB A).length = 510 * A.length) : logB (A ++ B) = logB A ++ logB B := by
  induction A with
  | nil => rfl
  | cons p r ih =>
    have hp := partP_le p
    have hr := logB_le r
    rw [logB] at h
    rw [List.cons_append, logB, logB]
    by_cases hs : (partP p).length < 510
    · rw [if_pos hs] at h
      simp only [List.length_cons] at h
      omega
    · rw [if_neg hs, List.length_append, List.length_cons] at h
      rw [if_neg hs, if_neg hs, ih (by omega), List.append_assoc]
theorem logB_one (p : List UInt8) (r : List (List UInt8)) (h : (partP p).length < 510) : logB (p :: r) = partP p := by rw [logB, if_pos h]
theorem logB_single (p : List UInt8) : logB [p] = partP p := by
  rw [logB]
  split
  · rfl
  · rw [logB, List.append_nil]

def trimD (D : Dsk) (n s : List UInt8) (found : Nat) : Dsk × Nat :=
  if (if needP s.length < (pagesF D.now n).length then cutD D n (needP s.length : Nat) else (D, 0)).2 ≠ 0 then (if needP s.length < (pagesF D.now n).length then cutD D n (needP s.length : Nat) else (D, 0)) else
  if min found (needP s.length * 510) = s.length then ((if needP s.length < (pagesF D.now n).length then cutD D n (needP s.length : Nat) else (D, 0)).1, 0) else
  if (writeD (if needP s.length < (pagesF D.now n).length then cutD D n (needP s.length : Nat) else (D, 0)).1 n ((needP s.length : Nat) - 1) (pageB (lastP s))).2 ≠ 0 then
    writeD (if needP s.length < (pagesF D.now n).length then cutD D n (needP s.length : Nat) else (D, 0)).1 n ((needP s.length : Nat) - 1) (pageB (lastP s)) else
  syncD (writeD (if needP s.length < (pagesF D.now n).length then cutD D n (needP s.length : Nat) else (D, 0)).1 n ((needP s.length : Nat) - 1) (pageB (lastP s))).1 n
def chunksL (s b : List UInt8) : Pgs := (List.range (needP (lastP s ++ b).length)).map fun (k : Nat) => (((s.length / 510 + k : Nat) : Int), pageB (part (lastP s ++ b) k))
def putD (D : Dsk) (n s b : List UInt8) : Dsk × Nat := writes D n (chunksL s b)
def appendD (D : Dsk) (n s b : List UInt8) : Dsk × Nat :=
  if b = [] then (D, 0) else if freeD D < ((needP (s.length + b.length) : Nat) : Int) - ((pagesF D.now n).length : Nat) then (D, 7) else putD D n s b
def unless5 (e : Nat) : Nat := if e = 5 then 0 else e

theorem last_append (s b : List UInt8) (k : Nat) : part (lastP s ++ b) k = part (s ++ b) (s.length / 510 + k) := by
  unfold part lastP
  have h : s.drop (s.length / 510 * 510) ++ b = (s ++ b).drop (s.length / 510 * 510) := by rw [List.drop_append_of_le_length (by omega)]
  rw [h, List.drop_drop]
  congr 2
  omega
theorem need_last (s b : List UInt8) : s.length / 510 + needP (lastP s ++ b).length = needP (s.length + b.length) := by
  rw [List.length_append, lastP_len]
  unfold needP
  omega
theorem last_of_append (s b : List UInt8) : lastP (lastP s ++ b) = lastP (s ++ b) := by
  have h : lastP s ++ b = (s ++ b).drop (s.length / 510 * 510) := by unfold lastP; rw [List.drop_append_of_le_length (by omega)]
  unfold lastP
  have e : s.length / 510 * 510 + ((s ++ b).drop (s.length / 510 * 510)).length / 510 * 510 = (s ++ b).length / 510 * 510 := by
    simp only [List.length_drop, List.length_append]
    omega
  rw [show List.drop (s.length / 510 * 510) s ++ b = (s ++ b).drop (s.length / 510 * 510) from h, List.drop_drop, e]

end Go.Proofs.YtlchmkpnehbnlaaGreatDoor.Cd

/-
  A log's calls, with the power on and no end of it in sight. No Go in sight. Conditions: none.
-/
namespace Go.Proofs.YtlchmkpnehbnlaaGreatDoor.Cd

theorem fresh_range (g : Nat → List UInt8) (m : Nat) : ∀ (a c : Nat), a ≤ c → c ≤ a + m → freshN c ((List.range' a m).map fun (k : Nat) => ((k : Int), g k)) = some (a + m - c) := by
  induction m with
  | zero => intro a c h1 h2; rw [List.range'_zero, List.map_nil, freshN]; congr 1; omega
  | succ m ih =>
    intro a c h1 h2
    rw [List.range'_succ, List.map_cons, freshN]
    simp only
    rw [if_neg (by omega)]
    by_cases e : a = c
    · rw [if_pos (by omega), ih (a + 1) (c + 1) (by omega) (by omega)]
      simp only [Option.map_some]
      congr 1; omega
    · rw [if_neg (by omega), ih (a + 1) c (by omega) (by omega)]
      congr 1; omega

theorem setP_mid {P : List (List UInt8)} {a : Nat} (h : a ≤ P.length) (x : List UInt8) : setP P a x = P.take a ++ x :: P.drop (a + 1) := by
  by_cases e : a < P.length
  · rw [setP_in e, List.set_eq_take_append_cons_drop, if_pos e]
  · have : a = P.length := by omega
    subst this
    rw [setP_end, List.take_length, List.drop_of_length_le (by omega)]

theorem laid_range (g : Nat → List UInt8) (m : Nat) : ∀ (a : Nat) (P : List (List UInt8)), a ≤ P.length → P.length ≤ a + m → laidP P ((List.range' a m).map fun (k : Nat) => ((k : Int), g k)) = P.take a ++ (List.range' a m).map fun k => pad (g k) := by
  induction m with
  | zero =>
    intro a P h1 h2
    rw [List.range'_zero, List.map_nil, List.map_nil, List.append_nil, List.take_of_length_le (by omega)]
    rfl
  | succ m ih =>
    intro a P h1 h2
    rw [List.range'_succ, List.map_cons, List.map_cons]
    show laidP (setP P ((a : Int)).toNat (pad (g a))) _ = _
    rw [Int.toNat_natCast, setP_mid h1, ih (a + 1) _ (by simp; omega) (by simp; omega)]
    rw [List.take_append, List.take_of_length_le (i := a + 1) (l := P.take a) (by simp; omega)]
    rw [List.length_take, Nat.min_eq_left h1, show a + 1 - a = 1 by omega]
    simp

theorem chunks_range (s b : List UInt8) : chunksL s b = (List.range' (s.length / 510) (needP (lastP s ++ b).length)).map fun (k : Nat) => ((k : Int), pageB (part (s ++ b) k)) := by
  unfold chunksL
  rw [List.range'_eq_map_range, List.map_map]
  refine List.map_congr_left fun k _ => ?_
  simp only [Function.comp]
  rw [last_append]
theorem chunksL_len (s b : List UInt8) : (chunksL s b).length = needP (lastP s ++ b).length := by simp [chunksL]
theorem chunksL_short (s b : List UInt8) : ∀ p ∈ chunksL s b, p.2.length ≤ 512 := by
  intro p hp
  obtain ⟨k, _, rfl⟩ := List.mem_map.1 hp
  show (pageB _).length ≤ 512
  rw [pageB_len]
  have := part_le (lastP s ++ b) k
  omega
theorem chunksL_at (s b : List UInt8) {k : Nat} (hk : k < (chunksL s b).length) : (chunksL s b)[k] = (((s.length / 510 + k : Nat) : Int), pageB (part (lastP s ++ b) k)) := by
  simp [chunksL]

theorem need_lo (n : Nat) : n / 510 ≤ needP n ∧ needP n ≤ n / 510 + 1 := by unfold needP; omega
theorem needP_mono {a b : Nat} (h : a ≤ b) : needP a ≤ needP b := by unfold needP; omega

def grown (P : List (List UInt8)) (s b : List UInt8) : List (List UInt8) := P.take (s.length / 510) ++ (List.range' (s.length / 510) (needP (lastP s ++ b).length)).map fun k => pad (pageB (part (s ++ b) k))

theorem lay_grown {P : List (List UInt8)} {s : List UInt8} (h : Lay P s) (b : List UInt8) : Lay (grown P s b) (s ++ b) := by
  obtain ⟨h1, h2⟩ := h
  have h3 := need_lo s.length
  have h4 := need_last s b
  have hl : (Cd.grown P s b).length = needP (s.length + b.length) := by
    unfold Cd.grown
    rw [List.length_append, List.length_map, List.length_range', List.length_take]
    omega
  refine ⟨?_, by rw [hl, List.length_append]⟩
  have := logB_of (s ++ b) (grown P s b) 0 (fun i p hp => by
    rw [Nat.zero_add]
    unfold Cd.grown at hp
    by_cases hi : i < s.length / 510
    · rw [List.getElem?_append_left (by simp; omega), List.getElem?_take, if_pos hi] at hp
      have := logB_at P i p hp (by rw [h1]; omega)
      rw [this, h1]
      unfold part
      rw [List.drop_append_of_le_length (by omega), List.take_append_of_le_length (by simp; omega)]
    · rw [List.getElem?_append_right (by simp; omega), List.getElem?_map] at hp
      obtain ⟨k, hk, rfl⟩ := Option.map_eq_some_iff.1 hp
      obtain ⟨k1, k2⟩ := List.getElem?_eq_some_iff.1 hk
      rw [List.getElem_range'] at k2
      rw [part_pad (part_le _ _), ← k2]
      congr 1
      rw [List.length_take]
      omega) (by rw [hl, List.length_append]; unfold needP; omega) (by omega)
  simpa using this

def grows (P : List (List UInt8)) (s b : List UInt8) : List (List UInt8) := if b = [] then P else grown P s b
theorem lay_grows {P : List (List UInt8)} {s : List UInt8} (h : Lay P s) (b : List UInt8) : Lay (grows P s b) (s ++ b) := by
  unfold grows
  split
  · rename_i e; rw [e, List.append_nil]; exact h
  · exact lay_grown h b
theorem Roomy.putL {D : Dsk} {room k : Nat} (h : Roomy D room k) {n s b : List UInt8} (hs : Lay (pagesF D.now n) s) (hr : k + (needP (s.length + b.length) - needP s.length) ≤ room) :
    (putD D n s b).2 = 0 ∧ Roomy (putD D n s b).1 room (k + (needP (s.length + b.length) - needP s.length)) ∧ (∀ m, pagesF (putD D n s b).1.now m = if m = n then grown (pagesF D.now n) s b else pagesF D.now m) ∧
      (∀ m, m ≠ n → (getF (putD D n s b).1.now m).isSome = (getF D.now m).isSome) := by
  have h3 := need_lo s.length
  have h4 := need_last s b
  have h2 := hs.2
  have hf := fresh_range (fun k => pageB (part (s ++ b) k)) (needP (lastP s ++ b).length) (s.length / 510) (pagesF D.now n).length (by omega) (by have := needP_mono (Nat.le_add_right s.length b.length); omega)
  have hl := laid_range (fun k => pageB (part (s ++ b) k)) (needP (lastP s ++ b).length) (s.length / 510) (pagesF D.now n) (by omega) (by have := needP_mono (Nat.le_add_right s.length b.length); omega)
  rw [← chunks_range] at hf hl
  obtain ⟨a1, a2, a3, a4⟩ := h.writes (n := n) (chunksL s b) hf (by omega) (chunksL_short s b)
  refine ⟨a1, ?_, fun m => ?_, fun m hm => ?_⟩
  · have e : s.length / 510 + needP (lastP s ++ b).length - (pagesF D.now n).length = needP (s.length + b.length) - needP s.length := by omega
    rw [← e]
    exact a2
  · rw [show (putD D n s b).1 = (Cd.writes D n (chunksL s b)).1 from rfl, a3]
    rw [hl]
    rfl
  · rw [show (putD D n s b).1 = (Cd.writes D n (chunksL s b)).1 from rfl, a4, if_neg (fun e => hm e.1)]

theorem Roomy.appendL {D : Dsk} {room k : Nat} (h : Roomy D room k) {n s : List UInt8} (hs : Lay (pagesF D.now n) s) (hk : k ≤ room) (b : List UInt8) :
    (room < k + (needP (s.length + b.length) - needP s.length) ∧ appendD D n s b = (D, 7)) ∨
      (k + (needP (s.length + b.length) - needP s.length) ≤ room ∧ (appendD D n s b).2 = 0 ∧ Roomy (appendD D n s b).1 room (k + (needP (s.length + b.length) - needP s.length)) ∧
        (∀ m, pagesF (appendD D n s b).1.now m = if m = n then grows (pagesF D.now n) s b else pagesF D.now m) ∧ (∀ m, m ≠ n → (getF (appendD D n s b).1.now m).isSome = (getF D.now m).isSome)) := by
  have hf := h.free
  have hl := hs.2
  have hm := needP_mono (Nat.le_add_right s.length b.length)
  unfold appendD
  by_cases hb : b = []
  · subst hb
    rw [if_pos rfl]
    right
    have e : needP (s.length + ([] : List UInt8).length) - needP s.length = 0 := by simp
    have hg : grows (pagesF D.now n) s [] = pagesF D.now n := if_pos rfl
    exact ⟨by omega, rfl, by rw [e]; exact h, fun m => by
      split
      · rename_i e; rw [e, hg]
      · rfl, fun _ _ => rfl⟩
  · rw [if_neg hb]
    by_cases hr : freeD D < ((needP (s.length + b.length) : Nat) : Int) - ((pagesF D.now n).length : Nat)
    · rw [if_pos hr]
      exact .inl ⟨by omega, rfl⟩
    · rw [if_neg hr]
      obtain ⟨a1, a2, a3, a4⟩ := h.putL (n := n) (b := b) hs (by omega)
      exact .inr ⟨by omega, a1, a2, fun m => by rw [a3 m]; unfold grows; rw [if_neg hb], a4⟩

end Go.Proofs.YtlchmkpnehbnlaaGreatDoor.Cd

/-
  How many acts a commit takes; what a call that is OK leaves of the power. No Go in sight. Conditions: none.
-/
namespace Go.Proofs.YtlchmkpnehbnlaaGreatDoor.Cd

end Go.Proofs.YtlchmkpnehbnlaaGreatDoor.Cd

/-
  Pages some of which are written already, and the same writes once more; files of two names; what a loss of power leaves: no Go in sight. Conditions: none.
-/
namespace Go.Proofs.YtlchmkpnehbnlaaGreatDoor.Cd

section
variable {P X : List (List UInt8)} {ws : Pgs} {f : Nat}
end

theorem there_names (l : List Fil) (s : List Fil) (m : List UInt8) (h : (getF (there l s) m).isSome = true) : (getF s m).isSome = true ∨ (getF l m).isSome = true := by
  cases hs : getF s m with
  | some f => exact .inl rfl
  | none =>
    rw [there_none l s m hs] at h
    by_cases e : (getF l m).isSome = true
    · exact .inr e
    · rw [if_neg e] at h; cases h
theorem there_pages (l : List Fil) (s : List Fil) (m : List UInt8) : pagesF (there l s) m = pagesF s m := by
  cases hs : getF s m with
  | some f => exact pagesF_get ((there_some l s m f hs).trans hs.symm)
  | none =>
    have := there_none l s m hs
    unfold pagesF
    rw [this, hs]
    split <;> rename_i e
    · split at e
      · injection e with e; rw [← e]
      · cases e
    · rfl
theorem lose_is {D : Dsk} (h : D.off = false) (k : Nat) : (lose D k).now = there D.now (keeps k 0 D.waits D.safe) ∧ (lose D k).safe = there D.now (keeps k 0 D.waits D.safe) ∧ (lose D k).waits = [] ∧ (lose D k).room = D.room ∧ (lose D k).fuse = 0 := by
  unfold lose
  rw [if_neg (by rw [h]; simp)]
  exact ⟨rfl, rfl, rfl, rfl, rfl⟩
end Go.Proofs.YtlchmkpnehbnlaaGreatDoor.Cd

/-
  A commit, and an opening, wherever the power goes: no Go in sight. Conditions: none.
-/
namespace Go.Proofs.YtlchmkpnehbnlaaGreatDoor.Cd

def pagesB (b : List UInt8) : List (List UInt8) := (chunks b).map fun p => pad p.2

end Go.Proofs.YtlchmkpnehbnlaaGreatDoor.Cd

/-
  A log, wherever the power goes: what the pages tell is a beginning of what was appended, with all that was synced. No Go in sight. Conditions: none.
-/
namespace Go.Proofs.YtlchmkpnehbnlaaGreatDoor.Cd

end Go.Proofs.YtlchmkpnehbnlaaGreatDoor.Cd

/-
  What is safe of a log, with the power on and no end of it in sight; what Open finds of pages as they were laid. No Go in sight. Conditions: none.
-/
namespace Go.Proofs.YtlchmkpnehbnlaaGreatDoor.Cd

theorem keeps_zero (ws : List Wrt) : ∀ (i : Nat) (s : List Fil), keeps 0 i ws s = s := by
  induction ws with
  | nil => intro i s; rfl
  | cons w r ih =>
    intro i s
    rw [keeps, if_neg (by simp [keepBit]), ih]
theorem lose_zero {D : Dsk} (h : D.off = false) (n : List UInt8) : pagesF (lose D 0).now n = pagesF D.safe n := by
  rw [lose_now h, keeps_zero, there_pages]

theorem writeD_safe {D : Dsk} {n b : List UInt8} {i : Int} (h : (writeD D n i b).2 = 0) : (writeD D n i b).1.safe = D.safe := by
  unfold writeD at h ⊢
  split at h
  · cases h
  · rename_i h1
    rw [if_neg h1]
    split at h
    · cases h
    · rename_i h2
      rw [if_neg h2]
      split at h
      · cases h
      · rename_i h3
        rw [if_neg h3]
        split at h
        · cases h
        · rename_i h4
          rw [if_neg h4]
          unfold ends at h ⊢
          split at h
          · cases h
          · rename_i h5
            rw [if_neg h5]
            rfl
theorem writes_safe (n : List UInt8) (l : Pgs) : ∀ {D : Dsk}, (writes D n l).2 = 0 → (writes D n l).1.safe = D.safe := by
  induction l with
  | nil => intro D _; rfl
  | cons p r ih =>
    intro D h
    by_cases hz : (writeD D n p.1 p.2).2 = 0
    · rw [writes_cons hz] at h ⊢
      rw [ih h, writeD_safe hz]
    · rw [writes_bad hz] at h
      exact absurd h hz
theorem appendD_safe {D : Dsk} {n s b : List UInt8} (h : (appendD D n s b).2 = 0) : (appendD D n s b).1.safe = D.safe := by
  unfold appendD at h ⊢
  split at h
  · rename_i h1; rw [if_pos h1]
  · rename_i h1
    rw [if_neg h1]
    split at h
    · cases h
    · rename_i h2
      rw [if_neg h2]
      exact writes_safe n _ h

theorem trim_lay {D : Dsk} {n s : List UInt8} (h : Lay (pagesF D.now n) s) : trimD D n s s.length = (D, 0) := by
  have h2 := h.2
  unfold trimD
  rw [if_neg (show ¬ needP s.length < (pagesF D.now n).length by omega)]
  rw [if_neg (fun e => e rfl), if_pos (show min s.length (needP s.length * 510) = s.length by unfold needP; omega)]

theorem Roomy.syncL {D : Dsk} {room k : Nat} (h : Roomy D room k) {n s : List UInt8} (hl : Lay (pagesF D.now n) s) :
    unless5 (syncD D n).2 = 0 ∧ Roomy (syncD D n).1 room k ∧ (syncD D n).1.now = D.now ∧ (0 < s.length → pagesF (syncD D n).1.safe n = pagesF D.now n ∧ ∀ w ∈ (syncD D n).1.waits, w.name ≠ n) := by
  cases hg : (getF D.now n).isSome
  · have he : syncD D n = (D, 5) := by
      have hm : mayD D n = (D, 5) := by unfold mayD; rw [if_neg (by rw [h.off]; simp), if_pos hg]
      unfold syncD
      rw [hm, if_neg (by simp)]
    rw [he]
    refine ⟨rfl, h, rfl, fun h0 => ?_⟩
    have h2 := hl.2
    rw [pages_of_none hg] at h2
    have := needP_pos h0
    simp only [List.length_nil] at h2
    omega
  · obtain ⟨a1, a2, a3⟩ := h.sync hg
    refine ⟨by rw [a1]; rfl, a2, a3, fun _ => ?_⟩
    rw [sync_calm h.off hg (by rw [h.fuse]; omega)]
    refine ⟨?_, fun w hw => ?_⟩
    · show pagesF (putF D.safe ⟨n, pagesF D.now n⟩) n = _
      rw [pagesF_put, if_pos rfl]
    · have hw : w ∈ dropW D.waits n 0 := hw
      unfold dropW at hw
      have := (List.mem_filter.1 hw).2
      simp only [decide_eq_true_eq] at this
      rcases this with h1 | h1
      · exact h1
      · omega

end Go.Proofs.YtlchmkpnehbnlaaGreatDoor.Cd

/-
  Save of a table's bytes, as the document tells of it, wherever the power goes: no Go in sight. Conditions: none.
-/
namespace Go.Proofs.YtlchmkpnehbnlaaGreatDoor.Cd

def saveD (D : Dsk) (n b : List UInt8) : Dsk × Nat :=
  if D.off = true then (D, 8) else if (getF D.now n).isSome = true then (D, 6) else
  if freeD D < (pagesOf b.length : Nat) then (D, 7) else
  if (writes D n (chunks b)).2 ≠ 0 then writes D n (chunks b) else syncD (writes D n (chunks b)).1 n

theorem pagesB_flat_aux (b : List UInt8) : ∀ (m j : Nat), b.length ≤ 512 * (j + m) → 512 * (j + m) < b.length + 512 → 512 * j ≤ b.length →
    (((List.range' j m).map fun k => pad (chunk b k)).flatten) = b.drop (512 * j) ++ List.replicate (512 * (j + m) - b.length) 0 := by
  intro m
  induction m with
  | zero =>
    intro j h1 h2 h3
    rw [List.drop_of_length_le (by omega), show 512 * (j + 0) - b.length = 0 by omega]
    rfl
  | succ m ih =>
    intro j h1 h2 h3
    rw [List.range'_succ, List.map_cons, List.flatten_cons]
    by_cases hl : b.length ≤ 512 * (j + 1)
    · have hm : m = 0 := by omega
      subst hm
      have hc : chunk b j = b.drop (512 * j) := by unfold chunk; rw [List.take_of_length_le (by simp; omega)]
      rw [hc]
      simp only [List.range'_zero, List.map_nil, List.flatten_nil, List.append_nil, pad, List.length_drop]
      congr 2
      omega
    · rw [ih (j + 1) (by omega) (by omega) (by omega)]
      have hc : (chunk b j).length = 512 := by simp [chunk]; omega
      have hp : pad (chunk b j) = chunk b j := by unfold pad; rw [hc]; simp
      rw [hp, ← List.append_assoc]
      congr 1
      · unfold chunk
        rw [show 512 * (j + 1) = 512 * j + 512 by omega, ← List.drop_drop, List.take_append_drop]
      · rw [show j + 1 + m = j + (m + 1) by omega]

theorem pagesB_flat (b : List UInt8) : (pagesB b).flatten = b ++ List.replicate (512 * pagesOf b.length - b.length) 0 := by
  have h := pagesB_flat_aux b (pagesOf b.length) 0 (by unfold pagesOf; omega) (by unfold pagesOf; omega) (by omega)
  simp only [Nat.mul_zero, List.drop_zero, Nat.zero_add] at h
  rw [← h]
  unfold pagesB chunks
  rw [List.map_map, List.range_eq_range']
  rfl
theorem pagesB_len (b : List UInt8) : (pagesB b).length = pagesOf b.length := by unfold pagesB; rw [List.length_map, chunks_len]
end Go.Proofs.YtlchmkpnehbnlaaGreatDoor.Cd
