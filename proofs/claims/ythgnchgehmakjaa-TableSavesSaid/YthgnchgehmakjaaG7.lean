/-
  slices.Collect of a table's writes: they come into a new row, in some order. Conditions: not too many.
-/
import Derived.Test.YthgnchgehmakjaaG1
import Derived.ChangeSame
import Derived.OpenShut
import Derived.Laws.Rows
import Derived.SizedLaws
import Derived.LoopTactic
import Derived.RangeFuncIn
import Derived.RangeFuncRecord
import Derived.RangeFuncSeq
import Derived.RangeFuncBound
import Derived.RangeFuncCalls
import Derived.RangeFuncGives
import Derived.Lib.Hide
import Derived.Shelf.Abstract
import Derived.Shelf.RegionOpen
import Derived.WalkKit
import Derived.OwnWalkIn
import Derived.TacticsInMore
import Derived.LoopNIn
import Derived.LoopIn
import Derived.BigRegionIn
import Derived.Maps.OwnIn
import Derived.Maps.AppendAt
import Derived.Sort.MapsRangeIn
import Derived.Sort.EncStr
import Derived.Sort.KeysCollected
import Derived.Maps.RangeWalk
import Derived.Laws.IdiomRangeMap
import Derived.Deep.RegionLaw
import Derived.Deep.RegionHeld3
import Derived.Deep.DeepMust
import Derived.Shelf.SlIter.Collect
/-
  Tables in plain Lean: writes by rising keys, each key once; what a write puts in, what is found, what is put together. Conditions: none.
-/
namespace Go.Proofs.Ythgnchgehmakjaa.Cd

/-- A write: its key, its value, whether it is gone. -/
structure Wr where
  key : List UInt8
  rest : List UInt8 × Bool

/-- Of one that is gone the value is empty. -/
def flatG (w : Wr) : Wr := if w.2.2 then ⟨w.1, [], true⟩ else w
theorem flatG_key (w : Wr) : (flatG w).1 = w.1 := by unfold flatG; split <;> rfl
theorem flatG_gone (w : Wr) : (flatG w).2.2 = w.2.2 := by unfold flatG; split <;> simp_all
theorem flatG_flat (w : Wr) : flatG (flatG w) = flatG w := by unfold flatG; split <;> simp_all

def insW : List Wr → Wr → List Wr
  | [], w => [w]
  | x :: r, w => if x.1 < w.1 then x :: insW r w else w :: (x :: r).filter fun y => y.1 != w.1
def ofFrom (t : List Wr) (l : List Wr) : List Wr := l.foldl (fun t w => insW t (flatG w)) t
def ofW (l : List Wr) : List Wr := ofFrom [] l
def getW (t : List Wr) (k : List UInt8) : Option Wr := t.find? fun w => w.1 == k
def SrtW (t : List Wr) : Prop := t.Pairwise fun a b => a.1 < b.1
def FlatW (t : List Wr) : Prop := ∀ w ∈ t, flatG w = w
def keepW (whole : Bool) (t : List Wr) : List Wr := t.filter fun w => !whole || !w.2.2
def mergeW (whole : Bool) (ts : List (List Wr)) : List Wr := keepW whole (ofW ts.flatten)

theorem less_irrefl (a : List UInt8) : ¬ a < a := List.lt_irrefl a
theorem less_trans {a b c : List UInt8} (h1 : a < b) (h2 : b < c) : a < c := List.lt_trans h1 h2
theorem less_asymm {a b : List UInt8} (h1 : a < b) : ¬ b < a := List.lt_asymm h1
theorem less_tri {a b : List UInt8} (h1 : ¬ a < b) (h2 : ¬ b < a) : a = b := List.le_antisymm (List.not_lt.1 h2) (List.not_lt.1 h1)
theorem less_ne {a b : List UInt8} (h : a < b) : a ≠ b := fun e => by subst e; exact less_irrefl _ h

theorem getW_key {t : List Wr} {k : List UInt8} {w : Wr} (h : getW t k = some w) : w.1 = k := by
  have := List.find?_some h
  simpa using this
theorem getW_mem {t : List Wr} {k : List UInt8} {w : Wr} (h : getW t k = some w) : w ∈ t := List.mem_of_find?_eq_some h
theorem getW_of_mem {t : List Wr} (h : SrtW t) {w : Wr} (hw : w ∈ t) : getW t w.1 = some w := by
  induction t with
  | nil => cases hw
  | cons x r ih =>
    obtain ⟨h1, h2⟩ := List.pairwise_cons.1 h
    unfold getW
    rw [List.find?_cons]
    rcases List.mem_cons.1 hw with rfl | hw
    · simp
    · have := less_ne (h1 w hw)
      have hb : (x.1 == w.1) = false := by simpa using this
      rw [hb]
      exact ih h2 hw
theorem getW_none {t : List Wr} {k : List UInt8} : getW t k = none ↔ ∀ w ∈ t, w.1 ≠ k := by
  unfold getW
  rw [List.find?_eq_none]
  simp

theorem getW_filter_ne (t : List Wr) (j k : List UInt8) (h : k ≠ j) : getW (t.filter fun y => y.1 != j) k = getW t k := by
  induction t with
  | nil => rfl
  | cons x r ih =>
    unfold getW at ih ⊢
    rw [List.filter_cons]
    by_cases e : x.1 = j
    · have h1 : (x.1 != j) = false := by simpa using e
      have h2 : (x.1 == k) = false := by rw [e]; simpa using fun e => h e.symm
      rw [h1, List.find?_cons, h2]
      exact ih
    · have h1 : (x.1 != j) = true := by simpa using e
      rw [h1, if_pos rfl, List.find?_cons, List.find?_cons, ih]

theorem getW_ins (t : List Wr) (w : Wr) (k : List UInt8) : getW (insW t w) k = if k = w.1 then some w else getW t k := by
  induction t with
  | nil =>
    unfold insW getW
    by_cases e : k = w.1
    · subst e; simp
    · have h2 : (w.1 == k) = false := by simpa using fun e2 => e e2.symm
      rw [if_neg e]; simp [h2]
  | cons x r ih =>
    unfold insW
    split
    · rename_i hx
      show (x :: insW r w).find? _ = _
      rw [List.find?_cons]
      by_cases e : x.1 = k
      · have hb : (x.1 == k) = true := by simpa using e
        have hne : k ≠ w.1 := by rw [← e]; exact less_ne hx
        rw [hb, if_neg hne]
        unfold getW
        rw [List.find?_cons, hb]
      · have hb : (x.1 == k) = false := by simpa using e
        rw [hb]
        show getW (insW r w) k = _
        rw [ih]
        unfold getW
        rw [List.find?_cons, hb]
    · show (w :: _).find? _ = _
      rw [List.find?_cons]
      by_cases e : k = w.1
      · subst e; simp
      · have hb : (w.1 == k) = false := by simpa using fun e2 => e e2.symm
        rw [hb, if_neg e]
        exact getW_filter_ne (x :: r) w.1 k e

theorem mem_ins {t : List Wr} {w y : Wr} (h : y ∈ insW t w) : y = w ∨ y ∈ t := by
  induction t with
  | nil => unfold insW at h; exact .inl (List.mem_singleton.1 h)
  | cons x r ih =>
    unfold insW at h
    split at h
    · rcases List.mem_cons.1 h with h | h
      · exact .inr (h ▸ List.mem_cons_self)
      · rcases ih h with h | h
        · exact .inl h
        · exact .inr (List.mem_cons_of_mem _ h)
    · rcases List.mem_cons.1 h with h | h
      · exact .inl h
      · exact .inr (List.mem_filter.1 h).1

theorem ins_srt {t : List Wr} (h : SrtW t) (w : Wr) : SrtW (insW t w) := by
  induction t with
  | nil => exact List.pairwise_singleton _ _
  | cons x r ih =>
    obtain ⟨h1, h2⟩ := List.pairwise_cons.1 h
    unfold insW
    split
    · rename_i hx
      refine List.pairwise_cons.2 ⟨fun y hy => ?_, ih h2⟩
      rcases mem_ins hy with rfl | hy
      · exact hx
      · exact h1 y hy
    · rename_i hx
      refine List.pairwise_cons.2 ⟨fun y hy => ?_, h.sublist List.filter_sublist⟩
      obtain ⟨hy1, hy2⟩ := List.mem_filter.1 hy
      have hne : y.1 ≠ w.1 := by simpa using hy2
      rcases List.mem_cons.1 hy1 with rfl | hy3
      · refine Decidable.byContradiction fun hn => hne (less_tri hx hn)
      · have hxy := h1 y hy3
        refine Decidable.byContradiction fun hn => ?_
        by_cases e : x.1 = w.1
        · exact hn (e ▸ hxy)
        · have : w.1 < x.1 := Decidable.byContradiction fun hn2 => e (less_tri hx hn2)
          exact hn (less_trans this hxy)

theorem ins_flat {t : List Wr} (h : FlatW t) {w : Wr} (hw : flatG w = w) : FlatW (insW t w) := fun y hy => by
  rcases mem_ins hy with rfl | hy
  · exact hw
  · exact h y hy

/-- Tables that find the same are the same. -/
theorem srt_ext : ∀ {a b : List Wr}, SrtW a → SrtW b → (∀ k, getW a k = getW b k) → a = b
  | [], [], _, _, _ => rfl
  | [], y :: r, _, _, h => by
    have := h y.1
    rw [show getW (y :: r) y.1 = some y by simp [getW]] at this
    cases this
  | x :: r, [], _, _, h => by
    have := h x.1
    rw [show getW (x :: r) x.1 = some x by simp [getW]] at this
    cases this
  | x :: r, y :: s, ha, hb, h => by
    obtain ⟨a1, a2⟩ := List.pairwise_cons.1 ha
    obtain ⟨b1, b2⟩ := List.pairwise_cons.1 hb
    have hx : x ∈ y :: s := getW_mem (k := x.1) (by rw [← h]; simp [getW])
    have hy : y ∈ x :: r := getW_mem (k := y.1) (by rw [h]; simp [getW])
    have e : x = y := by
      rcases List.mem_cons.1 hx with hx | hx
      · exact hx
      · rcases List.mem_cons.1 hy with hy | hy
        · exact hy.symm
        · exact absurd (b1 x hx) (less_asymm (a1 y hy))
    subst e
    refine congrArg _ (srt_ext a2 b2 fun k => ?_)
    have hk := h k
    unfold getW at hk ⊢
    rw [List.find?_cons, List.find?_cons] at hk
    by_cases e : x.1 = k
    · rw [List.find?_eq_none.2 fun z hz => by have := less_ne (a1 z hz); rw [e] at this; simpa using fun e2 => this e2.symm]
      rw [List.find?_eq_none.2 fun z hz => by have := less_ne (b1 z hz); rw [e] at this; simpa using fun e2 => this e2.symm]
    · have hb : (x.1 == k) = false := by simpa using e
      rw [hb] at hk
      exact hk

theorem filter_key_len {t : List Wr} (h : SrtW t) (k : List UInt8) : (t.filter fun y => y.1 != k).length + (if (getW t k).isSome = true then 1 else 0) = t.length := by
  induction t with
  | nil => rfl
  | cons x r ih =>
    obtain ⟨h1, h2⟩ := List.pairwise_cons.1 h
    have ih := ih h2
    rw [List.filter_cons]
    unfold getW at ih ⊢
    rw [List.find?_cons]
    by_cases e : x.1 = k
    · have hb : (x.1 != k) = false := by simpa using e
      have hb2 : (x.1 == k) = true := by simpa using e
      have hn : r.find? (fun w => w.1 == k) = none := List.find?_eq_none.2 fun z hz => by have := less_ne (h1 z hz); rw [e] at this; simpa using fun e2 => this e2.symm
      rw [hn] at ih
      rw [hb, hb2]
      simp at ih ⊢
      exact ih
    · have hb : (x.1 != k) = true := by simpa using e
      have hb2 : (x.1 == k) = false := by simpa using e
      rw [hb, hb2, if_pos rfl]
      simp only [List.length_cons]
      omega

theorem ins_len {t : List Wr} (h : SrtW t) (w : Wr) : (insW t w).length = t.length + if (getW t w.1).isSome = true then 0 else 1 := by
  induction t with
  | nil => rfl
  | cons x r ih =>
    obtain ⟨h1, h2⟩ := List.pairwise_cons.1 h
    unfold insW
    split
    · rename_i hx
      have hb2 : (x.1 == w.1) = false := by simpa using less_ne hx
      rw [List.length_cons, ih h2]
      unfold getW
      rw [List.find?_cons, hb2]
      simp only [List.length_cons]
      omega
    · have := filter_key_len h w.1
      rw [List.length_cons]
      split at this
      · rename_i hs
        rw [if_pos hs]
        omega
      · rename_i hs
        rw [if_neg hs]
        omega

section
variable {t l : List Wr}
theorem ofFrom_srt (h : SrtW t) (l : List Wr) : SrtW (ofFrom t l) := by
  induction l generalizing t with
  | nil => exact h
  | cons w r ih => exact ih (ins_srt h _)
theorem ofFrom_flat (h : FlatW t) (l : List Wr) : FlatW (ofFrom t l) := by
  induction l generalizing t with
  | nil => exact h
  | cons w r ih => exact ih (ins_flat h (flatG_flat w))
theorem ofW_srt (l : List Wr) : SrtW (ofW l) := ofFrom_srt List.Pairwise.nil l
theorem ofW_flat (l : List Wr) : FlatW (ofW l) := ofFrom_flat (fun _ h => by cases h) l
theorem ofFrom_snoc (t l : List Wr) (w : Wr) : ofFrom t (l ++ [w]) = insW (ofFrom t l) (flatG w) := by
  unfold ofFrom; rw [List.foldl_append]; rfl
theorem ofFrom_append (t a b : List Wr) : ofFrom t (a ++ b) = ofFrom (ofFrom t a) b := by
  unfold ofFrom; rw [List.foldl_append]
theorem ofW_take {k : Nat} {w : Wr} (h : l[k]? = some w) : ofW (l.take (k + 1)) = insW (ofW (l.take k)) (flatG w) := by
  obtain ⟨hk, rfl⟩ := List.getElem?_eq_some_iff.1 h
  rw [List.take_succ_eq_append_getElem hk]
  exact ofFrom_snoc _ _ _
/-- What is found behind writes: the last of a key. -/
theorem getW_from (t l : List Wr) (k : List UInt8) : getW (ofFrom t l) k = ((l.reverse.find? fun w => w.1 == k).map flatG).or (getW t k) := by
  induction l generalizing t with
  | nil => rfl
  | cons w r ih =>
    show getW (ofFrom (insW t (flatG w)) r) k = _
    rw [ih, getW_ins, flatG_key, List.reverse_cons, List.find?_append]
    cases r.reverse.find? (fun w => w.1 == k) with
    | some x => rfl
    | none =>
      by_cases e : k = w.1
      · subst e; simp
      · have hb : (w.1 == k) = false := by simpa using fun e2 => e e2.symm
        rw [if_neg e]; simp [hb]
theorem find_rev {k : List UInt8} (h : SrtW l) : (l.reverse.find? fun w => w.1 == k) = getW l k := by
  cases hg : getW l k with
  | none =>
    rw [List.find?_eq_none]
    intro x hx
    have := getW_none.1 hg x (List.mem_reverse.1 hx)
    simpa using this
  | some w =>
    have hk := getW_key hg
    have hm := getW_mem hg
    cases hf : l.reverse.find? (fun w => w.1 == k) with
    | none =>
      have := List.find?_eq_none.1 hf w (List.mem_reverse.2 hm)
      simp [hk] at this
    | some x =>
      have hx := List.mem_reverse.1 (List.mem_of_find?_eq_some hf)
      have hxk : x.1 = k := by simpa using List.find?_some hf
      have := getW_of_mem h hx
      rw [hxk, hg] at this
      exact this.symm
/-- A table's writes on top of others: what it has, else what they have. -/
theorem getW_over (t : List Wr) (hl : SrtW l) (hf : FlatW l) (k : List UInt8) : getW (ofFrom t l) k = (getW l k).or (getW t k) := by
  rw [getW_from, find_rev hl]
  cases hg : getW l k with
  | none => rfl
  | some w => rw [Option.map_some, hf w (getW_mem hg)]
theorem ofW_self (h : SrtW t) (hf : FlatW t) : ofW t = t := srt_ext (ofW_srt t) h fun k => by
  show getW (ofFrom [] t) k = _
  rw [getW_over [] h hf]
  cases getW t k <;> rfl
theorem ofFrom_len (h : SrtW t) (l : List Wr) : (ofFrom t l).length ≤ t.length + l.length := by
  induction l generalizing t with
  | nil => exact Nat.le_refl _
  | cons w r ih =>
    have h1 := ih (ins_srt h (flatG w))
    have h2 := ins_len h (flatG w)
    show (ofFrom (insW t (flatG w)) r).length ≤ _
    simp only [List.length_cons]
    split at h2 <;> omega
theorem ofW_len (l : List Wr) : (ofW l).length ≤ l.length := by
  have := ofFrom_len (t := []) List.Pairwise.nil l
  simpa [ofW] using this
theorem getW_keep (hs : SrtW t) (whole : Bool) (k : List UInt8) : getW (keepW whole t) k = (getW t k).bind fun w => if whole && w.2.2 then none else some w := by
  cases hg : getW t k with
  | none =>
    show getW (keepW whole t) k = none
    rw [getW_none] at hg ⊢
    exact fun w hw => hg w (List.mem_filter.1 hw).1
  | some w =>
    have hk := getW_key hg
    have hm := getW_mem hg
    subst hk
    have hs' : SrtW (keepW whole t) := hs.sublist List.filter_sublist
    by_cases e : (whole && w.2.2) = true
    · show _ = if _ then _ else _
      rw [if_pos e, getW_none]
      intro x hx hxk
      have h1 := List.mem_filter.1 hx
      have h2 := getW_of_mem hs h1.1
      rw [hxk, hg] at h2
      injection h2 with h2
      subst h2
      revert e
      have h3 := h1.2
      cases whole <;> cases hw : w.2.2 <;> simp_all
    · show _ = if _ then _ else _
      rw [if_neg e]
      refine getW_of_mem hs' (List.mem_filter.2 ⟨hm, ?_⟩)
      revert e
      cases whole <;> cases hw : w.2.2 <;> simp
theorem keep_srt (h : SrtW t) (whole : Bool) : SrtW (keepW whole t) := h.sublist List.filter_sublist
theorem keep_flat (h : FlatW t) (whole : Bool) : FlatW (keepW whole t) := fun w hw => h w (List.mem_filter.1 hw).1
theorem keep_false (t : List Wr) : keepW false t = t := by unfold keepW; simp
end

end Go.Proofs.Ythgnchgehmakjaa.Cd

/-
  Slices of writes: how they read, how they grow. Conditions: none.
-/
namespace Go.Proofs.Ythgnchgehmakjaa.Cd
open Go.RowKit Go.ChangeShapes Go.WideShapes Go.Deep

/-- A write's cells. -/
def wrC (p : Wr) : List Value := [.string ⟨p.1.toArray⟩, .string ⟨p.2.1.toArray⟩, .bool p.2.2]
/-- A write as a value. -/
def wrV (p : Wr) : Value := .agg #[.string ⟨p.1.toArray⟩, .string ⟨p.2.1.toArray⟩, .bool p.2.2]
theorem wrC_len (p : Wr) : (wrC p).length = 3 := rfl
theorem wrC_one (p : Wr) : ∀ u ∈ wrC p, u.oneCell' = true := by
  intro u hu
  simp only [wrC, List.mem_cons, List.not_mem_nil, or_false] at hu
  rcases hu with rfl | rfl | rfl <;> rfl
def Fit (p : Wr) : Prop := p.1.length ≤ 140737488351232 ∧ p.2.1.length ≤ 140737488351232
def FitW (l : List Wr) : Prop := ∀ p ∈ l, Fit p
theorem Fit.flat {p : Wr} (h : Fit p) : Fit (flatG p) := by
  unfold Cd.flatG
  split
  · exact ⟨h.1, Nat.zero_le _⟩
  · exact h
theorem FitW.ins {t : List Wr} (h : FitW t) {p : Wr} (hp : Fit p) : FitW (insW t p) := fun q hq => by
  rcases mem_ins hq with rfl | hq
  · exact hp
  · exact h q hq
theorem FitW.of {l : List Wr} (h : FitW l) : FitW (ofW l) := by
  have : ∀ (t : List Wr), FitW t → FitW (ofFrom t l) := by
    induction l with
    | nil => exact fun t ht => ht
    | cons w r ih => exact fun t ht => ih (fun p hp => h p (List.mem_cons_of_mem _ hp)) _ (ht.ins (h w List.mem_cons_self).flat)
  exact this [] (fun _ h => by cases h)

/-- A slice value that reads as the writes 'l'. -/
def TbIn (w : World) (B : Nat) (v : Value) (l : List Wr) : Prop :=
  ∃ A c, v = .slice A l.length c ∧ l.length ≤ c ∧ c ≤ maxLen ∧ (A = none → c = 0) ∧
    (0 < l.length → ∃ b off, A = some ⟨b, off, none⟩ ∧ b < B ∧ ∀ (i : Nat) p, l[i]? = some p → ∀ (j : Nat) x, (wrC p)[j]? = some x → w.cell? ⟨b, off + i * 3 + j, none⟩ = some x)

section
variable {w w' : World} {B B' : Nat} {v : Value} {l : List Wr}
theorem TbIn.below (h : TbIn w B v l) (hb : Below B w w') : TbIn w' B v l := by
  obtain ⟨A, c, h1, h2, h3, h4, h5⟩ := h
  refine ⟨A, c, h1, h2, h3, h4, fun hp => ?_⟩
  obtain ⟨b, off, e, hB, hc⟩ := h5 hp
  exact ⟨b, off, e, hB, fun i p hi j x hj => (hb.cell (p := ⟨b, off + i * 3 + j, none⟩) hB).trans (hc i p hi j x hj)⟩
theorem TbIn.more (h : TbIn w B v l) (hB : B ≤ B') : TbIn w B' v l := by
  obtain ⟨A, c, h1, h2, h3, h4, h5⟩ := h
  refine ⟨A, c, h1, h2, h3, h4, fun hp => ?_⟩
  obtain ⟨b, off, e, hb, hc⟩ := h5 hp
  exact ⟨b, off, e, Nat.lt_of_lt_of_le hb hB, hc⟩
theorem TbIn.nil (w : World) (B : Nat) : TbIn w B (.slice none 0 0) [] := ⟨none, 0, rfl, Nat.le_refl _, Nat.zero_le _, fun _ => rfl, fun h => by simp at h⟩
theorem TbIn.len (h : TbIn w B v l) : ∃ A c, v = .slice A l.length c ∧ l.length ≤ c ∧ c ≤ 9223372036854775807 := by
  obtain ⟨A, c, h1, h2, h3, _⟩ := h
  exact ⟨A, c, h1, h2, h3⟩
/-- The k-th write's cells. -/
theorem TbIn.at {A : Option Addr} {n c : Nat} (h : TbIn w B (.slice A n c) l) {k : Nat} {p : Wr} (hk : l[k]? = some p) :
    ∃ b off, A = some ⟨b, off, none⟩ ∧ b < B ∧ w.cell? ⟨b, off + k * 3, none⟩ = some (.string ⟨p.1.toArray⟩) ∧ w.cell? ⟨b, off + k * 3 + 1, none⟩ = some (.string ⟨p.2.1.toArray⟩) ∧ w.cell? ⟨b, off + k * 3 + 2, none⟩ = some (.bool p.2.2) := by
  obtain ⟨A0, c0, e, _, _, _, h5⟩ := h
  injection e with e1 e2 e3
  have hlt := (List.getElem?_eq_some_iff.1 hk).1
  obtain ⟨b, off, e, hB, hc⟩ := h5 (by omega)
  exact ⟨b, off, e1.trans e, hB, hc k p hk 0 _ rfl, hc k p hk 1 _ rfl, hc k p hk 2 _ rfl⟩
end

theorem cells_wr : Try.prog.cellsOf 44 = 3 := by kernel_rfl
theorem cells_strw : Try.prog.cellsOf 9 = 1 := by kernel_rfl
theorem cells_boolw : Try.prog.cellsOf 4 = 1 := by kernel_rfl
theorem cells_wrs : Try.prog.cellsOf 22 = 1 := by kernel_rfl

def WrAt {H : Type} (w : World) (a : Addr) (i : Nat) (d : DataW H) (p : Wr) : Prop :=
  ((∀ n ∈ d.weights Try.prog 44, n ≤ reachBytes) → Fit p) ∧ ∀ (j : Nat) v, (wrC p)[j]? = some v → w.cell? (a.add (i * 3 + j)) = some v

set_option maxRecDepth 100000 in
theorem wr_of {H : Type} {enc : TypeId × Value → H} {w : World} {a : Addr} {i n : Nat} {cs : List Value} {x : DataW H × List MemPlace} (hc : w.cells? 0 (a.add (i * 3)) 3 = some cs)
    (ht : DataW.trod enc Try.prog w 0 (fun _ => true) true n 44 cs = some x) : ∃ p, WrAt w a i x.1 p := by
  obtain ⟨_, hlen, hat⟩ := World.cells?_some hc
  obtain ⟨xs, m, _, hx, _, hxl, hfld⟩ := DataW.trod_struct Try.underlying44 ht
  match cs, hlen, xs, hxl with
  | [z0, z1, z2], _, [y0, y1, y2], _ =>
    have f0 : DataW.trod enc Try.prog w 0 (fun _ => true) true m 9 (([z0, z1, z2].drop 0).take (Try.prog.cellsOf 9)) = some y0 := hfld 0 _ rfl
    have f1 : DataW.trod enc Try.prog w 0 (fun _ => true) true m 9 (([z0, z1, z2].drop 1).take (Try.prog.cellsOf 9)) = some y1 := hfld 1 _ rfl
    rw [cells_strw] at f0 f1
    have f2 : DataW.trod enc Try.prog w 0 (fun _ => true) true m 4 (([z0, z1, z2].drop 2).take (Try.prog.cellsOf 4)) = some y2 := hfld 2 _ rfl
    rw [cells_boolw] at f2
    obtain ⟨x0, q0, e0, _⟩ := DataW.trod_string (cs := [z0]) Try.underlying9 f0
    obtain ⟨x1, q1, e1, _⟩ := DataW.trod_string (cs := [z1]) Try.underlying9 f1
    obtain ⟨x2, q2, e2⟩ := DataW.trod_bool (cs := [z2]) Try.underlying4 f2
    simp only [List.cons.injEq, and_true] at q0 q1 q2
    have hxd : x.1 = .agg [y0.1, y1.1, y2.1] := by rw [hx]; rfl
    refine ⟨⟨x0.data.toList, x1.data.toList, x2⟩, fun hw => ?_, fun j v hv => ?_⟩
    · have hw' : ∀ n ∈ DataW.weightsEach Try.prog [9, 9, 4] [y0.1, y1.1, y2.1], n ≤ reachBytes := by
        intro n hn
        refine hw n ?_
        rw [hxd]
        simpa [DataW.weights, Try.underlying44] using hn
      have w0 := fun n hn => hw' n (DataW.weights_mem_each (j := 0) (t := 9) (d := y0.1) rfl rfl n hn)
      have w1 := fun n hn => hw' n (DataW.weights_mem_each (j := 1) (t := 9) (d := y1.1) rfl rfl n hn)
      have l0 := w0 x0.data.toList.length (by rw [e0]; simp [DataW.weights])
      have l1 := w1 x1.data.toList.length (by rw [e1]; simp [DataW.weights])
      simp only [reachBytes] at l0 l1
      exact ⟨by show x0.data.toList.length ≤ _; omega, by show x1.data.toList.length ≤ _; omega⟩
    · have hj : j < 3 := (List.getElem?_eq_some_iff.1 hv).1
      rw [← Go.Deep.add_add, hat j hj]
      rw [q0, q1, q2]
      exact hv

instance : Inhabited Wr := ⟨⟨[], [], false⟩⟩

/-- Cells that are read as a slice of writes. -/
theorem wrs_of_cells {H : Type} {enc : TypeId × Value → H} {w : World} {fuel : Nat} {cs : List Value} {x : DataW H × List MemPlace} (hf : DataW.trod enc Try.prog w 0 (fun _ => true) true fuel 22 cs = some x) :
    ∃ A n c ps, cs = [.slice A n c] ∧ TbIn w w.heap.size (.slice A n c) ps ∧ ((∀ m ∈ x.1.weights Try.prog 22, m ≤ reachBytes) → FitW ps) := by
  rcases open_slice Try.underlying22 hf with ⟨hcs, _⟩ | ⟨a, n0, c0, m, n, D, Pl, hcs, _, hl, hm, hmm, hx, hi⟩
  · exact ⟨none, 0, 0, [], hcs, TbIn.nil _ _, fun _ p hp => by cases hp⟩
  · have hone : ∀ i, i < n0 → ∃ p : Wr, WrAt w a i (D i) p := by
      intro i hin
      obtain ⟨cs', hcc, htt⟩ := hi i (by rw [hmm]; simp; omega)
      rw [cells_wr] at hcc
      exact wr_of hcc htt
    obtain ⟨f, hf2⟩ := choose_lt hone
    have hget : ∀ (i : Nat) p, ((List.range n0).map f)[i]? = some p → i < n0 ∧ p = f i := by
      intro i p hip
      obtain ⟨hlt, rfl⟩ := List.getElem?_eq_some_iff.1 hip
      simp at hlt
      exact ⟨hlt, by simp⟩
    refine ⟨some a, n0, c0, (List.range n0).map f, hcs, ⟨some a, c0, by simp, by simpa using hl, hm, (fun h => by cases h), fun hp => ?_⟩, fun hw => ?_⟩
    · have hp0 : 0 < n0 := by simpa using hp
      obtain ⟨b, off, spot⟩ := a
      have hc := (hf2 0 hp0).2 0 _ rfl
      have hspot : spot = none := by simpa [Addr.add] using World.cell?_spot hc
      subst hspot
      refine ⟨b, off, rfl, ?_, ?_⟩
      · have := World.block_lt_of_cell? w _ hc
        rwa [block_of_add] at this
      · intro i p hip j x hj
        obtain ⟨hlt, rfl⟩ := hget i p hip
        have := (hf2 i hlt).2 j x hj
        rwa [Addr.add_lit, ← Nat.add_assoc] at this
    · intro p hp
      obtain ⟨i, hi2, rfl⟩ := List.mem_map.1 hp
      have hlt := List.mem_range.1 hi2
      refine (hf2 i hlt).1 fun n hn => hw n ?_
      have hd : x.1 = .slice ((List.range n0).map D) ((List.range (m - n0)).map fun j => D (n0 + j)) := by rw [hx]
      rw [hd]
      simp only [DataW.weights, Try.underlying22]
      exact List.mem_cons_of_mem _ (List.mem_append_left _ (weightsAll_mem (d := D i) (List.mem_map.2 ⟨i, hi2, rfl⟩) hn))

theorem wrs_of_trod {H : Type} {enc : TypeId × Value → H} {w : World} {v : Value} {d : DataW H} {ps : List MemPlace} (hv : ∃ A n c, v = .slice A n c)
    (h : DataW.Trod enc Try.prog w 0 (fun _ => true) true 22 v d ps) (hw : ∀ n ∈ d.weights Try.prog 22, n ≤ reachBytes) : ∃ l, TbIn w w.heap.size v l ∧ FitW l := by
  obtain ⟨A0, n0, c0, rfl⟩ := hv
  obtain ⟨fuel, hf⟩ := h
  obtain ⟨A, n, c, l, e, h1, h2⟩ := wrs_of_cells hf
  simp [Value.cells] at e
  obtain ⟨rfl, rfl, rfl⟩ := e
  exact ⟨l, h1, h2 hw⟩

/-- A slice value that reads as lists of writes. -/
def TbsIn (w : World) (B : Nat) (v : Value) (ls : List (List Wr)) : Prop :=
  ∃ A c, v = .slice A ls.length c ∧ ls.length ≤ c ∧ c ≤ maxLen ∧
    (0 < ls.length → ∃ b off, A = some ⟨b, off, none⟩ ∧ b < B ∧ ∀ (i : Nat) l, ls[i]? = some l → ∃ u, TbIn w B u l ∧ w.cell? ⟨b, off + i, none⟩ = some u)

section
variable {w w' : World} {B B' : Nat} {v : Value} {ls : List (List Wr)}
theorem TbsIn.below (h : TbsIn w B v ls) (hb : Below B w w') : TbsIn w' B v ls := by
  obtain ⟨A, c, h1, h2, h3, h5⟩ := h
  refine ⟨A, c, h1, h2, h3, fun hp => ?_⟩
  obtain ⟨b, off, e, hB, hc⟩ := h5 hp
  refine ⟨b, off, e, hB, fun i l hi => ?_⟩
  obtain ⟨u, h6, h7⟩ := hc i l hi
  exact ⟨u, h6.below hb, (hb.cell (p := ⟨b, off + i, none⟩) hB).trans h7⟩
theorem TbsIn.len (h : TbsIn w B v ls) : ∃ A c, v = .slice A ls.length c ∧ ls.length ≤ c ∧ c ≤ 9223372036854775807 := by
  obtain ⟨A, c, h1, h2, h3, _⟩ := h
  exact ⟨A, c, h1, h2, h3⟩
theorem TbsIn.at {A : Option Addr} {n c : Nat} (h : TbsIn w B (.slice A n c) ls) {k : Nat} {l : List Wr} (hk : ls[k]? = some l) :
    ∃ b off u, A = some ⟨b, off, none⟩ ∧ b < B ∧ TbIn w B u l ∧ w.cell? ⟨b, off + k, none⟩ = some u := by
  obtain ⟨A0, c0, e, _, _, h5⟩ := h
  injection e with e1 e2 e3
  have hlt := (List.getElem?_eq_some_iff.1 hk).1
  obtain ⟨b, off, e, hB, hc⟩ := h5 (by omega)
  obtain ⟨u, h6, h7⟩ := hc k l hk
  exact ⟨b, off, u, e1.trans e, hB, h6, h7⟩
end

/-! ### Rows of the call's own -/

/-- Writes' cells, one behind the other. -/
def wrCs (l : List Wr) : List Value := (l.map wrC).flatten
theorem wrCs_append (a b : List Wr) : wrCs (a ++ b) = wrCs a ++ wrCs b := by simp [wrCs]
theorem wrCs_len (l : List Wr) : (wrCs l).length = l.length * 3 := by
  induction l with
  | nil => rfl
  | cons p r ih =>
    show (wrC p ++ wrCs r).length = _
    rw [List.length_append, ih, wrC_len, List.length_cons]
    omega
theorem wrCs_at : ∀ (l : List Wr) (i : Nat) (p : Wr), l[i]? = some p → ∀ (j : Nat) x, (wrC p)[j]? = some x → (wrCs l)[i * 3 + j]? = some x
  | [], _, _, h, _, _, _ => by simp at h
  | q :: r, 0, p, h, j, x, hx => by
    have e : q = p := by simpa using h
    subst e
    have hj : j < (wrC q).length := (List.getElem?_eq_some_iff.1 hx).1
    show (wrC q ++ wrCs r)[0 * 3 + j]? = some x
    rw [Nat.zero_mul, Nat.zero_add, List.getElem?_append_left hj]
    exact hx
  | q :: r, i + 1, p, h, j, x, hx => by
    have := wrCs_at r i p (by simpa using h) j x hx
    show (wrC q ++ wrCs r)[(i + 1) * 3 + j]? = some x
    rw [List.getElem?_append_right (by simp [wrC]; omega)]
    rw [show (i + 1) * 3 + j - (wrC q).length = i * 3 + j by simp [wrC]; omega]
    exact this
/-- Each cell of a row is one of a write's. -/
theorem wrCs_of : ∀ (l : List Wr) (j : Nat) x, (wrCs l)[j]? = some x → ∃ i p k, l[i]? = some p ∧ (wrC p)[k]? = some x ∧ j = i * 3 + k
  | [], _, _, h => by simp [wrCs] at h
  | q :: r, j, x, h => by
    have h : (wrC q ++ wrCs r)[j]? = some x := h
    by_cases hj : j < 3
    · rw [List.getElem?_append_left (by rw [wrC_len]; exact hj)] at h
      exact ⟨0, q, j, rfl, h, by omega⟩
    · rw [List.getElem?_append_right (by rw [wrC_len]; omega), wrC_len] at h
      obtain ⟨i, p, k, h1, h2, h3⟩ := wrCs_of r _ x h
      exact ⟨i + 1, p, k, by simpa using h1, h2, by omega⟩
theorem wrCs_one (l : List Wr) : ∀ u ∈ wrCs l, u.oneCell' = true := by
  intro u hu
  simp only [wrCs, List.mem_flatten, List.mem_map] at hu
  obtain ⟨_, ⟨p, _, rfl⟩, hu⟩ := hu
  exact wrC_one p u hu

theorem info_wr : (Try.prog.info? 44).map (fun i => (i.zero, i.size, i.bytes)) = some (some (.agg #[.string ByteArray.empty, .string ByteArray.empty, .bool false]), 3, 40) := by kernel_rfl

/-- A row of writes of the call's own. -/
def OwnTb (w : World) (B : Nat) (v : Value) (l : List Wr) : Prop := w.ownsRow B 44 3 v l.length (wrCs l)

section
variable {w w' : World} {B : Nat} {v : Value} {l : List Wr}
theorem OwnTb.nil (w : World) (B : Nat) : OwnTb w B (.slice none 0 0) [] := World.ownsRow_nil _ _ _ _
theorem OwnTb.keep (h : OwnTb w B v l) (hb : Below w.heap.size w w') : OwnTb w' B v l := by
  have hlt := World.ownsRow.lt h
  refine ⟨h.1, ?_⟩
  rcases h.2 with h4 | ⟨g, cap, cur, rfl, hg, hh, r⟩
  · exact .inl h4
  · exact .inr ⟨g, cap, cur, rfl, hg, (hb.block g (hlt g rfl).2).trans hh, r⟩
theorem OwnTb.lower {B' : Nat} (h : OwnTb w B v l) (hB : B' ≤ B) : OwnTb w B' v l := by
  refine ⟨h.1, ?_⟩
  rcases h.2 with h2 | ⟨g, cap, cur, hv, hg, r⟩
  · exact .inl h2
  · exact .inr ⟨g, cap, cur, hv, Nat.le_trans hB hg, r⟩
theorem OwnTb.alloc (h : OwnTb w B v l) (o : Obj) : OwnTb (w.alloc o) B v l := World.ownsRow.alloc h o
/-- Blocks that are none of the row's are written. -/
theorem OwnTb.off {T : Nat → Prop} (h : OwnTb w B v l) (ha : Apart T w w') (hT : ∀ k, T k → k < B) : OwnTb w' B v l := by
  have hlt := World.ownsRow.lt h
  refine ⟨h.1, ?_⟩
  rcases h.2 with h4 | ⟨g, cap, cur, rfl, hg, hh, r⟩
  · exact .inl h4
  · exact .inr ⟨g, cap, cur, rfl, hg, (ha.block g (hlt g rfl).2 (fun e => by have := hT g e; omega)).trans hh, r⟩
theorem OwnTb.tbIn (h : OwnTb w B v l) : TbIn w w.heap.size v l := by
  have hlt := World.ownsRow.lt h
  have hc := fun g hg => World.ownsRow.cells h (g := g) hg
  rcases h.2 with ⟨rfl, h0⟩ | ⟨g, cap, cur, rfl, hBg, hg, hn, hm, _, _⟩
  · have : l = [] := List.eq_nil_of_length_eq_zero h0
    subst this
    exact TbIn.nil _ _
  · refine ⟨_, cap, rfl, hn, hm, (fun h => by cases h), fun _ => ⟨g, 0, rfl, (hlt g rfl).2, fun i p hi j x hj => ?_⟩⟩
    have := hc g rfl (i * 3 + j) _ (wrCs_at l i p hi j x hj)
    rw [Addr.add_lit] at this
    rwa [← Nat.add_assoc] at this

/-- append of writes, onto a row of the call's own. -/
theorem run_append_tbs (ho : OwnTb w B v l) (hB : B ≤ w.heap.size) (x : Value) (B' : Nat) (ns : List Wr) (hx : TbIn w B' x ns) (hm : l.length + ns.length ≤ 1099511627776) (ty : TypeId) :
    ∃ v' w', (Builtin.append_ #[22, 22] ty #[v, x]).run Try.prog w = .ok v' w' ∧ OwnTb w' B v' (l ++ ns) ∧ Below B w w' ∧ w.grownBy w' v.ownBlock := by
  obtain ⟨i0, hi, hz0, hz1, hz2⟩ := info_parts info_wr
  have hmax : l.length + ns.length ≤ maxLen := by simp only [maxLen]; omega
  obtain ⟨A, c, rfl, _, _, h4, h6⟩ := hx
  by_cases h0 : 0 < ns.length
  · obtain ⟨b, off, rfl, _, hc⟩ := h6 h0
    obtain ⟨v', w', hr, h2, h3, _⟩ := run_append_own (P := Try.prog) w B 22 ty 44 i0 _ 3 40 Try.underlying22 hi hz0 hz1 hz2 rfl (by omega) v l.length (wrCs l) ho ⟨b, off, none⟩ ns.length c (wrCs ns) (wrCs_len ns)
      (fun j u hu => by
        rw [Addr.add_lit]
        obtain ⟨i, p, k, h1, h2, rfl⟩ := wrCs_of ns j u hu
        rw [← Nat.add_assoc]
        exact hc i p h1 k u h2) (wrCs_one ns) hmax (by omega) hB
    refine ⟨v', w', hr, ?_, (Below.refl _ _).grown h3 hB (fun k hk => (World.ownsRow.lt ho k hk).1), h3⟩
    unfold OwnTb
    rw [wrCs_append, List.length_append]
    exact h2
  · have hns : ns = [] := List.eq_nil_of_length_eq_zero (by omega)
    subst hns
    cases A with
    | some ad =>
      obtain ⟨v', w', hr, h2, h3, _⟩ := run_append_own (P := Try.prog) w B 22 ty 44 i0 _ 3 40 Try.underlying22 hi hz0 hz1 hz2 rfl (by omega) v l.length (wrCs l) ho ad 0 c [] rfl (fun j u hu => by simp at hu) (by simp) hmax (by simpa using by omega) hB
      refine ⟨v', w', hr, ?_, (Below.refl _ _).grown h3 hB (fun k hk => (World.ownsRow.lt ho k hk).1), h3⟩
      unfold OwnTb
      rw [wrCs_append, List.length_append]
      exact h2
    | none =>
      have hc := h4 rfl
      subst hc
      refine ⟨v, w, ?_, by simpa using ho, Below.refl _ _, ⟨rfl, rfl, rfl, Nat.le_refl _, fun _ _ _ => rfl⟩⟩
      rcases ho.2 with ⟨rfl, h0⟩ | ⟨g, cap, cur, rfl, _, _, hnc, _⟩
      · simp [Builtin.append_, run_underlying Try.underlying22, sizeOf, typeInfo, hi, Builtin.lenOf, Builtin.firstCells]
      · simp [Builtin.append_, run_underlying Try.underlying22, sizeOf, typeInfo, hi, Builtin.lenOf, Builtin.firstCells, hnc, storeCells]

theorem wp_append_tbs {ops : Array Oper} {rest : List Oper} {o : Oper} {a : Act} {Q : Exit → Act → World → Prop} (hgd : o.guard = none) (s x : Operand)
    (hop : o.op = .call { callee := .builtin .append, args := #[s, x], argTypes := #[22, 22] })
    (hs : a.eval s = v) (ho : OwnTb w B v l) (hB : B ≤ w.heap.size) (y : Value) (B' : Nat) (ns : List Wr) (hx : a.eval x = y) (hy : TbIn w B' y ns)
    (hm : l.length + ns.length ≤ 1099511627776)
    (hK : ∀ v' w', OwnTb w' B v' (l ++ ns) → Below B w w' → w.grownBy w' v.ownBlock → wpList Try.prog ops Q rest (a.put o.dst v') w') : wpList Try.prog ops Q (o :: rest) a w := by
  refine wpList_plain hgd fun K hK' => ?_
  obtain ⟨v', w', hrun, r1, r2, r3⟩ := run_append_tbs ho hB y B' ns hy hm o.type
  unfold Oper.wp
  simp [execOp, hop, resolve, invoke, builtin, hs, hx, hrun, Result.andThen]
  exact hK' _ _ (hK v' w' r1 r2 r3)
end

/-- One write, laid out a moment ago. -/
theorem tb_one (w : World) (p : Wr) (T : TypeId) : TbIn (w.alloc (.cells #[.string ⟨p.1.toArray⟩, .string ⟨p.2.1.toArray⟩, .bool p.2.2] T)) (w.heap.size + 1) (.slice (some ⟨w.heap.size, 0, none⟩) 1 1) [p] :=
  ⟨_, 1, rfl, by simp, by simp [maxLen], (fun h => by cases h), fun _ => ⟨w.heap.size, 0, rfl, by omega, fun i q hi j x hx => by
    have hlt := (List.getElem?_eq_some_iff.1 hi).1
    obtain rfl : i = 0 := by simp at hlt; omega
    obtain rfl : p = q := by simpa using hi
    have hrow := heap_alloc_new w (.cells #[.string ⟨p.1.toArray⟩, .string ⟨p.2.1.toArray⟩, .bool p.2.2] T)
    match j with
    | 0 => exact (cell_of_row _ _ 0 _ _ _ hrow).trans hx
    | 1 => exact (cell_of_row _ _ 1 _ _ _ hrow).trans hx
    | 2 => exact (cell_of_row _ _ 2 _ _ _ hrow).trans hx
    | j + 3 => simp [wrC] at hx⟩⟩

theorem index_tb (b o n c i : Nat) (h : i < n) (W : World) : (Instr.indexAt 22 (.slice (some ⟨b, o, none⟩) n c) (.int .i64 (i : Int))).run Try.prog W = .ok (.pointer (some ⟨b, o + i * 3, none⟩)) W := by
  have hs : (sizeOf (Try.prog.elem 22)).run Try.prog W = .ok 3 W := by
    have he : Try.prog.elem 22 = 44 := by kernel_rfl
    obtain ⟨i0, hi, _, hz1, _⟩ := info_parts info_wr
    rw [he]
    simp [sizeOf, typeInfo, hi, hz1]
  have h1 := run_indexAt_slice (P := Try.prog) (w := W) 22 ⟨b, o, none⟩ n c .i64 (i : Int) (by kernel_rfl)
  rw [if_pos (by omega), hs] at h1
  rw [h1]
  simp [Result.andThen, Addr.add_lit]

end Go.Proofs.Ythgnchgehmakjaa.Cd

/-
  A table in the program: a map of writes by their keys. Conditions: none.
-/
namespace Go.Proofs.Ythgnchgehmakjaa.Cd
open Go.RowKit Go.Maps

def wrD (p : Wr) : DataW Unit := .agg [.lit (.string p.1), .lit (.string p.2.1), .lit (.bool p.2.2)]
theorem wrD_inj {p q : Wr} (h : wrD p = wrD q) : p = q := by
  obtain ⟨a, b, c⟩ := p
  obtain ⟨a', b', c'⟩ := q
  simp only [wrD, DataW.agg.injEq, List.cons.injEq, DataW.lit.injEq, Lit.string.injEq, Lit.bool.injEq, and_true] at h
  obtain ⟨rfl, rfl, rfl⟩ := h
  rfl
def wrR (v : Value) : Option (DataW Unit × List MemPlace) := match v with
  | .agg ⟨[.string k, .string x, .bool g]⟩ => some (wrD ⟨k.data.toList, x.data.toList, g⟩, [])
  | _ => none
theorem wrR_val (p : Wr) : wrR (wrV p) = some (wrD p, []) := by
  obtain ⟨a, b, c⟩ := p
  show some (wrD ⟨a.toArray.toList, b.toArray.toList, c⟩, []) = _
  simp
theorem wrR_inv {u : Value} {x : DataW Unit × List MemPlace} (h : wrR u = some x) : ∃ p : Wr, u = wrV p ∧ x = (wrD p, []) := by
  unfold wrR at h
  split at h
  · injection h with h
    rename_i k x' g
    refine ⟨⟨k.data.toList, x'.data.toList, g⟩, ?_, h.symm⟩
    unfold wrV
    simp
  · cases h

/-- map[string]Write. -/
def wrK : MKind (List UInt8) Wr where
  T := 55
  K := 9
  E := 44
  R := wrR
  key := fun s => .string ⟨s.toArray⟩
  ok := fun s => s.length ≤ maxLen
  lit := fun s => .string s
  val := wrV
  okv := fun _ => True
  dat := wrD
  z0 := ⟨[], [], false⟩
  law := string_keyed Try.underlying9
  under := Try.underlying55
  keyed := fun h => by
    have := WideMaps.keyOf_string_mk Try.underlying9 (s := ⟨(_ : List UInt8).toArray⟩) h
    simpa using this
  one := fun h => by
    injection h with h
    injection h with h
    simpa using congrArg Array.toList h
  read := fun {v} _ => wrR_val v
  inv := fun {u v ps} h => by
    obtain ⟨p, rfl, e⟩ := wrR_inv h
    injection e with e1 e2
    rw [wrD_inj e1]
    exact ⟨rfl, trivial⟩
  okz := trivial
  zero := fun w => Try.zeroValue44 w

theorem wr_look {w : World} {b n : Nat} {k : List UInt8} {q : List UInt8 → Option Wr} (h : MapF wrK w b n q) (hk : k.length ≤ maxLen) :
    (Instr.lookup 55 (.map (some b)) (.string ⟨k.toArray⟩) true).run Try.prog w = .ok (.tuple #[wrV ((q k).getD ⟨[], [], false⟩), .bool (q k).isSome]) w := h.look_ok (x := k) hk

theorem Fit.key {p : Wr} (h : Fit p) : p.1.length ≤ maxLen := by have := h.1; simp only [maxLen]; omega

/-- Block b is a table's map. -/
def TabM (w : World) (b : Nat) (T : List Wr) : Prop := MapF wrK w b T.length (getW T) ∧ SrtW T ∧ FlatW T ∧ FitW T
/-- At g lies the table T. -/
def TabAt (w : World) (g : Nat) (T : List Wr) : Prop := ∃ b, g < w.heap.size ∧ w.cell? ⟨g, 0, none⟩ = some (.map (some b)) ∧ TabM w b T
/-- A pointer to the table T, or nil, a table of no writes. -/
def TabV (w : World) (v : Value) (T : List Wr) : Prop := (v = .pointer none ∧ T = []) ∨ ∃ g, v = .pointer (some ⟨g, 0, none⟩) ∧ TabAt w g T

section
variable {w w' : World} {b g : Nat} {T : List Wr} {v : Value}
theorem TabM.lt (h : TabM w b T) : b < w.heap.size := h.1.lt
theorem TabM.below (h : TabM w b T) (hb : Below w.heap.size w w') : TabM w' b T := ⟨h.1.below hb h.lt, h.2⟩
theorem TabM.low {B : Nat} (h : TabM w b T) (hb : Below B w w') (hlt : b < B) : TabM w' b T := ⟨h.1.below hb hlt, h.2⟩
theorem TabM.grown {r : Option Nat} (h : TabM w b T) (hg : w.grownBy w' r) (hne : some b ≠ r) : TabM w' b T := ⟨h.1.grown hg hne, h.2⟩
theorem TabAt.below (h : TabAt w g T) (hb : Below w.heap.size w w') : TabAt w' g T := by
  obtain ⟨b, h1, h2, h3⟩ := h
  exact ⟨b, Nat.lt_of_lt_of_le h1 hb.size, (hb.cell (p := ⟨g, 0, none⟩) h1).trans h2, h3.below hb⟩
theorem TabV.below (h : TabV w v T) (hb : Below w.heap.size w w') : TabV w' v T := by
  rcases h with h | ⟨g, h1, h2⟩
  · exact .inl h
  · exact .inr ⟨g, h1, h2.below hb⟩
theorem TabAt.srt (h : TabAt w g T) : SrtW T := by obtain ⟨_, _, _, h⟩ := h; exact h.2.1
theorem TabV.srt (h : TabV w v T) : SrtW T := by
  rcases h with ⟨_, rfl⟩ | ⟨g, _, h⟩
  · exact List.Pairwise.nil
  · exact h.srt
theorem TabV.flat (h : TabV w v T) : FlatW T := by
  rcases h with ⟨_, rfl⟩ | ⟨g, _, _, _, _, h⟩
  · exact fun _ h => by cases h
  · exact h.2.2.1
theorem TabV.fit (h : TabV w v T) : FitW T := by
  rcases h with ⟨_, rfl⟩ | ⟨g, _, _, _, _, h⟩
  · exact fun _ h => by cases h
  · exact h.2.2.2
/-- An empty map that was made a moment ago. -/
theorem TabM.made (w : World) : TabM (w.alloc (.map #[] 0)) w.heap.size [] := ⟨MapF.made wrK w, List.Pairwise.nil, (fun _ h => by cases h), (fun _ h => by cases h)⟩

/-- A write is put in. -/
theorem wp_put_wr {ops : Array Oper} {rest : List Oper} {o : Oper} {a : Act} {Q : Exit → Act → World → Prop} (hgd : o.guard = none) (m x y : Operand) (hop : o.op = Op.mapUpdate 55 m x y) (b : Nat) (T : List Wr) (hm : a.eval m = .map (some b)) (h : TabM w b T) (hn : T.length < maxLen)
    (p : Wr) (hx : a.eval x = .string ⟨p.1.toArray⟩) (hv : a.eval y = wrV p) (hp : flatG p = p) (hf : Fit p)
    (hK : ∀ w', TabM w' b (insW T p) → w.grownBy w' (some b) → wpList Try.prog ops Q rest (a.put o.dst undef) w') : wpList Try.prog ops Q (o :: rest) a w := by
  obtain ⟨h1, h2, h3, h4⟩ := h
  refine wp_store wrK hgd m x y hop b _ _ hm h1 hn p.1 hx hf.key p hv trivial _ (ins_len h2 p).symm fun w' hw' hg => hK w' ⟨hw'.congr fun k _ => ?_, ins_srt h2 p, ins_flat h3 hp, h4.ins hf⟩ hg
  rw [getW_ins]
  unfold upd
  split <;> rfl
/-- The same, for a region that draws its order. -/
theorem TabM.put (h : TabM w b T) (hn : T.length < maxLen) (p : Wr) (hp : flatG p = p) (hf : Fit p) :
    ∃ w', (Instr.mapUpdate 55 (.map (some b)) (.string ⟨p.1.toArray⟩) (.agg #[.string ⟨p.1.toArray⟩, .string ⟨p.2.1.toArray⟩, .bool p.2.2])).run Try.prog w = .ok () w' ∧ TabM w' b (insW T p) ∧ w.grownBy w' (some b) := by
  obtain ⟨h1, h2, h3, h4⟩ := h
  obtain ⟨w', hrun, r1, r2⟩ := MapF.store (M := wrK) h1 hn (x := p.1) hf.key (v := p) trivial
  refine ⟨w', hrun, ⟨?_, ins_srt h2 p, ins_flat h3 hp, h4.ins hf⟩, r2.grown⟩
  rw [ins_len h2 p]
  refine r1.congr fun k _ => ?_
  rw [getW_ins]
  unfold upd
  split <;> rfl
end

end Go.Proofs.Ythgnchgehmakjaa.Cd

/-
  A range over a function whose body calls what writes maps: the invariant is told of the loop's own two blocks, and the body keeps these. Conditions: the loop stands in no other one.
-/
namespace Go.Proofs.Ythgnchgehmakjaa.Cd
open Go.RowKit

/-- The loop's two blocks lie as they lay. -/
def Two (b : Nat) (W W' : World) : Prop := W'.heap[b]? = W.heap[b]? ∧ W'.heap[b + 1]? = W.heap[b + 1]?
/-- How a round may be left. -/
def roundEnds (b : Nat) (J : World → Prop) (Jx : Code → World → Prop) (W : World) : Exit → Act → World → Prop
  | .normal, _, W' => Two b W W' ∧ J W'
  | .ret, _, W' => Two b W W' ∧ Jx .ret W'
  | .exit i, _, W' => Two b W W' ∧ Jx (.exit i) W'
  | .goto t, _, W' => Two b W W' ∧ Jx (.goto t) W'
  | .panic _, _, _ => False
  | .outgrown, _, _ => False
/-- What stays behind steps that turn nothing that lay, and behind a turn of block r. -/
def Stays (r : Nat) (J : World → Prop) : Prop := (∀ A B, J A → Below A.heap.size A B → J B) ∧ ∀ A o, J A → J (A.putObj r o)
/-- What an iterator is asked: it hands the items over, one behind the other, up to a round that says no. -/
def Hands {α : Type} (F : Fence) (n : Nat) (P : Program) (gf : Nat) (lb : Array Value) (encs : α → Array Value) (xs : List α) (Box : World → Prop) : Prop :=
  ∀ (l : Nat) (J Jx : Nat → World → Prop) (W : World),
    (∀ k A B, J k A → Below A.heap.size A B → J k B) → (∀ k A B, Jx k A → Below A.heap.size A B → Jx k B) → (∀ k A, J k A → Box A) →
    (∀ k x A, xs[k]? = some x → J k A → YieldAt F (n - 1) P l (encs x) A fun e A' => (e = .returned (.bool true) ∧ J (k + 1) A') ∨ (e = .returned (.bool false) ∧ Jx (k + 1) A')) →
    J 0 W → CallsIn F n P gf (#[.func (.yield l) #[] #[]] ++ lb) W fun e W' => (∃ v, e = .returned v) ∧ (J xs.length W' ∨ ∃ k, k ≤ xs.length ∧ Jx k W')

variable {F : Fence} {n : Nat} {P : Program}

theorem two_put {b : Nat} (W : World) {r : Nat} (o : Obj) (h : b ≠ r) : (W.putObj r o).heap[b]? = W.heap[b]? := World.putObj_heap_other h

theorem wpIn_range {α : Type} {g : Operand} {ps : Array Tmp} {assign body : Code} {Q : Exit → Act → World → Prop} {a : Act} {w : World} (hro : F.round = none) (h1 : 1 ≤ n) {gf : Nat} {lb : Array Value} (hg : a.eval g = .func (.func gf) #[] lb) (hFg : F.fn gf)
    (eg : ∀ args w, (callFunc gf args).run P w = .ok (.enter gf args) w) {encs : α → Array Value} (hps : ∀ x, (encs x).size = ps.size) (xs : List α) (Box : World → Prop) (hseq : Hands F (n - 1) P gf lb encs xs Box)
    (I : Nat → World → Prop) (Ix : Code → Nat → World → Prop) (hI : ∀ k, Stays (w.heap.size + 1) (I k)) (hIx : ∀ c k, Stays (w.heap.size + 1) (Ix c k)) (hBox : ∀ k A, I k A → Box A)
    (h0 : ∀ o, I 0 ((w.alloc (.deferred (some []))).alloc o)) (a₁ : α → Act)
    (hassign : ∀ (l : Nat) (x : α) (W : World) (K : Act → World → Prop), K (a₁ x) W → assign.wpIn (F.inRound l) (n - 1 - 1) P (Exit.then K (fun _ _ _ => False)) { tmps := (ps.zip (encs x)).foldl (fun t (p, v) => t.setIfInBounds p v) a.tmps, defers := [] } W)
    (hbody : ∀ (k : Nat) (x : α) (W : World), xs[k]? = some x → I k W → w.heap.size + 1 < W.heap.size → body.wpIn (F.inRound (w.heap.size + 1)) (n - 1 - 1) P (roundEnds w.heap.size (I (k + 1)) (fun c => Ix c (k + 1)) W) (a₁ x) W)
    (hdone : ∀ W, I xs.length W → W.heap[w.heap.size]? = some (.deferred (some [])) → Q .normal { a with defers := { target := .collected w.heap.size, args := #[] } :: a.defers } W)
    (hstop : ∀ (c : Code) (k : Nat) (W : World), k ≤ xs.length → Ix c k W → W.heap[w.heap.size]? = some (.deferred (some [])) → c.wpIn F n P Q { a with defers := { target := .collected w.heap.size, args := #[] } :: a.defers } W) :
    (Code.rangeFunc g ps assign body).wpIn F n P Q a w := by
  refine wpIn_rangeFunc ?_
  intro fn hfn
  rw [hro]
  obtain ⟨b, hb⟩ : ∃ b, w.heap.size = b := ⟨_, rfl⟩
  let rec_ : LoopState → Option Code → Obj := fun st pe => .loop { state := st, pending := pe, fn, tmps := a.tmps, params := ps, assign, body, defers := b }
  have hW : ∀ o, (((w.alloc (.deferred (some []))).alloc o).heap[b + 1]? = some o) ∧ (((w.alloc (.deferred (some []))).alloc o).heap[b]? = some (.deferred (some []))) := by
    intro o
    have e1 := World.alloc_heap_new (w.alloc (.deferred (some []))) o
    rw [World.size_alloc, hb] at e1
    have e2 := World.alloc_heap_new w (.deferred (some []))
    rw [hb] at e2
    exact ⟨e1, (Below.heap_alloc _ _ _ (by simp; omega)).trans e2⟩
  refine ⟨b + 1, [{ target := .collected b, args := #[] }], (w.alloc (.deferred (some []))).alloc (rec_ .ready none), { target := .fn (.func gf) lb, args := #[.func (.yield (b + 1)) #[] #[]] }, (w.alloc (.deferred (some []))).alloc (rec_ .ready none), gf, #[.func (.yield (b + 1)) #[] #[]] ++ lb, (w.alloc (.deferred (some []))).alloc (rec_ .ready none), ?_, ?_, fun f' hf' => ?_, ?_, fun _ => h1, ?_⟩
  · rw [← hb]
    have := run_enterLoop_outer (P := P) (w := w) fn a.tmps ps assign body
    rw [this]
    simp only [rec_, hb]
  · simp only [resolve, hg]
    simp [go_sem]
  · have hf' : some gf = some f' := by simpa [Target.leads] using hf'
    injection hf' with hf'
    rw [← hf']
    exact hFg
  · simp [invoke, go_sem, eg]
  simp only [hb] at hI hIx hbody hdone hstop ⊢
  refine (hseq (b + 1) (fun k W => I k W ∧ W.heap[b + 1]? = some (rec_ .ready none) ∧ W.heap[b]? = some (.deferred (some [])))
    (fun k W => ∃ c, Ix c k W ∧ W.heap[b + 1]? = some (rec_ .done (some c)) ∧ W.heap[b]? = some (.deferred (some []))) _ ?_ ?_ ?_ ?_ ⟨h0 _, (hW _).1, (hW _).2⟩).mono ?_
  · rintro k A B ⟨h1, h2, h3⟩ hAB
    exact ⟨(hI k).1 A B h1 hAB, (hAB.block _ (Array.getElem?_eq_some_iff.1 h2).1).trans h2, (hAB.block _ (Array.getElem?_eq_some_iff.1 h3).1).trans h3⟩
  · rintro k A B ⟨c, h1, h2, h3⟩ hAB
    exact ⟨c, (hIx c k).1 A B h1 hAB, (hAB.block _ (Array.getElem?_eq_some_iff.1 h2).1).trans h2, (hAB.block _ (Array.getElem?_eq_some_iff.1 h3).1).trans h3⟩
  · rintro k A ⟨h1, _⟩
    exact hBox k A h1
  · rintro k x W hx ⟨hi, hl, hk⟩
    have hlt : b + 1 < W.heap.size := (Array.getElem?_eq_some_iff.1 hl).1
    have hy := run_yield (P := P) (args := encs x) hl (hps x)
    refine ⟨fn, _, assign, body, hy, roundIn_of_wpIn hfn (hassign _ x W _ ⟨_, run_beginRound hl rfl, ?_⟩)⟩
    have hl2 : (W.putObj (b + 1) (rec_ .busy none)).heap[b + 1]? = some (rec_ .busy none) := World.putObj_heap_same hlt
    have hk2 : (W.putObj (b + 1) (rec_ .busy none)).heap[b]? = some (.deferred (some [])) := (two_put W _ (by omega)).trans hk
    refine wpIn_mono (hbody k x _ hx ((hI k).2 _ _ hi) (by rw [World.putObj_size]; exact hlt)) ?_
    have fin : ∀ (jump : Option Code) (W3 : World), Two b (W.putObj (b + 1) (rec_ .busy none)) W3 →
        (Instr.endRound (b + 1) jump).run P W3 = .ok (.bool jump.isNone) (W3.putObj (b + 1) (rec_ (if jump.isNone then .ready else .done) jump)) ∧
          (W3.putObj (b + 1) (rec_ (if jump.isNone then .ready else .done) jump)).heap[b + 1]? = some (rec_ (if jump.isNone then .ready else .done) jump) ∧
          (W3.putObj (b + 1) (rec_ (if jump.isNone then .ready else .done) jump)).heap[b]? = some (.deferred (some [])) := by
      rintro jump W3 ⟨t1, t2⟩
      have h3 : W3.heap[b + 1]? = some (rec_ .busy none) := t2.trans hl2
      exact ⟨run_endRound jump h3, World.putObj_heap_same (Array.getElem?_eq_some_iff.1 h3).1, (two_put W3 _ (by omega)).trans (t1.trans hk2)⟩
    rintro e a3 W3 hp
    cases e with
    | normal =>
      obtain ⟨r1, r2, r3⟩ := fin none W3 hp.1
      exact ⟨_, _, r1, .inl ⟨rfl, (hI _).2 _ _ hp.2, r2, r3⟩⟩
    | ret =>
      obtain ⟨r1, r2, r3⟩ := fin (some .ret) W3 hp.1
      exact ⟨_, _, r1, .inr ⟨rfl, _, (hIx _ _).2 _ _ hp.2, r2, r3⟩⟩
    | exit i =>
      obtain ⟨r1, r2, r3⟩ := fin (some (.exit i)) W3 hp.1
      exact ⟨_, _, r1, .inr ⟨rfl, _, (hIx _ _).2 _ _ hp.2, r2, r3⟩⟩
    | goto t =>
      obtain ⟨r1, r2, r3⟩ := fin (some (.goto t)) W3 hp.1
      exact ⟨_, _, r1, .inr ⟨rfl, _, (hIx _ _).2 _ _ hp.2, r2, r3⟩⟩
    | panic ch => exact hp.elim
    | outgrown => exact hp.elim
  · rintro e W2 ⟨⟨v, rfl⟩, (⟨hi, hl, hk⟩ | ⟨k, hk', c, hi, hl, hk⟩)⟩
    · exact ⟨none, _, run_endLoop hl (by simp), hdone _ ((hI _).2 _ _ hi) ((two_put W2 _ (by omega)).trans hk)⟩
    · exact ⟨some c, _, run_endLoop hl (by simp), hstop c k _ hk' ((hIx c k).2 _ _ hi) ((two_put W2 _ (by omega)).trans hk)⟩

end Go.Proofs.Ythgnchgehmakjaa.Cd

/-
  A range over a function whose items come in some order, without an early end: the invariant is told of what has come. Conditions: the loop stands in no other one.
-/
namespace Go.Proofs.Ythgnchgehmakjaa.Cd
open Go.RowKit

/-- What stays behind an iterator's own steps, and behind a turn of block r. -/
def StaysSeq {α : Type} (r : Nat) (I : List α → World → Prop) : Prop :=
  (∀ s A B row, I s A → A.grownBy B row → (∀ j, row = some j → r < j ∧ ∃ o : Obj, A.heap[j]? = some o ∧ o.isWalk = true) → I s B) ∧ ∀ s A o, I s A → I s (A.putObj r o)
/-- How a round is left: no walk's object has turned, nor the loop's two blocks. -/
def roundSeq (b : Nat) (J : World → Prop) (W : World) : Exit → Act → World → Prop
  | .normal, _, W' => Two b W W' ∧ KeepsWalks W W' ∧ J W'
  | _, _, _ => False

variable {F : Fence} {n : Nat} {P : Program}

theorem wpIn_range_seq {α : Type} {g : Operand} {ps : Array Tmp} {assign body : Code} {Q : Exit → Act → World → Prop} {a : Act} {w : World} (hro : F.round = none) (h1 : 1 ≤ n) {gf : Nat} {lb : Array Value} (hg : a.eval g = .func (.func gf) #[] lb) (hFg : F.fn gf)
    (eg : ∀ args w, (callFunc gf args).run P w = .ok (.enter gf args) w) {enc : α → Value} (hps : ps.size = 1) (S : List α → Prop) (N : Nat) (hseq : SeqGives F (n - 1) P gf lb enc S N w)
    (I : List α → World → Prop) (hI : StaysSeq (w.heap.size + 1) I) (h0 : ∀ o, I [] ((w.alloc (.deferred (some []))).alloc o)) (As : α → Act → World → Prop) (hAs : ∀ x a A o, As x a A → As x a (A.putObj (w.heap.size + 1) o))
    (hassign : ∀ (l : Nat) (x : α) (W : World) (K : Act → World → Prop), w.heap.size + 1 < W.heap.size → (∀ a' W', As x a' W' → W.grownBy W' none → K a' W') → assign.wpIn (F.inRound l) (n - 1 - 1) P (Exit.then K (fun _ _ _ => False)) { tmps := (ps.zip #[enc x]).foldl (fun t (p, v) => t.setIfInBounds p v) a.tmps, defers := [] } W)
    (hbody : ∀ (pre : List α) (x : α) (a' : Act) (W : World), I pre W → As x a' W → pre.length < N → w.heap.size + 1 < W.heap.size → (∀ cur T s, W.heap[w.heap.size + 1]? ≠ some (.cells cur T s)) → (∀ cur T s, W.heap[w.heap.size]? ≠ some (.cells cur T s)) → body.wpIn (F.inRound (w.heap.size + 1)) (n - 1 - 1) P (roundSeq w.heap.size (I (pre ++ [x])) W) a' W)
    (hdone : ∀ xs W, S xs → I xs W → W.heap[w.heap.size]? = some (.deferred (some [])) → Q .normal { a with defers := { target := .collected w.heap.size, args := #[] } :: a.defers } W) :
    (Code.rangeFunc g ps assign body).wpIn F n P Q a w := by
  refine wpIn_rangeFunc ?_
  intro fn hfn
  rw [hro]
  obtain ⟨b, hb⟩ : ∃ b, w.heap.size = b := ⟨_, rfl⟩
  let rec_ : LoopState → Option Code → Obj := fun st pe => .loop { state := st, pending := pe, fn, tmps := a.tmps, params := ps, assign, body, defers := b }
  have hW : ∀ o, (((w.alloc (.deferred (some []))).alloc o).heap[b + 1]? = some o) ∧ (((w.alloc (.deferred (some []))).alloc o).heap[b]? = some (.deferred (some []))) := by
    intro o
    have e1 := World.alloc_heap_new (w.alloc (.deferred (some []))) o
    rw [World.size_alloc, hb] at e1
    have e2 := World.alloc_heap_new w (.deferred (some []))
    rw [hb] at e2
    exact ⟨e1, (Below.heap_alloc _ _ _ (by simp; omega)).trans e2⟩
  have hbw : ∀ o, Below w.heap.size w ((w.alloc (.deferred (some []))).alloc o) := fun o => ((Below.refl _ _).alloc (Nat.le_refl _) _).alloc (by simp) _
  refine ⟨b + 1, [{ target := .collected b, args := #[] }], (w.alloc (.deferred (some []))).alloc (rec_ .ready none), { target := .fn (.func gf) lb, args := #[.func (.yield (b + 1)) #[] #[]] }, (w.alloc (.deferred (some []))).alloc (rec_ .ready none), gf, #[.func (.yield (b + 1)) #[] #[]] ++ lb, (w.alloc (.deferred (some []))).alloc (rec_ .ready none), ?_, ?_, fun f' hf' => ?_, ?_, fun _ => h1, ?_⟩
  · rw [← hb]
    have := run_enterLoop_outer (P := P) (w := w) fn a.tmps ps assign body
    rw [this]
    simp only [rec_, hb]
  · simp only [resolve, hg]
    simp [go_sem]
  · have hf' : some gf = some f' := by simpa [Target.leads] using hf'
    injection hf' with hf'
    rw [← hf']
    exact hFg
  · simp [invoke, go_sem, eg]
  have hwz : ((w.alloc (.deferred (some []))).alloc (rec_ .ready none)).heap.size = b + 2 := by simp [hb]
  simp only [hb] at hI hAs hassign hbody hdone ⊢
  refine (hseq (b + 1) (fun pre W => I pre W ∧ W.heap[b + 1]? = some (rec_ .ready none) ∧ W.heap[b]? = some (.deferred (some []))) _ (hbw _) ?_ ?_ ⟨h0 _, (hW _).1, (hW _).2⟩).mono ?_
  · rintro s A B row ⟨h1, h2, h3⟩ hAB hrow
    rw [hwz] at hrow
    exact ⟨hI.1 s A B row h1 hAB (fun j hj => ⟨by have := (hrow j hj).1; omega, (hrow j hj).2⟩), (grownBy_keeps hAB (fun r e => (hrow r e).2) h2 rfl).trans h2, (grownBy_keeps hAB (fun r e => (hrow r e).2) h3 rfl).trans h3⟩
  · rintro pre x W ⟨hi, hl, hk⟩ hN
    have hlt : b + 1 < W.heap.size := (Array.getElem?_eq_some_iff.1 hl).1
    have hy := run_yield (P := P) (args := #[enc x]) hl (by rw [hps]; rfl)
    refine ⟨fn, _, assign, body, hy, roundIn_of_wpIn hfn (hassign _ x W _ hlt fun a' W1 ha hg => ?_)⟩
    have hl1 : W1.heap[b + 1]? = some (rec_ .ready none) := (hg.block _ hlt (by simp)).trans hl
    have hk1 : W1.heap[b]? = some (.deferred (some [])) := (hg.block _ (by omega) (by simp)).trans hk
    have hlt1 : b + 1 < W1.heap.size := (Array.getElem?_eq_some_iff.1 hl1).1
    have hi1 := hI.1 pre W W1 none hi hg (fun j e => by cases e)
    refine ⟨_, run_beginRound hl1 rfl, ?_⟩
    have hl2 : (W1.putObj (b + 1) (rec_ .busy none)).heap[b + 1]? = some (rec_ .busy none) := World.putObj_heap_same hlt1
    have hk2 : (W1.putObj (b + 1) (rec_ .busy none)).heap[b]? = some (.deferred (some [])) := (two_put W1 _ (by omega)).trans hk1
    have hkw : KeepsWalks W (W1.putObj (b + 1) (rec_ .busy none)) := (KeepsWalks.of_grownBy hg (fun j o e => by cases e)).trans (KeepsWalks.putObj _ hl1 rfl)
    refine wpIn_mono (hbody pre x a' _ (hI.2 _ _ _ hi1) (hAs _ _ _ _ ha) hN (by rw [World.putObj_size]; exact hlt1) (fun cur T s e => by rw [hl2] at e; cases e) (fun cur T s e => by rw [hk2] at e; cases e)) ?_
    rintro e a3 W3 hp
    cases e with
    | normal =>
      obtain ⟨⟨t1, t2⟩, hk3, hi3⟩ := hp
      have h3 : W3.heap[b + 1]? = some (rec_ .busy none) := t2.trans hl2
      exact ⟨_, _, run_endRound none h3, rfl, ⟨hI.2 _ _ _ hi3, World.putObj_heap_same (Array.getElem?_eq_some_iff.1 h3).1, (two_put W3 _ (by omega)).trans (t1.trans hk2)⟩, (hkw.trans hk3).trans (KeepsWalks.putObj _ h3 rfl)⟩
    | ret => exact hp.elim
    | exit i => exact hp.elim
    | goto t => exact hp.elim
    | panic ch => exact hp.elim
    | outgrown => exact hp.elim
  · rintro e W2 ⟨⟨v, rfl⟩, xs, hS, hi, hl, hk⟩
    exact ⟨none, _, run_endLoop hl (by simp), hdone _ _ hS (hI.2 _ _ _ hi) ((two_put W2 _ (by omega)).trans hk)⟩

end Go.Proofs.Ythgnchgehmakjaa.Cd

/-
  maps.Values over a table's map: its writes come, each once, in some order. Conditions: none.
-/
namespace Go.Proofs.Ythgnchgehmakjaa.Cd
open Go.RowKit Go.Maps Go.Shelf Go.Sort
attribute [local go_sem] Oper.semAt_some

/-- What has come of a table's writes. -/
structure Gath (T : List Wr) (left : Lit → Bool) (xs : List Wr) : Prop where
  nodup : xs.Nodup
  mem : ∀ p ∈ xs, p ∈ T
  left : ∀ p ∈ T, (left (.string p.1) = false ↔ p ∈ xs)

theorem srt_nodup {T : List Wr} (h : SrtW T) : T.Nodup := by
  unfold SrtW at h
  exact List.Pairwise.imp (fun h e => less_ne h (congrArg Wr.key e)) h
theorem srt_key {T : List Wr} (h : SrtW T) {p q : Wr} (hp : p ∈ T) (hq : q ∈ T) (e : p.1 = q.1) : p = q := by
  have h1 := getW_of_mem h hp
  rw [e, getW_of_mem h hq] at h1
  injection h1 with h1
  exact h1.symm
theorem Gath.start {T : List Wr} {left : Lit → Bool} (h : ∀ p ∈ T, left (.string p.1) = true) : Gath T left [] :=
  ⟨List.nodup_nil, (fun _ h => by cases h), fun p hp => ⟨(fun e => by rw [h p hp] at e; cases e), (fun e => by cases e)⟩⟩
theorem Gath.step {T xs : List Wr} {left : Lit → Bool} (h : Gath T left xs) (hs : SrtW T) {c : Wr} (hc : c ∈ T) (hl : left (.string c.1) = true) : Gath T (fun z => left z && !z.sameKey (.string c.1)) (xs ++ [c]) := by
  have hn : c ∉ xs := fun e => by rw [(h.left c hc).2 e] at hl; cases hl
  refine ⟨?_, fun p hp => ?_, fun p hp => ?_⟩
  · rw [List.nodup_append]
    exact ⟨h.nodup, by simp, fun a ha b hb e => by rw [List.mem_singleton.1 hb] at e; exact hn (e ▸ ha)⟩
  · rcases List.mem_append.1 hp with hp | hp
    · exact h.mem p hp
    · rw [List.mem_singleton.1 hp]; exact hc
  · have hk : (Lit.string p.1).sameKey (.string c.1) = decide (p.1 = c.1) := by
      show (p.1 == c.1) = _
      by_cases e : p.1 = c.1
      · simp [e]
      · rw [decide_eq_false e]; simpa using e
    simp only [hk]
    by_cases e : p.1 = c.1
    · have := srt_key hs hp hc e
      subst this
      simp
    · have hne : p ≠ c := fun e2 => e (by rw [e2])
      simp only [e, decide_false, Bool.not_false, Bool.and_true, List.mem_append, List.mem_singleton, hne, or_false]
      exact h.left p hp
theorem Gath.all {T xs : List Wr} {left : Lit → Bool} (h : Gath T left xs) (hs : SrtW T) (hl : ∀ z, left z = false) : xs.Perm T :=
  (List.perm_ext_iff_of_nodup h.nodup (srt_nodup hs)).2 fun p => ⟨h.mem p, fun hp => (h.left p hp).1 (hl _)⟩

/-- An entry of the map is a write of the table's. -/
theorem wr_entry {T : List Wr} {D : DataW Unit} (hat : ∀ x, wrK.ok x → ∀ z, D.atKey (wrK.lit x) z = ((getW T x).map wrK.dat).getD z) {x : List UInt8} {c : Wr} {y : DataW Unit × List MemPlace} (hx : x.length ≤ maxLen) (hy : wrR (wrV c) = some y) (hd : ∀ z, D.atKey (.string x) z = y.1) : c ∈ T ∧ c.1 = x := by
  rw [wrR_val] at hy
  injection hy with hy
  subst hy
  cases hq : getW T x with
  | none =>
    have h1 := hat x hx (.lit (.bool true))
    have h2 := hat x hx (.lit (.bool false))
    rw [hq] at h1 h2
    have e1 := (hd (.lit (.bool true))).symm.trans h1
    have e2 := (hd (.lit (.bool false))).symm.trans h2
    rw [e1] at e2
    cases e2
  | some p =>
    have h1 := hat x hx .nil
    rw [hq] at h1
    have e1 : wrD c = wrD p := (hd .nil).symm.trans h1
    have e2 := wrD_inj e1
    subst e2
    exact ⟨getW_mem hq, getW_key hq⟩

set_option maxRecDepth 100000 in
set_option maxHeartbeats 3200000 in
theorem vals_gives (Bm b : Nat) (T : List Wr) (w : World) (hBm : Bm < w.heap.size) (hm : w.cell? ⟨Bm, 0, none⟩ = some (.map (some b))) (h : TabM w b T) (n : Nat) (hn : 1 ≤ n) :
    SeqGives Fence.wide n Try.prog 60 #[.pointer (some ⟨Bm, 0, none⟩)] wrV (fun xs => xs.Perm T) T.length w := fun l J W hW hJ hY h0 => by
  have hM := h.below hW
  have hm2 := (hW.cell (p := ⟨Bm, 0, none⟩) hBm).trans hm
  obtain ⟨⟨D, hown, hsz, hat⟩, hs, _, _⟩ := hM
  have HAT := Lib.hid hat
  have HS := Lib.hid hs
  have HY := Lib.hid hY
  have HJ := Lib.hid hJ
  have H0 := Lib.hid h0
  have HST : Hid (Gath T (Maps.has D) []) := Gath.start fun p hp => by
    have := MapF.has (M := wrK) (hat p.1 (h.2.2.2 p hp).key)
    rw [getW_of_mem hs hp] at this
    exact this
  clear hat hs hY hJ h0 h hW hm
  refine callsIn_of_wp Try.func60 rfl trivial ?_ rfl
  simp only [Try.ntmps60, List.size_toArray, List.length_cons, List.length_nil, Nat.reduceAdd, Nat.reduceSub, Array.replicate_succ, Array.replicate_zero, List.push_toArray, List.append_toArray, List.nil_append, List.cons_append]
  gi_wp2_with (first
    | (gi_at_range; refine wpListIn_range_own _ rfl _ 55 rfl 9 44 wrK.law wrK.under wrR b T.length _ rfl hown ?_; intro w0 hrg0 hg0 hs0)
    | gi_in)
  go_frame
  gi_loopw [4] (fun _ wr => ∃ (left : Lit → Bool) (cnt : Nat) (xs : List Wr), wr.ranges Try.prog 9 wrR b W.heap.size T.length D left cnt ∧ Hid (xs.length + cnt ≤ T.length) ∧ Hid (Gath T left xs) ∧ Hid (J xs wr)) (fun _ wr => wr.rangeLeft b W.heap.size)
  case atStart =>
    exact ⟨_, _, [], hrg0, by unfold Hid; rw [hsz]; simp, HST.out, HJ.out [] W w0 none H0.out hg0 (fun r e => by cases e)⟩
  case round =>
    obtain ⟨left, cnt, xs, hrg, hcs, hC, hJs⟩ := hrel
    gi_wp2_with (first
      | (gi_at_next; refine wpListIn_next_ranges _ rfl _ rfl 9 wrK.law wrR encStr wrV (fun key kl hk => by obtain ⟨x, hx, _⟩ := Maps.keyOf_str Try.underlying9 hk; exact ⟨x, hx⟩) (fun v y hv => by obtain ⟨c, rfl, _⟩ := wrR_inv hv; exact ⟨c, rfl⟩) b W.heap.size T.length _ _ _ rfl hrg ?_ ?_)
      | gi_in)
    · intro hc0 hl0
      gi_wp2
      go_end0
      exact ⟨⟨_, rfl⟩, xs, hC.out.all HS.out hl0, hJs.out⟩
    · intro x c kl yd yp w2 cnt2 hkey hlk hv hat2 hrg2 hlt hg2 hs2 hen
      obtain ⟨x', ex, rfl, hwx⟩ := Maps.keyOf_str Try.underlying9 hkey
      obtain rfl : x = x' := encStr_inj ex
      obtain ⟨hcT, hcx⟩ := wr_entry HAT.out hwx hv hat2
      subst hcx
      have hC2 := Lib.hid (hC.out.step HS.out hcT hlk)
      have hcs2 : Hid (xs.length + 1 + cnt2 ≤ T.length) := by have := hcs.out; unfold Hid; omega
      have hJ2 : J xs w2 := HJ.out xs wr w2 (some W.heap.size) hJs.out hg2 (fun r e => by injection e with e; subst e; exact ⟨Nat.le_refl _, hrg.iter_walk⟩)
      have hJ3 : J xs (w2.alloc (.cells #[.string ⟨c.1.toArray⟩, .string ⟨c.2.1.toArray⟩, .bool c.2.2] 44)) := HJ.out xs w2 _ none hJ2 (World.grownBy_alloc _ _ _) (fun r e => by cases e)
      obtain ⟨fn, tmps, assign, body, hy, hR⟩ := HY.out xs c _ hJ3 (by have := hcs2.out; omega)
      have HR := Lib.hid hR
      have hms : Hid (w2.rangeLeft b W.heap.size < wr.rangeLeft b W.heap.size) := by unfold Hid; rw [hrg2.left_eq, hrg.left_eq]; omega
      have HRG := Lib.hid (hrg2.of_walks (KeepsWalks.alloc _ (.cells #[.string ⟨c.1.toArray⟩, .string ⟨c.2.1.toArray⟩, .bool c.2.2] 44)))
      have HRG2 := Lib.hid hrg2
      clear hs2 hR hJ2 hJ3 hv hat2 hkey hlk hcT hrg hrg2 hcs hC hJs hg2 hlt
      unfold wrV at hy hen ⊢
      gi_wp2
      refine HR.out.mono ?_
      rintro e W3 ⟨rfl, hJ3, hk3⟩
      have HJ3 := Lib.hid hJ3
      have hrg3 := HRG.out.of_walks hk3
      have hm3 : Hid (W3.rangeLeft b W.heap.size < wr.rangeLeft b W.heap.size) := by
        have h1 := hrg3.left_eq
        have h2 := HRG2.out.left_eq
        have h3 := hms.out
        unfold Hid
        omega
      have HRG3 := Lib.hid hrg3
      clear hJ3 hk3 hrg3 HRG HRG2 HR hms
      gi_wp2
      go_roundw
      case rel => exact ⟨_, cnt2, xs ++ [c], HRG3.out, (by have := hcs2.out; unfold Hid; rw [List.length_append, List.length_singleton]; exact this), hC2, HJ3⟩
      case measure => exact hm3.out

set_option maxRecDepth 100000 in
set_option maxHeartbeats 1600000 in
theorem vals_nil (Bm : Nat) (w : World) (hBm : Bm < w.heap.size) (hm : w.cell? ⟨Bm, 0, none⟩ = some (.map none)) (n : Nat) :
    SeqGives Fence.wide n Try.prog 60 #[.pointer (some ⟨Bm, 0, none⟩)] wrV (fun xs => xs.Perm []) 0 w := fun l J W hW hJ _ h0 => by
  have hm2 := (hW.cell (p := ⟨Bm, 0, none⟩) hBm).trans hm
  have h1 := hJ [] W (W.alloc (.mapIter none 0 #[] 0)) none h0 (World.grownBy_alloc W _ none) (fun r e => by cases e)
  have H1 := Lib.hid h1
  clear hJ h0 hW h1
  refine callsIn_of_wp Try.func60 rfl trivial ?_ rfl
  simp only [Try.ntmps60, List.size_toArray, List.length_cons, List.length_nil, Nat.reduceAdd, Nat.reduceSub, Array.replicate_succ, Array.replicate_zero, List.push_toArray, List.append_toArray, List.nil_append, List.cons_append]
  have hrg := run_range_nilMap (P := Try.prog) W 55 9 44 Try.underlying55
  have hnx : ∀ ty, (Instr.next (.pointer (some ⟨W.heap.size, 0, none⟩)) false ty).run Try.prog (W.alloc (.mapIter none 0 #[] 0)) = _ := fun ty => run_next_nilMap _ ty 0 0 #[]
  gi_wp2
  refine wpIn_loop_rounds 1 ?_
  rw [roundsIn_succ]
  gi_wp2
  go_end0
  exact ⟨⟨_, rfl⟩, [], List.Perm.refl _, H1.out⟩

end Go.Proofs.Ythgnchgehmakjaa.Cd

/-
  maps.Copy of a table's map onto another one. Conditions: not too many; two blocks.
-/
namespace Go.Proofs.Ythgnchgehmakjaa.Cd
open Go.RowKit Go.Maps Go.Shelf Go.Sort

theorem find_perm {l T : List Wr} (hs : SrtW T) (hp : l.Perm T) (k : List UInt8) : (l.find? fun w => w.1 == k) = getW T k := by
  cases hg : getW T k with
  | none =>
    rw [List.find?_eq_none]
    intro x hx
    have := getW_none.1 hg x (hp.mem_iff.1 hx)
    simpa using this
  | some w =>
    have hk := getW_key hg
    have hm := hp.mem_iff.2 (getW_mem hg)
    cases hf : l.find? (fun w => w.1 == k) with
    | none =>
      have := List.find?_eq_none.1 hf w hm
      simp [hk] at this
    | some x =>
      have hx := hp.mem_iff.1 (List.mem_of_find?_eq_some hf)
      have hxk : x.1 = k := by simpa using List.find?_some hf
      have := getW_of_mem hs hx
      rw [hxk, hg] at this
      exact this.symm
/-- In whatever order a table's writes are put in, the same stands behind them. -/
theorem from_perm {t l T : List Wr} (ht : SrtW t) (hs : SrtW T) (hp : l.Perm T) : ofFrom t l = ofFrom t T :=
  srt_ext (ofFrom_srt ht l) (ofFrom_srt ht T) fun k => by
    rw [getW_from, getW_from, find_perm hs ((List.reverse_perm l).trans hp), find_perm hs (List.reverse_perm T)]

set_option maxRecDepth 100000 in
set_option maxHeartbeats 3200000 in
theorem copy_tb (bd bs : Nat) (Td Ts : List Wr) (w : World) (hd : TabM w bd Td) (hs : TabM w bs Ts) (hne : bd ≠ bs) (hl : Td.length + Ts.length ≤ 1099511627776) :
    Calls Try.prog 39 #[.map (some bd), .map (some bs)] w fun e w' => e = .returned (.tuple #[]) ∧ TabM w' bd (ofFrom Td Ts) ∧ w.grownBy w' (some bd) := by
  have hbd := hd.lt
  have hbs := hs.lt
  have HD := Lib.hid hd
  have HSM := Lib.hid hs
  obtain ⟨⟨D, hown, hsz, hat⟩, hsr, hfl, hft⟩ := hs
  have HAT := Lib.hid hat
  have HS := Lib.hid hsr
  have HFL := Lib.hid hfl
  have HFT := Lib.hid hft
  have HST : Hid (Gath Ts (Maps.has D) []) := Gath.start fun p hp => by
    have := MapF.has (M := wrK) (hat p.1 (hft p hp).key)
    rw [getW_of_mem hsr hp] at this
    exact this
  clear hat hsr hfl hft hd
  go_enter Try.func39, Try.ntmps39
  go_wp2_with (at_range; refine wpList_range_own _ rfl _ 55 rfl 9 44 wrK.law wrK.under wrR bs Ts.length D rfl hown ?_; intro w0 hrg0 hg0 hs0)
  go_frame
  have hM0 := Lib.hid (HD.out.grown hg0 (by simp))
  have hG0 : Hid (w.grownBy w0 (some bd)) := hg0.but _
  have hsz0 : Hid (Maps.size D = Ts.length) := hsz
  clear hs0 hsz hg0
  go_loopw [4, 5] (fun _ _ wr => ∃ (left : Lit → Bool) (cnt : Nat) (xs : List Wr), wr.ranges Try.prog 9 wrR bs w.heap.size Ts.length D left cnt ∧ Hid (xs.length + cnt ≤ Ts.length) ∧ Hid (Gath Ts left xs) ∧ Hid (TabM wr bd (ofFrom Td xs)) ∧ Hid (w.grownBy wr (some bd))) (fun _ _ wr => wr.rangeLeft bs w.heap.size)
  case atStart => exact ⟨_, _, [], hrg0, by unfold Hid; rw [hsz0.out]; simp, HST.out, hM0.out, hG0.out⟩
  case round =>
    obtain ⟨left, cnt, xs, hrg, hcs, hC, hMx, hG⟩ := hrel
    go_wp2_with (at_next; refine wpList_next_ranges _ rfl _ rfl 9 wrK.law wrR encStr wrV (fun key kl hk => by obtain ⟨x, hx, _⟩ := Maps.keyOf_str Try.underlying9 hk; exact ⟨x, hx⟩) (fun v y hv => by obtain ⟨c, rfl, _⟩ := wrR_inv hv; exact ⟨c, rfl⟩) bs w.heap.size Ts.length _ _ _ rfl hrg ?_ ?_)
    · intro hc0 hl0
      have hxs := hC.out.all HS.out hl0
      have hfin : Hid (TabM wr bd (ofFrom Td Ts)) := by unfold Hid; rw [← from_perm HD.out.2.1 HS.out hxs]; exact hMx.out
      clear hxs hMx
      go_wp2_with fail
      go_end0
      exact ⟨rfl, hfin.out, hG.out⟩
    · intro x c kl yd yp w2 cnt2 hkey hlk hv hat2 hrg2 hlt hg2 hs2 hen
      obtain ⟨x', ex, rfl, hwx⟩ := Maps.keyOf_str Try.underlying9 hkey
      obtain rfl : x = x' := encStr_inj ex
      obtain ⟨hcT, hcx⟩ := wr_entry HAT.out hwx hv hat2
      subst hcx
      have hC2 := Lib.hid (hC.out.step HS.out hcT hlk)
      have hcs2 : Hid (xs.length + 1 + cnt2 ≤ Ts.length) := by have := hcs.out; unfold Hid; omega
      have hz : w.heap.size ≤ wr.heap.size := hG.out.size
      have hM2 := hMx.out.grown hg2 (fun e => by injection e with e; omega)
      have hb3 : Below w2.heap.size w2 (w2.alloc (.cells #[.string ⟨c.1.toArray⟩, .string ⟨c.2.1.toArray⟩, .bool c.2.2] 44)) := (Below.refl _ _).alloc (Nat.le_refl _) _
      have hln : (ofFrom Td xs).length < maxLen := by have := ofFrom_len HD.out.2.1 xs; have := hcs2.out; simp only [maxLen]; omega
      obtain ⟨w4, hrun4, hm4, hg4⟩ := (hM2.below hb3).put hln c (HFL.out c hcT) (HFT.out c hcT)
      have hsn : Hid (ofFrom Td (xs ++ [c]) = insW (ofFrom Td xs) c) := by unfold Hid; rw [ofFrom_snoc, HFL.out c hcT]
      have hgg : Hid (w.grownBy w4 (some bd)) := ((hG.out.andThen hg2 (fun j e => by injection e with e; exact .inl (by omega))).andThen (World.grownBy_alloc w2 _ none) (fun j e => by cases e)).andThen hg4 (fun j e => .inr e)
      have hrg4 := (hrg2.kept (World.grownBy_alloc w2 (.cells #[.string ⟨c.1.toArray⟩, .string ⟨c.2.1.toArray⟩, .bool c.2.2] 44) none) (by simp) (by simp)).kept hg4 (fun e => by injection e with e; omega) (fun e => by injection e with e; omega)
      have hms : Hid (w4.rangeLeft bs w.heap.size < wr.rangeLeft bs w.heap.size) := by unfold Hid; rw [hrg4.left_eq, hrg.left_eq]; exact hlt
      have HM4 := Lib.hid hm4
      have HRG4 := Lib.hid hrg4
      clear hs2 hv hat2 hkey hlk hcT hrg hrg2 hcs hC hMx hG hg2 hlt hM2 hb3 hm4 hg4 hrg4 hln
      unfold wrV at hen ⊢
      go_wp2_with fail
      go_roundw
      case rel => exact ⟨_, cnt2, xs ++ [c], HRG4.out, (by have := hcs2.out; unfold Hid; rw [List.length_append, List.length_singleton]; exact this), hC2, (by rw [hsn.out]; exact HM4.out), hgg⟩
      case measure => exact hms.out

set_option maxRecDepth 100000 in
set_option maxHeartbeats 1600000 in
theorem copy_nil (pd : Option Nat) (w : World) :
    Calls Try.prog 39 #[.map pd, .map none] w fun e w' => e = .returned (.tuple #[]) ∧ w' = w.alloc (.mapIter none 0 #[] 0) := by
  have hrg := run_range_nilMap (P := Try.prog) w 55 9 44 Try.underlying55
  have hnx : ∀ ty, (Instr.next (.pointer (some ⟨w.heap.size, 0, none⟩)) false ty).run Try.prog (w.alloc (.mapIter none 0 #[] 0)) = _ := fun ty => run_next_nilMap _ ty 0 0 #[]
  go_enter Try.func39, Try.ntmps39
  go_wp2_with fail
  refine wp_loop_rounds 1 ?_
  rw [rounds_succ]
  go_wp2_with fail
  go_end0
  exact ⟨rfl, rfl⟩

end Go.Proofs.Ythgnchgehmakjaa.Cd

/-
  Of: a table of writes. Conditions: none.
-/
namespace Go.Proofs.Ythgnchgehmakjaa.Cd
open Go.RowKit Go.Maps

theorem flatG_ins_ok {p : Wr} (h : p.2.2 = false) : flatG p = p := by unfold flatG; rw [h]; rfl

/-- What Of answers: a new table. -/
def Made (w : World) (T : List Wr) (e : Ending) (w' : World) : Prop := ∃ g b, e = .returned (.pointer (some ⟨g, 0, none⟩)) ∧ w.heap.size ≤ g ∧ g < w'.heap.size ∧ w'.cell? ⟨g, 0, none⟩ = some (.map (some b)) ∧ w.heap.size ≤ b ∧ b ≠ g ∧ TabM w' b T ∧ Below w.heap.size w w'
theorem Made.tab {w w' : World} {T : List Wr} {e : Ending} (h : Made w T e w') : ∃ v, e = .returned v ∧ (∃ g, v = .pointer (some ⟨g, 0, none⟩)) ∧ TabV w' v T ∧ Below w.heap.size w w' := by
  obtain ⟨g, b, h1, h2, h3, h4, h5, h6, h7, h8⟩ := h
  exact ⟨_, h1, ⟨g, rfl⟩, .inr ⟨g, rfl, b, h3, h4, h7⟩, h8⟩

set_option maxRecDepth 100000 in
set_option maxHeartbeats 3200000 in
theorem tof_any (v : Value) (l : List Wr) (w : World) (h : TbIn w w.heap.size v l) (hf : FitW l) (hl : l.length ≤ 1099511627776) :
    Calls Try.prog 8 #[v] w (Made w (ofW l)) := by
  obtain ⟨A, c, rfl, hc1, hc2⟩ := h.len
  have H := Lib.hid h
  have HF := Lib.hid hf
  clear h hf
  have hmm := @run_makeMap Try.prog
  have hm0 := TabM.made w
  have hb0 : Below w.heap.size w ((w.alloc (.map #[] 0)).alloc (.cells #[.map (some w.heap.size)] 57)) := ((Below.refl _ _).alloc (Nat.le_refl _) _).alloc (by simp) _
  have hm1 := hm0.below (w' := (w.alloc (.map #[] 0)).alloc (.cells #[.map (some w.heap.size)] 57)) ((Below.refl _ _).alloc (Nat.le_refl _) _)
  have hz1 : ((w.alloc (.map #[] 0)).alloc (.cells #[.map (some w.heap.size)] 57)).heap.size = w.heap.size + 2 := by simp
  have hr1 : ((w.alloc (.map #[] 0)).alloc (.cells #[.map (some w.heap.size)] 57)).heap[w.heap.size + 1]? = some (.cells #[.map (some w.heap.size)] 57) := by
    have := heap_alloc_new (w.alloc (.map #[] 0)) (.cells #[.map (some w.heap.size)] 57)
    rwa [show (w.alloc (.map #[] 0)).heap.size = w.heap.size + 1 by simp] at this
  have HB0 := Lib.hid hb0
  have HM1 := Lib.hid hm1
  have HR1 := Lib.hid hr1
  clear hm0 hm1 hb0 hr1
  go_enter Try.func8, Try.ntmps8
  go_wp2_with fail
  generalize (w.alloc (.map #[] 0)).alloc (.cells #[.map (some w.heap.size)] 57) = w0 at *
  go_loopw [11] (fun i wr => ∃ k : Nat, i = .int .i64 k ∧ k ≤ l.length ∧ Hid (TabM wr w.heap.size (ofW (l.take k))) ∧ Hid (Below w.heap.size w wr) ∧ Hid (wr.heap[w.heap.size + 1]? = some (.cells #[.map (some w.heap.size)] 57)) ∧ w.heap.size + 2 ≤ wr.heap.size) (fun i _ => l.length - (intOf i).toNat)
  case atStart => exact ⟨0, rfl, by omega, HM1.out, HB0.out, HR1.out, by omega⟩
  case round =>
    obtain ⟨k, rfl, hk, hmp, hbl, hrw, hsz⟩ := hrel
    by_cases hlt : k < l.length
    · obtain ⟨p, hpk⟩ : ∃ p, l[k]? = some p := ⟨l[k], List.getElem?_eq_getElem hlt⟩
      obtain ⟨b2, off2, e2, hB2, d0, d1, d2⟩ := (H.out.below hbl.out).at hpk
      subst e2
      have hpf := HF.out p (List.mem_of_getElem? hpk)
      have HPK := Lib.hid hpk
      have hln : (ofW (l.take k)).length < maxLen := by have := ofW_len (l.take k); rw [List.length_take] at this; simp only [maxLen]; omega
      clear hpk
      obtain ⟨key, val, gone⟩ := p
      dsimp only at d0 d1 d2
      cases gone
      · have hba : ∀ (o : Obj) (p : Addr), p.block < wr.heap.size → (wr.alloc o).cell? p = wr.cell? p := fun o p hp => ((Below.refl wr.heap.size wr).alloc (Nat.le_refl _) o).cell hp
        have cg : ∀ o : Obj, (wr.alloc o).cell? ⟨w.heap.size + 1, 0, none⟩ = some (.map (some w.heap.size)) := fun o => (hba o ⟨w.heap.size + 1, 0, none⟩ (by show w.heap.size + 1 < _; omega)).trans (cell_of_row _ _ 0 _ _ _ hrw.out)
        have hm3 := hmp.out.below (w' := (wr.alloc (.cells #[.string ⟨key.toArray⟩, .string ⟨val.toArray⟩, .bool false] 44))) ((Below.refl _ _).alloc (Nat.le_refl _) _)
        have hb3 : Below w.heap.size w (wr.alloc (.cells #[.string ⟨key.toArray⟩, .string ⟨val.toArray⟩, .bool false] 44)) := hbl.out.trans (((Below.refl _ _).alloc (Nat.le_refl _) _).mono (by omega))
        have hr3 : (wr.alloc (.cells #[.string ⟨key.toArray⟩, .string ⟨val.toArray⟩, .bool false] 44)).heap[w.heap.size + 1]? = some (.cells #[.map (some w.heap.size)] 57) := (((Below.refl _ _).alloc (Nat.le_refl wr.heap.size) (.cells #[.string ⟨key.toArray⟩, .string ⟨val.toArray⟩, .bool false] 44)).block (w.heap.size + 1) (by omega)).trans hrw.out
        obtain ⟨w3, hrun3, hm4, hg4⟩ := (hm3.below (Below.refl _ _).drew).put hln ⟨key, val, false⟩ rfl hpf
        dsimp only at hrun3
        have HM4 := Lib.hid hm4
        have HB4 := Lib.hid ((hb3.trans (Below.refl _ _).drew).grown hg4 (by have := hb3.size; exact this) (fun k e => by injection e with e; omega))
        have HR4 := Lib.hid ((hg4.block (w.heap.size + 1) (Array.getElem?_eq_some_iff.1 hr3).1 (fun e => by injection e with e; omega)).trans hr3)
        have hz4 : w.heap.size + 2 ≤ w3.heap.size := Nat.le_trans (Nat.le_trans hsz (by simp [World.drew])) hg4.size
        clear hba hm3 hm4 hb3 hr3 hg4
        go_wp2_with fail
        go_region
        all_goals go_wp2_with fail
        all_goals go_roundw
        case rel => exact ⟨k + 1, by go_num, by omega, (by rw [ofW_take HPK.out]; exact HM4.out), HB4.out, HR4.out, hz4⟩
        case measure => simp [intOf]; omega
      · have hba : ∀ (o : Obj) (p : Addr), p.block < wr.heap.size → (wr.alloc o).cell? p = wr.cell? p := fun o p hp => ((Below.refl wr.heap.size wr).alloc (Nat.le_refl _) o).cell hp
        have cg : ∀ o : Obj, (wr.alloc o).cell? ⟨w.heap.size + 1, 0, none⟩ = some (.map (some w.heap.size)) := fun o => (hba o ⟨w.heap.size + 1, 0, none⟩ (by show w.heap.size + 1 < _; omega)).trans (cell_of_row _ _ 0 _ _ _ hrw.out)
        have hm3 := hmp.out.below (w' := (wr.alloc (.cells #[.string ⟨key.toArray⟩, .string ⟨#[]⟩, .bool true] 44))) ((Below.refl _ _).alloc (Nat.le_refl _) _)
        have hb3 : Below w.heap.size w (wr.alloc (.cells #[.string ⟨key.toArray⟩, .string ⟨#[]⟩, .bool true] 44)) := hbl.out.trans (((Below.refl _ _).alloc (Nat.le_refl _) _).mono (by omega))
        have hr3 : (wr.alloc (.cells #[.string ⟨key.toArray⟩, .string ⟨#[]⟩, .bool true] 44)).heap[w.heap.size + 1]? = some (.cells #[.map (some w.heap.size)] 57) := (((Below.refl _ _).alloc (Nat.le_refl wr.heap.size) (.cells #[.string ⟨key.toArray⟩, .string ⟨#[]⟩, .bool true] 44)).block (w.heap.size + 1) (by omega)).trans hrw.out
        obtain ⟨w3, hrun3, hm4, hg4⟩ := (hm3.below (Below.refl _ _).drew).put hln ⟨key, [], true⟩ rfl ⟨hpf.1, Nat.zero_le _⟩
        dsimp only at hrun3
        have HM4 := Lib.hid hm4
        have HB4 := Lib.hid ((hb3.trans (Below.refl _ _).drew).grown hg4 (by have := hb3.size; exact this) (fun k e => by injection e with e; omega))
        have HR4 := Lib.hid ((hg4.block (w.heap.size + 1) (Array.getElem?_eq_some_iff.1 hr3).1 (fun e => by injection e with e; omega)).trans hr3)
        have hz4 : w.heap.size + 2 ≤ w3.heap.size := Nat.le_trans (Nat.le_trans hsz (by simp [World.drew])) hg4.size
        clear hba hm3 hm4 hb3 hr3 hg4
        go_wp2_with fail
        go_region
        all_goals go_wp2_with fail
        all_goals go_roundw
        case rel => exact ⟨k + 1, by go_num, by omega, (by rw [ofW_take HPK.out]; exact HM4.out), HB4.out, HR4.out, hz4⟩
        case measure => simp [intOf]; omega
    · have hm2 : Hid (TabM wr w.heap.size (ofW l)) := by
        have := hmp.out
        rw [List.take_of_length_le (by omega)] at this
        exact this
      clear hmp
      go_wp2_with fail
      go_ret
      exact ⟨_, w.heap.size, rfl, by omega, by omega, cell_of_row _ _ 0 _ _ _ hrw.out, Nat.le_refl _, by omega, hm2.out, hbl.out⟩

end Go.Proofs.Ythgnchgehmakjaa.Cd

/-
  slices.Collect of a table's writes: they come into a new row, in some order. Conditions: not too many.
-/
namespace Go.Proofs.Ythgnchgehmakjaa.Cd
open Go.RowKit Go.Maps Go.Shelf Go.Sort
attribute [local go_sem] Oper.semAt_some
set_option linter.unusedVariables false

/-- Between two rounds: the box at q holds a row that was laid since, of what has come. -/
def InBox (w0 : World) (q B : Nat) (xs : List Wr) (W : World) : Prop :=
  ∃ v, W.heap[q]? = some (.cells #[v] 22 (0, 0)) ∧ OwnTb W B v xs ∧ Below w0.heap.size w0 W ∧ B ≤ W.heap.size

theorem own_cells {w : World} {B : Nat} {v : Value} {l : List Wr} (h : OwnTb w B v l) {k : Nat} (hk : v.ownBlock = some k) : B ≤ k ∧ ∃ cur, w.heap[k]? = some (.cells cur 44 (0, 0)) := by
  have h1 := (World.ownsRow.lt h k hk).1
  rcases h.2 with ⟨rfl, _⟩ | ⟨g, cap, cur, rfl, hg, hh, _⟩
  · cases hk
  · have : g = k := by simpa [Value.ownBlock] using hk
    subst this
    exact ⟨hg, cur, hh⟩
theorem OwnTb.other {w w' : World} {B : Nat} {v : Value} {l : List Wr} {row : Option Nat} (h : OwnTb w B v l) (hg : w.grownBy w' row) (hr : ∀ k, row = some k → v.ownBlock = some k → False) : OwnTb w' B v l :=
  World.ownsRow.kept h hg (by
    cases hv : v.ownBlock with
    | none => exact .inl rfl
    | some k => exact .inr fun e => hr k e.symm hv)

theorem inBox_stays (w0 : World) (q r : Nat) (hq : w0.heap.size ≤ q) (hqr : q < r) : StaysSeq r (InBox w0 q (r + 1)) := by
  refine ⟨fun s A B row hA hg hrow => ?_, fun s A o hA => ?_⟩
  · obtain ⟨v, h1, h2, h3, h4⟩ := hA
    have hw : ∀ j, row = some j → ∃ o : Obj, A.heap[j]? = some o ∧ o.isWalk = true := fun j e => (hrow j e).2
    refine ⟨v, (grownBy_keeps hg hw h1 rfl).trans h1, h2.other hg fun k e hv => ?_, h3.grown hg h3.size (fun k e => by have := (hrow k e).1; omega), Nat.le_trans h4 hg.size⟩
    obtain ⟨_, cur, hc⟩ := own_cells h2 hv
    obtain ⟨o, ho, how⟩ := hw k e
    rw [hc] at ho
    cases ho
    cases how
  · obtain ⟨v, h1, h2, h3, h4⟩ := hA
    have hg : A.grownBy (A.putObj r o) (some r) := ⟨rfl, rfl, rfl, by rw [World.putObj_size]; exact Nat.le_refl _, fun k _ hk => World.putObj_heap_other (fun e => hk (by rw [e]))⟩
    refine ⟨v, (World.putObj_heap_other (by omega)).trans h1, h2.other hg fun k e hv => ?_, h3.grown hg h3.size (fun k e => by injection e with e; omega), by rw [World.putObj_size]; exact h4⟩
    injection e with e
    have := (own_cells h2 hv).1
    omega

/-- What a round starts from: the write that came lies in a box. -/
def AsTb (sv : Value) (q r : Nat) (x : Wr) (a : Act) (W : World) : Prop :=
  ∃ p, a = { tmps := #[.slice none 0 0, sv, .pointer (some ⟨q, 0, none⟩), undef, .slice none 0 0, .pointer (some ⟨p, 0, none⟩), sv, .agg #[.string ⟨x.1.toArray⟩, .string ⟨x.2.1.toArray⟩, .bool x.2.2], undef, undef, undef, undef, undef], defers := [] } ∧ W.heap[p]? = some (.cells #[.string ⟨x.1.toArray⟩, .string ⟨x.2.1.toArray⟩, .bool x.2.2] 44 (0, 0)) ∧ r < p

set_option maxRecDepth 100000 in
set_option maxHeartbeats 3200000 in
theorem append_seq_tb (n : Nat) (hn : 2 ≤ n) (g : Nat) (lb : Array Value) (eg : ∀ args w, (callFunc g args).run Try.prog w = .ok (.enter g args) w) (S : List Wr → Prop) (N : Nat) (hN : N ≤ 1099511627775) (w : World) (hseq : SeqGives Fence.wide (n - 1) Try.prog g lb wrV S N w) :
    CallsIn Fence.wide n Try.prog 72 #[.slice none 0 0, .func (.func g) #[] lb] w fun e w' => ∃ v xs, e = .returned v ∧ S xs ∧ OwnTb w' w.heap.size v xs ∧ Below w.heap.size w w' := by
  refine callsIn_of_wp_marks Try.func72 rfl trivial ?_ rfl
  simp only [Try.ntmps72, List.size_toArray, List.length_cons, List.length_nil, Nat.reduceAdd, Nat.reduceSub, Array.replicate_succ, Array.replicate_zero, List.push_toArray, List.append_toArray, List.nil_append, List.cons_append]
  gi_wp2
  obtain ⟨W0, hW0⟩ : ∃ W0, w.alloc (.cells #[.slice none 0 0] 22) = W0 := ⟨_, rfl⟩
  have hs0 : W0.heap.size = w.heap.size + 1 := by rw [← hW0]; simp
  have hv0 : W0.heap[w.heap.size]? = some (.cells #[.slice none 0 0] 22 (0, 0)) := by rw [← hW0]; exact World.alloc_heap_new w _
  have hb0 : Below w.heap.size w W0 := by rw [← hW0]; exact (Below.refl _ w).alloc (Nat.le_refl _) _
  rw [hW0]
  clear hW0
  refine wpIn_range_seq (S := S) (N := N) (enc := wrV) rfl (by omega) (gf := g) (lb := lb) rfl trivial eg rfl (hseq.later hb0) (InBox w w.heap.size (W0.heap.size + 1 + 1)) (inBox_stays w w.heap.size (W0.heap.size + 1) (Nat.le_refl _) (by omega)) ?h0 (AsTb (.func (.func g) #[] lb) w.heap.size (W0.heap.size + 1)) ?hAs ?assign ?body ?done
  case h0 =>
    intro o
    have hb : Below W0.heap.size W0 ((W0.alloc (.deferred (some []))).alloc o) := ((Below.refl _ _).alloc (Nat.le_refl _) _).alloc (by simp) _
    exact ⟨_, (hb.block _ (by omega)).trans hv0, OwnTb.nil _ _, hb0.trans (hb.mono (by omega)), by simp⟩
  case hAs =>
    rintro x a A o ⟨p, h1, h2, h3⟩
    exact ⟨p, h1, (World.putObj_heap_other (by omega)).trans h2, h3⟩
  case assign =>
    intro l x W K hlt hK
    unfold wrV
    gi_wp2
    exact hK _ _ ⟨W.heap.size, rfl, heap_alloc_new _ _, hlt⟩ (World.grownBy_alloc _ _ _)
  case body =>
    rintro pre x a' W ⟨v, hv, ho, hb, hB⟩ ⟨p, rfl, hp, hrp⟩ hpre hlt hl hd
    have c0 := cell_of_row _ _ 0 _ _ _ hp
    have c1 := cell_of_row _ _ 1 _ _ _ hp
    have c2 := cell_of_row _ _ 2 _ _ _ hp
    have x0 := cell_of_row _ _ 0 _ _ _ hv
    have HO := Lib.hid ho
    have HB := Lib.hid hb
    have HV := Lib.hid hv
    clear ho hb hv
    obtain ⟨i0, hi, hz0, hz1, hz2⟩ := info_parts info_wr
    have hcells : ∀ (j : Nat) u, (wrC x)[j]? = some u → (W.alloc (.cells #[.string ⟨x.1.toArray⟩, .string ⟨x.2.1.toArray⟩, .bool x.2.2] 44)).cell? ((⟨W.heap.size, 0, none⟩ : Addr).add j) = some u := fun j u hu => by
      obtain ⟨A, c, e, _, _, _, hc⟩ := tb_one W x 44
      injection e with e1 _ _
      obtain ⟨b, off, e2, _, hc⟩ := hc (by simp)
      rw [← e1] at e2
      injection e2 with e2
      injection e2 with e2 e3
      subst e2 e3
      have := hc 0 x rfl j u hu
      rwa [Addr.add_lit]
    have hmx : pre.length + 1 ≤ maxLen := by simp only [maxLen]; omega
    have HC := Lib.hid hcells
    have HI := Lib.hid hi
    clear hcells hi
    gi_wp2_with (gi_at_builtin
                 refine wpListIn_append_own _ rfl _ _ 22 rfl (W0.heap.size + 1 + 1) 44 i0 _ 3 40 Try.underlying22 HI.out hz0 hz1 hz2 rfl (by decide) v pre.length (wrCs pre) rfl (World.ownsRow.alloc HO.out _) ⟨W.heap.size, 0, none⟩ 1 1 (wrC x) rfl rfl HC.out (wrC_one x) hmx (by omega) (by simp; omega) ?_
                 intro v' w3 hown' hg3 hnil3
                 have hon : OwnTb w3 (W0.heap.size + 1 + 1) v' (pre ++ [x]) := by
                   unfold OwnTb
                   rw [wrCs_append, List.length_append]
                   exact hown'
                 have hb1 : Below W.heap.size W (W.alloc (.cells #[.string ⟨x.1.toArray⟩, .string ⟨x.2.1.toArray⟩, .bool x.2.2] 44)) := (Below.refl _ _).alloc (Nat.le_refl _) _
                 have hold : ∀ j, j ≤ W0.heap.size + 1 → w3.heap[j]? = W.heap[j]? := fun j hj => (hg3.block j (Nat.lt_of_lt_of_le (by omega) hb1.size) (fun e => by have := (own_cells HO.out e.symm).1; omega)).trans (hb1.block j (by omega))
                 have hv3 : w3.heap[w.heap.size]? = some (.cells #[v] 22 (0, 0)) := (hold _ (by omega)).trans HV.out
                 have y0 := cell_of_row _ _ 0 _ _ _ hv3
                 have yf := (cell_of_box_a hv3).2
                 have hkw : KeepsWalks W w3 := (KeepsWalks.alloc _ _).trans (KeepsWalks.of_grownBy hg3 (fun j o e ho => by
                   obtain ⟨_, cur, hc⟩ := own_cells (HO.out.alloc (.cells #[.string ⟨x.1.toArray⟩, .string ⟨x.2.1.toArray⟩, .bool x.2.2] 44)) e
                   rw [hc] at ho
                   cases ho
                   rfl))
                 have hb3 : Below w.heap.size w w3 := (HB.out.trans (hb1.mono (by omega))).grown hg3 (Nat.le_trans (by omega) hb1.size) (fun k e => by have := (own_cells HO.out e).1; omega)
                 obtain ⟨g', cap', rfl⟩ : ∃ g' cap', v' = .slice (some ⟨g', 0, none⟩) (pre.length + 1) cap' := by
                   rcases hon.2 with ⟨_, h0⟩ | ⟨g', cap', cur', h', _⟩
                   · simp at h0
                   · exact ⟨g', cap', by rw [h']; simp⟩
                 have HON := Lib.hid hon
                 have HOLD := Lib.hid hold
                 have HV3 := Lib.hid hv3
                 have HKW := Lib.hid hkw
                 have HB3 := Lib.hid hb3
                 clear hon hold hv3 hkw hb3 hg3 hown' hnil3)
    have hg4 : w3.grownBy (w3.setCell ⟨w.heap.size, 0, none⟩ (.slice (some ⟨g', 0, none⟩) (pre.length + 1) cap')) (some w.heap.size) := grownBy_setCell0_a _ _ _
    have hold4 : ∀ j, j ≤ W0.heap.size + 1 → j ≠ w.heap.size → (w3.setCell ⟨w.heap.size, 0, none⟩ (.slice (some ⟨g', 0, none⟩) (pre.length + 1) cap')).heap[j]? = W.heap[j]? := fun j hj hne => by
      have h3 : j < w3.heap.size := Nat.lt_of_lt_of_le (by omega) HKW.out.size
      exact (hg4.block j h3 (fun e => by injection e with e; exact hne e)).trans (HOLD.out j hj)
    refine ⟨⟨hold4 _ (by omega) (by omega), hold4 _ (by omega) (by omega)⟩, HKW.out.trans (KeepsWalks.setCell _ _ _), _, heap_setCell_box_a _ HV3.out, HON.out.other hg4 (fun k e hv => by injection e with e; have := (own_cells HON.out hv).1; omega), HB3.out.grown hg4 HB3.out.size (fun k e => by injection e with e; omega), ?_⟩
    have := HKW.out.size
    have := hg4.size
    omega
  case done =>
    rintro xs W hS ⟨v, hv, ho, hb, hB⟩ hd
    have x0 := cell_of_row _ _ 0 _ _ _ hv
    have HO := Lib.hid ho
    have HB := Lib.hid hb
    have HD := Lib.hid hd
    clear ho hb hd hv
    gi_wp2
    refine ⟨by simp, .inl ⟨_, _, rfl, run_takeDeferred HD.out, ?_⟩⟩
    have hp : ∀ o, W.grownBy (W.putObj W0.heap.size o) (some W0.heap.size) := fun o => grownBy_putObj_a _ _ _
    exact ⟨_, results_tmp rfl _ _ _, v, xs, rfl, hS, (HO.out.other (hp _) (fun k e hv => by injection e with e; have := (own_cells HO.out hv).1; omega)).lower (by omega), HB.out.grown (hp _) HB.out.size (fun k e => by injection e with e; omega)⟩

set_option maxRecDepth 100000 in
set_option maxHeartbeats 3200000 in
theorem collect_tb (n : Nat) (hn : 3 ≤ n) (g : Nat) (lb : Array Value) (eg : ∀ args w, (callFunc g args).run Try.prog w = .ok (.enter g args) w) (S : List Wr → Prop) (N : Nat) (hN : N ≤ 1099511627775) (w : World) (hseq : SeqGives Fence.wide (n - 1 - 1) Try.prog g lb wrV S N w) :
    CallsIn Fence.wide n Try.prog 58 #[.func (.func g) #[] lb] w fun e w' => ∃ v xs, e = .returned v ∧ S xs ∧ OwnTb w' w.heap.size v xs ∧ Below w.heap.size w w' := by
  have hfA : Fence.wide.fn 72 := trivial
  have h1 : 1 ≤ n := by omega
  refine callsIn_of_wp Try.func58 rfl trivial ?_ rfl
  simp only [Try.ntmps58, List.size_toArray, List.length_cons, List.length_nil, Nat.reduceAdd, Nat.reduceSub, Array.replicate_succ, Array.replicate_zero, List.push_toArray, List.append_toArray, List.nil_append, List.cons_append]
  gi_wp2_with (gi_at_call 72; refine (append_seq_tb (n - 1) (by omega) g lb eg S N hN _ hseq).mono ?_; rintro e w' ⟨v, xs, rfl, hS, ho, hb⟩)
  go_ret
  exact ⟨v, xs, rfl, hS, ho, hb⟩

/-- maps.Values of a table's map: its writes, in some order, in a new row. -/
theorem values_tb (mb : Option Nat) (w : World) :
    CallsIn Fence.wide 2 Try.prog 35 #[.map mb] w fun e w' => e = .returned (.func (.func 60) #[] #[.pointer (some ⟨w.heap.size, 0, none⟩)]) ∧ w' = w.alloc (.cells #[.map mb] 55) := by
  refine callsIn_of_wp Try.func35 rfl trivial ?_ rfl
  simp only [Try.ntmps35, List.size_toArray, List.length_cons, List.length_nil, Nat.reduceAdd, Nat.reduceSub, Array.replicate_succ, Array.replicate_zero, List.push_toArray, List.append_toArray, List.nil_append, List.cons_append]
  gi_wp2
  go_ret
  exact ⟨rfl, rfl⟩

end Go.Proofs.Ythgnchgehmakjaa.Cd
