/-
  Two files: one is cut and one removed; one is renamed over the other: no Go in sight. Conditions: none.
-/
import Derived.Test.YtpeodhgmflgbgaaDskCuts
namespace Go.Proofs.Ytpeodhgmflgbgaa.Cd

theorem pages_fst (F G : List UInt8) (a b : List (List UInt8)) : pagesF [⟨F, a⟩, ⟨G, b⟩] F = a := by simp [pagesF, getF]
theorem get_fst (F G : List UInt8) (a b : List (List UInt8)) : (getF [⟨F, a⟩, ⟨G, b⟩] F).isSome = true := by simp [getF]

section
variable {F G : List UInt8} (hlt : F < G)
include hlt

theorem lt_ne : ¬ F = G := fun e => by rw [e] at hlt; exact List.lt_irrefl _ hlt
theorem put_two_fst (a b c : List (List UInt8)) : putF [⟨F, a⟩, ⟨G, b⟩] ⟨F, c⟩ = [⟨F, c⟩, ⟨G, b⟩] := by
  have h1 : ¬ (F < F) := List.lt_irrefl F
  have h2 : ¬ G = F := fun e => lt_ne hlt e.symm
  simp [putF, without, h1, h2]
theorem put_two_snd (a b c : List (List UInt8)) : putF [⟨F, a⟩, ⟨G, b⟩] ⟨G, c⟩ = [⟨F, a⟩, ⟨G, c⟩] := by
  have h1 : ¬ (G < G) := List.lt_irrefl G
  simp [putF, without, hlt, h1]
theorem put_two_new (a c : List (List UInt8)) : putF [⟨F, a⟩] ⟨G, c⟩ = [⟨F, a⟩, ⟨G, c⟩] := by
  simp [putF, hlt]
theorem without_two (a b : List (List UInt8)) : without [⟨F, a⟩, ⟨G, b⟩] G = [⟨F, a⟩] := by
  simp [without, lt_ne hlt]
theorem without_one (a : List (List UInt8)) : without [⟨F, a⟩] G = [⟨F, a⟩] := by
  simp [without, lt_ne hlt]
theorem pages_snd (a b : List (List UInt8)) : pagesF [⟨F, a⟩, ⟨G, b⟩] G = b := by simp [pagesF, getF, lt_ne hlt]
theorem get_snd (a b : List (List UInt8)) : (getF [⟨F, a⟩, ⟨G, b⟩] G).isSome = true := by simp [getF, lt_ne hlt]

/-- One file is cut, the other removed, the power goes: the first one is left alone, and no longer than it was cut. -/
theorem cuts_end {D : Dsk} {a b s : List (List UInt8)} {P : Nat} (h : D.off = false) (hf : D.fuse = 0) (hn : D.now = [⟨F, a⟩, ⟨G, b⟩])
    (hs : D.safe = [] ∧ s = [] ∨ D.safe = [⟨F, s⟩]) (hsl : s.length ≤ P) (hw : ∀ w ∈ D.waits, w.name = F ∧ w.page < P ∨ w.name = G) (c keep : Nat) :
    (cutD D F c).2 = 0 ∧ (removeD (cutD D F c).1 G).2 = 0 ∧
      ∃ q, (onD (lose (removeD (cutD D F c).1 G).1 keep)).now = [⟨F, q⟩] ∧ q.length ≤ c ∧ q.length ≤ P ∧ (s.length = P → (∀ w ∈ D.waits, w.name = G) → q.length = min c P) := by
  rw [cut_calm h (by rw [hn]; exact get_fst F G a b) (by omega)]
  have e1 : (cuts (actD D) F c).now = [⟨F, a.take c⟩, ⟨G, b⟩] := by
    show putF D.now ⟨F, (pagesF D.now F).take c⟩ = _
    rw [hn, pages_fst, put_two_fst hlt]
  have e2 : (cuts (actD D) F c).safe = [⟨F, s.take c⟩] := by
    show putF D.safe ⟨F, (pagesF D.safe F).take c⟩ = _
    rcases hs with ⟨h1, h2⟩ | h1
    · rw [h1, h2]; simp [putF, pagesF, getF]
    · rw [h1, pages_one, put_one]
  refine ⟨rfl, ?_⟩
  show (removeD (cuts (actD D) F c) G).2 = 0 ∧ _
  have hr := remove_calm (D := cuts (actD D) F c) (n := G) h (by rw [e1]; exact get_snd hlt _ _) (by show D.fuse - 1 ≠ 1; omega)
  rw [hr]
  refine ⟨rfl, ?_⟩
  have e3 : (removes (actD (cuts (actD D) F c)) G).now = [⟨F, a.take c⟩] := by
    show without (cuts (actD D) F c).now G = _
    rw [e1, without_two hlt]
  have e4 : (removes (actD (cuts (actD D) F c)) G).safe = [⟨F, s.take c⟩] := by
    show without (cuts (actD D) F c).safe G = _
    rw [e2, without_one hlt]
  have hw2 : ∀ w ∈ (removes (actD (cuts (actD D) F c)) G).waits, w.name = F ∧ w.page < min c P := by
    intro w hx
    have hx : w ∈ dropW (dropW D.waits F c) G 0 := hx
    unfold dropW at hx
    obtain ⟨hx, h2⟩ := List.mem_filter.1 hx
    obtain ⟨hx, h3⟩ := List.mem_filter.1 hx
    simp only [decide_eq_true_eq] at h2 h3
    have hng : w.name ≠ G := by
      rcases h2 with h2 | h2
      · exact h2
      · omega
    rcases hw w hx with ⟨h4, h5⟩ | h4
    · rcases h3 with h3 | h3
      · exact absurd h4 h3
      · exact ⟨h4, by omega⟩
    · exact absurd h4 hng
  obtain ⟨q, q1, q2, q3⟩ := lose_one (D := removes (actD (cuts (actD D) F c)) G) (L := min c P) h e3 e4 hw2 (by rw [List.length_take]; omega) keep
  refine ⟨q, q1, by omega, by omega, fun hsp hwg => ?_⟩
  have hnil : (removes (actD (cuts (actD D) F c)) G).waits = [] := by
    apply List.eq_nil_iff_forall_not_mem.2
    intro w hx
    have h1 := (hw2 w hx).1
    have hx : w ∈ dropW (dropW D.waits F c) G 0 := hx
    unfold dropW at hx
    have h2 := hwg w (List.mem_filter.1 (List.mem_filter.1 hx).1).1
    exact lt_ne hlt (by rw [← h1, h2])
  rw [q3 hnil, List.length_take]
  omega
end

/-! ### A file that is renamed over another -/

/-- The file F is safe as it is; what waits is no write of its. -/
structure Ren (D : Dsk) (F T : List UInt8) (O cur : List (List UInt8)) : Prop where
  off : D.off = false
  f : getF D.now F = some ⟨F, O⟩
  t : pagesF D.now T = cur
  is : cur ≠ [] → (getF D.now T).isSome = true
  once : Once D.now
  count : count D.now = O.length + cur.length
  safe : getF D.safe F = some ⟨F, O⟩
  waits : ∀ w ∈ D.waits, w.name ≠ F
/-- The power is off, and the file F has these pages. -/
def Left (D : Dsk) (F : List UInt8) (O : List (List UInt8)) : Prop := D.off = true ∧ getF D.now F = some ⟨F, O⟩

theorem left_lose {D : Dsk} {F : List UInt8} {O : List (List UInt8)} (h : D.off = false) (hs : getF D.safe F = some ⟨F, O⟩) (hw : ∀ w ∈ D.waits, w.name ≠ F) (keep : Nat) : Cd.Left (lose D keep) F O := by
  refine ⟨lose_off _ _, ?_⟩
  rw [lose_now h]
  refine there_some _ _ _ _ ?_
  rw [keeps_other _ _ _ hw]
  exact hs

theorem Ren.write {D : Dsk} {F T : List UInt8} {O cur : List (List UInt8)} (h : Ren D F T O cur) (hne : F ≠ T) (hroom : O.length + cur.length < D.room) {b : List UInt8} (hb : b.length ≤ 512) :
    ((writeD D T (cur.length : Nat) b).2 = 0 ∧ Ren (writeD D T (cur.length : Nat) b).1 F T O (cur ++ [pad b]) ∧ (writeD D T (cur.length : Nat) b).1.room = D.room) ∨
      ((writeD D T (cur.length : Nat) b).2 = 8 ∧ Cd.Left (writeD D T (cur.length : Nat) b).1 F O) := by
  have hfree : freeD D ≠ 0 := by unfold freeD; rw [h.count]; omega
  have hw := write_end (n := T) h.off hb hfree
  have hwp := wrote_pages D T b
  have hwi := wrote_is D T b (pagesF D.now T).length
  have hwc := wrote_count h.once T b
  have hwo := wrote_once h.once T b (pagesF D.now T).length
  have hgf : getF (wrote D T (pagesF D.now T).length b).now F = some ⟨F, O⟩ := by
    show getF (putF D.now ⟨T, _⟩) F = _
    rw [getF_put, if_neg (by exact hne)]
    exact h.f
  rw [h.t] at hw hwp hwi hwc hwo hgf
  rw [hw]
  have hwt : ∀ w ∈ (wrote D T cur.length b).waits, w.name ≠ F := by
    intro w hx
    have hx : w ∈ D.waits ++ [⟨T, cur.length, pad b⟩] := hx
    rcases List.mem_append.1 hx with h1 | h1
    · exact h.waits w h1
    · rw [List.mem_singleton] at h1
      rw [h1]
      exact fun e => hne e.symm
  unfold ends
  by_cases hfu : D.fuse = 1
  · rw [if_pos hfu]
    exact .inr ⟨rfl, left_lose (D := wrote D T cur.length b) h.off h.safe hwt _⟩
  · rw [if_neg hfu]
    refine .inl ⟨rfl, ⟨h.off, hgf, by show pagesF (wrote D T cur.length b).now T = _; rw [hwp, if_pos rfl], fun _ => by show (getF (wrote D T cur.length b).now T).isSome = true; rw [hwi, if_pos rfl], hwo, ?_, h.safe, hwt⟩, rfl⟩
    show Cd.count (wrote D T cur.length b).now = _
    rw [hwc, h.count, List.length_append, List.length_singleton]
    omega

/-- The other file is safe, too. -/
structure RenS (D : Dsk) (F T : List UInt8) (O cur : List (List UInt8)) : Prop where
  ren : Ren D F T O cur
  is : (getF D.now T).isSome = true
  tsafe : pagesF D.safe T = cur
  twaits : ∀ w ∈ D.waits, w.name ≠ T

theorem Ren.sync {D : Dsk} {F T : List UInt8} {O cur : List (List UInt8)} (h : Ren D F T O cur) (hne : F ≠ T) (hc : cur ≠ []) :
    ((syncD D T).2 = 0 ∧ RenS (syncD D T).1 F T O cur) ∨ ((syncD D T).2 = 8 ∧ Cd.Left (syncD D T).1 F O) := by
  have his := h.is hc
  unfold syncD
  rw [may_ok h.off his]
  unfold ends
  by_cases hfu : D.fuse = 1
  · rw [if_pos hfu, if_neg (by simp)]
    exact .inr ⟨rfl, left_lose (D := actD D) h.off h.safe h.waits _⟩
  · rw [if_neg hfu, if_pos rfl]
    have hdw : ∀ w ∈ (syncs (actD D) T).waits, w ∈ D.waits ∧ w.name ≠ T := by
      intro w hx
      have hx : w ∈ dropW D.waits T 0 := hx
      unfold dropW at hx
      obtain ⟨h1, h2⟩ := List.mem_filter.1 hx
      simp only [decide_eq_true_eq] at h2
      refine ⟨h1, ?_⟩
      rcases h2 with h2 | h2
      · exact h2
      · omega
    refine .inl ⟨rfl, ⟨⟨h.off, h.f, h.t, h.is, h.once, h.count, ?_, fun w hx => h.waits w (hdw w hx).1⟩, his, ?_, fun w hx => (hdw w hx).2⟩⟩
    · show getF (putF D.safe ⟨T, _⟩) F = _
      rw [getF_put, if_neg (by exact hne)]
      exact h.safe
    · show pagesF (putF D.safe ⟨T, pagesF D.now T⟩) T = _
      rw [pagesF_put, if_pos rfl]
      exact h.t

theorem RenS.rename {D : Dsk} {F T : List UInt8} {O cur : List (List UInt8)} (h : RenS D F T O cur) (hne : F ≠ T) (keep : Nat) :
    ((renameD D T F).2 = 0 ∧ Cd.Left (lose (renameD D T F).1 keep) F cur) ∨ ((renameD D T F).2 = 8 ∧ Cd.Left (renameD D T F).1 F O) := by
  unfold renameD
  rw [may_ok h.ren.off h.is]
  unfold ends
  by_cases hfu : D.fuse = 1
  · rw [if_pos hfu, if_neg (by simp)]
    exact .inr ⟨rfl, left_lose (D := actD D) h.ren.off h.ren.safe h.ren.waits _⟩
  · rw [if_neg hfu, if_pos ⟨rfl, fun e => hne e.symm⟩]
    refine .inl ⟨rfl, left_lose (D := renames (actD D) T F) h.ren.off ?_ ?_ _⟩
    · show getF (putF (without D.safe T) ⟨F, pagesF D.safe T⟩) F = _
      rw [getF_put, if_pos rfl, h.tsafe]
    · intro w hx
      have hx : w ∈ (dropW D.waits F 0).map (fun w => if w.name = T then ⟨F, w.page, w.data⟩ else w) := hx
      obtain ⟨v, hv, rfl⟩ := List.mem_map.1 hx
      unfold dropW at hv
      have hv := (List.mem_filter.1 hv).1
      have h1 := h.ren.waits v hv
      have h2 := h.twaits v hv
      show (if v.name = T then _ else v : Wrt).name ≠ F
      rw [if_neg h2]
      exact h1

end Go.Proofs.Ytpeodhgmflgbgaa.Cd
