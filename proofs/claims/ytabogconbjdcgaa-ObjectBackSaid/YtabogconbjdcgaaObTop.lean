/-
  object.GoodTree, object.GoodCommit. Conditions: none.
-/
import Derived.Test.YtabogconbjdcgaaObPars
namespace Go.Proofs.Ytabogconbjdcgaa.Cd
open Go.RowKit

/-- A tree by value. -/
def TreIn (w : World) (B : Nat) (v : Value) (t : Tre) : Prop := ∃ vp vk, v = .agg #[vp, vk] ∧ PsIn w B vp t.ps ∧ KsIn w B vk t.ks
/-- A commit's cells, its parents' slice given. -/
def cmC (c : Cmt) (vi : Value) : List Value := vb c.root.1 ++ [vi, .string ⟨c.note.toArray⟩, .int .i64 c.num]
/-- A commit by value. -/
def CmtIn (w : World) (B : Nat) (v : Value) (c : Cmt) : Prop := ∃ vi, v = .agg (cmC c vi).toArray ∧ IsIn w B vi c.is
theorem cmC_len (c : Cmt) (vi : Value) : (cmC c vi).length = 36 := by simp [cmC, vb_length, c.root.2]
theorem cmC_33 (c : Cmt) (vi : Value) : (cmC c vi)[33]? = some vi := by
  unfold cmC
  rw [List.getElem?_append_right (by rw [vb_length, c.root.2]; omega), vb_length, c.root.2]
  rfl
theorem cmC_34 (c : Cmt) (vi : Value) : (cmC c vi)[34]? = some (.string ⟨c.note.toArray⟩) := by
  unfold cmC
  rw [List.getElem?_append_right (by rw [vb_length, c.root.2]; omega), vb_length, c.root.2]
  rfl
theorem cmC_35 (c : Cmt) (vi : Value) : (cmC c vi)[35]? = some (.int .i64 c.num) := by
  unfold cmC
  rw [List.getElem?_append_right (by rw [vb_length, c.root.2]; omega), vb_length, c.root.2]
  rfl
theorem cmC_id (c : Cmt) (vi : Value) (j : Nat) (v : Value) (h : (vb c.root.1)[j]? = some v) : (cmC c vi)[j]? = some v := by
  have hj := (List.getElem?_eq_some_iff.1 h).1
  unfold cmC
  rw [List.getElem?_append_left hj]
  exact h
theorem cmC_one (c : Cmt) (vi : Value) (hv : vi.oneCell' = true) : ∀ u ∈ cmC c vi, u.oneCell' = true := by
  intro u hu
  unfold cmC at hu
  rw [List.mem_append] at hu
  rcases hu with hu | hu
  · exact vb_one _ u hu
  · simp only [List.mem_cons, List.not_mem_nil, or_false] at hu
    rcases hu with rfl | rfl | rfl
    · exact hv
    · rfl
    · rfl

/-- Block g is a commit. -/
def ComAt (w : World) (g : Nat) (c : Cmt) (vi : Value) : Prop := w.heap[g]? = some (.cells (cmC c vi).toArray 44)
section
variable {w w' : World} {g B : Nat} {c : Cmt} {vi : Value}
theorem ComAt.lt (h : ComAt w g c vi) : g < w.heap.size := (Array.getElem?_eq_some_iff.1 h).1
theorem ComAt.below (h : ComAt w g c vi) (hb : Below B w w') (hB : g < B) : ComAt w' g c vi := (hb.block g hB).trans h
theorem ComAt.id (h : ComAt w g c vi) : w.rangeAt g 0 (vb c.root.1) := fun j v hv => by
  rw [cell_of_row _ _ _ _ _ _ h, List.getElem?_toArray, Nat.zero_add]
  exact cmC_id c vi j v hv
theorem ComAt.kind (h : ComAt w g c vi) : w.cell? ⟨g, 0, none⟩ = some (.int .u8 (kd c.root).toNat) := h.id 0 _ (vb_kd c.root)
theorem ComAt.is (h : ComAt w g c vi) : w.cell? ⟨g, 33, none⟩ = some vi := (cell_of_row _ _ _ _ _ _ h).trans (by rw [List.getElem?_toArray]; exact cmC_33 c vi)
theorem ComAt.note (h : ComAt w g c vi) : w.cell? ⟨g, 34, none⟩ = some (.string ⟨c.note.toArray⟩) := (cell_of_row _ _ _ _ _ _ h).trans (by rw [List.getElem?_toArray]; exact cmC_34 c vi)
theorem ComAt.num (h : ComAt w g c vi) : w.cell? ⟨g, 35, none⟩ = some (.int .i64 c.num) := (cell_of_row _ _ _ _ _ _ h).trans (by rw [List.getElem?_toArray]; exact cmC_35 c vi)
end
theorem ComAt.new (w : World) (c : Cmt) (vi : Value) : ComAt (w.alloc (.cells (cmC c vi).toArray 44)) w.heap.size c vi := heap_alloc_new _ _

set_option maxRecDepth 100000 in
set_option maxHeartbeats 1600000 in
theorem goodt_any (v : Value) (t : Tre) (w : World) (h : TreIn w w.heap.size v t) : Calls Try.prog 12 #[v] w (Says (GoodT t) w) := by
  obtain ⟨ps, ks⟩ := t
  obtain ⟨vp, vk, rfl, h1, h2⟩ := h
  have h1 : PsIn w w.heap.size vp ps := h1
  have h2 : KsIn w w.heap.size vk ks := h2
  obtain ⟨A1, c1, e1, k1, l1⟩ := h1.len
  obtain ⟨A2, c2, e2, k2, l2⟩ := h2.len
  have hb1 : Below w.heap.size w (w.alloc (.cells #[vp, vk] 25)) := new_below _ _
  have hz1 : (w.alloc (.cells #[vp, vk] 25)).heap.size = w.heap.size + 1 := asz _ _
  have H1 : Hid (PsIn (w.alloc (.cells #[vp, vk] 25)) (w.alloc (.cells #[vp, vk] 25)).heap.size vp ps) := h1.on hb1
  have H2 : Hid (KsIn (w.alloc (.cells #[vp, vk] 25)) (w.alloc (.cells #[vp, vk] 25)).heap.size vk ks) := h2.on hb1
  have HB1 := Lib.hid hb1
  have HZ1 := Lib.hid hz1
  clear h1 h2 hb1 hz1
  subst e1 e2
  by_cases hk : ks.length = 0
  · have hks : ks = [] := List.eq_nil_of_length_eq_zero hk
    subst hks
    have hiff : Hid (GoodPs ps ↔ GoodT ⟨ps, []⟩) := ⟨fun h => .inl ⟨rfl, h⟩, fun h => h.elim (fun h => h.2) (fun h => absurd rfl (goodKs_ne h.2))⟩
    go_enter Try.func12, Try.ntmps12
    go_wp2_with fail
    refine (goodps_any _ ps _ H1.out).mono ?_
    rintro e w2 ⟨s, rfl, hs, hb2⟩
    have HB2 := Lib.hid (HB1.out.trans (hb2.mono (by have := HZ1.out; omega)))
    have HS := Lib.hid hs
    clear hs hb2
    go_wp2_with fail
    go_ret
    exact ⟨s, rfl, HS.out.trans hiff.out, HB2.out⟩
  · have hkq : ((ks.length : Int) == 0) = false := by rw [beq_eq_false_iff_ne]; omega
    have hkne : Hid (ks ≠ []) := fun e => hk (by rw [e]; rfl)
    by_cases hp : ps.length = 0
    · have hps : ps = [] := List.eq_nil_of_length_eq_zero hp
      subst hps
      have hiff : Hid (GoodKs ks ↔ GoodT ⟨[], ks⟩) := ⟨fun h => .inr ⟨rfl, h⟩, fun h => h.elim (fun h => absurd h.1 hkne.out) (fun h => h.2)⟩
      clear hk hp
      go_enter Try.func12, Try.ntmps12
      go_wp2_with fail
      refine (goodks_any _ ks _ H2.out).mono ?_
      rintro e w2 ⟨s, rfl, hs, hb2⟩
      have HB2 := Lib.hid (HB1.out.trans (hb2.mono (by have := HZ1.out; omega)))
      clear hb2
      cases s
      · have hno : Hid (¬ GoodT ⟨[], ks⟩) := fun h => by have := (hs.trans hiff.out).2 h; cases this
        clear hs
        go_wp2_with fail
        go_ret
        exact ⟨false, rfl, ⟨(fun h => by cases h), fun h => absurd h hno.out⟩, HB2.out⟩
      · have hyes : Hid (GoodT ⟨[], ks⟩) := (hs.trans hiff.out).1 rfl
        clear hs
        go_wp2_with fail
        go_ret
        exact ⟨true, rfl, ⟨fun _ => hyes.out, fun _ => rfl⟩, HB2.out⟩
    · have hpq : ((ps.length : Int) == 0) = false := by rw [beq_eq_false_iff_ne]; omega
      have hno : Hid (¬ GoodT ⟨ps, ks⟩) := fun h => h.elim (fun h => hkne.out h.1) (fun h => hp (by have e : ps = [] := h.1; rw [e]; rfl))
      clear hk hp
      go_enter Try.func12, Try.ntmps12
      go_wp2_with fail
      go_ret
      exact ⟨false, rfl, ⟨(fun h => by cases h), fun h => absurd h hno.out⟩, HB1.out⟩

set_option maxRecDepth 100000 in
set_option maxHeartbeats 1600000 in
theorem goodc_any (v : Value) (c : Cmt) (w : World) (h : CmtIn w w.heap.size v c) : Calls Try.prog 20 #[v] w (Says (GoodC c) w) := by
  obtain ⟨vi, rfl, hi⟩ := h
  have hb1 : Below w.heap.size w (w.alloc (.cells (cmC c vi).toArray 44)) := new_below _ _
  have hz1 : (w.alloc (.cells (cmC c vi).toArray 44)).heap.size = w.heap.size + 1 := asz _ _
  have HC : Hid (ComAt (w.alloc (.cells (cmC c vi).toArray 44)) w.heap.size c vi) := ComAt.new _ _ _
  have HI : Hid (IsIn (w.alloc (.cells (cmC c vi).toArray 44)) (w.alloc (.cells (cmC c vi).toArray 44)).heap.size vi c.is) := hi.on hb1
  have HB1 := Lib.hid hb1
  have hr33 : Hid (c.root.1.length = 33) := c.root.2
  go_enter Try.func20, Try.ntmps20
  go_wp2_with (first
    | (refine wp_box_row rfl _ rfl rfl ?_)
    | (refine wpList_load_mid rfl 41 _ rfl w.heap.size 0 rfl (vb c.root.1) _ HC.out.id Try.underlying41 rfl (cells_ii c.root) ?_))
  clear hb1 hi
  generalize w.alloc (.cells (cmC c vi).toArray 44) = W1 at *
  have hgood := good_l c.root.1 W1 hr33.out
  cases hg : goodI c.root.1
  · have hno : Hid (¬ GoodC c) := fun h => by have := h.root; rw [hg] at this; cases this
    rw [hg] at hgood
    clear hg
    refine hgood.mono ?_
    rintro e w2 ⟨rfl, hb2⟩
    have HB2 := Lib.hid (HB1.out.trans (hb2.mono (by omega)))
    clear hb2
    go_wp2_with fail
    go_ret
    exact ⟨false, rfl, ⟨(fun h => by cases h), fun h => absurd h hno.out⟩, HB2.out⟩
  rw [hg] at hgood
  have HG := Lib.hid hg
  clear hg
  refine hgood.mono ?_
  rintro e w2 ⟨rfl, hb2⟩
  have HB2 := Lib.hid (HB1.out.trans (hb2.mono (by omega)))
  have HC2 := Lib.hid (HC.out.below hb2 (by omega))
  have HI2 : Hid (IsIn w2 w2.heap.size vi c.is) := HI.out.on hb2
  have hs2 := hb2.size
  clear hb2
  have d33 := HC2.out.is
  have d0 := HC2.out.kind
  go_wp2_with fail
  refine (goodis_any vi c.is (kd c.root) w2 HI2.out).mono ?_
  rintro e w3 ⟨s, rfl, hs, hb3⟩
  have HB3 := Lib.hid (HB2.out.trans (hb3.mono (by omega)))
  have HC3 := Lib.hid (HC2.out.below hb3 (by omega))
  clear hb3 d33 d0
  cases s
  · have hno : Hid (¬ GoodC c) := fun h => by have := hs.2 h.is; cases this
    clear hs
    go_wp2_with fail
    go_ret
    exact ⟨false, rfl, ⟨(fun h => by cases h), fun h => absurd h hno.out⟩, HB3.out⟩
  have HIS := Lib.hid (hs.1 rfl)
  clear hs
  have d34 := HC3.out.note
  have d35 := HC3.out.num
  have hzn : (ByteArray.mk c.note.toArray).size = c.note.length := rfl
  by_cases hn : c.note.length ≤ 32
  · have hn1 : decide ((c.note.length : Int) ≤ 32) = true := decide_eq_true (by omega)
    by_cases h0 : 1 ≤ c.num
    · have h01 : decide (1 ≤ c.num) = true := decide_eq_true h0
      by_cases h1 : c.num ≤ 1024
      · have h11 : decide (c.num ≤ 1024) = true := decide_eq_true h1
        have hyes : Hid (GoodC c) := ⟨HG.out, HIS.out, hn, h0, h1⟩
        clear hn h0 h1
        go_wp2_with fail
        go_ret
        exact ⟨true, rfl, ⟨fun _ => hyes.out, fun _ => rfl⟩, HB3.out⟩
      · have h11 : decide (c.num ≤ 1024) = false := decide_eq_false h1
        have hno : Hid (¬ GoodC c) := fun h => h1 h.high
        clear hn h0 h1
        go_wp2_with fail
        go_ret
        exact ⟨false, rfl, ⟨(fun h => by cases h), fun h => absurd h hno.out⟩, HB3.out⟩
    · have h01 : decide (1 ≤ c.num) = false := decide_eq_false h0
      have hno : Hid (¬ GoodC c) := fun h => h0 h.low
      clear hn h0
      go_wp2_with fail
      go_ret
      exact ⟨false, rfl, ⟨(fun h => by cases h), fun h => absurd h hno.out⟩, HB3.out⟩
  · have hn1 : decide ((c.note.length : Int) ≤ 32) = false := decide_eq_false (by omega)
    have hno : Hid (¬ GoodC c) := fun h => hn h.note
    clear hn
    go_wp2_with fail
    go_ret
    exact ⟨false, rfl, ⟨(fun h => by cases h), fun h => absurd h hno.out⟩, HB3.out⟩

end Go.Proofs.Ytabogconbjdcgaa.Cd
