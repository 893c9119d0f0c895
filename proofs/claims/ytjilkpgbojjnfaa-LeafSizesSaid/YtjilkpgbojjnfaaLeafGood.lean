/-
  leaf's head, Good: what they answer. Conditions: none.
-/
import Derived.Test.YtjilkpgbojjnfaaNode
import Derived.Test.YtjilkpgbojjnfaaReads
namespace Go.Proofs.Ytjilkpgbojjnfaa.Cd
open Go.RowKit

/-- Block g is a node that was boxed. -/
def Bx (w : World) (g : Nat) (b : Bool) (vk vv vi : Value) : Prop := w.heap[g]? = some (.cells #[.bool b, vk, vv, vi] 25 (0, 0))

section
variable {w w' : World} {g : Nat} {b : Bool} {vk vv vi : Value}
theorem Bx.cell0 (h : Bx w g b vk vv vi) : w.cell? ⟨g, 0, none⟩ = some (.bool b) := cell_of_row w g 0 _ _ (0, 0) h
theorem Bx.cell1 (h : Bx w g b vk vv vi) : w.cell? ⟨g, 1, none⟩ = some vk := cell_of_row w g 1 _ _ (0, 0) h
theorem Bx.cell2 (h : Bx w g b vk vv vi) : w.cell? ⟨g, 2, none⟩ = some vv := cell_of_row w g 2 _ _ (0, 0) h
theorem Bx.cell3 (h : Bx w g b vk vv vi) : w.cell? ⟨g, 3, none⟩ = some vi := cell_of_row w g 3 _ _ (0, 0) h
theorem Bx.lt (h : Bx w g b vk vv vi) : g < w.heap.size := (Array.getElem?_eq_some_iff.1 h).1
theorem Bx.below {B : Nat} (h : Bx w g b vk vv vi) (hb : Below B w w') (hg : g < B) : Bx w' g b vk vv vi := (hb.block g hg).trans h
theorem Bx.drew (h : Bx w g b vk vv vi) : Bx w.drew g b vk vv vi := h
theorem Bx.on (h : Bx w g b vk vv vi) (hb : Below w.heap.size w w') : Bx w' g b vk vv vi := h.below hb h.lt
end

theorem Node.over {w w' : World} {v : Value} {n : Nd} (h : Node w w.heap.size v n) (hb : Below w.heap.size w w') : Node w' w'.heap.size v n := h.on hb hb.size
theorem Strs.on {w w' : World} {v : Value} {l : List (List UInt8)} (h : Strs w w.heap.size v l) (hb : Below w.heap.size w w') : Strs w' w'.heap.size v l := (h.below hb).more hb.size
theorem Flat.on {α : Type} {f : α → Value} {w w' : World} {v : Value} {l : List α} (h : Flat f w w.heap.size v l) (hb : Below w.heap.size w w') : Flat f w' w'.heap.size v l := (h.below hb).more hb.size

theorem rise_is (v : Value) (l : List (List UInt8)) (b : Bool) (hb : rise l = b) (w : World) (h : Strs w w.heap.size v l) :
    Calls Try.prog 21 #[v] w (Gives (.bool b) w) := hb ▸ rise_any v l w h
theorem fit_is (v : Value) (l : List (List UInt8)) (m : Nat) (b : Bool) (hb : fit m l = b) (w : World) (h : Strs w w.heap.size v l) (hm : m ≤ 1000) :
    Calls Try.prog 22 #[v, .int .i64 m] w (Still (.bool b) w) := hb ▸ fit_any v l m w h hm
theorem pages_is (v : Value) (l : List Int) (b : Bool) (hb : pages l = b) (w : World) (h : Flat vint w w.heap.size v l) :
    Calls Try.prog 23 #[v] w (Still (.bool b) w) := hb ▸ pages_any v l w h

theorem new_below (w : World) (o : Obj) : Below w.heap.size w (w.alloc o) := (Below.refl _ _).alloc (Nat.le_refl _) _

/-- head. -/
theorem head_any (v : Value) (n : Nd) (w : World) (h : Node w w.heap.size v n) (hl : n.keys.length ≤ 1000000) :
    Calls Try.prog 19 #[v] w (Gives (.int .u64 (head n : Nat)) w) := by
  obtain ⟨b, ks, vs, is⟩ := n
  obtain ⟨vk, vv, vi, rfl, h1, h2, h3⟩ := h
  obtain ⟨A, c, rfl, k2, k3⟩ := h1.len
  have hd : Hid (head ⟨b, ks, vs, is⟩ = 2 * ks.length + (if b then 1 else 0)) := rfl
  simp only at hl
  clear h1 h2 h3
  cases b
  all_goals
    go_enter Try.func19, Try.ntmps19
    go_wp2
    go_ret
    rw [hd.out]
    exact ⟨by simp; omega, new_below _ _⟩

theorem good_0 {n : Nd} (h : rise n.keys = false) : good n = false := by unfold good; rw [h]; simp
theorem good_1 {n : Nd} (h : fit 48 n.keys = false) : good n = false := by unfold good; rw [h]; simp
theorem good_2 {n : Nd} (h : rise n.keys = true) (h2 : fit 48 n.keys = true) : good n = goodR n := by unfold good; rw [h, h2]; simp

theorem dec_beq (a b : Nat) : decide (a = b) = ((a : Int) == (b : Int)) := by
  by_cases h : a = b
  · subst h; simp
  · rw [decide_eq_false h]
    symm
    simp only [beq_eq_false_iff_ne, ne_eq]
    omega
theorem two_ways (a b : Bool) : (a = false ∧ ∀ c : Bool, (a && b && c) = false) ∨ (a = true ∧ b = false ∧ ∀ c : Bool, (a && b && c) = false) ∨ (a = true ∧ b = true ∧ ∀ c : Bool, (a && b && c) = c) := by
  cases a <;> cases b <;> simp

set_option maxRecDepth 100000 in
set_option maxHeartbeats 800000 in
theorem lgood_any (v : Value) (n : Nd) (w : World) (h : Node w w.heap.size v n) (hl : n.keys.length ≤ 1000000) :
    Calls Try.prog 12 #[v] w (Gives (.bool (good n)) w) := by
  obtain ⟨b, ks, vs, is⟩ := n
  obtain ⟨vk, vv, vi, rfl, h1, h2, h3⟩ := h
  obtain ⟨A, c, rfl, k2, k3⟩ := h1.len
  obtain ⟨A2, c2, rfl, l2, l3⟩ := h2.len
  obtain ⟨A3, c3, rfl, m2, m3⟩ := h3.len
  have hl : ks.length ≤ 1000000 := hl
  have H1 := Lib.hid h1
  have H2 := Lib.hid h2
  have H3 := Lib.hid h3
  clear h1 h2 h3
  have hnb := fun o => new_below w o
  cases hr : rise ks
  · have hG : Hid (good ⟨b, ks, vs, is⟩ = false) := good_0 hr
    go_enter Try.func12, Try.ntmps12
    go_wp2_with (go_at_call 21; refine (rise_is _ ks _ hr _ (H1.out.on (hnb _))).mono ?_; rintro e w1 ⟨rfl, hb1⟩)
    go_ret
    rw [hG.out]
    exact ⟨rfl, (hnb _).trans (hb1.mono (by simp))⟩
  cases hf : fit 48 ks
  · have hG : Hid (good ⟨b, ks, vs, is⟩ = false) := good_1 hf
    go_enter Try.func12, Try.ntmps12
    go_wp2_with (first
      | (go_at_call 21; refine (rise_is _ ks _ hr _ (H1.out.on (hnb _))).mono ?_; rintro e w1 ⟨rfl, hb1⟩; have hx : Bx w1 _ _ _ _ _ := Bx.on (heap_alloc_new w _) hb1; have hc1 := hx.cell1; have HW := Lib.hid ((hnb _).trans (hb1.mono (by simp))))
      | (go_at_call 22; refine (fit_is _ ks 48 _ hf _ (H1.out.on HW.out) (by omega)).mono ?_; rintro e w2 ⟨rfl, rfl⟩))
    go_ret
    rw [hG.out]
    exact ⟨rfl, HW.out⟩
  have hG0 : Hid (good ⟨b, ks, vs, is⟩ = goodR ⟨b, ks, vs, is⟩) := good_2 hr hf
  cases b
  · have hgr : Hid (goodR ⟨false, ks, vs, is⟩ = ((is.length : Int) == (ks.length : Int) + 1 && pages is && (vs.length : Int) == 0)) := by
      unfold Hid goodR
      simp only [Bool.false_eq_true, if_false]
      rw [dec_beq, dec_beq]
      rfl
    rcases two_ways ((is.length : Int) == (ks.length : Int) + 1) (pages is) with ⟨hq, ho⟩ | ⟨hq, hp, ho⟩ | ⟨hq, hp, ho⟩
    all_goals
      have HO := Lib.hid ho
      clear ho
      go_enter Try.func12, Try.ntmps12
      go_wp2_with (first
        | (go_at_call 21; refine (rise_is _ ks _ hr _ (H1.out.on (hnb _))).mono ?_; rintro e w1 ⟨rfl, hb1⟩; have hx : Bx w1 _ _ _ _ _ := Bx.on (heap_alloc_new w _) hb1; have hc0 := hx.cell0; have hc1 := hx.cell1; have hc2 := hx.cell2; have hc3 := hx.cell3; clear hx; have HW := Lib.hid ((hnb _).trans (hb1.mono (by simp))))
        | (go_at_call 22; refine (fit_is _ ks 48 _ hf _ (H1.out.on HW.out) (by omega)).mono ?_; rintro e w2 ⟨rfl, rfl⟩)
        | (go_at_call 23; refine (pages_is _ is _ hp _ (H3.out.on HW.out)).mono ?_; rintro e w2 ⟨rfl, rfl⟩))
      go_ret
      rw [hG0.out, hgr.out, HO.out]
      exact ⟨rfl, HW.out⟩
  · have hgr : Hid (goodR ⟨true, ks, vs, is⟩ = ((vs.length : Int) == (ks.length : Int) && fit 160 vs && (is.length : Int) == 0)) := by
      unfold Hid goodR
      simp only [if_true]
      rw [dec_beq, dec_beq]
      rfl
    rcases two_ways ((vs.length : Int) == (ks.length : Int)) (fit 160 vs) with ⟨hq, ho⟩ | ⟨hq, hp, ho⟩ | ⟨hq, hp, ho⟩
    all_goals
      have HO := Lib.hid ho
      clear ho
      go_enter Try.func12, Try.ntmps12
      go_wp2_with (first
        | (go_at_call 21; refine (rise_is _ ks _ hr _ (H1.out.on (hnb _))).mono ?_; rintro e w1 ⟨rfl, hb1⟩; have hx : Bx w1 _ _ _ _ _ := Bx.on (heap_alloc_new w _) hb1; have hc0 := hx.cell0; have hc1 := hx.cell1; have hc2 := hx.cell2; have hc3 := hx.cell3; clear hx; have HW := Lib.hid ((hnb _).trans (hb1.mono (by simp))))
        | (go_at_call 22; refine (fit_is _ ks 48 _ hf _ (H1.out.on HW.out) (by omega)).mono ?_; rintro e w2 ⟨rfl, rfl⟩; clear hf)
        | (go_at_call 22; refine (fit_is _ vs 160 _ hp _ (H2.out.on HW.out) (by omega)).mono ?_; rintro e w2 ⟨rfl, rfl⟩))
      go_ret
      rw [hG0.out, hgr.out, HO.out]
      exact ⟨rfl, HW.out⟩

end Go.Proofs.Ytjilkpgbojjnfaa.Cd
