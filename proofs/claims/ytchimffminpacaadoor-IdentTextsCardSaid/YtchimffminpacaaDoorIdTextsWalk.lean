/-
  IdentTexts answers true. Conditions: none.
-/
import Derived.Test.YtchimffminpacaaDoorIdBackWalk
namespace Go.Proofs.YtchimffminpacaaDoor.Cd
open Go.RowKit

theorem text_of_good (l : List UInt8) : (goodI l = true ∧ ∃ a r, textI l = a :: r) ∨ (goodI l = false ∧ textI l = []) := by
  cases l with
  | nil => exact .inr ⟨rfl, rfl⟩
  | cons k s =>
    cases h : goodI (k :: s) with
    | true => exact .inl ⟨rfl, k, s.take (sizeI k), by rw [textI_cons, h]; rfl⟩
    | false => exact .inr ⟨rfl, by rw [textI_cons, h]; rfl⟩

set_option maxRecDepth 100000 in
set_option maxHeartbeats 1600000 in
theorem texts_nil (l : List UInt8)  (w : World) (hl : l.length = 33)  :
    Calls Tryd.prog 4 #[idV l, .string ⟨(([] : List UInt8)).toArray⟩] w (Gives (.bool true) w) := by
  have hparse := fun W => parse_nil W
  have hLL : (zer 33).length = 33 := zer_length _
  have hi0 := IdAt.new w l
  have hb0 : Below w.heap.size w (w.alloc (.cells (vb l).toArray 26)) := (Below.refl _ _).alloc (Nat.le_refl _) _
  have hs0 : (w.alloc (.cells (vb l).toArray 26)).heap.size = w.heap.size + 1 := asz _ _
  have HL := Lib.hid hl
  have htx : ∀ W, Calls Tryd.prog 16 #[idV l] W (Gives (.string ⟨(textI l).toArray⟩) W) := fun W => text_l l W hl
  have hgd : ∀ W, Calls Tryd.prog 17 #[idV l] W (Gives (.bool (goodI l)) W) := fun W => good_l l W hl
  have hnm : ∀ W, Calls Tryd.prog 15 #[idV l] W (Gives (.string ⟨(textI l).toArray⟩) W) := fun W => name_l l W hl
  have htg := text_of_good l
  generalize textI l = t at htx hnm htg
  generalize goodI l = g at hgd htg
  have HTX := Lib.hid htx
  have HGD := Lib.hid hgd
  have HNM := Lib.hid hnm
  have HTG := Lib.hid htg
  have HP : Hid (∀ W, Calls Tryd.prog 13 #[.string ⟨(([] : List UInt8)).toArray⟩] W (Gives (.tuple #[idV (zer 33), .bool false]) W)) := hparse
  have HLL : Hid ((zer 33).length = 33) := hLL
  clear htx hgd hnm htg hparse hLL
  obtain ⟨L, hL⟩ : ∃ L, zer 33 = L := ⟨_, rfl⟩
  rw [hL] at HP HLL
  have HLE := Lib.hid hL
  clear hL
  go_enter Tryd.func4, Tryd.ntmps4
  go_wp2_with (refine wp_box_row rfl _ rfl rfl ?_)
  refine (ialive_any _).mono ?_
  rintro e w1 ⟨rfl, hb1⟩
  have hs1 : w.heap.size + 1 ≤ w1.heap.size := by have := hb1.size; omega
  have HI1 := Lib.hid (hi0.below hb1 (by omega))
  have HB1 := Lib.hid (hb0.trans (hb1.mono (by omega)))
  clear hi0 hb0 hs0 hb1
  go_wp2_with fail
  refine (HP.out _).mono ?_
  rintro e w2 ⟨rfl, hb2⟩
  have hs2 : w.heap.size + 1 ≤ w2.heap.size := by have := hb2.size; omega
  have hi3 : IdAt (w2.alloc (.cells (vb L).toArray 26)) w.heap.size l := (HI1.out.below hb2 (by omega)).below ((Below.refl _ _).alloc (Nat.le_refl _) _) (by omega)
  have hx3 := IdAt.new w2 L
  have hb3 := (HB1.out.trans (hb2.mono (by omega))).alloc (by omega) (.cells (vb L).toArray 26)
  have hs3 : (w2.alloc (.cells (vb L).toArray 26)).heap.size = w2.heap.size + 1 := asz _ _
  clear hb2 HI1 HB1
  try dsimp only
  iterate 18 (try first | go_values | go_skip | go_guarded | (refine op_alloc_id rfl ?_; try simp only [Act.put, List.setIfInBounds_toArray, List.set_cons_zero, List.set_cons_succ]) | (refine op_fill_id _ _ rfl rfl rfl L HLL.out rfl ?_; try simp only [Act.put, List.setIfInBounds_toArray, List.set_cons_zero, List.set_cons_succ]) | go_step | go_upon)
  generalize w2.alloc (.cells (vb L).toArray 26) = w3 at hi3 hx3 hb3 hs3 ⊢
  have hi4 : IdAt (w3.alloc (.cells (vb (zer 33)).toArray 26)) w.heap.size l := hi3.below ((Below.refl _ _).alloc (Nat.le_refl _) _) (by omega)
  have hx4 : IdAt (w3.alloc (.cells (vb (zer 33)).toArray 26)) w2.heap.size L := hx3.below ((Below.refl _ _).alloc (Nat.le_refl _) _) (by omega)
  have hy4 := IdAt.new w3 (zer 33)
  have hb4 := hb3.alloc (by omega) (.cells (vb (zer 33)).toArray 26)
  have hs4 : (w3.alloc (.cells (vb (zer 33)).toArray 26)).heap.size = w3.heap.size + 1 := asz _ _
  have hs3' : w2.heap.size + 1 ≤ w3.heap.size := by omega
  have HI4 := Lib.hid hi4
  have HX4 := Lib.hid hx4
  have HY4 : Hid (IdAt (w3.alloc (.cells (vb (zer 33)).toArray 26)) w3.heap.size L) := by exact HLE.out ▸ hy4
  have HB4 := Lib.hid hb4
  have HS4 := Lib.hid hs4
  clear hi3 hx3 hb3 hs3 hi4 hx4 hy4 hb4 hs4
  repeat (first | go_values | go_skip | go_guarded | (refine op_alloc_id rfl ?_; try simp only [Act.put, List.setIfInBounds_toArray, List.set_cons_zero, List.set_cons_succ]) | (refine op_zero_id rfl ?_; try simp only [Act.put, List.setIfInBounds_toArray, List.set_cons_zero, List.set_cons_succ]) | (refine op_fill_id _ _ rfl rfl rfl (zer 33) (zer_length _) rfl ?_; try simp only [Act.put, List.setIfInBounds_toArray, List.set_cons_zero, List.set_cons_succ]) | (refine op_load_id _ rfl w.heap.size rfl l HL.out HI4.out ?_; try simp only [Act.put, List.setIfInBounds_toArray, List.set_cons_zero, List.set_cons_succ]) | go_step | go_upon)
  have hszw : w.heap.size + 1 ≤ (w3.alloc (.cells (vb (zer 33)).toArray 26)).heap.size ∧ w2.heap.size + 1 ≤ (w3.alloc (.cells (vb (zer 33)).toArray 26)).heap.size ∧ w3.heap.size + 1 ≤ (w3.alloc (.cells (vb (zer 33)).toArray 26)).heap.size := by have := HS4.out; omega
  refine (HNM.out _).mono ?_
  rintro e w7 ⟨rfl, hb7⟩
  have hs7 := hb7.size
  have HI7 := Lib.hid (HI4.out.below hb7 (by omega))
  have HX7 := Lib.hid (HX4.out.below hb7 (by omega))
  have HY7 := Lib.hid (HY4.out.below hb7 (by omega))
  have HB7 := Lib.hid (HB4.out.trans (hb7.mono (by omega)))
  clear hb7
  have hLLt : (L == L) = true := by simp
  have HLLt := Lib.hid hLLt
  clear hLLt
  try dsimp only
  repeat (first
    | go_values | go_skip | go_guarded
    | (refine op_load_id _ rfl w2.heap.size rfl L HLL.out HX7.out ?_; try simp only [Act.put, List.setIfInBounds_toArray, List.set_cons_zero, List.set_cons_succ])
    | (refine op_load_id _ rfl w3.heap.size rfl L HLL.out HY7.out ?_; try simp only [Act.put, List.setIfInBounds_toArray, List.set_cons_zero, List.set_cons_succ])
    | (refine op_load_id _ rfl w.heap.size rfl l HL.out HI7.out ?_; try simp only [Act.put, List.setIfInBounds_toArray, List.set_cons_zero, List.set_cons_succ])
    | (refine op_eql_id _ _ _ rfl L L HLL.out HLL.out rfl rfl ?_; rw [HLLt.out]; try simp only [Act.put, List.setIfInBounds_toArray, List.set_cons_zero, List.set_cons_succ])
    | go_step | go_upon)
  refine (HTX.out _).mono ?_
  rintro e w8 ⟨rfl, hb8⟩
  have hs8 := hb8.size
  have HI8 := Lib.hid (HI7.out.below hb8 (by omega))
  have HB8 := Lib.hid (HB7.out.trans (hb8.mono (by omega)))
  clear hb8
  have hq : (t == t) = true := by simp
  try dsimp only
  rcases HTG.out with ⟨e1, a9, r9, e2⟩ | ⟨e1, e2⟩
  · subst e1 e2
    repeat (first
      | go_values | go_skip | go_guarded
      | (refine op_load_id _ rfl w.heap.size rfl l HL.out HI8.out ?_; try simp only [Act.put, List.setIfInBounds_toArray, List.set_cons_zero, List.set_cons_succ])
      | go_step | go_upon)
    refine (HGD.out _).mono ?_
    rintro e w9 ⟨rfl, hb9⟩
    have HB9 := Lib.hid (HB8.out.trans (hb9.mono (by omega)))
    clear hb9
    go_wp2_with fail
    go_ret
    exact ⟨rfl, HB9.out⟩
  · subst e1 e2
    repeat (first
      | go_values | go_skip | go_guarded
      | (refine op_load_id _ rfl w.heap.size rfl l HL.out HI8.out ?_; try simp only [Act.put, List.setIfInBounds_toArray, List.set_cons_zero, List.set_cons_succ])
      | go_step | go_upon)
    refine (HGD.out _).mono ?_
    rintro e w9 ⟨rfl, hb9⟩
    have HB9 := Lib.hid (HB8.out.trans (hb9.mono (by omega)))
    clear hb9
    go_wp2_with fail
    go_ret
    exact ⟨rfl, HB9.out⟩

set_option maxRecDepth 100000 in
set_option maxHeartbeats 1600000 in
theorem texts_zero (l : List UInt8) (c : UInt8) (r : List UInt8) (w : World) (hl : l.length = 33) (hr : r.length ≤ 1023) (hn : sizeI c = 0) :
    Calls Tryd.prog 4 #[idV l, .string ⟨(c :: r).toArray⟩] w (Gives (.bool true) w) := by
  have hix : ∀ h, (ByteArray.mk (c :: r).toArray)[0]'h = c := fun _ => rfl
  have hsz : (ByteArray.mk (c :: r).toArray).size = r.length + 1 := rfl
  have hsize := fun W => rsize_any c W
  have hparse := fun W => parse_none c r W (by omega) (by omega)
  have hLL : (zer 33).length = 33 := zer_length _
  rw [hn] at hsize
  have HSZ := Lib.hid hsize
  clear hsize hn
  have hi0 := IdAt.new w l
  have hb0 : Below w.heap.size w (w.alloc (.cells (vb l).toArray 26)) := (Below.refl _ _).alloc (Nat.le_refl _) _
  have hs0 : (w.alloc (.cells (vb l).toArray 26)).heap.size = w.heap.size + 1 := asz _ _
  have HL := Lib.hid hl
  have htx : ∀ W, Calls Tryd.prog 16 #[idV l] W (Gives (.string ⟨(textI l).toArray⟩) W) := fun W => text_l l W hl
  have hgd : ∀ W, Calls Tryd.prog 17 #[idV l] W (Gives (.bool (goodI l)) W) := fun W => good_l l W hl
  have hnm : ∀ W, Calls Tryd.prog 15 #[idV l] W (Gives (.string ⟨(textI l).toArray⟩) W) := fun W => name_l l W hl
  have htg := text_of_good l
  generalize textI l = t at htx hnm htg
  generalize goodI l = g at hgd htg
  have HTX := Lib.hid htx
  have HGD := Lib.hid hgd
  have HNM := Lib.hid hnm
  have HTG := Lib.hid htg
  have HP : Hid (∀ W, Calls Tryd.prog 13 #[.string ⟨(c :: r).toArray⟩] W (Gives (.tuple #[idV (zer 33), .bool false]) W)) := hparse
  have HLL : Hid ((zer 33).length = 33) := hLL
  clear htx hgd hnm htg hparse hLL
  obtain ⟨L, hL⟩ : ∃ L, zer 33 = L := ⟨_, rfl⟩
  rw [hL] at HP HLL
  have HLE := Lib.hid hL
  clear hL
  go_enter Tryd.func4, Tryd.ntmps4
  go_wp2_with (refine wp_box_row rfl _ rfl rfl ?_)
  refine (ialive_any _).mono ?_
  rintro e w1 ⟨rfl, hb1⟩
  have hs1 : w.heap.size + 1 ≤ w1.heap.size := by have := hb1.size; omega
  have HI1 := Lib.hid (hi0.below hb1 (by omega))
  have HB1 := Lib.hid (hb0.trans (hb1.mono (by omega)))
  clear hi0 hb0 hs0 hb1
  go_wp2_with fail
  refine (HP.out _).mono ?_
  rintro e w2 ⟨rfl, hb2⟩
  have hs2 : w.heap.size + 1 ≤ w2.heap.size := by have := hb2.size; omega
  have hi3 : IdAt (w2.alloc (.cells (vb L).toArray 26)) w.heap.size l := (HI1.out.below hb2 (by omega)).below ((Below.refl _ _).alloc (Nat.le_refl _) _) (by omega)
  have hx3 := IdAt.new w2 L
  have hb3 := (HB1.out.trans (hb2.mono (by omega))).alloc (by omega) (.cells (vb L).toArray 26)
  have hs3 : (w2.alloc (.cells (vb L).toArray 26)).heap.size = w2.heap.size + 1 := asz _ _
  clear hb2 HI1 HB1
  try dsimp only
  iterate 18 (try first | go_values | go_skip | go_guarded | (refine op_alloc_id rfl ?_; try simp only [Act.put, List.setIfInBounds_toArray, List.set_cons_zero, List.set_cons_succ]) | (refine op_fill_id _ _ rfl rfl rfl L HLL.out rfl ?_; try simp only [Act.put, List.setIfInBounds_toArray, List.set_cons_zero, List.set_cons_succ]) | go_step | go_upon)
  generalize w2.alloc (.cells (vb L).toArray 26) = w3 at hi3 hx3 hb3 hs3 ⊢
  have hi4 : IdAt (w3.alloc (.cells (vb (zer 33)).toArray 26)) w.heap.size l := hi3.below ((Below.refl _ _).alloc (Nat.le_refl _) _) (by omega)
  have hx4 : IdAt (w3.alloc (.cells (vb (zer 33)).toArray 26)) w2.heap.size L := hx3.below ((Below.refl _ _).alloc (Nat.le_refl _) _) (by omega)
  have hy4 := IdAt.new w3 (zer 33)
  have hb4 := hb3.alloc (by omega) (.cells (vb (zer 33)).toArray 26)
  have hs4 : (w3.alloc (.cells (vb (zer 33)).toArray 26)).heap.size = w3.heap.size + 1 := asz _ _
  have hs3' : w2.heap.size + 1 ≤ w3.heap.size := by omega
  have HI4 := Lib.hid hi4
  have HX4 := Lib.hid hx4
  have HY4 : Hid (IdAt (w3.alloc (.cells (vb (zer 33)).toArray 26)) w3.heap.size L) := by exact HLE.out ▸ hy4
  have HB4 := Lib.hid hb4
  have HS4 := Lib.hid hs4
  clear hi3 hx3 hb3 hs3 hi4 hx4 hy4 hb4 hs4
  repeat (first | (go_at_call 12; refine (HSZ.out _).mono ?_; rintro e wS ⟨rfl, rfl⟩; try dsimp only) | go_values | go_skip | go_guarded | (refine op_alloc_id rfl ?_; try simp only [Act.put, List.setIfInBounds_toArray, List.set_cons_zero, List.set_cons_succ]) | (refine op_zero_id rfl ?_; try simp only [Act.put, List.setIfInBounds_toArray, List.set_cons_zero, List.set_cons_succ]) | (refine op_fill_id _ _ rfl rfl rfl (zer 33) (zer_length _) rfl ?_; try simp only [Act.put, List.setIfInBounds_toArray, List.set_cons_zero, List.set_cons_succ]) | (refine op_load_id _ rfl w.heap.size rfl l HL.out HI4.out ?_; try simp only [Act.put, List.setIfInBounds_toArray, List.set_cons_zero, List.set_cons_succ]) | go_step | go_upon)
  have hszw : w.heap.size + 1 ≤ (w3.alloc (.cells (vb (zer 33)).toArray 26)).heap.size ∧ w2.heap.size + 1 ≤ (w3.alloc (.cells (vb (zer 33)).toArray 26)).heap.size ∧ w3.heap.size + 1 ≤ (w3.alloc (.cells (vb (zer 33)).toArray 26)).heap.size := by have := HS4.out; omega
  refine (HNM.out _).mono ?_
  rintro e w7 ⟨rfl, hb7⟩
  have hs7 := hb7.size
  have HI7 := Lib.hid (HI4.out.below hb7 (by omega))
  have HX7 := Lib.hid (HX4.out.below hb7 (by omega))
  have HY7 := Lib.hid (HY4.out.below hb7 (by omega))
  have HB7 := Lib.hid (HB4.out.trans (hb7.mono (by omega)))
  clear hb7
  have hLLt : (L == L) = true := by simp
  have HLLt := Lib.hid hLLt
  clear hLLt
  try dsimp only
  repeat (first
    | go_values | go_skip | go_guarded
    | (refine op_load_id _ rfl w2.heap.size rfl L HLL.out HX7.out ?_; try simp only [Act.put, List.setIfInBounds_toArray, List.set_cons_zero, List.set_cons_succ])
    | (refine op_load_id _ rfl w3.heap.size rfl L HLL.out HY7.out ?_; try simp only [Act.put, List.setIfInBounds_toArray, List.set_cons_zero, List.set_cons_succ])
    | (refine op_load_id _ rfl w.heap.size rfl l HL.out HI7.out ?_; try simp only [Act.put, List.setIfInBounds_toArray, List.set_cons_zero, List.set_cons_succ])
    | (refine op_eql_id _ _ _ rfl L L HLL.out HLL.out rfl rfl ?_; rw [HLLt.out]; try simp only [Act.put, List.setIfInBounds_toArray, List.set_cons_zero, List.set_cons_succ])
    | go_step | go_upon)
  refine (HTX.out _).mono ?_
  rintro e w8 ⟨rfl, hb8⟩
  have hs8 := hb8.size
  have HI8 := Lib.hid (HI7.out.below hb8 (by omega))
  have HB8 := Lib.hid (HB7.out.trans (hb8.mono (by omega)))
  clear hb8
  have hq : (t == t) = true := by simp
  try dsimp only
  rcases HTG.out with ⟨e1, a9, r9, e2⟩ | ⟨e1, e2⟩
  · subst e1 e2
    repeat (first
      | go_values | go_skip | go_guarded
      | (refine op_load_id _ rfl w.heap.size rfl l HL.out HI8.out ?_; try simp only [Act.put, List.setIfInBounds_toArray, List.set_cons_zero, List.set_cons_succ])
      | go_step | go_upon)
    refine (HGD.out _).mono ?_
    rintro e w9 ⟨rfl, hb9⟩
    have HB9 := Lib.hid (HB8.out.trans (hb9.mono (by omega)))
    clear hb9
    go_wp2_with fail
    go_ret
    exact ⟨rfl, HB9.out⟩
  · subst e1 e2
    repeat (first
      | go_values | go_skip | go_guarded
      | (refine op_load_id _ rfl w.heap.size rfl l HL.out HI8.out ?_; try simp only [Act.put, List.setIfInBounds_toArray, List.set_cons_zero, List.set_cons_succ])
      | go_step | go_upon)
    refine (HGD.out _).mono ?_
    rintro e w9 ⟨rfl, hb9⟩
    have HB9 := Lib.hid (HB8.out.trans (hb9.mono (by omega)))
    clear hb9
    go_wp2_with fail
    go_ret
    exact ⟨rfl, HB9.out⟩

set_option maxRecDepth 100000 in
set_option maxHeartbeats 1600000 in
theorem texts_off (l : List UInt8) (c : UInt8) (r : List UInt8) (w : World) (hl : l.length = 33) (hr : r.length ≤ 1023) (hn : 0 < sizeI c) (hne : r.length ≠ sizeI c) :
    Calls Tryd.prog 4 #[idV l, .string ⟨(c :: r).toArray⟩] w (Gives (.bool true) w) := by
  have hix : ∀ h, (ByteArray.mk (c :: r).toArray)[0]'h = c := fun _ => rfl
  have hsz : (ByteArray.mk (c :: r).toArray).size = r.length + 1 := rfl
  have hsize := fun W => rsize_any c W
  have hparse := fun W => parse_none c r W (by omega) (by omega)
  have hLL : (zer 33).length = 33 := zer_length _
  have hz := sizeI_le c
  generalize sizeI c = n at hsize hn hne hz
  have HSZ := Lib.hid hsize
  have hpos : decide (0 < n) = true := by simp; omega
  have hq1 : ((r.length : Int) + 1 == 1 + (n : Int)) = false := by rw [beq_eq_false_iff_ne]; omega
  clear hsize hne
  have hi0 := IdAt.new w l
  have hb0 : Below w.heap.size w (w.alloc (.cells (vb l).toArray 26)) := (Below.refl _ _).alloc (Nat.le_refl _) _
  have hs0 : (w.alloc (.cells (vb l).toArray 26)).heap.size = w.heap.size + 1 := asz _ _
  have HL := Lib.hid hl
  have htx : ∀ W, Calls Tryd.prog 16 #[idV l] W (Gives (.string ⟨(textI l).toArray⟩) W) := fun W => text_l l W hl
  have hgd : ∀ W, Calls Tryd.prog 17 #[idV l] W (Gives (.bool (goodI l)) W) := fun W => good_l l W hl
  have hnm : ∀ W, Calls Tryd.prog 15 #[idV l] W (Gives (.string ⟨(textI l).toArray⟩) W) := fun W => name_l l W hl
  have htg := text_of_good l
  generalize textI l = t at htx hnm htg
  generalize goodI l = g at hgd htg
  have HTX := Lib.hid htx
  have HGD := Lib.hid hgd
  have HNM := Lib.hid hnm
  have HTG := Lib.hid htg
  have HP : Hid (∀ W, Calls Tryd.prog 13 #[.string ⟨(c :: r).toArray⟩] W (Gives (.tuple #[idV (zer 33), .bool false]) W)) := hparse
  have HLL : Hid ((zer 33).length = 33) := hLL
  clear htx hgd hnm htg hparse hLL
  obtain ⟨L, hL⟩ : ∃ L, zer 33 = L := ⟨_, rfl⟩
  rw [hL] at HP HLL
  have HLE := Lib.hid hL
  clear hL
  go_enter Tryd.func4, Tryd.ntmps4
  go_wp2_with (refine wp_box_row rfl _ rfl rfl ?_)
  refine (ialive_any _).mono ?_
  rintro e w1 ⟨rfl, hb1⟩
  have hs1 : w.heap.size + 1 ≤ w1.heap.size := by have := hb1.size; omega
  have HI1 := Lib.hid (hi0.below hb1 (by omega))
  have HB1 := Lib.hid (hb0.trans (hb1.mono (by omega)))
  clear hi0 hb0 hs0 hb1
  go_wp2_with fail
  refine (HP.out _).mono ?_
  rintro e w2 ⟨rfl, hb2⟩
  have hs2 : w.heap.size + 1 ≤ w2.heap.size := by have := hb2.size; omega
  have hi3 : IdAt (w2.alloc (.cells (vb L).toArray 26)) w.heap.size l := (HI1.out.below hb2 (by omega)).below ((Below.refl _ _).alloc (Nat.le_refl _) _) (by omega)
  have hx3 := IdAt.new w2 L
  have hb3 := (HB1.out.trans (hb2.mono (by omega))).alloc (by omega) (.cells (vb L).toArray 26)
  have hs3 : (w2.alloc (.cells (vb L).toArray 26)).heap.size = w2.heap.size + 1 := asz _ _
  clear hb2 HI1 HB1
  try dsimp only
  iterate 18 (try first | go_values | go_skip | go_guarded | (refine op_alloc_id rfl ?_; try simp only [Act.put, List.setIfInBounds_toArray, List.set_cons_zero, List.set_cons_succ]) | (refine op_fill_id _ _ rfl rfl rfl L HLL.out rfl ?_; try simp only [Act.put, List.setIfInBounds_toArray, List.set_cons_zero, List.set_cons_succ]) | go_step | go_upon)
  generalize w2.alloc (.cells (vb L).toArray 26) = w3 at hi3 hx3 hb3 hs3 ⊢
  have hi4 : IdAt (w3.alloc (.cells (vb (zer 33)).toArray 26)) w.heap.size l := hi3.below ((Below.refl _ _).alloc (Nat.le_refl _) _) (by omega)
  have hx4 : IdAt (w3.alloc (.cells (vb (zer 33)).toArray 26)) w2.heap.size L := hx3.below ((Below.refl _ _).alloc (Nat.le_refl _) _) (by omega)
  have hy4 := IdAt.new w3 (zer 33)
  have hb4 := hb3.alloc (by omega) (.cells (vb (zer 33)).toArray 26)
  have hs4 : (w3.alloc (.cells (vb (zer 33)).toArray 26)).heap.size = w3.heap.size + 1 := asz _ _
  have hs3' : w2.heap.size + 1 ≤ w3.heap.size := by omega
  have HI4 := Lib.hid hi4
  have HX4 := Lib.hid hx4
  have HY4 : Hid (IdAt (w3.alloc (.cells (vb (zer 33)).toArray 26)) w3.heap.size L) := by exact HLE.out ▸ hy4
  have HB4 := Lib.hid hb4
  have HS4 := Lib.hid hs4
  clear hi3 hx3 hb3 hs3 hi4 hx4 hy4 hb4 hs4
  repeat (first | (go_at_call 12; refine (HSZ.out _).mono ?_; rintro e wS ⟨rfl, rfl⟩; try dsimp only) | go_values | go_skip | go_guarded | (refine op_alloc_id rfl ?_; try simp only [Act.put, List.setIfInBounds_toArray, List.set_cons_zero, List.set_cons_succ]) | (refine op_zero_id rfl ?_; try simp only [Act.put, List.setIfInBounds_toArray, List.set_cons_zero, List.set_cons_succ]) | (refine op_fill_id _ _ rfl rfl rfl (zer 33) (zer_length _) rfl ?_; try simp only [Act.put, List.setIfInBounds_toArray, List.set_cons_zero, List.set_cons_succ]) | (refine op_load_id _ rfl w.heap.size rfl l HL.out HI4.out ?_; try simp only [Act.put, List.setIfInBounds_toArray, List.set_cons_zero, List.set_cons_succ]) | go_step | go_upon)
  have hszw : w.heap.size + 1 ≤ (w3.alloc (.cells (vb (zer 33)).toArray 26)).heap.size ∧ w2.heap.size + 1 ≤ (w3.alloc (.cells (vb (zer 33)).toArray 26)).heap.size ∧ w3.heap.size + 1 ≤ (w3.alloc (.cells (vb (zer 33)).toArray 26)).heap.size := by have := HS4.out; omega
  refine (HNM.out _).mono ?_
  rintro e w7 ⟨rfl, hb7⟩
  have hs7 := hb7.size
  have HI7 := Lib.hid (HI4.out.below hb7 (by omega))
  have HX7 := Lib.hid (HX4.out.below hb7 (by omega))
  have HY7 := Lib.hid (HY4.out.below hb7 (by omega))
  have HB7 := Lib.hid (HB4.out.trans (hb7.mono (by omega)))
  clear hb7
  have hLLt : (L == L) = true := by simp
  have HLLt := Lib.hid hLLt
  clear hLLt
  try dsimp only
  repeat (first
    | go_values | go_skip | go_guarded
    | (refine op_load_id _ rfl w2.heap.size rfl L HLL.out HX7.out ?_; try simp only [Act.put, List.setIfInBounds_toArray, List.set_cons_zero, List.set_cons_succ])
    | (refine op_load_id _ rfl w3.heap.size rfl L HLL.out HY7.out ?_; try simp only [Act.put, List.setIfInBounds_toArray, List.set_cons_zero, List.set_cons_succ])
    | (refine op_load_id _ rfl w.heap.size rfl l HL.out HI7.out ?_; try simp only [Act.put, List.setIfInBounds_toArray, List.set_cons_zero, List.set_cons_succ])
    | (refine op_eql_id _ _ _ rfl L L HLL.out HLL.out rfl rfl ?_; rw [HLLt.out]; try simp only [Act.put, List.setIfInBounds_toArray, List.set_cons_zero, List.set_cons_succ])
    | go_step | go_upon)
  refine (HTX.out _).mono ?_
  rintro e w8 ⟨rfl, hb8⟩
  have hs8 := hb8.size
  have HI8 := Lib.hid (HI7.out.below hb8 (by omega))
  have HB8 := Lib.hid (HB7.out.trans (hb8.mono (by omega)))
  clear hb8
  have hq : (t == t) = true := by simp
  try dsimp only
  rcases HTG.out with ⟨e1, a9, r9, e2⟩ | ⟨e1, e2⟩
  · subst e1 e2
    repeat (first
      | go_values | go_skip | go_guarded
      | (refine op_load_id _ rfl w.heap.size rfl l HL.out HI8.out ?_; try simp only [Act.put, List.setIfInBounds_toArray, List.set_cons_zero, List.set_cons_succ])
      | go_step | go_upon)
    refine (HGD.out _).mono ?_
    rintro e w9 ⟨rfl, hb9⟩
    have HB9 := Lib.hid (HB8.out.trans (hb9.mono (by omega)))
    clear hb9
    go_wp2_with fail
    go_ret
    exact ⟨rfl, HB9.out⟩
  · subst e1 e2
    repeat (first
      | go_values | go_skip | go_guarded
      | (refine op_load_id _ rfl w.heap.size rfl l HL.out HI8.out ?_; try simp only [Act.put, List.setIfInBounds_toArray, List.set_cons_zero, List.set_cons_succ])
      | go_step | go_upon)
    refine (HGD.out _).mono ?_
    rintro e w9 ⟨rfl, hb9⟩
    have HB9 := Lib.hid (HB8.out.trans (hb9.mono (by omega)))
    clear hb9
    go_wp2_with fail
    go_ret
    exact ⟨rfl, HB9.out⟩

set_option maxRecDepth 100000 in
set_option maxHeartbeats 1600000 in
theorem texts_on (l : List UInt8) (c : UInt8) (r : List UInt8) (w : World) (hl : l.length = 33) (hn : 0 < sizeI c) (hne : r.length = sizeI c) :
    Calls Tryd.prog 4 #[idV l, .string ⟨(c :: r).toArray⟩] w (Gives (.bool true) w) := by
  have hix : ∀ h, (ByteArray.mk (c :: r).toArray)[0]'h = c := fun _ => rfl
  have hsz : (ByteArray.mk (c :: r).toArray).size = r.length + 1 := rfl
  have hsize := fun W => rsize_any c W
  have hparse := fun W => parse_some c r W hn hne
  have hLL : (c :: pad32 r).length = 33 := by simp [pad32_length]
  have hr := sizeI_le c
  rw [← hne] at hsize hn hr
  have hid := fun W => rid_cons c r W hr
  have HID0 := Lib.hid hid
  have HSZ := Lib.hid hsize
  have hpos : decide (0 < r.length) = true := by simp; omega
  have hq1 : ((r.length : Int) + 1 == 1 + (r.length : Int)) = true := by rw [beq_iff_eq]; omega
  clear hsize hid hne
  have hi0 := IdAt.new w l
  have hb0 : Below w.heap.size w (w.alloc (.cells (vb l).toArray 26)) := (Below.refl _ _).alloc (Nat.le_refl _) _
  have hs0 : (w.alloc (.cells (vb l).toArray 26)).heap.size = w.heap.size + 1 := asz _ _
  have HL := Lib.hid hl
  have htx : ∀ W, Calls Tryd.prog 16 #[idV l] W (Gives (.string ⟨(textI l).toArray⟩) W) := fun W => text_l l W hl
  have hgd : ∀ W, Calls Tryd.prog 17 #[idV l] W (Gives (.bool (goodI l)) W) := fun W => good_l l W hl
  have hnm : ∀ W, Calls Tryd.prog 15 #[idV l] W (Gives (.string ⟨(textI l).toArray⟩) W) := fun W => name_l l W hl
  have htg := text_of_good l
  generalize textI l = t at htx hnm htg
  generalize goodI l = g at hgd htg
  have HTX := Lib.hid htx
  have HGD := Lib.hid hgd
  have HNM := Lib.hid hnm
  have HTG := Lib.hid htg
  have HP : Hid (∀ W, Calls Tryd.prog 13 #[.string ⟨(c :: r).toArray⟩] W (Gives (.tuple #[idV (c :: pad32 r), .bool true]) W)) := hparse
  have HLL : Hid ((c :: pad32 r).length = 33) := hLL
  clear htx hgd hnm htg hparse hLL
  obtain ⟨L, hL⟩ : ∃ L, c :: pad32 r = L := ⟨_, rfl⟩
  rw [hL] at HP HLL
  have HLE := Lib.hid hL
  clear hL
  go_enter Tryd.func4, Tryd.ntmps4
  go_wp2_with (refine wp_box_row rfl _ rfl rfl ?_)
  refine (ialive_any _).mono ?_
  rintro e w1 ⟨rfl, hb1⟩
  have hs1 : w.heap.size + 1 ≤ w1.heap.size := by have := hb1.size; omega
  have HI1 := Lib.hid (hi0.below hb1 (by omega))
  have HB1 := Lib.hid (hb0.trans (hb1.mono (by omega)))
  clear hi0 hb0 hs0 hb1
  go_wp2_with fail
  refine (HP.out _).mono ?_
  rintro e w2 ⟨rfl, hb2⟩
  have hs2 : w.heap.size + 1 ≤ w2.heap.size := by have := hb2.size; omega
  have hi3 : IdAt (w2.alloc (.cells (vb L).toArray 26)) w.heap.size l := (HI1.out.below hb2 (by omega)).below ((Below.refl _ _).alloc (Nat.le_refl _) _) (by omega)
  have hx3 := IdAt.new w2 L
  have hb3 := (HB1.out.trans (hb2.mono (by omega))).alloc (by omega) (.cells (vb L).toArray 26)
  have hs3 : (w2.alloc (.cells (vb L).toArray 26)).heap.size = w2.heap.size + 1 := asz _ _
  clear hb2 HI1 HB1
  try dsimp only
  have hid2 := HID0.out
  rw [HLE.out] at hid2
  have HID := Lib.hid hid2
  clear hid2
  iterate 18 (try first | go_values | go_skip | go_guarded | (refine op_alloc_id rfl ?_; try simp only [Act.put, List.setIfInBounds_toArray, List.set_cons_zero, List.set_cons_succ]) | (refine op_fill_id _ _ rfl rfl rfl L HLL.out rfl ?_; try simp only [Act.put, List.setIfInBounds_toArray, List.set_cons_zero, List.set_cons_succ]) | go_step | go_upon)
  generalize w2.alloc (.cells (vb L).toArray 26) = w3 at hi3 hx3 hb3 hs3 ⊢
  have hi4 : IdAt (w3.alloc (.cells (vb (zer 33)).toArray 26)) w.heap.size l := hi3.below ((Below.refl _ _).alloc (Nat.le_refl _) _) (by omega)
  have hx4 : IdAt (w3.alloc (.cells (vb (zer 33)).toArray 26)) w2.heap.size L := hx3.below ((Below.refl _ _).alloc (Nat.le_refl _) _) (by omega)
  have hy4 := IdAt.new w3 (zer 33)
  have hb4 := hb3.alloc (by omega) (.cells (vb (zer 33)).toArray 26)
  have hs4 : (w3.alloc (.cells (vb (zer 33)).toArray 26)).heap.size = w3.heap.size + 1 := asz _ _
  have hs3' : w2.heap.size + 1 ≤ w3.heap.size := by omega
  have HI4 := Lib.hid hi4
  have HX4 := Lib.hid hx4
  have HY4 := Lib.hid hy4
  have HB4 := Lib.hid hb4
  have HS4 := Lib.hid hs4
  clear hi3 hx3 hb3 hs3 hi4 hx4 hy4 hb4 hs4
  repeat (first | (go_at_call 12; refine (HSZ.out _).mono ?_; rintro e wS ⟨rfl, rfl⟩; try dsimp only) | go_values | go_skip | go_guarded | (refine op_alloc_id rfl ?_; try simp only [Act.put, List.setIfInBounds_toArray, List.set_cons_zero, List.set_cons_succ]) | (refine op_zero_id rfl ?_; try simp only [Act.put, List.setIfInBounds_toArray, List.set_cons_zero, List.set_cons_succ]) | (refine op_fill_id _ _ rfl rfl rfl (zer 33) (zer_length _) rfl ?_; try simp only [Act.put, List.setIfInBounds_toArray, List.set_cons_zero, List.set_cons_succ]) | (refine op_alloc_id rfl ?_; try simp only [Act.put, List.setIfInBounds_toArray, List.set_cons_zero, List.set_cons_succ]) | go_step | go_upon)
  refine (HID.out _).mono ?_
  rintro e w5 ⟨rfl, hb5⟩
  have hs5 : w3.heap.size + 1 ≤ w5.heap.size := by have := hb5.size; have := HS4.out; omega
  have HI5 := Lib.hid (HI4.out.below hb5 (by have := HS4.out; omega))
  have HX5 := Lib.hid (HX4.out.below hb5 (by have := HS4.out; omega))
  have HY5 := Lib.hid (HY4.out.below hb5 (by have := HS4.out; omega))
  have HB5 := Lib.hid (HB4.out.trans (hb5.mono (by have := HS4.out; omega)))
  clear hb5
  try dsimp only
  iterate 3 (try first | go_values | go_skip | go_guarded | (refine op_put_id _ _ rfl w3.heap.size rfl L HLL.out rfl (zer 33) (zer_length _) HY5.out ?hK) | go_step | go_upon)
  case hK =>
   intro w6 hy6 hg6
   have HY6 := Lib.hid hy6
   have HI6 : Hid (IdAt w6 w.heap.size l) := (hg6.block _ (by omega) (by simp; omega)).trans HI5.out
   have HX6 : Hid (IdAt w6 w2.heap.size L) := (hg6.block _ (by omega) (by simp; omega)).trans HX5.out
   have HB6 := Lib.hid (HB5.out.grown hg6 (by omega) (fun k hk => by injection hk with hk; omega))
   have hs6 := hg6.size
   clear hy6 hg6
   repeat (first | go_values | go_skip | go_guarded | (refine op_load_id _ rfl w.heap.size rfl l HL.out HI6.out ?_; try simp only [Act.put, List.setIfInBounds_toArray, List.set_cons_zero, List.set_cons_succ]) | go_step | go_upon)
   have hszw : w.heap.size + 1 ≤ w6.heap.size ∧ w2.heap.size + 1 ≤ w6.heap.size ∧ w3.heap.size + 1 ≤ w6.heap.size := by omega
   refine (HNM.out _).mono ?_
   rintro e w7 ⟨rfl, hb7⟩
   have hs7 := hb7.size
   have HI7 := Lib.hid (HI6.out.below hb7 (by omega))
   have HX7 := Lib.hid (HX6.out.below hb7 (by omega))
   have HY7 := Lib.hid (HY6.out.below hb7 (by omega))
   have HB7 := Lib.hid (HB6.out.trans (hb7.mono (by omega)))
   clear hb7
   have hLLt : (L == L) = true := by simp
   have HLLt := Lib.hid hLLt
   clear hLLt
   try dsimp only
   repeat (first
     | go_values | go_skip | go_guarded
     | (refine op_load_id _ rfl w2.heap.size rfl L HLL.out HX7.out ?_; try simp only [Act.put, List.setIfInBounds_toArray, List.set_cons_zero, List.set_cons_succ])
     | (refine op_load_id _ rfl w3.heap.size rfl L HLL.out HY7.out ?_; try simp only [Act.put, List.setIfInBounds_toArray, List.set_cons_zero, List.set_cons_succ])
     | (refine op_load_id _ rfl w.heap.size rfl l HL.out HI7.out ?_; try simp only [Act.put, List.setIfInBounds_toArray, List.set_cons_zero, List.set_cons_succ])
     | (refine op_eql_id _ _ _ rfl L L HLL.out HLL.out rfl rfl ?_; rw [HLLt.out]; try simp only [Act.put, List.setIfInBounds_toArray, List.set_cons_zero, List.set_cons_succ])
     | go_step | go_upon)
   refine (HTX.out _).mono ?_
   rintro e w8 ⟨rfl, hb8⟩
   have hs8 := hb8.size
   have HI8 := Lib.hid (HI7.out.below hb8 (by omega))
   have HB8 := Lib.hid (HB7.out.trans (hb8.mono (by omega)))
   clear hb8
   have hq : (t == t) = true := by simp
   try dsimp only
   rcases HTG.out with ⟨e1, a9, r9, e2⟩ | ⟨e1, e2⟩
   · subst e1 e2
     repeat (first
       | go_values | go_skip | go_guarded
       | (refine op_load_id _ rfl w.heap.size rfl l HL.out HI8.out ?_; try simp only [Act.put, List.setIfInBounds_toArray, List.set_cons_zero, List.set_cons_succ])
       | go_step | go_upon)
     refine (HGD.out _).mono ?_
     rintro e w9 ⟨rfl, hb9⟩
     have HB9 := Lib.hid (HB8.out.trans (hb9.mono (by omega)))
     clear hb9
     go_wp2_with fail
     go_ret
     exact ⟨rfl, HB9.out⟩
   · subst e1 e2
     repeat (first
       | go_values | go_skip | go_guarded
       | (refine op_load_id _ rfl w.heap.size rfl l HL.out HI8.out ?_; try simp only [Act.put, List.setIfInBounds_toArray, List.set_cons_zero, List.set_cons_succ])
       | go_step | go_upon)
     refine (HGD.out _).mono ?_
     rintro e w9 ⟨rfl, hb9⟩
     have HB9 := Lib.hid (HB8.out.trans (hb9.mono (by omega)))
     clear hb9
     go_wp2_with fail
     go_ret
     exact ⟨rfl, HB9.out⟩

set_option maxRecDepth 100000 in
set_option maxHeartbeats 1600000 in
theorem texts_long (l s : List UInt8) (w : World) (hs : s.length ≤ 140737488351232) (hlen : 1024 < s.length) :
    Calls Tryd.prog 4 #[idV l, .string ⟨s.toArray⟩] w (Gives (.bool true) w) := by
  have hsz : (ByteArray.mk s.toArray).size = s.length := rfl
  have hb0 : Below w.heap.size w (w.alloc (.cells (vb l).toArray 26)) := (Below.refl _ _).alloc (Nat.le_refl _) _
  go_enter Tryd.func4, Tryd.ntmps4
  go_wp2_with (refine wp_box_row rfl _ rfl rfl ?_)
  refine (ialive_any _).mono ?_
  rintro e w1 ⟨rfl, hb1⟩
  have HB1 := Lib.hid (hb0.trans (hb1.mono (by simp)))
  clear hb0 hb1
  go_wp2_with fail
  go_ret
  exact ⟨rfl, HB1.out⟩

theorem texts_walk (l s : List UInt8) (w : World) (hl : l.length = 33) (hs : s.length ≤ 140737488351232) :
    Calls Tryd.prog 4 #[idV l, .string ⟨s.toArray⟩] w (Gives (.bool true) w) := by
  by_cases h1 : 1024 < s.length
  · exact texts_long l s w hs h1
  · cases s with
    | nil => exact texts_nil l w hl
    | cons c r =>
      have hr : r.length ≤ 1023 := by simp at h1; omega
      by_cases h2 : sizeI c = 0
      · exact texts_zero l c r w hl hr h2
      · by_cases h3 : r.length = sizeI c
        · exact texts_on l c r w hl (by omega) h3
        · exact texts_off l c r w hl hr (by omega) h3

end Go.Proofs.YtchimffminpacaaDoor.Cd

namespace Go.Proofs.YtchimffminpacaaDoor.IdentTexts
open Go.RowKit Go.Proofs.YtchimffminpacaaDoor.Cd

theorem walk (v : Value) (l : List UInt8) (a : ByteArray) (w : World) (h : v = idV l ∧ l.length = 33) (ha : a.size ≤ 140737488351232) : Calls Tryd.prog 4 #[v, .string a] w (Gives (.bool true) w) := by
  obtain ⟨rfl, hl⟩ := h
  exact texts_walk l a.data.toList w hl ha

end Go.Proofs.YtchimffminpacaaDoor.IdentTexts
