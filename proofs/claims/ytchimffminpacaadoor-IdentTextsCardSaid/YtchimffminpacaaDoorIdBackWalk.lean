/-
  IdentBack answers true. Conditions: none.
-/
import Derived.Test.YtchimffminpacaaDoorIdArg
namespace Go.Proofs.YtchimffminpacaaDoor.Cd
open Go.RowKit

theorem parseI_cons (c : UInt8) (r : List UInt8) : parseI (c :: r) = if 0 < sizeI c ∧ r.length = sizeI c then (c :: pad32 r, true) else (zer 33, false) := rfl
theorem goodI_cons (k : UInt8) (s : List UInt8) : goodI (k :: s) = (decide (0 < sizeI k) && (k :: s == k :: pad32 (s.take (sizeI k)))) := rfl
theorem parse_length (l : List UInt8) : (parseI l).1.length = 33 := by
  cases l with
  | nil => rfl
  | cons c r =>
    rw [parseI_cons]
    split
    · simp [pad32_length]
    · rfl
theorem good_zero : goodI (zer 33) = false := by decide
theorem textI_length (l : List UInt8) : (textI l).length ≤ 33 := by
  cases l with
  | nil => simp [textI]
  | cons k s =>
    rw [textI_cons]
    split
    · have := sizeI_le k
      simp only [List.length_cons, List.length_take]
      omega
    · simp
theorem good_parts {k : UInt8} {s : List UInt8} (h : goodI (k :: s) = true) : 0 < sizeI k ∧ s = pad32 (s.take (sizeI k)) := by
  rw [goodI_cons] at h
  simpa using h
theorem parse_text (l : List UInt8) (hl : l.length = 33) : parseI (textI l) = if goodI l = true then (l, true) else (zer 33, false) := by
  obtain ⟨k, s, rfl⟩ := List.exists_cons_of_length_pos (l := l) (by omega)
  have hs : s.length = 32 := by simpa using hl
  rw [textI_cons]
  by_cases h : goodI (k :: s) = true
  · rw [if_pos h, if_pos h]
    obtain ⟨h1, h2⟩ := good_parts h
    have hn := sizeI_le k
    rw [parseI_cons, if_pos ⟨h1, by rw [List.length_take]; omega⟩, ← h2]
  · rw [if_neg h, if_neg h]
    rfl
theorem text_parse (l : List UInt8) (h : (parseI l).2 = true) : textI (parseI l).1 = l ∧ goodI (parseI l).1 = true := by
  cases l with
  | nil => cases h
  | cons c r =>
    by_cases hc : 0 < sizeI c ∧ r.length = sizeI c
    · have e : parseI (c :: r) = (c :: pad32 r, true) := if_pos hc
      have hn := sizeI_le c
      have ht : (pad32 r).take (sizeI c) = r := by
        unfold pad32
        rw [List.take_of_length_le (l := r) (i := 32) (by omega), List.take_append_of_le_length (by omega), List.take_of_length_le (by omega)]
      have hg : goodI (c :: pad32 r) = true := by
        rw [goodI_cons, ht]
        simp [hc.1]
      rw [e]
      exact ⟨by rw [textI_cons, hg, if_pos rfl, ht], hg⟩
    · rw [show parseI (c :: r) = (zer 33, false) from if_neg hc] at h
      cases h

set_option maxRecDepth 100000 in
set_option maxHeartbeats 1600000 in
theorem back_walk (l s : List UInt8) (w : World) (hl : l.length = 33) (hs : s.length ≤ 140737488351232) :
    Calls Tryd.prog 5 #[idV l, .string ⟨s.toArray⟩] w (Gives (.bool true) w) := by
  have hsz : (ByteArray.mk s.toArray).size = s.length := rfl
  have hi0 := IdAt.new w l
  have hb0 : Below w.heap.size w (w.alloc (.cells (vb l).toArray 26)) := (Below.refl _ _).alloc (Nat.le_refl _) _
  have hs0 : (w.alloc (.cells (vb l).toArray 26)).heap.size = w.heap.size + 1 := asz _ _
  have HL := Lib.hid hl
  go_enter Tryd.func5, Tryd.ntmps5
  go_wp2_with (refine wp_box_row rfl _ rfl rfl ?_)
  refine (ialive_any _).mono ?_
  rintro e w1 ⟨rfl, hb1⟩
  have hs1 : w.heap.size + 1 ≤ w1.heap.size := by have := hb1.size; omega
  have HI1 := Lib.hid (hi0.below hb1 (by omega))
  have HB1 := Lib.hid (hb0.trans (hb1.mono (by omega)))
  clear hi0 hb0 hs0 hb1
  by_cases hlen : 1024 < s.length
  · go_wp2_with fail
    go_ret
    exact ⟨rfl, HB1.out⟩
  · have htx : ∀ W, Calls Tryd.prog 16 #[idV l] W (Gives (.string ⟨(textI l).toArray⟩) W) := fun W => text_l l W hl
    have hgd : ∀ W, Calls Tryd.prog 17 #[idV l] W (Gives (.bool (goodI l)) W) := fun W => good_l l W hl
    have hp1 : ∀ W, Calls Tryd.prog 13 #[.string ⟨(textI l).toArray⟩] W (Gives (.tuple #[idV (parseI (textI l)).1, .bool (parseI (textI l)).2]) W) := fun W => parse_any _ W (by have := textI_length l; omega)
    have hp2 : ∀ W, Calls Tryd.prog 13 #[.string ⟨s.toArray⟩] W (Gives (.tuple #[idV (parseI s).1, .bool (parseI s).2]) W) := fun W => parse_any _ W (by omega)
    have hpt := parse_text l hl
    have hpl := parse_length (textI l)
    have hql := parse_length s
    have hqt := text_parse s
    have hq1 : ∀ W, Calls Tryd.prog 16 #[idV (parseI s).1] W (Gives (.string ⟨(textI (parseI s).1).toArray⟩) W) := fun W => text_l _ W hql
    have hq2 : ∀ W, Calls Tryd.prog 17 #[idV (parseI s).1] W (Gives (.bool (goodI (parseI s).1)) W) := fun W => good_l _ W hql
    generalize parseI (textI l) = p at hp1 hpt hpl
    generalize parseI s = q at hp2 hql hqt hq1 hq2
    obtain ⟨p1, p2⟩ := p
    obtain ⟨q1, q2⟩ := q
    simp only at hp1 hpl hp2 hql hqt hq1 hq2
    generalize textI l = t at htx hp1
    have HTX := Lib.hid htx
    have HGD := Lib.hid hgd
    have HP1 := Lib.hid hp1
    have HP2 := Lib.hid hp2
    have HPL := Lib.hid hpl
    have HQL := Lib.hid hql
    have HQT := Lib.hid hqt
    have HPT := Lib.hid hpt
    have HQ1 := Lib.hid hq1
    have HQ2 := Lib.hid hq2
    clear htx hgd hp1 hp2 hpl hql hqt hpt hq1 hq2
    go_wp2_with (refine wp_load_id rfl _ rfl w.heap.size rfl l HL.out HI1.out ?_)
    refine (HTX.out _).mono ?_
    rintro e w2 ⟨rfl, hb2⟩
    have hs2 : w.heap.size + 1 ≤ w2.heap.size := by have := hb2.size; omega
    have HI2 := Lib.hid (HI1.out.below hb2 (by omega))
    have HB2 := Lib.hid (HB1.out.trans (hb2.mono (by omega)))
    clear hb2 HI1 HB1
    go_wp2_with fail
    refine (HP1.out _).mono ?_
    rintro e w3 ⟨rfl, hb3⟩
    have hs3 : w.heap.size + 1 ≤ w3.heap.size := by have := hb3.size; omega
    have HI3 := Lib.hid (HI2.out.below hb3 (by omega))
    have HB3 := Lib.hid (HB2.out.trans (hb3.mono (by omega)))
    clear hb3 HI2 HB2
    have hx4 := IdAt.new w3 p1
    have hi4 : IdAt (w3.alloc (.cells (vb p1).toArray 26)) w.heap.size l := HI3.out.below ((Below.refl _ _).alloc (Nat.le_refl _) _) (by omega)
    have HX4 := Lib.hid hx4
    have HI4 := Lib.hid hi4
    have HB4 := Lib.hid (HB3.out.alloc (by omega) (.cells (vb p1).toArray 26))
    clear hx4 hi4
    try dsimp only
    go_wp2_with (first
      | (refine wp_alloc_row zero_id rfl rfl ?_)
      | (refine wp_fill_id rfl _ _ rfl rfl (by simp [Act.eval, Act.put]) p1 HPL.out rfl ?_)
      | (refine wp_load_id rfl _ rfl w.heap.size rfl l HL.out HI4.out ?_))
    refine (HGD.out _).mono ?_
    rintro e w5 ⟨rfl, hb5⟩
    have hs5 : w3.heap.size + 1 ≤ w5.heap.size := by have := hb5.size; rw [asz] at this; exact this
    have HI5 := Lib.hid (HI4.out.below hb5 (by simp; omega))
    have HX5 := Lib.hid (HX4.out.below hb5 (by simp))
    have HB5 := Lib.hid (HB4.out.trans (hb5.mono (by simp; omega)))
    clear hb5 HI4 HX4 HB4
    cases hg : goodI l with
    | true =>
      have e := HPT.out
      rw [hg, if_pos rfl] at e
      injection e with e1 e2
      subst e1 e2
      have hll : (p1 == p1) = true := by simp
      have HLL := Lib.hid hll
      clear hll hg
      try dsimp only
      repeat (first
        | (refine op_load_id _ rfl w3.heap.size rfl p1 HL.out HX5.out ?_; try simp only [Act.put, List.setIfInBounds_toArray, List.set_cons_zero, List.set_cons_succ])
        | (refine op_load_id _ rfl w.heap.size rfl p1 HL.out HI5.out ?_; try simp only [Act.put, List.setIfInBounds_toArray, List.set_cons_zero, List.set_cons_succ])
        | (refine op_neq_id _ _ _ rfl p1 p1 HL.out HL.out rfl rfl ?_; rw [HLL.out]; try simp only [Act.put, List.setIfInBounds_toArray, List.set_cons_zero, List.set_cons_succ])
        | go_values | go_skip | go_guarded | go_step | go_upon)
      refine (HP2.out _).mono ?_
      rintro e w6 ⟨rfl, hb6⟩
      have hs6 : w.heap.size + 1 ≤ w6.heap.size := by have := hb6.size; omega
      have HB6 := Lib.hid (HB5.out.trans (hb6.mono (by omega)))
      clear hb6
      have HY7 := Lib.hid (IdAt.new w6 q1)
      have HB7 := Lib.hid (HB6.out.alloc (by omega) (.cells (vb q1).toArray 26))
      cases q2 with
      | false =>
        try dsimp only
        iterate 16 (try first | (refine wp_alloc_row zero_id rfl rfl ?_) | (refine wp_fill_id rfl _ _ rfl rfl (by simp [Act.eval, Act.put]) q1 HQL.out rfl ?_) | go_values | go_skip | go_guarded | go_step | go_upon)
        go_wp2_with fail
        go_ret
        exact ⟨rfl, HB7.out⟩
      | true =>
        obtain ⟨et, eg⟩ := HQT.out rfl
        have ht2 := HQ1.out
        have hg2 := HQ2.out
        rw [et] at ht2
        rw [eg] at hg2
        have HT2 := Lib.hid ht2
        have HG2 := Lib.hid hg2
        clear et eg ht2 hg2
        try dsimp only
        iterate 16 (try first | (refine wp_alloc_row zero_id rfl rfl ?_) | (refine wp_fill_id rfl _ _ rfl rfl (by simp [Act.eval, Act.put]) q1 HQL.out rfl ?_) | go_values | go_skip | go_guarded | go_step | go_upon)
        repeat (first
          | (refine op_load_id _ rfl w6.heap.size rfl q1 HQL.out HY7.out ?_; try simp only [Act.put, List.setIfInBounds_toArray, List.set_cons_zero, List.set_cons_succ])
          | go_values | go_skip | go_guarded | go_step | go_upon)
        refine (HT2.out _).mono ?_
        rintro e w8 ⟨rfl, hb8⟩
        have hs8 : w6.heap.size + 1 ≤ w8.heap.size := by have := hb8.size; rw [asz] at this; exact this
        have HY8 := Lib.hid (HY7.out.below hb8 (by simp))
        have HB8 := Lib.hid (HB7.out.trans (hb8.mono (by simp; omega)))
        clear hb8 HY7 HB7
        try dsimp only
        repeat (first
          | (refine op_load_id _ rfl w6.heap.size rfl q1 HQL.out HY8.out ?_; try simp only [Act.put, List.setIfInBounds_toArray, List.set_cons_zero, List.set_cons_succ])
          | go_values | go_skip | go_guarded | go_step | go_upon)
        refine (HG2.out _).mono ?_
        rintro e w9 ⟨rfl, hb9⟩
        have HB9 := Lib.hid (HB8.out.trans (hb9.mono (by omega)))
        clear hb9
        go_wp2_with fail
        go_ret
        exact ⟨rfl, HB9.out⟩
    | false =>
      have e := HPT.out
      rw [hg] at e
      injection e with e1 e2
      subst e1 e2
      clear hg
      go_wp2_with fail
      refine (HP2.out _).mono ?_
      rintro e w6 ⟨rfl, hb6⟩
      have hs6 : w.heap.size + 1 ≤ w6.heap.size := by have := hb6.size; omega
      have HB6 := Lib.hid (HB5.out.trans (hb6.mono (by omega)))
      clear hb6
      have HY7 := Lib.hid (IdAt.new w6 q1)
      have HB7 := Lib.hid (HB6.out.alloc (by omega) (.cells (vb q1).toArray 26))
      cases q2 with
      | false =>
        try dsimp only
        iterate 16 (try first | (refine wp_alloc_row zero_id rfl rfl ?_) | (refine wp_fill_id rfl _ _ rfl rfl (by simp [Act.eval, Act.put]) q1 HQL.out rfl ?_) | go_values | go_skip | go_guarded | go_step | go_upon)
        go_wp2_with fail
        go_ret
        exact ⟨rfl, HB7.out⟩
      | true =>
        obtain ⟨et, eg⟩ := HQT.out rfl
        have ht2 := HQ1.out
        have hg2 := HQ2.out
        rw [et] at ht2
        rw [eg] at hg2
        have HT2 := Lib.hid ht2
        have HG2 := Lib.hid hg2
        clear et eg ht2 hg2
        try dsimp only
        iterate 16 (try first | (refine wp_alloc_row zero_id rfl rfl ?_) | (refine wp_fill_id rfl _ _ rfl rfl (by simp [Act.eval, Act.put]) q1 HQL.out rfl ?_) | go_values | go_skip | go_guarded | go_step | go_upon)
        repeat (first
          | (refine op_load_id _ rfl w6.heap.size rfl q1 HQL.out HY7.out ?_; try simp only [Act.put, List.setIfInBounds_toArray, List.set_cons_zero, List.set_cons_succ])
          | go_values | go_skip | go_guarded | go_step | go_upon)
        refine (HT2.out _).mono ?_
        rintro e w8 ⟨rfl, hb8⟩
        have hs8 : w6.heap.size + 1 ≤ w8.heap.size := by have := hb8.size; rw [asz] at this; exact this
        have HY8 := Lib.hid (HY7.out.below hb8 (by simp))
        have HB8 := Lib.hid (HB7.out.trans (hb8.mono (by simp; omega)))
        clear hb8 HY7 HB7
        try dsimp only
        repeat (first
          | (refine op_load_id _ rfl w6.heap.size rfl q1 HQL.out HY8.out ?_; try simp only [Act.put, List.setIfInBounds_toArray, List.set_cons_zero, List.set_cons_succ])
          | go_values | go_skip | go_guarded | go_step | go_upon)
        refine (HG2.out _).mono ?_
        rintro e w9 ⟨rfl, hb9⟩
        have HB9 := Lib.hid (HB8.out.trans (hb9.mono (by omega)))
        clear hb9
        go_wp2_with fail
        go_ret
        exact ⟨rfl, HB9.out⟩

end Go.Proofs.YtchimffminpacaaDoor.Cd

namespace Go.Proofs.YtchimffminpacaaDoor.IdentBack
open Go.RowKit Go.Proofs.YtchimffminpacaaDoor.Cd

theorem walk (v : Value) (l : List UInt8) (a : ByteArray) (w : World) (h : v = idV l ∧ l.length = 33) (ha : a.size ≤ 140737488351232) : Calls Tryd.prog 5 #[v, .string a] w (Gives (.bool true) w) := by
  obtain ⟨rfl, hl⟩ := h
  exact back_walk l a.data.toList w hl ha

end Go.Proofs.YtchimffminpacaaDoor.IdentBack
