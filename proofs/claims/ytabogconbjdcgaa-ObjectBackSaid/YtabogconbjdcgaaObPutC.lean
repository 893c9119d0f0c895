/-
  object.PutCommit. Conditions: none.
-/
import Derived.Test.YtabogconbjdcgaaObPutT
namespace Go.Proofs.Ytabogconbjdcgaa.Cd
open Go.RowKit

theorem isB_take {l : List Idn} {k : Nat} {p : Idn} (h : l[k]? = some p) : isB (l.take (k + 1)) = isB (l.take k) ++ textI p.1 := by
  obtain ⟨hk, rfl⟩ := List.getElem?_eq_some_iff.1 h
  rw [List.take_succ_eq_append_getElem hk, isB_snoc]
theorem isB_takelen {l : List Idn} {m : Nat} (h : (isB l).length ≤ m) {k : Nat} : (isB (l.take k)).length ≤ m := by
  refine Nat.le_trans ?_ h
  conv => rhs; rw [← List.take_append_drop k l]
  unfold isB
  rw [List.map_append, List.flatten_append, List.length_append]
  omega
theorem int_l2 (v : Value) (bs : List UInt8) (n : Int) (w : World) (hs : Sl w w.heap.size v bs) (h0 : 1 ≤ n) (h1 : n ≤ 1024) (hb : bs.length ≤ 100000000) :
    Calls Try.prog 43 #[v, .int .i64 n] w (Wrote w (bs ++ enc (zig n))) := int_any v bs n w hs (by omega) (by omega) (by omega)
theorem cells_com (c : Cmt) (vi : Value) : (Try.prog.info? 44).map (·.size) = some (cmC c vi).length := by
  rw [cmC_len]
  kernel_rfl
theorem ComAt.whole {w : World} {g : Nat} {c : Cmt} {vi : Value} (h : ComAt w g c vi) : w.rangeAt g 0 (cmC c vi) := fun j v hv => by
  rw [cell_of_row _ _ _ _ _ _ h, List.getElem?_toArray, Nat.zero_add]
  exact hv

set_option maxRecDepth 100000 in
set_option maxHeartbeats 3200000 in
theorem putc_any (v : Value) (c : Cmt) (w : World) (h : CmtIn w w.heap.size v c) : Calls Try.prog 18 #[v] w (Puts (GoodC c) (comB c) w) := by
  obtain ⟨vi, rfl, hi⟩ := h
  obtain ⟨A, cc, rfl, k1, l1⟩ := hi.len
  have hb1 : Below w.heap.size w (w.alloc (.cells (cmC c (.slice A c.is.length cc)).toArray 44)) := new_below _ _
  have hz1 : (w.alloc (.cells (cmC c (.slice A c.is.length cc)).toArray 44)).heap.size = w.heap.size + 1 := asz _ _
  have HC : Hid (ComAt (w.alloc (.cells (cmC c (.slice A c.is.length cc)).toArray 44)) w.heap.size c (.slice A c.is.length cc)) := ComAt.new _ _ _
  have HI : Hid (IsIn (w.alloc (.cells (cmC c (.slice A c.is.length cc)).toArray 44)) (w.alloc (.cells (cmC c (.slice A c.is.length cc)).toArray 44)).heap.size (.slice A c.is.length cc) c.is) := hi.on hb1
  have HI0 : Hid (IsIn w w.heap.size (.slice A c.is.length cc) c.is) := hi
  have HB1 := Lib.hid hb1
  have hr33 : Hid (c.root.1.length = 33) := c.root.2
  have hcw := cells_com c (.slice A c.is.length cc)
  obtain ⟨CW, hCW⟩ : ∃ x, (cmC c (.slice A c.is.length cc)).toArray = x := ⟨_, rfl⟩
  have HWH : Hid ((w.alloc (.cells (cmC c (.slice A c.is.length cc)).toArray 44)).rangeAt w.heap.size 0 (cmC c (.slice A c.is.length cc))) := ComAt.whole HC.out
  clear hCW
  go_enter Try.func18, Try.ntmps18
  go_wp2_with (first
    | (refine wp_box_row rfl _ rfl rfl ?_)
    | (refine wpList_load_mid rfl 44 _ rfl w.heap.size 0 rfl (cmC c (.slice A c.is.length cc)) _ HWH.out Try.underlying44 rfl hcw ?_))
  clear hb1 hi HWH
  generalize w.alloc (.cells (cmC c (.slice A c.is.length cc)).toArray 44) = W1 at *
  refine (goodc_any _ c W1 ⟨_, rfl, HI.out⟩).mono ?_
  rintro e w2 ⟨s, rfl, hs, hb2⟩
  have HB2 := Lib.hid (HB1.out.trans (hb2.mono (by omega)))
  have HC2 := Lib.hid (HC.out.below hb2 (by omega))
  have HI2 : Hid (IsIn w2 w2.heap.size (.slice A c.is.length cc) c.is) := HI.out.on hb2
  have hs2 : w.heap.size + 1 ≤ w2.heap.size := by have := hb2.size; omega
  clear hb2 HB1 HC HI hcw hz1
  cases s
  · have hno : Hid (¬ GoodC c) := fun h => by have := hs.2 h; cases this
    clear hs
    go_wp2_with fail
    go_ret2
    exact ⟨_, _, rfl, HB2.out, .inr ⟨hno.out, rfl, rfl⟩⟩
  have hyes : Hid (GoodC c) := hs.1 rfl
  clear hs
  have hcb : Hid (comB c = 3 :: UInt8.ofNat c.is.length :: (textI c.root.1 ++ (isB c.is ++ (txt c.note ++ enc (zig c.num))))) := rfl
  have hl1 := isB_small hyes.out.is
  have hl2 := textI_len c.root.1
  have hl3 := hyes.out.note
  have hn0 := hyes.out.low
  have hn1 := hyes.out.high
  have hwl := wrap_len c.is.length
  have hfin : Hid (isB (c.is.take c.is.length) = isB c.is) := by unfold Hid; rw [List.take_length]
  generalize UInt8.ofNat c.is.length = n8 at *
  have d33 := HC2.out.is
  have HO2 : Hid (Own (w2.alloc (.cells #[.int .u8 3, .int .u8 n8.toNat] 5)) w2.heap.size (.slice (some ⟨w2.heap.size, 0, none⟩) 2 2) [3, n8]) := own_two w2 _ (Nat.le_refl _) 3 n8 _ _ rfl rfl
  have hb3 : Below w2.heap.size w2 (w2.alloc (.cells #[.int .u8 3, .int .u8 n8.toNat] 5)) := new_below _ _
  have hz3 : (w2.alloc (.cells #[.int .u8 3, .int .u8 n8.toNat] 5)).heap.size = w2.heap.size + 1 := asz _ _
  have HC3 := Lib.hid (HC2.out.below hb3 (by omega))
  have HI3 : Hid (IsIn (w2.alloc (.cells #[.int .u8 3, .int .u8 n8.toNat] 5)) (w2.alloc (.cells #[.int .u8 3, .int .u8 n8.toNat] 5)).heap.size (.slice A c.is.length cc) c.is) := HI2.out.on hb3
  have HB3 := Lib.hid (HB2.out.trans (hb3.mono (by omega)))
  go_wp2_with (first
    | (refine wpList_load_mid rfl 41 _ rfl w.heap.size 0 rfl (vb c.root.1) _ HC3.out.id Try.underlying41 rfl (cells_ii c.root) ?_))
  clear hb3 HC2 HI2 d33 HB2
  generalize w2.alloc (.cells #[.int .u8 3, .int .u8 n8.toNat] 5) = w3 at *
  refine (text_l c.root.1 w3 hr33.out).mono ?_
  rintro e w4 ⟨rfl, hb4⟩
  have HB4 := Lib.hid (HB3.out.trans (hb4.mono (by omega)))
  have HC4 := Lib.hid (HC3.out.below hb4 (by omega))
  have HI4 : Hid (IsIn w4 w4.heap.size (.slice A c.is.length cc) c.is) := HI3.out.on hb4
  have HO4 := Lib.hid (HO2.out.keep hb4)
  have hs4 : w2.heap.size ≤ w4.heap.size := by have := hb4.size; omega
  clear hb4 HB3 HC3 HI3 HO2
  go_wp2_with (refine wp_append_text rfl _ _ rfl w2.heap.size _ [3, n8] rfl HO4.out hs4 ⟨(textI c.root.1).toArray⟩ rfl (by have : (ByteArray.mk (textI c.root.1).toArray).size = (textI c.root.1).length := rfl; simp only [List.length_cons, List.length_nil]; omega) ?_)
  intro v5 w5 ho5 hb5
  have HO5 : Hid (Own w5 w2.heap.size v5 (3 :: n8 :: textI c.root.1)) := ho5
  have HB5 := Lib.hid (HB4.out.trans (hb5.mono (by omega)))
  have HC5 := Lib.hid (HC4.out.below hb5 (by omega))
  have HI5 : Hid (IsIn w5 w.heap.size (.slice A c.is.length cc) c.is) := (HI0.out).below HB5.out
  have d33 := HC5.out.is
  have hs5 : w2.heap.size ≤ w5.heap.size := by have := hb5.size; omega
  clear hb5 ho5 HB4 HC4 HI4 HO4
  generalize textI c.root.1 = R0 at *
  go_wp2_with fail
  go_loopw [4, 23] (fun u i wr => ∃ k : Nat, i = .int .i64 k ∧ k ≤ c.is.length ∧ Hid (Own wr w2.heap.size u (3 :: n8 :: (R0 ++ isB (c.is.take k)))) ∧ Hid (ComAt wr w.heap.size c (.slice A c.is.length cc)) ∧ Hid (Below w.heap.size w wr) ∧ w2.heap.size ≤ wr.heap.size) (fun _ i _ => c.is.length - (intOf i).toNat)
  case atStart => exact ⟨0, rfl, by omega, (by unfold Hid; have := HO5.out; simpa [isB] using this), HC5.out, HB5.out, hs5⟩
  case round =>
    obtain ⟨k, rfl, hk, ho, hcm, hbl, hsr⟩ := hrel
    clear HO5 HC5 HB5 HI5 d33
    by_cases hlt : k < c.is.length
    · obtain ⟨x, hxk⟩ : ∃ x, c.is[k]? = some x := ⟨c.is[k], List.getElem?_eq_getElem hlt⟩
      obtain ⟨b2, off2, e2, hB2, rx⟩ := IsIn.range (HI0.out.below hbl.out) hxk
      subst e2
      have RX := Lib.hid rx
      clear rx
      have hnx := isB_take hxk
      have hlk1 := isB_takelen hl1 (k := k + 1)
      rw [hnx] at hlk1
      have HNX := Lib.hid hnx
      clear hnx hxk
      generalize isB (c.is.take k) = R at *
      rw [List.length_append] at hlk1
      have hx33 : Hid (x.1.length = 33) := x.2
      have HX : Hid (IdAt (wr.alloc (.cells (vb x.1).toArray 41)) wr.heap.size x.1) := IdAt.new _ _
      have HO1 : Hid (Own (wr.alloc (.cells (vb x.1).toArray 41)) w2.heap.size u4 (3 :: n8 :: (R0 ++ R))) := ho.out.alloc _
      have hb6 : Below wr.heap.size wr (wr.alloc (.cells (vb x.1).toArray 41)) := new_below _ _
      have hz6 : (wr.alloc (.cells (vb x.1).toArray 41)).heap.size = wr.heap.size + 1 := asz _ _
      have HB6 := Lib.hid (hbl.out.trans (hb6.mono (by omega)))
      have HC6 := Lib.hid (hcm.out.below hb6 (by omega))
      clear hb6
      go_wp2_with (first
        | (refine wpList_load_mid rfl 41 _ rfl b2 (off2 + k * 33) rfl (vb x.1) _ RX.out Try.underlying41 rfl (cells_ii x) ?_)
        | (refine wp_alloc_row zero_id rfl rfl ?_)
        | (refine wp_fill_id rfl _ _ rfl rfl (by simp [Act.eval, Act.put]) x.1 hx33.out rfl ?_)
        | (refine wp_load_id rfl _ rfl wr.heap.size rfl x.1 hx33.out HX.out ?_))
      generalize wr.alloc (.cells (vb x.1).toArray 41) = W6 at *
      refine (text_l x.1 W6 hx33.out).mono ?_
      rintro e w7 ⟨rfl, hb7⟩
      have HB7 := Lib.hid (HB6.out.trans (hb7.mono (by omega)))
      have HC7 := Lib.hid (HC6.out.below hb7 (by omega))
      have HO7 := Lib.hid (HO1.out.keep hb7)
      have hs7 : w2.heap.size ≤ w7.heap.size := by have := hb7.size; omega
      clear hb7 HB6 HC6 HO1
      go_wp2_with (refine wp_append_text rfl _ _ rfl w2.heap.size _ (3 :: n8 :: (R0 ++ R)) rfl HO7.out hs7 ⟨(textI x.1).toArray⟩ rfl (by have : (ByteArray.mk (textI x.1).toArray).size = (textI x.1).length := rfl; simp only [List.length_cons, List.length_append]; omega) ?_)
      intro v8 w8 ho8 hb8
      have HB8 := Lib.hid (HB7.out.trans (hb8.mono (by omega)))
      have HC8 := Lib.hid (HC7.out.below hb8 (by omega))
      have HO8 := Lib.hid ho8
      have hs8 : w2.heap.size ≤ w8.heap.size := by have := hb8.size; omega
      clear hb8 ho8
      go_wp2_with fail
      go_roundw
      case rel => exact ⟨k + 1, by go_num, by omega, by rw [HNX.out]; show Own w8 w2.heap.size v8 _; have := HO8.out; simpa using this, HC8.out, HB8.out, hs8⟩
      case measure => simp [intOf]; omega
    · have hkk : k = c.is.length := by omega
      subst hkk
      rw [hfin.out] at ho
      generalize isB c.is = R at *
      have hzn : (ByteArray.mk c.note.toArray).size = c.note.length := rfl
      go_wp2_with fail
      obtain ⟨W0, hW0⟩ : ∃ x, wr.drew = x := ⟨_, rfl⟩
      have hS0 : ComAt W0 w.heap.size c (.slice A c.is.length cc) := by rw [← hW0]; exact hcm.out
      have HBD : Hid (Below w.heap.size w W0) := by rw [← hW0]; exact hbl.out.drew
      have HOD : Hid (Own W0 w2.heap.size u4 (3 :: n8 :: (R0 ++ R))) := by rw [← hW0]; exact ho.out.drew
      have hs0 : w2.heap.size ≤ W0.heap.size := by rw [← hW0]; simpa using hsr
      refine region_begin hW0 (S := fun W => ComAt W w.heap.size c (.slice A c.is.length cc)) (by kernel_rfl) hS0 (fun hHeld => ?_)
      clear hW0 hS0
      refine take_at (i := 0) (u4) (some 32) (by decide) (by rfl) (by kernel_rfl) (by kernel_rfl) (by kernel_rfl) (fun _ _ _ h => h) (by rfl) (fun W hW => by go_simp) (by assumption) ?_
      try simp only [Act.put, List.setIfInBounds_toArray, List.set_cons_zero, List.set_cons_succ]
      refine take_at (i := 1) (.pointer (some ⟨w.heap.size, 34, none⟩)) (some 33) (by decide) (by rfl) (by kernel_rfl) (by kernel_rfl) (by kernel_rfl) (fun _ _ _ h => h) (by rfl) (fun W hW => by go_simp) (by assumption) ?_
      try simp only [Act.put, List.setIfInBounds_toArray, List.set_cons_zero, List.set_cons_succ]
      refine take_at (i := 2) (.string ⟨c.note.toArray⟩) (some 34) (by decide) (by rfl) (by kernel_rfl) (by kernel_rfl) (by kernel_rfl) (fun _ _ _ h => h) (by rfl) (fun W hW => by have := hW.note; go_simp) (by assumption) ?_
      try simp only [Act.put, List.setIfInBounds_toArray, List.set_cons_zero, List.set_cons_succ]
      refine take_at (i := 4) (.pointer (some ⟨w.heap.size, 35, none⟩)) (some 36) (by decide) (by rfl) (by kernel_rfl) (by kernel_rfl) (by kernel_rfl) (fun _ _ _ h => h) (by rfl) (fun W hW => by go_simp) (by assumption) ?_
      try simp only [Act.put, List.setIfInBounds_toArray, List.set_cons_zero, List.set_cons_succ]
      refine take_at (i := 5) (.int .i64 c.num) (some 37) (by decide) (by rfl) (by kernel_rfl) (by kernel_rfl) (by kernel_rfl) (fun _ _ _ h => h) (by rfl) (fun W hW => by have := hW.num; go_simp) (by assumption) ?_
      try simp only [Act.put, List.setIfInBounds_toArray, List.set_cons_zero, List.set_cons_succ]
      refine wpAnyH_ready (rs := [3]) (by kernel_rfl) (by simp) (AllReadyH.cons (Array.getElem?_eq_getElem (i := 3) (by decide)) (fun K9 hK => ?_) AllReadyH.nil)
      go_simp
      refine (text_l2 u4 (3 :: n8 :: (R0 ++ R)) c.note _ (HOD.out.sl) (by simp only [List.length_cons, List.length_append]; omega)).mono ?_
      rintro e w9 ⟨v9, rfl, ho9, hb9⟩
      have HB9 := Lib.hid (HBD.out.trans (hb9.mono (by omega)))
      have HO9 := Lib.hid ho9
      have hs9 := hb9.size
      refine hK.out _ _ (hHeld.below hb9 (by omega)) (fun hHeld => ?_)
      clear hK K9
      try simp only [Act.put, List.setIfInBounds_toArray, List.set_cons_zero, List.set_cons_succ]
      clear hb9 ho9
      refine wpAnyH_ready (rs := [6]) (by kernel_rfl) (by simp) (AllReadyH.cons (Array.getElem?_eq_getElem (i := 6) (by decide)) (fun K9 hK => ?_) AllReadyH.nil)
      go_simp
      refine (int_l2 v9 ((3 :: n8 :: (R0 ++ R)) ++ txt c.note) c.num _ (HO9.out.sl) hn0 hn1 (by simp only [List.length_cons, List.length_append, txt_short (Nat.le_trans hl3 (by omega))]; omega)).mono ?_
      rintro e wa ⟨va, rfl, hoa, hba⟩
      have HBa := Lib.hid (HB9.out.trans (hba.mono (by omega)))
      have HOa := Lib.hid (hoa.lower (by omega : w.heap.size ≤ w9.heap.size))
      refine hK.out _ _ (hHeld.below hba (by omega)) (fun hHeld => ?_)
      clear hK K9
      try simp only [Act.put, List.setIfInBounds_toArray, List.set_cons_zero, List.set_cons_succ]
      clear hba hoa
      refine take_at (i := 7) (va) (some 2) (by decide) (by rfl) (by kernel_rfl) (by kernel_rfl) (by kernel_rfl) (fun _ _ _ h => h) (by rfl) (fun W hW => by go_simp) (by assumption) ?_
      try simp only [Act.put, List.setIfInBounds_toArray, List.set_cons_zero, List.set_cons_succ]
      refine take_at (i := 8) (.int .i64 0) (some 3) (by decide) (by rfl) (by kernel_rfl) (by kernel_rfl) (by kernel_rfl) (fun _ _ _ h => h) (by rfl) (fun W hW => by go_simp) (by assumption) ?_
      try simp only [Act.put, List.setIfInBounds_toArray, List.set_cons_zero, List.set_cons_succ]
      refine wpAnyH_done (by kernel_rfl) ?_ _
      try simp only [Act.put, List.setIfInBounds_toArray, List.set_cons_zero, List.set_cons_succ]
      go_wp2_with fail
      go_ret2
      exact ⟨_, _, rfl, HBa.out, .inl ⟨hyes.out, rfl, by rw [hcb.out]; have := HOa.out; simpa using this⟩⟩

end Go.Proofs.Ytabogconbjdcgaa.Cd
