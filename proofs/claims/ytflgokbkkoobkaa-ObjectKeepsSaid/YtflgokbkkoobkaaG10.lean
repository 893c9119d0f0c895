/-
  The document's Commit: a commit's bytes, of one that can be. Conditions: none.
-/
import Derived.Test.YtflgokbkkoobkaaG9
namespace Go.Proofs.Ytflgokbkkoobkaa.Cd
open Go.RowKit

theorem rint_l (n : Int) (w : World) (h0 : 1 ≤ n) (h1 : n ≤ 1024) : Calls Try.prog 23 #[.int .i64 n] w (Gives (.string ⟨(enc (zig n)).toArray⟩) w) := ref_int_any n w (by omega) (by omega)

set_option maxRecDepth 100000 in
set_option maxHeartbeats 6400000 in
theorem rcom_any (v : Value) (c : Cmt) (w : World) (h : CmtIn w w.heap.size v c) (hg : GoodC c) : Calls Try.prog 12 #[v] w (Gives (.string ⟨(comB c).toArray⟩) w) := by
  obtain ⟨vi, rfl, hi⟩ := h
  obtain ⟨A, cc, rfl, k1, l1⟩ := hi.len
  have HI0 : Hid (IsIn w w.heap.size (.slice A c.is.length cc) c.is) := hi
  have hb1 : Below w.heap.size w (w.alloc (.cells (cmC c (.slice A c.is.length cc)).toArray 31)) := new_below _ _
  have hz1 : (w.alloc (.cells (cmC c (.slice A c.is.length cc)).toArray 31)).heap.size = w.heap.size + 1 := asz _ _
  have HC : Hid (ComAt (w.alloc (.cells (cmC c (.slice A c.is.length cc)).toArray 31)) w.heap.size c (.slice A c.is.length cc)) := ComAt.new _ _ _
  have HB1 := Lib.hid hb1
  have hcb : Hid (comB c = 3 :: UInt8.ofNat c.is.length :: (textI c.root.1 ++ (isB c.is ++ (txt c.note ++ enc (zig c.num))))) := rfl
  have HT0 := Lib.hid (fun W => name_l c.root.1 W c.root.2)
  have hl0 := textI_len c.root.1
  have hl1 := isB_small hg.is
  have hl3 := hg.note
  have hn0 := hg.low
  have hn1 := hg.high
  have hl4 := num_small hn0 hn1
  have hl5 : (txt c.note).length ≤ 33 := by rw [txt_short (by omega)]; omega
  have HX1 := Lib.hid (fun W => rtxt_any c.note W (by omega))
  have HX2 := Lib.hid (fun W => rint_l c.num W hn0 hn1)
  have hwl := wrap_len c.is.length
  have hfin : Hid (isB (c.is.take c.is.length) = isB c.is) := by unfold Hid; rw [List.take_length]
  generalize comB c = CB at *
  generalize UInt8.ofNat c.is.length = n8 at *
  generalize textI c.root.1 = T0 at *
  generalize txt c.note = T1 at *
  generalize enc (zig c.num) = T2 at *
  obtain ⟨L0, hL0⟩ : ∃ L, [3, n8] ++ T0 = L := ⟨_, rfl⟩
  have hL0l : L0.length = T0.length + 2 := by rw [← hL0, List.length_append]; simp; omega
  have hadd0 := fun W => add_text W [3, n8] T0 (by simp only [List.length_cons, List.length_nil]; omega)
  rw [hL0] at hadd0
  have HL0 := Lib.hid hL0
  clear hL0 hi hg hb1
  go_enter Try.func12, Try.ntmps12
  go_wp2_with (refine wp_box_row rfl _ rfl rfl ?_)
  generalize w.alloc (.cells (cmC c (.slice A c.is.length cc)).toArray 31) = w1 at *
  obtain ⟨W0, hW0⟩ : ∃ x, w1.drew = x := ⟨_, rfl⟩
  have hS0 : ComAt W0 w.heap.size c (.slice A c.is.length cc) := by rw [← hW0]; exact HC.out
  have HB0 : Hid (Below w.heap.size w W0) := by rw [← hW0]; exact HB1.out.drew
  have hs0 : W0.heap.size = w.heap.size + 1 := by rw [← hW0]; exact hz1
  clear HC HB1 hz1
  refine region_begin hW0 (S := fun W => ComAt W w.heap.size c (.slice A c.is.length cc)) (by kernel_rfl) hS0 (fun hHeld => ?_)
  clear hW0 hS0
  refine take_at (i := 0) (.pointer (some ⟨w.heap.size, 33, none⟩)) (some 6) (by decide) (by rfl) (by kernel_rfl) (by kernel_rfl) (by kernel_rfl) (fun _ _ _ h => h) (by rfl) (fun W hW => by go_simp) (by assumption) ?_
  try simp only [Act.put, List.setIfInBounds_toArray, List.set_cons_zero, List.set_cons_succ]
  refine take_at (i := 1) (.slice A c.is.length cc) (some 7) (by decide) (by rfl) (by kernel_rfl) (by kernel_rfl) (by kernel_rfl) (fun _ _ _ h => h) (by rfl) (fun W hW => by have := hW.is; go_simp) (by assumption) ?_
  try simp only [Act.put, List.setIfInBounds_toArray, List.set_cons_zero, List.set_cons_succ]
  refine take_at (i := 2) (.int .i64 c.is.length) (some 8) (by decide) (by rfl) (by kernel_rfl) (by kernel_rfl) (by kernel_rfl) (fun _ _ _ h => h) (by rfl) (fun W hW => by go_simp) (by assumption) ?_
  try simp only [Act.put, List.setIfInBounds_toArray, List.set_cons_zero, List.set_cons_succ]
  refine take_at (i := 3) (.int .u8 n8.toNat) (some 9) (by decide) (by rfl) (by kernel_rfl) (by kernel_rfl) (by kernel_rfl) (fun _ _ _ h => h) (by rfl) (fun W hW => by go_simp) (by assumption) ?_
  try simp only [Act.put, List.setIfInBounds_toArray, List.set_cons_zero, List.set_cons_succ]
  refine take_at (i := 6) (.pointer (some ⟨w.heap.size, 0, none⟩)) (some 12) (by decide) (by rfl) (by kernel_rfl) (by kernel_rfl) (by kernel_rfl) (fun _ _ _ h => h) (by rfl) (fun W hW => by go_simp) (by assumption) ?_
  try simp only [Act.put, List.setIfInBounds_toArray, List.set_cons_zero, List.set_cons_succ]
  refine take_at (i := 7) (idV c.root.1) (some 13) (by decide) (by rfl) (by kernel_rfl) (by kernel_rfl) (by kernel_rfl) (fun _ _ _ h => h) (by rfl) (fun W hW => by exact exec_load_mid _ _ rfl w.heap.size 0 rfl (vb c.root.1) _ hW.id Try.underlying28 rfl (cells_ii c.root)) (by assumption) ?_
  try simp only [Act.put, List.setIfInBounds_toArray, List.set_cons_zero, List.set_cons_succ]
  refine wpAnyH_ready (rs := [4, 8]) (by kernel_rfl) (by simp) ?_
  refine AllReadyH.cons (Array.getElem?_eq_getElem (i := 4) (by decide)) (fun K9 hK => ?_) ?_
  · go_simp
    have hnb := new_below W0 (.cells #[.int .u8 3, .int .u8 n8.toNat] 5)
    have HO4 : Hid (Own (W0.alloc (.cells #[.int .u8 3, .int .u8 n8.toNat] 5)) W0.heap.size (.slice (some ⟨W0.heap.size, 0, none⟩) 2 2) [3, n8]) := own_two W0 _ (Nat.le_refl _) 3 n8 _ _ rfl rfl
    have HB4 := Lib.hid (HB0.out.trans (hnb.mono (by omega)))
    have hs4 : W0.heap.size + 1 = (W0.alloc (.cells #[.int .u8 3, .int .u8 n8.toNat] 5)).heap.size := (asz _ _).symm
    refine hK.out _ _ (hHeld.below hnb (by omega)) (fun hHeld => ?_)
    clear hK K9 hnb
    try simp only [Act.put, List.setIfInBounds_toArray, List.set_cons_zero, List.set_cons_succ]
    rw [hs0] at HO4
    generalize W0.alloc (.cells #[.int .u8 3, .int .u8 n8.toNat] 5) = w4 at *
    refine wpAnyH_ready (rs := [5, 8]) (by kernel_rfl) (by simp) ?_
    refine come (i := 5) (.string ⟨[3, n8].toArray⟩) w4 (some 11) (by decide) (by rfl) (by rfl) (by have := run_text_of _ _ _ _ HO4.out.sl; go_simp) hHeld ?_ ?_
    · try simp only [Act.put, List.setIfInBounds_toArray, List.set_cons_zero, List.set_cons_succ]
      refine wpAnyH_ready (rs := [8]) (by kernel_rfl) (by simp) ?_
      refine AllReadyH.cons (Array.getElem?_eq_getElem (i := 8) (by decide)) (fun K9 hK => ?_) AllReadyH.nil
      go_simp
      refine (HT0.out _).mono ?_
      rintro e w8 ⟨rfl, hb8⟩
      have HB8 := Lib.hid (HB4.out.trans (hb8.mono (by omega)))
      have hs8 := hb8.size
      refine hK.out _ _ (hHeld.below hb8 (by omega)) (fun hHeld => ?_)
      clear hK K9 hb8
      try simp only [Act.put, List.setIfInBounds_toArray, List.set_cons_zero, List.set_cons_succ]
      refine take_at (i := 9) (.string ⟨L0.toArray⟩) (some 15) (by decide) (by rfl) (by kernel_rfl) (by kernel_rfl) (by kernel_rfl) (fun _ _ _ h => h) (by rfl) (fun W hW => by go_simp) (by assumption) ?_
      try simp only [Act.put, List.setIfInBounds_toArray, List.set_cons_zero, List.set_cons_succ]
      refine take_at (i := 10) (.string ⟨L0.toArray⟩) (some 3) (by decide) (by rfl) (by kernel_rfl) (by kernel_rfl) (by kernel_rfl) (fun _ _ _ h => h) (by rfl) (fun W hW => by go_simp) (by assumption) ?_
      try simp only [Act.put, List.setIfInBounds_toArray, List.set_cons_zero, List.set_cons_succ]
      refine wpAnyH_done (by kernel_rfl) ?_ _
      try simp only [Act.put, List.setIfInBounds_toArray, List.set_cons_zero, List.set_cons_succ]
      have HCX := Lib.hid hHeld
      have HBX := Lib.hid HB8.out
      have hsx : w.heap.size < w8.heap.size := by omega
      clear hHeld HB0
      have d33 := HCX.out.is
      go_wp2_with fail
      go_loopw [3, 19] (fun u i wr => ∃ k : Nat, i = .int .i64 k ∧ k ≤ c.is.length ∧ u = .string ⟨(L0 ++ isB (c.is.take k)).toArray⟩ ∧ Hid (ComAt wr w.heap.size c (.slice A c.is.length cc)) ∧ Hid (Below w.heap.size w wr) ∧ w.heap.size < wr.heap.size) (fun _ i _ => c.is.length - (intOf i).toNat)
      case atStart => exact ⟨0, rfl, by omega, by rw [show isB (c.is.take 0) = [] from rfl, List.append_nil], HCX.out, HBX.out, hsx⟩
      case round =>
        clear HCX HBX hsx d33
        obtain ⟨k, rfl, hk, rfl, hcm, hbl, hsr⟩ := hrel
        by_cases hlt : k < c.is.length
        · obtain ⟨x, hxk⟩ : ∃ x, c.is[k]? = some x := ⟨c.is[k], List.getElem?_eq_getElem hlt⟩
          obtain ⟨b2, off2, e2, hB2, rx⟩ := IsIn.range (HI0.out.below hbl.out) hxk
          subst e2
          have RX := Lib.hid rx
          clear rx
          have hnx := isB_take hxk
          have hlk1 := isB_takelen hl1 (k := k + 1)
          rw [hnx] at hlk1
          have HNX := Lib.hid hnx
          clear hnx hxk
          generalize isB (c.is.take k) = R at *
          rw [List.length_append] at hlk1
          have hx33 : Hid (x.1.length = 33) := x.2
          have HXN := Lib.hid (fun W => name_l x.1 W x.2)
          generalize textI x.1 = T at *
          obtain ⟨M0, hM0⟩ : ∃ L, L0 ++ R = L := ⟨_, rfl⟩
          have hM0l : M0.length = L0.length + R.length := by rw [← hM0, List.length_append]
          have hadd := fun W => add_text W M0 T (by omega)
          have HM0 := Lib.hid hM0
          rw [hM0]
          clear hM0
          have HX : Hid (IdAt (wr.alloc (.cells (vb x.1).toArray 28)) wr.heap.size x.1) := IdAt.new _ _
          have hb6 : Below wr.heap.size wr (wr.alloc (.cells (vb x.1).toArray 28)) := new_below _ _
          have hz6 : (wr.alloc (.cells (vb x.1).toArray 28)).heap.size = wr.heap.size + 1 := asz _ _
          have HB6 := Lib.hid (hbl.out.trans (hb6.mono (by omega)))
          have HC6 := Lib.hid (hcm.out.below hb6 (by omega))
          clear hb6
          go_wp2_with (first
            | (refine wpList_load_mid rfl 28 _ rfl b2 (off2 + k * 33) rfl (vb x.1) _ RX.out Try.underlying28 rfl (cells_ii x) ?_)
            | (refine wp_alloc_row zero_id rfl rfl ?_)
            | (refine wp_fill_id rfl _ _ rfl rfl (by simp [Act.eval, Act.put]) x.1 hx33.out rfl ?_)
            | (refine wp_load_id rfl _ rfl wr.heap.size rfl x.1 hx33.out HX.out ?_))
          generalize wr.alloc (.cells (vb x.1).toArray 28) = W6 at *
          refine (HXN.out W6).mono ?_
          rintro e w7 ⟨rfl, hb7⟩
          have HB7 := Lib.hid (HB6.out.trans (hb7.mono (by omega)))
          have HC7 := Lib.hid (HC6.out.below hb7 (by omega))
          have hs7 : w.heap.size < w7.heap.size := by have := hb7.size; omega
          clear hb7 HB6 HC6
          go_wp2_with fail
          go_roundw
          case rel => exact ⟨k + 1, by go_num, by omega, by rw [HNX.out, ← List.append_assoc, HM0.out], HC7.out, HB7.out, hs7⟩
          case measure => simp [intOf]; omega
        · have hkk : k = c.is.length := by omega
          subst hkk
          rw [hfin.out]
          generalize isB c.is = R at *
          obtain ⟨M0, hM0⟩ : ∃ L, L0 ++ R = L := ⟨_, rfl⟩
          have hM0l : M0.length = L0.length + R.length := by rw [← hM0, List.length_append]
          obtain ⟨M1, hM1⟩ : ∃ L, M0 ++ T1 = L := ⟨_, rfl⟩
          have hM1l : M1.length = M0.length + T1.length := by rw [← hM1, List.length_append]
          obtain ⟨M2, hM2⟩ : ∃ L, M1 ++ T2 = L := ⟨_, rfl⟩
          have hadd1 := fun W => add_text W M0 T1 (by omega)
          have hadd2 := fun W => add_text W M1 T2 (by omega)
          rw [hM1] at hadd1
          rw [hM2] at hadd2
          have HE : Hid (CB = M2) := by
            unfold Hid
            rw [hcb.out, ← hM2, ← hM1, ← hM0, ← HL0.out]
            simp
          rw [hM0]
          clear hM0 hM1 hM2
          go_wp2_with fail
          obtain ⟨W9, hW0⟩ : ∃ x, wr.drew = x := ⟨_, rfl⟩
          have hS0 : ComAt W9 w.heap.size c (.slice A c.is.length cc) := by rw [← hW0]; exact hcm.out
          have HBD : Hid (Below w.heap.size w W9) := by rw [← hW0]; exact hbl.out.drew
          have hs9 : w.heap.size < W9.heap.size := by rw [← hW0]; simpa using hsr
          clear hcm hbl hsr
          refine region_begin hW0 (S := fun W => ComAt W w.heap.size c (.slice A c.is.length cc)) (by kernel_rfl) hS0 (fun hHeld => ?_)
          clear hW0 hS0
          refine take_at (i := 0) (.string ⟨M0.toArray⟩) (some 28) (by decide) (by rfl) (by kernel_rfl) (by kernel_rfl) (by kernel_rfl) (fun _ _ _ h => h) (by rfl) (fun W hW => by go_simp) (by assumption) ?_
          try simp only [Act.put, List.setIfInBounds_toArray, List.set_cons_zero, List.set_cons_succ]
          refine take_at (i := 1) (.pointer (some ⟨w.heap.size, 34, none⟩)) (some 29) (by decide) (by rfl) (by kernel_rfl) (by kernel_rfl) (by kernel_rfl) (fun _ _ _ h => h) (by rfl) (fun W hW => by go_simp) (by assumption) ?_
          try simp only [Act.put, List.setIfInBounds_toArray, List.set_cons_zero, List.set_cons_succ]
          refine take_at (i := 2) (.string ⟨c.note.toArray⟩) (some 30) (by decide) (by rfl) (by kernel_rfl) (by kernel_rfl) (by kernel_rfl) (fun _ _ _ h => h) (by rfl) (fun W hW => by have := hW.note; go_simp) (by assumption) ?_
          try simp only [Act.put, List.setIfInBounds_toArray, List.set_cons_zero, List.set_cons_succ]
          refine take_at (i := 5) (.pointer (some ⟨w.heap.size, 35, none⟩)) (some 33) (by decide) (by rfl) (by kernel_rfl) (by kernel_rfl) (by kernel_rfl) (fun _ _ _ h => h) (by rfl) (fun W hW => by go_simp) (by assumption) ?_
          try simp only [Act.put, List.setIfInBounds_toArray, List.set_cons_zero, List.set_cons_succ]
          refine take_at (i := 6) (.int .i64 c.num) (some 34) (by decide) (by rfl) (by kernel_rfl) (by kernel_rfl) (by kernel_rfl) (fun _ _ _ h => h) (by rfl) (fun W hW => by have := hW.num; go_simp) (by assumption) ?_
          try simp only [Act.put, List.setIfInBounds_toArray, List.set_cons_zero, List.set_cons_succ]
          refine wpAnyH_ready (rs := [3]) (by kernel_rfl) (by simp) (AllReadyH.cons (Array.getElem?_eq_getElem (i := 3) (by decide)) (fun K9 hK => ?_) AllReadyH.nil)
          go_simp
          refine (HX1.out _).mono ?_
          rintro e wa ⟨rfl, hba⟩
          have HBa := Lib.hid (HBD.out.trans (hba.mono (by omega)))
          have hsa := hba.size
          refine hK.out _ _ (hHeld.below hba (by omega)) (fun hHeld => ?_)
          clear hK K9
          try simp only [Act.put, List.setIfInBounds_toArray, List.set_cons_zero, List.set_cons_succ]
          clear hba
          refine take_at (i := 4) (.string ⟨M1.toArray⟩) (some 32) (by decide) (by rfl) (by kernel_rfl) (by kernel_rfl) (by kernel_rfl) (fun _ _ _ h => h) (by rfl) (fun W hW => by go_simp) (by assumption) ?_
          try simp only [Act.put, List.setIfInBounds_toArray, List.set_cons_zero, List.set_cons_succ]
          refine wpAnyH_ready (rs := [7]) (by kernel_rfl) (by simp) (AllReadyH.cons (Array.getElem?_eq_getElem (i := 7) (by decide)) (fun K9 hK => ?_) AllReadyH.nil)
          go_simp
          refine (HX2.out _).mono ?_
          rintro e wb ⟨rfl, hbb⟩
          have HBb := Lib.hid (HBa.out.trans (hbb.mono (by omega)))
          refine hK.out _ _ (hHeld.below hbb (by omega)) (fun hHeld => ?_)
          clear hK K9
          try simp only [Act.put, List.setIfInBounds_toArray, List.set_cons_zero, List.set_cons_succ]
          clear hbb
          refine take_at (i := 8) (.string ⟨M2.toArray⟩) (some 36) (by decide) (by rfl) (by kernel_rfl) (by kernel_rfl) (by kernel_rfl) (fun _ _ _ h => h) (by rfl) (fun W hW => by go_simp) (by assumption) ?_
          try simp only [Act.put, List.setIfInBounds_toArray, List.set_cons_zero, List.set_cons_succ]
          refine take_at (i := 9) (.string ⟨M2.toArray⟩) (some 2) (by decide) (by rfl) (by kernel_rfl) (by kernel_rfl) (by kernel_rfl) (fun _ _ _ h => h) (by rfl) (fun W hW => by go_simp) (by assumption) ?_
          try simp only [Act.put, List.setIfInBounds_toArray, List.set_cons_zero, List.set_cons_succ]
          refine wpAnyH_done (by kernel_rfl) ?_ _
          try simp only [Act.put, List.setIfInBounds_toArray, List.set_cons_zero, List.set_cons_succ]
          go_wp2_with fail
          go_ret
          exact ⟨by rw [HE.out]; rfl, HBb.out⟩
    · refine AllReadyH.cons (Array.getElem?_eq_getElem (i := 8) (by decide)) (fun K9 hK => ?_) AllReadyH.nil
      go_simp
      refine (HT0.out _).mono ?_
      rintro e w8 ⟨rfl, hb8⟩
      have HB8 := Lib.hid (HB4.out.trans (hb8.mono (by omega)))
      have hs8 := hb8.size
      have HO8 := Lib.hid (HO4.out.keep hb8)
      refine hK.out _ _ (hHeld.below hb8 (by omega)) (fun hHeld => ?_)
      clear hK K9 hb8
      try simp only [Act.put, List.setIfInBounds_toArray, List.set_cons_zero, List.set_cons_succ]
      refine wpAnyH_ready (rs := [5]) (by kernel_rfl) (by simp) ?_
      refine come (i := 5) (.string ⟨[3, n8].toArray⟩) w8 (some 11) (by decide) (by rfl) (by rfl) (by have := run_text_of _ _ _ _ HO8.out.sl; go_simp) hHeld ?_ AllReadyH.nil
      try simp only [Act.put, List.setIfInBounds_toArray, List.set_cons_zero, List.set_cons_succ]
      refine take_at (i := 9) (.string ⟨L0.toArray⟩) (some 15) (by decide) (by rfl) (by kernel_rfl) (by kernel_rfl) (by kernel_rfl) (fun _ _ _ h => h) (by rfl) (fun W hW => by go_simp) (by assumption) ?_
      try simp only [Act.put, List.setIfInBounds_toArray, List.set_cons_zero, List.set_cons_succ]
      refine take_at (i := 10) (.string ⟨L0.toArray⟩) (some 3) (by decide) (by rfl) (by kernel_rfl) (by kernel_rfl) (by kernel_rfl) (fun _ _ _ h => h) (by rfl) (fun W hW => by go_simp) (by assumption) ?_
      try simp only [Act.put, List.setIfInBounds_toArray, List.set_cons_zero, List.set_cons_succ]
      refine wpAnyH_done (by kernel_rfl) ?_ _
      try simp only [Act.put, List.setIfInBounds_toArray, List.set_cons_zero, List.set_cons_succ]
      have HCX := Lib.hid hHeld
      have HBX := Lib.hid HB8.out
      have hsx : w.heap.size < w8.heap.size := by omega
      clear hHeld HB0
      have d33 := HCX.out.is
      go_wp2_with fail
      go_loopw [3, 19] (fun u i wr => ∃ k : Nat, i = .int .i64 k ∧ k ≤ c.is.length ∧ u = .string ⟨(L0 ++ isB (c.is.take k)).toArray⟩ ∧ Hid (ComAt wr w.heap.size c (.slice A c.is.length cc)) ∧ Hid (Below w.heap.size w wr) ∧ w.heap.size < wr.heap.size) (fun _ i _ => c.is.length - (intOf i).toNat)
      case atStart => exact ⟨0, rfl, by omega, by rw [show isB (c.is.take 0) = [] from rfl, List.append_nil], HCX.out, HBX.out, hsx⟩
      case round =>
        clear HCX HBX hsx d33
        obtain ⟨k, rfl, hk, rfl, hcm, hbl, hsr⟩ := hrel
        by_cases hlt : k < c.is.length
        · obtain ⟨x, hxk⟩ : ∃ x, c.is[k]? = some x := ⟨c.is[k], List.getElem?_eq_getElem hlt⟩
          obtain ⟨b2, off2, e2, hB2, rx⟩ := IsIn.range (HI0.out.below hbl.out) hxk
          subst e2
          have RX := Lib.hid rx
          clear rx
          have hnx := isB_take hxk
          have hlk1 := isB_takelen hl1 (k := k + 1)
          rw [hnx] at hlk1
          have HNX := Lib.hid hnx
          clear hnx hxk
          generalize isB (c.is.take k) = R at *
          rw [List.length_append] at hlk1
          have hx33 : Hid (x.1.length = 33) := x.2
          have HXN := Lib.hid (fun W => name_l x.1 W x.2)
          generalize textI x.1 = T at *
          obtain ⟨M0, hM0⟩ : ∃ L, L0 ++ R = L := ⟨_, rfl⟩
          have hM0l : M0.length = L0.length + R.length := by rw [← hM0, List.length_append]
          have hadd := fun W => add_text W M0 T (by omega)
          have HM0 := Lib.hid hM0
          rw [hM0]
          clear hM0
          have HX : Hid (IdAt (wr.alloc (.cells (vb x.1).toArray 28)) wr.heap.size x.1) := IdAt.new _ _
          have hb6 : Below wr.heap.size wr (wr.alloc (.cells (vb x.1).toArray 28)) := new_below _ _
          have hz6 : (wr.alloc (.cells (vb x.1).toArray 28)).heap.size = wr.heap.size + 1 := asz _ _
          have HB6 := Lib.hid (hbl.out.trans (hb6.mono (by omega)))
          have HC6 := Lib.hid (hcm.out.below hb6 (by omega))
          clear hb6
          go_wp2_with (first
            | (refine wpList_load_mid rfl 28 _ rfl b2 (off2 + k * 33) rfl (vb x.1) _ RX.out Try.underlying28 rfl (cells_ii x) ?_)
            | (refine wp_alloc_row zero_id rfl rfl ?_)
            | (refine wp_fill_id rfl _ _ rfl rfl (by simp [Act.eval, Act.put]) x.1 hx33.out rfl ?_)
            | (refine wp_load_id rfl _ rfl wr.heap.size rfl x.1 hx33.out HX.out ?_))
          generalize wr.alloc (.cells (vb x.1).toArray 28) = W6 at *
          refine (HXN.out W6).mono ?_
          rintro e w7 ⟨rfl, hb7⟩
          have HB7 := Lib.hid (HB6.out.trans (hb7.mono (by omega)))
          have HC7 := Lib.hid (HC6.out.below hb7 (by omega))
          have hs7 : w.heap.size < w7.heap.size := by have := hb7.size; omega
          clear hb7 HB6 HC6
          go_wp2_with fail
          go_roundw
          case rel => exact ⟨k + 1, by go_num, by omega, by rw [HNX.out, ← List.append_assoc, HM0.out], HC7.out, HB7.out, hs7⟩
          case measure => simp [intOf]; omega
        · have hkk : k = c.is.length := by omega
          subst hkk
          rw [hfin.out]
          generalize isB c.is = R at *
          obtain ⟨M0, hM0⟩ : ∃ L, L0 ++ R = L := ⟨_, rfl⟩
          have hM0l : M0.length = L0.length + R.length := by rw [← hM0, List.length_append]
          obtain ⟨M1, hM1⟩ : ∃ L, M0 ++ T1 = L := ⟨_, rfl⟩
          have hM1l : M1.length = M0.length + T1.length := by rw [← hM1, List.length_append]
          obtain ⟨M2, hM2⟩ : ∃ L, M1 ++ T2 = L := ⟨_, rfl⟩
          have hadd1 := fun W => add_text W M0 T1 (by omega)
          have hadd2 := fun W => add_text W M1 T2 (by omega)
          rw [hM1] at hadd1
          rw [hM2] at hadd2
          have HE : Hid (CB = M2) := by
            unfold Hid
            rw [hcb.out, ← hM2, ← hM1, ← hM0, ← HL0.out]
            simp
          rw [hM0]
          clear hM0 hM1 hM2
          go_wp2_with fail
          obtain ⟨W9, hW0⟩ : ∃ x, wr.drew = x := ⟨_, rfl⟩
          have hS0 : ComAt W9 w.heap.size c (.slice A c.is.length cc) := by rw [← hW0]; exact hcm.out
          have HBD : Hid (Below w.heap.size w W9) := by rw [← hW0]; exact hbl.out.drew
          have hs9 : w.heap.size < W9.heap.size := by rw [← hW0]; simpa using hsr
          clear hcm hbl hsr
          refine region_begin hW0 (S := fun W => ComAt W w.heap.size c (.slice A c.is.length cc)) (by kernel_rfl) hS0 (fun hHeld => ?_)
          clear hW0 hS0
          refine take_at (i := 0) (.string ⟨M0.toArray⟩) (some 28) (by decide) (by rfl) (by kernel_rfl) (by kernel_rfl) (by kernel_rfl) (fun _ _ _ h => h) (by rfl) (fun W hW => by go_simp) (by assumption) ?_
          try simp only [Act.put, List.setIfInBounds_toArray, List.set_cons_zero, List.set_cons_succ]
          refine take_at (i := 1) (.pointer (some ⟨w.heap.size, 34, none⟩)) (some 29) (by decide) (by rfl) (by kernel_rfl) (by kernel_rfl) (by kernel_rfl) (fun _ _ _ h => h) (by rfl) (fun W hW => by go_simp) (by assumption) ?_
          try simp only [Act.put, List.setIfInBounds_toArray, List.set_cons_zero, List.set_cons_succ]
          refine take_at (i := 2) (.string ⟨c.note.toArray⟩) (some 30) (by decide) (by rfl) (by kernel_rfl) (by kernel_rfl) (by kernel_rfl) (fun _ _ _ h => h) (by rfl) (fun W hW => by have := hW.note; go_simp) (by assumption) ?_
          try simp only [Act.put, List.setIfInBounds_toArray, List.set_cons_zero, List.set_cons_succ]
          refine take_at (i := 5) (.pointer (some ⟨w.heap.size, 35, none⟩)) (some 33) (by decide) (by rfl) (by kernel_rfl) (by kernel_rfl) (by kernel_rfl) (fun _ _ _ h => h) (by rfl) (fun W hW => by go_simp) (by assumption) ?_
          try simp only [Act.put, List.setIfInBounds_toArray, List.set_cons_zero, List.set_cons_succ]
          refine take_at (i := 6) (.int .i64 c.num) (some 34) (by decide) (by rfl) (by kernel_rfl) (by kernel_rfl) (by kernel_rfl) (fun _ _ _ h => h) (by rfl) (fun W hW => by have := hW.num; go_simp) (by assumption) ?_
          try simp only [Act.put, List.setIfInBounds_toArray, List.set_cons_zero, List.set_cons_succ]
          refine wpAnyH_ready (rs := [3]) (by kernel_rfl) (by simp) (AllReadyH.cons (Array.getElem?_eq_getElem (i := 3) (by decide)) (fun K9 hK => ?_) AllReadyH.nil)
          go_simp
          refine (HX1.out _).mono ?_
          rintro e wa ⟨rfl, hba⟩
          have HBa := Lib.hid (HBD.out.trans (hba.mono (by omega)))
          have hsa := hba.size
          refine hK.out _ _ (hHeld.below hba (by omega)) (fun hHeld => ?_)
          clear hK K9
          try simp only [Act.put, List.setIfInBounds_toArray, List.set_cons_zero, List.set_cons_succ]
          clear hba
          refine take_at (i := 4) (.string ⟨M1.toArray⟩) (some 32) (by decide) (by rfl) (by kernel_rfl) (by kernel_rfl) (by kernel_rfl) (fun _ _ _ h => h) (by rfl) (fun W hW => by go_simp) (by assumption) ?_
          try simp only [Act.put, List.setIfInBounds_toArray, List.set_cons_zero, List.set_cons_succ]
          refine wpAnyH_ready (rs := [7]) (by kernel_rfl) (by simp) (AllReadyH.cons (Array.getElem?_eq_getElem (i := 7) (by decide)) (fun K9 hK => ?_) AllReadyH.nil)
          go_simp
          refine (HX2.out _).mono ?_
          rintro e wb ⟨rfl, hbb⟩
          have HBb := Lib.hid (HBa.out.trans (hbb.mono (by omega)))
          refine hK.out _ _ (hHeld.below hbb (by omega)) (fun hHeld => ?_)
          clear hK K9
          try simp only [Act.put, List.setIfInBounds_toArray, List.set_cons_zero, List.set_cons_succ]
          clear hbb
          refine take_at (i := 8) (.string ⟨M2.toArray⟩) (some 36) (by decide) (by rfl) (by kernel_rfl) (by kernel_rfl) (by kernel_rfl) (fun _ _ _ h => h) (by rfl) (fun W hW => by go_simp) (by assumption) ?_
          try simp only [Act.put, List.setIfInBounds_toArray, List.set_cons_zero, List.set_cons_succ]
          refine take_at (i := 9) (.string ⟨M2.toArray⟩) (some 2) (by decide) (by rfl) (by kernel_rfl) (by kernel_rfl) (by kernel_rfl) (fun _ _ _ h => h) (by rfl) (fun W hW => by go_simp) (by assumption) ?_
          try simp only [Act.put, List.setIfInBounds_toArray, List.set_cons_zero, List.set_cons_succ]
          refine wpAnyH_done (by kernel_rfl) ?_ _
          try simp only [Act.put, List.setIfInBounds_toArray, List.set_cons_zero, List.set_cons_succ]
          go_wp2_with fail
          go_ret
          exact ⟨by rw [HE.out]; rfl, HBb.out⟩
  · refine AllReadyH.cons (Array.getElem?_eq_getElem (i := 8) (by decide)) (fun K9 hK => ?_) AllReadyH.nil
    go_simp
    refine (HT0.out _).mono ?_
    rintro e w8 ⟨rfl, hb8⟩
    have HB8 := Lib.hid (HB0.out.trans (hb8.mono (by omega)))
    have hs8 := hb8.size
    refine hK.out _ _ (hHeld.below hb8 (by omega)) (fun hHeld => ?_)
    clear hK K9 hb8
    try simp only [Act.put, List.setIfInBounds_toArray, List.set_cons_zero, List.set_cons_succ]
    refine wpAnyH_ready (rs := [4]) (by kernel_rfl) (by simp) ?_
    refine AllReadyH.cons (Array.getElem?_eq_getElem (i := 4) (by decide)) (fun K9 hK => ?_) AllReadyH.nil
    go_simp
    have hnb := new_below w8 (.cells #[.int .u8 3, .int .u8 n8.toNat] 5)
    have HO4 : Hid (Own (w8.alloc (.cells #[.int .u8 3, .int .u8 n8.toNat] 5)) w8.heap.size (.slice (some ⟨w8.heap.size, 0, none⟩) 2 2) [3, n8]) := own_two w8 _ (Nat.le_refl _) 3 n8 _ _ rfl rfl
    have HB4 := Lib.hid (HB8.out.trans (hnb.mono (by omega)))
    have hs4 : w8.heap.size + 1 = (w8.alloc (.cells #[.int .u8 3, .int .u8 n8.toNat] 5)).heap.size := (asz _ _).symm
    refine hK.out _ _ (hHeld.below hnb (by omega)) (fun hHeld => ?_)
    clear hK K9 hnb
    try simp only [Act.put, List.setIfInBounds_toArray, List.set_cons_zero, List.set_cons_succ]
    generalize w8.alloc (.cells #[.int .u8 3, .int .u8 n8.toNat] 5) = w4 at *
    refine wpAnyH_ready (rs := [5]) (by kernel_rfl) (by simp) ?_
    refine come (i := 5) (.string ⟨[3, n8].toArray⟩) w4 (some 11) (by decide) (by rfl) (by rfl) (by have := run_text_of _ _ _ _ HO4.out.sl; go_simp) hHeld ?_ AllReadyH.nil
    try simp only [Act.put, List.setIfInBounds_toArray, List.set_cons_zero, List.set_cons_succ]
    refine take_at (i := 9) (.string ⟨L0.toArray⟩) (some 15) (by decide) (by rfl) (by kernel_rfl) (by kernel_rfl) (by kernel_rfl) (fun _ _ _ h => h) (by rfl) (fun W hW => by go_simp) (by assumption) ?_
    try simp only [Act.put, List.setIfInBounds_toArray, List.set_cons_zero, List.set_cons_succ]
    refine take_at (i := 10) (.string ⟨L0.toArray⟩) (some 3) (by decide) (by rfl) (by kernel_rfl) (by kernel_rfl) (by kernel_rfl) (fun _ _ _ h => h) (by rfl) (fun W hW => by go_simp) (by assumption) ?_
    try simp only [Act.put, List.setIfInBounds_toArray, List.set_cons_zero, List.set_cons_succ]
    refine wpAnyH_done (by kernel_rfl) ?_ _
    try simp only [Act.put, List.setIfInBounds_toArray, List.set_cons_zero, List.set_cons_succ]
    have HCX := Lib.hid hHeld
    have HBX := Lib.hid HB4.out
    have hsx : w.heap.size < w4.heap.size := by omega
    clear hHeld HB0
    have d33 := HCX.out.is
    go_wp2_with fail
    go_loopw [3, 19] (fun u i wr => ∃ k : Nat, i = .int .i64 k ∧ k ≤ c.is.length ∧ u = .string ⟨(L0 ++ isB (c.is.take k)).toArray⟩ ∧ Hid (ComAt wr w.heap.size c (.slice A c.is.length cc)) ∧ Hid (Below w.heap.size w wr) ∧ w.heap.size < wr.heap.size) (fun _ i _ => c.is.length - (intOf i).toNat)
    case atStart => exact ⟨0, rfl, by omega, by rw [show isB (c.is.take 0) = [] from rfl, List.append_nil], HCX.out, HBX.out, hsx⟩
    case round =>
      clear HCX HBX hsx d33
      obtain ⟨k, rfl, hk, rfl, hcm, hbl, hsr⟩ := hrel
      by_cases hlt : k < c.is.length
      · obtain ⟨x, hxk⟩ : ∃ x, c.is[k]? = some x := ⟨c.is[k], List.getElem?_eq_getElem hlt⟩
        obtain ⟨b2, off2, e2, hB2, rx⟩ := IsIn.range (HI0.out.below hbl.out) hxk
        subst e2
        have RX := Lib.hid rx
        clear rx
        have hnx := isB_take hxk
        have hlk1 := isB_takelen hl1 (k := k + 1)
        rw [hnx] at hlk1
        have HNX := Lib.hid hnx
        clear hnx hxk
        generalize isB (c.is.take k) = R at *
        rw [List.length_append] at hlk1
        have hx33 : Hid (x.1.length = 33) := x.2
        have HXN := Lib.hid (fun W => name_l x.1 W x.2)
        generalize textI x.1 = T at *
        obtain ⟨M0, hM0⟩ : ∃ L, L0 ++ R = L := ⟨_, rfl⟩
        have hM0l : M0.length = L0.length + R.length := by rw [← hM0, List.length_append]
        have hadd := fun W => add_text W M0 T (by omega)
        have HM0 := Lib.hid hM0
        rw [hM0]
        clear hM0
        have HX : Hid (IdAt (wr.alloc (.cells (vb x.1).toArray 28)) wr.heap.size x.1) := IdAt.new _ _
        have hb6 : Below wr.heap.size wr (wr.alloc (.cells (vb x.1).toArray 28)) := new_below _ _
        have hz6 : (wr.alloc (.cells (vb x.1).toArray 28)).heap.size = wr.heap.size + 1 := asz _ _
        have HB6 := Lib.hid (hbl.out.trans (hb6.mono (by omega)))
        have HC6 := Lib.hid (hcm.out.below hb6 (by omega))
        clear hb6
        go_wp2_with (first
          | (refine wpList_load_mid rfl 28 _ rfl b2 (off2 + k * 33) rfl (vb x.1) _ RX.out Try.underlying28 rfl (cells_ii x) ?_)
          | (refine wp_alloc_row zero_id rfl rfl ?_)
          | (refine wp_fill_id rfl _ _ rfl rfl (by simp [Act.eval, Act.put]) x.1 hx33.out rfl ?_)
          | (refine wp_load_id rfl _ rfl wr.heap.size rfl x.1 hx33.out HX.out ?_))
        generalize wr.alloc (.cells (vb x.1).toArray 28) = W6 at *
        refine (HXN.out W6).mono ?_
        rintro e w7 ⟨rfl, hb7⟩
        have HB7 := Lib.hid (HB6.out.trans (hb7.mono (by omega)))
        have HC7 := Lib.hid (HC6.out.below hb7 (by omega))
        have hs7 : w.heap.size < w7.heap.size := by have := hb7.size; omega
        clear hb7 HB6 HC6
        go_wp2_with fail
        go_roundw
        case rel => exact ⟨k + 1, by go_num, by omega, by rw [HNX.out, ← List.append_assoc, HM0.out], HC7.out, HB7.out, hs7⟩
        case measure => simp [intOf]; omega
      · have hkk : k = c.is.length := by omega
        subst hkk
        rw [hfin.out]
        generalize isB c.is = R at *
        obtain ⟨M0, hM0⟩ : ∃ L, L0 ++ R = L := ⟨_, rfl⟩
        have hM0l : M0.length = L0.length + R.length := by rw [← hM0, List.length_append]
        obtain ⟨M1, hM1⟩ : ∃ L, M0 ++ T1 = L := ⟨_, rfl⟩
        have hM1l : M1.length = M0.length + T1.length := by rw [← hM1, List.length_append]
        obtain ⟨M2, hM2⟩ : ∃ L, M1 ++ T2 = L := ⟨_, rfl⟩
        have hadd1 := fun W => add_text W M0 T1 (by omega)
        have hadd2 := fun W => add_text W M1 T2 (by omega)
        rw [hM1] at hadd1
        rw [hM2] at hadd2
        have HE : Hid (CB = M2) := by
          unfold Hid
          rw [hcb.out, ← hM2, ← hM1, ← hM0, ← HL0.out]
          simp
        rw [hM0]
        clear hM0 hM1 hM2
        go_wp2_with fail
        obtain ⟨W9, hW0⟩ : ∃ x, wr.drew = x := ⟨_, rfl⟩
        have hS0 : ComAt W9 w.heap.size c (.slice A c.is.length cc) := by rw [← hW0]; exact hcm.out
        have HBD : Hid (Below w.heap.size w W9) := by rw [← hW0]; exact hbl.out.drew
        have hs9 : w.heap.size < W9.heap.size := by rw [← hW0]; simpa using hsr
        clear hcm hbl hsr
        refine region_begin hW0 (S := fun W => ComAt W w.heap.size c (.slice A c.is.length cc)) (by kernel_rfl) hS0 (fun hHeld => ?_)
        clear hW0 hS0
        refine take_at (i := 0) (.string ⟨M0.toArray⟩) (some 28) (by decide) (by rfl) (by kernel_rfl) (by kernel_rfl) (by kernel_rfl) (fun _ _ _ h => h) (by rfl) (fun W hW => by go_simp) (by assumption) ?_
        try simp only [Act.put, List.setIfInBounds_toArray, List.set_cons_zero, List.set_cons_succ]
        refine take_at (i := 1) (.pointer (some ⟨w.heap.size, 34, none⟩)) (some 29) (by decide) (by rfl) (by kernel_rfl) (by kernel_rfl) (by kernel_rfl) (fun _ _ _ h => h) (by rfl) (fun W hW => by go_simp) (by assumption) ?_
        try simp only [Act.put, List.setIfInBounds_toArray, List.set_cons_zero, List.set_cons_succ]
        refine take_at (i := 2) (.string ⟨c.note.toArray⟩) (some 30) (by decide) (by rfl) (by kernel_rfl) (by kernel_rfl) (by kernel_rfl) (fun _ _ _ h => h) (by rfl) (fun W hW => by have := hW.note; go_simp) (by assumption) ?_
        try simp only [Act.put, List.setIfInBounds_toArray, List.set_cons_zero, List.set_cons_succ]
        refine take_at (i := 5) (.pointer (some ⟨w.heap.size, 35, none⟩)) (some 33) (by decide) (by rfl) (by kernel_rfl) (by kernel_rfl) (by kernel_rfl) (fun _ _ _ h => h) (by rfl) (fun W hW => by go_simp) (by assumption) ?_
        try simp only [Act.put, List.setIfInBounds_toArray, List.set_cons_zero, List.set_cons_succ]
        refine take_at (i := 6) (.int .i64 c.num) (some 34) (by decide) (by rfl) (by kernel_rfl) (by kernel_rfl) (by kernel_rfl) (fun _ _ _ h => h) (by rfl) (fun W hW => by have := hW.num; go_simp) (by assumption) ?_
        try simp only [Act.put, List.setIfInBounds_toArray, List.set_cons_zero, List.set_cons_succ]
        refine wpAnyH_ready (rs := [3]) (by kernel_rfl) (by simp) (AllReadyH.cons (Array.getElem?_eq_getElem (i := 3) (by decide)) (fun K9 hK => ?_) AllReadyH.nil)
        go_simp
        refine (HX1.out _).mono ?_
        rintro e wa ⟨rfl, hba⟩
        have HBa := Lib.hid (HBD.out.trans (hba.mono (by omega)))
        have hsa := hba.size
        refine hK.out _ _ (hHeld.below hba (by omega)) (fun hHeld => ?_)
        clear hK K9
        try simp only [Act.put, List.setIfInBounds_toArray, List.set_cons_zero, List.set_cons_succ]
        clear hba
        refine take_at (i := 4) (.string ⟨M1.toArray⟩) (some 32) (by decide) (by rfl) (by kernel_rfl) (by kernel_rfl) (by kernel_rfl) (fun _ _ _ h => h) (by rfl) (fun W hW => by go_simp) (by assumption) ?_
        try simp only [Act.put, List.setIfInBounds_toArray, List.set_cons_zero, List.set_cons_succ]
        refine wpAnyH_ready (rs := [7]) (by kernel_rfl) (by simp) (AllReadyH.cons (Array.getElem?_eq_getElem (i := 7) (by decide)) (fun K9 hK => ?_) AllReadyH.nil)
        go_simp
        refine (HX2.out _).mono ?_
        rintro e wb ⟨rfl, hbb⟩
        have HBb := Lib.hid (HBa.out.trans (hbb.mono (by omega)))
        refine hK.out _ _ (hHeld.below hbb (by omega)) (fun hHeld => ?_)
        clear hK K9
        try simp only [Act.put, List.setIfInBounds_toArray, List.set_cons_zero, List.set_cons_succ]
        clear hbb
        refine take_at (i := 8) (.string ⟨M2.toArray⟩) (some 36) (by decide) (by rfl) (by kernel_rfl) (by kernel_rfl) (by kernel_rfl) (fun _ _ _ h => h) (by rfl) (fun W hW => by go_simp) (by assumption) ?_
        try simp only [Act.put, List.setIfInBounds_toArray, List.set_cons_zero, List.set_cons_succ]
        refine take_at (i := 9) (.string ⟨M2.toArray⟩) (some 2) (by decide) (by rfl) (by kernel_rfl) (by kernel_rfl) (by kernel_rfl) (fun _ _ _ h => h) (by rfl) (fun W hW => by go_simp) (by assumption) ?_
        try simp only [Act.put, List.setIfInBounds_toArray, List.set_cons_zero, List.set_cons_succ]
        refine wpAnyH_done (by kernel_rfl) ?_ _
        try simp only [Act.put, List.setIfInBounds_toArray, List.set_cons_zero, List.set_cons_succ]
        go_wp2_with fail
        go_ret
        exact ⟨by rw [HE.out]; rfl, HBb.out⟩

end Go.Proofs.Ytflgokbkkoobkaa.Cd
