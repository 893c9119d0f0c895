/-
  The document's SameCommit. Conditions: none.
-/
import Derived.Test.YtabogconbjdcgaaObSames
namespace Go.Proofs.Ytabogconbjdcgaa.Cd
open Go.RowKit

theorem cmt_ext {a b : Cmt} (h1 : a.root = b.root) (h2 : a.is = b.is) (h3 : a.note = b.note) (h4 : a.num = b.num) : a = b := by
  obtain ⟨p, q, r, s⟩ := a
  obtain ⟨p', q', r', s'⟩ := b
  simp only at h1 h2 h3 h4
  rw [h1, h2, h3, h4]

set_option maxRecDepth 100000 in
set_option maxHeartbeats 6400000 in
theorem samec_any (u v : Value) (a b : Cmt) (w : World) (hu : CmtIn w w.heap.size u a) (hv : CmtIn w w.heap.size v b) : Calls Try.prog 24 #[u, v] w (Says (a = b) w) := by
  obtain ⟨ui, rfl, h1⟩ := hu
  obtain ⟨vi, rfl, h2⟩ := hv
  have h1 : IsIn w w.heap.size ui a.is := h1
  have h2 : IsIn w w.heap.size vi b.is := h2
  obtain ⟨A1, c1, e1, k1, l1⟩ := h1.len
  obtain ⟨A2, c2, e2, k2, l2⟩ := h2.len
  have H1 := Lib.hid h1
  have H2 := Lib.hid h2
  clear h1 h2
  subst e1 e2
  have hz0 : (w.alloc (.cells (cmC a (.slice A1 a.is.length c1)).toArray 44)).heap.size = w.heap.size + 1 := asz _ _
  have HB1 : Hid (Below w.heap.size w ((w.alloc (.cells (cmC a (.slice A1 a.is.length c1)).toArray 44)).alloc (.cells (cmC b (.slice A2 b.is.length c2)).toArray 44))) := (new_below _ _).trans ((new_below _ _).mono (by omega))
  have HT1 : Hid (ComAt ((w.alloc (.cells (cmC a (.slice A1 a.is.length c1)).toArray 44)).alloc (.cells (cmC b (.slice A2 b.is.length c2)).toArray 44)) w.heap.size a (.slice A1 a.is.length c1)) := (ComAt.new _ _ _).below (new_below _ _) (by omega)
  have HU1 : Hid (ComAt ((w.alloc (.cells (cmC a (.slice A1 a.is.length c1)).toArray 44)).alloc (.cells (cmC b (.slice A2 b.is.length c2)).toArray 44)) (w.heap.size + 1) b (.slice A2 b.is.length c2)) := by
    have := ComAt.new (w.alloc (.cells (cmC a (.slice A1 a.is.length c1)).toArray 44)) b (.slice A2 b.is.length c2)
    rwa [hz0] at this
  have hra : Hid (a.root.1.length = 33) := a.root.2
  have hrb : Hid (b.root.1.length = 33) := b.root.2
  have d33 := HT1.out.is
  have d34 := HT1.out.note
  have d35 := HT1.out.num
  have f33 := HU1.out.is
  have f34 := HU1.out.note
  have f35 := HU1.out.num
  have g1 : Hid (((w.alloc (.cells (cmC a (.slice A1 a.is.length c1)).toArray 44)).alloc (.cells (cmC b (.slice A2 b.is.length c2)).toArray 44)).rangeAt w.heap.size 0 (vb a.root.1)) := HT1.out.id
  have g2 : Hid (((w.alloc (.cells (cmC a (.slice A1 a.is.length c1)).toArray 44)).alloc (.cells (cmC b (.slice A2 b.is.length c2)).toArray 44)).rangeAt (w.heap.size + 1) 0 (vb b.root.1)) := HU1.out.id
  have heg : ∀ p q W, (eqGuard .neq 41 p q (.agg (vb a.root.1).toArray) (.agg (vb b.root.1).toArray)).run Try.prog W = .ok () W := fun p q W => eqGuard_id .neq p q a.root.1 b.root.1 W
  have hne : ∀ W, (binOp .neq 41 (.agg (vb a.root.1).toArray) (.agg (vb b.root.1).toArray)).run Try.prog W = .ok (.bool (!(a.root.1 == b.root.1))) W := fun W => neq_id a.root.1 b.root.1 a.root.2 b.root.2 W
  by_cases hr : a.root = b.root
  case neg =>
    have hno : Hid (¬ a = b) := fun e => hr (by rw [e])
    rw [show (a.root.1 == b.root.1) = false from beq_eq_false_iff_ne.2 (fun e => hr (Subtype.ext e))] at hne
    clear hr
    go_enter Try.func24, Try.ntmps24
    go_wp2_with (first
      | go_skip | go_guarded
      | (refine wp_box_row rfl _ rfl rfl ?_)
      | (refine wpList_load_mid rfl 41 _ rfl w.heap.size 0 rfl (vb a.root.1) _ g1.out Try.underlying41 rfl (cells_ii a.root) ?_)
      | (refine wpList_load_mid rfl 41 _ rfl (w.heap.size + 1) 0 rfl (vb b.root.1) _ g2.out Try.underlying41 rfl (cells_ii b.root) ?_))
    go_ret
    exact ⟨false, rfl, ⟨(fun h => by cases h), fun h => absurd h hno.out⟩, HB1.out⟩
  have HRR := Lib.hid hr
  rw [show (a.root.1 == b.root.1) = true by rw [hr]; exact beq_self_eq_true _] at hne
  clear hr
  by_cases hn : a.note = b.note
  case neg =>
    have hno : Hid (¬ a = b) := fun e => hn (by rw [e])
    have hq : (a.note == b.note) = false := beq_eq_false_iff_ne.2 hn
    clear hn
    go_enter Try.func24, Try.ntmps24
    go_wp2_with (first
      | go_skip | go_guarded
      | (refine wp_box_row rfl _ rfl rfl ?_)
      | (refine wpList_load_mid rfl 41 _ rfl w.heap.size 0 rfl (vb a.root.1) _ g1.out Try.underlying41 rfl (cells_ii a.root) ?_)
      | (refine wpList_load_mid rfl 41 _ rfl (w.heap.size + 1) 0 rfl (vb b.root.1) _ g2.out Try.underlying41 rfl (cells_ii b.root) ?_))
    go_ret
    exact ⟨false, rfl, ⟨(fun h => by cases h), fun h => absurd h hno.out⟩, HB1.out⟩
  have HNN := Lib.hid hn
  have hq : (a.note == b.note) = true := by rw [hn]; exact beq_self_eq_true _
  clear hn
  by_cases hm : a.num = b.num
  case neg =>
    have hno : Hid (¬ a = b) := fun e => hm (by rw [e])
    have hq2 : (a.num != b.num) = true := bne_iff_ne.2 hm
    clear hm
    go_enter Try.func24, Try.ntmps24
    go_wp2_with (first
      | go_skip | go_guarded
      | (refine wp_box_row rfl _ rfl rfl ?_)
      | (refine wpList_load_mid rfl 41 _ rfl w.heap.size 0 rfl (vb a.root.1) _ g1.out Try.underlying41 rfl (cells_ii a.root) ?_)
      | (refine wpList_load_mid rfl 41 _ rfl (w.heap.size + 1) 0 rfl (vb b.root.1) _ g2.out Try.underlying41 rfl (cells_ii b.root) ?_))
    go_ret
    exact ⟨false, rfl, ⟨(fun h => by cases h), fun h => absurd h hno.out⟩, HB1.out⟩
  have HMM := Lib.hid hm
  have hq2 : (a.num != b.num) = false := by rw [hm]; exact bne_self_eq_false _
  clear hm
  by_cases hl : a.is.length = b.is.length
  case neg =>
    have hno : Hid (¬ a = b) := fun e => hl (by rw [e])
    have hq3 : ((a.is.length : Int) != (b.is.length : Int)) = true := by rw [bne_iff_ne]; omega
    clear hl
    go_enter Try.func24, Try.ntmps24
    go_wp2_with (first
      | go_skip | go_guarded
      | (refine wp_box_row rfl _ rfl rfl ?_)
      | (refine wpList_load_mid rfl 41 _ rfl w.heap.size 0 rfl (vb a.root.1) _ g1.out Try.underlying41 rfl (cells_ii a.root) ?_)
      | (refine wpList_load_mid rfl 41 _ rfl (w.heap.size + 1) 0 rfl (vb b.root.1) _ g2.out Try.underlying41 rfl (cells_ii b.root) ?_))
    go_ret
    exact ⟨false, rfl, ⟨(fun h => by cases h), fun h => absurd h hno.out⟩, HB1.out⟩
  have HLB := Lib.hid hl
  have hq3 : ((a.is.length : Int) != (b.is.length : Int)) = false := by rw [bne_eq_false_iff_eq]; omega
  clear hl
  go_enter Try.func24, Try.ntmps24
  go_wp2_with (first
    | go_skip | go_guarded
      | (refine wp_box_row rfl _ rfl rfl ?_)
      | (refine wpList_load_mid rfl 41 _ rfl w.heap.size 0 rfl (vb a.root.1) _ g1.out Try.underlying41 rfl (cells_ii a.root) ?_)
      | (refine wpList_load_mid rfl 41 _ rfl (w.heap.size + 1) 0 rfl (vb b.root.1) _ g2.out Try.underlying41 rfl (cells_ii b.root) ?_))
  clear d33 d34 d35 f33 f34 f35 g1 g2 hq hq2 hq3 hne heg
  go_loopw [37] (fun i wr => ∃ k : Nat, i = .int .i64 k ∧ k ≤ a.is.length ∧ Hid (a.is.take k = b.is.take k) ∧ Hid (Below w.heap.size w wr) ∧ Hid (ComAt wr w.heap.size a (.slice A1 a.is.length c1)) ∧ Hid (ComAt wr (w.heap.size + 1) b (.slice A2 b.is.length c2))) (fun i _ => a.is.length - (intOf i).toNat)
  case atStart => exact ⟨0, rfl, by omega, rfl, HB1.out, HT1.out, HU1.out⟩
  case round =>
    clear HB1 HT1 HU1
    obtain ⟨k, rfl, hk, hst, hbl, htr, hur⟩ := hrel
    by_cases hlt : k < a.is.length
    · obtain ⟨x, hxk⟩ : ∃ x, a.is[k]? = some x := ⟨a.is[k], List.getElem?_eq_getElem hlt⟩
      obtain ⟨y, hyk⟩ : ∃ y, b.is[k]? = some y := ⟨b.is[k]'(by rw [← HLB.out]; exact hlt), List.getElem?_eq_getElem (by rw [← HLB.out]; exact hlt)⟩
      obtain ⟨b2, off2, e2, hB2, rx⟩ := IsIn.range (H1.out.below hbl.out) hxk
      obtain ⟨b3, off3, e3, hB3, ry⟩ := IsIn.range (H2.out.below hbl.out) hyk
      subst e2 e3
      have HX := Lib.hid hxk
      have HY := Lib.hid hyk
      clear hxk hyk
      have hx33 := x.2
      have hy33 := y.2
      have hne := fun W => neq_id x.1 y.1 hx33 hy33 W
      have heg := fun p q W => eqGuard_id .neq p q x.1 y.1 W
      have hwk : IntKind.i64.wrap (k : Int) = (k : Int) := IntWalk.i64_in _ (by omega)
      have hkl : (k : Int) < a.is.length := by omega
      have hkl2 : (k : Int) < b.is.length := by have := HLB.out; omega
      obtain ⟨s, hs⟩ : ∃ s, (x.1 == y.1) = s := ⟨_, rfl⟩
      rw [hs] at hne
      have HS : Hid (s = true ↔ x = y) := by
        rw [← hs]
        show (x.1 == y.1) = true ↔ x = y
        rw [beq_iff_eq]
        exact ⟨fun h => Subtype.ext h, fun h => by rw [h]⟩
      clear hs
      go_wp2_with fail
      obtain ⟨W0, hW0⟩ : ∃ x, wr.drew = x := ⟨_, rfl⟩
      have hS0 : (ComAt W0 w.heap.size a (.slice (some ⟨b2, off2, none⟩) a.is.length c1) ∧ ComAt W0 (w.heap.size + 1) b (.slice (some ⟨b3, off3, none⟩) b.is.length c2)) ∧ W0.rangeAt b2 (off2 + k * 33) (vb x.1) ∧ W0.rangeAt b3 (off3 + k * 33) (vb y.1) := by
        rw [← hW0]
        exact ⟨⟨htr.out, hur.out⟩, rx, ry⟩
      have HBD : Hid (Below w.heap.size w W0) := by rw [← hW0]; exact hbl.out.drew
      clear hbl htr hur rx ry
      refine region_begin hW0 (S := fun W => (ComAt W w.heap.size a (.slice (some ⟨b2, off2, none⟩) a.is.length c1) ∧ ComAt W (w.heap.size + 1) b (.slice (some ⟨b3, off3, none⟩) b.is.length c2)) ∧ W.rangeAt b2 (off2 + k * 33) (vb x.1) ∧ W.rangeAt b3 (off3 + k * 33) (vb y.1)) (by kernel_rfl) hS0 (fun hHeld => ?_)
      clear hW0 hS0
      refine take_at (i := 0) (.pointer (some ⟨w.heap.size, 33, none⟩)) (some 40) (by decide) (by rfl) (by kernel_rfl) (by kernel_rfl) (by kernel_rfl) (fun _ _ _ h => h) (by rfl) (fun W hW => by go_simp) (by assumption) ?_
      try simp only [Act.put, List.setIfInBounds_toArray, List.set_cons_zero, List.set_cons_succ]
      refine take_at (i := 1) (.slice (some ⟨b2, off2, none⟩) a.is.length c1) (some 41) (by decide) (by rfl) (by kernel_rfl) (by kernel_rfl) (by kernel_rfl) (fun _ _ _ h => h) (by rfl) (fun W hW => by have := hW.1.1.is; go_simp) (by assumption) ?_
      try simp only [Act.put, List.setIfInBounds_toArray, List.set_cons_zero, List.set_cons_succ]
      refine take_at (i := 2) (.int .i64 (k : Int)) (some 42) (by decide) (by rfl) (by kernel_rfl) (by kernel_rfl) (by kernel_rfl) (fun _ _ _ h => h) (by rfl) (fun W hW => by go_simp) (by assumption) ?_
      try simp only [Act.put, List.setIfInBounds_toArray, List.set_cons_zero, List.set_cons_succ]
      refine take_at (i := 3) (.pointer (some ⟨b2, off2 + k * 33, none⟩)) (some 43) (by decide) (by rfl) (by kernel_rfl) (by kernel_rfl) (by kernel_rfl) (fun _ _ _ h => h) (by rfl) (fun W hW => by go_simp) (by assumption) ?_
      try simp only [Act.put, List.setIfInBounds_toArray, List.set_cons_zero, List.set_cons_succ]
      refine take_at (i := 4) (idV x.1) (some 44) (by decide) (by rfl) (by kernel_rfl) (by kernel_rfl) (by kernel_rfl) (fun _ _ _ h => h) (by rfl) (fun W hW => by exact exec_load_mid _ _ rfl b2 (off2 + k * 33) rfl (vb x.1) _ hW.2.1 Try.underlying41 rfl (cells_ii x)) (by assumption) ?_
      try simp only [Act.put, List.setIfInBounds_toArray, List.set_cons_zero, List.set_cons_succ]
      refine take_at (i := 5) (.pointer (some ⟨w.heap.size + 1, 33, none⟩)) (some 45) (by decide) (by rfl) (by kernel_rfl) (by kernel_rfl) (by kernel_rfl) (fun _ _ _ h => h) (by rfl) (fun W hW => by go_simp) (by assumption) ?_
      try simp only [Act.put, List.setIfInBounds_toArray, List.set_cons_zero, List.set_cons_succ]
      refine take_at (i := 6) (.slice (some ⟨b3, off3, none⟩) b.is.length c2) (some 46) (by decide) (by rfl) (by kernel_rfl) (by kernel_rfl) (by kernel_rfl) (fun _ _ _ h => h) (by rfl) (fun W hW => by have := hW.1.2.is; go_simp) (by assumption) ?_
      try simp only [Act.put, List.setIfInBounds_toArray, List.set_cons_zero, List.set_cons_succ]
      refine take_at (i := 7) (.int .i64 (k : Int)) (some 47) (by decide) (by rfl) (by kernel_rfl) (by kernel_rfl) (by kernel_rfl) (fun _ _ _ h => h) (by rfl) (fun W hW => by go_simp) (by assumption) ?_
      try simp only [Act.put, List.setIfInBounds_toArray, List.set_cons_zero, List.set_cons_succ]
      refine take_at (i := 8) (.pointer (some ⟨b3, off3 + k * 33, none⟩)) (some 48) (by decide) (by rfl) (by kernel_rfl) (by kernel_rfl) (by kernel_rfl) (fun _ _ _ h => h) (by rfl) (fun W hW => by go_simp) (by assumption) ?_
      try simp only [Act.put, List.setIfInBounds_toArray, List.set_cons_zero, List.set_cons_succ]
      refine take_at (i := 9) (idV y.1) (some 49) (by decide) (by rfl) (by kernel_rfl) (by kernel_rfl) (by kernel_rfl) (fun _ _ _ h => h) (by rfl) (fun W hW => by exact exec_load_mid _ _ rfl b3 (off3 + k * 33) rfl (vb y.1) _ hW.2.2 Try.underlying41 rfl (cells_ii y)) (by assumption) ?_
      try simp only [Act.put, List.setIfInBounds_toArray, List.set_cons_zero, List.set_cons_succ]
      refine take_at (i := 10) (.bool (!s)) (some 50) (by decide) (by rfl) (by kernel_rfl) (by kernel_rfl) (by kernel_rfl) (fun _ _ _ h => h) (by rfl) (fun W hW => by go_simp) (by assumption) ?_
      try simp only [Act.put, List.setIfInBounds_toArray, List.set_cons_zero, List.set_cons_succ]
      refine wpAnyH_done (by kernel_rfl) ?_ _
      try simp only [Act.put, List.setIfInBounds_toArray, List.set_cons_zero, List.set_cons_succ]
      cases s
      · have hno : Hid (¬ a = b) := fun e => by
          have h1 := HX.out
          rw [show a.is = b.is by rw [e], HY.out] at h1
          injection h1 with h1
          have := HS.out.2 h1.symm
          cases this
        go_wp2_with fail
        go_ret
        exact ⟨false, rfl, ⟨(fun h => by cases h), fun h => absurd h hno.out⟩, HBD.out⟩
      · have hst2 : Hid (a.is.take (k + 1) = b.is.take (k + 1)) := by
          obtain ⟨h1, h1'⟩ := List.getElem?_eq_some_iff.1 HX.out
          obtain ⟨h2, h3⟩ := List.getElem?_eq_some_iff.1 HY.out
          unfold Hid
          rw [List.take_succ_eq_append_getElem h1, List.take_succ_eq_append_getElem h2, hst.out, h3, h1', HS.out.1 rfl]
        have HTX := Lib.hid hHeld.1.1
        have HUX := Lib.hid hHeld.1.2
        clear hHeld
        go_wp2_with fail
        go_roundw
        case rel => exact ⟨k + 1, by go_num, by omega, hst2, HBD.out, HTX.out, HUX.out⟩
        case measure => simp [intOf]; omega
    · have he : Hid (a.is = b.is) := by
        have := hst.out
        rwa [List.take_of_length_le (by omega), List.take_of_length_le (by rw [← HLB.out]; omega)] at this
      have hyes : Hid (a = b) := cmt_ext HRR.out he.out HNN.out HMM.out
      go_wp2_with fail
      go_ret
      exact ⟨true, rfl, ⟨fun _ => hyes.out, fun _ => rfl⟩, hbl.out⟩

end Go.Proofs.Ytabogconbjdcgaa.Cd
