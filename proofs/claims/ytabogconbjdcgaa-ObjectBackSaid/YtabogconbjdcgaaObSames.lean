/-
  The document's SameTree, SameCommit. Conditions: none.
-/
import Derived.Test.YtabogconbjdcgaaObSame
import Derived.Test.YtabogconbjdcgaaObGetT
import Derived.Test.YtabogconbjdcgaaByHand
namespace Go.Proofs.Ytabogconbjdcgaa.Cd
open Go.RowKit

set_option maxRecDepth 100000 in
set_option maxHeartbeats 3200000 in
theorem samet_any (u v : Value) (a b : Tre) (w : World) (hu : TreIn w w.heap.size u a) (hv : TreIn w w.heap.size v b) : Calls Try.prog 16 #[u, v] w (Says (a = b) w) := by
  obtain ⟨pa, ka⟩ := a
  obtain ⟨pb, kb⟩ := b
  obtain ⟨up, uk, rfl, h1, h2⟩ := hu
  obtain ⟨vp, vk, rfl, h3, h4⟩ := hv
  have h1 : PsIn w w.heap.size up pa := h1
  have h2 : KsIn w w.heap.size uk ka := h2
  have h3 : PsIn w w.heap.size vp pb := h3
  have h4 : KsIn w w.heap.size vk kb := h4
  obtain ⟨A1, c1, e1, k1, l1⟩ := h1.len
  obtain ⟨A2, c2, e2, k2, l2⟩ := h2.len
  obtain ⟨A3, c3, e3, k3, l3⟩ := h3.len
  obtain ⟨A4, c4, e4, k4, l4⟩ := h4.len
  have H1 := Lib.hid h1
  have H2 := Lib.hid h2
  have H3 := Lib.hid h3
  have H4 := Lib.hid h4
  clear h1 h2 h3 h4
  subst e1 e2 e3 e4
  have hz0 : (w.alloc (.cells #[.slice A1 pa.length c1, .slice A2 ka.length c2] 25)).heap.size = w.heap.size + 1 := asz _ _
  have HB1 : Hid (Below w.heap.size w ((w.alloc (.cells #[.slice A1 pa.length c1, .slice A2 ka.length c2] 25)).alloc (.cells #[.slice A3 pb.length c3, .slice A4 kb.length c4] 25))) := (new_below _ _).trans ((new_below _ _).mono (by omega))
  have HT1 : Hid (TrAt ((w.alloc (.cells #[.slice A1 pa.length c1, .slice A2 ka.length c2] 25)).alloc (.cells #[.slice A3 pb.length c3, .slice A4 kb.length c4] 25)) w.heap.size (.slice A1 pa.length c1) (.slice A2 ka.length c2)) := (TrAt.new _ _ _).below (new_below _ _) (by omega)
  have HU1 : Hid (TrAt ((w.alloc (.cells #[.slice A1 pa.length c1, .slice A2 ka.length c2] 25)).alloc (.cells #[.slice A3 pb.length c3, .slice A4 kb.length c4] 25)) (w.heap.size + 1) (.slice A3 pb.length c3) (.slice A4 kb.length c4)) := by
    have := TrAt.new (w.alloc (.cells #[.slice A1 pa.length c1, .slice A2 ka.length c2] 25)) (.slice A3 pb.length c3) (.slice A4 kb.length c4)
    rwa [hz0] at this
  have hz1 : w.heap.size + 2 ≤ ((w.alloc (.cells #[.slice A1 pa.length c1, .slice A2 ka.length c2] 25)).alloc (.cells #[.slice A3 pb.length c3, .slice A4 kb.length c4] 25)).heap.size := by rw [asz, hz0]; omega
  clear hz0
  go_enter Try.func16, Try.ntmps16
  go_wp2_with fail
  generalize (w.alloc (.cells #[.slice A1 pa.length c1, .slice A2 ka.length c2] 25)).alloc (.cells #[.slice A3 pb.length c3, .slice A4 kb.length c4] 25) = W1 at *
  refine (same8_any _ _ pa pb W1 ((H1.out.below HB1.out).more HB1.out.size) ((H3.out.below HB1.out).more HB1.out.size)).mono ?_
  rintro e W2 ⟨s, rfl, hs, hb⟩
  have HB2 := Lib.hid (HB1.out.trans (hb.mono (by omega)))
  have HT2 := Lib.hid (HT1.out.below hb (by omega))
  have HU2 := Lib.hid (HU1.out.below hb (by omega))
  have hz2 : w.heap.size + 2 ≤ W2.heap.size := Nat.le_trans hz1 hb.size
  clear hb HB1 HT1 HU1 hz1
  cases s
  case false =>
    have hno : Hid (¬ (⟨pa, ka⟩ : Tre) = ⟨pb, kb⟩) := fun e => by
      injection e with e _
      have := hs.2 e
      cases this
    clear hs
    go_wp2_with fail
    go_ret
    exact ⟨false, rfl, ⟨(fun h => by cases h), fun h => absurd h hno.out⟩, HB2.out⟩
  have HPP : Hid (pa = pb) := hs.1 rfl
  clear hs
  have d1 := HT2.out.c1
  have f1 := HU2.out.c1
  by_cases hl : ka.length = kb.length
  case neg =>
    have hno : Hid (¬ (⟨pa, ka⟩ : Tre) = ⟨pb, kb⟩) := fun e => by
      injection e with _ e
      exact hl (congrArg List.length e)
    have hq : ((ka.length : Int) != (kb.length : Int)) = true := by rw [bne_iff_ne]; omega
    clear hl
    go_wp2_with fail
    go_ret
    exact ⟨false, rfl, ⟨(fun h => by cases h), fun h => absurd h hno.out⟩, HB2.out⟩
  have HLB := Lib.hid hl
  rw [← hl] at k4 H4 HU2 f1 ⊢
  clear hl
  go_wp2_with fail
  go_loopw [24] (fun i wr => ∃ k : Nat, i = .int .i64 k ∧ k ≤ ka.length ∧ Hid (ka.take k = kb.take k) ∧ Hid (Below w.heap.size w wr) ∧ Hid (TrAt wr w.heap.size (.slice A1 pa.length c1) (.slice A2 ka.length c2)) ∧ Hid (TrAt wr (w.heap.size + 1) (.slice A3 pb.length c3) (.slice A4 ka.length c4))) (fun i _ => ka.length - (intOf i).toNat)
  case atStart => exact ⟨0, rfl, by omega, rfl, HB2.out, HT2.out, HU2.out⟩
  case round =>
    clear HB2 HT2 HU2 d1 f1 hz2
    obtain ⟨k, rfl, hk, hst, hbl, htr, hur⟩ := hrel
    by_cases hlt : k < ka.length
    · obtain ⟨x, hxk⟩ : ∃ x, ka[k]? = some x := ⟨ka[k], List.getElem?_eq_getElem hlt⟩
      obtain ⟨y, hyk⟩ : ∃ y, kb[k]? = some y := ⟨kb[k]'(by rw [← HLB.out]; exact hlt), List.getElem?_eq_getElem (by rw [← HLB.out]; exact hlt)⟩
      obtain ⟨b2, off2, e2, hB2, rx⟩ := KsIn.range (H2.out.below hbl.out) hxk
      obtain ⟨b3, off3, e3, hB3, ry⟩ := KsIn.range (H4.out.below hbl.out) hyk
      subst e2 e3
      have HX := Lib.hid hxk
      have HY := Lib.hid hyk
      clear hxk hyk
      have hne := neq_kk x y
      have heg := fun p q W => eqGuard_kk .neq p q x y W
      have hwk : IntKind.i64.wrap (k : Int) = (k : Int) := IntWalk.i64_in _ (by omega)
      have hkl : (k : Int) < ka.length := by omega
      obtain ⟨s, hs⟩ : ∃ s, eqKk x y = s := ⟨_, rfl⟩
      rw [hs] at hne
      have HS : Hid (s = true ↔ x = y) := by rw [← hs]; exact eqKk_iff x y
      clear hs
      go_wp2_with fail
      obtain ⟨W0, hW0⟩ : ∃ x, wr.drew = x := ⟨_, rfl⟩
      have hS0 : (TrAt W0 w.heap.size (.slice A1 pa.length c1) (.slice (some ⟨b2, off2, none⟩) ka.length c2) ∧ TrAt W0 (w.heap.size + 1) (.slice A3 pb.length c3) (.slice (some ⟨b3, off3, none⟩) ka.length c4)) ∧ W0.rangeAt b2 (off2 + k * 34) (kkC x) ∧ W0.rangeAt b3 (off3 + k * 34) (kkC y) := by
        rw [← hW0]
        exact ⟨⟨htr.out, hur.out⟩, rx, ry⟩
      have HBD : Hid (Below w.heap.size w W0) := by rw [← hW0]; exact hbl.out.drew
      clear hbl htr hur rx ry
      refine region_begin hW0 (S := fun W => (TrAt W w.heap.size (.slice A1 pa.length c1) (.slice (some ⟨b2, off2, none⟩) ka.length c2) ∧ TrAt W (w.heap.size + 1) (.slice A3 pb.length c3) (.slice (some ⟨b3, off3, none⟩) ka.length c4)) ∧ W.rangeAt b2 (off2 + k * 34) (kkC x) ∧ W.rangeAt b3 (off3 + k * 34) (kkC y)) (by kernel_rfl) hS0 (fun hHeld => ?_)
      clear hW0 hS0
      refine take_at (i := 0) (.pointer (some ⟨w.heap.size, 1, none⟩)) (some 27) (by decide) (by rfl) (by kernel_rfl) (by kernel_rfl) (by kernel_rfl) (fun _ _ _ h => h) (by rfl) (fun W hW => by go_simp) (by assumption) ?_
      try simp only [Act.put, List.setIfInBounds_toArray, List.set_cons_zero, List.set_cons_succ]
      refine take_at (i := 1) (.slice (some ⟨b2, off2, none⟩) ka.length c2) (some 28) (by decide) (by rfl) (by kernel_rfl) (by kernel_rfl) (by kernel_rfl) (fun _ _ _ h => h) (by rfl) (fun W hW => by have := hW.1.1.c1; go_simp) (by assumption) ?_
      try simp only [Act.put, List.setIfInBounds_toArray, List.set_cons_zero, List.set_cons_succ]
      refine take_at (i := 2) (.int .i64 (k : Int)) (some 29) (by decide) (by rfl) (by kernel_rfl) (by kernel_rfl) (by kernel_rfl) (fun _ _ _ h => h) (by rfl) (fun W hW => by go_simp) (by assumption) ?_
      try simp only [Act.put, List.setIfInBounds_toArray, List.set_cons_zero, List.set_cons_succ]
      refine take_at (i := 3) (.pointer (some ⟨b2, off2 + k * 34, none⟩)) (some 30) (by decide) (by rfl) (by kernel_rfl) (by kernel_rfl) (by kernel_rfl) (fun _ _ _ h => h) (by rfl) (fun W hW => by go_simp) (by assumption) ?_
      try simp only [Act.put, List.setIfInBounds_toArray, List.set_cons_zero, List.set_cons_succ]
      refine take_at (i := 4) (.agg (kkC x).toArray) (some 31) (by decide) (by rfl) (by kernel_rfl) (by kernel_rfl) (by kernel_rfl) (fun _ _ _ h => h) (by rfl) (fun W hW => by exact exec_load_mid _ _ rfl b2 (off2 + k * 34) rfl (kkC x) _ hW.2.1 Try.underlying59 rfl (cells_kk x)) (by assumption) ?_
      try simp only [Act.put, List.setIfInBounds_toArray, List.set_cons_zero, List.set_cons_succ]
      refine take_at (i := 5) (.pointer (some ⟨w.heap.size + 1, 1, none⟩)) (some 32) (by decide) (by rfl) (by kernel_rfl) (by kernel_rfl) (by kernel_rfl) (fun _ _ _ h => h) (by rfl) (fun W hW => by go_simp) (by assumption) ?_
      try simp only [Act.put, List.setIfInBounds_toArray, List.set_cons_zero, List.set_cons_succ]
      refine take_at (i := 6) (.slice (some ⟨b3, off3, none⟩) ka.length c4) (some 33) (by decide) (by rfl) (by kernel_rfl) (by kernel_rfl) (by kernel_rfl) (fun _ _ _ h => h) (by rfl) (fun W hW => by have := hW.1.2.c1; go_simp) (by assumption) ?_
      try simp only [Act.put, List.setIfInBounds_toArray, List.set_cons_zero, List.set_cons_succ]
      refine take_at (i := 7) (.int .i64 (k : Int)) (some 34) (by decide) (by rfl) (by kernel_rfl) (by kernel_rfl) (by kernel_rfl) (fun _ _ _ h => h) (by rfl) (fun W hW => by go_simp) (by assumption) ?_
      try simp only [Act.put, List.setIfInBounds_toArray, List.set_cons_zero, List.set_cons_succ]
      refine take_at (i := 8) (.pointer (some ⟨b3, off3 + k * 34, none⟩)) (some 35) (by decide) (by rfl) (by kernel_rfl) (by kernel_rfl) (by kernel_rfl) (fun _ _ _ h => h) (by rfl) (fun W hW => by go_simp) (by assumption) ?_
      try simp only [Act.put, List.setIfInBounds_toArray, List.set_cons_zero, List.set_cons_succ]
      refine take_at (i := 9) (.agg (kkC y).toArray) (some 36) (by decide) (by rfl) (by kernel_rfl) (by kernel_rfl) (by kernel_rfl) (fun _ _ _ h => h) (by rfl) (fun W hW => by exact exec_load_mid _ _ rfl b3 (off3 + k * 34) rfl (kkC y) _ hW.2.2 Try.underlying59 rfl (cells_kk y)) (by assumption) ?_
      try simp only [Act.put, List.setIfInBounds_toArray, List.set_cons_zero, List.set_cons_succ]
      refine take_at (i := 10) (.bool (!s)) (some 37) (by decide) (by rfl) (by kernel_rfl) (by kernel_rfl) (by kernel_rfl) (fun _ _ _ h => h) (by rfl) (fun W hW => by go_simp) (by assumption) ?_
      try simp only [Act.put, List.setIfInBounds_toArray, List.set_cons_zero, List.set_cons_succ]
      refine wpAnyH_done (by kernel_rfl) ?_ _
      try simp only [Act.put, List.setIfInBounds_toArray, List.set_cons_zero, List.set_cons_succ]
      cases s
      · have hno : Hid (¬ (⟨pa, ka⟩ : Tre) = ⟨pb, kb⟩) := fun e => by
          injection e with _ e
          have h1 := HX.out
          rw [e, HY.out] at h1
          injection h1 with h1
          have := HS.out.2 h1.symm
          cases this
        go_wp2_with fail
        go_ret
        exact ⟨false, rfl, ⟨(fun h => by cases h), fun h => absurd h hno.out⟩, HBD.out⟩
      · have hst2 : Hid (ka.take (k + 1) = kb.take (k + 1)) := by
          obtain ⟨h1, h1'⟩ := List.getElem?_eq_some_iff.1 HX.out
          obtain ⟨h2, h3⟩ := List.getElem?_eq_some_iff.1 HY.out
          unfold Hid
          rw [List.take_succ_eq_append_getElem h1, List.take_succ_eq_append_getElem h2, hst.out, h3, h1', HS.out.1 rfl]
        have HTX := Lib.hid hHeld.1.1
        have HUX := Lib.hid hHeld.1.2
        clear hHeld
        go_wp2_with fail
        go_roundw
        case rel => exact ⟨k + 1, by go_num, by omega, hst2, HBD.out, HTX.out, HUX.out⟩
        case measure => simp [intOf]; omega
    · have he : Hid (ka = kb) := by
        have := hst.out
        rwa [List.take_of_length_le (by omega), List.take_of_length_le (by rw [← HLB.out]; omega)] at this
      have hyes : Hid ((⟨pa, ka⟩ : Tre) = ⟨pb, kb⟩) := by rw [HPP.out, he.out]; exact rfl
      go_wp2_with fail
      go_ret
      exact ⟨true, rfl, ⟨fun _ => hyes.out, fun _ => rfl⟩, hbl.out⟩

theorem wp_neq_id {ops : Array Oper} {rest : List Oper} {o : Oper} {a : Act} {w : World} {Q : Exit → Act → World → Prop} (hgd : o.guard = none) (p q : Operand) (t : TypeId) (ho : o.op = .binOp .neq 41 p q t)
    (x y : List UInt8) (hx : x.length = 33) (hy : y.length = 33) (hp : a.eval p = idV x) (hq : a.eval q = idV y)
    (h : wpList Try.prog ops Q rest (a.put o.dst (.bool (!(x == y)))) w) : wpList Try.prog ops Q (o :: rest) a w :=
  wpList_plain hgd fun _ hK => op_neq_id p q t ho x y hx hy hp hq (hK _ _ h)

end Go.Proofs.Ytabogconbjdcgaa.Cd
