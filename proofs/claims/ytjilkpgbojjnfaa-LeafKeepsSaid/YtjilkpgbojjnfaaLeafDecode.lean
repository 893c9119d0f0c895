/-
  leaf.Decode: the node that bytes begin with. Conditions: none.
-/
import Derived.Test.YtjilkpgbojjnfaaLeafBody
namespace Go.Proofs.Ytjilkpgbojjnfaa.Cd
open Go.RowKit

theorem bodyS_dec (b : List UInt8) : bodyS (decide (nv b % 2 = 1)) (uB b) (uX b) (nv b / 2) = dec2 b := by
  unfold bodyS dec2 dec1 dec0
  by_cases h : nv b % 2 = 1
  · rw [decide_eq_true h, if_pos rfl, if_pos h]
  · rw [decide_eq_false h, if_neg (by simp), if_neg h]
def decC (o : Option Nd) : Int := if o.isSome then 0 else 4
theorem dec_keys (b : List UInt8) : (dec2 b).n.keys.length = nv b / 2 := by
  unfold dec2
  have h := (itK_lens (dec0 b) (nv b / 2)).1
  have h0 : (dec0 b).n.keys.length = 0 := rfl
  split
  · unfold dec1; omega
  · rw [(itP_keys _ _).1]; unfold dec1; omega

set_option maxRecDepth 100000 in
set_option maxHeartbeats 4000000 in
theorem decode_any (v : Value) (b : List UInt8) (w : World) (h : Sl w w.heap.size v b) (hs : b.length ≤ 140737488355328) :
    Calls Try.prog 15 #[v] w (DecIs w (dec b) (.int .i64 (decC (dec b)))) := by
  have H := Lib.hid h
  clear h
  have hnv := nv_u64 b
  go_enter Try.func15, Try.ntmps15
  go_wp2_with fail
  obtain ⟨w0, hw0⟩ : ∃ x, w.alloc (.cells #[.bool false, .slice none 0 0, .slice none 0 0, .slice none 0 0] 25) = x := ⟨_, rfl⟩
  have hz0 : w0.heap.size = w.heap.size + 1 := by rw [← hw0]; simp
  have HB0 : Hid (Below w.heap.size w w0) := by rw [← hw0]; exact new_below _ _
  have HX0 : Hid (Bx w0 w.heap.size false (.slice none 0 0) (.slice none 0 0) (.slice none 0 0)) := by rw [← hw0]; exact heap_alloc_new w _
  rw [hw0]
  clear hw0
  refine (read_any v b w0 ((H.out.below HB0.out).more HB0.out.size)).mono ?_
  rintro e w1 ⟨rfl, hr1, hb1⟩
  have R1 := Lib.hid hr1
  have X1 := Lib.hid (HX0.out.on hb1)
  have B1 := Lib.hid (HB0.out.trans (hb1.mono HB0.out.size))
  have hl1 := hr1.lt
  rw [hz0] at R1 hl1
  clear hr1 hb1 HX0
  rw [hz0]
  go_wp2_with fail
  refine (ruint_any _ b false w1 R1.out (fun h => by cases h) hs).mono ?_
  rintro e w2 ⟨rfl, hl⟩
  have R2 := Lib.hid hl.1
  have X2 := Lib.hid (X1.out.far hl.2 (by omega))
  have B2 := Lib.hid (below_of_left B1.out hl.2 (by omega))
  have hz2 := hl.1.lt
  clear hl R1 X1 B1 hl1
  have r0 := X2.out.cell0
  have r1 := X2.out.cell1
  have r2 := X2.out.cell2
  have r3 := X2.out.cell3
  have f0 := X2.out.frozen 0
  have f1 := X2.out.frozen 1
  have f2 := X2.out.frozen 2
  have f3 := X2.out.frozen 3
  by_cases hbig : 512 < nv b / 2
  · have hD : Hid (dec b = none) := if_pos hbig
    have hbig' : (512 : Int) < (nv b : Int) / 2 := by omega
    go_wp2_with fail
    refine bodyPost_ret (results_node rfl _ _ _ _ _ _ _ _ rfl rfl (X2.out.whole _ _ _ _)) rfl ?_
    rw [hD.out]
    exact ⟨below_whole B2.out (Nat.le_refl _) _ _ _ _, _, rfl, nodeF_bare _ _ _⟩
  · have hD : Hid (dec b = if (dec2 b).bad = true ∨ good (dec2 b).n = false then none else some (dec2 b).n) := if_neg hbig
    have hbig' : ¬ (512 : Int) < (nv b : Int) / 2 := by omega
    have hKB := Lib.hid (body_any _ (uB b) (uX b) (nv b / 2) (decide (nv b % 2 = 1)) w2 R2.out (Sane.u b) (by have := uB_len b; omega) (by omega))
    rw [bodyS_dec, show ((nv b / 2 : Nat) : Int) = (nv b : Int) / 2 by omega] at hKB
    have hkn := dec_keys b
    have hkn2 : (dec2 b).n.keys.length ≤ 1000000 := by omega
    clear hkn
    have hq : (((nv b : Int) % 2) == 1) = decide (nv b % 2 = 1) := by
      by_cases h : nv b % 2 = 1
      · rw [decide_eq_true h]; simp; omega
      · rw [decide_eq_false h]; simp; omega
    go_wp2_with fail
    clear hq
    obtain ⟨q, hq⟩ : ∃ x, dec2 b = x := ⟨_, rfl⟩
    rw [hq] at hKB hD hkn2
    clear hq
    refine hKB.out.mono ?_
    rintro e w3 ⟨v3, rfl, hn3, hl3⟩
    obtain ⟨Ak, ck, Av, cv, Ai, ci, rfl⟩ := hn3.len
    have X3 := Lib.hid (X2.out.far hl3.2 (by omega))
    have B3 := Lib.hid (below_of_left B2.out hl3.2 (by omega))
    have R3 := Lib.hid hl3.1
    have N3 := Lib.hid hn3
    have hz3 := hl3.2.size
    clear hl3 hn3 X2 B2 R2 hKB r0 r1 r2 r3 f0 f1 f2 f3
    obtain ⟨w4, hw4⟩ : ∃ x, w3.alloc (.cells #[.bool q.n.leaf, .slice Ak q.n.keys.length ck, .slice Av q.n.vals.length cv, .slice Ai q.n.kids.length ci] 25) = x := ⟨_, rfl⟩
    have hb4 : Below w3.heap.size w3 w4 := by rw [← hw4]; exact new_below _ _
    have B4 := Lib.hid (B3.out.trans (hb4.mono B3.out.size))
    have X4 := Lib.hid (X3.out.on hb4)
    have R4 := Lib.hid (R3.out.on hb4)
    have N4 := Lib.hid (N3.out.keep hb4)
    have Q4 : Hid (Bx w4 w3.heap.size q.n.leaf (.slice Ak q.n.keys.length ck) (.slice Av q.n.vals.length cv) (.slice Ai q.n.kids.length ci)) := by rw [← hw4]; exact heap_alloc_new w3 _
    clear hb4 B3 X3 R3 N3
    have r0 := X4.out.cell0
    have r1 := X4.out.cell1
    have r2 := X4.out.cell2
    have r3 := X4.out.cell3
    have f0 := X4.out.frozen 0
    have f1 := X4.out.frozen 1
    have f2 := X4.out.frozen 2
    have f3 := X4.out.frozen 3
    have hgood := Lib.hid (good_any _ _ _ w4 R4.out)
    have hlg := Lib.hid (lgood_any _ _ w4 N4.out.node hkn2)
    have q0 := Q4.out.cell0
    have q1 := Q4.out.cell1
    have q2 := Q4.out.cell2
    have q3 := Q4.out.cell3
    have HW4 := Lib.hid hw4
    clear hw4
    cases hbad : q.bad
    · rw [hbad] at hgood hD
      cases hg : good q.n
      · have hD2 : Hid (dec b = none) := by unfold Hid; rw [hD.out, hg, if_pos (.inr rfl)]
        rw [hg] at hlg
        clear hD hg hbad
        go_wp2_with fail
        rw [HW4.out]
        go_wp2_with (first
          | (go_at_call 31; refine hgood.out.mono ?_; rintro e w5 ⟨rfl, rfl⟩)
          | (go_at_call 12; refine hlg.out.mono ?_; rintro e w5 ⟨rfl, hb5⟩
             have X5 := Lib.hid (X4.out.on hb5); have B5 := Lib.hid (B4.out.trans (hb5.mono B4.out.size))
             have s0 := X5.out.cell0; have s1 := X5.out.cell1; have s2 := X5.out.cell2; have s3 := X5.out.cell3
             have g0 := X5.out.frozen 0; have g1 := X5.out.frozen 1; have g2 := X5.out.frozen 2; have g3 := X5.out.frozen 3))
        refine bodyPost_ret (results_node rfl _ _ _ _ _ _ _ _ rfl rfl (X5.out.whole _ _ _ _)) rfl ?_
        rw [hD2.out]
        exact ⟨below_whole B5.out (Nat.le_refl _) _ _ _ _, _, rfl, nodeF_bare _ _ _⟩
      · have hD2 : Hid (dec b = some q.n) := by unfold Hid; rw [hD.out, hg, if_neg (by simp)]
        rw [hg] at hlg
        clear hD hg hbad
        go_wp2_with fail
        rw [HW4.out]
        go_wp2_with (first
          | (go_at_call 31; refine hgood.out.mono ?_; rintro e w5 ⟨rfl, rfl⟩)
          | (go_at_call 12; refine hlg.out.mono ?_; rintro e w5 ⟨rfl, hb5⟩
             have X5 := Lib.hid (X4.out.on hb5); have B5 := Lib.hid (B4.out.trans (hb5.mono B4.out.size)); have N5 := Lib.hid (N4.out.keep hb5); have Q5 := Lib.hid (Q4.out.on hb5)
             have s0 := X5.out.cell0; have s1 := X5.out.cell1; have s2 := X5.out.cell2; have s3 := X5.out.cell3
             have t0 := Q5.out.cell0; have t1 := Q5.out.cell1; have t2 := Q5.out.cell2; have t3 := Q5.out.cell3
             have g0 := X5.out.frozen 0; have g1 := X5.out.frozen 1; have g2 := X5.out.frozen 2; have g3 := X5.out.frozen 3))
        refine bodyPost_ret (results_node rfl _ _ _ _ _ _ _ _ rfl rfl (X5.out.whole _ _ _ _)) rfl ?_
        rw [hD2.out]
        exact ⟨below_whole B5.out (Nat.le_refl _) _ _ _ _, _, rfl, (N5.out.whole (by omega) _ _ _ _).lower (by omega)⟩
    · have hD2 : Hid (dec b = none) := by unfold Hid; rw [hD.out, hbad, if_pos (.inl rfl)]
      rw [hbad] at hgood
      clear hD hbad
      go_wp2_with fail
      rw [HW4.out]
      go_wp2_with (first
        | (go_at_call 31; refine hgood.out.mono ?_; rintro e w5 ⟨rfl, rfl⟩))
      refine bodyPost_ret (results_node rfl _ _ _ _ _ _ _ _ rfl rfl (X4.out.whole _ _ _ _)) rfl ?_
      rw [hD2.out]
      exact ⟨below_whole B4.out (Nat.le_refl _) _ _ _ _, _, rfl, nodeF_bare _ _ _⟩

end Go.Proofs.Ytjilkpgbojjnfaa.Cd
