/-
  The document's Decode of a node. Conditions: none.
-/
import Derived.Test.YtjilkpgbojjnfaaNodeBox
import Derived.Test.YtjilkpgbojjnfaaLeafDecode
import Derived.Test.YtjilkpgbojjnfaaRefGood
import Derived.Test.YtjilkpgbojjnfaaRefReads
import Derived.Deep.DeepMust
namespace Go.Proofs.Ytjilkpgbojjnfaa.Cd
open Go.RowKit

theorem Rf.other {w : World} {g : Nat} {bs : List UInt8} {bad : Bool} (h : Rf w g bs bad) (p : Addr) (u : Value) (hne : g ≠ p.block) : Rf (w.setCell p u) g bs bad := (heap_setCell_other _ _ _ _ hne).trans h
theorem Rf.on {w w' : World} {g : Nat} {bs : List UInt8} {bad : Bool} (h : Rf w g bs bad) (hb : Below w.heap.size w w') : Rf w' g bs bad := h.below hb h.lt
/-- Behind the store into the box: what was there below B0 stays. -/
theorem below_box {w0 w w1 : World} {G B : Nat} (h : Below w0.heap.size w0 w) (hb : Below B w w1) (hB : w0.heap.size ≤ G) (hG : G < B) (i : Nat) (v : Value) : Below w0.heap.size w0 (w1.setCell ⟨G, i, none⟩ v) :=
  (h.trans (hb.mono (by omega))).setCell (p := ⟨G, i, none⟩) hB _

theorem dec_bad {b : List UInt8} (hbig : ¬ 512 < nv b / 2) (h : (dec2 b).bad = true) : dec b = none := by unfold dec; rw [if_neg hbig, if_pos (.inl h)]
theorem dec_nogood {b : List UInt8} (hbig : ¬ 512 < nv b / 2) (h : good (dec2 b).n = false) : dec b = none := by unfold dec; rw [if_neg hbig, if_pos (.inr h)]
theorem dec_yes {b : List UInt8} (hbig : ¬ 512 < nv b / 2) (h : (dec2 b).bad = false) (hg : good (dec2 b).n = true) : dec b = some (dec2 b).n := by
  unfold dec; rw [if_neg hbig, if_neg]; rintro (h1 | h1)
  · rw [h] at h1; cases h1
  · rw [hg] at h1; cases h1
theorem sane_dec1 (b : List UInt8) : Sane (dec1 b).bad (dec1 b).bs := sane_itK (Sane.u b) _
theorem dec1_bad {b : List UInt8} {k : Nat} (hk : k ≤ nv b / 2) (h : (itK (dec0 b) k).bad = true) : (dec1 b).bad = true := bad_itK (Sane.u b) h hk
theorem dec2_bad {b : List UInt8} (h : (dec1 b).bad = true) : (dec2 b).bad = true := by
  unfold dec2
  split
  · exact h
  · exact bad_itP (sane_dec1 b) (j := 0) h (Nat.zero_le _)

set_option maxRecDepth 100000 in
set_option maxHeartbeats 8000000 in
theorem refdecode_any (b : List UInt8) (w : World) (hs : b.length ≤ 140737488355328) :
    Calls Try.prog 16 #[.string ⟨b.toArray⟩] w (DecIs w (dec b) (.bool (dec b).isSome)) := by
  have hnv := nv_u64 b
  go_enter Try.func16, Try.ntmps16
  go_wp2_with fail
  obtain ⟨w1, hw1⟩ : ∃ x, (w.alloc (.cells #[.bool false, .slice none 0 0, .slice none 0 0, .slice none 0 0] 25)).alloc (.cells #[.string ⟨b.toArray⟩, .bool false] 61) = x := ⟨_, rfl⟩
  have hz1 : w1.heap.size = w.heap.size + 2 := by rw [← hw1]; simp
  have B1 : Hid (Below w.heap.size w w1) := by rw [← hw1]; exact (new_below _ _).alloc (by simp) _
  have X1 : Hid (Bx w1 w.heap.size false (.slice none 0 0) (.slice none 0 0) (.slice none 0 0)) := by rw [← hw1]; exact Bx.on (heap_alloc_new w _) (new_below _ _)
  have R1 : Hid (Rf w1 (w.heap.size + 1) b false) := by
    rw [← hw1]
    have h := heap_alloc_new (w.alloc (.cells #[.bool false, .slice none 0 0, .slice none 0 0, .slice none 0 0] 25)) (.cells #[.string ⟨b.toArray⟩, .bool false] 61)
    rw [World.size_alloc] at h
    exact h
  rw [hw1]
  clear hw1
  refine (fuint_any _ b false w1 R1.out (fun h => by cases h) hs).mono ?_
  rintro e w2 ⟨rfl, hl⟩
  have R2 := Lib.hid hl.1
  have X2 := Lib.hid (X1.out.far hl.2 (by omega))
  have B2 := Lib.hid (below_of_left B1.out hl.2 (by omega))
  have hz2 := hl.1.lt
  clear hl R1 X1 B1 hz1
  by_cases hbig : 512 < nv b / 2
  · have hD : Hid (dec b = none) := if_pos hbig
    have hbig' : (512 : Int) < (nv b : Int) / 2 := by omega
    have r0 := X2.out.cell0
    have r1 := X2.out.cell1
    have r2 := X2.out.cell2
    have r3 := X2.out.cell3
    have f0 := X2.out.frozen 0
    have f1 := X2.out.frozen 1
    have f2 := X2.out.frozen 2
    have f3 := X2.out.frozen 3
    go_wp2_with fail
    refine bodyPost_ret (results_node rfl _ _ _ _ _ _ _ _ rfl rfl (X2.out.whole _ _ _ _)) rfl ?_
    rw [hD.out]
    exact ⟨below_whole B2.out (Nat.le_refl _) _ _ _ _, _, rfl, nodeF_bare _ _ _⟩
  · have HBIG := Lib.hid hbig
    have hbig' : ¬ (512 : Int) < (nv b : Int) / 2 := by omega
    obtain ⟨ct, hct⟩ : ∃ x, nv b / 2 = x := ⟨_, rfl⟩
    have hct5 : ct ≤ 512 := by omega
    have HCT := Lib.hid hct
    have hcv : (nv b : Int) / 2 = (ct : Int) := by omega
    have HCV := Lib.hid hcv
    clear hbig hct hcv
    obtain ⟨s0, hs0⟩ : ∃ s, dec0 b = s := ⟨_, rfl⟩
    have HS0 := Lib.hid hs0
    have hsl : s0.bs.length ≤ 140737488355328 := by rw [← hs0]; have := uB_len b; show (uB b).length ≤ _; omega
    have hss : Hid (Sane s0.bad s0.bs) := by rw [← hs0]; exact Sane.u b
    have R2s : Hid (Rf w2 (w.heap.size + 1) s0.bs s0.bad) := by rw [← hs0]; exact R2.out
    have hlen : ∀ k, (itK s0 k).n.keys.length = k ∧ (itK s0 k).n.vals.length ≤ k := fun k => by
      have := itK_lens s0 k
      rw [← hs0] at this
      refine ⟨by rw [← hs0]; simpa [dec0] using this.1, ?_⟩
      rw [← hs0, this.2]
      have : (dec0 b).n.vals.length = 0 := rfl
      split <;> omega
    have HLEN := Lib.hid hlen
    clear hs0 hlen R2
    by_cases hlf : nv b % 2 = 1
    · have hq : (((nv b : Int) % 2) == 1) = true := by simp; omega
      have hlf0 : ∀ k, (itK s0 k).n.leaf = true := fun k => by rw [itK_leaf, ← HS0.out]; exact decide_eq_true hlf
      have HLF := Lib.hid hlf0
      clear hlf0
      have HMOD := Lib.hid hlf
      clear hlf
      go_wp2_with fail
      rw [HCV.out]
      obtain ⟨w3, hw3⟩ : ∃ x, w2.alloc (.cells #[.bool true, .slice none 0 0, .slice none 0 0, .slice none 0 0] 25) = x := ⟨_, rfl⟩
      have hz3 : w3.heap.size = w2.heap.size + 1 := by rw [← hw3]; simp
      have hb3 : Below w2.heap.size w2 w3 := by rw [← hw3]; exact new_below _ _
      have B3 := Lib.hid (B2.out.trans (hb3.mono B2.out.size))
      have X3 := Lib.hid (X2.out.on hb3)
      have R3 := Lib.hid (R2s.out.on hb3)
      have G3 : Hid (Grow w3 w2.heap.size (w2.heap.size + 1) s0.n (.slice none 0 0) (.slice none 0 0) (.slice none 0 0)) := by
        have h0 : s0.n = ⟨true, [], [], []⟩ := by rw [← HS0.out]; show (⟨decide (nv b % 2 = 1), [], [], []⟩ : Nd) = _; rw [decide_eq_true HMOD.out]
        rw [h0]
        refine ⟨?_, by omega, by omega, OwnS.nil _ _, OwnS.nil _ _, .inl rfl⟩
        rw [← hw3]
        exact heap_alloc_new w2 _
      rw [hw3]
      clear hw3 hb3 B2 X2 R2s hq
      go_loopw [8] (fun i wr => ∃ (k : Nat) (vk vv : Value), i = .int .i64 k ∧ k ≤ ct ∧ Hid (Rf wr (w.heap.size + 1) (itK s0 k).bs (itK s0 k).bad) ∧ Hid (Grow wr w2.heap.size (w2.heap.size + 1) (itK s0 k).n vk vv (.slice none 0 0)) ∧ Hid (Bx wr w.heap.size false (.slice none 0 0) (.slice none 0 0) (.slice none 0 0)) ∧ Hid (Below w.heap.size w wr)) (fun i _ => ct - (intOf i).toNat)
      case atStart => exact ⟨0, _, _, rfl, by omega, R3.out, G3.out, X3.out, B3.out⟩
      case round =>
        clear R3 G3 X3 B3 hz3
        obtain ⟨k, vk, vv, rfl, hk, hrd, hgr, hbx, hB⟩ := hrel
        have hlk := HLEN.out k
        have hlp := HLF.out k
        have hsn : Hid (Sane (itK s0 k).bad (itK s0 k).bs) := sane_itK hss.out k
        have hle := itK_len s0 k
        by_cases hgo : k < ct ∧ (itK s0 k).bad = false
        · obtain ⟨hlt, hbf⟩ := hgo
          have hnx : Hid (itK s0 (k + 1) = stK (itK s0 k)) := rfl
          have HQ := Lib.hid (rfl : itK s0 k = itK s0 k)
          generalize itK s0 k = q at *
          have hgood := Lib.hid (fgood_any _ _ _ wr hrd.out)
          rw [hbf] at hgood
          have hc1 := hgr.out.box.cell1
          have htop := hgr.out.top
          go_wp2_with (go_at_call 33; refine hgood.out.mono ?_; rintro e w5 ⟨rfl, rfl⟩)
          go_region_law (first
            | (go_simp
               go_at_call 34
               go_must (
               refine (ftext_any _ 48 q.bs q.bad _ hrd.out.drew hsn.out (by omega) (by omega)).mono ?_
               rintro e w4 ⟨rfl, hl⟩
               have G1 := Lib.hid (hgr.out.drew.far hl.2 (by omega))
               have X1 := Lib.hid (hbx.out.drew.far hl.2 (by omega))
               have W1 := Lib.hid (below_of_left hB.out.drew hl.2 (by omega))
               have R1 := Lib.hid hl.1
               have d1 := G1.out.box.cell1
               have d1a := fun o => (G1.out.alloc o).box.cell1
               clear hl))
            | (refine step_append_str1 rfl (.tmp 37) (.tmp 40) rfl (w2.heap.size + 1) vk q.n.keys vv q.n.vals (by simp [Act.eval]) (G1.out.alloc _).keys (G1.out.alloc _).vals G1.out.two (G1.out.alloc _).top w4.heap.size 0 1 (txV 48 q.bs) (by simp [Act.eval]) (by simp) (by omega) ?_
               intro v5 w5 ho2 hu2 ht2 hb2
               obtain ⟨L2, hL2⟩ : ∃ x, q.n.keys ++ [txV 48 q.bs] = x := ⟨_, rfl⟩
               rw [hL2] at ho2
               have HL2 := Lib.hid hL2
               obtain ⟨A2, c2, rfl, _, _⟩ := ho2.strs.len
               clear hL2
               have d2 := ((G1.out.alloc _).box.below hb2 (by omega)).cell1
               have f2 := ((G1.out.alloc _).box.below hb2 (by omega)).frozen 1))
          all_goals
            have G2 : Hid (Grow (w5.setCell ⟨w2.heap.size, 1, none⟩ (.slice A2 L2.length c2)) w2.heap.size (w2.heap.size + 1) ⟨q.n.leaf, q.n.keys ++ [txV 48 q.bs], q.n.vals, q.n.kids⟩ (.slice A2 L2.length c2) vv (.slice none 0 0)) :=
              (G1.out.alloc _).key hb2 (by rw [HL2.out]; exact ho2) hu2 ht2
            have X2 : Hid (Bx (w5.setCell ⟨w2.heap.size, 1, none⟩ (.slice A2 L2.length c2)) w.heap.size false (.slice none 0 0) (.slice none 0 0) (.slice none 0 0)) :=
              ((X1.out.on (new_below _ _)).below hb2 (by omega)).other _ _ (by show w.heap.size ≠ w2.heap.size; omega)
            have R2 : Hid (Rf (w5.setCell ⟨w2.heap.size, 1, none⟩ (.slice A2 L2.length c2)) (w.heap.size + 1) (txB 48 q.bs) (txX 48 q.bs)) :=
              ((R1.out.on (new_below _ _)).below hb2 (by omega)).other _ _ (by show w.heap.size + 1 ≠ w2.heap.size; omega)
            have W2 : Hid (Below w.heap.size w (w5.setCell ⟨w2.heap.size, 1, none⟩ (.slice A2 L2.length c2))) :=
              below_box (W1.out.trans ((new_below _ _).mono W1.out.size)) hb2 (by omega) (by omega) _ _
            clear hb2 ho2 hu2 ht2 d1 d1a d2 f2 R1 X1 W1 G1
            generalize w5.setCell ⟨w2.heap.size, 1, none⟩ (.slice A2 L2.length c2) = w6 at *
            have hc0 : w6.cell? ⟨w2.heap.size, 0, none⟩ = some (.bool true) := hlp ▸ G2.out.box.cell0
            have hst : Hid (itK s0 (k + 1) = ⟨⟨q.n.leaf, q.n.keys ++ [txV 48 q.bs], q.n.vals ++ [txV 160 (txB 48 q.bs)], q.n.kids⟩, txB 160 (txB 48 q.bs), txX 160 (txB 48 q.bs)⟩) := by
              rw [hnx.out]
              unfold Hid stK
              rw [hlp]
              rfl
            have hc2 := G2.out.box.cell2
            have hle2 := txB_len 48 q.bs
            go_wp2_with fail
            go_region_law (first
              | (go_simp
                 go_at_call 34
                 go_must (
                 refine (ftext_any _ 160 (txB 48 q.bs) (txX 48 q.bs) _ R2.out.drew (Sane.tx 48 q.bs) (by omega) (by omega)).mono ?_
                 rintro e w7 ⟨rfl, hl⟩
                 have G4 := Lib.hid (G2.out.drew.far hl.2 (by omega))
                 have X4 := Lib.hid (X2.out.drew.far hl.2 (by omega))
                 have W4 := Lib.hid (below_of_left W2.out.drew hl.2 (by omega))
                 have R4 := Lib.hid hl.1
                 have d4 := G4.out.box.cell2
                 have d4a := fun o => (G4.out.alloc o).box.cell2
                 clear hl))
              | (refine step_append_str1 rfl (.tmp 46) (.tmp 49) rfl (w2.heap.size + 1) vv q.n.vals (.slice A2 L2.length c2) (q.n.keys ++ [txV 48 q.bs]) (by simp [Act.eval]) (G4.out.alloc _).vals (G4.out.alloc _).keys G4.out.two.symm (G4.out.alloc _).top w7.heap.size 0 1 (txV 160 (txB 48 q.bs)) (by simp [Act.eval]) (by simp) (by omega) ?_
                 intro v8 w8 ho5 hu5 ht5 hb5
                 obtain ⟨L5, hL5⟩ : ∃ x, q.n.vals ++ [txV 160 (txB 48 q.bs)] = x := ⟨_, rfl⟩
                 rw [hL5] at ho5
                 have HL5 := Lib.hid hL5
                 obtain ⟨A5, c5, rfl, _, _⟩ := ho5.strs.len
                 clear hL5
                 have d5 := ((G4.out.alloc _).box.below hb5 (by omega)).cell2
                 have f5 := ((G4.out.alloc _).box.below hb5 (by omega)).frozen 2))
            all_goals
              have G6 : Hid (Grow (w8.setCell ⟨w2.heap.size, 2, none⟩ (.slice A5 L5.length c5)) w2.heap.size (w2.heap.size + 1) ⟨q.n.leaf, q.n.keys ++ [txV 48 q.bs], q.n.vals ++ [txV 160 (txB 48 q.bs)], q.n.kids⟩ (.slice A2 L2.length c2) (.slice A5 L5.length c5) (.slice none 0 0)) :=
                (G4.out.alloc _).val hb5 (by rw [HL5.out]; exact ho5) hu5 ht5
              have X6 : Hid (Bx (w8.setCell ⟨w2.heap.size, 2, none⟩ (.slice A5 L5.length c5)) w.heap.size false (.slice none 0 0) (.slice none 0 0) (.slice none 0 0)) :=
                ((X4.out.on (new_below _ _)).below hb5 (by omega)).other _ _ (by show w.heap.size ≠ w2.heap.size; omega)
              have R6 : Hid (Rf (w8.setCell ⟨w2.heap.size, 2, none⟩ (.slice A5 L5.length c5)) (w.heap.size + 1) (txB 160 (txB 48 q.bs)) (txX 160 (txB 48 q.bs))) :=
                ((R4.out.on (new_below _ _)).below hb5 (by omega)).other _ _ (by show w.heap.size + 1 ≠ w2.heap.size; omega)
              have W6 : Hid (Below w.heap.size w (w8.setCell ⟨w2.heap.size, 2, none⟩ (.slice A5 L5.length c5))) :=
                below_box (W4.out.trans ((new_below _ _).mono W4.out.size)) hb5 (by omega) (by omega) _ _
              clear hb5 ho5 hu5 ht5 d4 d4a d5 f5 R4 X4 W4 G4
              generalize w8.setCell ⟨w2.heap.size, 2, none⟩ (.slice A5 L5.length c5) = w9 at *
              go_wp2_with fail
              go_roundw
              case rel => exact ⟨k + 1, _, _, by go_num, by omega, by rw [hst.out]; exact R6.out, by rw [hst.out]; exact G6.out, X6.out, W6.out⟩
              case measure => simp [intOf]; omega
        · have hways : (k < ct ∧ (itK s0 k).bad = true) ∨ ¬ k < ct := by
            by_cases h : k < ct
            · cases h2 : (itK s0 k).bad
              · exact absurd ⟨h, h2⟩ hgo
              · exact .inl ⟨h, rfl⟩
            · exact .inr h
          clear hgo
          have hkids : Hid ((itK s0 k).n.kids = []) := by unfold Hid; rw [itK_kids, ← HS0.out]; exact rfl
          have HNO : Hid ((itK s0 k).bad = true → dec b = none) := fun h => dec_bad HBIG.out (dec2_bad (dec1_bad (k := k) (by have := HCT.out; omega) (by rw [HS0.out]; exact h)))
          have HEQ : Hid ((itK s0 k).bad = false → dec1 b = itK s0 k) := fun h => by
            have hkk : k = ct := by
              rcases hways with ⟨_, h1⟩ | h1
              · rw [h] at h1; cases h1
              · omega
            unfold dec1
            rw [HS0.out, HCT.out, hkk]
          have hkn : (itK s0 k).n.keys.length ≤ 1000000 := by omega
          have hkv : (itK s0 k).n.vals.length ≤ 512 := by omega
          clear hlk
          have hc0 : wr.cell? ⟨w2.heap.size, 0, none⟩ = some (.bool true) := hlp ▸ hgr.out.box.cell0
          obtain ⟨Ak, ck, rfl, hck, hmk⟩ := hgr.out.keys.strs.len
          obtain ⟨Av, cv, rfl, hcv, hmv⟩ := hgr.out.vals.strs.len
          have HYES : Hid ((itK s0 k).bad = false → dec b = if good (itK s0 k).n = true then some (itK s0 k).n else none) := fun h => by
            have h2 : dec2 b = itK s0 k := by unfold dec2; rw [if_pos HMOD.out, HEQ.out h]
            cases hg : good (itK s0 k).n
            · rw [dec_nogood HBIG.out (by rw [h2]; exact hg)]; rfl
            · rw [dec_yes HBIG.out (by rw [h2]; exact h) (by rw [h2]; exact hg), h2]; rfl
          have hgood0 := Lib.hid (fgood_any _ _ _ wr hrd.out)
          generalize itK s0 k = p at *
          rcases hways with ⟨hlt, hbt⟩ | hlt
          · rw [hbt] at hgood0
            have hD2 := Lib.hid (HNO.out hbt)
            have hgr0 := hgood0
            have r0 := hbx.out.cell0
            have r1 := hbx.out.cell1
            have r2 := hbx.out.cell2
            have r3 := hbx.out.cell3
            have f0 := hbx.out.frozen 0
            have f1 := hbx.out.frozen 1
            have f2 := hbx.out.frozen 2
            have f3 := hbx.out.frozen 3
            go_wp2_with (first
              | (go_at_call 33; refine hgood0.out.mono ?_; rintro e w5 ⟨rfl, rfl⟩))
            refine bodyPost_ret (results_node rfl _ _ _ _ _ _ _ _ rfl rfl (hbx.out.whole _ _ _ _)) rfl ?_
            rw [hD2.out]
            exact ⟨below_whole hB.out (Nat.le_refl _) _ _ _ _, _, rfl, nodeF_bare _ _ _⟩
          · clear hgood0
            have hgood := Lib.hid (fgood_any _ _ _ wr hrd.out)
            cases hbad : p.bad
            · rw [hbad] at hgood
              have hD := Lib.hid (HYES.out hbad)
              have NF : Hid (NodeF wr (w2.heap.size + 1) (.agg #[.bool true, (.slice Ak p.n.keys.length ck), (.slice Av p.n.vals.length cv), (.slice none 0 0)]) p.n) := ⟨_, _, _, by rw [hlp], hgr.out.keys, hgr.out.vals, by rw [hkids.out]; exact OwnI.nil _ _⟩
              have hlg := Lib.hid (refgood_any _ _ wr NF.out.node hkn)
              have hbx2 : Bx wr w2.heap.size true (.slice Ak p.n.keys.length ck) (.slice Av p.n.vals.length cv) (.slice none 0 0) := hlp ▸ hgr.out.box
              have e0 := hbx2.cell0
              have e1 := hbx2.cell1
              have e2 := hbx2.cell2
              have e3 := hbx2.cell3
              have HBX2 := Lib.hid hbx2
              clear hbx2
              cases hg : good p.n
              · have hD2 : Hid (dec b = none) := by unfold Hid; rw [hD.out, hg]; rfl
                rw [hg] at hlg
                clear hD hg hbad
                go_wp2_with (first
                  | (go_at_call 33; refine hgood.out.mono ?_; rintro e w5 ⟨rfl, rfl⟩)
                  | (go_at_call 11; refine hlg.out.mono ?_; rintro e w5 ⟨rfl, hb5⟩
                     have X5 := Lib.hid (hbx.out.on hb5); have B5 := Lib.hid (hB.out.trans (hb5.mono hB.out.size))
                     have s0 := X5.out.cell0; have s1 := X5.out.cell1; have s2 := X5.out.cell2; have s3 := X5.out.cell3
                     have g0 := X5.out.frozen 0; have g1 := X5.out.frozen 1; have g2 := X5.out.frozen 2; have g3 := X5.out.frozen 3))
                refine bodyPost_ret (results_node rfl _ _ _ _ _ _ _ _ rfl rfl (X5.out.whole _ _ _ _)) rfl ?_
                rw [hD2.out]
                exact ⟨below_whole B5.out (Nat.le_refl _) _ _ _ _, _, rfl, nodeF_bare _ _ _⟩
              · have hD2 : Hid (dec b = some p.n) := by unfold Hid; rw [hD.out, hg]; rfl
                rw [hg] at hlg
                clear hD hg hbad
                go_wp2_with (first
                  | (go_at_call 33; refine hgood.out.mono ?_; rintro e w5 ⟨rfl, rfl⟩)
                  | (go_at_call 11; refine hlg.out.mono ?_; rintro e w5 ⟨rfl, hb5⟩
                     have X5 := Lib.hid (hbx.out.on hb5); have B5 := Lib.hid (hB.out.trans (hb5.mono hB.out.size)); have N5 := Lib.hid (NF.out.keep hb5); have Q5 := Lib.hid (HBX2.out.on hb5)
                     have s0 := X5.out.cell0; have s1 := X5.out.cell1; have s2 := X5.out.cell2; have s3 := X5.out.cell3
                     have t0 := Q5.out.cell0; have t1 := Q5.out.cell1; have t2 := Q5.out.cell2; have t3 := Q5.out.cell3
                     have g0 := X5.out.frozen 0; have g1 := X5.out.frozen 1; have g2 := X5.out.frozen 2; have g3 := X5.out.frozen 3))
                refine bodyPost_ret (results_node rfl _ _ _ _ _ _ _ _ rfl rfl (X5.out.whole _ _ _ _)) rfl ?_
                rw [hD2.out]
                exact ⟨below_whole B5.out (Nat.le_refl _) _ _ _ _, _, rfl, (N5.out.whole (by omega) _ _ _ _).lower (by omega)⟩
            · have hD2 := Lib.hid (HNO.out hbad)
              rw [hbad] at hgood
              clear hbad
              have r0 := hbx.out.cell0
              have r1 := hbx.out.cell1
              have r2 := hbx.out.cell2
              have r3 := hbx.out.cell3
              have f0 := hbx.out.frozen 0
              have f1 := hbx.out.frozen 1
              have f2 := hbx.out.frozen 2
              have f3 := hbx.out.frozen 3
              go_wp2_with (first
                | (go_at_call 33; refine hgood.out.mono ?_; rintro e w5 ⟨rfl, rfl⟩))
              refine bodyPost_ret (results_node rfl _ _ _ _ _ _ _ _ rfl rfl (hbx.out.whole _ _ _ _)) rfl ?_
              rw [hD2.out]
              exact ⟨below_whole hB.out (Nat.le_refl _) _ _ _ _, _, rfl, nodeF_bare _ _ _⟩
    · have hq : (((nv b : Int) % 2) == 1) = false := by simp; omega
      have hlf0 : ∀ k, (itK s0 k).n.leaf = false := fun k => by rw [itK_leaf, ← HS0.out]; exact decide_eq_false hlf
      have HLF := Lib.hid hlf0
      clear hlf0
      have HMOD := Lib.hid hlf
      clear hlf
      go_wp2_with fail
      rw [HCV.out]
      obtain ⟨w3, hw3⟩ : ∃ x, w2.alloc (.cells #[.bool false, .slice none 0 0, .slice none 0 0, .slice none 0 0] 25) = x := ⟨_, rfl⟩
      have hz3 : w3.heap.size = w2.heap.size + 1 := by rw [← hw3]; simp
      have hb3 : Below w2.heap.size w2 w3 := by rw [← hw3]; exact new_below _ _
      have B3 := Lib.hid (B2.out.trans (hb3.mono B2.out.size))
      have X3 := Lib.hid (X2.out.on hb3)
      have R3 := Lib.hid (R2s.out.on hb3)
      have G3 : Hid (Grow w3 w2.heap.size (w2.heap.size + 1) s0.n (.slice none 0 0) (.slice none 0 0) (.slice none 0 0)) := by
        have h0 : s0.n = ⟨false, [], [], []⟩ := by rw [← HS0.out]; show (⟨decide (nv b % 2 = 1), [], [], []⟩ : Nd) = _; rw [decide_eq_false HMOD.out]
        rw [h0]
        refine ⟨?_, by omega, by omega, OwnS.nil _ _, OwnS.nil _ _, .inl rfl⟩
        rw [← hw3]
        exact heap_alloc_new w2 _
      rw [hw3]
      clear hw3 hb3 B2 X2 R2s hq
      go_loopw [8] (fun i wr => ∃ (k : Nat) (vk vv : Value), i = .int .i64 k ∧ k ≤ ct ∧ Hid (Rf wr (w.heap.size + 1) (itK s0 k).bs (itK s0 k).bad) ∧ Hid (Grow wr w2.heap.size (w2.heap.size + 1) (itK s0 k).n vk vv (.slice none 0 0)) ∧ Hid (Bx wr w.heap.size false (.slice none 0 0) (.slice none 0 0) (.slice none 0 0)) ∧ Hid (Below w.heap.size w wr)) (fun i _ => ct - (intOf i).toNat)
      case atStart => exact ⟨0, _, _, rfl, by omega, R3.out, G3.out, X3.out, B3.out⟩
      case round =>
        clear R3 G3 X3 B3 hz3
        obtain ⟨k, vk, vv, rfl, hk, hrd, hgr, hbx, hB⟩ := hrel
        have hlk := HLEN.out k
        have hlp := HLF.out k
        have hsn : Hid (Sane (itK s0 k).bad (itK s0 k).bs) := sane_itK hss.out k
        have hle := itK_len s0 k
        by_cases hgo : k < ct ∧ (itK s0 k).bad = false
        · obtain ⟨hlt, hbf⟩ := hgo
          have hnx : Hid (itK s0 (k + 1) = stK (itK s0 k)) := rfl
          have HQ := Lib.hid (rfl : itK s0 k = itK s0 k)
          generalize itK s0 k = q at *
          have hgood := Lib.hid (fgood_any _ _ _ wr hrd.out)
          rw [hbf] at hgood
          have hc1 := hgr.out.box.cell1
          have htop := hgr.out.top
          go_wp2_with (go_at_call 33; refine hgood.out.mono ?_; rintro e w5 ⟨rfl, rfl⟩)
          go_region_law (first
            | (go_simp
               go_at_call 34
               go_must (
               refine (ftext_any _ 48 q.bs q.bad _ hrd.out.drew hsn.out (by omega) (by omega)).mono ?_
               rintro e w4 ⟨rfl, hl⟩
               have G1 := Lib.hid (hgr.out.drew.far hl.2 (by omega))
               have X1 := Lib.hid (hbx.out.drew.far hl.2 (by omega))
               have W1 := Lib.hid (below_of_left hB.out.drew hl.2 (by omega))
               have R1 := Lib.hid hl.1
               have d1 := G1.out.box.cell1
               have d1a := fun o => (G1.out.alloc o).box.cell1
               clear hl))
            | (refine step_append_str1 rfl (.tmp 37) (.tmp 40) rfl (w2.heap.size + 1) vk q.n.keys vv q.n.vals (by simp [Act.eval]) (G1.out.alloc _).keys (G1.out.alloc _).vals G1.out.two (G1.out.alloc _).top w4.heap.size 0 1 (txV 48 q.bs) (by simp [Act.eval]) (by simp) (by omega) ?_
               intro v5 w5 ho2 hu2 ht2 hb2
               obtain ⟨L2, hL2⟩ : ∃ x, q.n.keys ++ [txV 48 q.bs] = x := ⟨_, rfl⟩
               rw [hL2] at ho2
               have HL2 := Lib.hid hL2
               obtain ⟨A2, c2, rfl, _, _⟩ := ho2.strs.len
               clear hL2
               have d2 := ((G1.out.alloc _).box.below hb2 (by omega)).cell1
               have f2 := ((G1.out.alloc _).box.below hb2 (by omega)).frozen 1))
          all_goals
            have G2 : Hid (Grow (w5.setCell ⟨w2.heap.size, 1, none⟩ (.slice A2 L2.length c2)) w2.heap.size (w2.heap.size + 1) ⟨q.n.leaf, q.n.keys ++ [txV 48 q.bs], q.n.vals, q.n.kids⟩ (.slice A2 L2.length c2) vv (.slice none 0 0)) :=
              (G1.out.alloc _).key hb2 (by rw [HL2.out]; exact ho2) hu2 ht2
            have X2 : Hid (Bx (w5.setCell ⟨w2.heap.size, 1, none⟩ (.slice A2 L2.length c2)) w.heap.size false (.slice none 0 0) (.slice none 0 0) (.slice none 0 0)) :=
              ((X1.out.on (new_below _ _)).below hb2 (by omega)).other _ _ (by show w.heap.size ≠ w2.heap.size; omega)
            have R2 : Hid (Rf (w5.setCell ⟨w2.heap.size, 1, none⟩ (.slice A2 L2.length c2)) (w.heap.size + 1) (txB 48 q.bs) (txX 48 q.bs)) :=
              ((R1.out.on (new_below _ _)).below hb2 (by omega)).other _ _ (by show w.heap.size + 1 ≠ w2.heap.size; omega)
            have W2 : Hid (Below w.heap.size w (w5.setCell ⟨w2.heap.size, 1, none⟩ (.slice A2 L2.length c2))) :=
              below_box (W1.out.trans ((new_below _ _).mono W1.out.size)) hb2 (by omega) (by omega) _ _
            clear hb2 ho2 hu2 ht2 d1 d1a d2 f2 R1 X1 W1 G1
            generalize w5.setCell ⟨w2.heap.size, 1, none⟩ (.slice A2 L2.length c2) = w6 at *
            have hc0 : w6.cell? ⟨w2.heap.size, 0, none⟩ = some (.bool false) := hlp ▸ G2.out.box.cell0
            have hst : Hid (itK s0 (k + 1) = ⟨⟨q.n.leaf, q.n.keys ++ [txV 48 q.bs], q.n.vals, q.n.kids⟩, txB 48 q.bs, txX 48 q.bs⟩) := by
              rw [hnx.out]
              unfold Hid stK
              rw [hlp]
              rfl
            go_wp2_with fail
            go_roundw
            case rel => exact ⟨k + 1, _, _, by go_num, by omega, by rw [hst.out]; exact R2.out, by rw [hst.out]; exact G2.out, X2.out, W2.out⟩
            case measure => simp [intOf]; omega
        · have hways : (k < ct ∧ (itK s0 k).bad = true) ∨ ¬ k < ct := by
            by_cases h : k < ct
            · cases h2 : (itK s0 k).bad
              · exact absurd ⟨h, h2⟩ hgo
              · exact .inl ⟨h, rfl⟩
            · exact .inr h
          clear hgo
          have hkids : Hid ((itK s0 k).n.kids = []) := by unfold Hid; rw [itK_kids, ← HS0.out]; exact rfl
          have HNO : Hid ((itK s0 k).bad = true → dec b = none) := fun h => dec_bad HBIG.out (dec2_bad (dec1_bad (k := k) (by have := HCT.out; omega) (by rw [HS0.out]; exact h)))
          have HEQ : Hid ((itK s0 k).bad = false → dec1 b = itK s0 k) := fun h => by
            have hkk : k = ct := by
              rcases hways with ⟨_, h1⟩ | h1
              · rw [h] at h1; cases h1
              · omega
            unfold dec1
            rw [HS0.out, HCT.out, hkk]
          have hkn : (itK s0 k).n.keys.length ≤ 1000000 := by omega
          have hkv : (itK s0 k).n.vals.length ≤ 512 := by omega
          clear hlk
          have hc0 : wr.cell? ⟨w2.heap.size, 0, none⟩ = some (.bool false) := hlp ▸ hgr.out.box.cell0
          obtain ⟨Ak, ck, rfl, hck, hmk⟩ := hgr.out.keys.strs.len
          obtain ⟨Av, cv, rfl, hcv, hmv⟩ := hgr.out.vals.strs.len
          have hql : (itK s0 k).bs.length ≤ 140737488355328 := by omega
          generalize itK s0 k = q at *
          have hgood0 := Lib.hid (fgood_any _ _ _ wr hrd.out)
          have hctq : (ct : Int) + 1 ≤ 513 := by omega
          rcases hways with ⟨hlt, hbt⟩ | hlt
          all_goals
            first | rw [hbt] at hgood0 | skip
            go_wp2_with (first
              | (go_at_call 33; refine hgood0.out.mono ?_; rintro e w5 ⟨rfl, rfl⟩))
            go_loopw [9] (fun i wx => ∃ (j : Nat) (vi : Value), i = .int .i64 j ∧ j ≤ ct + 1 ∧ Hid (Rf wx (w.heap.size + 1) (itP q j).bs (itP q j).bad) ∧ Hid (Grow wx w2.heap.size (w2.heap.size + 1) (itP q j).n (.slice Ak q.n.keys.length ck) (.slice Av q.n.vals.length cv) vi) ∧ Hid (OwnI wx (w2.heap.size + 1) vi (itP q j).n.kids) ∧ Hid (Bx wx w.heap.size false (.slice none 0 0) (.slice none 0 0) (.slice none 0 0)) ∧ Hid (Below w.heap.size w wx)) (fun i _ => ct + 1 - (intOf i).toNat)
            case atStart => exact ⟨0, _, rfl, by omega, hrd.out, hgr.out, (by show OwnI _ _ _ q.n.kids; rw [hkids.out]; exact OwnI.nil _ _), hbx.out, hB.out⟩
            case round =>
              clear hrd hgr hbx hB hgood0 hc0 hle
              obtain ⟨j, vi, rfl, hj, hrd, hgr, hki, hbx, hB⟩ := hrel
              have hsp : Hid (Sane (itP q j).bad (itP q j).bs) := sane_itP hsn.out j
              have hle := itP_len q j
              have hlq := itP_kids q j
              have hlp2 := itP_leaf q j
              have hkeys := (itP_keys q j).1
              rw [hkids.out] at hlq
              have hkn2 : (itP q j).n.keys.length ≤ 1000000 := by rw [hkeys]; exact hkn
              have HNO2 : Hid ((itP q j).bad = true → dec b = none) := fun h => by
                cases hqb : q.bad
                · refine dec_bad HBIG.out ?_
                  unfold dec2
                  rw [if_neg HMOD.out, HEQ.out hqb, HCT.out]
                  exact bad_itP hsn.out h hj
                · exact HNO.out hqb
              have hqb2 : Hid ((itP q j).bad = false → q.bad = false) := fun h => by
                cases hqb : q.bad
                · rfl
                · rw [bad_itP hsn.out (j := 0) hqb (Nat.zero_le _)] at h; cases h
              by_cases hgo : j < ct + 1 ∧ (itP q j).bad = false
              · obtain ⟨hlt2, hbf⟩ := hgo
                have hD1 := Lib.hid (HEQ.out (hqb2.out hbf))
                have hnx : Hid (itP q (j + 1) = ⟨⟨(itP q j).n.leaf, (itP q j).n.keys, (itP q j).n.vals, (itP q j).n.kids ++ [((min (nv (itP q j).bs) 4096 : Nat) : Int)]⟩, uB (itP q j).bs, uX (itP q j).bs⟩) := rfl
                have hfar : Hid (4095 < nv (itP q j).bs → dec b = none) := fun h => by
                  refine dec_nogood HBIG.out ?_
                  unfold dec2
                  rw [if_neg HMOD.out, hD1.out, HCT.out]
                  exact far_kid q hlt2 h
                have hgood := Lib.hid (fgood_any _ _ _ wr hrd.out)
                rw [hbf] at hgood
                have hlq1 : (itP q j).n.kids.length ≤ 513 := by rw [hlq]; simp; omega
                have HU := Lib.hid (fuint_any _ _ _ wr hrd.out hsp.out (by omega))
                clear hlq hkeys
                generalize itP q j = p at *
                have hnvp := nv_u64 p.bs
                have hjk : (j : Int) < ct + 1 := by omega
                obtain ⟨x, hx⟩ : ∃ x, nv p.bs = x := ⟨_, rfl⟩
                rw [hx] at HU hfar hnvp hnx
                clear hx
                by_cases hov : 4095 < x
                · have hD2 := Lib.hid (hfar.out hov)
                  clear hfar hnx
                  go_wp2_with (first
                    | (go_at_call 33; refine hgood.out.mono ?_; rintro e w5 ⟨rfl, rfl⟩)
                    | (go_at_call 32; refine HU.out.mono ?_; rintro e w5 ⟨rfl, hl⟩
                       have X5 := Lib.hid (hbx.out.far hl.2 (by omega)); have B5 := Lib.hid (below_of_left hB.out hl.2 (by omega))
                       have s0 := X5.out.cell0; have s1 := X5.out.cell1; have s2 := X5.out.cell2; have s3 := X5.out.cell3
                       have g0 := X5.out.frozen 0; have g1 := X5.out.frozen 1; have g2 := X5.out.frozen 2; have g3 := X5.out.frozen 3))
                  refine bodyPost_ret (results_node rfl _ _ _ _ _ _ _ _ rfl rfl (X5.out.whole _ _ _ _)) rfl ?_
                  rw [hD2.out]
                  exact ⟨below_whole B5.out (Nat.le_refl _) _ _ _ _, _, rfl, nodeF_bare _ _ _⟩
                · rw [show min x 4096 = x by omega] at hnx
                  clear hfar
                  go_wp2_with (first
                    | (go_at_call 33; refine hgood.out.mono ?_; rintro e w5 ⟨rfl, rfl⟩)
                    | (go_at_call 32; refine HU.out.mono ?_; rintro e w5 ⟨rfl, hl⟩
                       have G1 := Lib.hid (hgr.out.far hl.2 (by omega)); have I1 : Hid (OwnI w5 (w2.heap.size + 1) vi p.n.kids) := hki.out.far hl.2 (by omega)
                       have X1 := Lib.hid (hbx.out.far hl.2 (by omega)); have W1 := Lib.hid (below_of_left hB.out hl.2 (by omega)); have R1 := Lib.hid hl.1
                       have d1 := G1.out.box.cell3; have d1a := fun o => (G1.out.alloc o).box.cell3)
                    | (at_builtin
                       refine wp_append_int1 rfl _ _ rfl (w2.heap.size + 1) vi p.n.kids rfl (I1.out.keep (new_below _ _)) (G1.out.alloc _).top w5.heap.size 0 1 (x : Nat) rfl (by simp [vint]) (by omega) ?_
                       intro v6 w6 ho2 hg2 hb2
                       obtain ⟨L2, hL2⟩ : ∃ y, p.n.kids ++ [((x : Nat) : Int)] = y := ⟨_, rfl⟩
                       rw [hL2] at ho2
                       have HL2 := Lib.hid hL2
                       obtain ⟨A2, c2, rfl, _, _⟩ := ho2.flat.len
                       clear hL2
                       have d2 := ((G1.out.alloc _).box.below hb2 (by omega)).cell3
                       have f2 := ((G1.out.alloc _).box.below hb2 (by omega)).frozen 3))
                  have G2 : Hid (Grow (w6.setCell ⟨w2.heap.size, 3, none⟩ (.slice A2 L2.length c2)) w2.heap.size (w2.heap.size + 1) ⟨p.n.leaf, p.n.keys, p.n.vals, p.n.kids ++ [((x : Nat) : Int)]⟩ (.slice Ak q.n.keys.length ck) (.slice Av q.n.vals.length cv) (.slice A2 L2.length c2)) :=
                    (G1.out.alloc _).kid (I1.out.keep (new_below _ _)) hg2 hb2 _
                  have I2 : Hid (OwnI (w6.setCell ⟨w2.heap.size, 3, none⟩ (.slice A2 L2.length c2)) (w2.heap.size + 1) (.slice A2 L2.length c2) (p.n.kids ++ [((x : Nat) : Int)])) := by
                    rw [HL2.out]
                    exact ho2.put _ _ (by show w2.heap.size < w2.heap.size + 1; omega)
                  have X2 : Hid (Bx (w6.setCell ⟨w2.heap.size, 3, none⟩ (.slice A2 L2.length c2)) w.heap.size false (.slice none 0 0) (.slice none 0 0) (.slice none 0 0)) :=
                    ((X1.out.on (new_below _ _)).below hb2 (by omega)).other _ _ (by show w.heap.size ≠ w2.heap.size; omega)
                  have R2 : Hid (Rf (w6.setCell ⟨w2.heap.size, 3, none⟩ (.slice A2 L2.length c2)) (w.heap.size + 1) (uB p.bs) (uX p.bs)) :=
                    ((R1.out.on (new_below _ _)).below hb2 (by omega)).other _ _ (by show w.heap.size + 1 ≠ w2.heap.size; omega)
                  have W2 : Hid (Below w.heap.size w (w6.setCell ⟨w2.heap.size, 3, none⟩ (.slice A2 L2.length c2))) :=
                    below_box (W1.out.trans ((new_below _ _).mono W1.out.size)) hb2 (by omega) (by omega) _ _
                  clear hb2 hg2 ho2 d1 d1a d2 f2 R1 X1 W1 G1 I1 hl
                  generalize w6.setCell ⟨w2.heap.size, 3, none⟩ (.slice A2 L2.length c2) = w7 at *
                  go_roundw
                  case rel => exact ⟨j + 1, _, by go_num, by omega, by rw [hnx.out]; exact R2.out, by rw [hnx.out]; exact G2.out, by rw [hnx.out]; exact I2.out, X2.out, W2.out⟩
                  case measure => simp [intOf]; omega
              · have hways2 : (j < ct + 1 ∧ (itP q j).bad = true) ∨ ¬ j < ct + 1 := by
                  by_cases h : j < ct + 1
                  · cases h2 : (itP q j).bad
                    · exact absurd ⟨h, h2⟩ hgo
                    · exact .inl ⟨h, rfl⟩
                  · exact .inr h
                clear hgo
                have HYES : Hid (¬ j < ct + 1 → (itP q j).bad = false → dec b = if good (itP q j).n = true then some (itP q j).n else none) := fun hjn h => by
                  have hje : j = ct + 1 := by omega
                  have h2 : dec2 b = itP q j := by unfold dec2; rw [if_neg HMOD.out, HEQ.out (hqb2.out h), HCT.out, hje]
                  cases hg : good (itP q j).n
                  · rw [dec_nogood HBIG.out (by rw [h2]; exact hg)]; rfl
                  · rw [dec_yes HBIG.out (by rw [h2]; exact h) (by rw [h2]; exact hg), h2]; rfl
                have hlq1 : (itP q j).n.kids.length ≤ 514 := by rw [hlq]; simp; omega
                have hlp3 : (itP q j).n.leaf = false := hlp2.trans hlp
                clear hlq hkeys hlp2
                have HNO3 := HNO2
                clear HNO
                have HNO := HNO3
                have hgood0 := Lib.hid (fgood_any _ _ _ wr hrd.out)
                obtain ⟨Ai, ci, rfl, hci, hmi⟩ := hki.out.flat.len
                have hjk : (j : Int) ≤ ct + 1 := by omega
                have hkn' := hkn2
                clear hkn
                have hkn := hkn'
                clear hlp
                have hlp := hlp3
                clear hkn' hlp3 HNO3 HNO2
                generalize itP q j = p at *
                rcases hways2 with ⟨hlt2, hbt⟩ | hlt2
                · rw [hbt] at hgood0
                  have hD2 := Lib.hid (HNO.out hbt)
                  have hjk2 : (j : Int) < ct + 1 := by omega
                  have r0 := hbx.out.cell0
                  have r1 := hbx.out.cell1
                  have r2 := hbx.out.cell2
                  have r3 := hbx.out.cell3
                  have f0 := hbx.out.frozen 0
                  have f1 := hbx.out.frozen 1
                  have f2 := hbx.out.frozen 2
                  have f3 := hbx.out.frozen 3
                  go_wp2_with (first
                    | (go_at_call 33; refine hgood0.out.mono ?_; rintro e w5 ⟨rfl, rfl⟩))
                  refine bodyPost_ret (results_node rfl _ _ _ _ _ _ _ _ rfl rfl (hbx.out.whole _ _ _ _)) rfl ?_
                  rw [hD2.out]
                  exact ⟨below_whole hB.out (Nat.le_refl _) _ _ _ _, _, rfl, nodeF_bare _ _ _⟩
                · clear hgood0
                  have HYES2 := Lib.hid (HYES.out hlt2)
                  have hjk3 : (ct : Int) + 1 ≤ j := by omega
                  have hgood := Lib.hid (fgood_any _ _ _ wr hrd.out)
                  cases hbad : p.bad
                  · rw [hbad] at hgood
                    have hD := Lib.hid (HYES2.out hbad)
                    have NF : Hid (NodeF wr (w2.heap.size + 1) (.agg #[.bool false, (.slice Ak q.n.keys.length ck), (.slice Av q.n.vals.length cv), (.slice Ai p.n.kids.length ci)]) p.n) := ⟨_, _, _, by rw [hlp], hgr.out.keys, hgr.out.vals, by exact hki.out⟩
                    have hlg := Lib.hid (refgood_any _ _ wr NF.out.node hkn)
                    have hbx2 : Bx wr w2.heap.size false (.slice Ak q.n.keys.length ck) (.slice Av q.n.vals.length cv) (.slice Ai p.n.kids.length ci) := hlp ▸ hgr.out.box
                    have e0 := hbx2.cell0
                    have e1 := hbx2.cell1
                    have e2 := hbx2.cell2
                    have e3 := hbx2.cell3
                    have HBX2 := Lib.hid hbx2
                    clear hbx2
                    cases hg : good p.n
                    · have hD2 : Hid (dec b = none) := by unfold Hid; rw [hD.out, hg]; rfl
                      rw [hg] at hlg
                      clear hD hg hbad
                      go_wp2_with (first
                        | (go_at_call 33; refine hgood.out.mono ?_; rintro e w5 ⟨rfl, rfl⟩)
                        | (go_at_call 11; refine hlg.out.mono ?_; rintro e w5 ⟨rfl, hb5⟩
                           have X5 := Lib.hid (hbx.out.on hb5); have B5 := Lib.hid (hB.out.trans (hb5.mono hB.out.size))
                           have s0 := X5.out.cell0; have s1 := X5.out.cell1; have s2 := X5.out.cell2; have s3 := X5.out.cell3
                           have g0 := X5.out.frozen 0; have g1 := X5.out.frozen 1; have g2 := X5.out.frozen 2; have g3 := X5.out.frozen 3))
                      refine bodyPost_ret (results_node rfl _ _ _ _ _ _ _ _ rfl rfl (X5.out.whole _ _ _ _)) rfl ?_
                      rw [hD2.out]
                      exact ⟨below_whole B5.out (Nat.le_refl _) _ _ _ _, _, rfl, nodeF_bare _ _ _⟩
                    · have hD2 : Hid (dec b = some p.n) := by unfold Hid; rw [hD.out, hg]; rfl
                      rw [hg] at hlg
                      clear hD hg hbad
                      go_wp2_with (first
                        | (go_at_call 33; refine hgood.out.mono ?_; rintro e w5 ⟨rfl, rfl⟩)
                        | (go_at_call 11; refine hlg.out.mono ?_; rintro e w5 ⟨rfl, hb5⟩
                           have X5 := Lib.hid (hbx.out.on hb5); have B5 := Lib.hid (hB.out.trans (hb5.mono hB.out.size)); have N5 := Lib.hid (NF.out.keep hb5); have Q5 := Lib.hid (HBX2.out.on hb5)
                           have s0 := X5.out.cell0; have s1 := X5.out.cell1; have s2 := X5.out.cell2; have s3 := X5.out.cell3
                           have t0 := Q5.out.cell0; have t1 := Q5.out.cell1; have t2 := Q5.out.cell2; have t3 := Q5.out.cell3
                           have g0 := X5.out.frozen 0; have g1 := X5.out.frozen 1; have g2 := X5.out.frozen 2; have g3 := X5.out.frozen 3))
                      refine bodyPost_ret (results_node rfl _ _ _ _ _ _ _ _ rfl rfl (X5.out.whole _ _ _ _)) rfl ?_
                      rw [hD2.out]
                      exact ⟨below_whole B5.out (Nat.le_refl _) _ _ _ _, _, rfl, (N5.out.whole (by omega) _ _ _ _).lower (by omega)⟩
                  · have hD2 := Lib.hid (HNO.out hbad)
                    rw [hbad] at hgood
                    clear hbad
                    have r0 := hbx.out.cell0
                    have r1 := hbx.out.cell1
                    have r2 := hbx.out.cell2
                    have r3 := hbx.out.cell3
                    have f0 := hbx.out.frozen 0
                    have f1 := hbx.out.frozen 1
                    have f2 := hbx.out.frozen 2
                    have f3 := hbx.out.frozen 3
                    go_wp2_with (first
                      | (go_at_call 33; refine hgood.out.mono ?_; rintro e w5 ⟨rfl, rfl⟩))
                    refine bodyPost_ret (results_node rfl _ _ _ _ _ _ _ _ rfl rfl (hbx.out.whole _ _ _ _)) rfl ?_
                    rw [hD2.out]
                    exact ⟨below_whole hB.out (Nat.le_refl _) _ _ _ _, _, rfl, nodeF_bare _ _ _⟩

end Go.Proofs.Ytjilkpgbojjnfaa.Cd
