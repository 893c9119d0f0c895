/-
  ObjectSizes: the law's walk. Conditions: none.
-/
import Derived.Test.YtabogconbjdcgaaObHeld
namespace Go.Proofs.Ytabogconbjdcgaa.ObjectSizes
open Go.RowKit Go.Proofs.Ytabogconbjdcgaa.Cd

set_option maxRecDepth 100000 in
set_option maxHeartbeats 6400000 in
theorem walk (vt : Value) (t : Tre) (vc : Value) (c : Cmt) (w : World) (ht : TreIn w w.heap.size vt t ∧ FitT t) (hc : CmtIn w w.heap.size vc c ∧ FitC c) : Calls Try.prog 7 #[vt, vc] w (Gives (.bool true) w) := by
  obtain ⟨⟨vp, vk, rfl, hp0, hk0⟩, hft⟩ := ht
  obtain ⟨⟨vi, rfl, hi0⟩, hfc⟩ := hc
  obtain ⟨A1, c1, e1, k1, l1⟩ := hp0.len
  obtain ⟨A2, c2, e2, k2, l2⟩ := hk0.len
  obtain ⟨A3, c3, e3, k3, l3⟩ := hi0.len
  subst e1 e2 e3
  have HFT := Lib.hid hft
  have HH1 := Lib.hid (Held.start hp0 hk0 hi0)
  have hcw := cells_com c (.slice A3 c.is.length c3)
  clear hp0 hk0 hi0 hft
  go_enter Try.func7, Try.ntmps7
  go_wp2_with (refine wp_box_row rfl _ rfl rfl ?_)
  generalize (w.alloc (.cells #[.slice A1 t.ps.length c1, .slice A2 t.ks.length c2] 25)).alloc (.cells (cmC c (.slice A3 c.is.length c3)).toArray 44) = W1 at *
  refine (oalive_any W1).mono ?_
  rintro e W2 ⟨rfl, hb⟩
  have HH2 := Lib.hid (HH1.out.step hb)
  clear hb HH1
  have d0 := HH2.out.tr.c0
  have d1 := HH2.out.tr.c1
  go_wp2_with fail
  refine (greatt_any _ t W2 HH2.out.tre HFT.out).mono ?_
  rintro e W3 ⟨s, rfl, hs, hb⟩
  have HH3 := Lib.hid (HH2.out.step hb)
  clear hb HH2 d0 d1
  cases s
  case true =>
    have HB := Lib.hid HH3.out.bel
    clear hs
    go_wp2_with fail
    go_ret
    exact ⟨rfl, HB.out⟩
  have HST := Lib.hid (hs rfl)
  clear hs
  try dsimp only
  repeat (first
    | go_values | go_skip | go_guarded
    | (refine wp_load_mid 44 _ rfl (w.heap.size + 1) 0 rfl (cmC c (.slice A3 c.is.length c3)) _ HH3.out.range Try.underlying44 rfl hcw ?_; try simp only [Act.put, List.setIfInBounds_toArray, List.set_cons_zero, List.set_cons_succ])
    | go_step | go_upon)
  refine (greatc_any _ c W3 HH3.out.cmt).mono ?_
  rintro e W4 ⟨s, rfl, hs, hb⟩
  have HH4 := Lib.hid (HH3.out.step hb)
  clear hb HH3
  cases s
  case true =>
    have HB := Lib.hid HH4.out.bel
    clear hs
    go_wp2_with fail
    go_ret
    exact ⟨rfl, HB.out⟩
  have HSC := Lib.hid (hs rfl)
  clear hs
  have d0 := HH4.out.tr.c0
  have d1 := HH4.out.tr.c1
  go_wp2_with fail
  refine (putt_any _ t W4 HH4.out.tre).mono ?_
  rintro e W5 ⟨v5, n5, rfl, hb, hput⟩
  have HH5 := Lib.hid (HH4.out.step hb)
  clear hb HH4 d0 d1
  have d0 := HH5.out.tr.c0
  have d1 := HH5.out.tr.c1
  rcases hput with ⟨hg, rfl, ho⟩ | ⟨_, rfl, rfl⟩
  · by_cases hk : t.ks.length = 0
    · have hks : t.ks = [] := List.eq_nil_of_length_eq_zero hk
      have hlen : (treeB t).length = 2 + ptot t.ps := by
        obtain ⟨ps, ks⟩ := t
        simp only at hks
        subst hks
        exact treeB_ptot hg
      obtain ⟨A5, c5, e5, _, _⟩ := ho.sl.len
      clear ho hg hks
      generalize (treeB t).length = L at *
      subst e5
      have hkq : ((t.ks.length : Int) == 0) = true := by rw [hk]; rfl
      have hp50 := HST.out.ps
      clear hk
      go_wp2_with fail
      go_loopw [7, 38] (fun s i wr => ∃ k : Nat, i = .int .i64 k ∧ k ≤ t.ps.length ∧ s = .int .i64 ((2 + ptot (t.ps.take k) : Nat) : Int) ∧ Hid (ptot (t.ps.take k) ≤ k * 9000) ∧ Hid (Held w wr t c (.slice A1 t.ps.length c1) (.slice A2 t.ks.length c2) (.slice A3 c.is.length c3))) (fun _ i _ => t.ps.length - (intOf i).toNat)
      case atStart => exact ⟨0, rfl, by omega, rfl, by unfold Hid ptot; simp, HH5.out⟩
      case round =>
        clear HH5 d0 d1
        obtain ⟨k, rfl, hk, rfl, hle, HH⟩ := hrel
        by_cases hlt : k < t.ps.length
        · obtain ⟨x, hxk⟩ : ∃ x, t.ps[k]? = some x := ⟨t.ps[k], List.getElem?_eq_getElem hlt⟩
          obtain ⟨b2, off2, e2, hB2, d0, d1⟩ := PsIn.at2 HH.out.psIn hxk
          subst e2
          have hnx := Lib.hid (ptot_take hxk)
          have hf1 := HST.out.key x (List.mem_of_getElem? hxk)
          have hf2 := HST.out.val x (List.mem_of_getElem? hxk)
          clear hxk
          have hle2 := hle.out
          generalize ptot (t.ps.take k) = T at *
          have HH3 := Lib.hid (HH.out.new (.cells #[.string ⟨x.1.toArray⟩, .string ⟨x.2.toArray⟩] 56))
          have hzx1 : (ByteArray.mk x.1.toArray).size = x.1.length := rfl
          have hzx2 : (ByteArray.mk x.2.toArray).size = x.2.length := rfl
          go_wp2_with fail
          go_roundw
          case rel => exact ⟨k + 1, by go_num, by omega, by rw [hnx.out]; go_num, by rw [hnx.out]; unfold Hid; omega, HH3.out⟩
          case measure => simp [intOf]; omega
        · have hkk : k = t.ps.length := by omega
          have hT : ptot (t.ps.take k) = ptot t.ps := by rw [hkk, List.take_length]
          have hle2 := hle.out
          rw [hT] at hle2 ⊢
          have hE : ((L : Int) != ((2 + ptot t.ps : Nat) : Int)) = false := by rw [bne_eq_false_iff_eq]; omega
          generalize ptot t.ps = T at *
          have hE2 : ((L : Int) != 2 + (T : Int)) = false := by rw [bne_eq_false_iff_eq]; omega
          clear hlen hT
          go_wp2_with (first
            | (refine wpList_load_mid rfl 44 _ rfl (w.heap.size + 1) 0 rfl (cmC c (.slice A3 c.is.length c3)) _ HH.out.range Try.underlying44 rfl hcw ?_))
          refine (putc_any _ c wr HH.out.cmt).mono ?_
          rintro e W7 ⟨v7, n7, rfl, hb, hput⟩
          have HH7 := Lib.hid (HH.out.step hb)
          clear hb HH
          rcases hput with ⟨hg, rfl, ho⟩ | ⟨_, rfl, _⟩
          · obtain ⟨A7, c7, e7, _, _⟩ := ho.sl.len
            have hlen := comB_size hg
            clear ho hg
            generalize (comB c).length = L at *
            subst e7
            have d0 := HH7.out.cm.kind
            have d33 := HH7.out.cm.is
            have d34 := HH7.out.cm.note
            have d35 := HH7.out.cm.num
            have HB := Lib.hid HH7.out.bel
            have hzn : (ByteArray.mk c.note.toArray).size = c.note.length := rfl
            have hs1 := HSC.out.is
            have hs2 := HSC.out.note
            generalize c.is.length = n at *
            generalize c.note.length = m at *
            by_cases hk : kd c.root = 2
            · have hq : (((kd c.root).toNat : Int) == 2) = true := by rw [hk]; rfl
              rw [if_pos hk] at hlen
              generalize kd c.root = K at *
              clear hk
              by_cases hn : 63 < c.num
              · rw [if_pos hn] at hlen
                have hL : (L : Int) = 2 + 33 * (1 + (n : Int)) + 1 + (m : Int) + 2 := by omega
                have hE : ((L : Int) == 2 + 33 * (1 + (n : Int)) + 1 + (m : Int) + 2) = true := by rw [beq_iff_eq]; exact hL
                clear hlen hL
                go_wp2_with fail
                go_ret
                exact ⟨rfl, HB.out⟩
              · rw [if_neg hn] at hlen
                have hL : (L : Int) = 2 + 33 * (1 + (n : Int)) + 1 + (m : Int) + 1 := by omega
                have hE : ((L : Int) == 2 + 33 * (1 + (n : Int)) + 1 + (m : Int) + 1) = true := by rw [beq_iff_eq]; exact hL
                clear hlen hL
                go_wp2_with fail
                go_ret
                exact ⟨rfl, HB.out⟩
            · have hq : (((kd c.root).toNat : Int) == 2) = false := by
                rw [beq_eq_false_iff_ne]
                exact fun e => hk (UInt8.toNat_inj.1 (by show _ = 2; omega))
              rw [if_neg hk] at hlen
              generalize kd c.root = K at *
              clear hk
              by_cases hn : 63 < c.num
              · rw [if_pos hn] at hlen
                have hL : (L : Int) = 2 + 9 * (1 + (n : Int)) + 1 + (m : Int) + 2 := by omega
                have hE : ((L : Int) == 2 + 9 * (1 + (n : Int)) + 1 + (m : Int) + 2) = true := by rw [beq_iff_eq]; exact hL
                clear hlen hL
                go_wp2_with fail
                go_ret
                exact ⟨rfl, HB.out⟩
              · rw [if_neg hn] at hlen
                have hL : (L : Int) = 2 + 9 * (1 + (n : Int)) + 1 + (m : Int) + 1 := by omega
                have hE : ((L : Int) == 2 + 9 * (1 + (n : Int)) + 1 + (m : Int) + 1) = true := by rw [beq_iff_eq]; exact hL
                clear hlen hL
                go_wp2_with fail
                go_ret
                exact ⟨rfl, HB.out⟩
          · have HB := Lib.hid HH7.out.bel
            go_wp2_with fail
            go_ret
            exact ⟨rfl, HB.out⟩
    · have hkq : ((t.ks.length : Int) == 0) = false := by rw [beq_eq_false_iff_ne]; omega
      clear ho hg hk
      go_wp2_with (first
        | (refine wpList_load_mid rfl 44 _ rfl (w.heap.size + 1) 0 rfl (cmC c (.slice A3 c.is.length c3)) _ HH5.out.range Try.underlying44 rfl hcw ?_))
      refine (putc_any _ c W5 HH5.out.cmt).mono ?_
      rintro e W7 ⟨v7, n7, rfl, hb, hput⟩
      have HH7 := Lib.hid (HH5.out.step hb)
      clear hb HH5
      rcases hput with ⟨hg, rfl, ho⟩ | ⟨_, rfl, _⟩
      · obtain ⟨A7, c7, e7, _, _⟩ := ho.sl.len
        have hlen := comB_size hg
        clear ho hg
        generalize (comB c).length = L at *
        subst e7
        have d0 := HH7.out.cm.kind
        have d33 := HH7.out.cm.is
        have d34 := HH7.out.cm.note
        have d35 := HH7.out.cm.num
        have HB := Lib.hid HH7.out.bel
        have hzn : (ByteArray.mk c.note.toArray).size = c.note.length := rfl
        have hs1 := HSC.out.is
        have hs2 := HSC.out.note
        generalize c.is.length = n at *
        generalize c.note.length = m at *
        by_cases hk : kd c.root = 2
        · have hq : (((kd c.root).toNat : Int) == 2) = true := by rw [hk]; rfl
          rw [if_pos hk] at hlen
          generalize kd c.root = K at *
          clear hk
          by_cases hn : 63 < c.num
          · rw [if_pos hn] at hlen
            have hL : (L : Int) = 2 + 33 * (1 + (n : Int)) + 1 + (m : Int) + 2 := by omega
            have hE : ((L : Int) == 2 + 33 * (1 + (n : Int)) + 1 + (m : Int) + 2) = true := by rw [beq_iff_eq]; exact hL
            clear hlen hL
            go_wp2_with fail
            go_ret
            exact ⟨rfl, HB.out⟩
          · rw [if_neg hn] at hlen
            have hL : (L : Int) = 2 + 33 * (1 + (n : Int)) + 1 + (m : Int) + 1 := by omega
            have hE : ((L : Int) == 2 + 33 * (1 + (n : Int)) + 1 + (m : Int) + 1) = true := by rw [beq_iff_eq]; exact hL
            clear hlen hL
            go_wp2_with fail
            go_ret
            exact ⟨rfl, HB.out⟩
        · have hq : (((kd c.root).toNat : Int) == 2) = false := by
            rw [beq_eq_false_iff_ne]
            exact fun e => hk (UInt8.toNat_inj.1 (by show _ = 2; omega))
          rw [if_neg hk] at hlen
          generalize kd c.root = K at *
          clear hk
          by_cases hn : 63 < c.num
          · rw [if_pos hn] at hlen
            have hL : (L : Int) = 2 + 9 * (1 + (n : Int)) + 1 + (m : Int) + 2 := by omega
            have hE : ((L : Int) == 2 + 9 * (1 + (n : Int)) + 1 + (m : Int) + 2) = true := by rw [beq_iff_eq]; exact hL
            clear hlen hL
            go_wp2_with fail
            go_ret
            exact ⟨rfl, HB.out⟩
          · rw [if_neg hn] at hlen
            have hL : (L : Int) = 2 + 9 * (1 + (n : Int)) + 1 + (m : Int) + 1 := by omega
            have hE : ((L : Int) == 2 + 9 * (1 + (n : Int)) + 1 + (m : Int) + 1) = true := by rw [beq_iff_eq]; exact hL
            clear hlen hL
            go_wp2_with fail
            go_ret
            exact ⟨rfl, HB.out⟩
      · have HB := Lib.hid HH7.out.bel
        go_wp2_with fail
        go_ret
        exact ⟨rfl, HB.out⟩
  · go_wp2_with (first
      | (refine wpList_load_mid rfl 44 _ rfl (w.heap.size + 1) 0 rfl (cmC c (.slice A3 c.is.length c3)) _ HH5.out.range Try.underlying44 rfl hcw ?_))
    refine (putc_any _ c W5 HH5.out.cmt).mono ?_
    rintro e W7 ⟨v7, n7, rfl, hb, hput⟩
    have HH7 := Lib.hid (HH5.out.step hb)
    clear hb HH5
    rcases hput with ⟨hg, rfl, ho⟩ | ⟨_, rfl, _⟩
    · obtain ⟨A7, c7, e7, _, _⟩ := ho.sl.len
      have hlen := comB_size hg
      clear ho hg
      generalize (comB c).length = L at *
      subst e7
      have d0 := HH7.out.cm.kind
      have d33 := HH7.out.cm.is
      have d34 := HH7.out.cm.note
      have d35 := HH7.out.cm.num
      have HB := Lib.hid HH7.out.bel
      have hzn : (ByteArray.mk c.note.toArray).size = c.note.length := rfl
      have hs1 := HSC.out.is
      have hs2 := HSC.out.note
      generalize c.is.length = n at *
      generalize c.note.length = m at *
      by_cases hk : kd c.root = 2
      · have hq : (((kd c.root).toNat : Int) == 2) = true := by rw [hk]; rfl
        rw [if_pos hk] at hlen
        generalize kd c.root = K at *
        clear hk
        by_cases hn : 63 < c.num
        · rw [if_pos hn] at hlen
          have hL : (L : Int) = 2 + 33 * (1 + (n : Int)) + 1 + (m : Int) + 2 := by omega
          have hE : ((L : Int) == 2 + 33 * (1 + (n : Int)) + 1 + (m : Int) + 2) = true := by rw [beq_iff_eq]; exact hL
          clear hlen hL
          go_wp2_with fail
          go_ret
          exact ⟨rfl, HB.out⟩
        · rw [if_neg hn] at hlen
          have hL : (L : Int) = 2 + 33 * (1 + (n : Int)) + 1 + (m : Int) + 1 := by omega
          have hE : ((L : Int) == 2 + 33 * (1 + (n : Int)) + 1 + (m : Int) + 1) = true := by rw [beq_iff_eq]; exact hL
          clear hlen hL
          go_wp2_with fail
          go_ret
          exact ⟨rfl, HB.out⟩
      · have hq : (((kd c.root).toNat : Int) == 2) = false := by
          rw [beq_eq_false_iff_ne]
          exact fun e => hk (UInt8.toNat_inj.1 (by show _ = 2; omega))
        rw [if_neg hk] at hlen
        generalize kd c.root = K at *
        clear hk
        by_cases hn : 63 < c.num
        · rw [if_pos hn] at hlen
          have hL : (L : Int) = 2 + 9 * (1 + (n : Int)) + 1 + (m : Int) + 2 := by omega
          have hE : ((L : Int) == 2 + 9 * (1 + (n : Int)) + 1 + (m : Int) + 2) = true := by rw [beq_iff_eq]; exact hL
          clear hlen hL
          go_wp2_with fail
          go_ret
          exact ⟨rfl, HB.out⟩
        · rw [if_neg hn] at hlen
          have hL : (L : Int) = 2 + 9 * (1 + (n : Int)) + 1 + (m : Int) + 1 := by omega
          have hE : ((L : Int) == 2 + 9 * (1 + (n : Int)) + 1 + (m : Int) + 1) = true := by rw [beq_iff_eq]; exact hL
          clear hlen hL
          go_wp2_with fail
          go_ret
          exact ⟨rfl, HB.out⟩
    · have HB := Lib.hid HH7.out.bel
      go_wp2_with fail
      go_ret
      exact ⟨rfl, HB.out⟩

end Go.Proofs.Ytabogconbjdcgaa.ObjectSizes
