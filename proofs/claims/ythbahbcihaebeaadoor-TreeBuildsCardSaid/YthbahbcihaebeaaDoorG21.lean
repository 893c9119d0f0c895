/-
  The document's Tree: a tree's bytes. Conditions: not too many bytes.
-/
import Derived.Test.YthbahbcihaebeaaDoorG13
import Derived.Test.YthbahbcihaebeaaDoorG22
/-
  The document's Good. Conditions: none.
-/
namespace Go.Proofs.YthbahbcihaebeaaDoor.Cd
open Go.RowKit

set_option maxRecDepth 100000 in
set_option maxHeartbeats 1600000 in
theorem rgoodw_any (v : Value) (l : List Bp) (w : World) (h : PsIn w w.heap.size v l) : Calls Tryd.prog 8 #[v] w (Says (GoodW l) w) := by
  obtain ⟨A, c, rfl, hm1, hm2⟩ := h.len
  have H := Lib.hid h
  clear h
  by_cases hbig : 256 < l.length
  · have hno : Hid (¬ GoodW l) := fun h => by have := h.few; omega
    have hbig' : (256 : Int) < l.length := by omega
    go_enter Tryd.func8, Tryd.ntmps8
    go_wp2_with fail
    go_ret
    exact ⟨false, rfl, ⟨(fun h => by cases h), fun h => absurd h hno.out⟩, Below.refl _ _⟩
  have hbig' : ¬ (256 : Int) < l.length := by omega
  go_enter Tryd.func8, Tryd.ntmps8
  go_wp2_with fail
  go_loopw [10] (fun i wr => ∃ k : Nat, i = .int .i64 k ∧ k ≤ l.length ∧ Hid (∀ (j : Nat) p, j < k → l[j]? = some p → p.1.length ≤ 16 ∧ p.2.length ≤ 16) ∧ Hid (∀ (j : Nat) a b, j + 1 < k → l[j]? = some a → l[j + 1]? = some b → a.1 < b.1) ∧ Hid (Below w.heap.size w wr)) (fun i _ => l.length - (intOf i).toNat)
  case atStart => exact ⟨0, rfl, by omega, fun j _ h => by omega, fun j _ _ h => by omega, Below.refl _ _⟩
  case round =>
    obtain ⟨k, rfl, hk, hp, hq, hbl⟩ := hrel
    by_cases hlt : k < l.length
    · obtain ⟨x, hxk⟩ : ∃ x, l[k]? = some x := ⟨l[k], List.getElem?_eq_getElem hlt⟩
      obtain ⟨b2, off2, e2, hB2, d0, d1⟩ := PsIn.at2 (H.out.below hbl.out) hxk
      subst e2
      have HX := Lib.hid hxk
      clear hxk
      have hb3 : Below w.heap.size w (wr.alloc (.cells #[.string ⟨x.1.toArray⟩, .string ⟨x.2.toArray⟩] 38)) := hbl.out.alloc hbl.out.size _
      have HB3 := Lib.hid hb3
      clear hb3
      have hz1 : (ByteArray.mk x.1.toArray).size = x.1.length := rfl
      have hz2 : (ByteArray.mk x.2.toArray).size = x.2.length := rfl
      by_cases hs : x.1.length ≤ 16 ∧ x.2.length ≤ 16
      · obtain ⟨hs1, hs2⟩ := hs
        have hp2 : Hid (∀ (j : Nat) p, j < k + 1 → l[j]? = some p → p.1.length ≤ 16 ∧ p.2.length ≤ 16) := fun j p hj hjp => by
          by_cases e : j = k
          · subst e
            rw [HX.out] at hjp
            injection hjp with hjp
            subst hjp
            exact ⟨hs1, hs2⟩
          · exact hp.out j p (by omega) hjp
        have hn1 : ¬ (16 : Int) < x.1.length := by omega
        have hn2 : ¬ (16 : Int) < x.2.length := by omega
        have hn3 : decide ((16 : Int) < x.2.length) = false := decide_eq_false hn2
        have hn4 : decide ((16 : Int) < x.1.length) = false := decide_eq_false hn1
        by_cases h0 : 0 < k
        · obtain ⟨j, rfl⟩ : ∃ j, k = j + 1 := ⟨k - 1, by omega⟩
          obtain ⟨y, hyk⟩ : ∃ y, l[j]? = some y := ⟨l[j], List.getElem?_eq_getElem (by omega)⟩
          obtain ⟨b3, off3, e3, hB3, f0, f1⟩ := PsIn.at2 (H.out.below hbl.out) hyk
          injection e3 with e3
          injection e3 with e3 e4
          subst e3 e4
          have f0a : ∀ o : Obj, (wr.alloc o).cell? ⟨b2, off2 + j * 2, none⟩ = some (.string ⟨y.1.toArray⟩) := fun o => cell_kept (new_below wr o) f0
          have HY := Lib.hid hyk
          clear hyk f0 f1
          have hgd : decide ((0 : Int) < (j : Int) + 1) = true := decide_eq_true (by omega)
          have hle := less_of y.1 x.1
          by_cases hov : y.1 < x.1
          · rw [decide_eq_true hov] at hle
            have hq2 : Hid (∀ (i : Nat) a b, i + 1 < j + 1 + 1 → l[i]? = some a → l[i + 1]? = some b → a.1 < b.1) := fun i a b hi ha hb => by
              by_cases e : i = j
              · subst e
                rw [HY.out] at ha
                rw [HX.out] at hb
                injection ha with ha
                injection hb with hb
                subst ha hb
                exact hov
              · exact hq.out i a b (by omega) ha hb
            have hle2 : Op.bytesLess x.1 y.1 = false := by rw [less_of]; exact decide_eq_false (List.lt_asymm hov)
            have heq2 : (x.1 == y.1) = false := by rw [beq_eq_false_iff_ne]; exact fun e => List.lt_irrefl _ (by rw [e] at hov; exact hov)
            clear hov
            go_wp2_with fail
            go_quiet (fail)
            go_wp2_with fail
            go_roundw
            case rel => exact ⟨j + 1 + 1, by go_num, by omega, hp2, hq2, below_drewN HB3.out _⟩
            case measure => simp [intOf]; omega
          · rw [decide_eq_false hov] at hle
            have hno : Hid (¬ GoodW l) := fun h => hov (rises_to h.rise HY.out HX.out)
            have hways : Op.bytesLess x.1 y.1 = true ∨ (Op.bytesLess x.1 y.1 = false ∧ (x.1 == y.1) = true) := by
              by_cases h9 : x.1 < y.1
              · exact .inl (by rw [less_of]; exact decide_eq_true h9)
              · exact .inr ⟨by rw [less_of]; exact decide_eq_false h9, by rw [beq_iff_eq]; exact List.le_antisymm (List.not_lt.1 hov) (List.not_lt.1 h9)⟩
            clear hov
            rcases hways with hle2 | ⟨hle2, heq2⟩
            all_goals
              go_wp2_with fail
              go_quiet (fail)
              go_wp2_with fail
              go_ret
              exact ⟨false, rfl, ⟨(fun h => by cases h), fun h => absurd h hno.out⟩, below_drewN HB3.out _⟩
        · obtain rfl : k = 0 := by omega
          rw [show off2 + 0 * 2 = off2 by omega] at d0 d1
          have hgd : decide ((0 : Int) < ((0 : Nat) : Int)) = false := rfl
          have hq2 : Hid (∀ (i : Nat) a b, i + 1 < 0 + 1 → l[i]? = some a → l[i + 1]? = some b → a.1 < b.1) := fun i a b hi => by omega
          go_wp2_with fail
          go_quiet (fail)
          go_wp2_with fail
          go_roundw
          case rel => exact ⟨0 + 1, by go_num, by omega, hp2, hq2, below_drewN HB3.out _⟩
          case measure => simp [intOf]; omega
      · have hno : Hid (¬ GoodW l) := fun h => hs ⟨h.key _ (List.mem_of_getElem? HX.out), h.val _ (List.mem_of_getElem? HX.out)⟩
        have hways : 16 < x.1.length ∨ (¬ 16 < x.1.length ∧ 16 < x.2.length) := by omega
        clear hs
        rcases hways with h1 | ⟨h1, h2⟩
        all_goals
          go_wp2_with fail
          go_ret
          exact ⟨false, rfl, ⟨(fun h => by cases h), fun h => absurd h hno.out⟩, HB3.out⟩
    · have hyes : Hid (GoodW l) := ⟨by omega, fun p hpl => by
        obtain ⟨j, hj, rfl⟩ := List.getElem_of_mem hpl
        exact (hp.out j _ (by omega) (List.getElem?_eq_getElem hj)).1, fun p hpl => by
        obtain ⟨j, hj, rfl⟩ := List.getElem_of_mem hpl
        exact (hp.out j _ (by omega) (List.getElem?_eq_getElem hj)).2, rises_of fun j a b ha hb => hq.out j a b (by have := (List.getElem?_eq_some_iff.1 hb).1; omega) ha hb⟩
      clear hp hq
      go_wp2_with fail
      go_ret
      exact ⟨true, rfl, ⟨fun _ => hyes.out, fun _ => rfl⟩, hbl.out⟩

end Go.Proofs.YthbahbcihaebeaaDoor.Cd

/-
  The document's Tree: a tree's bytes. Conditions: not too many bytes.
-/
namespace Go.Proofs.YthbahbcihaebeaaDoor.Cd
open Go.RowKit

theorem rtxt_any (s : List UInt8) (w : World) (hs : s.length ≤ 100000000) : Calls Tryd.prog 27 #[.string ⟨s.toArray⟩] w (Gives (.string ⟨(txt s).toArray⟩) w) := by
  have := ref_text_any ⟨s.toArray⟩ w (by have : (ByteArray.mk s.toArray).size = s.length := rfl; omega)
  exact this

set_option maxRecDepth 100000 in
set_option maxHeartbeats 6400000 in
theorem rtree_any (v : Value) (t : Tre) (w : World) (h : TreIn w w.heap.size v t) (hl1 : (psB t.ps).length ≤ 100000000) (hl2 : (ksB t.ks).length ≤ 100000000) : Calls Tryd.prog 19 #[v] w (Gives (.string ⟨(treeB t).toArray⟩) w) := by
  obtain ⟨ps, ks⟩ := t
  obtain ⟨vp, vk, rfl, h1, h2⟩ := h
  have h1 : PsIn w w.heap.size vp ps := h1
  have h2 : KsIn w w.heap.size vk ks := h2
  simp only at hl1 hl2
  obtain ⟨A1, c1, e1, k1, l1⟩ := h1.len
  obtain ⟨A2, c2, e2, k2, l2⟩ := h2.len
  have H1 := Lib.hid h1
  have H2 := Lib.hid h2
  clear h1 h2
  subst e1 e2
  have hb1 : Below w.heap.size w (w.alloc (.cells #[.slice A1 ps.length c1, .slice A2 ks.length c2] 56)) := new_below _ _
  have HTR : Hid ((w.alloc (.cells #[.slice A1 ps.length c1, .slice A2 ks.length c2] 56)).heap[w.heap.size]? = some (.cells #[.slice A1 ps.length c1, .slice A2 ks.length c2] 56)) := heap_alloc_new _ _
  have HB1 := Lib.hid hb1
  have hzz : (w.alloc (.cells #[.slice A1 ps.length c1, .slice A2 ks.length c2] 56)).heap.size = w.heap.size + 1 := asz _ _
  clear hb1
  by_cases hk : ks.length = 0
  · have hks : ks = [] := List.eq_nil_of_length_eq_zero hk
    have HT : Hid (treeB ⟨ps, ks⟩ = 1 :: UInt8.ofNat ps.length :: psB ps) := if_pos hks
    have hkq : ((ks.length : Int) == 0) = true := by rw [hk]; rfl
    have hl := hl1
    have hwl := wrap_len ps.length
    generalize UInt8.ofNat ps.length = n8 at *
    clear hk hks hl1 hl2
    have hcv := run_text_of _ _ _ _ (own_two (w.alloc (.cells #[.slice A1 ps.length c1, .slice A2 ks.length c2] 56)) 0 (Nat.zero_le _) 1 n8 1 n8.toNat rfl rfl).sl
    rw [hzz] at hcv
    have HB0 : Hid (Below w.heap.size w ((w.alloc (.cells #[.slice A1 ps.length c1, .slice A2 ks.length c2] 56)).alloc (.cells #[.int .u8 1, .int .u8 n8.toNat] 5))) := HB1.out.alloc (by omega) _
    have d0 : ((w.alloc (.cells #[.slice A1 ps.length c1, .slice A2 ks.length c2] 56)).alloc (.cells #[.int .u8 1, .int .u8 n8.toNat] 5)).cell? ⟨w.heap.size, 0, none⟩ = some (.slice A1 ps.length c1) := cell_kept (new_below _ _) (cell_of_row _ _ 0 _ _ _ HTR.out)
    clear HTR
    go_enter Tryd.func19, Tryd.ntmps19
    go_wp2_with fail
    generalize (w.alloc (.cells #[.slice A1 ps.length c1, .slice A2 ks.length c2] 56)).alloc (.cells #[.int .u8 1, .int .u8 n8.toNat] 5) = w0 at *
    clear hcv d0
    go_loopw [3, 22] (fun u i wr => ∃ k : Nat, i = .int .i64 k ∧ k ≤ ps.length ∧ u = .string ⟨(1 :: n8 :: psB (ps.take k)).toArray⟩ ∧ Hid (Below w.heap.size w wr)) (fun _ i _ => ps.length - (intOf i).toNat)
    case atStart => exact ⟨0, rfl, by omega, rfl, HB0.out⟩
    case round =>
      clear HB0
      obtain ⟨k, rfl, hk, rfl, hbl⟩ := hrel
      by_cases hlt : k < ps.length
      · obtain ⟨x, hxk⟩ : ∃ x, ps[k]? = some x := ⟨ps[k], List.getElem?_eq_getElem hlt⟩
        obtain ⟨b2, off2, e2, hB2, d0, d1⟩ := PsIn.at2 (H1.out.below hbl.out) hxk
        subst e2
        have hnx := psB_take hxk
        have hlk1 := psB_len hl (k := k + 1)
        rw [hnx] at hlk1
        have HNX := Lib.hid hnx
        clear hnx hxk
        generalize psB (ps.take k) = R at *
        have hlk : R.length + ((enc x.1.length).length + x.1.length + ((enc x.2.length).length + x.2.length)) ≤ 100000000 := by simpa [txt_len] using hlk1
        clear hlk1
        have HP : Hid (PairAt (wr.alloc (.cells #[.string ⟨x.1.toArray⟩, .string ⟨x.2.toArray⟩] 38)) wr.heap.size x) := heap_alloc_new _ _
        have hz1 : (wr.alloc (.cells #[.string ⟨x.1.toArray⟩, .string ⟨x.2.toArray⟩] 38)).heap.size = wr.heap.size + 1 := asz _ _
        have HB1 : Hid (Below w.heap.size w (wr.alloc (.cells #[.string ⟨x.1.toArray⟩, .string ⟨x.2.toArray⟩] 38))) := hbl.out.alloc hbl.out.size _
        have hzr := hbl.out.size
        have HX1 := Lib.hid (fun W => rtxt_any x.1 W (by omega))
        have HX2 := Lib.hid (fun W => rtxt_any x.2 W (by omega))
        have hT1 := txt_len x.1
        have hT2 : (txt x.2).length ≤ (enc x.2.length).length + x.2.length := Nat.le_of_eq (txt_len x.2)
        generalize txt x.1 = T1 at *
        generalize txt x.2 = T2 at *
        obtain ⟨L0, hL0⟩ : ∃ L, (1 :: n8 :: R : List UInt8) = L := ⟨_, rfl⟩
        have hL0l : L0.length = R.length + 2 := by rw [← hL0]; rfl
        obtain ⟨L1, hL1⟩ : ∃ L, L0 ++ T1 = L := ⟨_, rfl⟩
        have hL1l : L1.length = L0.length + T1.length := by rw [← hL1, List.length_append]
        obtain ⟨L2, hL2⟩ : ∃ L, L1 ++ T2 = L := ⟨_, rfl⟩
        have hadd1 := fun W => add_text W L0 T1 (by omega)
        have hadd2 := fun W => add_text W L1 T2 (by omega)
        rw [hL1] at hadd1
        rw [hL2] at hadd2
        have HL0 := Lib.hid hL0
        have HL1 := Lib.hid hL1
        have HL2 := Lib.hid hL2
        rw [hL0]
        clear hL0 hL1 hL2 hL0l hL1l hT1 hT2 hlk
        go_wp2_with fail
        generalize wr.alloc (.cells #[.string ⟨x.1.toArray⟩, .string ⟨x.2.toArray⟩] 38) = W1 at *
        obtain ⟨W0, hW0⟩ : ∃ x, W1.drew = x := ⟨_, rfl⟩
        have hS0 : PairAt W0 wr.heap.size x := by rw [← hW0]; exact HP.out
        have HBD : Hid (Below w.heap.size w W0) := by rw [← hW0]; exact HB1.out.drew
        have hs0 : W0.heap.size = wr.heap.size + 1 := by rw [← hW0]; exact hz1
        clear HP HB1 hz1
        refine region_begin hW0 (S := fun W => PairAt W wr.heap.size x) (by kernel_rfl) hS0 (fun hHeld => ?_)
        clear hW0 hS0
        refine take_at (i := 0) (.string ⟨L0.toArray⟩) (some 26) (by decide) (by rfl) (by kernel_rfl) (by kernel_rfl) (by kernel_rfl) (fun _ _ _ h => h) (by rfl) (fun W hW => by go_simp) (by assumption) ?_
        try simp only [Act.put, List.setIfInBounds_toArray, List.set_cons_zero, List.set_cons_succ]
        refine take_at (i := 1) (.pointer (some ⟨wr.heap.size, 0, none⟩)) (some 27) (by decide) (by rfl) (by kernel_rfl) (by kernel_rfl) (by kernel_rfl) (fun _ _ _ h => h) (by rfl) (fun W hW => by go_simp) (by assumption) ?_
        try simp only [Act.put, List.setIfInBounds_toArray, List.set_cons_zero, List.set_cons_succ]
        refine take_at (i := 2) (.string ⟨x.1.toArray⟩) (some 28) (by decide) (by rfl) (by kernel_rfl) (by kernel_rfl) (by kernel_rfl) (fun _ _ _ h => h) (by rfl) (fun W hW => by have := hW.key; go_simp) (by assumption) ?_
        try simp only [Act.put, List.setIfInBounds_toArray, List.set_cons_zero, List.set_cons_succ]
        refine take_at (i := 5) (.pointer (some ⟨wr.heap.size, 1, none⟩)) (some 31) (by decide) (by rfl) (by kernel_rfl) (by kernel_rfl) (by kernel_rfl) (fun _ _ _ h => h) (by rfl) (fun W hW => by go_simp) (by assumption) ?_
        try simp only [Act.put, List.setIfInBounds_toArray, List.set_cons_zero, List.set_cons_succ]
        refine take_at (i := 6) (.string ⟨x.2.toArray⟩) (some 32) (by decide) (by rfl) (by kernel_rfl) (by kernel_rfl) (by kernel_rfl) (fun _ _ _ h => h) (by rfl) (fun W hW => by have := hW.val; go_simp) (by assumption) ?_
        try simp only [Act.put, List.setIfInBounds_toArray, List.set_cons_zero, List.set_cons_succ]
        refine wpAnyH_ready (rs := [3]) (by kernel_rfl) (by simp) (AllReadyH.cons (Array.getElem?_eq_getElem (i := 3) (by decide)) (fun K9 hK => ?_) AllReadyH.nil)
        go_simp
        refine (HX1.out _).mono ?_
        rintro e w3 ⟨rfl, hb3⟩
        have HB3 := Lib.hid (HBD.out.trans (hb3.mono (by omega)))
        have hs3 := hb3.size
        refine hK.out _ _ (hb3.block _ (by omega) |>.trans hHeld) (fun hHeld => ?_)
        clear hK K9
        try simp only [Act.put, List.setIfInBounds_toArray, List.set_cons_zero, List.set_cons_succ]
        clear hb3
        refine take_at (i := 4) (.string ⟨L1.toArray⟩) (some 30) (by decide) (by rfl) (by kernel_rfl) (by kernel_rfl) (by kernel_rfl) (fun _ _ _ h => h) (by rfl) (fun W hW => by go_simp) (by assumption) ?_
        try simp only [Act.put, List.setIfInBounds_toArray, List.set_cons_zero, List.set_cons_succ]
        refine wpAnyH_ready (rs := [7]) (by kernel_rfl) (by simp) (AllReadyH.cons (Array.getElem?_eq_getElem (i := 7) (by decide)) (fun K9 hK => ?_) AllReadyH.nil)
        go_simp
        refine (HX2.out _).mono ?_
        rintro e w4 ⟨rfl, hb4⟩
        have HB4 := Lib.hid (HB3.out.trans (hb4.mono (by omega)))
        refine hK.out _ _ (hb4.block _ (by omega) |>.trans hHeld) (fun hHeld => ?_)
        clear hK K9
        try simp only [Act.put, List.setIfInBounds_toArray, List.set_cons_zero, List.set_cons_succ]
        clear hb4
        refine take_at (i := 8) (.string ⟨L2.toArray⟩) (some 34) (by decide) (by rfl) (by kernel_rfl) (by kernel_rfl) (by kernel_rfl) (fun _ _ _ h => h) (by rfl) (fun W hW => by go_simp) (by assumption) ?_
        try simp only [Act.put, List.setIfInBounds_toArray, List.set_cons_zero, List.set_cons_succ]
        refine take_at (i := 9) (.string ⟨L2.toArray⟩) (some 3) (by decide) (by rfl) (by kernel_rfl) (by kernel_rfl) (by kernel_rfl) (fun _ _ _ h => h) (by rfl) (fun W hW => by go_simp) (by assumption) ?_
        try simp only [Act.put, List.setIfInBounds_toArray, List.set_cons_zero, List.set_cons_succ]
        refine wpAnyH_done (by kernel_rfl) ?_ _
        try simp only [Act.put, List.setIfInBounds_toArray, List.set_cons_zero, List.set_cons_succ]
        go_wp2_with fail
        go_roundw
        case rel => exact ⟨k + 1, by go_num, by omega, by rw [HNX.out]; show Value.string ⟨L2.toArray⟩ = _; rw [← HL2.out, ← HL1.out, ← HL0.out]; simp, HB4.out⟩
        case measure => simp [intOf]; omega
      · have hkk : k = ps.length := by omega
        subst hkk
        rw [List.take_length]
        go_wp2_with fail
        go_ret
        exact ⟨by rw [HT.out]; rfl, hbl.out⟩
  · have hks : ks ≠ [] := fun e => hk (by rw [e]; rfl)
    have HT : Hid (treeB ⟨ps, ks⟩ = 2 :: UInt8.ofNat ks.length :: ksB ks) := if_neg hks
    have hkq : ((ks.length : Int) == 0) = false := by rw [beq_eq_false_iff_ne]; omega
    have hl := hl2
    have hwl := wrap_len ks.length
    generalize UInt8.ofNat ks.length = n8 at *
    clear hk hks hl1 hl2
    have hcv := run_text_of _ _ _ _ (own_two (w.alloc (.cells #[.slice A1 ps.length c1, .slice A2 ks.length c2] 56)) 0 (Nat.zero_le _) 2 n8 2 n8.toNat rfl rfl).sl
    rw [hzz] at hcv
    have HB0 : Hid (Below w.heap.size w ((w.alloc (.cells #[.slice A1 ps.length c1, .slice A2 ks.length c2] 56)).alloc (.cells #[.int .u8 2, .int .u8 n8.toNat] 5))) := HB1.out.alloc (by omega) _
    have d0 : ((w.alloc (.cells #[.slice A1 ps.length c1, .slice A2 ks.length c2] 56)).alloc (.cells #[.int .u8 2, .int .u8 n8.toNat] 5)).cell? ⟨w.heap.size, 1, none⟩ = some (.slice A2 ks.length c2) := cell_kept (new_below _ _) (cell_of_row _ _ 1 _ _ _ HTR.out)
    clear HTR
    go_enter Tryd.func19, Tryd.ntmps19
    go_wp2_with fail
    generalize (w.alloc (.cells #[.slice A1 ps.length c1, .slice A2 ks.length c2] 56)).alloc (.cells #[.int .u8 2, .int .u8 n8.toNat] 5) = w0 at *
    clear hcv d0
    go_loopw [6, 46] (fun u i wr => ∃ k : Nat, i = .int .i64 k ∧ k ≤ ks.length ∧ u = .string ⟨(2 :: n8 :: ksB (ks.take k)).toArray⟩ ∧ Hid (Below w.heap.size w wr)) (fun _ i _ => ks.length - (intOf i).toNat)
    case atStart => exact ⟨0, rfl, by omega, rfl, HB0.out⟩
    case round =>
      clear HB0
      obtain ⟨k, rfl, hk, rfl, hbl⟩ := hrel
      by_cases hlt : k < ks.length
      · obtain ⟨x, hxk⟩ : ∃ x, ks[k]? = some x := ⟨ks[k], List.getElem?_eq_getElem hlt⟩
        obtain ⟨b2, off2, e2, hB2, rx⟩ := KsIn.range (H2.out.below hbl.out) hxk
        subst e2
        have RX := Lib.hid rx
        clear rx
        have hnx := ksB_take hxk
        have hlk1 := ksB_len hl (k := k + 1)
        rw [hnx] at hlk1
        have HNX := Lib.hid hnx
        clear hnx hxk
        generalize ksB (ks.take k) = R at *
        have hlk : R.length + ((enc x.1.length).length + x.1.length + (textI x.2.1).length) ≤ 100000000 := by simpa [txt_len] using hlk1
        clear hlk1
        have HP : Hid (KidAt (wr.alloc (.cells (kkC x).toArray 52)) wr.heap.size x) := KidAt.new _ _
        have hz1 : (wr.alloc (.cells (kkC x).toArray 52)).heap.size = wr.heap.size + 1 := asz _ _
        have HB1 : Hid (Below w.heap.size w (wr.alloc (.cells (kkC x).toArray 52))) := hbl.out.alloc hbl.out.size _
        have hzr := hbl.out.size
        have HX1 := Lib.hid (fun W => rtxt_any x.1 W (by omega))
        have HX2 := Lib.hid (fun W => name_l x.2.1 W x.2.2)
        have hT1 := txt_len x.1
        have hT2 : (textI x.2.1).length ≤ 33 := textI_len _
        generalize txt x.1 = T1 at *
        generalize textI x.2.1 = T2 at *
        obtain ⟨L0, hL0⟩ : ∃ L, (2 :: n8 :: R : List UInt8) = L := ⟨_, rfl⟩
        have hL0l : L0.length = R.length + 2 := by rw [← hL0]; rfl
        obtain ⟨L1, hL1⟩ : ∃ L, L0 ++ T1 = L := ⟨_, rfl⟩
        have hL1l : L1.length = L0.length + T1.length := by rw [← hL1, List.length_append]
        obtain ⟨L2, hL2⟩ : ∃ L, L1 ++ T2 = L := ⟨_, rfl⟩
        have hadd1 := fun W => add_text W L0 T1 (by omega)
        have hadd2 := fun W => add_text W L1 T2 (by omega)
        rw [hL1] at hadd1
        rw [hL2] at hadd2
        have HL0 := Lib.hid hL0
        have HL1 := Lib.hid hL1
        have HL2 := Lib.hid hL2
        rw [hL0]
        clear hL0 hL1 hL2 hL0l hL1l hT1 hT2 hlk
        go_wp2_with (first
          | (refine wpList_load_mid rfl 52 _ rfl b2 (off2 + k * 34) rfl (kkC x) _ RX.out Tryd.underlying52 rfl (cells_kk x) ?_)
          | (refine wp_alloc_row zero_kk rfl rfl ?_)
          | (refine wp_fill_kk rfl _ _ rfl rfl (by simp [Act.eval, Act.put]) x rfl ?_))
        generalize wr.alloc (.cells (kkC x).toArray 52) = W1 at *
        obtain ⟨W0, hW0⟩ : ∃ x, W1.drew = x := ⟨_, rfl⟩
        have hS0 : KidAt W0 wr.heap.size x := by rw [← hW0]; exact HP.out
        have HBD : Hid (Below w.heap.size w W0) := by rw [← hW0]; exact HB1.out.drew
        have hs0 : W0.heap.size = wr.heap.size + 1 := by rw [← hW0]; exact hz1
        clear HP HB1 hz1
        refine region_begin hW0 (S := fun W => KidAt W wr.heap.size x) (by kernel_rfl) hS0 (fun hHeld => ?_)
        clear hW0 hS0
        refine take_at (i := 0) (.string ⟨L0.toArray⟩) (some 50) (by decide) (by rfl) (by kernel_rfl) (by kernel_rfl) (by kernel_rfl) (fun _ _ _ h => h) (by rfl) (fun W hW => by go_simp) (by assumption) ?_
        try simp only [Act.put, List.setIfInBounds_toArray, List.set_cons_zero, List.set_cons_succ]
        refine take_at (i := 1) (.pointer (some ⟨wr.heap.size, 0, none⟩)) (some 51) (by decide) (by rfl) (by kernel_rfl) (by kernel_rfl) (by kernel_rfl) (fun _ _ _ h => h) (by rfl) (fun W hW => by go_simp) (by assumption) ?_
        try simp only [Act.put, List.setIfInBounds_toArray, List.set_cons_zero, List.set_cons_succ]
        refine take_at (i := 2) (.string ⟨x.1.toArray⟩) (some 52) (by decide) (by rfl) (by kernel_rfl) (by kernel_rfl) (by kernel_rfl) (fun _ _ _ h => h) (by rfl) (fun W hW => by have := hW.key; go_simp) (by assumption) ?_
        try simp only [Act.put, List.setIfInBounds_toArray, List.set_cons_zero, List.set_cons_succ]
        refine take_at (i := 5) (.pointer (some ⟨wr.heap.size, 1, none⟩)) (some 55) (by decide) (by rfl) (by kernel_rfl) (by kernel_rfl) (by kernel_rfl) (fun _ _ _ h => h) (by rfl) (fun W hW => by go_simp) (by assumption) ?_
        try simp only [Act.put, List.setIfInBounds_toArray, List.set_cons_zero, List.set_cons_succ]
        refine take_at (i := 6) (idV x.2.1) (some 56) (by decide) (by rfl) (by kernel_rfl) (by kernel_rfl) (by kernel_rfl) (fun _ _ _ h => h) (by rfl) (fun W hW => by exact exec_load_mid _ _ rfl wr.heap.size 1 rfl (vb x.2.1) _ hW.id Tryd.underlying27 rfl (cells_ii x.2)) (by assumption) ?_
        try simp only [Act.put, List.setIfInBounds_toArray, List.set_cons_zero, List.set_cons_succ]
        refine wpAnyH_ready (rs := [3]) (by kernel_rfl) (by simp) (AllReadyH.cons (Array.getElem?_eq_getElem (i := 3) (by decide)) (fun K9 hK => ?_) AllReadyH.nil)
        go_simp
        refine (HX1.out _).mono ?_
        rintro e w3 ⟨rfl, hb3⟩
        have HB3 := Lib.hid (HBD.out.trans (hb3.mono (by omega)))
        have hs3 := hb3.size
        refine hK.out _ _ (hb3.block _ (by omega) |>.trans hHeld) (fun hHeld => ?_)
        clear hK K9
        try simp only [Act.put, List.setIfInBounds_toArray, List.set_cons_zero, List.set_cons_succ]
        clear hb3
        refine take_at (i := 4) (.string ⟨L1.toArray⟩) (some 54) (by decide) (by rfl) (by kernel_rfl) (by kernel_rfl) (by kernel_rfl) (fun _ _ _ h => h) (by rfl) (fun W hW => by go_simp) (by assumption) ?_
        try simp only [Act.put, List.setIfInBounds_toArray, List.set_cons_zero, List.set_cons_succ]
        refine wpAnyH_ready (rs := [7]) (by kernel_rfl) (by simp) (AllReadyH.cons (Array.getElem?_eq_getElem (i := 7) (by decide)) (fun K9 hK => ?_) AllReadyH.nil)
        go_simp
        refine (HX2.out _).mono ?_
        rintro e w4 ⟨rfl, hb4⟩
        have HB4 := Lib.hid (HB3.out.trans (hb4.mono (by omega)))
        refine hK.out _ _ (hb4.block _ (by omega) |>.trans hHeld) (fun hHeld => ?_)
        clear hK K9
        try simp only [Act.put, List.setIfInBounds_toArray, List.set_cons_zero, List.set_cons_succ]
        clear hb4
        refine take_at (i := 8) (.string ⟨L2.toArray⟩) (some 58) (by decide) (by rfl) (by kernel_rfl) (by kernel_rfl) (by kernel_rfl) (fun _ _ _ h => h) (by rfl) (fun W hW => by go_simp) (by assumption) ?_
        try simp only [Act.put, List.setIfInBounds_toArray, List.set_cons_zero, List.set_cons_succ]
        refine take_at (i := 9) (.string ⟨L2.toArray⟩) (some 6) (by decide) (by rfl) (by kernel_rfl) (by kernel_rfl) (by kernel_rfl) (fun _ _ _ h => h) (by rfl) (fun W hW => by go_simp) (by assumption) ?_
        try simp only [Act.put, List.setIfInBounds_toArray, List.set_cons_zero, List.set_cons_succ]
        refine wpAnyH_done (by kernel_rfl) ?_ _
        try simp only [Act.put, List.setIfInBounds_toArray, List.set_cons_zero, List.set_cons_succ]
        go_wp2_with fail
        go_roundw
        case rel => exact ⟨k + 1, by go_num, by omega, by rw [HNX.out]; show Value.string ⟨L2.toArray⟩ = _; rw [← HL2.out, ← HL1.out, ← HL0.out]; simp, HB4.out⟩
        case measure => simp [intOf]; omega
      · have hkk : k = ks.length := by omega
        subst hkk
        rw [List.take_length]
        go_wp2_with fail
        go_ret
        exact ⟨by rw [HT.out]; rfl, hbl.out⟩

end Go.Proofs.YthbahbcihaebeaaDoor.Cd
