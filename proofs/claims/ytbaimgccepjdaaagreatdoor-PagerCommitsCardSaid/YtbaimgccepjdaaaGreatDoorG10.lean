/-
  PagerKeeps answers true. Conditions: none.
-/
import Derived.Test.YtbaimgccepjdaaaGreatDoorG9
import Derived.Test.YtbaimgccepjdaaaGreatDoorG8
import Derived.BigQuiet
import Derived.Deep.QuietTactic
/-
  A commit. Conditions: at most 2^20 pages.
-/
namespace Go.Proofs.YtbaimgccepjdaaaGreatDoor.Cd
open Go.RowKit

theorem MakesD.over {w w1 w2 : World} {g N : Nat} {S : Nat → Prop} {D : Dsk} {v : Value} {e : Ending} (hb : Below w.heap.size w w1) (hS : ∀ k, S k → k < w.heap.size) (h : MakesD g N S D v w1 e w2) : MakesD g N S D v w e w2 := by
  obtain ⟨h1, h2, h3⟩ := h
  have s1 := hb.size
  have s2 := h3.size
  refine ⟨h1, h2.more (fun k hk => ?_) (fun k hk => ?_), (Apart.below hb).trans (h3.mono fun k hk => .inl hk)⟩
  · rcases hk with hk | hk
    · exact .inl hk
    · exact .inr ⟨by omega, hk.2⟩
  · rcases hk with hk | hk
    · have := hS k hk; omega
    · exact hk.2

theorem recF_len {ws : Pgs} (hw : ∀ p ∈ ws, (Lit.int .i64 p.1).wf = true) (hl : ∀ p ∈ ws, p.2.length ≤ 512) (hn : ws.length ≤ 1048576) : 0 < (recF ws).length ∧ (recF ws).length ≤ 532 * ws.length + 24 := by
  have h1 := recK_len hw hl hn ws.length (Nat.le_refl _)
  rw [recK_all] at h1
  have h2 := frm_le (recT ws) (by omega)
  exact ⟨frm_pos _, by unfold recF; omega⟩

theorem far_own {w w2 w3 : World} {S : Nat → Prop} {v : Value} {bs : List UInt8} (hS : ∀ k, S k → k < w.heap.size) (h2 : w.heap.size ≤ w2.heap.size) (h : Own w3 w2.heap.size v bs) : Far w3 S v bs := by
  refine ⟨h.sl, fun _ A n c e hs => ?_⟩
  rcases h.2 with ⟨h3, _⟩ | ⟨g, cap, cur, h3, h4, _⟩
  · rw [h3] at e; cases e
  · rw [h3] at e
    injection e with e _ _
    injection e with e
    rw [← e] at hs
    have := hS _ hs
    have h5 : w2.heap.size ≤ g := h4
    have h6 : g < w.heap.size := this
    omega

set_option maxRecDepth 100000 in
set_option maxHeartbeats 3200000 in
theorem commit_p (p g N M b : Nat) (n : List UInt8) (ws : Pgs) (S : Nat → Prop) (D : Dsk) (w : World) (h : PgrAt w S p g n) (hd : DkS w g N S D) (hn : n.length ≤ 140737488355000) (hm : PgMap w S b ws)
    (hl : ws.length ≤ 1048576) (hN : N + 4 * (pagesOf (recF ws).length + ws.length + 5) ≤ M) (hM : M ≤ 137438953472) :
    Calls Tryz.prog 16 #[.pointer (some ⟨p, 0, none⟩), .map (some b)] w (MakesD g M S (commitD D n ws).1 (.int .i64 ((commitD D n ws).2 : Nat)) w) := by
  have HP := Lib.hid h
  have HM := Lib.hid hm
  have HD := Lib.hid hd
  have hSlt := Lib.hid hd.lt
  have hwf := Lib.hid hm.rising.wf
  have HRE := Lib.hid (ready_p p g N n S D w h hd)
  clear h hd hm
  obtain ⟨C, hC⟩ : ∃ C, commitD D n ws = C := ⟨_, rfl⟩
  rw [hC]
  unfold commitD at hC
  cases hoff : D.off
  · have he : errD D = 0 := by unfold errD; rw [hoff]; rfl
    rw [hoff, if_neg (by simp)] at hC
    rw [he] at HRE
    have HLO := Lib.hid (hasLong_any b ws S w HM.out)
    cases hlong : hasLong ws
    · rw [hlong, if_neg (by simp)] at hC
      rw [hlong] at HLO
      have hsh := Lib.hid (hasLong_none hlong)
      cases hfr : freshN (pagesF D.now n).length ws with
      | none =>
        rw [hfr] at hC
        have hfe := freshR_none hfr
        subst hC
        go_enter Tryz.func16, Tryz.ntmps16
        go_wp2_with (first
          | (go_at_call 47; refine HRE.out.mono ?_; rintro e w1 ⟨rfl, rfl⟩)
          | (go_at_call 50; refine HLO.out.mono ?_; rintro e w1 ⟨rfl, hb1⟩; have HB1 := Lib.hid hb1; have HFR := Lib.hid (fresh_any p g N b n ws S D w1 (HP.out.below hb1) (HD.out.below hb1) hoff hn (HM.out.below hb1) hl); rw [hfe] at HFR; clear hb1)
          | (go_at_call 51; refine HFR.out.mono ?_; rintro e w2 ⟨rfl, hb2⟩; have HB2 := Lib.hid (HB1.out.trans (hb2.mono HB1.out.size)); clear hb2))
        go_ret
        exact makesD_same HD.out HB2.out (by omega) hM
      | some f =>
        rw [hfr] at hC
        have hfe := freshR_some hfr
        by_cases hws : ws = []
        · simp only [if_pos hws] at hC
          have hlen0 : ws.length = 0 := by rw [hws]; rfl
          subst hC
          go_enter Tryz.func16, Tryz.ntmps16
          go_wp2_with (first
            | (go_at_call 47; refine HRE.out.mono ?_; rintro e w1 ⟨rfl, rfl⟩)
            | (go_at_call 50; refine HLO.out.mono ?_; rintro e w1 ⟨rfl, hb1⟩; have HB1 := Lib.hid hb1; have HFR := Lib.hid (fresh_any p g N b n ws S D w1 (HP.out.below hb1) (HD.out.below hb1) hoff hn (HM.out.below hb1) hl); rw [hfe] at HFR; clear hb1)
            | (go_at_call 51; refine HFR.out.mono ?_; rintro e w2 ⟨rfl, hb2⟩; have HB2 := Lib.hid (HB1.out.trans (hb2.mono HB1.out.size)); have hlen := (HM.out.below HB2.out).len 3; rw [hlen0] at hlen; clear hb2))
          go_ret
          exact makesD_same HD.out HB2.out (by omega) hM
        · have hlen1 : (ws.length : Int) ≠ 0 := by
            intro e
            exact hws (List.eq_nil_of_length_eq_zero (by omega))
          simp only [if_neg hws] at hC
          obtain ⟨r0, r1⟩ := recF_len hwf.out hsh.out hl
          obtain ⟨q, hq⟩ : ∃ q, pagesOf (recF ws).length = q := ⟨_, rfl⟩
          have hql : q ≤ 1099511627776 := by rw [← hq]; unfold pagesOf; omega
          have hql' : (q : Int) ≤ 1099511627776 := by omega
          have hfl : f ≤ 1048576 := by have := laid_len' ws hfr; omega
          have hfl' : (f : Int) ≤ 1048576 := by omega
          rw [hq] at hC hN
          have HQ := Lib.hid hq
          have HC := Lib.hid hC
          clear hC hq
          by_cases hroom : freeD D < ((q + f : Nat) : Int)
          · have hr2 : freeD D < (q : Int) + (f : Int) := by omega
            have hC := HC.out
            rw [if_pos hroom] at hC
            have HC2 := Lib.hid hC
            clear hC HC hroom
            go_enter Tryz.func16, Tryz.ntmps16
            go_wp2_with (first
              | (go_at_call 47; refine HRE.out.mono ?_; rintro e w1 ⟨rfl, rfl⟩)
              | (go_at_call 50; refine HLO.out.mono ?_; rintro e w1 ⟨rfl, hb1⟩; have HB1 := Lib.hid hb1; have HFR := Lib.hid (fresh_any p g N b n ws S D w1 (HP.out.below hb1) (HD.out.below hb1) hoff hn (HM.out.below hb1) hl); rw [hfe] at HFR; clear hb1)
              | (go_at_call 51; refine HFR.out.mono ?_; rintro e w2 ⟨rfl, hb2⟩; have HB2 := Lib.hid (HB1.out.trans (hb2.mono HB1.out.size)); have hlen := (HM.out.below HB2.out).len 3; clear hb2)
              | (go_at_call 52; refine (encode_any b ws S w2 (HM.out.below HB2.out) hl hsh.out).mono ?_; rintro e w3 ⟨v3, rfl, ho3, hb3⟩; obtain ⟨g3, cap3, cur3, rfl, hg1, hg2, hg3, hg4, hg5, _⟩ := own_block ho3 r0; have HB3 := Lib.hid (HB2.out.trans (hb3.mono HB2.out.size)); have HF3 := Lib.hid (far_own hSlt.out HB2.out.size ho3); have HG4 := Lib.hid hg4; have hg5 : cap3 ≤ 9223372036854775807 := hg5; have hpc := HP.out.below HB3.out; have c0 := hpc.2.2.1; clear hb3 ho3 hg1 hg2 hg3 hg4 hlen hpc)
              | (go_at_call 15; refine (free_dks g N S D w3 (HD.out.below HB3.out)).mono ?_; rintro e w4 ⟨rfl, hb4⟩; have HB4 := Lib.hid (HB3.out.trans (hb4.mono HB3.out.size)); have HF4 := Lib.hid (HF3.out.below hb4); clear hb4)
              | (go_at_call 53; refine (pagesOf_any _ (recF ws).length cap3 w4 (by omega)).mono ?_; rintro e w5 ⟨rfl, rfl⟩; rw [HQ.out]))
            go_ret
            rw [← HC2.out]
            exact makesD_same HD.out HB4.out (by omega) hM
          · have hr2 : (q : Int) + (f : Int) ≤ freeD D := by omega
            have hC := HC.out
            rw [if_neg hroom] at hC
            have HC2 := Lib.hid hC
            clear hC HC hroom
            go_enter Tryz.func16, Tryz.ntmps16
            go_wp2_with (first
              | (go_at_call 47; refine HRE.out.mono ?_; rintro e w1 ⟨rfl, rfl⟩)
              | (go_at_call 50; refine HLO.out.mono ?_; rintro e w1 ⟨rfl, hb1⟩; have HB1 := Lib.hid hb1; have HFR := Lib.hid (fresh_any p g N b n ws S D w1 (HP.out.below hb1) (HD.out.below hb1) hoff hn (HM.out.below hb1) hl); rw [hfe] at HFR; clear hb1)
              | (go_at_call 51; refine HFR.out.mono ?_; rintro e w2 ⟨rfl, hb2⟩; have HB2 := Lib.hid (HB1.out.trans (hb2.mono HB1.out.size)); have hlen := (HM.out.below HB2.out).len 3; clear hb2)
              | (go_at_call 52; refine (encode_any b ws S w2 (HM.out.below HB2.out) hl hsh.out).mono ?_; rintro e w3 ⟨v3, rfl, ho3, hb3⟩; obtain ⟨g3, cap3, cur3, rfl, hg1, hg2, hg3, hg4, hg5, _⟩ := own_block ho3 r0; have HB3 := Lib.hid (HB2.out.trans (hb3.mono HB2.out.size)); have HF3 := Lib.hid (far_own hSlt.out HB2.out.size ho3); have HG4 := Lib.hid hg4; have hg5 : cap3 ≤ 9223372036854775807 := hg5; have hpc := HP.out.below HB3.out; have c0 := hpc.2.2.1; clear hb3 ho3 hg1 hg2 hg3 hg4 hlen hpc)
              | (go_at_call 15; refine (free_dks g N S D w3 (HD.out.below HB3.out)).mono ?_; rintro e w4 ⟨rfl, hb4⟩; have HB4 := Lib.hid (HB3.out.trans (hb4.mono HB3.out.size)); have HF4 := Lib.hid (HF3.out.below hb4); clear hb4)
              | (go_at_call 53; refine (pagesOf_any _ (recF ws).length cap3 w4 (by omega)).mono ?_; rintro e w5 ⟨rfl, rfl⟩; rw [HQ.out]))
            refine (post_p p g N (N + 4 * (q + 3)) g3 0 cap3 n (recF ws) S D w5 (HP.out.below HB4.out) (HD.out.below HB4.out) hoff hn HF4.out r0 (by omega) HG4.out hg5 (by rw [HQ.out]; exact Nat.le_refl _) (by omega)).mono ?_
            rintro e w6 hm6
            obtain ⟨R, hR⟩ : ∃ R, postD D n (recF ws) = R := ⟨_, rfl⟩
            have hroff : R.2 = 0 → R.1.off = false := fun hz => by rw [← hR] at hz ⊢; exact post_on hz
            rw [hR] at hm6 HC2
            obtain ⟨DR, ec⟩ := R
            obtain rfl := hm6.1
            have HM6 := Lib.hid hm6
            clear hm6 hR
            dsimp only at HM6 HC2 hroff ⊢
            by_cases hz2 : ec = 0
            · subst hz2
              have hC := HC2.out
              rw [if_neg (fun h => h rfl)] at hC
              have hp5 := (HP.out.below HB4.out).apart HM6.out.2.2
              have hm5 := (HM.out.below HB4.out).apart HM6.out.2.2
              have CS := Lib.hid (settle_p p g (N + 4 * (q + 3)) M b n ws (since S w5 w6) DR w6 hp5 HM6.out.2.1 (hroff rfl) hn hm5 hl (by omega) hM)
              rw [hC] at CS
              clear hp5 hm5 hroff
              go_wp2_with (go_at_call 55; refine CS.out.mono ?_; rintro e w7 hm7; obtain rfl := hm7.1; have HM7 := Lib.hid hm7; clear hm7)
              go_ret
              exact (HM7.out.up HM6.out.2.2).over HB4.out hSlt.out
            · have hz3 : (ec : Int) ≠ 0 := by omega
              have hC := HC2.out
              rw [if_pos hz2] at hC
              subst hC
              go_wp2_with fail
              go_ret
              exact (HM6.out.grow (by omega) hM).over HB4.out hSlt.out
    · rw [hlong, if_pos rfl] at hC
      rw [hlong] at HLO
      subst hC
      go_enter Tryz.func16, Tryz.ntmps16
      go_wp2_with (first
        | (go_at_call 47; refine HRE.out.mono ?_; rintro e w1 ⟨rfl, rfl⟩)
        | (go_at_call 50; refine HLO.out.mono ?_; rintro e w1 ⟨rfl, hb1⟩; have HB1 := Lib.hid hb1; clear hb1))
      go_ret
      exact makesD_same HD.out HB1.out (by omega) hM
  · have he : errD D = 8 := by unfold errD; rw [hoff]; rfl
    rw [hoff, if_pos rfl] at hC
    rw [he] at HRE
    subst hC
    go_enter Tryz.func16, Tryz.ntmps16
    go_wp2_with (go_at_call 47; refine HRE.out.mono ?_; rintro e w1 ⟨rfl, rfl⟩)
    go_ret
    exact makesD_same HD.out (Below.refl _ _) (by omega) hM

end Go.Proofs.YtbaimgccepjdaaaGreatDoor.Cd

/-
  alive answers true. Conditions: none.
-/
namespace Go.Proofs.YtbaimgccepjdaaaGreatDoor.Cd
open Go.RowKit

/-- Noughts laid a moment ago lie in no older block. -/
theorem far_noughts (W : World) (S : Nat → Prop) (n : Nat) (h : n ≤ 140737488355328) (hS : ∀ k, S k → k < W.heap.size) : Far (W.alloc (.cells (vb (noughts n)).toArray 5)) S (.slice (some ⟨W.heap.size, 0, none⟩) n n) (noughts n) := by
  refine ⟨by simpa using sl_noughts W n h (0, 0), fun _ A m c e hs => ?_⟩
  injection e with e
  injection e with e
  rw [← e] at hs
  exact Nat.lt_irrefl _ (hS _ hs)

theorem Far.away {w w' : World} {S : Nat → Prop} {v : Value} {bs : List UInt8} {b : Nat} (h : Far w S v bs) (hg : w.grownBy w' (some b)) (hb : ∀ j s, w.cell? ⟨b, j, s⟩ = Option.none) : Far w' S v bs := h.turned hg hb
theorem PgrAt.away {w w' : World} {S : Nat → Prop} {p g b : Nat} {n : List UInt8} (h : PgrAt w S p g n) (hg : w.grownBy w' (some b)) (hne : p ≠ b) : PgrAt w' S p g n :=
  have hp := hg.block p h.2.1 (fun e => hne (by injection e))
  ⟨h.1, Nat.lt_of_lt_of_le h.2.1 hg.size, (World.cell?_of_block (a := ⟨p, 0, none⟩) hp).trans h.2.2.1, (World.cell?_of_block (a := ⟨p, 1, none⟩) hp).trans h.2.2.2⟩
theorem DkS.away {w w' : World} {S : Nat → Prop} {g N b : Nat} {D : Dsk} (h : DkS w g N S D) (hg : w.grownBy w' (some b)) (hne : ¬ S b) : DkS w' g N S D :=
  h.apart (Apart.grown (S := fun j => j = b) hg rfl) (fun _ hj e => hne (e ▸ hj))

set_option maxRecDepth 100000 in
set_option maxHeartbeats 1600000 in
theorem palive_any (w : World) : Calls Tryz.prog 9 #[] w (Gives (.bool true) w) := by
  have hmk : ∀ W, (Instr.makeSlice 44 (.int .i64 512) (.int .i64 512)).run Tryz.prog W = .ok (.slice (some ⟨W.heap.size, 0, none⟩) 512 512) (W.alloc (.cells (vb (noughts 512)).toArray 5)) := fun W => make_bytes 512 (by omega) W
  go_enter Tryz.func9, Tryz.ntmps9
  go_wp2_with fail
  refine (new_dks 20 w (by omega) (by omega)).mono ?_
  rintro e w1 ⟨g, S, rfl, hd, hS, hb⟩
  have HD := Lib.hid hd
  have HS := Lib.hid hS
  have HB := Lib.hid hb
  clear hd hb hS
  go_wp2_with fail
  refine (open_bare g 0 [102] S (newD 20) w1 HD.out rfl (by simp) (bare_new _ _)).mono ?_
  rintro e w2 ⟨rfl, hp, hb2⟩
  obtain ⟨p, hp0⟩ : ∃ x, w1.heap.size = x := ⟨_, rfl⟩
  rw [hp0] at hp
  rw [hp0]
  have hd2 := HD.out.below hb2
  have hB2 := HB.out.trans (hb2.mono HB.out.size)
  obtain ⟨z, hz⟩ : ∃ z, noughts 512 = z := ⟨_, rfl⟩
  have hf3 := far_noughts w2 S 512 (by omega) hd2.lt
  rw [hz] at hmk hf3
  have hk3 := hmk w2
  obtain ⟨w3, hw3⟩ : ∃ x, w2.alloc (.cells (vb z).toArray 5) = x := ⟨_, rfl⟩
  rw [hw3] at hf3 hk3
  have hb3 : Below w2.heap.size w2 w3 := by rw [← hw3]; exact (Below.refl _ _).alloc (Nat.le_refl _) _
  have hd3 := hd2.below hb3
  have hm4 := PgMap.made w3 S (fun h => Nat.lt_irrefl _ (hd3.lt _ h))
  have hb4 : Below w3.heap.size w3 (w3.alloc (.map #[] 0)) := (Below.refl _ _).alloc (Nat.le_refl _) _
  obtain ⟨w4, hw4⟩ : ∃ x, w3.alloc (.map #[] 0) = x := ⟨_, rfl⟩
  rw [hw4] at hm4 hb4
  have hf4 := hf3.below hb4
  obtain ⟨b, hb0⟩ : ∃ x, w3.heap.size = x := ⟨_, rfl⟩
  rw [hb0] at hm4
  obtain ⟨g2, hg2⟩ : ∃ x, w2.heap.size = x := ⟨_, rfl⟩
  rw [hg2] at hf4 hk3
  obtain ⟨w5, hr5, hm5, ht5⟩ := hm4.put (x := 0) (by simp [maxLen]) rfl ⟨some (g2, 0), 512, 512⟩ hf4
  have hf5 := hf4.turned ht5.grown hm4.none
  obtain ⟨w6, hr6, hm6, ht6⟩ := hm5.put (x := 1) (by simp [insP, maxLen]) rfl ⟨some (g2, 0), 512, 512⟩ hf5
  have hws : insP (insP [] 0 z) 1 z = wsA := by rw [← hz]; exact wsA_put
  rw [hws] at hm6
  have hbS := hm4.1
  have hp2 : p < b := by have := hp.2.1; have := hb3.size; omega
  have hpr4 := (hp.below hb3).below hb4
  have HP6 := Lib.hid ((hpr4.away ht5.grown (by omega)).away ht6.grown (by omega))
  have HD6 := Lib.hid (((hd3.below hb4).away ht5.grown hbS).away ht6.grown hbS)
  have HM6 := Lib.hid hm6
  have hg5 := ht5.grown
  have hg6 := ht6.grown
  have hsz : w.heap.size ≤ b := by have := hB2.size; have := hb3.size; omega
  have HB6 := Lib.hid (((((hB2.trans (hb3.mono hB2.size)).trans (hb4.mono (Nat.le_trans hB2.size hb3.size))).grown hg5 (by have := hb4.size; omega) (fun k hk => by injection hk with hk; omega)).grown hg6 (by have := hb4.size; have := hg5.size; omega) (fun k hk => by injection hk with hk; omega)))
  have hmm : (Instr.makeMap 36 none).run Tryz.prog w3 = .ok (.map (some b)) w4 := by rw [run_makeMap, hb0, hw4]
  have hr5 : (Instr.mapUpdate 36 (.map (some b)) (.int .i64 0) (.slice (some ⟨g2, 0, none⟩) 512 512)).run Tryz.prog w4 = .ok () w5 := hr5
  have hr6 : (Instr.mapUpdate 36 (.map (some b)) (.int .i64 1) (.slice (some ⟨g2, 0, none⟩) 512 512)).run Tryz.prog w5 = .ok () w6 := hr6
  have HC := Lib.hid (commit_p p g 0 40 b [102] wsA S (newD 20) w6 HP6.out HD6.out (by simp) HM6.out (by simp [wsA]) (by rw [wsA_pages]; simp [wsA]) (by omega))
  rw [wsA_ok] at HC
  obtain ⟨D1, hD1⟩ : ∃ x, (commitD (newD 20) [102] wsA).1 = x := ⟨_, rfl⟩
  have hon : D1.off = false := by rw [← hD1]; exact wsA_on
  have hct : ((pagesF D1.now [102]).length : Int) = 2 := by rw [← hD1, wsA_count]; rfl
  have hac : (D1.acts : Int) = 9 := by rw [← hD1, wsA_acts]; rfl
  rw [hD1] at HC
  have hS6 : ∀ k, S k → w.heap.size ≤ k := HS.out
  have HS6 := Lib.hid hS6
  clear hw4 hws hD1 hm4 hm5 hm6 ht5 ht6 hg5 hg6 hf4 hf5 hf3 hd2 hd3 hp hpr4 hb2 hb3 hb4 hB2 hbS hz hmk hw3 hS6 hp2 hsz HS HB HD HM6
  go_wp2_with (first
    | (go_at_call 16; refine HC.out.mono ?_; rintro e w7 hm7; obtain rfl := hm7.1; have HM7 := Lib.hid hm7.2; have HP7 := Lib.hid (HP6.out.apart hm7.2.2); have HK := Lib.hid (count_p p g 40 [102] (since S w6 w7) D1 w7 HP7.out HM7.out.1 hon (by simp)); rw [hct] at HK; clear hm7)
    | (go_at_call 20; refine HK.out.mono ?_; rintro e w8 ⟨rfl, hb8⟩; have HA := Lib.hid (acts_dks g 40 (since S w6 w7) D1 w8 (HM7.out.1.below hb8)); rw [hac] at HA; have HB8 := Lib.hid hb8; clear hb8)
    | (go_at_call 45; refine HA.out.mono ?_; rintro e w9 ⟨rfl, rfl⟩))
  go_ret
  have h7 := HM7.out.2.low (B := w.heap.size) HB6.out.size HS6.out
  exact ⟨rfl, (HB6.out.trans h7).trans (HB8.out.mono (by have := HB6.out.size; have := h7.size; omega))⟩

end Go.Proofs.YtbaimgccepjdaaaGreatDoor.Cd

/-
  Rows of bytes that are written over; the reference's Filled. Conditions: none.
-/
namespace Go.Proofs.YtbaimgccepjdaaaGreatDoor.Cd
open Go.RowKit

/-- The row's first n cells are bytes. -/
def Full (w : World) (g n : Nat) : Prop := ∃ cs T fr, w.heap[g]? = some (.cells cs T fr) ∧ fr.1 = fr.2 ∧ ∀ j, j < n → ∃ x, cs[j]? = some (.int .u8 x)
theorem Full.set {w : World} {g n : Nat} (h : Full w g n) (i : Nat) (x : Int) : Full (w.setCell ⟨g, i, none⟩ (.int .u8 x)) g n := by
  obtain ⟨cs, T, fr, hh, hf, hc⟩ := h
  refine ⟨cs.setIfInBounds i (.int .u8 x), T, fr, by simp [World.setCell, Array.getElem?_modify, hh], hf, fun j hj => ?_⟩
  by_cases e : i = j
  · subst e
    obtain ⟨y, hy⟩ := hc i hj
    have hlt := (Array.getElem?_eq_some_iff.1 hy).1
    exact ⟨x, by rw [Array.getElem?_setIfInBounds, if_pos rfl, if_pos hlt]⟩
  · obtain ⟨y, hy⟩ := hc j hj
    exact ⟨y, by rw [Array.getElem?_setIfInBounds, if_neg e]; exact hy⟩
theorem Full.cell {w : World} {g n k : Nat} (h : Full w g n) (hk : k < n) : ∃ y, w.cell? ⟨g, k, none⟩ = some (.int .u8 y) ∧ w.frozen? ⟨g, k, none⟩ = false := by
  obtain ⟨cs, T, fr, hh, hf, hc⟩ := h
  obtain ⟨y, hy⟩ := hc k hk
  refine ⟨y, by rw [cell_of_row w g k cs T fr hh]; exact hy, ?_⟩
  simp [World.frozen?, hh]
  omega
theorem Full.of {w w' : World} {g n : Nat} (h : Full w g n) (he : w'.heap[g]? = w.heap[g]?) : Full w' g n := by
  obtain ⟨cs, T, fr, hh, r⟩ := h
  exact ⟨cs, T, fr, he.trans hh, r⟩

theorem pbelow_drewN (B : Nat) (w : World) (n : Nat) : Below B w (w.drewN n) := ⟨rfl, rfl, rfl, Nat.le_refl _, fun _ _ => rfl⟩

/-- A page that was read. -/
theorem sl_page {w : World} {g : Nat} {q : List UInt8} (hl : q.length = 512) (T : TypeId) (hg : w.heap[g]? = some (.cells (vb q).toArray T)) : Sl w w.heap.size (.slice (some ⟨g, 0, none⟩) 512 512) q := by
  refine ⟨_, 512, by rw [hl], by omega, by decide, (fun h => by cases h), fun ad e _ => ?_, fun ad e j u hu => ?_⟩
  · injection e with e
    subst e
    exact (Array.getElem?_eq_some_iff.1 hg).1
  · injection e with e
    subst e
    rw [Addr.add_lit, Nat.zero_add, cell_of_row _ _ _ _ _ _ hg, List.getElem?_toArray]
    exact hu
theorem full_page {w : World} {g : Nat} {q : List UInt8} (hl : q.length = 512) (T : TypeId) (hg : w.heap[g]? = some (.cells (vb q).toArray T)) : Full w g 512 :=
  ⟨_, _, _, hg, rfl, fun j hj => ⟨_, by rw [List.getElem?_toArray]; exact vb_at _ j (by omega)⟩⟩

/-- Nothing turned but the slice's own block. -/
def only (A : Option Addr) : Nat → Prop := fun k => ∃ ad, A = some ad ∧ ad.block = k

theorem PgrAt.off {w w' : World} {S T : Nat → Prop} {p g : Nat} {n : List UInt8} (h : PgrAt w S p g n) (ha : Apart T w w') (hT : ¬ T p) : PgrAt w' S p g n :=
  ⟨h.1, Nat.lt_of_lt_of_le h.2.1 ha.size, (ha.cell (p := ⟨p, 0, none⟩) h.2.1 hT).trans h.2.2.1, (ha.cell (p := ⟨p, 1, none⟩) h.2.1 hT).trans h.2.2.2⟩

/-- A row of the call's own, as a slice's value. -/
theorem own_slv {w : World} {B : Nat} {v : Value} {bs : List UInt8} (h : Own w B v bs) : ∃ s : SlV, v = s.val ∧ ∃ A c, s.val = .slice A bs.length c ∧ bs.length ≤ c ∧ c ≤ 9223372036854775807 ∧
    (∀ ad, A = some ad → B ≤ ad.block ∧ ad.block < w.heap.size) ∧ (0 < bs.length → ∃ g, A = some ⟨g, 0, none⟩ ∧ Full w g bs.length) := by
  have hlt := h.lt
  rcases h.2 with ⟨rfl, h0⟩ | ⟨g, cap, cur, rfl, hb, hh, hn, hm, hc, ht⟩
  · refine ⟨⟨none, 0, 0⟩, rfl, none, 0, by rw [h0]; rfl, by omega, by omega, (fun ad e => by cases e), fun h => by omega⟩
  · refine ⟨⟨some (g, 0), bs.length, cap⟩, rfl, _, cap, rfl, hn, hm, fun ad e => ?_, fun h0 => ⟨g, rfl, cur, _, _, hh, rfl, fun j hj => ⟨(bs[j]'hj).toNat, ?_⟩⟩⟩
    · injection e with e
      rw [← e]
      exact hlt g rfl
    · have hu := vb_at bs j hj
      rw [← ht, List.getElem?_take, if_pos (by omega)] at hu
      simpa using hu

theorem filled_any (s : List UInt8) (hs : s.length ≤ 512) (w : World) : Calls Tryz.prog 26 #[.string ⟨s.toArray⟩] w (Gives (.string ⟨(pad s).toArray⟩) w) := by
  obtain ⟨m, hm⟩ : ∃ m : Nat, m = 512 - s.length := ⟨_, rfl⟩
  have hi : (512 : Int) - (s.length : Int) = (m : Int) := by omega
  have hk := make_bytes m (by omega) w
  have ht := text_noughts w m (by omega) _ rfl
  have ha := fun W => add_text W s (noughts m) (by rw [noughts_len]; omega)
  have he : s ++ noughts m = pad s := by rw [hm]; rfl
  rw [he] at ha
  have hb : Below w.heap.size w (w.alloc (.cells (vb (noughts m)).toArray 5)) := (Below.refl _ _).alloc (Nat.le_refl _) _
  obtain ⟨w1, hw1⟩ : ∃ x, w.alloc (.cells (vb (noughts m)).toArray 5) = x := ⟨_, rfl⟩
  rw [hw1] at hk ht hb
  clear hw1 he hm
  go_enter Tryz.func26, Tryz.ntmps26
  go_wp2_with fail
  go_ret
  exact ⟨rfl, hb⟩

end Go.Proofs.YtbaimgccepjdaaaGreatDoor.Cd

/-
  PagerKeeps answers true. Conditions: none.
-/
namespace Go.Proofs.YtbaimgccepjdaaaGreatDoor.PagerKeeps
open Go.RowKit Go.Proofs.YtbaimgccepjdaaaGreatDoor.Cd

/-- The one page of the law. -/
def wsK (bs : List UInt8) : Pgs := [(0, bs)]
theorem wsK_ok {bs : List UInt8} (h : bs.length ≤ 512) : pagesOf (recF (wsK bs)).length ≤ 2 ∧ (commitD (newD 20) [102] (wsK bs)).2 = 0 := by
  obtain ⟨_, h2⟩ := recF_len (ws := wsK bs) (by intro p hp; obtain rfl := List.mem_singleton.1 hp; rfl) (by intro p hp; obtain rfl := List.mem_singleton.1 hp; exact h) (by simp [wsK])
  have h3 : (recF (wsK bs)).length ≤ 556 := by simpa [wsK] using h2
  have h4 : pagesOf (recF (wsK bs)).length ≤ 2 := by unfold pagesOf; omega
  refine ⟨h4, ?_⟩
  rw [roomyA.answers (bare_new _ _)]
  unfold wantsD
  rw [if_neg (by simp [hasLong, wsK]; omega)]
  rw [show freshN (pagesF (newD 20).now [102]).length (wsK bs) = some 1 from by rfl]
  simp only
  rw [if_neg (by simp [wsK]), if_neg (by rw [roomyA.free]; omega)]
theorem wsK_read {bs : List UInt8} (h : bs.length ≤ 512) : (commitD (newD 20) [102] (wsK bs)).1.off = false ∧ readD (commitD (newD 20) [102] (wsK bs)).1 [102] 0 = (pad bs, 0) := by
  obtain ⟨f, _, h2, _, h3⟩ := roomyA.done (bare_new _ [102]) (wsK bs) (wsK_ok h).2
  have h4 := h2.off
  refine ⟨h4, ?_⟩
  have h5 := (h3 [102] (by decide) (by decide)).1
  rw [if_pos rfl] at h5
  have h6 : laidP (pagesF (newD 20).now [102]) (wsK bs) = [pad bs] := by
    show setP [] 0 (pad bs) = _
    generalize pad bs = z
    rfl
  rw [h6] at h5
  unfold readD
  rw [if_neg (by rw [h4]; simp), h5]
  rfl

theorem read_got {D : Dsk} {n q : List UInt8} {i : Int} {w w' : World} {e : Ending} (hq : readD D n i = (q, 0)) (h : ReadsP D n i w e w') :
    e = .returned (.tuple #[.slice (some ⟨w.heap.size, 0, none⟩) 512 512, .int .i64 0]) ∧ Below w.heap.size w w' ∧ q.length = 512 ∧ w'.heap.size = w.heap.size + 1 ∧ w'.heap[w.heap.size]? = some (.cells (vb q).toArray 153) := by
  obtain ⟨hb, ⟨q', h1, h2, h3, h4, h5⟩ | ⟨m, h1, h2, _⟩⟩ := h
  · rw [hq] at h1
    injection h1 with h1
    subst h1
    exact ⟨h3, hb, h2, h4, h5⟩
  · rw [hq] at h2
    injection h2 with _ h2
    exact absurd h2.symm h1

set_option maxRecDepth 100000 in
set_option maxHeartbeats 800000 in
theorem much (v : Value) (bs : List UInt8) (w : World) (h : Sl w w.heap.size v bs) (hbig : 512 < bs.length) : Calls Tryz.prog 6 #[v] w (Gives (.bool true) w) := by
  obtain ⟨A, c, rfl, h2, h3⟩ := h.len
  have h3 : c ≤ 9223372036854775807 := h3
  clear h
  go_enter Tryz.func6, Tryz.ntmps6
  go_wp2_with fail
  refine (palive_any w).mono ?_
  rintro e w1 ⟨rfl, hb1⟩
  go_wp2_with fail
  go_ret
  exact ⟨rfl, hb1⟩

set_option maxRecDepth 100000 in
set_option maxHeartbeats 4000000 in
theorem main (v : Value) (bs : List UInt8) (w : World) (h : Sl w w.heap.size v bs) (hb : bs.length ≤ 512) :
    Calls Tryz.prog 6 #[v] w (Gives (.bool true) w) := by
  obtain ⟨A, c, rfl, h2, h3⟩ := h.len
  have h3 : c ≤ 9223372036854775807 := h3
  have H := Lib.hid h
  clear h
  go_enter Tryz.func6, Tryz.ntmps6
  go_wp2_with fail
  refine (palive_any w).mono ?_
  rintro e w1 ⟨rfl, hb1⟩
  have hs1 := hb1.size
  have HB1 := Lib.hid hb1
  have H1 := Lib.hid ((H.out.below hb1).more hs1)
  clear hb1
  go_wp2_with (at_builtin; refine wp_append_sl rfl _ _ rfl w1.heap.size _ [] rfl (own_new w1 _ (Nat.le_refl _)) (by simp) _ _ bs rfl (H1.out.below ((Below.refl _ _).alloc (Nat.le_refl _) _)) (by simp; omega) ?_)
  intro v2 w2 ho2 hb2
  have hba : Below w1.heap.size w1 w2 := ((Below.refl _ _).alloc (Nat.le_refl _) _).trans hb2
  have hs2 := hba.size
  have ho2 : Cd.Own w2 w1.heap.size v2 bs := ho2
  have hB2 := HB1.out.trans (hba.mono hs1)
  obtain ⟨s2, rfl, A2, c2, hsv, h22, h23, hT, hF⟩ := own_slv ho2
  have hf2 : Far w2 (fun _ => False) s2.val bs := ⟨ho2.sl, fun _ _ _ _ _ h => h⟩
  have hm3 := PgMap.made w2 (fun _ => False) (fun h => h)
  have hb3 : Below w2.heap.size w2 (w2.alloc (.map #[] 0)) := (Below.refl _ _).alloc (Nat.le_refl _) _
  have hmm := @run_makeMap Tryz.prog 36 w2
  obtain ⟨w3, hw3⟩ : ∃ x, w2.alloc (.map #[] 0) = x := ⟨_, rfl⟩
  obtain ⟨b, hb0⟩ : ∃ x, w2.heap.size = x := ⟨_, rfl⟩
  rw [hw3] at hm3 hb3 hmm
  have hz3 : w3.heap.size = b + 1 := by rw [← hw3, ← hb0]; simp
  rw [hb0] at hm3 hb3 hmm
  have hf3 := hf2.below (by rw [hb0]; exact hb3)
  obtain ⟨w4, hr4, hm4, ht4⟩ := hm3.put (x := 0) (by simp [maxLen]) rfl s2 hf3
  have hf4 := hf3.turned ht4.grown hm3.none
  have hg4 := ht4.grown
  have hm4 : PgMap w4 (fun _ => False) b (wsK bs) := hm4
  have hsz : w.heap.size ≤ b := by have := hB2.size; omega
  have hb4 : Below b w2 w4 := hb3.grown hg4 (by omega) (fun k hk => by injection hk with hk; omega)
  have HB4 := Lib.hid (hB2.trans (hb4.mono hsz))
  have HM4 := Lib.hid hm4
  rw [hsv] at hf4 hr4
  have HF4 := Lib.hid hf4
  have hz4 : b + 1 ≤ w4.heap.size := by have := hg4.size; omega
  have HT : Hid (∀ ad, A2 = some ad → w.heap.size ≤ ad.block ∧ ad.block < b) := fun ad e => ⟨by have := hT ad e; omega, by have := hT ad e; omega⟩
  have HF : Hid (0 < bs.length → ∃ g, A2 = some ⟨g, 0, none⟩ ∧ Full w4 g bs.length) := fun h0 => by
    obtain ⟨g, e, hf⟩ := hF h0
    exact ⟨g, e, hf.of (hb4.block g (by have h9 : g < w2.heap.size := (hT _ e).2; omega))⟩
  rw [hsv]
  clear hw3 hm3 hb3 hz3 hf2 hf3 hf4 hm4 ht4 hg4 hb4 hB2 hba hb2 hT hF HB1 H1 hsv hs1 hs2
  go_wp2_with fail
  refine (new_dks 20 w4 (by omega) (by omega)).mono ?_
  rintro e w5 ⟨g, S, rfl, hd5, hS5, hb5⟩
  have HD5 := Lib.hid hd5
  have HS := Lib.hid hS5
  have hz5 := hb5.size
  have HB5 := Lib.hid (HB4.out.trans (hb5.mono HB4.out.size))
  have HM5 := Lib.hid ((HM4.out.less (T := S) (fun k hk hs => by have := hS5 k hs; omega)).below hb5)
  have HF5 := Lib.hid ((HF4.out.less (T := S) (fun k hk hs => by have := hS5 k hs; omega)).below hb5)
  have HG5 : Hid (0 < bs.length → ∃ g, A2 = some ⟨g, 0, none⟩ ∧ Full w5 g bs.length) := fun h0 => by
    obtain ⟨g0, e, hf⟩ := HF.out h0
    exact ⟨g0, e, hf.of (hb5.block g0 (by have h9 : g0 < b := (HT.out _ e).2; omega))⟩
  clear hd5 hS5 hb5 HM4 HF4 HF HB4
  go_wp2_with fail
  refine (open_bare g 0 [102] S (newD 20) w5 HD5.out rfl (by simp) (bare_new _ _)).mono ?_
  rintro e w6 ⟨rfl, hp, hb6⟩
  have hz6 := hb6.size
  obtain ⟨p, hp0⟩ : ∃ x, w5.heap.size = x := ⟨_, rfl⟩
  rw [hp0] at hp ⊢
  have HP6 := Lib.hid hp
  have HB6 := Lib.hid (HB5.out.trans (hb6.mono HB5.out.size))
  have HM6 := Lib.hid (HM5.out.below hb6)
  have HF6 := Lib.hid (HF5.out.below hb6)
  have HD6 := Lib.hid (HD5.out.below hb6)
  have HG6 : Hid (0 < bs.length → ∃ g, A2 = some ⟨g, 0, none⟩ ∧ Full w6 g bs.length) := fun h0 => by
    obtain ⟨g0, e, hf⟩ := HG5.out h0
    exact ⟨g0, e, hf.of (hb6.block g0 (by have h9 : g0 < b := (HT.out _ e).2; omega))⟩
  clear hp hb6 HM5 HF5 HG5 HD5 HB5
  have HC := Lib.hid (commit_p p g 0 40 b [102] (wsK bs) S (newD 20) w6 HP6.out HD6.out (by simp) HM6.out (by simp [wsK]) (by have h9 := (wsK_ok hb).1; simp only [wsK, List.length_cons, List.length_nil] at h9 ⊢; omega) (by omega))
  rw [(wsK_ok hb).2] at HC
  obtain ⟨D1, hD1⟩ : ∃ x, (commitD (newD 20) [102] (wsK bs)).1 = x := ⟨_, rfl⟩
  obtain ⟨hon, hrd⟩ := wsK_read hb
  rw [hD1] at HC hon hrd
  have HR := Lib.hid hrd
  clear hrd hD1
  have hq : (bs == bs) = true := by simp
  go_wp2_with (first
    | (go_at_call 16; refine HC.out.mono ?_; rintro e w7 hm7; obtain rfl := hm7.1; have hz7 := hm7.2.2.size; have HM7 := Lib.hid hm7.2; have hlen := (HM6.out.apart hm7.2.2).len 3; have hb7 := hm7.2.2.low (B := w4.heap.size) (by omega) HS.out; have HB7 := Lib.hid (HB6.out.trans (hb7.mono (by omega))); have hc1 := run_text_of w7 _ _ _ (HF6.out.apart hm7.2.2).1; have hc2 := run_text_of w7 _ _ _ (H.out.below HB7.out); clear hm7))
  have hz6' : p < w6.heap.size := HP6.out.2.1
  have hpb : b < p := by omega
  have HG7 : Hid (0 < bs.length → ∃ g, A2 = some ⟨g, 0, none⟩ ∧ Full w7 g bs.length) := fun h0 => by
    obtain ⟨g0, e, hf⟩ := HG6.out h0
    have h9 : g0 < b := (HT.out _ e).2
    exact ⟨g0, e, hf.of (HM7.out.2.block g0 (by omega) (fun h => by have := HS.out g0 h; omega))⟩
  have HP7 := Lib.hid (HP6.out.apart HM7.out.2)
  have HS7 : Hid (∀ k, since S w6 w7 k → b < k) := fun k hk => by
    rcases hk with hk | hk
    · have := HS.out k hk; omega
    · omega
  have HD7 := Lib.hid HM7.out.1
  obtain ⟨T, hT⟩ : ∃ x, since S w6 w7 = x := ⟨_, rfl⟩
  rw [hT] at HP7 HS7 HD7
  clear hT HG6 HP6 HM6 HF6 HD6 HB6 HC HM7 HS hr4 hmm hlen hc1 hc2
  go_loopw [47] (fun i wr => ∃ m : Nat, i = .int .i64 m ∧ m ≤ bs.length ∧ Hid (Apart (only A2) w7 wr) ∧ Hid (0 < bs.length → ∃ g0, A2 = some ⟨g0, 0, none⟩ ∧ Full wr g0 bs.length)) (fun i _ => bs.length - (intOf i).toNat)
  case atStart => exact ⟨0, rfl, by omega, Apart.refl _ _, HG7.out⟩
  case round =>
    obtain ⟨m, rfl, hm, hap, hfull⟩ := hrel
    by_cases hmlt : m < bs.length
    · obtain ⟨g0, hA, hfl⟩ := hfull.out (by omega)
      subst hA
      obtain ⟨y, hfc, hff⟩ := hfl.cell hmlt
      clear hfl
      go_wp2_with fail
      go_roundw
      case rel =>
        refine ⟨m + 1, by go_num, by omega, apart_setCell (a := ⟨g0, m, none⟩) hap.out ⟨_, rfl, rfl⟩ _, fun h0 => ?_⟩
        obtain ⟨g1, h1, h2⟩ := hfull.out h0
        injection h1 with h1
        injection h1 with h1
        subst h1
        exact ⟨_, rfl, h2.set m _⟩
      case measure => simp [intOf]; omega
    · have hB8 := HB7.out.trans (below_of_apart (B := w.heap.size) hap.out (by omega) (fun k ⟨ad, e, hk⟩ => by have := (HT.out ad e).1; omega))
      have hzr := hap.out.size
      have HB8 := Lib.hid hB8
      have HD8 := Lib.hid (HD7.out.apart hap.out (fun k hk ⟨ad, e, hk2⟩ => by have := HS7.out k hk; have := (HT.out ad e).2; omega))
      have HP8 := Lib.hid (HP7.out.off hap.out (fun ⟨ad, e, hk2⟩ => by have := (HT.out ad e).2; omega))
      clear hB8 hfull hap HB7 HD7 HP7 HG7
      go_wp2_with fail
      refine (read_p p g 40 [102] 0 T D1 wr HP8.out HD8.out (by simp) rfl).mono ?_
      intro e w9 hr9
      obtain ⟨rfl, hb9, hql, hz9, hh9⟩ := read_got HR.out hr9
      have hF9 := full_page hql _ hh9
      have hlt9 := HD8.out.lt
      have hp9 := HP8.out.2.1
      obtain ⟨b6, hb6⟩ : ∃ x, wr.heap.size = x := ⟨_, rfl⟩
      rw [hb6] at hF9 hz9 hb9 hlt9 hp9 ⊢
      have HB9 := Lib.hid (HB8.out.trans (hb9.mono (by omega)))
      have HD9 := Lib.hid (HD8.out.below (w' := w9) (by rw [hb6]; exact hb9))
      have HP9 := Lib.hid (HP8.out.below (w' := w9) (by rw [hb6]; exact hb9))
      have HL := Lib.hid hlt9
      clear hlt9 hr9 hh9 HB8 HD8 HP8 hb9
      go_wp2_with fail
      go_loopw [64] (fun i wr => ∃ m : Nat, i = .int .i64 m ∧ m ≤ 512 ∧ Hid (Apart (fun k => k = b6) w9 wr) ∧ Hid (Full wr b6 512)) (fun i _ => 512 - (intOf i).toNat)
      case atStart => exact ⟨0, rfl, by omega, Apart.refl _ _, hF9⟩
      case round =>
        obtain ⟨m, rfl, hm, hap, hfull⟩ := hrel
        by_cases hmlt : m < 512
        · obtain ⟨y, hfc, hff⟩ := hfull.out.cell hmlt
          go_wp2_with fail
          go_roundw
          case rel => exact ⟨m + 1, by go_num, by omega, apart_setCell (a := ⟨b6, m, none⟩) hap.out rfl _, hfull.out.set m _⟩
          case measure => simp [intOf]; omega
        · have hzr2 := hap.out.size
          have HB10 := Lib.hid (HB9.out.trans (below_of_apart (B := w.heap.size) hap.out (by omega) (fun k hk => by omega)))
          have HD10 := Lib.hid (HD9.out.apart hap.out (fun k hk e => by have := HL.out k hk; omega))
          have HP10 := Lib.hid (HP9.out.off hap.out (fun e => by omega))
          clear hfull hap HB9 HD9 HP9
          go_wp2_with fail
          refine (read_p p g 40 [102] 0 T D1 wr HP10.out HD10.out (by simp) rfl).mono ?_
          intro e w11 hr11
          obtain ⟨rfl, hb11, hql2, hz11, hh11⟩ := read_got HR.out hr11
          have HB11 := Lib.hid (HB10.out.trans (hb11.mono (by omega)))
          have Y11 := Lib.hid (sl_page hql2 _ hh11)
          obtain ⟨b9, hb9⟩ : ∃ x, wr.heap.size = x := ⟨_, rfl⟩
          rw [hb9] at Y11 ⊢
          clear hr11 hh11 hb11 HB10 HD10 HP10 hz11
          have hq2 : (pad bs == pad bs) = true := by simp
          have hs0 : ∀ W, Below w11.heap.size w11 W → (convert 44 9 (.slice (some ⟨b9, 0, none⟩) 512 512)).run Tryz.prog W = .ok (.string ⟨(pad bs).toArray⟩) W ∧ (convert 44 9 (.slice A bs.length c)).run Tryz.prog W = .ok (.string ⟨bs.toArray⟩) W := fun W hW =>
            ⟨run_text_of _ _ _ _ (Y11.out.below hW), run_text_of _ _ _ _ (H.out.below (HB11.out.trans (hW.mono HB11.out.size)))⟩
          have HS0 := Lib.hid hs0
          clear hs0
          go_wp2_with fail
          go_region_held3 (fun W => Below w11.heap.size w11 W ∧ (convert 44 9 (.slice (some ⟨b9, 0, none⟩) 512 512)).run Tryz.prog W = .ok (.string ⟨(pad bs).toArray⟩) W ∧ (convert 44 9 (.slice A bs.length c)).run Tryz.prog W = .ok (.string ⟨bs.toArray⟩) W) (first | exact hS3 | exact ⟨(Below.refl _ _).drew, HS0.out _ (Below.refl _ _).drew⟩ | assumption) (first
            | (go_at_call 26; refine (filled_any bs hb _).mono ?_; rintro e w12 ⟨rfl, hb12⟩; have hx : Below w11.heap.size w11 w12 := (Below.refl _ _).drew.trans hb12; have hS3 : Below w11.heap.size w11 w12 ∧ (convert 44 9 (.slice (some ⟨b9, 0, none⟩) 512 512)).run Tryz.prog w12 = .ok (.string ⟨(pad bs).toArray⟩) w12 ∧ (convert 44 9 (.slice A bs.length c)).run Tryz.prog w12 = .ok (.string ⟨bs.toArray⟩) w12 := ⟨hx, HS0.out _ hx⟩))
          all_goals go_wp2_with fail
          all_goals go_ret
          all_goals exact ⟨rfl, HB11.out.trans (hx.mono HB11.out.size)⟩

theorem walk (v : Value) (bs : List UInt8) (w : World) (h : Sl w w.heap.size v bs) : Calls Tryz.prog 6 #[v] w (Gives (.bool true) w) := by
  by_cases h1 : 512 < bs.length
  · exact much v bs w h h1
  · exact main v bs w h (by omega)

end Go.Proofs.YtbaimgccepjdaaaGreatDoor.PagerKeeps
