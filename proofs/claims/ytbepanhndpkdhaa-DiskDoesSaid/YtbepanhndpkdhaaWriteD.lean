/-
  Write. Conditions: none.
-/
import Derived.Test.YtbepanhndpkdhaaActs
namespace Go.Proofs.Ytbepanhndpkdhaa.Cd
open Go.RowKit

/-- What Write answers, and leaves. -/
def writeR (P : Pd) (s : List UInt8) (i : Int) (bs : List UInt8) : Pd × Nat :=
  if P.off = true then (P, 8) else if 512 < bs.length then (P, 3) else if i < 0 ∨ (countR P s : Int) < i then (P, 1)
  else if i = (countR P s : Int) ∧ (P.room : Int) - P.nn = 0 then (P, 7) else if P.fuse = 1 then (loseP (ticP (putP P s i.toNat (pad bs))) P.keep, 8) else (ticP (putP P s i.toNat (pad bs)), 0)

theorem count_num {P : Pd} {N : Nat} (h : Fits P N) (hoff : P.off = false) (s : List UInt8) : (P.now (numP P s)).length = countR P s := by
  unfold countR numP
  rw [if_neg (by rw [hoff]; simp)]
  cases hq : P.files s with
  | some k => rfl
  | none =>
    have := (h.fresh (P.made + 1) (by omega)).1
    simp only
    rw [this]
    rfl

set_option maxRecDepth 100000 in
set_option maxHeartbeats 1600000 in
theorem write_any (g N : Nat) (S : Nat → Prop) (P : Pd) (s bs : List UInt8) (i : Int) (b : Value) (w : World) (h : Rep w g S P N) (hs : s.length ≤ 140737488355328) (hb : Sl w w.heap.size b bs) (hbS : 0 < bs.length → ∀ A n c, b = .slice (some A) n c → ¬ S A.block)
    (hi2 : i ≤ 9223372036854775807) (hN : N + 4 ≤ 137438953472) (hcn : countR P s ≤ P.nn) (hr : P.fuse = 1 → P.off = false → 0 ≤ i ∧ i ≤ (countR P s : Int) → ¬ (i = (countR P s : Int) ∧ (P.room : Int) - P.nn = 0) → ∀ x, (playS (keepSel P.keep) 0 (P.late ++ [⟨numP P s, i.toNat, x⟩]) (P.safe, P.ns)).2 ≤ P.room) :
    Calls Try.prog 20 #[.pointer (some ⟨g, 0, none⟩), .string ⟨s.toArray⟩, .int .i64 i, b] w (Ans g (N + 4) S (writeR P s i bs) w) := by
  have hre := ready_any g N S P w h
  obtain ⟨A, c, rfl, hbc, hcm⟩ := hb.len
  have hcm : c ≤ 9223372036854775807 := hcm
  cases hoff : P.off
  · have he : errR P = 0 := by unfold errR; rw [hoff]; rfl
    rw [he] at hre
    have HR := Lib.hid hre
    by_cases hlong : 512 < bs.length
    · have hw : writeR P s i bs = (P, 3) := by unfold writeR; rw [if_neg (by rw [hoff]; simp), if_pos hlong]
      have hl1 : (512 : Int) < bs.length := by omega
      rw [hw]
      have H := Lib.hid h
      clear hre h hb hbS hr hw
      go_enter Try.func20, Try.ntmps20
      go_wp2_with fail
      refine HR.out.mono ?_
      rintro e w1 ⟨rfl, rfl⟩
      go_wp2_with fail
      go_ret
      exact same_makes H.out (Below.refl _ _) (by omega) hN
    · have hl1 : (bs.length : Int) ≤ 512 := by omega
      have hco := count_any g N S P s w h hs
      have HCO := Lib.hid hco
      have hcount : (countR P s : Int) ≤ 4096 := by have := h.fits.nns; have := h.fits.room; omega
      by_cases harg : i < 0 ∨ (countR P s : Int) < i
      · have hw : writeR P s i bs = (P, 1) := by unfold writeR; rw [if_neg (by rw [hoff]; simp), if_neg hlong, if_pos harg]
        rw [hw]
        have H := Lib.hid h
        clear hre h hb hbS hr hw hco
        rcases harg with ha | ha
        · go_enter Try.func20, Try.ntmps20
          go_wp2_with fail
          refine HR.out.mono ?_
          rintro e w1 ⟨rfl, rfl⟩
          go_wp2_with fail
          refine HCO.out.mono ?_
          rintro e w1 ⟨rfl, rfl⟩
          go_wp2_with fail
          go_ret
          exact same_makes H.out (Below.refl _ _) (by omega) hN
        · have ha0 : (0 : Int) ≤ i := by omega
          go_enter Try.func20, Try.ntmps20
          go_wp2_with fail
          refine HR.out.mono ?_
          rintro e w1 ⟨rfl, rfl⟩
          go_wp2_with fail
          refine HCO.out.mono ?_
          rintro e w1 ⟨rfl, rfl⟩
          go_wp2_with fail
          go_ret
          exact same_makes H.out (Below.refl _ _) (by omega) hN
      · have hi0 : 0 ≤ i := by omega
        have hic : i ≤ (countR P s : Int) := by omega
        have hcnum := count_num h.fits hoff s
        have hfr := free_any g N S P w h
        have HFR := Lib.hid hfr
        by_cases hfull : i = (countR P s : Int) ∧ (P.room : Int) - P.nn = 0
        · have hw : writeR P s i bs = (P, 7) := by unfold writeR; rw [if_neg (by rw [hoff]; simp), if_neg hlong, if_neg harg, if_pos hfull]
          rw [hw]
          have q1 : ((i : Int) == (countR P s : Int)) = true := by simp [hfull.1]
          have q2 : (((P.room : Int) - P.nn) == 0) = true := by simp [hfull.2]
          have H := Lib.hid h
          clear hre h hb hbS hr hw hco hfr harg hfull
          go_enter Try.func20, Try.ntmps20
          go_wp2_with fail
          refine HR.out.mono ?_
          rintro e w1 ⟨rfl, rfl⟩
          go_wp2_with fail
          refine HCO.out.mono ?_
          rintro e w1 ⟨rfl, rfl⟩
          go_wp2_with fail
          refine HFR.out.mono ?_
          rintro e w1 ⟨rfl, hbf⟩
          have HBF := Lib.hid hbf
          clear hbf
          go_wp2_with fail
          go_ret
          exact same_makes H.out HBF.out (by omega) hN
        · obtain ⟨j, rfl⟩ := Int.eq_ofNat_of_zero_le hi0
          have hroom : P.nn + (j + 1 - (P.now (numP P s)).length) ≤ P.room ∧ j < 4096 := by
            have h1 := h.fits.nns
            have h2 := h.fits.room
            have h3 := h.fits.now (numP P s)
            rw [hcnum] at h3 ⊢
            by_cases he : (j : Int) = (countR P s : Int)
            · have : ¬ (P.room : Int) - P.nn = 0 := fun e => hfull ⟨he, e⟩
              omega
            · omega
          have hp1 : (putP P s j (pad bs)).fuse = P.fuse ∧ (putP P s j (pad bs)).keep = P.keep ∧ (putP P s j (pad bs)).late = P.late ++ [⟨numP P s, j, pad bs⟩] ∧ (putP P s j (pad bs)).safe = P.safe ∧ (putP P s j (pad bs)).ns = P.ns ∧ (putP P s j (pad bs)).room = P.room := ⟨rfl, rfl, rfl, rfl, rfl, rfl⟩
          have hw : writeR P s (j : Int) bs = if P.fuse = 1 then (loseP (ticP (putP P s j (pad bs))) P.keep, 8) else (ticP (putP P s j (pad bs)), 0) := by
            unfold writeR
            rw [if_neg (by rw [hoff]; simp), if_neg hlong, if_neg harg, if_neg hfull, Int.toNat_natCast]
          rw [hw]
          have hput : Hid (∀ w1, Below w.heap.size w w1 → Calls Try.prog 46 #[.pointer (some ⟨g, 0, none⟩), .string ⟨s.toArray⟩, .int .i64 j, .slice A bs.length c] w1 (Makes g S (putP P s j (pad bs)) (N + 2) (.tuple #[]) w1)) := fun w1 hb1 =>
            putd_any g N S P s bs j _ w1 (h.below hb1 h.lt) hs ((hb.below hb1).more hb1.size) (by omega) hbS hroom.2 hroom.1 (by omega)
          have hburn : Hid (∀ w1 w2 e, Makes g S (putP P s j (pad bs)) (N + 2) (.tuple #[]) w1 e w2 → Calls Try.prog 47 #[.pointer (some ⟨g, 0, none⟩)] w2 (Makes g (since S w1 w2) (burnP (putP P s j (pad bs))) (N + 2 + 1) (.bool (decide (P.fuse = 1))) w2)) := fun w1 w2 e hm =>
            burn_any g (N + 2) _ _ w2 hm.2.1 (fun hf => by rw [hp1.2.2.1, hp1.2.2.2.1, hp1.2.2.2.2.1, hp1.2.2.2.2.2, hp1.2.1]; exact hr hf hoff ⟨hi0, hic⟩ hfull (pad bs)) (by omega)
          have hbp : burnP (putP P s j (pad bs)) = if P.fuse = 1 then loseP (ticP (putP P s j (pad bs))) P.keep else ticP (putP P s j (pad bs)) := rfl
          clear hre h hb hbS hr hw hco hfr hp1 hcnum
          generalize putP P s j (pad bs) = Q at *
          by_cases hf1 : P.fuse = 1
          · rw [if_pos hf1] at hbp ⊢
            rw [decide_eq_true hf1] at hburn
            rw [hbp] at hburn
            clear hbp
            by_cases hend : (j : Int) = (countR P s : Int)
            · have q1 : ((j : Int) == (countR P s : Int)) = true := by simp [hend]
              have q2 : (((P.room : Int) - P.nn) == 0) = false := by rw [beq_eq_false_iff_ne]; exact fun e => hfull ⟨hend, e⟩
              clear hfull harg hend
              go_enter Try.func20, Try.ntmps20
              go_wp2_with fail
              refine HR.out.mono ?_
              rintro e w1 ⟨rfl, rfl⟩
              go_wp2_with fail
              refine HCO.out.mono ?_
              rintro e w1 ⟨rfl, rfl⟩
              go_wp2_with fail
              refine HFR.out.mono ?_
              rintro e w2 ⟨rfl, hbf⟩
              have HP := Lib.hid (hput.out w2 hbf)
              have HBF := Lib.hid hbf
              clear hbf
              go_wp2_with fail
              refine HP.out.mono ?_
              intro e w3 hm
              have HM := Lib.hid hm
              have HBU := Lib.hid (hburn.out w2 w3 e hm)
              obtain rfl := hm.1
              clear hm
              go_wp2_with fail
              refine HBU.out.mono ?_
              intro e w4 hm4
              have HM4 := Lib.hid (makes_up (.below HBF.out) (HM.out.trans hm4))
              obtain rfl := hm4.1
              clear hm4
              go_wp2_with fail
              go_ret
              exact ⟨rfl, HM4.out.2.1.mono (by omega) hN, HM4.out.2.2⟩
            · have q1 : ((j : Int) == (countR P s : Int)) = false := by simpa using hend
              clear hfull harg hend
              go_enter Try.func20, Try.ntmps20
              go_wp2_with fail
              refine HR.out.mono ?_
              rintro e w1 ⟨rfl, rfl⟩
              go_wp2_with fail
              refine HCO.out.mono ?_
              rintro e w2 ⟨rfl, rfl⟩
              have HP := Lib.hid (hput.out _ (Below.refl _ _))
              go_wp2_with fail
              refine HP.out.mono ?_
              intro e w3 hm
              have HM := Lib.hid hm
              have HBU := Lib.hid (hburn.out _ w3 e hm)
              obtain rfl := hm.1
              clear hm
              go_wp2_with fail
              refine HBU.out.mono ?_
              intro e w4 hm4
              have HM4 := Lib.hid (HM.out.trans hm4)
              obtain rfl := hm4.1
              clear hm4
              go_wp2_with fail
              go_ret
              exact ⟨rfl, HM4.out.2.1.mono (by omega) hN, HM4.out.2.2⟩
          · rw [if_neg hf1] at hbp ⊢
            rw [decide_eq_false hf1] at hburn
            rw [hbp] at hburn
            clear hbp
            by_cases hend : (j : Int) = (countR P s : Int)
            · have q1 : ((j : Int) == (countR P s : Int)) = true := by simp [hend]
              have q2 : (((P.room : Int) - P.nn) == 0) = false := by rw [beq_eq_false_iff_ne]; exact fun e => hfull ⟨hend, e⟩
              clear hfull harg hend
              go_enter Try.func20, Try.ntmps20
              go_wp2_with fail
              refine HR.out.mono ?_
              rintro e w1 ⟨rfl, rfl⟩
              go_wp2_with fail
              refine HCO.out.mono ?_
              rintro e w1 ⟨rfl, rfl⟩
              go_wp2_with fail
              refine HFR.out.mono ?_
              rintro e w2 ⟨rfl, hbf⟩
              have HP := Lib.hid (hput.out w2 hbf)
              have HBF := Lib.hid hbf
              clear hbf
              go_wp2_with fail
              refine HP.out.mono ?_
              intro e w3 hm
              have HM := Lib.hid hm
              have HBU := Lib.hid (hburn.out w2 w3 e hm)
              obtain rfl := hm.1
              clear hm
              go_wp2_with fail
              refine HBU.out.mono ?_
              intro e w4 hm4
              have HM4 := Lib.hid (makes_up (.below HBF.out) (HM.out.trans hm4))
              obtain rfl := hm4.1
              clear hm4
              go_wp2_with fail
              go_ret
              exact ⟨rfl, HM4.out.2.1.mono (by omega) hN, HM4.out.2.2⟩
            · have q1 : ((j : Int) == (countR P s : Int)) = false := by simpa using hend
              clear hfull harg hend
              go_enter Try.func20, Try.ntmps20
              go_wp2_with fail
              refine HR.out.mono ?_
              rintro e w1 ⟨rfl, rfl⟩
              go_wp2_with fail
              refine HCO.out.mono ?_
              rintro e w2 ⟨rfl, rfl⟩
              have HP := Lib.hid (hput.out _ (Below.refl _ _))
              go_wp2_with fail
              refine HP.out.mono ?_
              intro e w3 hm
              have HM := Lib.hid hm
              have HBU := Lib.hid (hburn.out _ w3 e hm)
              obtain rfl := hm.1
              clear hm
              go_wp2_with fail
              refine HBU.out.mono ?_
              intro e w4 hm4
              have HM4 := Lib.hid (HM.out.trans hm4)
              obtain rfl := hm4.1
              clear hm4
              go_wp2_with fail
              go_ret
              exact ⟨rfl, HM4.out.2.1.mono (by omega) hN, HM4.out.2.2⟩
  · have he : errR P = 8 := by unfold errR; rw [hoff]; rfl
    have hw : writeR P s i bs = (P, 8) := by unfold writeR; rw [if_pos hoff]
    rw [he] at hre
    rw [hw]
    have HR := Lib.hid hre
    have H := Lib.hid h
    clear hre h hb hbS hr hw
    go_enter Try.func20, Try.ntmps20
    go_wp2_with fail
    refine HR.out.mono ?_
    rintro e w1 ⟨rfl, rfl⟩
    go_wp2_with fail
    go_ret
    exact same_makes H.out (Below.refl _ _) (by omega) hN

end Go.Proofs.Ytbepanhndpkdhaa.Cd
