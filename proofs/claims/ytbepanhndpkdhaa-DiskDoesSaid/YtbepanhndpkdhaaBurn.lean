/-
  burn: an act is counted, and the power may go in it; Off. Conditions: none.
-/
import Derived.Test.YtbepanhndpkdhaaLose
namespace Go.Proofs.Ytbepanhndpkdhaa.Cd
open Go.RowKit

theorem Makes.trans {g N M : Nat} {S : Nat → Prop} {P Q : Pd} {u v : Value} {w w1 w2 : World} {e1 e2 : Ending} (h : Makes g S P N u w e1 w1) (k : Makes g (since S w w1) Q M v w1 e2 w2) : Makes g S Q M v w e2 w2 := by
  obtain ⟨_, h2, h3⟩ := h
  obtain ⟨k1, k2, k3⟩ := k
  have hs1 := h3.size
  have hs2 := k3.size
  refine ⟨k1, k2.more (fun b hb => (since_trans hs1 hs2 b).1 hb) (fun b hb => k2.lt b ((since_trans hs1 hs2 b).2 hb)), h3.trans k3⟩

def ticP (P : Pd) : Pd := { P with acts := P.acts + 1, fuse := P.fuse - 1 }
def burnP (P : Pd) : Pd := if P.fuse = 1 then loseP (ticP P) P.keep else ticP P

theorem ticP_fits {P : Pd} {N : Nat} (h : Fits P N) (hN : N < 137438953472) : Fits (ticP P) (N + 1) := by
  have h2 := h.mono (Nat.le_succ N) (by omega)
  exact ⟨h2.top, h.room, h2.made, by show P.acts + 1 ≤ N + 1; have := h.acts; omega, by show P.fuse - 1 ≤ _; have := h.fuse; omega, h.keep, h.late, h.now, h.safe, h.nns, h2.nss, h.files, h.fresh⟩

set_option maxRecDepth 100000 in
set_option maxHeartbeats 1600000 in
theorem burn_any (g N : Nat) (S : Nat → Prop) (P : Pd) (w : World) (h : Rep w g S P N) (hr : P.fuse = 1 → (playS (keepSel P.keep) 0 P.late (P.safe, P.ns)).2 ≤ P.room) (hN : N < 137438953472) :
    Calls Try.prog 47 #[.pointer (some ⟨g, 0, none⟩)] w (Makes g S (burnP P) (N + 1) (.bool (decide (P.fuse = 1))) w) := by
  obtain ⟨bf, c1, p1, c2, p2, lv, h⟩ := h
  have c9 : w.cell? ⟨g, 9, none⟩ = some (.int .i64 P.acts) := cell_of_row _ _ _ _ _ _ h.row
  have c10 : w.cell? ⟨g, 10, none⟩ = some (.int .i64 P.fuse) := cell_of_row _ _ _ _ _ _ h.row
  have c11 : w.cell? ⟨g, 11, none⟩ = some (.int .u64 P.keep) := cell_of_row _ _ _ _ _ _ h.row
  have f9 := h.frozen 9
  have f10 := h.frozen 10
  have hacts := h.fits.acts
  have htop := h.fits.top
  have hfuse := h.fits.fuse
  have hkeep := h.fits.keep
  have hmono := h.mono (Nat.le_succ N) (by omega)
  have hfit := ticP_fits h.fits hN
  have hd1 := hmono.cell 9 (.int .i64 ((P.acts + 1 : Nat) : Int)) { P with acts := P.acts + 1 } rfl ⟨rfl, rfl, rfl, rfl, rfl, rfl⟩ ⟨hfit.top, hfit.room, hfit.made, hfit.acts, hfuse, hfit.keep, hfit.late, hfit.now, hfit.safe, hfit.nns, hfit.nss, hfit.files, hfit.fresh⟩
  have hd2 := hd1.cell 10 (.int .i64 ((P.fuse - 1 : Nat) : Int)) (ticP P) rfl ⟨rfl, rfl, rfl, rfl, rfl, rfl⟩ hfit
  have hi1 := h.ins.1
  have hltS := h.lt
  have hA1 : Apart S w (w.setCell ⟨g, 9, none⟩ (.int .i64 ((P.acts + 1 : Nat) : Int))) := apart_setCell (.refl _ _) hi1 _
  have hA2 : Apart S w ((w.setCell ⟨g, 9, none⟩ (.int .i64 ((P.acts + 1 : Nat) : Int))).setCell ⟨g, 10, none⟩ (.int .i64 ((P.fuse - 1 : Nat) : Int))) := apart_setCell hA1 hi1 _
  have hcast : ((P.acts + 1 : Nat) : Int) = (P.acts : Int) + 1 := by omega
  rw [hcast] at hd1 hd2 hA1 hA2
  by_cases h0 : P.fuse = 0
  · have hb : burnP P = { P with acts := P.acts + 1 } := by
      unfold burnP ticP
      rw [if_neg (by omega), h0]
    have hq : ((P.fuse : Int) == 0) = true := by simp [h0]
    rw [hb, decide_eq_false (by omega)]
    have HD := Lib.hid hd1
    have HA := Lib.hid hA1
    have HLT := Lib.hid hltS
    clear h hmono hfit hd1 hd2 hA1 hA2 hr hb
    go_enter Try.func47, Try.ntmps47
    go_wp2_with fail
    go_ret
    exact ⟨rfl, ⟨_, _, _, _, _, _, HD.out.more (fun _ => .inl) (since_lt HLT.out HA.out.size)⟩, HA.out⟩
  · have hq : ((P.fuse : Int) == 0) = false := by simp [h0]
    have hcf : ((P.fuse - 1 : Nat) : Int) = (P.fuse : Int) - 1 := by omega
    rw [hcf] at hd2 hA2
    have x10 : (w.setCell ⟨g, 9, none⟩ (.int .i64 ((P.acts : Int) + 1))).cell? ⟨g, 10, none⟩ = some (.int .i64 P.fuse) := by rw [World.cell?_setCell_other _ _ _ _ (by simp)]; exact c10
    by_cases h1 : P.fuse = 1
    · have hb : burnP P = loseP (ticP P) P.keep := by unfold burnP; rw [if_pos h1]
      have hle : (P.fuse : Int) - 1 = 0 := by omega
      rw [hle] at hd2 hA2
      rw [hb, decide_eq_true h1]
      have x11 : ((w.setCell ⟨g, 9, none⟩ (.int .i64 ((P.acts : Int) + 1))).setCell ⟨g, 10, none⟩ (.int .i64 0)).cell? ⟨g, 11, none⟩ = some (.int .u64 P.keep) := cell_of_row _ _ _ _ _ _ hd2.row
      have hlo := lose_any g (N + 1) P.keep S (ticP P) _ ⟨_, _, _, _, _, _, hd2⟩ hkeep (hr h1)
      have HLO := Lib.hid hlo
      have HA := Lib.hid hA2
      clear h hmono hfit hd1 hd2 hA1 hA2 hr hb hlo
      go_enter Try.func47, Try.ntmps47
      go_wp2_with fail
      refine HLO.out.mono ?_
      intro e w2 hmk
      have HMK := Lib.hid (makes_up HA.out hmk)
      obtain rfl := hmk.1
      clear hmk
      go_wp2_with fail
      go_ret
      exact ⟨rfl, HMK.out.2⟩
    · have hb : burnP P = ticP P := by unfold burnP; rw [if_neg h1]
      have hgt : (0 : Int) < (P.fuse : Int) - 1 := by omega
      rw [hb, decide_eq_false h1]
      have HD := Lib.hid hd2
      have HA := Lib.hid hA2
      have HLT := Lib.hid hltS
      clear h hmono hfit hd1 hd2 hA1 hA2 hr hb
      go_enter Try.func47, Try.ntmps47
      go_wp2_with fail
      go_ret
      exact ⟨rfl, ⟨_, _, _, _, _, _, HD.out.more (fun _ => .inl) (since_lt HLT.out HA.out.size)⟩, HA.out⟩

def offP (P : Pd) (keep : Nat) : Pd := if P.off = true then P else loseP P keep

set_option maxRecDepth 100000 in
set_option maxHeartbeats 800000 in
theorem off_any (g N keep : Nat) (S : Nat → Prop) (P : Pd) (w : World) (h : Rep w g S P N) (hkeep : keep < 18446744073709551616) (hr : P.off = false → (playS (keepSel keep) 0 P.late (P.safe, P.ns)).2 ≤ P.room) :
    Calls Try.prog 18 #[.pointer (some ⟨g, 0, none⟩), .int .u64 keep] w (Makes g S (offP P keep) N (.tuple #[]) w) := by
  have hre := ready_any g N S P w h
  cases hoff : P.off
  · have he : errR P = 0 := by unfold errR; rw [hoff]; rfl
    have hb : offP P keep = loseP P keep := by unfold offP; rw [hoff]; rfl
    rw [he] at hre
    rw [hb]
    have HR := Lib.hid hre
    have HLO := Lib.hid (lose_any g N keep S P w h hkeep (hr hoff))
    clear hre h hr hb
    go_enter Try.func18, Try.ntmps18
    go_wp2_with fail
    refine HR.out.mono ?_
    rintro e w1 ⟨rfl, rfl⟩
    go_wp2_with fail
    refine HLO.out.mono ?_
    intro e w2 hmk
    have HMK := Lib.hid hmk
    obtain rfl := hmk.1
    clear hmk
    go_wp2_with fail
    go_end0
    exact HMK.out
  · have he : errR P = 8 := by unfold errR; rw [hoff]; rfl
    have hb : offP P keep = P := by unfold offP; rw [hoff]; rfl
    rw [he] at hre
    rw [hb]
    have HR := Lib.hid hre
    have H := Lib.hid h
    clear hre h hr hb
    go_enter Try.func18, Try.ntmps18
    go_wp2_with fail
    refine HR.out.mono ?_
    rintro e w1 ⟨rfl, rfl⟩
    go_wp2_with fail
    go_end0
    exact ⟨rfl, H.out.more (fun _ => .inl) (since_lt H.out.lt (Nat.le_refl _)), Apart.refl _ _⟩

end Go.Proofs.Ytbepanhndpkdhaa.Cd
