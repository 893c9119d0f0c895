/-
  side.cut: the pages from n on are taken out, from the first on. Conditions: none.
-/
import Derived.Test.YtbepanhndpkdhaaSide
namespace Go.Proofs.Ytbepanhndpkdhaa.Cd
open Go.RowKit

/-- The pages of a file but for those from n up to a. -/
def hole (pg : Pages) (f n a : Nat) : Nat × Int → Option (List UInt8) := fun x => if x.1 = f ∧ (n : Int) ≤ x.2 ∧ x.2 < a then none else lst pg x
theorem hole_none (pg : Pages) (f n : Nat) : hole pg f n n = lst pg := by
  funext x
  unfold hole
  rw [if_neg (by omega)]
theorem hole_upd (pg : Pages) (f n a : Nat) (h : n ≤ a) : upd (hole pg f n a) (f, (a : Int)) none = hole pg f n (a + 1) := by
  funext ⟨g, j⟩
  unfold upd hole
  simp only [Prod.mk.injEq]
  by_cases h1 : g = f ∧ j = a
  · rw [if_pos h1, if_pos (by omega)]
  · rw [if_neg h1]
    by_cases h2 : g = f ∧ (n : Int) ≤ j ∧ j < a
    · rw [if_pos h2, if_pos (by omega)]
    · rw [if_neg h2, if_neg (by omega)]
theorem hole_all (pg : Pages) (f n a : Nat) (h : (pg f).length ≤ a) : hole pg f n a = lst (setF pg f ((pg f).take n)) := by
  funext ⟨g, j⟩
  unfold hole lst setF
  simp only
  by_cases hg : g = f
  · subst hg
    rw [if_pos rfl]
    by_cases hj : 0 ≤ j
    · obtain ⟨j, rfl⟩ := Int.eq_ofNat_of_zero_le hj
      rw [if_pos hj, Int.toNat_natCast, if_pos hj, List.getElem?_take]
      by_cases h2 : j < n
      · rw [if_neg (by omega), if_pos h2]
      · rw [if_neg h2]
        by_cases h3 : j < a
        · rw [if_pos (by omega)]
        · rw [if_neg (by omega), List.getElem?_eq_none (by omega)]
    · rw [if_neg hj, if_neg (by omega), if_neg hj]
  · rw [if_neg hg, if_neg (by omega)]
theorem hole_some (pg : Pages) (f n a : Nat) (h : a < (pg f).length) : (hole pg f n a (f, (a : Int))).isSome = true := by
  unfold hole
  rw [if_neg (by simp)]
  rw [lst_some]
  simpa using h

/-- What side.cut leaves. -/
def SideCut (bc bp : Nat) (f m : Nat) (pg : Pages) (n k : Nat) (w : World) (e : Ending) (w' : World) : Prop :=
  e = .returned (.tuple #[]) ∧ Side w' bc bp (setF pg f ((pg f).take m)) (n - ((pg f).length - m)) (k + 1) ∧ Apart (two bc bp) w w'

set_option maxRecDepth 100000 in
set_option maxHeartbeats 1600000 in
theorem sidecut_any (bc bp f m : Nat) (pg : Pages) (n k : Nat) (w : World) (h : Side w bc bp pg n k) (hf : f ≤ lim) (_hm : m ≤ 9223372036854775807) (hL : (pg f).length ≤ 1048576)
    (hk : k ≤ lim) : Calls Try.prog 71 #[.agg #[.map (some bc), .map (some bp)], .int .i64 f, .int .i64 m] w (SideCut bc bp f m pg n k w) := by
  have hlt := h.lt
  obtain ⟨⟨q, j0, hcnt, hjk, hq⟩, hpg, hne⟩ := h
  have HC := Lib.hid hcnt
  have HP := Lib.hid hpg
  have HQ := Lib.hid hq
  have hql := hq f hf
  clear hcnt hpg hq
  unfold lim at hf hk
  go_enter Try.func71, Try.ntmps71
  go_wp2_with fail
  have e1 : (w.alloc (.cells #[.map (some bc), .map (some bp)] 70)).heap[w.heap.size]? = some (.cells #[.map (some bc), .map (some bp)] 70) := heap_alloc_new _ _
  have hA : Apart (two bc bp) w (w.alloc (.cells #[.map (some bc), .map (some bp)] 70)) := (Apart.refl _ w).alloc _
  have hP := HP.out.alloc (.cells #[.map (some bc), .map (some bp)] 70)
  have hC2 := HC.out.alloc (.cells #[.map (some bc), .map (some bp)] 70)
  have hsw : (w.alloc (.cells #[.map (some bc), .map (some bp)] 70)).heap.size = w.heap.size + 1 := by simp
  generalize w.alloc (.cells #[.map (some bc), .map (some bp)] 70) = w2 at *
  have E1 := Lib.hid e1
  have HA := Lib.hid hA
  have HP2 := Lib.hid hP
  have HC2 := Lib.hid hC2
  clear e1 hA hP hC2 HP HC
  generalize hl : (pg f).length = L at *
  go_loopw [6] (fun a wr => ∃ j, a = .int .i64 (j : Nat) ∧ m ≤ j ∧ j ≤ max L m ∧ Hid (MapF pgK wr bp (n - (j - m)) (hole pg f m j)) ∧ Hid (w2.grownBy wr (some bp))) (fun a _ => L - (intOf a).toNat)
  case atStart => exact ⟨m, rfl, Nat.le_refl _, by omega, by rw [Nat.sub_self, hole_none]; exact HP2.out, ⟨rfl, rfl, rfl, Nat.le_refl _, fun _ _ _ => rfl⟩⟩
  case round =>
    obtain ⟨j, rfl, hj1, hj2, hp2, hg⟩ := hrel
    have b1 : Hid (wr.heap[w.heap.size]? = some (.cells #[.map (some bc), .map (some bp)] 70)) := (hg.out.block w.heap.size (by omega) (by simp; omega)).trans E1.out
    have c0 : wr.cell? ⟨w.heap.size, 0, none⟩ = some (.map (some bc)) := cell_of_row _ _ _ _ _ _ b1.out
    have c1 : wr.cell? ⟨w.heap.size, 1, none⟩ = some (.map (some bp)) := cell_of_row _ _ _ _ _ _ b1.out
    have HC3 := Lib.hid (HC2.out.grown hg.out (by simp; exact hne))
    have hl3 := cnt_look HC3.out (f := f) (c := L) (by unfold lim; omega) (by rw [hql])
    by_cases hlt : j < L
    · have hlti : (j : Int) < L := by omega
      have HST := Lib.hid (hole_some pg f m j (by omega))
      have HUP := Lib.hid (hole_upd pg f m j hj1)
      go_wp2_with (first | (refine wp_drop pgK rfl _ _ rfl bp _ _ rfl hp2.out (f, (j : Int)) rfl ⟨by unfold lim; omega, WalkArith.wf_i64 (by omega)⟩ (n - (j + 1 - m)) (by rw [HST.out]; simp; omega) ?hK) | fail)
      intro w3 hp3 hg3
      rw [HUP.out] at hp3
      have HP3 := Lib.hid hp3
      have HG3 := Lib.hid hg3
      clear hp3 hg3
      go_wp2_with fail
      go_roundw
      case rel => exact ⟨j + 1, by go_num, by omega, by omega, HP3.out, hg.out.trans HG3.out⟩
      case measure => simp [intOf]; omega
    · have hge : (L : Int) ≤ j := by omega
      have hall := hole_all pg f m j (by omega)
      have hnn : n - (j - m) = n - (L - m) := by omega
      have hp4 := hp2.out
      rw [hall, hnn] at hp4
      have HP3 := Lib.hid hp4
      have hj3 : j0 + (if (q f).isSome = true then 0 else 1) ≤ k + 1 := by split <;> omega
      obtain ⟨j4, hj4⟩ : ∃ j4, j0 + (if (q f).isSome = true then 0 else 1) = j4 := ⟨_, rfl⟩
      rw [hj4] at hj3
      have HJ4 := Lib.hid hj4
      have hlen : Hid (((pg f).take m).length = min m L) := by unfold Hid; rw [List.length_take, hl]
      clear hj4 hall hp4
      by_cases hmx : L ≤ m
      · have hmx2 : (L : Int) ≤ m := by omega
        go_wp2_with (first | (refine wp_store cntK rfl _ _ _ rfl bc _ _ rfl HC3.out (by unfold maxLen; omega) f rfl (by unfold cntK lim; omega) L rfl trivial j4 HJ4.out ?hK3) | fail)
        intro w4 hc4 hg4
        have HC4 := Lib.hid hc4
        have HP4 := Lib.hid (HP3.out.grown hg4 (by simp; omega))
        have HA4 : Hid (Apart (two bc bp) w w4) := (HA.out.step hg.out (fun x e => by injection e with e; exact .inl (.inr e.symm))).step hg4 (fun x e => by injection e with e; exact .inl (.inl e.symm))
        clear hc4 hg4
        go_wp2_with fail
        go_end0
        exact ⟨rfl, ⟨⟨_, j4, HC4.out, hj3, cnt_store HQ.out (by rw [hlen.out]; omega)⟩, (by rw [hl]; exact HP4.out), hne⟩, HA4.out⟩
      · have hmx2 : (m : Int) < L := by omega
        go_wp2_with (first | (refine wp_store cntK rfl _ _ _ rfl bc _ _ rfl HC3.out (by unfold maxLen; omega) f rfl (by unfold cntK lim; omega) m rfl trivial j4 HJ4.out ?hK4) | fail)
        intro w4 hc4 hg4
        have HC4 := Lib.hid hc4
        have HP4 := Lib.hid (HP3.out.grown hg4 (by simp; omega))
        have HA4 : Hid (Apart (two bc bp) w w4) := (HA.out.step hg.out (fun x e => by injection e with e; exact .inl (.inr e.symm))).step hg4 (fun x e => by injection e with e; exact .inl (.inl e.symm))
        clear hc4 hg4
        go_wp2_with fail
        go_end0
        exact ⟨rfl, ⟨⟨_, j4, HC4.out, hj3, cnt_store HQ.out (by rw [hlen.out]; omega)⟩, (by rw [hl]; exact HP4.out), hne⟩, HA4.out⟩

end Go.Proofs.Ytbepanhndpkdhaa.Cd
