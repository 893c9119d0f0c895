/-
  A side's twin. Conditions: none.
-/
import Derived.Test.YtlchmkpnehbnlaaGreatDoorG20
import Derived.Deep.RegionHeld3
namespace Go.Proofs.YtlchmkpnehbnlaaGreatDoor.Cd
open Go.RowKit

def Twin (pg : Pages) (n k : Nat) (w : World) (e : Ending) (w' : World) : Prop :=
  ∃ bc bp, e = .returned (.agg #[.map (some bc), .map (some bp)]) ∧ Side w' bc bp pg n k ∧ w.heap.size ≤ bc ∧ w.heap.size ≤ bp ∧ Below w.heap.size w w'

set_option maxRecDepth 100000 in
set_option maxHeartbeats 2000000 in
theorem twin_any (bc bp : Nat) (pg : Pages) (n k : Nat) (w : World) (h : Side w bc bp pg n k) :
    Calls Tryz.prog 80 #[.agg #[.map (some bc), .map (some bp)]] w (Twin pg n k w) := by
  have hlt := h.lt
  obtain ⟨⟨q, j0, hcnt, hjk, hq⟩, hpg, hne⟩ := h
  have HC := Lib.hid hcnt
  have HP := Lib.hid hpg
  have HQ := Lib.hid hq
  clear hcnt hpg hq
  go_enter Tryz.func80, Tryz.ntmps80
  go_wp2_with fail
  have hA : Apart (fun _ => False) w ((w.alloc (.cells #[.map (some bc), .map (some bp)] 69)).alloc (.cells #[.map none, .map none] 69)) := ((Apart.refl _ w).alloc _).alloc _
  have hs2 : ((w.alloc (.cells #[.map (some bc), .map (some bp)] 69)).alloc (.cells #[.map none, .map none] 69)).heap.size = w.heap.size + 2 := by simp
  have hc : ((w.alloc (.cells #[.map (some bc), .map (some bp)] 69)).alloc (.cells #[.map none, .map none] 69)).cell? ⟨w.heap.size, 0, none⟩ = some (.map (some bc)) ∧
      ((w.alloc (.cells #[.map (some bc), .map (some bp)] 69)).alloc (.cells #[.map none, .map none] 69)).cell? ⟨w.heap.size, 1, none⟩ = some (.map (some bp)) :=
    ⟨cell_of_row _ _ _ _ _ _ (heap_alloc2_old w _ _), cell_of_row _ _ _ _ _ _ (heap_alloc2_old w _ _)⟩
  have hr : ((w.alloc (.cells #[.map (some bc), .map (some bp)] 69)).alloc (.cells #[.map none, .map none] 69)).heap[w.heap.size + 1]? = some (.cells #[.map none, .map none] 69) := heap_alloc2_new w _ _
  generalize (w.alloc (.cells #[.map (some bc), .map (some bp)] 69)).alloc (.cells #[.map none, .map none] 69) = w2 at *
  have HA := Lib.hid hA
  have HR := Lib.hid hr
  clear hA hr
  go_region_held3 (fun W => W.cell? ⟨w.heap.size, 0, none⟩ = some (.map (some bc)) ∧ W.cell? ⟨w.heap.size, 1, none⟩ = some (.map (some bp))) (first | exact hc | exact d1 | exact d2 | (simp; exact hc) | simp [hc] | (refine ⟨?_, ?_⟩ <;> (rw [World.cell?_setCell_other _ _ _ _ (by simp), World.cell?_setCell_other _ _ _ _ (by simp)]; first | exact d2.1 | exact d2.2))) (first
    | (go_at_call 126; refine (clone_cnt bc j0 q w2.drew (HC.out.apart HA.out.drew (by simp))).mono ?_; rintro e v1 ⟨rfl, hm1, hb1⟩; have d1 : v1.cell? ⟨w.heap.size, 0, none⟩ = some (.map (some bc)) ∧ v1.cell? ⟨w.heap.size, 1, none⟩ = some (.map (some bp)) := ⟨(hb1.cell (by show w.heap.size < w2.heap.size; omega)).trans hc.1, (hb1.cell (by show w.heap.size < w2.heap.size; omega)).trans hc.2⟩)
    | (go_at_call 127; refine (clone_pgs bp n (lst pg) v1 (HP.out.apart (HA.out.drew.trans (.below hb1)) (fun e => e))).mono ?_; rintro e v2 ⟨rfl, hm2, hb2⟩; have d2 : v2.cell? ⟨w.heap.size, 0, none⟩ = some (.map (some bc)) ∧ v2.cell? ⟨w.heap.size, 1, none⟩ = some (.map (some bp)) := ⟨(hb2.cell (by have := hb1.size; show w.heap.size < v1.heap.size; have h9 : w2.drew.heap.size = w2.heap.size := rfl; omega)).trans d1.1, (hb2.cell (by have := hb1.size; show w.heap.size < v1.heap.size; have h9 : w2.drew.heap.size = w2.heap.size := rfl; omega)).trans d1.2⟩; have hr9 : v2.heap[w.heap.size + 1]? = some (.cells #[.map none, .map none] 69) := (hb2.block _ (by have := hb1.size; have h9 : w2.drew.heap.size = w2.heap.size := rfl; omega)).trans ((hb1.block _ (by have h9 : w2.drew.heap.size = w2.heap.size := rfl; omega)).trans HR.out); have HR9 := Lib.hid hr9; clear hr9; have s0 : v2.cell? ⟨w.heap.size + 1, 0, none⟩ = some (.map none) := cell_of_row _ _ _ _ _ _ HR9.out; have s1 : v2.cell? ⟨w.heap.size + 1, 1, none⟩ = some (.map none) := cell_of_row _ _ _ _ _ _ HR9.out; have z0 : v2.frozen? ⟨w.heap.size + 1, 0, none⟩ = false := (by simp [World.frozen?, HR9.out]); have z1 : v2.frozen? ⟨w.heap.size + 1, 1, none⟩ = false := (by simp [World.frozen?, HR9.out])))
  all_goals
    go_wp2_with fail
    have hb1s := hb1.size
    have hb2s := hb2.size
    have hlt1 := hm1.lt
    have hdr : w2.drew.heap.size = w.heap.size + 2 := hs2
    have hrow := heap_setCell_same _ _ 1 _ _ (.map (some v1.heap.size)) (heap_setCell_same _ _ 0 _ _ (.map (some (w.heap.size + 2))) HR9.out)
    have hcn : MapF cntK ((v2.setCell ⟨w.heap.size + 1, 0, none⟩ (.map (some (w.heap.size + 2)))).setCell ⟨w.heap.size + 1, 1, none⟩ (.map (some v1.heap.size))) (w.heap.size + 2) j0 q := by
      have h5 := hm1
      rw [hdr] at h5
      exact ((h5.below hb2 (by omega)).setCell (by simp) _).setCell (by simp) _
    have hpn : MapF pgK ((v2.setCell ⟨w.heap.size + 1, 0, none⟩ (.map (some (w.heap.size + 2)))).setCell ⟨w.heap.size + 1, 1, none⟩ (.map (some v1.heap.size))) v1.heap.size n (lst pg) :=
      (hm2.setCell (by simp; omega) _).setCell (by simp; omega) _
    have hB : Below w.heap.size w ((v2.setCell ⟨w.heap.size + 1, 0, none⟩ (.map (some (w.heap.size + 2)))).setCell ⟨w.heap.size + 1, 1, none⟩ (.map (some v1.heap.size))) :=
      (((HA.out.drew.low (B := w.heap.size) (Nat.le_refl _) (fun _ e => e.elim)).trans ((hb1.mono (by omega)).trans (hb2.mono (by omega)))).setCell (by simp) _).setCell (by simp) _
    exact bodyPost_ret (results_cell_row rfl _ _ _ _ _ _ _ rfl hrow Tryz.underlying69 rfl (by kernel_rfl)) rfl
      ⟨_, _, rfl, ⟨⟨q, j0, hcn, hjk, HQ.out⟩, hpn, by omega⟩, by omega, by omega, hB⟩

end Go.Proofs.YtlchmkpnehbnlaaGreatDoor.Cd
