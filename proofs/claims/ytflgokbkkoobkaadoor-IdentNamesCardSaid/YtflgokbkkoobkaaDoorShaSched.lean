/-
  A block's words: sha.schedule. Conditions: none.
-/
import Derived.Test.YtflgokbkkoobkaaDoorShaTurn
import Derived.Test.YtflgokbkkoobkaaDoorIdRows
import Derived.Deep.RegionWith
import Derived.Deep.RegionHeld3
import Derived.BigQuiet
import Derived.Test.YtflgokbkkoobkaaDoorByHand
namespace Go.Proofs.YtflgokbkkoobkaaDoor.Cd
open Go.RowKit

/-- Words as cells. -/
def vw (l : List Int) : List Value := l.map fun x => .int .u32 x
theorem vw_length (l : List Int) : (vw l).length = l.length := by simp [vw]
theorem vw_at (l : List Int) (j : Nat) (h : j < l.length) : (vw l)[j]? = some (.int .u32 l[j]) := by simp [vw, h]
theorem vw_set (l : List Int) (j : Nat) (x : Int) : (vw l).set j (.int .u32 x) = vw (l.set j x) := by simp [vw, List.map_set]
def zerw (n : Nat) : List Int := List.replicate n 0
theorem zerw_length (n : Nat) : (zerw n).length = n := by simp [zerw]
theorem vw_one (l : List Int) : ∀ u ∈ (vw l).toArray.toList, u.oneCell' = true := fun u hu => by
  simp [vw] at hu
  obtain ⟨x, _, rfl⟩ := hu
  rfl
theorem zero_w64 (W : World) : (zeroValue 102).run Tryd.prog W = .ok (.agg (vw (zerw 64)).toArray) W := by kernel_rfl
theorem cells_w64 : (Tryd.prog.info? 102).map (·.size) = some 64 := by kernel_rfl
theorem cells_b64 : (Tryd.prog.info? 75).map (·.size) = some 64 := by kernel_rfl

theorem wrap_byte32 (c : UInt8) : IntKind.u32.wrap (c.toNat : Int) = (c.toNat : Int) := by
  have := c.toNat_lt
  rw [IntKind.wrap_u32']
  omega

def W32L (L : List Int) : Prop := ∀ x ∈ L, W32 x
theorem W32L.set {L : List Int} (h : W32L L) (k : Nat) (x : Int) (hx : W32 x) : W32L (L.set k x) := fun y hy => by
  rcases List.mem_or_eq_of_mem_set hy with hy | rfl
  · exact h y hy
  · exact hx
theorem W32L.zero (n : Nat) : W32L (zerw n) := fun x hx => by
  rw [List.eq_of_mem_replicate hx]
  exact ⟨by omega, by omega⟩

/-- Four bytes as a word, the highest first. -/
def word4 (a b c d : UInt8) : Int := bits .or .u32 (bits .or .u32 (bits .or .u32 (IntKind.u32.wrap ((a.toNat : Int) * 16777216)) (IntKind.u32.wrap ((b.toNat : Int) * 65536))) (IntKind.u32.wrap ((c.toNat : Int) * 256))) (d.toNat : Int)

set_option maxRecDepth 100000 in
set_option maxHeartbeats 3200000 in
theorem sched_any (blk : List UInt8) (w : World) (hb : blk.length = 64) : Calls Tryd.prog 70 #[.agg (vb blk).toArray] w fun e w' => ∃ L : List Int, L.length = 64 ∧ W32L L ∧ e = .returned (.agg (vw L).toArray) ∧ Below w.heap.size w w' := by
  have h0 : w.heap.size < w.heap.size + 3 := by omega
  go_enter Tryd.func70, Tryd.ntmps70
  go_wp2_with (first
    | (refine wp_box_row rfl _ rfl rfl ?_)
    | (refine wp_alloc_row zero_w64 rfl rfl ?_))
  generalize hbw : w.heap.size + 1 + 1 = bw
  go_loopw [11] (fun i wr => ∃ k : Nat, k ≤ 16 ∧ i = .int .i64 k ∧ Hid (wr.heap[w.heap.size]? = some (.cells (vb blk).toArray 75)) ∧ (∃ L : List Int, L.length = 64 ∧ W32L L ∧ Hid (wr.heap[bw]? = some (.cells (vw L).toArray 102)) ∧ Hid (wr.heap[w.heap.size + 1]? = some (.cells (vw (zerw 64)).toArray 102)) ∧ Hid (Below w.heap.size w wr))) (fun i _ => 16 - (intOf i).toNat)
  case atStart =>
    refine ⟨0, by omega, rfl, ?_, zerw 64, zerw_length 64, W32L.zero 64, ?_, ?_, ?_⟩
    · exact (Below.heap_alloc _ _ _ (by simp; omega)).trans ((Below.heap_alloc _ _ _ (by simp)).trans (heap_alloc_new _ _))
    · subst hbw
      have h := heap_alloc_new ((w.alloc (.cells (vb blk).toArray 75)).alloc (.cells (vw (zerw 64)).toArray 102)) (.cells (vw (zerw 64)).toArray 102)
      rw [asz, asz] at h
      exact h
    · have h := heap_alloc_new (w.alloc (.cells (vb blk).toArray 75)) (.cells (vw (zerw 64)).toArray 102)
      rw [asz] at h
      exact (Below.heap_alloc _ _ _ (by simp)).trans h
    · exact (((Below.refl _ _).alloc (Nat.le_refl _) _).alloc (by simp) _).alloc (by simp; omega) _
  case round =>
    obtain ⟨k, hk, rfl, HB, L, hL, hLw, HL, HR, HBB⟩ := hrel
    by_cases hlt : k < 16
    · obtain ⟨n, hn⟩ : ∃ n : Nat, (4 : Int) * (k : Int) = (n : Int) := ⟨4 * k, by omega⟩
      have hn2 : n + 3 < blk.length := by omega
      have hcs : Hid (∀ W : World, W.heap[w.heap.size]? = some (.cells (vb blk).toArray 75) → W.cell? ⟨w.heap.size, n, none⟩ = some (.int .u8 (blk[n]).toNat) ∧ W.cell? ⟨w.heap.size, n + 1, none⟩ = some (.int .u8 (blk[n + 1]).toNat) ∧ W.cell? ⟨w.heap.size, n + 2, none⟩ = some (.int .u8 (blk[n + 2]).toNat) ∧ W.cell? ⟨w.heap.size, n + 3, none⟩ = some (.int .u8 (blk[n + 3]).toNat)) := fun W h =>
        ⟨by rw [cell_of_row _ _ _ _ _ _ h, List.getElem?_toArray]; exact vb_at blk n (by omega), by rw [cell_of_row _ _ _ _ _ _ h, List.getElem?_toArray]; exact vb_at blk (n + 1) (by omega),
          by rw [cell_of_row _ _ _ _ _ _ h, List.getElem?_toArray]; exact vb_at blk (n + 2) (by omega), by rw [cell_of_row _ _ _ _ _ _ h, List.getElem?_toArray]; exact vb_at blk (n + 3) (by omega)⟩
      have cw : wr.cell? ⟨bw, k, none⟩ = some (.int .u32 L[k]) := by rw [cell_of_row _ _ _ _ _ _ HL.out, List.getElem?_toArray]; exact vw_at L k (by omega)
      have fw : wr.frozen? ⟨bw, k, none⟩ = false := frozen_of_row _ _ _ _ _ HL.out
      have hnb : n ≤ 60 := by omega
      generalize blk[n] = b0 at hcs
      generalize blk[n + 1] = b1 at hcs
      generalize blk[n + 2] = b2 at hcs
      generalize blk[n + 3] = b3 at hcs
      have q0 := wrap_byte32 b0
      have q1 := wrap_byte32 b1
      have q2 := wrap_byte32 b2
      have q3 := wrap_byte32 b3
      have f1a : (0 : Int) ≤ (n : Int) + 1 := by omega
      have f1b : (n : Int) + 1 < 64 := by omega
      have f1t : ((n : Int) + 1).toNat = n + 1 := by omega
      have f1w : IntKind.i64.wrap ((n : Int) + 1) = (n : Int) + 1 := Go.wrap_small _ (by omega) (by omega)
      have f2a : (0 : Int) ≤ (n : Int) + 2 := by omega
      have f2b : (n : Int) + 2 < 64 := by omega
      have f2t : ((n : Int) + 2).toNat = n + 2 := by omega
      have f2w : IntKind.i64.wrap ((n : Int) + 2) = (n : Int) + 2 := Go.wrap_small _ (by omega) (by omega)
      have f3a : (0 : Int) ≤ (n : Int) + 3 := by omega
      have f3b : (n : Int) + 3 < 64 := by omega
      have f3t : ((n : Int) + 3).toNat = n + 3 := by omega
      have f3w : IntKind.i64.wrap ((n : Int) + 3) = (n : Int) + 3 := Go.wrap_small _ (by omega) (by omega)
      have f0a : (0 : Int) ≤ (n : Int) := by omega
      have f0b : (n : Int) < 64 := by omega
      go_wp2_with fail
      refine wp_region_held_drew (S := fun W => W.heap[w.heap.size]? = some (.cells (vb blk).toArray 75)) (by kernel_rfl) HB.out (fun hHeld => ?_)
      refine take_at (i := 0) (.int .i64 (k : Int)) (some 16) (by decide) (by rfl) (by kernel_rfl) (by kernel_rfl) (by kernel_rfl) (fun _ _ _ h => h) (by rfl) (fun W hW => by go_simp) (by assumption) ?_
      try simp only [Act.put, List.setIfInBounds_toArray, List.set_cons_zero, List.set_cons_succ]
      refine take_at (i := 1) (.int .i64 (n : Int)) (some 17) (by decide) (by rfl) (by kernel_rfl) (by kernel_rfl) (by kernel_rfl) (fun _ _ _ h => h) (by rfl) (fun W hW => by go_simp) (by assumption) ?_
      try simp only [Act.put, List.setIfInBounds_toArray, List.set_cons_zero, List.set_cons_succ]
      refine take_at (i := 2) (.pointer (some ⟨w.heap.size, n, none⟩)) (some 18) (by decide) (by rfl) (by kernel_rfl) (by kernel_rfl) (by kernel_rfl) (fun _ _ _ h => h) (by rfl) (fun W hW => by first | (go_simp; done) | (go_simp; intro h9; omega) | (go_simp; omega)) (by assumption) ?_
      try simp only [Act.put, List.setIfInBounds_toArray, List.set_cons_zero, List.set_cons_succ]
      refine take_at (i := 3) (.int .u8 (b0.toNat : Int)) (some 19) (by decide) (by rfl) (by kernel_rfl) (by kernel_rfl) (by kernel_rfl) (fun _ _ _ h => h) (by rfl) (fun W hW => by obtain ⟨s0, s1, s2, s3⟩ := hcs.out W hW; go_simp) (by assumption) ?_
      try simp only [Act.put, List.setIfInBounds_toArray, List.set_cons_zero, List.set_cons_succ]
      refine take_at (i := 4) (.int .u32 (b0.toNat : Int)) (some 20) (by decide) (by rfl) (by kernel_rfl) (by kernel_rfl) (by kernel_rfl) (fun _ _ _ h => h) (by rfl) (fun W hW => by go_simp) (by assumption) ?_
      try simp only [Act.put, List.setIfInBounds_toArray, List.set_cons_zero, List.set_cons_succ]
      refine take_at (i := 5) (.int .u32 (IntKind.u32.wrap ((b0.toNat : Int) * 16777216))) (some 21) (by decide) (by rfl) (by kernel_rfl) (by kernel_rfl) (by kernel_rfl) (fun _ _ _ h => h) (by rfl) (fun W hW => by go_simp) (by assumption) ?_
      try simp only [Act.put, List.setIfInBounds_toArray, List.set_cons_zero, List.set_cons_succ]
      refine take_at (i := 6) (.int .i64 (n : Int)) (some 22) (by decide) (by rfl) (by kernel_rfl) (by kernel_rfl) (by kernel_rfl) (fun _ _ _ h => h) (by rfl) (fun W hW => by go_simp) (by assumption) ?_
      try simp only [Act.put, List.setIfInBounds_toArray, List.set_cons_zero, List.set_cons_succ]
      refine take_at (i := 7) (.int .i64 ((n : Int) + 1)) (some 23) (by decide) (by rfl) (by kernel_rfl) (by kernel_rfl) (by kernel_rfl) (fun _ _ _ h => h) (by rfl) (fun W hW => by go_simp) (by assumption) ?_
      try simp only [Act.put, List.setIfInBounds_toArray, List.set_cons_zero, List.set_cons_succ]
      refine take_at (i := 8) (.pointer (some ⟨w.heap.size, n + 1, none⟩)) (some 24) (by decide) (by rfl) (by kernel_rfl) (by kernel_rfl) (by kernel_rfl) (fun _ _ _ h => h) (by rfl) (fun W hW => by first | (go_simp; done) | (go_simp; intro h9; omega) | (go_simp; omega)) (by assumption) ?_
      try simp only [Act.put, List.setIfInBounds_toArray, List.set_cons_zero, List.set_cons_succ]
      refine take_at (i := 9) (.int .u8 (b1.toNat : Int)) (some 25) (by decide) (by rfl) (by kernel_rfl) (by kernel_rfl) (by kernel_rfl) (fun _ _ _ h => h) (by rfl) (fun W hW => by obtain ⟨s0, s1, s2, s3⟩ := hcs.out W hW; go_simp) (by assumption) ?_
      try simp only [Act.put, List.setIfInBounds_toArray, List.set_cons_zero, List.set_cons_succ]
      refine take_at (i := 10) (.int .u32 (b1.toNat : Int)) (some 26) (by decide) (by rfl) (by kernel_rfl) (by kernel_rfl) (by kernel_rfl) (fun _ _ _ h => h) (by rfl) (fun W hW => by go_simp) (by assumption) ?_
      try simp only [Act.put, List.setIfInBounds_toArray, List.set_cons_zero, List.set_cons_succ]
      refine take_at (i := 11) (.int .u32 (IntKind.u32.wrap ((b1.toNat : Int) * 65536))) (some 27) (by decide) (by rfl) (by kernel_rfl) (by kernel_rfl) (by kernel_rfl) (fun _ _ _ h => h) (by rfl) (fun W hW => by go_simp) (by assumption) ?_
      try simp only [Act.put, List.setIfInBounds_toArray, List.set_cons_zero, List.set_cons_succ]
      refine take_at (i := 12) (.int .u32 (bits .or .u32 (IntKind.u32.wrap ((b0.toNat : Int) * 16777216)) (IntKind.u32.wrap ((b1.toNat : Int) * 65536)))) (some 28) (by decide) (by rfl) (by kernel_rfl) (by kernel_rfl) (by kernel_rfl) (fun _ _ _ h => h) (by rfl) (fun W hW => by go_simp) (by assumption) ?_
      try simp only [Act.put, List.setIfInBounds_toArray, List.set_cons_zero, List.set_cons_succ]
      refine take_at (i := 13) (.int .i64 (n : Int)) (some 29) (by decide) (by rfl) (by kernel_rfl) (by kernel_rfl) (by kernel_rfl) (fun _ _ _ h => h) (by rfl) (fun W hW => by go_simp) (by assumption) ?_
      try simp only [Act.put, List.setIfInBounds_toArray, List.set_cons_zero, List.set_cons_succ]
      refine take_at (i := 14) (.int .i64 ((n : Int) + 2)) (some 30) (by decide) (by rfl) (by kernel_rfl) (by kernel_rfl) (by kernel_rfl) (fun _ _ _ h => h) (by rfl) (fun W hW => by go_simp) (by assumption) ?_
      try simp only [Act.put, List.setIfInBounds_toArray, List.set_cons_zero, List.set_cons_succ]
      refine take_at (i := 15) (.pointer (some ⟨w.heap.size, n + 2, none⟩)) (some 31) (by decide) (by rfl) (by kernel_rfl) (by kernel_rfl) (by kernel_rfl) (fun _ _ _ h => h) (by rfl) (fun W hW => by first | (go_simp; done) | (go_simp; intro h9; omega) | (go_simp; omega)) (by assumption) ?_
      try simp only [Act.put, List.setIfInBounds_toArray, List.set_cons_zero, List.set_cons_succ]
      refine take_at (i := 16) (.int .u8 (b2.toNat : Int)) (some 32) (by decide) (by rfl) (by kernel_rfl) (by kernel_rfl) (by kernel_rfl) (fun _ _ _ h => h) (by rfl) (fun W hW => by obtain ⟨s0, s1, s2, s3⟩ := hcs.out W hW; go_simp) (by assumption) ?_
      try simp only [Act.put, List.setIfInBounds_toArray, List.set_cons_zero, List.set_cons_succ]
      refine take_at (i := 17) (.int .u32 (b2.toNat : Int)) (some 33) (by decide) (by rfl) (by kernel_rfl) (by kernel_rfl) (by kernel_rfl) (fun _ _ _ h => h) (by rfl) (fun W hW => by go_simp) (by assumption) ?_
      try simp only [Act.put, List.setIfInBounds_toArray, List.set_cons_zero, List.set_cons_succ]
      refine take_at (i := 18) (.int .u32 (IntKind.u32.wrap ((b2.toNat : Int) * 256))) (some 34) (by decide) (by rfl) (by kernel_rfl) (by kernel_rfl) (by kernel_rfl) (fun _ _ _ h => h) (by rfl) (fun W hW => by go_simp) (by assumption) ?_
      try simp only [Act.put, List.setIfInBounds_toArray, List.set_cons_zero, List.set_cons_succ]
      refine take_at (i := 19) (.int .u32 (bits .or .u32 (bits .or .u32 (IntKind.u32.wrap ((b0.toNat : Int) * 16777216)) (IntKind.u32.wrap ((b1.toNat : Int) * 65536))) (IntKind.u32.wrap ((b2.toNat : Int) * 256)))) (some 35) (by decide) (by rfl) (by kernel_rfl) (by kernel_rfl) (by kernel_rfl) (fun _ _ _ h => h) (by rfl) (fun W hW => by go_simp) (by assumption) ?_
      try simp only [Act.put, List.setIfInBounds_toArray, List.set_cons_zero, List.set_cons_succ]
      refine take_at (i := 20) (.int .i64 (n : Int)) (some 36) (by decide) (by rfl) (by kernel_rfl) (by kernel_rfl) (by kernel_rfl) (fun _ _ _ h => h) (by rfl) (fun W hW => by go_simp) (by assumption) ?_
      try simp only [Act.put, List.setIfInBounds_toArray, List.set_cons_zero, List.set_cons_succ]
      refine take_at (i := 21) (.int .i64 ((n : Int) + 3)) (some 37) (by decide) (by rfl) (by kernel_rfl) (by kernel_rfl) (by kernel_rfl) (fun _ _ _ h => h) (by rfl) (fun W hW => by go_simp) (by assumption) ?_
      try simp only [Act.put, List.setIfInBounds_toArray, List.set_cons_zero, List.set_cons_succ]
      refine take_at (i := 22) (.pointer (some ⟨w.heap.size, n + 3, none⟩)) (some 38) (by decide) (by rfl) (by kernel_rfl) (by kernel_rfl) (by kernel_rfl) (fun _ _ _ h => h) (by rfl) (fun W hW => by first | (go_simp; done) | (go_simp; intro h9; omega) | (go_simp; omega)) (by assumption) ?_
      try simp only [Act.put, List.setIfInBounds_toArray, List.set_cons_zero, List.set_cons_succ]
      refine take_at (i := 23) (.int .u8 (b3.toNat : Int)) (some 39) (by decide) (by rfl) (by kernel_rfl) (by kernel_rfl) (by kernel_rfl) (fun _ _ _ h => h) (by rfl) (fun W hW => by obtain ⟨s0, s1, s2, s3⟩ := hcs.out W hW; go_simp) (by assumption) ?_
      try simp only [Act.put, List.setIfInBounds_toArray, List.set_cons_zero, List.set_cons_succ]
      refine take_at (i := 24) (.int .u32 (b3.toNat : Int)) (some 40) (by decide) (by rfl) (by kernel_rfl) (by kernel_rfl) (by kernel_rfl) (fun _ _ _ h => h) (by rfl) (fun W hW => by go_simp) (by assumption) ?_
      try simp only [Act.put, List.setIfInBounds_toArray, List.set_cons_zero, List.set_cons_succ]
      refine take_at (i := 25) (.int .u32 (bits .or .u32 (bits .or .u32 (bits .or .u32 (IntKind.u32.wrap ((b0.toNat : Int) * 16777216)) (IntKind.u32.wrap ((b1.toNat : Int) * 65536))) (IntKind.u32.wrap ((b2.toNat : Int) * 256))) ((b3.toNat : Int)))) (some 41) (by decide) (by rfl) (by kernel_rfl) (by kernel_rfl) (by kernel_rfl) (fun _ _ _ h => h) (by rfl) (fun W hW => by go_simp) (by assumption) ?_
      try simp only [Act.put, List.setIfInBounds_toArray, List.set_cons_zero, List.set_cons_succ]
      refine take_at (i := 26) (.pointer (some ⟨bw, k, none⟩)) (some 42) (by decide) (by rfl) (by kernel_rfl) (by kernel_rfl) (by kernel_rfl) (fun _ _ _ h => h) (by rfl) (fun W hW => by first | (go_simp; done) | (go_simp; intro h9; omega)) (by assumption) ?_
      try simp only [Act.put, List.setIfInBounds_toArray, List.set_cons_zero, List.set_cons_succ]
      have HS1 : Hid (∀ {W : World}, W.heap[w.heap.size]? = some (.cells (vb blk).toArray 75) → Hid (W.heap[w.heap.size]? = some (.cells (vb blk).toArray 75))) := fun h => h
      have HS2 : Hid (Hid ((wr.drew.setCell ⟨bw, k, none⟩ (.int .u32 (word4 b0 b1 b2 b3))).heap[bw]? = some (.cells (vw (L.set k (word4 b0 b1 b2 b3))).toArray 102))) := by
        have h := heap_setCell_same wr.drew bw k _ _ (.int .u32 (word4 b0 b1 b2 b3)) HL.out
        rw [List.setIfInBounds_toArray, vw_set] at h
        exact h
      have HS3 : Hid (Hid ((wr.drew.setCell ⟨bw, k, none⟩ (.int .u32 (word4 b0 b1 b2 b3))).heap[w.heap.size + 1]? = some (.cells (vw (zerw 64)).toArray 102))) := (Below.heap_setCell wr.drew ⟨bw, k, none⟩ _ _ (by show w.heap.size + 1 ≠ bw; omega)).trans HR.out
      refine wpAnyH_ready (rs := [27]) (by kernel_rfl) (by simp) (AllReadyH.cons (Array.getElem?_eq_getElem (i := 27) (by decide)) (fun K9 hK => ?_) AllReadyH.nil)
      rw [if_pos (by rfl)]
      unfold Oper.wp
      go_simp
      refine hK.out _ _ ((Below.heap_setCell wr.drew ⟨bw, k, none⟩ _ _ (by show w.heap.size ≠ bw; omega)).trans hHeld) (fun hHeld => ?_)
      clear hK K9
      try simp only [Act.put, List.setIfInBounds_toArray, List.set_cons_zero, List.set_cons_succ]
      refine wpAnyH_done (by kernel_rfl) ?_ _
      try simp only [Act.put, List.setIfInBounds_toArray, List.set_cons_zero, List.set_cons_succ]
      go_wp2_with fail
      go_roundw
      case rel => exact ⟨k + 1, by omega, by go_num, HS1.out hHeld, L.set k (word4 b0 b1 b2 b3), by simp [hL], W32L.set hLw k _ (W32.bits _ _ _), HS2.out, HS3.out, HBB.out.drew.setCell (by show w.heap.size ≤ bw; omega) _⟩
      case measure => simp [intOf]; omega
    · clear HB
      go_wp2_with fail
      go_loopw [6] (fun i wr => ∃ k : Nat, 16 ≤ k ∧ k ≤ 64 ∧ i = .int .i64 k ∧ (∃ L : List Int, L.length = 64 ∧ W32L L ∧ Hid (wr.heap[bw]? = some (.cells (vw L).toArray 102)) ∧ Hid (wr.heap[w.heap.size + 1]? = some (.cells (vw (zerw 64)).toArray 102)) ∧ Hid (Below w.heap.size w wr))) (fun i _ => 64 - (intOf i).toNat)
      case atStart => exact ⟨16, by omega, by omega, rfl, L, hL, hLw, HL, HR, HBB⟩
      case round =>
        clear HL HR HBB hL hLw hlt hk
        obtain ⟨k, hk0, hk, rfl, L, hL, hLw, HL, HR, HBB⟩ := hrel
        by_cases hlt : k < 64
        · obtain ⟨k15, h15⟩ : ∃ j : Nat, j = k - 15 := ⟨_, rfl⟩
          obtain ⟨k2, h2⟩ : ∃ j : Nat, j = k - 2 := ⟨_, rfl⟩
          obtain ⟨k16, h16⟩ : ∃ j : Nat, j = k - 16 := ⟨_, rfl⟩
          obtain ⟨k7, h7⟩ : ∃ j : Nat, j = k - 7 := ⟨_, rfl⟩
          have e15 : IntKind.i64.wrap ((k : Int) - 15) = (k15 : Int) := by rw [show (k : Int) - 15 = (k15 : Int) by omega]; exact Go.wrap_small _ (by omega) (by omega)
          have g15 : (k15 : Int) < 64 := by omega
          have m15 : k15 < L.length := by omega
          have e2 : IntKind.i64.wrap ((k : Int) - 2) = (k2 : Int) := by rw [show (k : Int) - 2 = (k2 : Int) by omega]; exact Go.wrap_small _ (by omega) (by omega)
          have g2 : (k2 : Int) < 64 := by omega
          have m2 : k2 < L.length := by omega
          have e16 : IntKind.i64.wrap ((k : Int) - 16) = (k16 : Int) := by rw [show (k : Int) - 16 = (k16 : Int) by omega]; exact Go.wrap_small _ (by omega) (by omega)
          have g16 : (k16 : Int) < 64 := by omega
          have m16 : k16 < L.length := by omega
          have e7 : IntKind.i64.wrap ((k : Int) - 7) = (k7 : Int) := by rw [show (k : Int) - 7 = (k7 : Int) by omega]; exact Go.wrap_small _ (by omega) (by omega)
          have g7 : (k7 : Int) < 64 := by omega
          have m7 : k7 < L.length := by omega
          have gk : (k : Int) < 64 := by omega
          have hcell : Hid (∀ (W : World) (j : Nat) (hj : j < L.length), W.heap[bw]? = some (.cells (vw L).toArray 102) → W.cell? ⟨bw, j, none⟩ = some (.int .u32 L[j])) := fun W j hj h => by rw [cell_of_row _ _ _ _ _ _ h, List.getElem?_toArray]; exact vw_at L j hj
          have c15 : Hid (∀ W : World, W.heap[bw]? = some (.cells (vw L).toArray 102) → W.cell? ⟨bw, k15, none⟩ = some (.int .u32 L[k15])) := fun W h => hcell.out W k15 m15 h
          have c2 : Hid (∀ W : World, W.heap[bw]? = some (.cells (vw L).toArray 102) → W.cell? ⟨bw, k2, none⟩ = some (.int .u32 L[k2])) := fun W h => hcell.out W k2 m2 h
          have c16 : Hid (∀ W : World, W.heap[bw]? = some (.cells (vw L).toArray 102) → W.cell? ⟨bw, k16, none⟩ = some (.int .u32 L[k16])) := fun W h => hcell.out W k16 m16 h
          have c7 : Hid (∀ W : World, W.heap[bw]? = some (.cells (vw L).toArray 102) → W.cell? ⟨bw, k7, none⟩ = some (.int .u32 L[k7])) := fun W h => hcell.out W k7 m7 h
          have hx := hLw _ (List.getElem_mem m15)
          have hy := hLw _ (List.getElem_mem m2)
          have cw : wr.cell? ⟨bw, k, none⟩ = some (.int .u32 L[k]) := hcell.out wr k (by omega) HL.out
          have fw : wr.frozen? ⟨bw, k, none⟩ = false := frozen_of_row _ _ _ _ _ HL.out
          generalize L[k15] = x at c15 hx
          generalize L[k2] = y at c2 hy
          generalize L[k16] = a at c16
          generalize L[k7] = b at c7
          have HX := Lib.hid hx
          have HY := Lib.hid hy
          have hx0 := hx.1
          have hy0 := hy.1
          have n16 : ¬ k = k16 := by omega
          have n7 : ¬ k = k7 := by omega
          have n16b : ¬ k16 = k := by omega
          have n7b : ¬ k7 = k := by omega
          clear hx hy h15 h2 h16 h7 m15 m2 m16 m7 hcell
          go_wp2_with fail
          refine wp_region_held_drew (S := fun W => W.heap[bw]? = some (.cells (vw L).toArray 102)) (by kernel_rfl) HL.out (fun hHeld => ?_)
          refine take_at (i := 0) (.int .i64 (k : Int)) (some 48) (by decide) (by rfl) (by kernel_rfl) (by kernel_rfl) (by kernel_rfl) (fun _ _ _ h => h) (by rfl) (fun W hW => by go_simp) (by assumption) ?_
          try simp only [Act.put, List.setIfInBounds_toArray, List.set_cons_zero, List.set_cons_succ]
          refine take_at (i := 1) (.int .i64 (k15 : Int)) (some 49) (by decide) (by rfl) (by kernel_rfl) (by kernel_rfl) (by kernel_rfl) (fun _ _ _ h => h) (by rfl) (fun W hW => by go_simp) (by assumption) ?_
          try simp only [Act.put, List.setIfInBounds_toArray, List.set_cons_zero, List.set_cons_succ]
          refine take_at (i := 2) (.pointer (some ⟨bw, k15, none⟩)) (some 50) (by decide) (by rfl) (by kernel_rfl) (by kernel_rfl) (by kernel_rfl) (fun _ _ _ h => h) (by rfl) (fun W hW => by first | (go_simp; done) | (go_simp; intro h9; omega)) (by assumption) ?_
          try simp only [Act.put, List.setIfInBounds_toArray, List.set_cons_zero, List.set_cons_succ]
          refine take_at (i := 3) (.int .u32 x) (some 51) (by decide) (by rfl) (by kernel_rfl) (by kernel_rfl) (by kernel_rfl) (fun _ _ _ h => h) (by rfl) (fun W hW => by have := c15.out W hW; go_simp) (by assumption) ?_
          try simp only [Act.put, List.setIfInBounds_toArray, List.set_cons_zero, List.set_cons_succ]
          refine take_at (i := 4) (.int .i64 (k : Int)) (some 52) (by decide) (by rfl) (by kernel_rfl) (by kernel_rfl) (by kernel_rfl) (fun _ _ _ h => h) (by rfl) (fun W hW => by go_simp) (by assumption) ?_
          try simp only [Act.put, List.setIfInBounds_toArray, List.set_cons_zero, List.set_cons_succ]
          refine take_at (i := 5) (.int .i64 (k2 : Int)) (some 53) (by decide) (by rfl) (by kernel_rfl) (by kernel_rfl) (by kernel_rfl) (fun _ _ _ h => h) (by rfl) (fun W hW => by go_simp) (by assumption) ?_
          try simp only [Act.put, List.setIfInBounds_toArray, List.set_cons_zero, List.set_cons_succ]
          refine take_at (i := 6) (.pointer (some ⟨bw, k2, none⟩)) (some 54) (by decide) (by rfl) (by kernel_rfl) (by kernel_rfl) (by kernel_rfl) (fun _ _ _ h => h) (by rfl) (fun W hW => by first | (go_simp; done) | (go_simp; intro h9; omega)) (by assumption) ?_
          try simp only [Act.put, List.setIfInBounds_toArray, List.set_cons_zero, List.set_cons_succ]
          refine take_at (i := 7) (.int .u32 y) (some 55) (by decide) (by rfl) (by kernel_rfl) (by kernel_rfl) (by kernel_rfl) (fun _ _ _ h => h) (by rfl) (fun W hW => by have := c2.out W hW; go_simp) (by assumption) ?_
          try simp only [Act.put, List.setIfInBounds_toArray, List.set_cons_zero, List.set_cons_succ]
          refine take_at (i := 8) (.int .u32 x) (some 7) (by decide) (by rfl) (by kernel_rfl) (by kernel_rfl) (by kernel_rfl) (fun _ _ _ h => h) (by rfl) (fun W hW => by go_simp) (by assumption) ?_
          try simp only [Act.put, List.setIfInBounds_toArray, List.set_cons_zero, List.set_cons_succ]
          refine take_at (i := 9) (.int .u32 y) (some 8) (by decide) (by rfl) (by kernel_rfl) (by kernel_rfl) (by kernel_rfl) (fun _ _ _ h => h) (by rfl) (fun W hW => by go_simp) (by assumption) ?_
          try simp only [Act.put, List.setIfInBounds_toArray, List.set_cons_zero, List.set_cons_succ]
          refine wpAnyH_done (by kernel_rfl) ?_ _
          try simp only [Act.put, List.setIfInBounds_toArray, List.set_cons_zero, List.set_cons_succ]
          obtain ⟨w1, hw1⟩ : ∃ v, wr.drew = v := ⟨_, rfl⟩
          have HL1 : Hid (w1.heap[bw]? = some (.cells (vw L).toArray 102)) := by rw [← hw1]; exact HL.out
          have HR1 : Hid (w1.heap[w.heap.size + 1]? = some (.cells (vw (zerw 64)).toArray 102)) := by rw [← hw1]; exact HR.out
          have HB1 : Hid (Below w.heap.size w w1) := by rw [← hw1]; exact HBB.out.drew
          have cw1 : w1.cell? ⟨bw, k, none⟩ = some (.int .u32 L[k]) := by rw [← hw1]; exact cw
          have fw1 : w1.frozen? ⟨bw, k, none⟩ = false := by rw [← hw1]; exact fw
          rw [hw1]
          clear hw1 HL HR HBB cw fw c15 c2 hHeld
          go_wp2_with (first
            | (refine (turned_7 x _ HX.out).mono ?_; rintro e wt ⟨rfl, rfl⟩)
            | (refine (turned_18 x _ HX.out).mono ?_; rintro e wt ⟨rfl, rfl⟩)
            | (refine (turned_17 y _ HY.out).mono ?_; rintro e wt ⟨rfl, rfl⟩)
            | (refine (turned_19 y _ HY.out).mono ?_; rintro e wt ⟨rfl, rfl⟩))
          generalize bits .xor .u32 (bits .xor .u32 (rot x 33554432 128) (rot x 16384 262144)) (x / 8) = s
          generalize bits .xor .u32 (bits .xor .u32 (rot y 32768 131072) (rot y 8192 524288)) (y / 1024) = t
          have d16 := c16.out w1 HL1.out
          have d7 := c7.out w1 HL1.out
          clear c16 c7
          refine wp_region_held_drew (S := fun W => W.cell? ⟨bw, k16, none⟩ = some (.int .u32 a) ∧ W.cell? ⟨bw, k7, none⟩ = some (.int .u32 b)) (by kernel_rfl) ⟨d16, d7⟩ (fun hHeld => ?_)
          refine take_at (i := 0) (.int .i64 (k : Int)) (some 72) (by decide) (by rfl) (by kernel_rfl) (by kernel_rfl) (by kernel_rfl) (fun _ _ _ h => h) (by rfl) (fun W hW => by go_simp) (by assumption) ?_
          try simp only [Act.put, List.setIfInBounds_toArray, List.set_cons_zero, List.set_cons_succ]
          refine take_at (i := 1) (.int .i64 (k : Int)) (some 73) (by decide) (by rfl) (by kernel_rfl) (by kernel_rfl) (by kernel_rfl) (fun _ _ _ h => h) (by rfl) (fun W hW => by go_simp) (by assumption) ?_
          try simp only [Act.put, List.setIfInBounds_toArray, List.set_cons_zero, List.set_cons_succ]
          refine take_at (i := 2) (.int .i64 (k16 : Int)) (some 74) (by decide) (by rfl) (by kernel_rfl) (by kernel_rfl) (by kernel_rfl) (fun _ _ _ h => h) (by rfl) (fun W hW => by go_simp) (by assumption) ?_
          try simp only [Act.put, List.setIfInBounds_toArray, List.set_cons_zero, List.set_cons_succ]
          refine take_at (i := 3) (.pointer (some ⟨bw, k16, none⟩)) (some 75) (by decide) (by rfl) (by kernel_rfl) (by kernel_rfl) (by kernel_rfl) (fun _ _ _ h => h) (by rfl) (fun W hW => by first | (go_simp; done) | (go_simp; intro h9; omega)) (by assumption) ?_
          try simp only [Act.put, List.setIfInBounds_toArray, List.set_cons_zero, List.set_cons_succ]
          refine take_at (i := 4) (.int .u32 a) (some 76) (by decide) (by rfl) (by kernel_rfl) (by kernel_rfl) (by kernel_rfl) (fun _ _ _ h => h) (by rfl) (fun W hW => by have h9 := hW.1; go_simp) (by assumption) ?_
          try simp only [Act.put, List.setIfInBounds_toArray, List.set_cons_zero, List.set_cons_succ]
          refine take_at (i := 5) (.int .u32 s) (some 77) (by decide) (by rfl) (by kernel_rfl) (by kernel_rfl) (by kernel_rfl) (fun _ _ _ h => h) (by rfl) (fun W hW => by go_simp) (by assumption) ?_
          try simp only [Act.put, List.setIfInBounds_toArray, List.set_cons_zero, List.set_cons_succ]
          refine take_at (i := 6) (.int .u32 (IntKind.u32.wrap (a + s))) (some 78) (by decide) (by rfl) (by kernel_rfl) (by kernel_rfl) (by kernel_rfl) (fun _ _ _ h => h) (by rfl) (fun W hW => by go_simp) (by assumption) ?_
          try simp only [Act.put, List.setIfInBounds_toArray, List.set_cons_zero, List.set_cons_succ]
          refine take_at (i := 7) (.int .i64 (k : Int)) (some 79) (by decide) (by rfl) (by kernel_rfl) (by kernel_rfl) (by kernel_rfl) (fun _ _ _ h => h) (by rfl) (fun W hW => by go_simp) (by assumption) ?_
          try simp only [Act.put, List.setIfInBounds_toArray, List.set_cons_zero, List.set_cons_succ]
          refine take_at (i := 8) (.int .i64 (k7 : Int)) (some 80) (by decide) (by rfl) (by kernel_rfl) (by kernel_rfl) (by kernel_rfl) (fun _ _ _ h => h) (by rfl) (fun W hW => by go_simp) (by assumption) ?_
          try simp only [Act.put, List.setIfInBounds_toArray, List.set_cons_zero, List.set_cons_succ]
          refine take_at (i := 9) (.pointer (some ⟨bw, k7, none⟩)) (some 81) (by decide) (by rfl) (by kernel_rfl) (by kernel_rfl) (by kernel_rfl) (fun _ _ _ h => h) (by rfl) (fun W hW => by first | (go_simp; done) | (go_simp; intro h9; omega)) (by assumption) ?_
          try simp only [Act.put, List.setIfInBounds_toArray, List.set_cons_zero, List.set_cons_succ]
          refine take_at (i := 10) (.int .u32 b) (some 82) (by decide) (by rfl) (by kernel_rfl) (by kernel_rfl) (by kernel_rfl) (fun _ _ _ h => h) (by rfl) (fun W hW => by have h9 := hW.2; go_simp) (by assumption) ?_
          try simp only [Act.put, List.setIfInBounds_toArray, List.set_cons_zero, List.set_cons_succ]
          refine take_at (i := 11) (.int .u32 (IntKind.u32.wrap (IntKind.u32.wrap (a + s) + b))) (some 83) (by decide) (by rfl) (by kernel_rfl) (by kernel_rfl) (by kernel_rfl) (fun _ _ _ h => h) (by rfl) (fun W hW => by go_simp) (by assumption) ?_
          try simp only [Act.put, List.setIfInBounds_toArray, List.set_cons_zero, List.set_cons_succ]
          refine take_at (i := 12) (.int .u32 t) (some 84) (by decide) (by rfl) (by kernel_rfl) (by kernel_rfl) (by kernel_rfl) (fun _ _ _ h => h) (by rfl) (fun W hW => by go_simp) (by assumption) ?_
          try simp only [Act.put, List.setIfInBounds_toArray, List.set_cons_zero, List.set_cons_succ]
          refine take_at (i := 13) (.int .u32 (IntKind.u32.wrap (IntKind.u32.wrap (IntKind.u32.wrap (a + s) + b) + t))) (some 85) (by decide) (by rfl) (by kernel_rfl) (by kernel_rfl) (by kernel_rfl) (fun _ _ _ h => h) (by rfl) (fun W hW => by go_simp) (by assumption) ?_
          try simp only [Act.put, List.setIfInBounds_toArray, List.set_cons_zero, List.set_cons_succ]
          refine take_at (i := 14) (.pointer (some ⟨bw, k, none⟩)) (some 86) (by decide) (by rfl) (by kernel_rfl) (by kernel_rfl) (by kernel_rfl) (fun _ _ _ h => h) (by rfl) (fun W hW => by first | (go_simp; done) | (go_simp; intro h9; omega)) (by assumption) ?_
          try simp only [Act.put, List.setIfInBounds_toArray, List.set_cons_zero, List.set_cons_succ]
          have hV : W32 (IntKind.u32.wrap (IntKind.u32.wrap (IntKind.u32.wrap (a + s) + b) + t)) := by rw [IntKind.wrap_u32']; exact W32.mod _
          generalize IntKind.u32.wrap (IntKind.u32.wrap (IntKind.u32.wrap (a + s) + b) + t) = v9 at hV ⊢
          have HS2 : Hid ((w1.drew.setCell ⟨bw, k, none⟩ (.int .u32 v9)).heap[bw]? = some (.cells (vw (L.set k v9)).toArray 102)) := by
            have h := heap_setCell_same w1.drew bw k _ _ (.int .u32 v9) HL1.out
            rw [List.setIfInBounds_toArray, vw_set] at h
            exact h
          have HS3 : Hid ((w1.drew.setCell ⟨bw, k, none⟩ (.int .u32 v9)).heap[w.heap.size + 1]? = some (.cells (vw (zerw 64)).toArray 102)) := (Below.heap_setCell w1.drew ⟨bw, k, none⟩ _ _ (by show w.heap.size + 1 ≠ bw; omega)).trans HR1.out
          clear hHeld
          refine wpAnyH_ready (rs := [15]) (by kernel_rfl) (by simp) (AllReadyH.cons (Array.getElem?_eq_getElem (i := 15) (by decide)) (fun K9 hK => ?_) AllReadyH.nil)
          rw [if_pos (by rfl)]
          unfold Oper.wp
          go_simp
          refine hK.out _ _ ⟨(World.cell?_setCell_other _ _ _ _ (by simp [n16, n16b])).trans d16, (World.cell?_setCell_other _ _ _ _ (by simp [n7, n7b])).trans d7⟩ (fun hHeld => ?_)
          clear hK K9
          try simp only [Act.put, List.setIfInBounds_toArray, List.set_cons_zero, List.set_cons_succ]
          refine wpAnyH_done (by kernel_rfl) ?_ _
          try simp only [Act.put, List.setIfInBounds_toArray, List.set_cons_zero, List.set_cons_succ]
          go_wp2_with fail
          go_roundw
          case rel => exact ⟨k + 1, by omega, by omega, by go_num, L.set k v9, by simp [hL], W32L.set hLw k _ hV, HS2, HS3, HB1.out.drew.setCell (by show w.heap.size ≤ bw; omega) _⟩
          case measure => simp [intOf]; omega
        · obtain rfl : k = 64 := by omega
          clear hlt hk hk0
          go_wp2_with (first
            | (refine wpList_load_row rfl 102 _ rfl bw rfl 102 (vw L).toArray (0, 0) _ HL.out Tryd.underlying102 rfl (by rw [show (vw L).toArray.size = 64 by simp [vw_length, hL]]; exact cells_w64) ?_)
            | (refine wp_put_row cells_w64 rfl _ _ rfl (w.heap.size + 1) rfl rfl (by simp [vw_length, hL]) (vw_one L) (vw (zerw 64)).toArray (by simp [vw_length, zerw_length]) 102 HR.out ?hK9))
          intro w9 h9 hg9
          have hb9 : Below w.heap.size w w9 := HBB.out.grown hg9 (by have := HBB.out.size; omega) (fun k hk => by injection hk with hk; omega)
          go_wp2_with fail
          exact bodyPost_ret (v := .agg (vw L).toArray) (results_cell_row Tryd.results70 _ w9 (w.heap.size + 1) 102 (vw L).toArray (0, 0) _ rfl h9 Tryd.underlying102 rfl (by rw [show (vw L).toArray.size = 64 by simp [vw_length, hL]]; exact cells_w64)) rfl ⟨L, hL, hLw, rfl, hb9⟩

end Go.Proofs.YtflgokbkkoobkaaDoor.Cd
