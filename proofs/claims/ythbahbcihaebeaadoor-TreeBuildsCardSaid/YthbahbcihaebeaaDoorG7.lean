/-
  A state behind a block, told exactly: sha.mixed. Conditions: none.
-/
import Derived.Test.YthbahbcihaebeaaDoorG6
import Derived.Test.YthbahbcihaebeaaDoorG4
/-
  A block's words, told exactly: sha.schedule. Conditions: none.
-/
namespace Go.Proofs.YthbahbcihaebeaaDoor.Cd
open Go.RowKit

/-- The words that are made of others. -/
def sg0 (x : Int) : Int := bits .xor .u32 (bits .xor .u32 (rot x 33554432 128) (rot x 16384 262144)) (x / 8)
def sg1 (y : Int) : Int := bits .xor .u32 (bits .xor .u32 (rot y 32768 131072) (rot y 8192 524288)) (y / 1024)
def w16 (blk : List UInt8) (k : Nat) : Int := word4 (blk.getD (4 * k) 0) (blk.getD (4 * k + 1) 0) (blk.getD (4 * k + 2) 0) (blk.getD (4 * k + 3) 0)
def ext (L : List Int) (k : Nat) : Int := IntKind.u32.wrap (IntKind.u32.wrap (IntKind.u32.wrap (L.getD (k - 16) 0 + sg0 (L.getD (k - 15) 0)) + L.getD (k - 7) 0) + sg1 (L.getD (k - 2) 0))
/-- A block's words, of which k are laid. -/
def schL (blk : List UInt8) : Nat → List Int
  | 0 => zerw 64
  | k + 1 => (schL blk k).set k (if k < 16 then w16 blk k else ext (schL blk k) k)
theorem schL_length (blk : List UInt8) (k : Nat) : (schL blk k).length = 64 := by
  induction k with
  | zero => exact zerw_length 64
  | succ k ih => rw [schL, List.length_set, ih]

set_option maxRecDepth 100000 in
set_option maxHeartbeats 3200000 in
theorem sched_x (blk : List UInt8) (w : World) (hb : blk.length = 64) : Calls Tryd.prog 78 #[.agg (vb blk).toArray] w fun e w' => W32L (schL blk 64) ∧ e = .returned (.agg (vw (schL blk 64)).toArray) ∧ Below w.heap.size w w' := by
  have h0 : w.heap.size < w.heap.size + 3 := by omega
  go_enter Tryd.func78, Tryd.ntmps78
  go_wp2_with (first
    | (refine wp_box_row rfl _ rfl rfl ?_)
    | (refine wp_alloc_row zero_w64 rfl rfl ?_))
  generalize hbw : w.heap.size + 1 + 1 = bw
  go_loopw [11] (fun i wr => ∃ k : Nat, k ≤ 16 ∧ i = .int .i64 k ∧ Hid (wr.heap[w.heap.size]? = some (.cells (vb blk).toArray 106)) ∧ (∃ L : List Int, L.length = 64 ∧ W32L L ∧ Hid (L = schL blk k) ∧ Hid (wr.heap[bw]? = some (.cells (vw L).toArray 119)) ∧ Hid (wr.heap[w.heap.size + 1]? = some (.cells (vw (zerw 64)).toArray 119)) ∧ Hid (Below w.heap.size w wr))) (fun i _ => 16 - (intOf i).toNat)
  case atStart =>
    refine ⟨0, by omega, rfl, ?_, zerw 64, zerw_length 64, W32L.zero 64, rfl, ?_, ?_, ?_⟩
    · exact (Below.heap_alloc _ _ _ (by simp; omega)).trans ((Below.heap_alloc _ _ _ (by simp)).trans (heap_alloc_new _ _))
    · subst hbw
      have h := heap_alloc_new ((w.alloc (.cells (vb blk).toArray 106)).alloc (.cells (vw (zerw 64)).toArray 119)) (.cells (vw (zerw 64)).toArray 119)
      rw [asz, asz] at h
      exact h
    · have h := heap_alloc_new (w.alloc (.cells (vb blk).toArray 106)) (.cells (vw (zerw 64)).toArray 119)
      rw [asz] at h
      exact (Below.heap_alloc _ _ _ (by simp)).trans h
    · exact (((Below.refl _ _).alloc (Nat.le_refl _) _).alloc (by simp) _).alloc (by simp; omega) _
  case round =>
    obtain ⟨k, hk, rfl, HB, L, hL, hLw, HE, HL, HR, HBB⟩ := hrel
    by_cases hlt : k < 16
    · obtain ⟨n, hn⟩ : ∃ n : Nat, (4 : Int) * (k : Int) = (n : Int) := ⟨4 * k, by omega⟩
      have hn2 : n + 3 < blk.length := by omega
      have hcs : Hid (∀ W : World, W.heap[w.heap.size]? = some (.cells (vb blk).toArray 106) → W.cell? ⟨w.heap.size, n, none⟩ = some (.int .u8 (blk[n]).toNat) ∧ W.cell? ⟨w.heap.size, n + 1, none⟩ = some (.int .u8 (blk[n + 1]).toNat) ∧ W.cell? ⟨w.heap.size, n + 2, none⟩ = some (.int .u8 (blk[n + 2]).toNat) ∧ W.cell? ⟨w.heap.size, n + 3, none⟩ = some (.int .u8 (blk[n + 3]).toNat)) := fun W h =>
        ⟨by rw [cell_of_row _ _ _ _ _ _ h, List.getElem?_toArray]; exact vb_at blk n (by omega), by rw [cell_of_row _ _ _ _ _ _ h, List.getElem?_toArray]; exact vb_at blk (n + 1) (by omega),
          by rw [cell_of_row _ _ _ _ _ _ h, List.getElem?_toArray]; exact vb_at blk (n + 2) (by omega), by rw [cell_of_row _ _ _ _ _ _ h, List.getElem?_toArray]; exact vb_at blk (n + 3) (by omega)⟩
      have cw : wr.cell? ⟨bw, k, none⟩ = some (.int .u32 L[k]) := by rw [cell_of_row _ _ _ _ _ _ HL.out, List.getElem?_toArray]; exact vw_at L k (by omega)
      have fw : wr.frozen? ⟨bw, k, none⟩ = false := frozen_of_row _ _ _ _ _ HL.out
      have hnb : n ≤ 60 := by omega
      have r0 : blk.getD (n) 0 = blk[n] := by rw [List.getD_eq_getElem?_getD, List.getElem?_eq_getElem (by omega)]; rfl
      generalize blk[n] = b0 at hcs r0
      have r1 : blk.getD (n + 1) 0 = blk[n + 1] := by rw [List.getD_eq_getElem?_getD, List.getElem?_eq_getElem (by omega)]; rfl
      generalize blk[n + 1] = b1 at hcs r1
      have r2 : blk.getD (n + 2) 0 = blk[n + 2] := by rw [List.getD_eq_getElem?_getD, List.getElem?_eq_getElem (by omega)]; rfl
      generalize blk[n + 2] = b2 at hcs r2
      have r3 : blk.getD (n + 3) 0 = blk[n + 3] := by rw [List.getD_eq_getElem?_getD, List.getElem?_eq_getElem (by omega)]; rfl
      generalize blk[n + 3] = b3 at hcs r3
      have HE1 : Hid (L.set k (word4 b0 b1 b2 b3) = schL blk (k + 1)) := by
        have hn4 : 4 * k = n := by omega
        unfold Hid
        rw [schL, if_pos hlt, ← HE.out]
        unfold w16
        rw [hn4, r0, r1, r2, r3]
      clear r0 r1 r2 r3
      have q0 := wrap_byte32 b0
      have q1 := wrap_byte32 b1
      have q2 := wrap_byte32 b2
      have q3 := wrap_byte32 b3
      have f1a : (0 : Int) ≤ (n : Int) + 1 := by omega
      have f1b : (n : Int) + 1 < 64 := by omega
      have f1t : ((n : Int) + 1).toNat = n + 1 := by omega
      have f1w : IntKind.i64.wrap ((n : Int) + 1) = (n : Int) + 1 := Go.wrap_small _ (by omega) (by omega)
      have f2a : (0 : Int) ≤ (n : Int) + 2 := by omega
      have f2b : (n : Int) + 2 < 64 := by omega
      have f2t : ((n : Int) + 2).toNat = n + 2 := by omega
      have f2w : IntKind.i64.wrap ((n : Int) + 2) = (n : Int) + 2 := Go.wrap_small _ (by omega) (by omega)
      have f3a : (0 : Int) ≤ (n : Int) + 3 := by omega
      have f3b : (n : Int) + 3 < 64 := by omega
      have f3t : ((n : Int) + 3).toNat = n + 3 := by omega
      have f3w : IntKind.i64.wrap ((n : Int) + 3) = (n : Int) + 3 := Go.wrap_small _ (by omega) (by omega)
      have f0a : (0 : Int) ≤ (n : Int) := by omega
      have f0b : (n : Int) < 64 := by omega
      go_wp2_with fail
      refine wp_region_held_drew (S := fun W => W.heap[w.heap.size]? = some (.cells (vb blk).toArray 106)) (by kernel_rfl) HB.out (fun hHeld => ?_)
      refine take_at (i := 0) (.int .i64 (k : Int)) (some 16) (by decide) (by rfl) (by kernel_rfl) (by kernel_rfl) (by kernel_rfl) (fun _ _ _ h => h) (by rfl) (fun W hW => by go_simp) (by assumption) ?_
      try simp only [Act.put, List.setIfInBounds_toArray, List.set_cons_zero, List.set_cons_succ]
      refine take_at (i := 1) (.int .i64 (n : Int)) (some 17) (by decide) (by rfl) (by kernel_rfl) (by kernel_rfl) (by kernel_rfl) (fun _ _ _ h => h) (by rfl) (fun W hW => by go_simp) (by assumption) ?_
      try simp only [Act.put, List.setIfInBounds_toArray, List.set_cons_zero, List.set_cons_succ]
      refine take_at (i := 2) (.pointer (some ⟨w.heap.size, n, none⟩)) (some 18) (by decide) (by rfl) (by kernel_rfl) (by kernel_rfl) (by kernel_rfl) (fun _ _ _ h => h) (by rfl) (fun W hW => by first | (go_simp; done) | (go_simp; intro h9; omega) | (go_simp; omega)) (by assumption) ?_
      try simp only [Act.put, List.setIfInBounds_toArray, List.set_cons_zero, List.set_cons_succ]
      refine take_at (i := 3) (.int .u8 (b0.toNat : Int)) (some 19) (by decide) (by rfl) (by kernel_rfl) (by kernel_rfl) (by kernel_rfl) (fun _ _ _ h => h) (by rfl) (fun W hW => by obtain ⟨s0, s1, s2, s3⟩ := hcs.out W hW; go_simp) (by assumption) ?_
      try simp only [Act.put, List.setIfInBounds_toArray, List.set_cons_zero, List.set_cons_succ]
      refine take_at (i := 4) (.int .u32 (b0.toNat : Int)) (some 20) (by decide) (by rfl) (by kernel_rfl) (by kernel_rfl) (by kernel_rfl) (fun _ _ _ h => h) (by rfl) (fun W hW => by go_simp) (by assumption) ?_
      try simp only [Act.put, List.setIfInBounds_toArray, List.set_cons_zero, List.set_cons_succ]
      refine take_at (i := 5) (.int .u32 (IntKind.u32.wrap ((b0.toNat : Int) * 16777216))) (some 21) (by decide) (by rfl) (by kernel_rfl) (by kernel_rfl) (by kernel_rfl) (fun _ _ _ h => h) (by rfl) (fun W hW => by go_simp) (by assumption) ?_
      try simp only [Act.put, List.setIfInBounds_toArray, List.set_cons_zero, List.set_cons_succ]
      refine take_at (i := 6) (.int .i64 (n : Int)) (some 22) (by decide) (by rfl) (by kernel_rfl) (by kernel_rfl) (by kernel_rfl) (fun _ _ _ h => h) (by rfl) (fun W hW => by go_simp) (by assumption) ?_
      try simp only [Act.put, List.setIfInBounds_toArray, List.set_cons_zero, List.set_cons_succ]
      refine take_at (i := 7) (.int .i64 ((n : Int) + 1)) (some 23) (by decide) (by rfl) (by kernel_rfl) (by kernel_rfl) (by kernel_rfl) (fun _ _ _ h => h) (by rfl) (fun W hW => by go_simp) (by assumption) ?_
      try simp only [Act.put, List.setIfInBounds_toArray, List.set_cons_zero, List.set_cons_succ]
      refine take_at (i := 8) (.pointer (some ⟨w.heap.size, n + 1, none⟩)) (some 24) (by decide) (by rfl) (by kernel_rfl) (by kernel_rfl) (by kernel_rfl) (fun _ _ _ h => h) (by rfl) (fun W hW => by first | (go_simp; done) | (go_simp; intro h9; omega) | (go_simp; omega)) (by assumption) ?_
      try simp only [Act.put, List.setIfInBounds_toArray, List.set_cons_zero, List.set_cons_succ]
      refine take_at (i := 9) (.int .u8 (b1.toNat : Int)) (some 25) (by decide) (by rfl) (by kernel_rfl) (by kernel_rfl) (by kernel_rfl) (fun _ _ _ h => h) (by rfl) (fun W hW => by obtain ⟨s0, s1, s2, s3⟩ := hcs.out W hW; go_simp) (by assumption) ?_
      try simp only [Act.put, List.setIfInBounds_toArray, List.set_cons_zero, List.set_cons_succ]
      refine take_at (i := 10) (.int .u32 (b1.toNat : Int)) (some 26) (by decide) (by rfl) (by kernel_rfl) (by kernel_rfl) (by kernel_rfl) (fun _ _ _ h => h) (by rfl) (fun W hW => by go_simp) (by assumption) ?_
      try simp only [Act.put, List.setIfInBounds_toArray, List.set_cons_zero, List.set_cons_succ]
      refine take_at (i := 11) (.int .u32 (IntKind.u32.wrap ((b1.toNat : Int) * 65536))) (some 27) (by decide) (by rfl) (by kernel_rfl) (by kernel_rfl) (by kernel_rfl) (fun _ _ _ h => h) (by rfl) (fun W hW => by go_simp) (by assumption) ?_
      try simp only [Act.put, List.setIfInBounds_toArray, List.set_cons_zero, List.set_cons_succ]
      refine take_at (i := 12) (.int .u32 (bits .or .u32 (IntKind.u32.wrap ((b0.toNat : Int) * 16777216)) (IntKind.u32.wrap ((b1.toNat : Int) * 65536)))) (some 28) (by decide) (by rfl) (by kernel_rfl) (by kernel_rfl) (by kernel_rfl) (fun _ _ _ h => h) (by rfl) (fun W hW => by go_simp) (by assumption) ?_
      try simp only [Act.put, List.setIfInBounds_toArray, List.set_cons_zero, List.set_cons_succ]
      refine take_at (i := 13) (.int .i64 (n : Int)) (some 29) (by decide) (by rfl) (by kernel_rfl) (by kernel_rfl) (by kernel_rfl) (fun _ _ _ h => h) (by rfl) (fun W hW => by go_simp) (by assumption) ?_
      try simp only [Act.put, List.setIfInBounds_toArray, List.set_cons_zero, List.set_cons_succ]
      refine take_at (i := 14) (.int .i64 ((n : Int) + 2)) (some 30) (by decide) (by rfl) (by kernel_rfl) (by kernel_rfl) (by kernel_rfl) (fun _ _ _ h => h) (by rfl) (fun W hW => by go_simp) (by assumption) ?_
      try simp only [Act.put, List.setIfInBounds_toArray, List.set_cons_zero, List.set_cons_succ]
      refine take_at (i := 15) (.pointer (some ⟨w.heap.size, n + 2, none⟩)) (some 31) (by decide) (by rfl) (by kernel_rfl) (by kernel_rfl) (by kernel_rfl) (fun _ _ _ h => h) (by rfl) (fun W hW => by first | (go_simp; done) | (go_simp; intro h9; omega) | (go_simp; omega)) (by assumption) ?_
      try simp only [Act.put, List.setIfInBounds_toArray, List.set_cons_zero, List.set_cons_succ]
      refine take_at (i := 16) (.int .u8 (b2.toNat : Int)) (some 32) (by decide) (by rfl) (by kernel_rfl) (by kernel_rfl) (by kernel_rfl) (fun _ _ _ h => h) (by rfl) (fun W hW => by obtain ⟨s0, s1, s2, s3⟩ := hcs.out W hW; go_simp) (by assumption) ?_
      try simp only [Act.put, List.setIfInBounds_toArray, List.set_cons_zero, List.set_cons_succ]
      refine take_at (i := 17) (.int .u32 (b2.toNat : Int)) (some 33) (by decide) (by rfl) (by kernel_rfl) (by kernel_rfl) (by kernel_rfl) (fun _ _ _ h => h) (by rfl) (fun W hW => by go_simp) (by assumption) ?_
      try simp only [Act.put, List.setIfInBounds_toArray, List.set_cons_zero, List.set_cons_succ]
      refine take_at (i := 18) (.int .u32 (IntKind.u32.wrap ((b2.toNat : Int) * 256))) (some 34) (by decide) (by rfl) (by kernel_rfl) (by kernel_rfl) (by kernel_rfl) (fun _ _ _ h => h) (by rfl) (fun W hW => by go_simp) (by assumption) ?_
      try simp only [Act.put, List.setIfInBounds_toArray, List.set_cons_zero, List.set_cons_succ]
      refine take_at (i := 19) (.int .u32 (bits .or .u32 (bits .or .u32 (IntKind.u32.wrap ((b0.toNat : Int) * 16777216)) (IntKind.u32.wrap ((b1.toNat : Int) * 65536))) (IntKind.u32.wrap ((b2.toNat : Int) * 256)))) (some 35) (by decide) (by rfl) (by kernel_rfl) (by kernel_rfl) (by kernel_rfl) (fun _ _ _ h => h) (by rfl) (fun W hW => by go_simp) (by assumption) ?_
      try simp only [Act.put, List.setIfInBounds_toArray, List.set_cons_zero, List.set_cons_succ]
      refine take_at (i := 20) (.int .i64 (n : Int)) (some 36) (by decide) (by rfl) (by kernel_rfl) (by kernel_rfl) (by kernel_rfl) (fun _ _ _ h => h) (by rfl) (fun W hW => by go_simp) (by assumption) ?_
      try simp only [Act.put, List.setIfInBounds_toArray, List.set_cons_zero, List.set_cons_succ]
      refine take_at (i := 21) (.int .i64 ((n : Int) + 3)) (some 37) (by decide) (by rfl) (by kernel_rfl) (by kernel_rfl) (by kernel_rfl) (fun _ _ _ h => h) (by rfl) (fun W hW => by go_simp) (by assumption) ?_
      try simp only [Act.put, List.setIfInBounds_toArray, List.set_cons_zero, List.set_cons_succ]
      refine take_at (i := 22) (.pointer (some ⟨w.heap.size, n + 3, none⟩)) (some 38) (by decide) (by rfl) (by kernel_rfl) (by kernel_rfl) (by kernel_rfl) (fun _ _ _ h => h) (by rfl) (fun W hW => by first | (go_simp; done) | (go_simp; intro h9; omega) | (go_simp; omega)) (by assumption) ?_
      try simp only [Act.put, List.setIfInBounds_toArray, List.set_cons_zero, List.set_cons_succ]
      refine take_at (i := 23) (.int .u8 (b3.toNat : Int)) (some 39) (by decide) (by rfl) (by kernel_rfl) (by kernel_rfl) (by kernel_rfl) (fun _ _ _ h => h) (by rfl) (fun W hW => by obtain ⟨s0, s1, s2, s3⟩ := hcs.out W hW; go_simp) (by assumption) ?_
      try simp only [Act.put, List.setIfInBounds_toArray, List.set_cons_zero, List.set_cons_succ]
      refine take_at (i := 24) (.int .u32 (b3.toNat : Int)) (some 40) (by decide) (by rfl) (by kernel_rfl) (by kernel_rfl) (by kernel_rfl) (fun _ _ _ h => h) (by rfl) (fun W hW => by go_simp) (by assumption) ?_
      try simp only [Act.put, List.setIfInBounds_toArray, List.set_cons_zero, List.set_cons_succ]
      refine take_at (i := 25) (.int .u32 (bits .or .u32 (bits .or .u32 (bits .or .u32 (IntKind.u32.wrap ((b0.toNat : Int) * 16777216)) (IntKind.u32.wrap ((b1.toNat : Int) * 65536))) (IntKind.u32.wrap ((b2.toNat : Int) * 256))) ((b3.toNat : Int)))) (some 41) (by decide) (by rfl) (by kernel_rfl) (by kernel_rfl) (by kernel_rfl) (fun _ _ _ h => h) (by rfl) (fun W hW => by go_simp) (by assumption) ?_
      try simp only [Act.put, List.setIfInBounds_toArray, List.set_cons_zero, List.set_cons_succ]
      refine take_at (i := 26) (.pointer (some ⟨bw, k, none⟩)) (some 42) (by decide) (by rfl) (by kernel_rfl) (by kernel_rfl) (by kernel_rfl) (fun _ _ _ h => h) (by rfl) (fun W hW => by first | (go_simp; done) | (go_simp; intro h9; omega)) (by assumption) ?_
      try simp only [Act.put, List.setIfInBounds_toArray, List.set_cons_zero, List.set_cons_succ]
      have HS1 : Hid (∀ {W : World}, W.heap[w.heap.size]? = some (.cells (vb blk).toArray 106) → Hid (W.heap[w.heap.size]? = some (.cells (vb blk).toArray 106))) := fun h => h
      have HS2 : Hid (Hid ((wr.drew.setCell ⟨bw, k, none⟩ (.int .u32 (word4 b0 b1 b2 b3))).heap[bw]? = some (.cells (vw (L.set k (word4 b0 b1 b2 b3))).toArray 119))) := by
        have h := heap_setCell_same wr.drew bw k _ _ (.int .u32 (word4 b0 b1 b2 b3)) HL.out
        rw [List.setIfInBounds_toArray, vw_set] at h
        exact h
      have HS3 : Hid (Hid ((wr.drew.setCell ⟨bw, k, none⟩ (.int .u32 (word4 b0 b1 b2 b3))).heap[w.heap.size + 1]? = some (.cells (vw (zerw 64)).toArray 119))) := (Below.heap_setCell wr.drew ⟨bw, k, none⟩ _ _ (by show w.heap.size + 1 ≠ bw; omega)).trans HR.out
      refine wpAnyH_ready (rs := [27]) (by kernel_rfl) (by simp) (AllReadyH.cons (Array.getElem?_eq_getElem (i := 27) (by decide)) (fun K9 hK => ?_) AllReadyH.nil)
      rw [if_pos (by rfl)]
      unfold Oper.wp
      go_simp
      refine hK.out _ _ ((Below.heap_setCell wr.drew ⟨bw, k, none⟩ _ _ (by show w.heap.size ≠ bw; omega)).trans hHeld) (fun hHeld => ?_)
      clear hK K9
      try simp only [Act.put, List.setIfInBounds_toArray, List.set_cons_zero, List.set_cons_succ]
      refine wpAnyH_done (by kernel_rfl) ?_ _
      try simp only [Act.put, List.setIfInBounds_toArray, List.set_cons_zero, List.set_cons_succ]
      go_wp2_with fail
      go_roundw
      case rel => exact ⟨k + 1, by omega, by go_num, HS1.out hHeld, L.set k (word4 b0 b1 b2 b3), by simp [hL], W32L.set hLw k _ (W32.bits _ _ _), HE1, HS2.out, HS3.out, HBB.out.drew.setCell (by show w.heap.size ≤ bw; omega) _⟩
      case measure => simp [intOf]; omega
    · clear HB
      have HE16 : Hid (L = schL blk 16) := (show k = 16 by omega) ▸ HE
      go_wp2_with fail
      go_loopw [6] (fun i wr => ∃ k : Nat, 16 ≤ k ∧ k ≤ 64 ∧ i = .int .i64 k ∧ (∃ L : List Int, L.length = 64 ∧ W32L L ∧ Hid (L = schL blk k) ∧ Hid (wr.heap[bw]? = some (.cells (vw L).toArray 119)) ∧ Hid (wr.heap[w.heap.size + 1]? = some (.cells (vw (zerw 64)).toArray 119)) ∧ Hid (Below w.heap.size w wr))) (fun i _ => 64 - (intOf i).toNat)
      case atStart => exact ⟨16, by omega, by omega, rfl, L, hL, hLw, HE16, HL, HR, HBB⟩
      case round =>
        clear HE16 HE HL HR HBB hL hLw hlt hk
        obtain ⟨k, hk0, hk, rfl, L, hL, hLw, HE, HL, HR, HBB⟩ := hrel
        by_cases hlt : k < 64
        · obtain ⟨k15, h15⟩ : ∃ j : Nat, j = k - 15 := ⟨_, rfl⟩
          obtain ⟨k2, h2⟩ : ∃ j : Nat, j = k - 2 := ⟨_, rfl⟩
          obtain ⟨k16, h16⟩ : ∃ j : Nat, j = k - 16 := ⟨_, rfl⟩
          obtain ⟨k7, h7⟩ : ∃ j : Nat, j = k - 7 := ⟨_, rfl⟩
          have e15 : IntKind.i64.wrap ((k : Int) - 15) = (k15 : Int) := by rw [show (k : Int) - 15 = (k15 : Int) by omega]; exact Go.wrap_small _ (by omega) (by omega)
          have g15 : (k15 : Int) < 64 := by omega
          have m15 : k15 < L.length := by omega
          have e2 : IntKind.i64.wrap ((k : Int) - 2) = (k2 : Int) := by rw [show (k : Int) - 2 = (k2 : Int) by omega]; exact Go.wrap_small _ (by omega) (by omega)
          have g2 : (k2 : Int) < 64 := by omega
          have m2 : k2 < L.length := by omega
          have e16 : IntKind.i64.wrap ((k : Int) - 16) = (k16 : Int) := by rw [show (k : Int) - 16 = (k16 : Int) by omega]; exact Go.wrap_small _ (by omega) (by omega)
          have g16 : (k16 : Int) < 64 := by omega
          have m16 : k16 < L.length := by omega
          have e7 : IntKind.i64.wrap ((k : Int) - 7) = (k7 : Int) := by rw [show (k : Int) - 7 = (k7 : Int) by omega]; exact Go.wrap_small _ (by omega) (by omega)
          have g7 : (k7 : Int) < 64 := by omega
          have m7 : k7 < L.length := by omega
          have gk : (k : Int) < 64 := by omega
          have hcell : Hid (∀ (W : World) (j : Nat) (hj : j < L.length), W.heap[bw]? = some (.cells (vw L).toArray 119) → W.cell? ⟨bw, j, none⟩ = some (.int .u32 L[j])) := fun W j hj h => by rw [cell_of_row _ _ _ _ _ _ h, List.getElem?_toArray]; exact vw_at L j hj
          have c15 : Hid (∀ W : World, W.heap[bw]? = some (.cells (vw L).toArray 119) → W.cell? ⟨bw, k15, none⟩ = some (.int .u32 L[k15])) := fun W h => hcell.out W k15 m15 h
          have c2 : Hid (∀ W : World, W.heap[bw]? = some (.cells (vw L).toArray 119) → W.cell? ⟨bw, k2, none⟩ = some (.int .u32 L[k2])) := fun W h => hcell.out W k2 m2 h
          have c16 : Hid (∀ W : World, W.heap[bw]? = some (.cells (vw L).toArray 119) → W.cell? ⟨bw, k16, none⟩ = some (.int .u32 L[k16])) := fun W h => hcell.out W k16 m16 h
          have c7 : Hid (∀ W : World, W.heap[bw]? = some (.cells (vw L).toArray 119) → W.cell? ⟨bw, k7, none⟩ = some (.int .u32 L[k7])) := fun W h => hcell.out W k7 m7 h
          have hx := hLw _ (List.getElem_mem m15)
          have hy := hLw _ (List.getElem_mem m2)
          have cw : wr.cell? ⟨bw, k, none⟩ = some (.int .u32 L[k]) := hcell.out wr k (by omega) HL.out
          have fw : wr.frozen? ⟨bw, k, none⟩ = false := frozen_of_row _ _ _ _ _ HL.out
          have gx : L.getD (k - 15) 0 = L[k15] := by rw [← h15, List.getD_eq_getElem?_getD, List.getElem?_eq_getElem m15]; rfl
          generalize L[k15] = x at c15 hx gx
          have Gx := Lib.hid gx
          clear gx
          have gy : L.getD (k - 2) 0 = L[k2] := by rw [← h2, List.getD_eq_getElem?_getD, List.getElem?_eq_getElem m2]; rfl
          generalize L[k2] = y at c2 hy gy
          have Gy := Lib.hid gy
          clear gy
          have ga : L.getD (k - 16) 0 = L[k16] := by rw [← h16, List.getD_eq_getElem?_getD, List.getElem?_eq_getElem m16]; rfl
          generalize L[k16] = a at c16 ga
          have Ga := Lib.hid ga
          clear ga
          have gb : L.getD (k - 7) 0 = L[k7] := by rw [← h7, List.getD_eq_getElem?_getD, List.getElem?_eq_getElem m7]; rfl
          generalize L[k7] = b at c7 gb
          have Gb := Lib.hid gb
          clear gb
          have HX := Lib.hid hx
          have HY := Lib.hid hy
          have hx0 := hx.1
          have hy0 := hy.1
          have n16 : ¬ k = k16 := by omega
          have n7 : ¬ k = k7 := by omega
          have n16b : ¬ k16 = k := by omega
          have n7b : ¬ k7 = k := by omega
          clear hx hy h15 h2 h16 h7 m15 m2 m16 m7 hcell
          go_wp2_with fail
          refine wp_region_held_drew (S := fun W => W.heap[bw]? = some (.cells (vw L).toArray 119)) (by kernel_rfl) HL.out (fun hHeld => ?_)
          refine take_at (i := 0) (.int .i64 (k : Int)) (some 48) (by decide) (by rfl) (by kernel_rfl) (by kernel_rfl) (by kernel_rfl) (fun _ _ _ h => h) (by rfl) (fun W hW => by go_simp) (by assumption) ?_
          try simp only [Act.put, List.setIfInBounds_toArray, List.set_cons_zero, List.set_cons_succ]
          refine take_at (i := 1) (.int .i64 (k15 : Int)) (some 49) (by decide) (by rfl) (by kernel_rfl) (by kernel_rfl) (by kernel_rfl) (fun _ _ _ h => h) (by rfl) (fun W hW => by go_simp) (by assumption) ?_
          try simp only [Act.put, List.setIfInBounds_toArray, List.set_cons_zero, List.set_cons_succ]
          refine take_at (i := 2) (.pointer (some ⟨bw, k15, none⟩)) (some 50) (by decide) (by rfl) (by kernel_rfl) (by kernel_rfl) (by kernel_rfl) (fun _ _ _ h => h) (by rfl) (fun W hW => by first | (go_simp; done) | (go_simp; intro h9; omega)) (by assumption) ?_
          try simp only [Act.put, List.setIfInBounds_toArray, List.set_cons_zero, List.set_cons_succ]
          refine take_at (i := 3) (.int .u32 x) (some 51) (by decide) (by rfl) (by kernel_rfl) (by kernel_rfl) (by kernel_rfl) (fun _ _ _ h => h) (by rfl) (fun W hW => by have := c15.out W hW; go_simp) (by assumption) ?_
          try simp only [Act.put, List.setIfInBounds_toArray, List.set_cons_zero, List.set_cons_succ]
          refine take_at (i := 4) (.int .i64 (k : Int)) (some 52) (by decide) (by rfl) (by kernel_rfl) (by kernel_rfl) (by kernel_rfl) (fun _ _ _ h => h) (by rfl) (fun W hW => by go_simp) (by assumption) ?_
          try simp only [Act.put, List.setIfInBounds_toArray, List.set_cons_zero, List.set_cons_succ]
          refine take_at (i := 5) (.int .i64 (k2 : Int)) (some 53) (by decide) (by rfl) (by kernel_rfl) (by kernel_rfl) (by kernel_rfl) (fun _ _ _ h => h) (by rfl) (fun W hW => by go_simp) (by assumption) ?_
          try simp only [Act.put, List.setIfInBounds_toArray, List.set_cons_zero, List.set_cons_succ]
          refine take_at (i := 6) (.pointer (some ⟨bw, k2, none⟩)) (some 54) (by decide) (by rfl) (by kernel_rfl) (by kernel_rfl) (by kernel_rfl) (fun _ _ _ h => h) (by rfl) (fun W hW => by first | (go_simp; done) | (go_simp; intro h9; omega)) (by assumption) ?_
          try simp only [Act.put, List.setIfInBounds_toArray, List.set_cons_zero, List.set_cons_succ]
          refine take_at (i := 7) (.int .u32 y) (some 55) (by decide) (by rfl) (by kernel_rfl) (by kernel_rfl) (by kernel_rfl) (fun _ _ _ h => h) (by rfl) (fun W hW => by have := c2.out W hW; go_simp) (by assumption) ?_
          try simp only [Act.put, List.setIfInBounds_toArray, List.set_cons_zero, List.set_cons_succ]
          refine take_at (i := 8) (.int .u32 x) (some 7) (by decide) (by rfl) (by kernel_rfl) (by kernel_rfl) (by kernel_rfl) (fun _ _ _ h => h) (by rfl) (fun W hW => by go_simp) (by assumption) ?_
          try simp only [Act.put, List.setIfInBounds_toArray, List.set_cons_zero, List.set_cons_succ]
          refine take_at (i := 9) (.int .u32 y) (some 8) (by decide) (by rfl) (by kernel_rfl) (by kernel_rfl) (by kernel_rfl) (fun _ _ _ h => h) (by rfl) (fun W hW => by go_simp) (by assumption) ?_
          try simp only [Act.put, List.setIfInBounds_toArray, List.set_cons_zero, List.set_cons_succ]
          refine wpAnyH_done (by kernel_rfl) ?_ _
          try simp only [Act.put, List.setIfInBounds_toArray, List.set_cons_zero, List.set_cons_succ]
          obtain ⟨w1, hw1⟩ : ∃ v, wr.drew = v := ⟨_, rfl⟩
          have HL1 : Hid (w1.heap[bw]? = some (.cells (vw L).toArray 119)) := by rw [← hw1]; exact HL.out
          have HR1 : Hid (w1.heap[w.heap.size + 1]? = some (.cells (vw (zerw 64)).toArray 119)) := by rw [← hw1]; exact HR.out
          have HB1 : Hid (Below w.heap.size w w1) := by rw [← hw1]; exact HBB.out.drew
          have cw1 : w1.cell? ⟨bw, k, none⟩ = some (.int .u32 L[k]) := by rw [← hw1]; exact cw
          have fw1 : w1.frozen? ⟨bw, k, none⟩ = false := by rw [← hw1]; exact fw
          rw [hw1]
          clear hw1 HL HR HBB cw fw c15 c2 hHeld
          go_wp2_with (first
            | (refine (turned_7 x _ HX.out).mono ?_; rintro e wt ⟨rfl, rfl⟩)
            | (refine (turned_18 x _ HX.out).mono ?_; rintro e wt ⟨rfl, rfl⟩)
            | (refine (turned_17 y _ HY.out).mono ?_; rintro e wt ⟨rfl, rfl⟩)
            | (refine (turned_19 y _ HY.out).mono ?_; rintro e wt ⟨rfl, rfl⟩))
          generalize hs9 : bits .xor .u32 (bits .xor .u32 (rot x 33554432 128) (rot x 16384 262144)) (x / 8) = s
          have HS9 := Lib.hid hs9
          clear hs9
          generalize ht9 : bits .xor .u32 (bits .xor .u32 (rot y 32768 131072) (rot y 8192 524288)) (y / 1024) = t
          have HT9 := Lib.hid ht9
          clear ht9
          have d16 := c16.out w1 HL1.out
          have d7 := c7.out w1 HL1.out
          clear c16 c7
          refine wp_region_held_drew (S := fun W => W.cell? ⟨bw, k16, none⟩ = some (.int .u32 a) ∧ W.cell? ⟨bw, k7, none⟩ = some (.int .u32 b)) (by kernel_rfl) ⟨d16, d7⟩ (fun hHeld => ?_)
          refine take_at (i := 0) (.int .i64 (k : Int)) (some 72) (by decide) (by rfl) (by kernel_rfl) (by kernel_rfl) (by kernel_rfl) (fun _ _ _ h => h) (by rfl) (fun W hW => by go_simp) (by assumption) ?_
          try simp only [Act.put, List.setIfInBounds_toArray, List.set_cons_zero, List.set_cons_succ]
          refine take_at (i := 1) (.int .i64 (k : Int)) (some 73) (by decide) (by rfl) (by kernel_rfl) (by kernel_rfl) (by kernel_rfl) (fun _ _ _ h => h) (by rfl) (fun W hW => by go_simp) (by assumption) ?_
          try simp only [Act.put, List.setIfInBounds_toArray, List.set_cons_zero, List.set_cons_succ]
          refine take_at (i := 2) (.int .i64 (k16 : Int)) (some 74) (by decide) (by rfl) (by kernel_rfl) (by kernel_rfl) (by kernel_rfl) (fun _ _ _ h => h) (by rfl) (fun W hW => by go_simp) (by assumption) ?_
          try simp only [Act.put, List.setIfInBounds_toArray, List.set_cons_zero, List.set_cons_succ]
          refine take_at (i := 3) (.pointer (some ⟨bw, k16, none⟩)) (some 75) (by decide) (by rfl) (by kernel_rfl) (by kernel_rfl) (by kernel_rfl) (fun _ _ _ h => h) (by rfl) (fun W hW => by first | (go_simp; done) | (go_simp; intro h9; omega)) (by assumption) ?_
          try simp only [Act.put, List.setIfInBounds_toArray, List.set_cons_zero, List.set_cons_succ]
          refine take_at (i := 4) (.int .u32 a) (some 76) (by decide) (by rfl) (by kernel_rfl) (by kernel_rfl) (by kernel_rfl) (fun _ _ _ h => h) (by rfl) (fun W hW => by have h9 := hW.1; go_simp) (by assumption) ?_
          try simp only [Act.put, List.setIfInBounds_toArray, List.set_cons_zero, List.set_cons_succ]
          refine take_at (i := 5) (.int .u32 s) (some 77) (by decide) (by rfl) (by kernel_rfl) (by kernel_rfl) (by kernel_rfl) (fun _ _ _ h => h) (by rfl) (fun W hW => by go_simp) (by assumption) ?_
          try simp only [Act.put, List.setIfInBounds_toArray, List.set_cons_zero, List.set_cons_succ]
          refine take_at (i := 6) (.int .u32 (IntKind.u32.wrap (a + s))) (some 78) (by decide) (by rfl) (by kernel_rfl) (by kernel_rfl) (by kernel_rfl) (fun _ _ _ h => h) (by rfl) (fun W hW => by go_simp) (by assumption) ?_
          try simp only [Act.put, List.setIfInBounds_toArray, List.set_cons_zero, List.set_cons_succ]
          refine take_at (i := 7) (.int .i64 (k : Int)) (some 79) (by decide) (by rfl) (by kernel_rfl) (by kernel_rfl) (by kernel_rfl) (fun _ _ _ h => h) (by rfl) (fun W hW => by go_simp) (by assumption) ?_
          try simp only [Act.put, List.setIfInBounds_toArray, List.set_cons_zero, List.set_cons_succ]
          refine take_at (i := 8) (.int .i64 (k7 : Int)) (some 80) (by decide) (by rfl) (by kernel_rfl) (by kernel_rfl) (by kernel_rfl) (fun _ _ _ h => h) (by rfl) (fun W hW => by go_simp) (by assumption) ?_
          try simp only [Act.put, List.setIfInBounds_toArray, List.set_cons_zero, List.set_cons_succ]
          refine take_at (i := 9) (.pointer (some ⟨bw, k7, none⟩)) (some 81) (by decide) (by rfl) (by kernel_rfl) (by kernel_rfl) (by kernel_rfl) (fun _ _ _ h => h) (by rfl) (fun W hW => by first | (go_simp; done) | (go_simp; intro h9; omega)) (by assumption) ?_
          try simp only [Act.put, List.setIfInBounds_toArray, List.set_cons_zero, List.set_cons_succ]
          refine take_at (i := 10) (.int .u32 b) (some 82) (by decide) (by rfl) (by kernel_rfl) (by kernel_rfl) (by kernel_rfl) (fun _ _ _ h => h) (by rfl) (fun W hW => by have h9 := hW.2; go_simp) (by assumption) ?_
          try simp only [Act.put, List.setIfInBounds_toArray, List.set_cons_zero, List.set_cons_succ]
          refine take_at (i := 11) (.int .u32 (IntKind.u32.wrap (IntKind.u32.wrap (a + s) + b))) (some 83) (by decide) (by rfl) (by kernel_rfl) (by kernel_rfl) (by kernel_rfl) (fun _ _ _ h => h) (by rfl) (fun W hW => by go_simp) (by assumption) ?_
          try simp only [Act.put, List.setIfInBounds_toArray, List.set_cons_zero, List.set_cons_succ]
          refine take_at (i := 12) (.int .u32 t) (some 84) (by decide) (by rfl) (by kernel_rfl) (by kernel_rfl) (by kernel_rfl) (fun _ _ _ h => h) (by rfl) (fun W hW => by go_simp) (by assumption) ?_
          try simp only [Act.put, List.setIfInBounds_toArray, List.set_cons_zero, List.set_cons_succ]
          refine take_at (i := 13) (.int .u32 (IntKind.u32.wrap (IntKind.u32.wrap (IntKind.u32.wrap (a + s) + b) + t))) (some 85) (by decide) (by rfl) (by kernel_rfl) (by kernel_rfl) (by kernel_rfl) (fun _ _ _ h => h) (by rfl) (fun W hW => by go_simp) (by assumption) ?_
          try simp only [Act.put, List.setIfInBounds_toArray, List.set_cons_zero, List.set_cons_succ]
          refine take_at (i := 14) (.pointer (some ⟨bw, k, none⟩)) (some 86) (by decide) (by rfl) (by kernel_rfl) (by kernel_rfl) (by kernel_rfl) (fun _ _ _ h => h) (by rfl) (fun W hW => by first | (go_simp; done) | (go_simp; intro h9; omega)) (by assumption) ?_
          try simp only [Act.put, List.setIfInBounds_toArray, List.set_cons_zero, List.set_cons_succ]
          have hV : W32 (IntKind.u32.wrap (IntKind.u32.wrap (IntKind.u32.wrap (a + s) + b) + t)) := by rw [IntKind.wrap_u32']; exact W32.mod _
          have hVe : IntKind.u32.wrap (IntKind.u32.wrap (IntKind.u32.wrap (a + s) + b) + t) = ext L k := by
            unfold ext sg0 sg1
            rw [Gx.out, Gy.out, Ga.out, Gb.out, HS9.out, HT9.out]
          have HE2 : Hid (L.set k (IntKind.u32.wrap (IntKind.u32.wrap (IntKind.u32.wrap (a + s) + b) + t)) = schL blk (k + 1)) := by
            unfold Hid
            rw [hVe, schL, if_neg (by omega), ← HE.out]
          clear hVe
          generalize IntKind.u32.wrap (IntKind.u32.wrap (IntKind.u32.wrap (a + s) + b) + t) = v9 at hV HE2 ⊢
          have HS2 : Hid ((w1.drew.setCell ⟨bw, k, none⟩ (.int .u32 v9)).heap[bw]? = some (.cells (vw (L.set k v9)).toArray 119)) := by
            have h := heap_setCell_same w1.drew bw k _ _ (.int .u32 v9) HL1.out
            rw [List.setIfInBounds_toArray, vw_set] at h
            exact h
          have HS3 : Hid ((w1.drew.setCell ⟨bw, k, none⟩ (.int .u32 v9)).heap[w.heap.size + 1]? = some (.cells (vw (zerw 64)).toArray 119)) := (Below.heap_setCell w1.drew ⟨bw, k, none⟩ _ _ (by show w.heap.size + 1 ≠ bw; omega)).trans HR1.out
          clear hHeld
          refine wpAnyH_ready (rs := [15]) (by kernel_rfl) (by simp) (AllReadyH.cons (Array.getElem?_eq_getElem (i := 15) (by decide)) (fun K9 hK => ?_) AllReadyH.nil)
          rw [if_pos (by rfl)]
          unfold Oper.wp
          go_simp
          refine hK.out _ _ ⟨(World.cell?_setCell_other _ _ _ _ (by simp [n16, n16b])).trans d16, (World.cell?_setCell_other _ _ _ _ (by simp [n7, n7b])).trans d7⟩ (fun hHeld => ?_)
          clear hK K9
          try simp only [Act.put, List.setIfInBounds_toArray, List.set_cons_zero, List.set_cons_succ]
          refine wpAnyH_done (by kernel_rfl) ?_ _
          try simp only [Act.put, List.setIfInBounds_toArray, List.set_cons_zero, List.set_cons_succ]
          go_wp2_with fail
          go_roundw
          case rel => exact ⟨k + 1, by omega, by omega, by go_num, L.set k v9, by simp [hL], W32L.set hLw k _ hV, HE2, HS2, HS3, HB1.out.drew.setCell (by show w.heap.size ≤ bw; omega) _⟩
          case measure => simp [intOf]; omega
        · obtain rfl : k = 64 := by omega
          clear hlt hk hk0
          go_wp2_with (first
            | (refine wpList_load_row rfl 119 _ rfl bw rfl 119 (vw L).toArray (0, 0) _ HL.out Tryd.underlying119 rfl (by rw [show (vw L).toArray.size = 64 by simp [vw_length, hL]]; exact cells_w64) ?_)
            | (refine wp_put_row cells_w64 rfl _ _ rfl (w.heap.size + 1) rfl rfl (by simp [vw_length, hL]) (vw_one L) (vw (zerw 64)).toArray (by simp [vw_length, zerw_length]) 119 HR.out ?hK9))
          intro w9 h9 hg9
          have hb9 : Below w.heap.size w w9 := HBB.out.grown hg9 (by have := HBB.out.size; omega) (fun k hk => by injection hk with hk; omega)
          go_wp2_with fail
          exact bodyPost_ret (v := .agg (vw L).toArray) (results_cell_row Tryd.results78 _ w9 (w.heap.size + 1) 119 (vw L).toArray (0, 0) _ rfl h9 Tryd.underlying119 rfl (by rw [show (vw L).toArray.size = 64 by simp [vw_length, hL]]; exact cells_w64)) rfl ⟨by rw [← HE.out]; exact hLw, by rw [← HE.out], hb9⟩

end Go.Proofs.YthbahbcihaebeaaDoor.Cd

/-
  A state behind a block: sha.mixed. Conditions: none.
-/
namespace Go.Proofs.YthbahbcihaebeaaDoor.Cd
open Go.RowKit

theorem zero_w8 (W : World) : (zeroValue 105).run Tryd.prog W = .ok (.agg (vw (zerw 8)).toArray) W := by kernel_rfl
theorem cells_w8 : (Tryd.prog.info? 105).map (·.size) = some 8 := by kernel_rfl
theorem built_w8 (a b c d e f g h : Int) : Tryd.prog.built 105 [(0, .int .u32 a), (1, .int .u32 b), (2, .int .u32 c), (3, .int .u32 d), (4, .int .u32 e), (5, .int .u32 f), (6, .int .u32 g), (7, .int .u32 h)] = some (vw [a, b, c, d, e, f, g, h]).toArray := by kernel_rfl

/-- The rounds' numbers, as they lie in the program's variable. -/
def KeysAt (w : World) : Prop := 0 < w.heap.size ∧ ∃ Ks : List Int, Ks.length = 64 ∧ ∀ (j : Nat) (hj : j < Ks.length), w.cell? ⟨0, j, none⟩ = some (.int .u32 Ks[j])
theorem KeysAt.below {w w' : World} {B : Nat} (h : KeysAt w) (hb : Below B w w') (hB : 0 < B) : KeysAt w' := by
  obtain ⟨h1, Ks, h2, h3⟩ := h
  exact ⟨Nat.lt_of_lt_of_le h1 hb.size, Ks, h2, fun j hj => (hb.cell (p := ⟨0, j, none⟩) hB).trans (h3 j hj)⟩

theorem index_w8 (L : List Int) (j : Nat) (hl : L.length = 8) (hj : j < L.length) (W : World) : (Instr.index 105 (.agg (vw L).toArray) (.int .i64 j)).run Tryd.prog W = .ok (.int .u32 L[j]) W := by
  have hs : (Tryd.prog.info? 104).map (·.size) = some 1 := by kernel_rfl
  have hj8 : j < 8 := by omega
  have h : (vw L)[j]? = some (.int .u32 L[j]) := vw_at L j hj
  cases hq : Tryd.prog.info? 104 with
  | none => simp [hq] at hs
  | some i =>
    have hs2 : i.size = 1 := by simpa [hq] using hs
    simp [Instr.index, asIntOf, run_underlying Tryd.underlying105, sizeOf, typeInfo, hq, hs2, hj8, part, isAgg, run_underlying Tryd.underlying104, h]

set_option maxRecDepth 100000 in
set_option maxHeartbeats 3200000 in
theorem mixed_any (st : List Int) (blk : List UInt8) (w : World) (hs : st.length = 8) (hsw : W32L st) (hb : blk.length = 64) (hk : KeysAt w) :
    Calls Tryd.prog 76 #[.agg (vw st).toArray, .agg (vb blk).toArray] w fun e w' => ∃ S : List Int, S.length = 8 ∧ W32L S ∧ e = .returned (.agg (vw S).toArray) ∧ Below w.heap.size w w' := by
  have HK := Lib.hid hk
  have HBL := Lib.hid hb
  have HS8 := Lib.hid hs
  have hb0 := (((Below.refl w.heap.size w).alloc (Nat.le_refl _) (.cells (vw st).toArray 105)).alloc (by simp) (.cells (vb blk).toArray 106)).alloc (by simp; omega) (.cells (vw (zerw 8)).toArray 105)
  have hst0 : (((w.alloc (.cells (vw st).toArray 105)).alloc (.cells (vb blk).toArray 106)).alloc (.cells (vw (zerw 8)).toArray 105)).heap[w.heap.size]? = some (.cells (vw st).toArray 105) :=
    (Below.heap_alloc _ _ _ (by simp; omega)).trans ((Below.heap_alloc _ _ _ (by simp)).trans (heap_alloc_new _ _))
  have hbl0 : (((w.alloc (.cells (vw st).toArray 105)).alloc (.cells (vb blk).toArray 106)).alloc (.cells (vw (zerw 8)).toArray 105)).heap[w.heap.size + 1]? = some (.cells (vb blk).toArray 106) := by
    have h := heap_alloc_new (w.alloc (.cells (vw st).toArray 105)) (.cells (vb blk).toArray 106)
    rw [asz] at h
    exact (Below.heap_alloc _ _ _ (by simp)).trans h
  have hre0 : (((w.alloc (.cells (vw st).toArray 105)).alloc (.cells (vb blk).toArray 106)).alloc (.cells (vw (zerw 8)).toArray 105)).heap[w.heap.size + 1 + 1]? = some (.cells (vw (zerw 8)).toArray 105) := by
    have h := heap_alloc_new ((w.alloc (.cells (vw st).toArray 105)).alloc (.cells (vb blk).toArray 106)) (.cells (vw (zerw 8)).toArray 105)
    rw [asz, asz] at h
    exact h
  have hsz0 : (((w.alloc (.cells (vw st).toArray 105)).alloc (.cells (vb blk).toArray 106)).alloc (.cells (vw (zerw 8)).toArray 105)).heap.size = w.heap.size + 3 := by simp
  go_enter Tryd.func76, Tryd.ntmps76
  iterate 11 (try first | (refine wp_box_row rfl _ rfl rfl ?_) | (refine wp_alloc_row zero_w8 rfl rfl ?_) | go_values | go_skip | go_guarded | go_step)
  simp only [Act.put, List.setIfInBounds_toArray, List.set_cons_zero, List.set_cons_succ, asz]
  refine wpList_load_row rfl 106 _ rfl (w.heap.size + 1) rfl 106 (vb blk).toArray (0, 0) _ hbl0 Tryd.underlying106 rfl (by rw [vb_size, HBL.out]; exact cells_b64) ?_
  go_wp2_with fail
  generalize ((w.alloc (.cells (vw st).toArray 105)).alloc (.cells (vb blk).toArray 106)).alloc (.cells (vw (zerw 8)).toArray 105) = w1 at hb0 hst0 hbl0 hre0 hsz0 ⊢
  generalize hbr : w.heap.size + 1 + 1 = br at hre0 ⊢
  have hs1 : w.heap.size + 3 ≤ w1.heap.size := by omega
  have HB1 := Lib.hid hb0
  have HST1 := Lib.hid hst0
  have HRE1 := Lib.hid hre0
  clear hb0 hst0 hbl0 hre0 hsz0
  refine (sched_any blk w1 HBL.out).mono ?_
  rintro e w2 ⟨L, hL, hLw, rfl, hb2⟩
  have hs2 := hb2.size
  have HB2 := Lib.hid (HB1.out.trans (hb2.mono (by omega)))
  have HST2 : Hid (w2.heap[w.heap.size]? = some (.cells (vw st).toArray 105)) := (hb2.block _ (by omega)).trans HST1.out
  have HRE2 : Hid (w2.heap[br]? = some (.cells (vw (zerw 8)).toArray 105)) := (hb2.block _ (by omega)).trans HRE1.out
  clear hb2 HB1 HST1 HRE1
  have hw3 := heap_alloc_new w2 (.cells (vw L).toArray 119)
  have hst3 : (w2.alloc (.cells (vw L).toArray 119)).heap[w.heap.size]? = some (.cells (vw st).toArray 105) := (Below.heap_alloc _ _ _ (by omega)).trans HST2.out
  have hre3 : (w2.alloc (.cells (vw L).toArray 119)).heap[br]? = some (.cells (vw (zerw 8)).toArray 105) := (Below.heap_alloc _ _ _ (by omega)).trans HRE2.out
  have hb3 := HB2.out.alloc (by omega) (.cells (vw L).toArray 119)
  clear HST2 HRE2 HB2
  try dsimp only
  iterate 14 (try first | go_values | go_skip | go_guarded | (refine wp_alloc_row zero_w64 rfl rfl ?_) | (refine wp_fill_row cells_w64 rfl _ _ rfl (vw (zerw 64)).toArray (by simp [vw_length, zerw_length]) 119 rfl rfl (by simp [vw_length, hL]) (vw_one L) ?_) | go_step | go_upon)
  generalize w2.alloc (.cells (vw L).toArray 119) = w3 at hw3 hst3 hre3 hb3 ⊢
  generalize hbw : w2.heap.size = bw at hw3 ⊢
  have HW3 := Lib.hid hw3
  have HST3 := Lib.hid hst3
  have HRE3 := Lib.hid hre3
  have HB3 := Lib.hid hb3
  clear hw3 hst3 hre3 hb3
  have hbwl : w.heap.size + 3 ≤ bw := by omega
  obtain ⟨a0, b0, c0, d0, e0, f0, g0, h0, rfl⟩ : ∃ a b c d e f g h, st = [a, b, c, d, e, f, g, h] := by
    match st, hs with
    | [a, b, c, d, e, f, g, h], _ => exact ⟨a, b, c, d, e, f, g, h, rfl⟩
  have hcs : Hid (∀ W : World, W.heap[w.heap.size]? = some (.cells (vw [a0, b0, c0, d0, e0, f0, g0, h0]).toArray 105) → W.cell? ⟨w.heap.size, 0, none⟩ = some (.int .u32 a0) ∧ W.cell? ⟨w.heap.size, 1, none⟩ = some (.int .u32 b0) ∧ W.cell? ⟨w.heap.size, 2, none⟩ = some (.int .u32 c0) ∧ W.cell? ⟨w.heap.size, 3, none⟩ = some (.int .u32 d0) ∧ W.cell? ⟨w.heap.size, 4, none⟩ = some (.int .u32 e0) ∧ W.cell? ⟨w.heap.size, 5, none⟩ = some (.int .u32 f0) ∧ W.cell? ⟨w.heap.size, 6, none⟩ = some (.int .u32 g0) ∧ W.cell? ⟨w.heap.size, 7, none⟩ = some (.int .u32 h0)) := fun W h => ⟨cell_of_row _ _ _ _ _ _ h, cell_of_row _ _ _ _ _ _ h, cell_of_row _ _ _ _ _ _ h, cell_of_row _ _ _ _ _ _ h, cell_of_row _ _ _ _ _ _ h, cell_of_row _ _ _ _ _ _ h, cell_of_row _ _ _ _ _ _ h, cell_of_row _ _ _ _ _ _ h⟩
  go_wp2_with fail
  refine wp_region_held_drew (S := fun W => W.heap[w.heap.size]? = some (.cells (vw [a0, b0, c0, d0, e0, f0, g0, h0]).toArray 105)) (by kernel_rfl) HST3.out (fun hHeld => ?_)
  refine take_at (i := 0) (.pointer (some ⟨w.heap.size, 0, none⟩)) (some 21) (by decide) (by rfl) (by kernel_rfl) (by kernel_rfl) (by kernel_rfl) (fun _ _ _ h => h) (by rfl) (fun W hW => by go_simp) (by assumption) ?_
  try simp only [Act.put, List.setIfInBounds_toArray, List.set_cons_zero, List.set_cons_succ]
  refine take_at (i := 1) (.int .u32 a0) (some 22) (by decide) (by rfl) (by kernel_rfl) (by kernel_rfl) (by kernel_rfl) (fun _ _ _ h => h) (by rfl) (fun W hW => by obtain ⟨s0, s1, s2, s3, s4, s5, s6, s7⟩ := hcs.out W hW; go_simp) (by assumption) ?_
  try simp only [Act.put, List.setIfInBounds_toArray, List.set_cons_zero, List.set_cons_succ]
  refine take_at (i := 2) (.pointer (some ⟨w.heap.size, 1, none⟩)) (some 23) (by decide) (by rfl) (by kernel_rfl) (by kernel_rfl) (by kernel_rfl) (fun _ _ _ h => h) (by rfl) (fun W hW => by go_simp) (by assumption) ?_
  try simp only [Act.put, List.setIfInBounds_toArray, List.set_cons_zero, List.set_cons_succ]
  refine take_at (i := 3) (.int .u32 b0) (some 24) (by decide) (by rfl) (by kernel_rfl) (by kernel_rfl) (by kernel_rfl) (fun _ _ _ h => h) (by rfl) (fun W hW => by obtain ⟨s0, s1, s2, s3, s4, s5, s6, s7⟩ := hcs.out W hW; go_simp) (by assumption) ?_
  try simp only [Act.put, List.setIfInBounds_toArray, List.set_cons_zero, List.set_cons_succ]
  refine take_at (i := 4) (.pointer (some ⟨w.heap.size, 2, none⟩)) (some 25) (by decide) (by rfl) (by kernel_rfl) (by kernel_rfl) (by kernel_rfl) (fun _ _ _ h => h) (by rfl) (fun W hW => by go_simp) (by assumption) ?_
  try simp only [Act.put, List.setIfInBounds_toArray, List.set_cons_zero, List.set_cons_succ]
  refine take_at (i := 5) (.int .u32 c0) (some 26) (by decide) (by rfl) (by kernel_rfl) (by kernel_rfl) (by kernel_rfl) (fun _ _ _ h => h) (by rfl) (fun W hW => by obtain ⟨s0, s1, s2, s3, s4, s5, s6, s7⟩ := hcs.out W hW; go_simp) (by assumption) ?_
  try simp only [Act.put, List.setIfInBounds_toArray, List.set_cons_zero, List.set_cons_succ]
  refine take_at (i := 6) (.pointer (some ⟨w.heap.size, 3, none⟩)) (some 27) (by decide) (by rfl) (by kernel_rfl) (by kernel_rfl) (by kernel_rfl) (fun _ _ _ h => h) (by rfl) (fun W hW => by go_simp) (by assumption) ?_
  try simp only [Act.put, List.setIfInBounds_toArray, List.set_cons_zero, List.set_cons_succ]
  refine take_at (i := 7) (.int .u32 d0) (some 28) (by decide) (by rfl) (by kernel_rfl) (by kernel_rfl) (by kernel_rfl) (fun _ _ _ h => h) (by rfl) (fun W hW => by obtain ⟨s0, s1, s2, s3, s4, s5, s6, s7⟩ := hcs.out W hW; go_simp) (by assumption) ?_
  try simp only [Act.put, List.setIfInBounds_toArray, List.set_cons_zero, List.set_cons_succ]
  refine take_at (i := 8) (.pointer (some ⟨w.heap.size, 4, none⟩)) (some 29) (by decide) (by rfl) (by kernel_rfl) (by kernel_rfl) (by kernel_rfl) (fun _ _ _ h => h) (by rfl) (fun W hW => by go_simp) (by assumption) ?_
  try simp only [Act.put, List.setIfInBounds_toArray, List.set_cons_zero, List.set_cons_succ]
  refine take_at (i := 9) (.int .u32 e0) (some 30) (by decide) (by rfl) (by kernel_rfl) (by kernel_rfl) (by kernel_rfl) (fun _ _ _ h => h) (by rfl) (fun W hW => by obtain ⟨s0, s1, s2, s3, s4, s5, s6, s7⟩ := hcs.out W hW; go_simp) (by assumption) ?_
  try simp only [Act.put, List.setIfInBounds_toArray, List.set_cons_zero, List.set_cons_succ]
  refine take_at (i := 10) (.pointer (some ⟨w.heap.size, 5, none⟩)) (some 31) (by decide) (by rfl) (by kernel_rfl) (by kernel_rfl) (by kernel_rfl) (fun _ _ _ h => h) (by rfl) (fun W hW => by go_simp) (by assumption) ?_
  try simp only [Act.put, List.setIfInBounds_toArray, List.set_cons_zero, List.set_cons_succ]
  refine take_at (i := 11) (.int .u32 f0) (some 32) (by decide) (by rfl) (by kernel_rfl) (by kernel_rfl) (by kernel_rfl) (fun _ _ _ h => h) (by rfl) (fun W hW => by obtain ⟨s0, s1, s2, s3, s4, s5, s6, s7⟩ := hcs.out W hW; go_simp) (by assumption) ?_
  try simp only [Act.put, List.setIfInBounds_toArray, List.set_cons_zero, List.set_cons_succ]
  refine take_at (i := 12) (.pointer (some ⟨w.heap.size, 6, none⟩)) (some 33) (by decide) (by rfl) (by kernel_rfl) (by kernel_rfl) (by kernel_rfl) (fun _ _ _ h => h) (by rfl) (fun W hW => by go_simp) (by assumption) ?_
  try simp only [Act.put, List.setIfInBounds_toArray, List.set_cons_zero, List.set_cons_succ]
  refine take_at (i := 13) (.int .u32 g0) (some 34) (by decide) (by rfl) (by kernel_rfl) (by kernel_rfl) (by kernel_rfl) (fun _ _ _ h => h) (by rfl) (fun W hW => by obtain ⟨s0, s1, s2, s3, s4, s5, s6, s7⟩ := hcs.out W hW; go_simp) (by assumption) ?_
  try simp only [Act.put, List.setIfInBounds_toArray, List.set_cons_zero, List.set_cons_succ]
  refine take_at (i := 14) (.pointer (some ⟨w.heap.size, 7, none⟩)) (some 35) (by decide) (by rfl) (by kernel_rfl) (by kernel_rfl) (by kernel_rfl) (fun _ _ _ h => h) (by rfl) (fun W hW => by go_simp) (by assumption) ?_
  try simp only [Act.put, List.setIfInBounds_toArray, List.set_cons_zero, List.set_cons_succ]
  refine take_at (i := 15) (.int .u32 h0) (some 36) (by decide) (by rfl) (by kernel_rfl) (by kernel_rfl) (by kernel_rfl) (fun _ _ _ h => h) (by rfl) (fun W hW => by obtain ⟨s0, s1, s2, s3, s4, s5, s6, s7⟩ := hcs.out W hW; go_simp) (by assumption) ?_
  try simp only [Act.put, List.setIfInBounds_toArray, List.set_cons_zero, List.set_cons_succ]
  refine take_at (i := 16) (.int .u32 a0) (some 6) (by decide) (by rfl) (by kernel_rfl) (by kernel_rfl) (by kernel_rfl) (fun _ _ _ h => h) (by rfl) (fun W hW => by go_simp) (by assumption) ?_
  try simp only [Act.put, List.setIfInBounds_toArray, List.set_cons_zero, List.set_cons_succ]
  refine take_at (i := 17) (.int .u32 b0) (some 7) (by decide) (by rfl) (by kernel_rfl) (by kernel_rfl) (by kernel_rfl) (fun _ _ _ h => h) (by rfl) (fun W hW => by go_simp) (by assumption) ?_
  try simp only [Act.put, List.setIfInBounds_toArray, List.set_cons_zero, List.set_cons_succ]
  refine take_at (i := 18) (.int .u32 c0) (some 8) (by decide) (by rfl) (by kernel_rfl) (by kernel_rfl) (by kernel_rfl) (fun _ _ _ h => h) (by rfl) (fun W hW => by go_simp) (by assumption) ?_
  try simp only [Act.put, List.setIfInBounds_toArray, List.set_cons_zero, List.set_cons_succ]
  refine take_at (i := 19) (.int .u32 d0) (some 9) (by decide) (by rfl) (by kernel_rfl) (by kernel_rfl) (by kernel_rfl) (fun _ _ _ h => h) (by rfl) (fun W hW => by go_simp) (by assumption) ?_
  try simp only [Act.put, List.setIfInBounds_toArray, List.set_cons_zero, List.set_cons_succ]
  refine take_at (i := 20) (.int .u32 e0) (some 10) (by decide) (by rfl) (by kernel_rfl) (by kernel_rfl) (by kernel_rfl) (fun _ _ _ h => h) (by rfl) (fun W hW => by go_simp) (by assumption) ?_
  try simp only [Act.put, List.setIfInBounds_toArray, List.set_cons_zero, List.set_cons_succ]
  refine take_at (i := 21) (.int .u32 f0) (some 11) (by decide) (by rfl) (by kernel_rfl) (by kernel_rfl) (by kernel_rfl) (fun _ _ _ h => h) (by rfl) (fun W hW => by go_simp) (by assumption) ?_
  try simp only [Act.put, List.setIfInBounds_toArray, List.set_cons_zero, List.set_cons_succ]
  refine take_at (i := 22) (.int .u32 g0) (some 12) (by decide) (by rfl) (by kernel_rfl) (by kernel_rfl) (by kernel_rfl) (fun _ _ _ h => h) (by rfl) (fun W hW => by go_simp) (by assumption) ?_
  try simp only [Act.put, List.setIfInBounds_toArray, List.set_cons_zero, List.set_cons_succ]
  refine take_at (i := 23) (.int .u32 h0) (some 13) (by decide) (by rfl) (by kernel_rfl) (by kernel_rfl) (by kernel_rfl) (fun _ _ _ h => h) (by rfl) (fun W hW => by go_simp) (by assumption) ?_
  try simp only [Act.put, List.setIfInBounds_toArray, List.set_cons_zero, List.set_cons_succ]
  refine wpAnyH_done (by kernel_rfl) ?_ _
  try simp only [Act.put, List.setIfInBounds_toArray, List.set_cons_zero, List.set_cons_succ]
  obtain ⟨w4, hw4⟩ : ∃ v, w3.drew = v := ⟨_, rfl⟩
  have HW4 : Hid (w4.heap[bw]? = some (.cells (vw L).toArray 119)) := by rw [← hw4]; exact HW3.out
  have HST4 : Hid (w4.heap[w.heap.size]? = some (.cells (vw [a0, b0, c0, d0, e0, f0, g0, h0]).toArray 105)) := by rw [← hw4]; exact HST3.out
  have HRE4 : Hid (w4.heap[br]? = some (.cells (vw (zerw 8)).toArray 105)) := by rw [← hw4]; exact HRE3.out
  have HB4 : Hid (Below w.heap.size w w4) := by rw [← hw4]; exact HB3.out.drew
  rw [hw4]
  clear hw4 HW3 HST3 HRE3 HB3 hHeld hcs
  have i0 : W32 a0 ∧ W32 b0 ∧ W32 c0 ∧ W32 d0 ∧ W32 e0 ∧ W32 f0 ∧ W32 g0 ∧ W32 h0 := ⟨hsw _ (by simp), hsw _ (by simp), hsw _ (by simp), hsw _ (by simp), hsw _ (by simp), hsw _ (by simp), hsw _ (by simp), hsw _ (by simp)⟩
  go_wp2_with fail
  go_loopw [6, 7, 8, 9, 10, 11, 12, 13, 37] (fun va vb vc vd ve vf vg vh i wr => ∃ (k : Nat) (a b c d e f g h : Int), k ≤ 64 ∧ i = .int .i64 k ∧ va = .int .u32 a ∧ vb = .int .u32 b ∧ vc = .int .u32 c ∧ vd = .int .u32 d ∧ ve = .int .u32 e ∧ vf = .int .u32 f ∧ vg = .int .u32 g ∧ vh = .int .u32 h ∧ Hid (W32 a ∧ W32 b ∧ W32 c ∧ W32 d ∧ W32 e ∧ W32 f ∧ W32 g ∧ W32 h) ∧ Hid (wr.heap[bw]? = some (.cells (vw L).toArray 119)) ∧ Hid (wr.heap[w.heap.size]? = some (.cells (vw [a0, b0, c0, d0, e0, f0, g0, h0]).toArray 105)) ∧ Hid (wr.heap[br]? = some (.cells (vw (zerw 8)).toArray 105)) ∧ Hid (Below w.heap.size w wr)) (fun _ _ _ _ _ _ _ _ i _ => 64 - (intOf i).toNat)
  case atStart => exact ⟨0, a0, b0, c0, d0, e0, f0, g0, h0, by omega, rfl, rfl, rfl, rfl, rfl, rfl, rfl, rfl, rfl, i0, HW4, HST4, HRE4, HB4⟩
  case round =>
    clear HW4 HST4 HRE4 HB4 i0
    obtain ⟨k, a, b, c, d, e, f, g, h, hk, rfl, rfl, rfl, rfl, rfl, rfl, rfl, rfl, rfl, HI, HW, HST, HRE, HB⟩ := hrel
    by_cases hlt : k < 64
    · have hkL : k < L.length := by omega
      obtain ⟨hp0, Ks, hKs, hKc⟩ := HK.out
      have hkK : k < Ks.length := by omega
      have cw : Hid (∀ W : World, W.heap[bw]? = some (.cells (vw L).toArray 119) → W.cell? ⟨bw, k, none⟩ = some (.int .u32 L[k])) := fun W h => by rw [cell_of_row _ _ _ _ _ _ h, List.getElem?_toArray]; exact vw_at L k hkL
      have ck : Hid (∀ W : World, Below w.heap.size w W → W.cell? ⟨0, k, none⟩ = some (.int .u32 Ks[k])) := fun W h => (h.cell (p := ⟨0, k, none⟩) hp0).trans (hKc k hkK)
      generalize L[k] = y at cw
      generalize Ks[k] = x at ck
      have he := HI.out.2.2.2.2.1
      have ha := HI.out.1
      have HE := Lib.hid he
      have HA := Lib.hid ha
      have gk : (k : Int) < 64 := by omega
      clear he ha hKc hKs hkK hkL
      go_wp2_with fail
      refine wp_region_held_drew (S := fun W => W.heap[bw]? = some (.cells (vw L).toArray 119) ∧ Below w.heap.size w W) (by kernel_rfl) ⟨HW.out, HB.out.drew⟩ (fun hHeld => ?_)
      refine take_at (i := 0) (.int .u32 h) (some 40) (by decide) (by rfl) (by kernel_rfl) (by kernel_rfl) (by kernel_rfl) (fun _ _ _ h => h) (by rfl) (fun W hW => by go_simp) (by assumption) ?_
      try simp only [Act.put, List.setIfInBounds_toArray, List.set_cons_zero, List.set_cons_succ]
      refine take_at (i := 1) (.int .u32 e) (some 41) (by decide) (by rfl) (by kernel_rfl) (by kernel_rfl) (by kernel_rfl) (fun _ _ _ h => h) (by rfl) (fun W hW => by go_simp) (by assumption) ?_
      try simp only [Act.put, List.setIfInBounds_toArray, List.set_cons_zero, List.set_cons_succ]
      refine take_at (i := 3) (.int .u32 e) (some 43) (by decide) (by rfl) (by kernel_rfl) (by kernel_rfl) (by kernel_rfl) (fun _ _ _ h => h) (by rfl) (fun W hW => by go_simp) (by assumption) ?_
      try simp only [Act.put, List.setIfInBounds_toArray, List.set_cons_zero, List.set_cons_succ]
      refine take_at (i := 6) (.int .u32 e) (some 46) (by decide) (by rfl) (by kernel_rfl) (by kernel_rfl) (by kernel_rfl) (fun _ _ _ h => h) (by rfl) (fun W hW => by go_simp) (by assumption) ?_
      try simp only [Act.put, List.setIfInBounds_toArray, List.set_cons_zero, List.set_cons_succ]
      refine take_at (i := 10) (.int .u32 e) (some 50) (by decide) (by rfl) (by kernel_rfl) (by kernel_rfl) (by kernel_rfl) (fun _ _ _ h => h) (by rfl) (fun W hW => by go_simp) (by assumption) ?_
      try simp only [Act.put, List.setIfInBounds_toArray, List.set_cons_zero, List.set_cons_succ]
      refine take_at (i := 11) (.int .u32 f) (some 51) (by decide) (by rfl) (by kernel_rfl) (by kernel_rfl) (by kernel_rfl) (fun _ _ _ h => h) (by rfl) (fun W hW => by go_simp) (by assumption) ?_
      try simp only [Act.put, List.setIfInBounds_toArray, List.set_cons_zero, List.set_cons_succ]
      refine take_at (i := 12) (.int .u32 (bits .and .u32 e f)) (some 52) (by decide) (by rfl) (by kernel_rfl) (by kernel_rfl) (by kernel_rfl) (fun _ _ _ h => h) (by rfl) (fun W hW => by go_simp) (by assumption) ?_
      try simp only [Act.put, List.setIfInBounds_toArray, List.set_cons_zero, List.set_cons_succ]
      refine take_at (i := 13) (.int .u32 e) (some 53) (by decide) (by rfl) (by kernel_rfl) (by kernel_rfl) (by kernel_rfl) (fun _ _ _ h => h) (by rfl) (fun W hW => by go_simp) (by assumption) ?_
      try simp only [Act.put, List.setIfInBounds_toArray, List.set_cons_zero, List.set_cons_succ]
      refine take_at (i := 14) (.int .u32 (bits .xor .u32 4294967295 e)) (some 54) (by decide) (by rfl) (by kernel_rfl) (by kernel_rfl) (by kernel_rfl) (fun _ _ _ h => h) (by rfl) (fun W hW => by go_simp; rfl) (by assumption) ?_
      try simp only [Act.put, List.setIfInBounds_toArray, List.set_cons_zero, List.set_cons_succ]
      refine take_at (i := 15) (.int .u32 g) (some 55) (by decide) (by rfl) (by kernel_rfl) (by kernel_rfl) (by kernel_rfl) (fun _ _ _ h => h) (by rfl) (fun W hW => by go_simp) (by assumption) ?_
      try simp only [Act.put, List.setIfInBounds_toArray, List.set_cons_zero, List.set_cons_succ]
      refine take_at (i := 16) (.int .u32 (bits .and .u32 (bits .xor .u32 4294967295 e) g)) (some 56) (by decide) (by rfl) (by kernel_rfl) (by kernel_rfl) (by kernel_rfl) (fun _ _ _ h => h) (by rfl) (fun W hW => by go_simp) (by assumption) ?_
      try simp only [Act.put, List.setIfInBounds_toArray, List.set_cons_zero, List.set_cons_succ]
      refine take_at (i := 17) (.int .u32 (bits .xor .u32 (bits .and .u32 e f) (bits .and .u32 (bits .xor .u32 4294967295 e) g))) (some 57) (by decide) (by rfl) (by kernel_rfl) (by kernel_rfl) (by kernel_rfl) (fun _ _ _ h => h) (by rfl) (fun W hW => by go_simp) (by assumption) ?_
      try simp only [Act.put, List.setIfInBounds_toArray, List.set_cons_zero, List.set_cons_succ]
      refine take_at (i := 19) (.int .i64 (k : Int)) (some 59) (by decide) (by rfl) (by kernel_rfl) (by kernel_rfl) (by kernel_rfl) (fun _ _ _ h => h) (by rfl) (fun W hW => by go_simp) (by assumption) ?_
      try simp only [Act.put, List.setIfInBounds_toArray, List.set_cons_zero, List.set_cons_succ]
      refine take_at (i := 20) (.pointer (some ⟨0, k, none⟩)) (some 60) (by decide) (by rfl) (by kernel_rfl) (by kernel_rfl) (by kernel_rfl) (fun _ _ _ h => h) (by rfl) (fun W hW => by first | (go_simp; done) | (go_simp; intro h9; omega)) (by assumption) ?_
      try simp only [Act.put, List.setIfInBounds_toArray, List.set_cons_zero, List.set_cons_succ]
      refine take_at (i := 21) (.int .u32 x) (some 61) (by decide) (by rfl) (by kernel_rfl) (by kernel_rfl) (by kernel_rfl) (fun _ _ _ h => h) (by rfl) (fun W hW => by have h9 := ck.out W hW.2; go_simp) (by assumption) ?_
      try simp only [Act.put, List.setIfInBounds_toArray, List.set_cons_zero, List.set_cons_succ]
      refine take_at (i := 23) (.int .i64 (k : Int)) (some 63) (by decide) (by rfl) (by kernel_rfl) (by kernel_rfl) (by kernel_rfl) (fun _ _ _ h => h) (by rfl) (fun W hW => by go_simp) (by assumption) ?_
      try simp only [Act.put, List.setIfInBounds_toArray, List.set_cons_zero, List.set_cons_succ]
      refine take_at (i := 24) (.pointer (some ⟨bw, k, none⟩)) (some 64) (by decide) (by rfl) (by kernel_rfl) (by kernel_rfl) (by kernel_rfl) (fun _ _ _ h => h) (by rfl) (fun W hW => by first | (go_simp; done) | (go_simp; intro h9; omega)) (by assumption) ?_
      try simp only [Act.put, List.setIfInBounds_toArray, List.set_cons_zero, List.set_cons_succ]
      refine take_at (i := 25) (.int .u32 y) (some 65) (by decide) (by rfl) (by kernel_rfl) (by kernel_rfl) (by kernel_rfl) (fun _ _ _ h => h) (by rfl) (fun W hW => by have h9 := cw.out W hW.1; go_simp) (by assumption) ?_
      try simp only [Act.put, List.setIfInBounds_toArray, List.set_cons_zero, List.set_cons_succ]
      refine wpAnyH_ready (rs := [2]) (by kernel_rfl) (by simp) (AllReadyH.cons (Array.getElem?_eq_getElem (i := 2) (by decide)) (fun K9 hK => ?_) AllReadyH.nil)
      go_simp
      refine (turned_6 e _ HE.out).mono ?_
      rintro q9 w9 ⟨rfl, rfl⟩
      refine hK.out _ _ (hHeld) (fun hHeld => ?_)
      clear hK K9
      try simp only [Act.put, List.setIfInBounds_toArray, List.set_cons_zero, List.set_cons_succ]
      refine wpAnyH_ready (rs := [4]) (by kernel_rfl) (by simp) (AllReadyH.cons (Array.getElem?_eq_getElem (i := 4) (by decide)) (fun K9 hK => ?_) AllReadyH.nil)
      go_simp
      refine (turned_11 e _ HE.out).mono ?_
      rintro q9 w9 ⟨rfl, rfl⟩
      refine hK.out _ _ (hHeld) (fun hHeld => ?_)
      clear hK K9
      try simp only [Act.put, List.setIfInBounds_toArray, List.set_cons_zero, List.set_cons_succ]
      refine take_at (i := 5) (.int .u32 (bits .xor .u32 (rot e 67108864 64) (rot e 2097152 2048))) (some 45) (by decide) (by rfl) (by kernel_rfl) (by kernel_rfl) (by kernel_rfl) (fun _ _ _ h => h) (by rfl) (fun W hW => by go_simp) (by assumption) ?_
      try simp only [Act.put, List.setIfInBounds_toArray, List.set_cons_zero, List.set_cons_succ]
      refine wpAnyH_ready (rs := [7]) (by kernel_rfl) (by simp) (AllReadyH.cons (Array.getElem?_eq_getElem (i := 7) (by decide)) (fun K9 hK => ?_) AllReadyH.nil)
      go_simp
      refine (turned_25 e _ HE.out).mono ?_
      rintro q9 w9 ⟨rfl, rfl⟩
      refine hK.out _ _ (hHeld) (fun hHeld => ?_)
      clear hK K9
      try simp only [Act.put, List.setIfInBounds_toArray, List.set_cons_zero, List.set_cons_succ]
      refine take_at (i := 8) (.int .u32 (bits .xor .u32 (bits .xor .u32 (rot e 67108864 64) (rot e 2097152 2048)) (rot e 128 33554432))) (some 48) (by decide) (by rfl) (by kernel_rfl) (by kernel_rfl) (by kernel_rfl) (fun _ _ _ h => h) (by rfl) (fun W hW => by go_simp) (by assumption) ?_
      try simp only [Act.put, List.setIfInBounds_toArray, List.set_cons_zero, List.set_cons_succ]
      refine take_at (i := 9) (.int .u32 (IntKind.u32.wrap (h + bits .xor .u32 (bits .xor .u32 (rot e 67108864 64) (rot e 2097152 2048)) (rot e 128 33554432)))) (some 49) (by decide) (by rfl) (by kernel_rfl) (by kernel_rfl) (by kernel_rfl) (fun _ _ _ h => h) (by rfl) (fun W hW => by go_simp) (by assumption) ?_
      try simp only [Act.put, List.setIfInBounds_toArray, List.set_cons_zero, List.set_cons_succ]
      refine take_at (i := 18) (.int .u32 (IntKind.u32.wrap (IntKind.u32.wrap (h + bits .xor .u32 (bits .xor .u32 (rot e 67108864 64) (rot e 2097152 2048)) (rot e 128 33554432)) + bits .xor .u32 (bits .and .u32 e f) (bits .and .u32 (bits .xor .u32 4294967295 e) g)))) (some 58) (by decide) (by rfl) (by kernel_rfl) (by kernel_rfl) (by kernel_rfl) (fun _ _ _ h => h) (by rfl) (fun W hW => by go_simp) (by assumption) ?_
      try simp only [Act.put, List.setIfInBounds_toArray, List.set_cons_zero, List.set_cons_succ]
      refine take_at (i := 22) (.int .u32 (IntKind.u32.wrap (IntKind.u32.wrap (IntKind.u32.wrap (h + bits .xor .u32 (bits .xor .u32 (rot e 67108864 64) (rot e 2097152 2048)) (rot e 128 33554432)) + bits .xor .u32 (bits .and .u32 e f) (bits .and .u32 (bits .xor .u32 4294967295 e) g)) + x))) (some 62) (by decide) (by rfl) (by kernel_rfl) (by kernel_rfl) (by kernel_rfl) (fun _ _ _ h => h) (by rfl) (fun W hW => by go_simp) (by assumption) ?_
      try simp only [Act.put, List.setIfInBounds_toArray, List.set_cons_zero, List.set_cons_succ]
      refine take_at (i := 26) (.int .u32 (IntKind.u32.wrap (IntKind.u32.wrap (IntKind.u32.wrap (IntKind.u32.wrap (h + bits .xor .u32 (bits .xor .u32 (rot e 67108864 64) (rot e 2097152 2048)) (rot e 128 33554432)) + bits .xor .u32 (bits .and .u32 e f) (bits .and .u32 (bits .xor .u32 4294967295 e) g)) + x) + y))) (some 66) (by decide) (by rfl) (by kernel_rfl) (by kernel_rfl) (by kernel_rfl) (fun _ _ _ h => h) (by rfl) (fun W hW => by go_simp) (by assumption) ?_
      try simp only [Act.put, List.setIfInBounds_toArray, List.set_cons_zero, List.set_cons_succ]
      refine take_at (i := 27) (.int .u32 (IntKind.u32.wrap (IntKind.u32.wrap (IntKind.u32.wrap (IntKind.u32.wrap (h + bits .xor .u32 (bits .xor .u32 (rot e 67108864 64) (rot e 2097152 2048)) (rot e 128 33554432)) + bits .xor .u32 (bits .and .u32 e f) (bits .and .u32 (bits .xor .u32 4294967295 e) g)) + x) + y))) (some 15) (by decide) (by rfl) (by kernel_rfl) (by kernel_rfl) (by kernel_rfl) (fun _ _ _ h => h) (by rfl) (fun W hW => by go_simp) (by assumption) ?_
      try simp only [Act.put, List.setIfInBounds_toArray, List.set_cons_zero, List.set_cons_succ]
      refine wpAnyH_done (by kernel_rfl) ?_ _
      try simp only [Act.put, List.setIfInBounds_toArray, List.set_cons_zero, List.set_cons_succ]
      obtain ⟨p, hp⟩ : ∃ p, p = IntKind.u32.wrap (IntKind.u32.wrap (IntKind.u32.wrap (IntKind.u32.wrap (h + bits .xor .u32 (bits .xor .u32 (rot e 67108864 64) (rot e 2097152 2048)) (rot e 128 33554432)) + bits .xor .u32 (bits .and .u32 e f) (bits .and .u32 (bits .xor .u32 4294967295 e) g)) + x) + y) := ⟨_, rfl⟩
      rw [← hp]
      clear hp hHeld
      obtain ⟨w5, hw5⟩ : ∃ v, wr.drew = v := ⟨_, rfl⟩
      have HW5 : Hid (w5.heap[bw]? = some (.cells (vw L).toArray 119)) := by rw [← hw5]; exact HW.out
      have HST5 : Hid (w5.heap[w.heap.size]? = some (.cells (vw [a0, b0, c0, d0, e0, f0, g0, h0]).toArray 105)) := by rw [← hw5]; exact HST.out
      have HRE5 : Hid (w5.heap[br]? = some (.cells (vw (zerw 8)).toArray 105)) := by rw [← hw5]; exact HRE.out
      have HB5 : Hid (Below w.heap.size w w5) := by rw [← hw5]; exact HB.out.drew
      rw [hw5]
      clear hw5 HW HST HRE HB cw ck
      have ha0 := HA.out.1
      go_wp2_with (first
        | (refine (turned_2 a _ HA.out).mono ?_; rintro q9 w9 ⟨rfl, rfl⟩)
        | (refine (turned_13 a _ HA.out).mono ?_; rintro q9 w9 ⟨rfl, rfl⟩)
        | (refine (turned_22 a _ HA.out).mono ?_; rintro q9 w9 ⟨rfl, rfl⟩))
      go_roundw
      case rel => exact ⟨k + 1, _, a, b, c, _, e, f, g, by omega, by go_num, rfl, rfl, rfl, rfl, rfl, rfl, rfl, rfl, ⟨(by first | exact W32.mod _ | (rw [IntKind.wrap_u32']; exact W32.mod _)), HI.out.1, HI.out.2.1, HI.out.2.2.1, (by first | exact W32.mod _ | (rw [IntKind.wrap_u32']; exact W32.mod _)), HI.out.2.2.2.2.1, HI.out.2.2.2.2.2.1, HI.out.2.2.2.2.2.2.1⟩, HW5, HST5, HRE5, HB5⟩
      case measure => simp [intOf]; omega
    · have hk64 : k = 64 := by omega
      go_wp2_with fail
      go_loopw [109] (fun i wr => ∃ (k : Nat) (S : List Int), k ≤ 8 ∧ i = .int .i64 k ∧ S.length = 8 ∧ W32L S ∧ Hid (wr.heap[w.heap.size]? = some (.cells (vw S).toArray 105)) ∧ Hid (wr.heap[br]? = some (.cells (vw (zerw 8)).toArray 105)) ∧ Hid (Below w.heap.size w wr)) (fun i _ => 8 - (intOf i).toNat)
      case atStart => exact ⟨0, [a0, b0, c0, d0, e0, f0, g0, h0], by omega, rfl, rfl, hsw, HST, HRE, HB⟩
      case round =>
        clear HW HST HRE HB hlt hk hk64 HI
        obtain ⟨k, S, hk, rfl, hS, hSw, HST, HRE, HB⟩ := hrel
        by_cases hlt : k < 8
        · have hkS : k < S.length := by omega
          have cS : wr.cell? ⟨w.heap.size, k, none⟩ = some (.int .u32 S[k]) := by rw [cell_of_row _ _ _ _ _ _ HST.out, List.getElem?_toArray]; exact vw_at S k hkS
          have fS : wr.frozen? ⟨w.heap.size, k, none⟩ = false := frozen_of_row _ _ _ _ _ HST.out
          have hidx := index_w8 [a, b, c, d, e, f, g, h] k rfl (by simp; omega)
          rw [show (vw [a, b, c, d, e, f, g, h]).toArray = #[.int .u32 a, .int .u32 b, .int .u32 c, .int .u32 d, .int .u32 e, .int .u32 f, .int .u32 g, .int .u32 h] from rfl] at hidx
          generalize [a, b, c, d, e, f, g, h][k]'_ = y at hidx
          generalize S[k] = z at cS
          have HSS : Hid (∀ v, (wr.setCell ⟨w.heap.size, k, none⟩ (.int .u32 v)).heap[w.heap.size]? = some (.cells (vw (S.set k v)).toArray 105)) := fun v => by
            have h := heap_setCell_same wr w.heap.size k _ _ (.int .u32 v) HST.out
            rw [List.setIfInBounds_toArray, vw_set] at h
            exact h
          have HRR : Hid (∀ v, (wr.setCell ⟨w.heap.size, k, none⟩ (.int .u32 v)).heap[br]? = some (.cells (vw (zerw 8)).toArray 105)) := fun v => (Below.heap_setCell wr ⟨w.heap.size, k, none⟩ _ _ (by show br ≠ w.heap.size; omega)).trans HRE.out
          have HBB : Hid (∀ v, Below w.heap.size w (wr.setCell ⟨w.heap.size, k, none⟩ (.int .u32 v))) := fun v => HB.out.setCell (Nat.le_refl _) _
          go_wp2_with fail
          go_roundw
          case rel => exact ⟨k + 1, S.set k _, by omega, by go_num, by simp [hS], W32L.set hSw k _ (by first | exact W32.mod _ | (rw [IntKind.wrap_u32']; exact W32.mod _)), HSS.out _, HRR.out _, HBB.out _⟩
          case measure => simp [intOf]; omega
        · obtain rfl : k = 8 := by omega
          clear hlt hk
          go_wp2_with (first
            | (refine wpList_load_row rfl 105 _ rfl w.heap.size rfl 105 (vw S).toArray (0, 0) _ HST.out Tryd.underlying105 rfl (by rw [show (vw S).toArray.size = 8 by simp [vw_length, hS]]; exact cells_w8) ?_)
            | (refine wp_put_row cells_w8 rfl _ _ rfl br rfl rfl (by simp [vw_length, hS]) (vw_one S) (vw (zerw 8)).toArray (by simp [vw_length, zerw_length]) 105 HRE.out ?hK9))
          intro w9 h9 hg9
          have hb9 : Below w.heap.size w w9 := HB.out.grown hg9 (by have := HB.out.size; omega) (fun k hk => by injection hk with hk; omega)
          go_wp2_with fail
          exact bodyPost_ret (v := .agg (vw S).toArray) (results_cell_row Tryd.results76 _ w9 br 105 (vw S).toArray (0, 0) _ rfl h9 Tryd.underlying105 rfl (by rw [show (vw S).toArray.size = 8 by simp [vw_length, hS]]; exact cells_w8)) rfl ⟨S, hS, hSw, rfl, hb9⟩

end Go.Proofs.YthbahbcihaebeaaDoor.Cd

/-
  A state behind a block, told exactly: sha.mixed. Conditions: none.
-/
namespace Go.Proofs.YthbahbcihaebeaaDoor.Cd
open Go.RowKit

/-- Eight words. -/
structure Oct where
  a : Int
  b : Int
  c : Int
  d : Int
  e : Int
  f : Int
  g : Int
  h : Int
def Oct.list (o : Oct) : List Int := [o.a, o.b, o.c, o.d, o.e, o.f, o.g, o.h]
def s1f (e : Int) : Int := bits .xor .u32 (bits .xor .u32 (rot e 67108864 64) (rot e 2097152 2048)) (rot e 128 33554432)
def chf (e f g : Int) : Int := bits .xor .u32 (bits .and .u32 e f) (bits .and .u32 (bits .xor .u32 4294967295 e) g)
def pf (o : Oct) (x y : Int) : Int := IntKind.u32.wrap (IntKind.u32.wrap (IntKind.u32.wrap (IntKind.u32.wrap (o.h + s1f o.e) + chf o.e o.f o.g) + x) + y)
def qf (o : Oct) : Int := (bits .xor .u32 (bits .xor .u32 (rot o.a 1073741824 4) (rot o.a 524288 8192)) (rot o.a 1024 4194304) + bits .xor .u32 (bits .xor .u32 (bits .and .u32 o.a o.b) (bits .and .u32 o.a o.c)) (bits .and .u32 o.b o.c)) % 4294967296
/-- A round. -/
def rndO (o : Oct) (x y : Int) : Oct := ⟨(pf o x y + qf o) % 4294967296, o.a, o.b, o.c, (o.d + pf o x y) % 4294967296, o.e, o.f, o.g⟩
def rndsO (Ks L : List Int) (o : Oct) : Nat → Oct
  | 0 => o
  | k + 1 => rndO (rndsO Ks L o k) (Ks.getD k 0) (L.getD k 0)
/-- Words added one by one. -/
def addL (st X : List Int) : Nat → List Int
  | 0 => st
  | k + 1 => (addL st X k).set k (((addL st X k).getD k 0 + X.getD k 0) % 4294967296)
def octOf (st : List Int) : Oct := ⟨st.getD 0 0, st.getD 1 0, st.getD 2 0, st.getD 3 0, st.getD 4 0, st.getD 5 0, st.getD 6 0, st.getD 7 0⟩
/-- A state behind a block. -/
def mixP (Ks st : List Int) (blk : List UInt8) : List Int := addL st (rndsO Ks (schL blk 64) (octOf st) 64).list 8
/-- A fact that no unifier opens. -/
structure Kept (P : Prop) : Prop where
  out : P
/-- The rounds' numbers, told. -/
def KeysIs (Ks : List Int) (w : World) : Prop := 0 < w.heap.size ∧ Ks.length = 64 ∧ ∀ (j : Nat) (hj : j < Ks.length), w.cell? ⟨0, j, none⟩ = some (.int .u32 Ks[j])

set_option maxRecDepth 100000 in
set_option maxHeartbeats 3200000 in
theorem mixed_x (Ks st : List Int) (blk : List UInt8) (w : World) (hs : st.length = 8) (hsw : W32L st) (hb : blk.length = 64) (hk : KeysIs Ks w) :
    Calls Tryd.prog 76 #[.agg (vw st).toArray, .agg (vb blk).toArray] w fun e w' => (mixP Ks st blk).length = 8 ∧ W32L (mixP Ks st blk) ∧ e = .returned (.agg (vw (mixP Ks st blk)).toArray) ∧ Below w.heap.size w w' := by
  have HK := Lib.hid hk
  have HBL := Lib.hid hb
  have HS8 := Lib.hid hs
  have hb0 := (((Below.refl w.heap.size w).alloc (Nat.le_refl _) (.cells (vw st).toArray 105)).alloc (by simp) (.cells (vb blk).toArray 106)).alloc (by simp; omega) (.cells (vw (zerw 8)).toArray 105)
  have hst0 : (((w.alloc (.cells (vw st).toArray 105)).alloc (.cells (vb blk).toArray 106)).alloc (.cells (vw (zerw 8)).toArray 105)).heap[w.heap.size]? = some (.cells (vw st).toArray 105) :=
    (Below.heap_alloc _ _ _ (by simp; omega)).trans ((Below.heap_alloc _ _ _ (by simp)).trans (heap_alloc_new _ _))
  have hbl0 : (((w.alloc (.cells (vw st).toArray 105)).alloc (.cells (vb blk).toArray 106)).alloc (.cells (vw (zerw 8)).toArray 105)).heap[w.heap.size + 1]? = some (.cells (vb blk).toArray 106) := by
    have h := heap_alloc_new (w.alloc (.cells (vw st).toArray 105)) (.cells (vb blk).toArray 106)
    rw [asz] at h
    exact (Below.heap_alloc _ _ _ (by simp)).trans h
  have hre0 : (((w.alloc (.cells (vw st).toArray 105)).alloc (.cells (vb blk).toArray 106)).alloc (.cells (vw (zerw 8)).toArray 105)).heap[w.heap.size + 1 + 1]? = some (.cells (vw (zerw 8)).toArray 105) := by
    have h := heap_alloc_new ((w.alloc (.cells (vw st).toArray 105)).alloc (.cells (vb blk).toArray 106)) (.cells (vw (zerw 8)).toArray 105)
    rw [asz, asz] at h
    exact h
  have hsz0 : (((w.alloc (.cells (vw st).toArray 105)).alloc (.cells (vb blk).toArray 106)).alloc (.cells (vw (zerw 8)).toArray 105)).heap.size = w.heap.size + 3 := by simp
  go_enter Tryd.func76, Tryd.ntmps76
  iterate 11 (try first | (refine wp_box_row rfl _ rfl rfl ?_) | (refine wp_alloc_row zero_w8 rfl rfl ?_) | go_values | go_skip | go_guarded | go_step)
  simp only [Act.put, List.setIfInBounds_toArray, List.set_cons_zero, List.set_cons_succ, asz]
  refine wpList_load_row rfl 106 _ rfl (w.heap.size + 1) rfl 106 (vb blk).toArray (0, 0) _ hbl0 Tryd.underlying106 rfl (by rw [vb_size, HBL.out]; exact cells_b64) ?_
  go_wp2_with fail
  generalize ((w.alloc (.cells (vw st).toArray 105)).alloc (.cells (vb blk).toArray 106)).alloc (.cells (vw (zerw 8)).toArray 105) = w1 at hb0 hst0 hbl0 hre0 hsz0 ⊢
  generalize hbr : w.heap.size + 1 + 1 = br at hre0 ⊢
  have hs1 : w.heap.size + 3 ≤ w1.heap.size := by omega
  have HB1 := Lib.hid hb0
  have HST1 := Lib.hid hst0
  have HRE1 := Lib.hid hre0
  clear hb0 hst0 hbl0 hre0 hsz0
  refine (sched_x blk w1 HBL.out).mono ?_
  rintro e w2 ⟨hLw, rfl, hb2⟩
  have hL := schL_length blk 64
  obtain ⟨L, hLe⟩ : ∃ L, schL blk 64 = L := ⟨_, rfl⟩
  rw [hLe] at hLw hL ⊢
  have HLE : Kept (schL blk 64 = L) := ⟨hLe⟩
  clear hLe
  have hs2 := hb2.size
  have HB2 := Lib.hid (HB1.out.trans (hb2.mono (by omega)))
  have HST2 : Hid (w2.heap[w.heap.size]? = some (.cells (vw st).toArray 105)) := (hb2.block _ (by omega)).trans HST1.out
  have HRE2 : Hid (w2.heap[br]? = some (.cells (vw (zerw 8)).toArray 105)) := (hb2.block _ (by omega)).trans HRE1.out
  clear hb2 HB1 HST1 HRE1
  have hw3 := heap_alloc_new w2 (.cells (vw L).toArray 119)
  have hst3 : (w2.alloc (.cells (vw L).toArray 119)).heap[w.heap.size]? = some (.cells (vw st).toArray 105) := (Below.heap_alloc _ _ _ (by omega)).trans HST2.out
  have hre3 : (w2.alloc (.cells (vw L).toArray 119)).heap[br]? = some (.cells (vw (zerw 8)).toArray 105) := (Below.heap_alloc _ _ _ (by omega)).trans HRE2.out
  have hb3 := HB2.out.alloc (by omega) (.cells (vw L).toArray 119)
  clear HST2 HRE2 HB2
  try dsimp only
  iterate 14 (try first | go_values | go_skip | go_guarded | (refine wp_alloc_row zero_w64 rfl rfl ?_) | (refine wp_fill_row cells_w64 rfl _ _ rfl (vw (zerw 64)).toArray (by simp [vw_length, zerw_length]) 119 rfl rfl (by simp [vw_length, hL]) (vw_one L) ?_) | go_step | go_upon)
  generalize w2.alloc (.cells (vw L).toArray 119) = w3 at hw3 hst3 hre3 hb3 ⊢
  generalize hbw : w2.heap.size = bw at hw3 ⊢
  have HW3 := Lib.hid hw3
  have HST3 := Lib.hid hst3
  have HRE3 := Lib.hid hre3
  have HB3 := Lib.hid hb3
  clear hw3 hst3 hre3 hb3
  have hbwl : w.heap.size + 3 ≤ bw := by omega
  obtain ⟨a0, b0, c0, d0, e0, f0, g0, h0, rfl⟩ : ∃ a b c d e f g h, st = [a, b, c, d, e, f, g, h] := by
    match st, hs with
    | [a, b, c, d, e, f, g, h], _ => exact ⟨a, b, c, d, e, f, g, h, rfl⟩
  have hcs : Hid (∀ W : World, W.heap[w.heap.size]? = some (.cells (vw [a0, b0, c0, d0, e0, f0, g0, h0]).toArray 105) → W.cell? ⟨w.heap.size, 0, none⟩ = some (.int .u32 a0) ∧ W.cell? ⟨w.heap.size, 1, none⟩ = some (.int .u32 b0) ∧ W.cell? ⟨w.heap.size, 2, none⟩ = some (.int .u32 c0) ∧ W.cell? ⟨w.heap.size, 3, none⟩ = some (.int .u32 d0) ∧ W.cell? ⟨w.heap.size, 4, none⟩ = some (.int .u32 e0) ∧ W.cell? ⟨w.heap.size, 5, none⟩ = some (.int .u32 f0) ∧ W.cell? ⟨w.heap.size, 6, none⟩ = some (.int .u32 g0) ∧ W.cell? ⟨w.heap.size, 7, none⟩ = some (.int .u32 h0)) := fun W h => ⟨cell_of_row _ _ _ _ _ _ h, cell_of_row _ _ _ _ _ _ h, cell_of_row _ _ _ _ _ _ h, cell_of_row _ _ _ _ _ _ h, cell_of_row _ _ _ _ _ _ h, cell_of_row _ _ _ _ _ _ h, cell_of_row _ _ _ _ _ _ h, cell_of_row _ _ _ _ _ _ h⟩
  go_wp2_with fail
  refine wp_region_held_drew (S := fun W => W.heap[w.heap.size]? = some (.cells (vw [a0, b0, c0, d0, e0, f0, g0, h0]).toArray 105)) (by kernel_rfl) HST3.out (fun hHeld => ?_)
  refine take_at (i := 0) (.pointer (some ⟨w.heap.size, 0, none⟩)) (some 21) (by decide) (by rfl) (by kernel_rfl) (by kernel_rfl) (by kernel_rfl) (fun _ _ _ h => h) (by rfl) (fun W hW => by go_simp) (by assumption) ?_
  try simp only [Act.put, List.setIfInBounds_toArray, List.set_cons_zero, List.set_cons_succ]
  refine take_at (i := 1) (.int .u32 a0) (some 22) (by decide) (by rfl) (by kernel_rfl) (by kernel_rfl) (by kernel_rfl) (fun _ _ _ h => h) (by rfl) (fun W hW => by obtain ⟨s0, s1, s2, s3, s4, s5, s6, s7⟩ := hcs.out W hW; go_simp) (by assumption) ?_
  try simp only [Act.put, List.setIfInBounds_toArray, List.set_cons_zero, List.set_cons_succ]
  refine take_at (i := 2) (.pointer (some ⟨w.heap.size, 1, none⟩)) (some 23) (by decide) (by rfl) (by kernel_rfl) (by kernel_rfl) (by kernel_rfl) (fun _ _ _ h => h) (by rfl) (fun W hW => by go_simp) (by assumption) ?_
  try simp only [Act.put, List.setIfInBounds_toArray, List.set_cons_zero, List.set_cons_succ]
  refine take_at (i := 3) (.int .u32 b0) (some 24) (by decide) (by rfl) (by kernel_rfl) (by kernel_rfl) (by kernel_rfl) (fun _ _ _ h => h) (by rfl) (fun W hW => by obtain ⟨s0, s1, s2, s3, s4, s5, s6, s7⟩ := hcs.out W hW; go_simp) (by assumption) ?_
  try simp only [Act.put, List.setIfInBounds_toArray, List.set_cons_zero, List.set_cons_succ]
  refine take_at (i := 4) (.pointer (some ⟨w.heap.size, 2, none⟩)) (some 25) (by decide) (by rfl) (by kernel_rfl) (by kernel_rfl) (by kernel_rfl) (fun _ _ _ h => h) (by rfl) (fun W hW => by go_simp) (by assumption) ?_
  try simp only [Act.put, List.setIfInBounds_toArray, List.set_cons_zero, List.set_cons_succ]
  refine take_at (i := 5) (.int .u32 c0) (some 26) (by decide) (by rfl) (by kernel_rfl) (by kernel_rfl) (by kernel_rfl) (fun _ _ _ h => h) (by rfl) (fun W hW => by obtain ⟨s0, s1, s2, s3, s4, s5, s6, s7⟩ := hcs.out W hW; go_simp) (by assumption) ?_
  try simp only [Act.put, List.setIfInBounds_toArray, List.set_cons_zero, List.set_cons_succ]
  refine take_at (i := 6) (.pointer (some ⟨w.heap.size, 3, none⟩)) (some 27) (by decide) (by rfl) (by kernel_rfl) (by kernel_rfl) (by kernel_rfl) (fun _ _ _ h => h) (by rfl) (fun W hW => by go_simp) (by assumption) ?_
  try simp only [Act.put, List.setIfInBounds_toArray, List.set_cons_zero, List.set_cons_succ]
  refine take_at (i := 7) (.int .u32 d0) (some 28) (by decide) (by rfl) (by kernel_rfl) (by kernel_rfl) (by kernel_rfl) (fun _ _ _ h => h) (by rfl) (fun W hW => by obtain ⟨s0, s1, s2, s3, s4, s5, s6, s7⟩ := hcs.out W hW; go_simp) (by assumption) ?_
  try simp only [Act.put, List.setIfInBounds_toArray, List.set_cons_zero, List.set_cons_succ]
  refine take_at (i := 8) (.pointer (some ⟨w.heap.size, 4, none⟩)) (some 29) (by decide) (by rfl) (by kernel_rfl) (by kernel_rfl) (by kernel_rfl) (fun _ _ _ h => h) (by rfl) (fun W hW => by go_simp) (by assumption) ?_
  try simp only [Act.put, List.setIfInBounds_toArray, List.set_cons_zero, List.set_cons_succ]
  refine take_at (i := 9) (.int .u32 e0) (some 30) (by decide) (by rfl) (by kernel_rfl) (by kernel_rfl) (by kernel_rfl) (fun _ _ _ h => h) (by rfl) (fun W hW => by obtain ⟨s0, s1, s2, s3, s4, s5, s6, s7⟩ := hcs.out W hW; go_simp) (by assumption) ?_
  try simp only [Act.put, List.setIfInBounds_toArray, List.set_cons_zero, List.set_cons_succ]
  refine take_at (i := 10) (.pointer (some ⟨w.heap.size, 5, none⟩)) (some 31) (by decide) (by rfl) (by kernel_rfl) (by kernel_rfl) (by kernel_rfl) (fun _ _ _ h => h) (by rfl) (fun W hW => by go_simp) (by assumption) ?_
  try simp only [Act.put, List.setIfInBounds_toArray, List.set_cons_zero, List.set_cons_succ]
  refine take_at (i := 11) (.int .u32 f0) (some 32) (by decide) (by rfl) (by kernel_rfl) (by kernel_rfl) (by kernel_rfl) (fun _ _ _ h => h) (by rfl) (fun W hW => by obtain ⟨s0, s1, s2, s3, s4, s5, s6, s7⟩ := hcs.out W hW; go_simp) (by assumption) ?_
  try simp only [Act.put, List.setIfInBounds_toArray, List.set_cons_zero, List.set_cons_succ]
  refine take_at (i := 12) (.pointer (some ⟨w.heap.size, 6, none⟩)) (some 33) (by decide) (by rfl) (by kernel_rfl) (by kernel_rfl) (by kernel_rfl) (fun _ _ _ h => h) (by rfl) (fun W hW => by go_simp) (by assumption) ?_
  try simp only [Act.put, List.setIfInBounds_toArray, List.set_cons_zero, List.set_cons_succ]
  refine take_at (i := 13) (.int .u32 g0) (some 34) (by decide) (by rfl) (by kernel_rfl) (by kernel_rfl) (by kernel_rfl) (fun _ _ _ h => h) (by rfl) (fun W hW => by obtain ⟨s0, s1, s2, s3, s4, s5, s6, s7⟩ := hcs.out W hW; go_simp) (by assumption) ?_
  try simp only [Act.put, List.setIfInBounds_toArray, List.set_cons_zero, List.set_cons_succ]
  refine take_at (i := 14) (.pointer (some ⟨w.heap.size, 7, none⟩)) (some 35) (by decide) (by rfl) (by kernel_rfl) (by kernel_rfl) (by kernel_rfl) (fun _ _ _ h => h) (by rfl) (fun W hW => by go_simp) (by assumption) ?_
  try simp only [Act.put, List.setIfInBounds_toArray, List.set_cons_zero, List.set_cons_succ]
  refine take_at (i := 15) (.int .u32 h0) (some 36) (by decide) (by rfl) (by kernel_rfl) (by kernel_rfl) (by kernel_rfl) (fun _ _ _ h => h) (by rfl) (fun W hW => by obtain ⟨s0, s1, s2, s3, s4, s5, s6, s7⟩ := hcs.out W hW; go_simp) (by assumption) ?_
  try simp only [Act.put, List.setIfInBounds_toArray, List.set_cons_zero, List.set_cons_succ]
  refine take_at (i := 16) (.int .u32 a0) (some 6) (by decide) (by rfl) (by kernel_rfl) (by kernel_rfl) (by kernel_rfl) (fun _ _ _ h => h) (by rfl) (fun W hW => by go_simp) (by assumption) ?_
  try simp only [Act.put, List.setIfInBounds_toArray, List.set_cons_zero, List.set_cons_succ]
  refine take_at (i := 17) (.int .u32 b0) (some 7) (by decide) (by rfl) (by kernel_rfl) (by kernel_rfl) (by kernel_rfl) (fun _ _ _ h => h) (by rfl) (fun W hW => by go_simp) (by assumption) ?_
  try simp only [Act.put, List.setIfInBounds_toArray, List.set_cons_zero, List.set_cons_succ]
  refine take_at (i := 18) (.int .u32 c0) (some 8) (by decide) (by rfl) (by kernel_rfl) (by kernel_rfl) (by kernel_rfl) (fun _ _ _ h => h) (by rfl) (fun W hW => by go_simp) (by assumption) ?_
  try simp only [Act.put, List.setIfInBounds_toArray, List.set_cons_zero, List.set_cons_succ]
  refine take_at (i := 19) (.int .u32 d0) (some 9) (by decide) (by rfl) (by kernel_rfl) (by kernel_rfl) (by kernel_rfl) (fun _ _ _ h => h) (by rfl) (fun W hW => by go_simp) (by assumption) ?_
  try simp only [Act.put, List.setIfInBounds_toArray, List.set_cons_zero, List.set_cons_succ]
  refine take_at (i := 20) (.int .u32 e0) (some 10) (by decide) (by rfl) (by kernel_rfl) (by kernel_rfl) (by kernel_rfl) (fun _ _ _ h => h) (by rfl) (fun W hW => by go_simp) (by assumption) ?_
  try simp only [Act.put, List.setIfInBounds_toArray, List.set_cons_zero, List.set_cons_succ]
  refine take_at (i := 21) (.int .u32 f0) (some 11) (by decide) (by rfl) (by kernel_rfl) (by kernel_rfl) (by kernel_rfl) (fun _ _ _ h => h) (by rfl) (fun W hW => by go_simp) (by assumption) ?_
  try simp only [Act.put, List.setIfInBounds_toArray, List.set_cons_zero, List.set_cons_succ]
  refine take_at (i := 22) (.int .u32 g0) (some 12) (by decide) (by rfl) (by kernel_rfl) (by kernel_rfl) (by kernel_rfl) (fun _ _ _ h => h) (by rfl) (fun W hW => by go_simp) (by assumption) ?_
  try simp only [Act.put, List.setIfInBounds_toArray, List.set_cons_zero, List.set_cons_succ]
  refine take_at (i := 23) (.int .u32 h0) (some 13) (by decide) (by rfl) (by kernel_rfl) (by kernel_rfl) (by kernel_rfl) (fun _ _ _ h => h) (by rfl) (fun W hW => by go_simp) (by assumption) ?_
  try simp only [Act.put, List.setIfInBounds_toArray, List.set_cons_zero, List.set_cons_succ]
  refine wpAnyH_done (by kernel_rfl) ?_ _
  try simp only [Act.put, List.setIfInBounds_toArray, List.set_cons_zero, List.set_cons_succ]
  obtain ⟨w4, hw4⟩ : ∃ v, w3.drew = v := ⟨_, rfl⟩
  have HW4 : Hid (w4.heap[bw]? = some (.cells (vw L).toArray 119)) := by rw [← hw4]; exact HW3.out
  have HST4 : Hid (w4.heap[w.heap.size]? = some (.cells (vw [a0, b0, c0, d0, e0, f0, g0, h0]).toArray 105)) := by rw [← hw4]; exact HST3.out
  have HRE4 : Hid (w4.heap[br]? = some (.cells (vw (zerw 8)).toArray 105)) := by rw [← hw4]; exact HRE3.out
  have HB4 : Hid (Below w.heap.size w w4) := by rw [← hw4]; exact HB3.out.drew
  rw [hw4]
  clear hw4 HW3 HST3 HRE3 HB3 hHeld hcs
  have i0 : W32 a0 ∧ W32 b0 ∧ W32 c0 ∧ W32 d0 ∧ W32 e0 ∧ W32 f0 ∧ W32 g0 ∧ W32 h0 := ⟨hsw _ (by simp), hsw _ (by simp), hsw _ (by simp), hsw _ (by simp), hsw _ (by simp), hsw _ (by simp), hsw _ (by simp), hsw _ (by simp)⟩
  go_wp2_with fail
  go_loopw [6, 7, 8, 9, 10, 11, 12, 13, 37] (fun va vb vc vd ve vf vg vh i wr => ∃ (k : Nat) (a b c d e f g h : Int), k ≤ 64 ∧ i = .int .i64 k ∧ Hid ((⟨a, b, c, d, e, f, g, h⟩ : Oct) = rndsO Ks L ⟨a0, b0, c0, d0, e0, f0, g0, h0⟩ k) ∧ va = .int .u32 a ∧ vb = .int .u32 b ∧ vc = .int .u32 c ∧ vd = .int .u32 d ∧ ve = .int .u32 e ∧ vf = .int .u32 f ∧ vg = .int .u32 g ∧ vh = .int .u32 h ∧ Hid (W32 a ∧ W32 b ∧ W32 c ∧ W32 d ∧ W32 e ∧ W32 f ∧ W32 g ∧ W32 h) ∧ Hid (wr.heap[bw]? = some (.cells (vw L).toArray 119)) ∧ Hid (wr.heap[w.heap.size]? = some (.cells (vw [a0, b0, c0, d0, e0, f0, g0, h0]).toArray 105)) ∧ Hid (wr.heap[br]? = some (.cells (vw (zerw 8)).toArray 105)) ∧ Hid (Below w.heap.size w wr)) (fun _ _ _ _ _ _ _ _ i _ => 64 - (intOf i).toNat)
  case atStart => exact ⟨0, a0, b0, c0, d0, e0, f0, g0, h0, by omega, rfl, rfl, rfl, rfl, rfl, rfl, rfl, rfl, rfl, rfl, i0, HW4, HST4, HRE4, HB4⟩
  case round =>
    clear HW4 HST4 HRE4 HB4 i0
    obtain ⟨k, a, b, c, d, e, f, g, h, hk, rfl, HOE, rfl, rfl, rfl, rfl, rfl, rfl, rfl, rfl, HI, HW, HST, HRE, HB⟩ := hrel
    by_cases hlt : k < 64
    · have hkL : k < L.length := by omega
      obtain ⟨hp0, hKs, hKc⟩ := HK.out
      have hkK : k < Ks.length := by omega
      have cw : Hid (∀ W : World, W.heap[bw]? = some (.cells (vw L).toArray 119) → W.cell? ⟨bw, k, none⟩ = some (.int .u32 L[k])) := fun W h => by rw [cell_of_row _ _ _ _ _ _ h, List.getElem?_toArray]; exact vw_at L k hkL
      have ck : Hid (∀ W : World, Below w.heap.size w W → W.cell? ⟨0, k, none⟩ = some (.int .u32 Ks[k])) := fun W h => (h.cell (p := ⟨0, k, none⟩) hp0).trans (hKc k hkK)
      have gy : L.getD k 0 = L[k] := by rw [List.getD_eq_getElem?_getD, List.getElem?_eq_getElem hkL]; rfl
      have gx : Ks.getD k 0 = Ks[k] := by rw [List.getD_eq_getElem?_getD, List.getElem?_eq_getElem hkK]; rfl
      generalize L[k] = y at cw gy
      generalize Ks[k] = x at ck gx
      have GX := Lib.hid gx
      have GY := Lib.hid gy
      clear gx gy
      have he := HI.out.2.2.2.2.1
      have ha := HI.out.1
      have HE := Lib.hid he
      have HA := Lib.hid ha
      have gk : (k : Int) < 64 := by omega
      clear he ha hKc hKs hkK hkL
      go_wp2_with fail
      refine wp_region_held_drew (S := fun W => W.heap[bw]? = some (.cells (vw L).toArray 119) ∧ Below w.heap.size w W) (by kernel_rfl) ⟨HW.out, HB.out.drew⟩ (fun hHeld => ?_)
      refine take_at (i := 0) (.int .u32 h) (some 40) (by decide) (by rfl) (by kernel_rfl) (by kernel_rfl) (by kernel_rfl) (fun _ _ _ h => h) (by rfl) (fun W hW => by go_simp) (by assumption) ?_
      try simp only [Act.put, List.setIfInBounds_toArray, List.set_cons_zero, List.set_cons_succ]
      refine take_at (i := 1) (.int .u32 e) (some 41) (by decide) (by rfl) (by kernel_rfl) (by kernel_rfl) (by kernel_rfl) (fun _ _ _ h => h) (by rfl) (fun W hW => by go_simp) (by assumption) ?_
      try simp only [Act.put, List.setIfInBounds_toArray, List.set_cons_zero, List.set_cons_succ]
      refine take_at (i := 3) (.int .u32 e) (some 43) (by decide) (by rfl) (by kernel_rfl) (by kernel_rfl) (by kernel_rfl) (fun _ _ _ h => h) (by rfl) (fun W hW => by go_simp) (by assumption) ?_
      try simp only [Act.put, List.setIfInBounds_toArray, List.set_cons_zero, List.set_cons_succ]
      refine take_at (i := 6) (.int .u32 e) (some 46) (by decide) (by rfl) (by kernel_rfl) (by kernel_rfl) (by kernel_rfl) (fun _ _ _ h => h) (by rfl) (fun W hW => by go_simp) (by assumption) ?_
      try simp only [Act.put, List.setIfInBounds_toArray, List.set_cons_zero, List.set_cons_succ]
      refine take_at (i := 10) (.int .u32 e) (some 50) (by decide) (by rfl) (by kernel_rfl) (by kernel_rfl) (by kernel_rfl) (fun _ _ _ h => h) (by rfl) (fun W hW => by go_simp) (by assumption) ?_
      try simp only [Act.put, List.setIfInBounds_toArray, List.set_cons_zero, List.set_cons_succ]
      refine take_at (i := 11) (.int .u32 f) (some 51) (by decide) (by rfl) (by kernel_rfl) (by kernel_rfl) (by kernel_rfl) (fun _ _ _ h => h) (by rfl) (fun W hW => by go_simp) (by assumption) ?_
      try simp only [Act.put, List.setIfInBounds_toArray, List.set_cons_zero, List.set_cons_succ]
      refine take_at (i := 12) (.int .u32 (bits .and .u32 e f)) (some 52) (by decide) (by rfl) (by kernel_rfl) (by kernel_rfl) (by kernel_rfl) (fun _ _ _ h => h) (by rfl) (fun W hW => by go_simp) (by assumption) ?_
      try simp only [Act.put, List.setIfInBounds_toArray, List.set_cons_zero, List.set_cons_succ]
      refine take_at (i := 13) (.int .u32 e) (some 53) (by decide) (by rfl) (by kernel_rfl) (by kernel_rfl) (by kernel_rfl) (fun _ _ _ h => h) (by rfl) (fun W hW => by go_simp) (by assumption) ?_
      try simp only [Act.put, List.setIfInBounds_toArray, List.set_cons_zero, List.set_cons_succ]
      refine take_at (i := 14) (.int .u32 (bits .xor .u32 4294967295 e)) (some 54) (by decide) (by rfl) (by kernel_rfl) (by kernel_rfl) (by kernel_rfl) (fun _ _ _ h => h) (by rfl) (fun W hW => by go_simp; rfl) (by assumption) ?_
      try simp only [Act.put, List.setIfInBounds_toArray, List.set_cons_zero, List.set_cons_succ]
      refine take_at (i := 15) (.int .u32 g) (some 55) (by decide) (by rfl) (by kernel_rfl) (by kernel_rfl) (by kernel_rfl) (fun _ _ _ h => h) (by rfl) (fun W hW => by go_simp) (by assumption) ?_
      try simp only [Act.put, List.setIfInBounds_toArray, List.set_cons_zero, List.set_cons_succ]
      refine take_at (i := 16) (.int .u32 (bits .and .u32 (bits .xor .u32 4294967295 e) g)) (some 56) (by decide) (by rfl) (by kernel_rfl) (by kernel_rfl) (by kernel_rfl) (fun _ _ _ h => h) (by rfl) (fun W hW => by go_simp) (by assumption) ?_
      try simp only [Act.put, List.setIfInBounds_toArray, List.set_cons_zero, List.set_cons_succ]
      refine take_at (i := 17) (.int .u32 (bits .xor .u32 (bits .and .u32 e f) (bits .and .u32 (bits .xor .u32 4294967295 e) g))) (some 57) (by decide) (by rfl) (by kernel_rfl) (by kernel_rfl) (by kernel_rfl) (fun _ _ _ h => h) (by rfl) (fun W hW => by go_simp) (by assumption) ?_
      try simp only [Act.put, List.setIfInBounds_toArray, List.set_cons_zero, List.set_cons_succ]
      refine take_at (i := 19) (.int .i64 (k : Int)) (some 59) (by decide) (by rfl) (by kernel_rfl) (by kernel_rfl) (by kernel_rfl) (fun _ _ _ h => h) (by rfl) (fun W hW => by go_simp) (by assumption) ?_
      try simp only [Act.put, List.setIfInBounds_toArray, List.set_cons_zero, List.set_cons_succ]
      refine take_at (i := 20) (.pointer (some ⟨0, k, none⟩)) (some 60) (by decide) (by rfl) (by kernel_rfl) (by kernel_rfl) (by kernel_rfl) (fun _ _ _ h => h) (by rfl) (fun W hW => by first | (go_simp; done) | (go_simp; intro h9; omega)) (by assumption) ?_
      try simp only [Act.put, List.setIfInBounds_toArray, List.set_cons_zero, List.set_cons_succ]
      refine take_at (i := 21) (.int .u32 x) (some 61) (by decide) (by rfl) (by kernel_rfl) (by kernel_rfl) (by kernel_rfl) (fun _ _ _ h => h) (by rfl) (fun W hW => by have h9 := ck.out W hW.2; go_simp) (by assumption) ?_
      try simp only [Act.put, List.setIfInBounds_toArray, List.set_cons_zero, List.set_cons_succ]
      refine take_at (i := 23) (.int .i64 (k : Int)) (some 63) (by decide) (by rfl) (by kernel_rfl) (by kernel_rfl) (by kernel_rfl) (fun _ _ _ h => h) (by rfl) (fun W hW => by go_simp) (by assumption) ?_
      try simp only [Act.put, List.setIfInBounds_toArray, List.set_cons_zero, List.set_cons_succ]
      refine take_at (i := 24) (.pointer (some ⟨bw, k, none⟩)) (some 64) (by decide) (by rfl) (by kernel_rfl) (by kernel_rfl) (by kernel_rfl) (fun _ _ _ h => h) (by rfl) (fun W hW => by first | (go_simp; done) | (go_simp; intro h9; omega)) (by assumption) ?_
      try simp only [Act.put, List.setIfInBounds_toArray, List.set_cons_zero, List.set_cons_succ]
      refine take_at (i := 25) (.int .u32 y) (some 65) (by decide) (by rfl) (by kernel_rfl) (by kernel_rfl) (by kernel_rfl) (fun _ _ _ h => h) (by rfl) (fun W hW => by have h9 := cw.out W hW.1; go_simp) (by assumption) ?_
      try simp only [Act.put, List.setIfInBounds_toArray, List.set_cons_zero, List.set_cons_succ]
      refine wpAnyH_ready (rs := [2]) (by kernel_rfl) (by simp) (AllReadyH.cons (Array.getElem?_eq_getElem (i := 2) (by decide)) (fun K9 hK => ?_) AllReadyH.nil)
      go_simp
      refine (turned_6 e _ HE.out).mono ?_
      rintro q9 w9 ⟨rfl, rfl⟩
      refine hK.out _ _ (hHeld) (fun hHeld => ?_)
      clear hK K9
      try simp only [Act.put, List.setIfInBounds_toArray, List.set_cons_zero, List.set_cons_succ]
      refine wpAnyH_ready (rs := [4]) (by kernel_rfl) (by simp) (AllReadyH.cons (Array.getElem?_eq_getElem (i := 4) (by decide)) (fun K9 hK => ?_) AllReadyH.nil)
      go_simp
      refine (turned_11 e _ HE.out).mono ?_
      rintro q9 w9 ⟨rfl, rfl⟩
      refine hK.out _ _ (hHeld) (fun hHeld => ?_)
      clear hK K9
      try simp only [Act.put, List.setIfInBounds_toArray, List.set_cons_zero, List.set_cons_succ]
      refine take_at (i := 5) (.int .u32 (bits .xor .u32 (rot e 67108864 64) (rot e 2097152 2048))) (some 45) (by decide) (by rfl) (by kernel_rfl) (by kernel_rfl) (by kernel_rfl) (fun _ _ _ h => h) (by rfl) (fun W hW => by go_simp) (by assumption) ?_
      try simp only [Act.put, List.setIfInBounds_toArray, List.set_cons_zero, List.set_cons_succ]
      refine wpAnyH_ready (rs := [7]) (by kernel_rfl) (by simp) (AllReadyH.cons (Array.getElem?_eq_getElem (i := 7) (by decide)) (fun K9 hK => ?_) AllReadyH.nil)
      go_simp
      refine (turned_25 e _ HE.out).mono ?_
      rintro q9 w9 ⟨rfl, rfl⟩
      refine hK.out _ _ (hHeld) (fun hHeld => ?_)
      clear hK K9
      try simp only [Act.put, List.setIfInBounds_toArray, List.set_cons_zero, List.set_cons_succ]
      refine take_at (i := 8) (.int .u32 (bits .xor .u32 (bits .xor .u32 (rot e 67108864 64) (rot e 2097152 2048)) (rot e 128 33554432))) (some 48) (by decide) (by rfl) (by kernel_rfl) (by kernel_rfl) (by kernel_rfl) (fun _ _ _ h => h) (by rfl) (fun W hW => by go_simp) (by assumption) ?_
      try simp only [Act.put, List.setIfInBounds_toArray, List.set_cons_zero, List.set_cons_succ]
      refine take_at (i := 9) (.int .u32 (IntKind.u32.wrap (h + bits .xor .u32 (bits .xor .u32 (rot e 67108864 64) (rot e 2097152 2048)) (rot e 128 33554432)))) (some 49) (by decide) (by rfl) (by kernel_rfl) (by kernel_rfl) (by kernel_rfl) (fun _ _ _ h => h) (by rfl) (fun W hW => by go_simp) (by assumption) ?_
      try simp only [Act.put, List.setIfInBounds_toArray, List.set_cons_zero, List.set_cons_succ]
      refine take_at (i := 18) (.int .u32 (IntKind.u32.wrap (IntKind.u32.wrap (h + bits .xor .u32 (bits .xor .u32 (rot e 67108864 64) (rot e 2097152 2048)) (rot e 128 33554432)) + bits .xor .u32 (bits .and .u32 e f) (bits .and .u32 (bits .xor .u32 4294967295 e) g)))) (some 58) (by decide) (by rfl) (by kernel_rfl) (by kernel_rfl) (by kernel_rfl) (fun _ _ _ h => h) (by rfl) (fun W hW => by go_simp) (by assumption) ?_
      try simp only [Act.put, List.setIfInBounds_toArray, List.set_cons_zero, List.set_cons_succ]
      refine take_at (i := 22) (.int .u32 (IntKind.u32.wrap (IntKind.u32.wrap (IntKind.u32.wrap (h + bits .xor .u32 (bits .xor .u32 (rot e 67108864 64) (rot e 2097152 2048)) (rot e 128 33554432)) + bits .xor .u32 (bits .and .u32 e f) (bits .and .u32 (bits .xor .u32 4294967295 e) g)) + x))) (some 62) (by decide) (by rfl) (by kernel_rfl) (by kernel_rfl) (by kernel_rfl) (fun _ _ _ h => h) (by rfl) (fun W hW => by go_simp) (by assumption) ?_
      try simp only [Act.put, List.setIfInBounds_toArray, List.set_cons_zero, List.set_cons_succ]
      refine take_at (i := 26) (.int .u32 (IntKind.u32.wrap (IntKind.u32.wrap (IntKind.u32.wrap (IntKind.u32.wrap (h + bits .xor .u32 (bits .xor .u32 (rot e 67108864 64) (rot e 2097152 2048)) (rot e 128 33554432)) + bits .xor .u32 (bits .and .u32 e f) (bits .and .u32 (bits .xor .u32 4294967295 e) g)) + x) + y))) (some 66) (by decide) (by rfl) (by kernel_rfl) (by kernel_rfl) (by kernel_rfl) (fun _ _ _ h => h) (by rfl) (fun W hW => by go_simp) (by assumption) ?_
      try simp only [Act.put, List.setIfInBounds_toArray, List.set_cons_zero, List.set_cons_succ]
      refine take_at (i := 27) (.int .u32 (IntKind.u32.wrap (IntKind.u32.wrap (IntKind.u32.wrap (IntKind.u32.wrap (h + bits .xor .u32 (bits .xor .u32 (rot e 67108864 64) (rot e 2097152 2048)) (rot e 128 33554432)) + bits .xor .u32 (bits .and .u32 e f) (bits .and .u32 (bits .xor .u32 4294967295 e) g)) + x) + y))) (some 15) (by decide) (by rfl) (by kernel_rfl) (by kernel_rfl) (by kernel_rfl) (fun _ _ _ h => h) (by rfl) (fun W hW => by go_simp) (by assumption) ?_
      try simp only [Act.put, List.setIfInBounds_toArray, List.set_cons_zero, List.set_cons_succ]
      refine wpAnyH_done (by kernel_rfl) ?_ _
      try simp only [Act.put, List.setIfInBounds_toArray, List.set_cons_zero, List.set_cons_succ]
      obtain ⟨p, hp⟩ : ∃ p, p = IntKind.u32.wrap (IntKind.u32.wrap (IntKind.u32.wrap (IntKind.u32.wrap (h + bits .xor .u32 (bits .xor .u32 (rot e 67108864 64) (rot e 2097152 2048)) (rot e 128 33554432)) + bits .xor .u32 (bits .and .u32 e f) (bits .and .u32 (bits .xor .u32 4294967295 e) g)) + x) + y) := ⟨_, rfl⟩
      rw [← hp]
      have HO1 : Hid ((⟨(p + qf ⟨a, b, c, d, e, f, g, h⟩) % 4294967296, a, b, c, (d + p) % 4294967296, e, f, g⟩ : Oct) = rndsO Ks L ⟨a0, b0, c0, d0, e0, f0, g0, h0⟩ (k + 1)) := by
        unfold Hid
        rw [rndsO, ← HOE.out, GX.out, GY.out, hp]
        unfold rndO pf s1f chf
        rfl
      clear hp hHeld HOE
      obtain ⟨w5, hw5⟩ : ∃ v, wr.drew = v := ⟨_, rfl⟩
      have HW5 : Hid (w5.heap[bw]? = some (.cells (vw L).toArray 119)) := by rw [← hw5]; exact HW.out
      have HST5 : Hid (w5.heap[w.heap.size]? = some (.cells (vw [a0, b0, c0, d0, e0, f0, g0, h0]).toArray 105)) := by rw [← hw5]; exact HST.out
      have HRE5 : Hid (w5.heap[br]? = some (.cells (vw (zerw 8)).toArray 105)) := by rw [← hw5]; exact HRE.out
      have HB5 : Hid (Below w.heap.size w w5) := by rw [← hw5]; exact HB.out.drew
      rw [hw5]
      clear hw5 HW HST HRE HB cw ck
      have ha0 := HA.out.1
      go_wp2_with (first
        | (refine (turned_2 a _ HA.out).mono ?_; rintro q9 w9 ⟨rfl, rfl⟩)
        | (refine (turned_13 a _ HA.out).mono ?_; rintro q9 w9 ⟨rfl, rfl⟩)
        | (refine (turned_22 a _ HA.out).mono ?_; rintro q9 w9 ⟨rfl, rfl⟩))
      go_roundw
      case rel => exact ⟨k + 1, (p + qf ⟨a, b, c, d, e, f, g, h⟩) % 4294967296, a, b, c, (d + p) % 4294967296, e, f, g, by omega, by go_num, HO1, rfl, rfl, rfl, rfl, rfl, rfl, rfl, rfl, ⟨(by first | exact W32.mod _ | (rw [IntKind.wrap_u32']; exact W32.mod _)), HI.out.1, HI.out.2.1, HI.out.2.2.1, (by first | exact W32.mod _ | (rw [IntKind.wrap_u32']; exact W32.mod _)), HI.out.2.2.2.2.1, HI.out.2.2.2.2.2.1, HI.out.2.2.2.2.2.2.1⟩, HW5, HST5, HRE5, HB5⟩
      case measure => simp [intOf]; omega
    · have hk64 : k = 64 := by omega
      have HOF : Kept ((⟨a, b, c, d, e, f, g, h⟩ : Oct) = rndsO Ks L ⟨a0, b0, c0, d0, e0, f0, g0, h0⟩ 64) := ⟨hk64 ▸ HOE.out⟩
      go_wp2_with fail
      go_loopw [109] (fun i wr => ∃ (k : Nat) (S : List Int), k ≤ 8 ∧ i = .int .i64 k ∧ S.length = 8 ∧ W32L S ∧ Hid (S = addL [a0, b0, c0, d0, e0, f0, g0, h0] [a, b, c, d, e, f, g, h] k) ∧ Hid (wr.heap[w.heap.size]? = some (.cells (vw S).toArray 105)) ∧ Hid (wr.heap[br]? = some (.cells (vw (zerw 8)).toArray 105)) ∧ Hid (Below w.heap.size w wr)) (fun i _ => 8 - (intOf i).toNat)
      case atStart => exact ⟨0, [a0, b0, c0, d0, e0, f0, g0, h0], by omega, rfl, rfl, hsw, rfl, HST, HRE, HB⟩
      case round =>
        clear HW HST HRE HB hlt hk hk64 HI HOE
        obtain ⟨k, S, hk, rfl, hS, hSw, HSE, HST, HRE, HB⟩ := hrel
        by_cases hlt : k < 8
        · have hkS : k < S.length := by omega
          have cS : wr.cell? ⟨w.heap.size, k, none⟩ = some (.int .u32 S[k]) := by rw [cell_of_row _ _ _ _ _ _ HST.out, List.getElem?_toArray]; exact vw_at S k hkS
          have fS : wr.frozen? ⟨w.heap.size, k, none⟩ = false := frozen_of_row _ _ _ _ _ HST.out
          have hidx := index_w8 [a, b, c, d, e, f, g, h] k rfl (by simp; omega)
          rw [show (vw [a, b, c, d, e, f, g, h]).toArray = #[.int .u32 a, .int .u32 b, .int .u32 c, .int .u32 d, .int .u32 e, .int .u32 f, .int .u32 g, .int .u32 h] from rfl] at hidx
          have gy : [a, b, c, d, e, f, g, h].getD k 0 = [a, b, c, d, e, f, g, h][k]'(by simp; omega) := by rw [List.getD_eq_getElem?_getD, List.getElem?_eq_getElem (by simp; omega)]; rfl
          have gz : S.getD k 0 = S[k] := by rw [List.getD_eq_getElem?_getD, List.getElem?_eq_getElem hkS]; rfl
          generalize [a, b, c, d, e, f, g, h][k]'_ = y at hidx gy
          generalize S[k] = z at cS gz
          have HSX : Kept (S.set k ((z + y) % 4294967296) = addL [a0, b0, c0, d0, e0, f0, g0, h0] [a, b, c, d, e, f, g, h] (k + 1)) := by
            refine ⟨?_⟩
            rw [addL, ← HSE.out, gz, gy]
          clear gy gz
          have HSS : Hid (∀ v, (wr.setCell ⟨w.heap.size, k, none⟩ (.int .u32 v)).heap[w.heap.size]? = some (.cells (vw (S.set k v)).toArray 105)) := fun v => by
            have h := heap_setCell_same wr w.heap.size k _ _ (.int .u32 v) HST.out
            rw [List.setIfInBounds_toArray, vw_set] at h
            exact h
          have HRR : Hid (∀ v, (wr.setCell ⟨w.heap.size, k, none⟩ (.int .u32 v)).heap[br]? = some (.cells (vw (zerw 8)).toArray 105)) := fun v => (Below.heap_setCell wr ⟨w.heap.size, k, none⟩ _ _ (by show br ≠ w.heap.size; omega)).trans HRE.out
          have HBB : Hid (∀ v, Below w.heap.size w (wr.setCell ⟨w.heap.size, k, none⟩ (.int .u32 v))) := fun v => HB.out.setCell (Nat.le_refl _) _
          go_wp2_with fail
          go_roundw
          case rel =>
            refine ⟨k + 1, S.set k _, by omega, by go_num, by simp [hS], ?_, ?_, HSS.out _, HRR.out _, HBB.out _⟩
            · exact W32L.set hSw k _ (by first | exact W32.mod _ | (rw [IntKind.wrap_u32']; exact W32.mod _))
            · first | exact HSX.out | (rw [IntKind.wrap_u32']; exact HSX.out)
          case measure => simp [intOf]; omega
        · obtain rfl : k = 8 := by omega
          have HFIN : Kept (mixP Ks [a0, b0, c0, d0, e0, f0, g0, h0] blk = S) := by
            refine ⟨?_⟩
            unfold mixP
            rw [HLE.out, HSE.out]
            rw [show octOf [a0, b0, c0, d0, e0, f0, g0, h0] = ⟨a0, b0, c0, d0, e0, f0, g0, h0⟩ from rfl, ← HOF.out]
            rfl
          clear hlt hk HSE HOF
          go_wp2_with (first
            | (refine wpList_load_row rfl 105 _ rfl w.heap.size rfl 105 (vw S).toArray (0, 0) _ HST.out Tryd.underlying105 rfl (by rw [show (vw S).toArray.size = 8 by simp [vw_length, hS]]; exact cells_w8) ?_)
            | (refine wp_put_row cells_w8 rfl _ _ rfl br rfl rfl (by simp [vw_length, hS]) (vw_one S) (vw (zerw 8)).toArray (by simp [vw_length, zerw_length]) 105 HRE.out ?hK9))
          intro w9 h9 hg9
          have hb9 : Below w.heap.size w w9 := HB.out.grown hg9 (by have := HB.out.size; omega) (fun k hk => by injection hk with hk; omega)
          go_wp2_with fail
          exact bodyPost_ret (v := .agg (vw S).toArray) (results_cell_row Tryd.results76 _ w9 br 105 (vw S).toArray (0, 0) _ rfl h9 Tryd.underlying105 rfl (by rw [show (vw S).toArray.size = 8 by simp [vw_length, hS]]; exact cells_w8)) rfl ⟨by rw [HFIN.out]; exact hS, by rw [HFIN.out]; exact hSw, by rw [HFIN.out], hb9⟩

end Go.Proofs.YthbahbcihaebeaaDoor.Cd
