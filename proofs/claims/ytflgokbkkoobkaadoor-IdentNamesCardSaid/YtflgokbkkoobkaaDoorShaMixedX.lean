/-
  A state behind a block, told exactly: sha.mixed. Conditions: none.
-/
import Derived.Test.YtflgokbkkoobkaaDoorShaSchedX
import Derived.Test.YtflgokbkkoobkaaDoorShaMixed
namespace Go.Proofs.YtflgokbkkoobkaaDoor.Cd
open Go.RowKit

/-- Eight words. -/
structure Oct where
  a : Int
  b : Int
  c : Int
  d : Int
  e : Int
  f : Int
  g : Int
  h : Int
def Oct.list (o : Oct) : List Int := [o.a, o.b, o.c, o.d, o.e, o.f, o.g, o.h]
def s1f (e : Int) : Int := bits .xor .u32 (bits .xor .u32 (rot e 67108864 64) (rot e 2097152 2048)) (rot e 128 33554432)
def chf (e f g : Int) : Int := bits .xor .u32 (bits .and .u32 e f) (bits .and .u32 (bits .xor .u32 4294967295 e) g)
def pf (o : Oct) (x y : Int) : Int := IntKind.u32.wrap (IntKind.u32.wrap (IntKind.u32.wrap (IntKind.u32.wrap (o.h + s1f o.e) + chf o.e o.f o.g) + x) + y)
def qf (o : Oct) : Int := (bits .xor .u32 (bits .xor .u32 (rot o.a 1073741824 4) (rot o.a 524288 8192)) (rot o.a 1024 4194304) + bits .xor .u32 (bits .xor .u32 (bits .and .u32 o.a o.b) (bits .and .u32 o.a o.c)) (bits .and .u32 o.b o.c)) % 4294967296
/-- A round. -/
def rndO (o : Oct) (x y : Int) : Oct := ⟨(pf o x y + qf o) % 4294967296, o.a, o.b, o.c, (o.d + pf o x y) % 4294967296, o.e, o.f, o.g⟩
def rndsO (Ks L : List Int) (o : Oct) : Nat → Oct
  | 0 => o
  | k + 1 => rndO (rndsO Ks L o k) (Ks.getD k 0) (L.getD k 0)
/-- Words added one by one. -/
def addL (st X : List Int) : Nat → List Int
  | 0 => st
  | k + 1 => (addL st X k).set k (((addL st X k).getD k 0 + X.getD k 0) % 4294967296)
def octOf (st : List Int) : Oct := ⟨st.getD 0 0, st.getD 1 0, st.getD 2 0, st.getD 3 0, st.getD 4 0, st.getD 5 0, st.getD 6 0, st.getD 7 0⟩
/-- A state behind a block. -/
def mixP (Ks st : List Int) (blk : List UInt8) : List Int := addL st (rndsO Ks (schL blk 64) (octOf st) 64).list 8
/-- A fact that no unifier opens. -/
structure Kept (P : Prop) : Prop where
  out : P
/-- The rounds' numbers, told. -/
def KeysIs (Ks : List Int) (w : World) : Prop := 0 < w.heap.size ∧ Ks.length = 64 ∧ ∀ (j : Nat) (hj : j < Ks.length), w.cell? ⟨0, j, none⟩ = some (.int .u32 Ks[j])

set_option maxRecDepth 100000 in
set_option maxHeartbeats 3200000 in
theorem mixed_x (Ks st : List Int) (blk : List UInt8) (w : World) (hs : st.length = 8) (hsw : W32L st) (hb : blk.length = 64) (hk : KeysIs Ks w) :
    Calls Tryd.prog 57 #[.agg (vw st).toArray, .agg (vb blk).toArray] w fun e w' => (mixP Ks st blk).length = 8 ∧ W32L (mixP Ks st blk) ∧ e = .returned (.agg (vw (mixP Ks st blk)).toArray) ∧ Below w.heap.size w w' := by
  have HK := Lib.hid hk
  have HBL := Lib.hid hb
  have HS8 := Lib.hid hs
  have hb0 := (((Below.refl w.heap.size w).alloc (Nat.le_refl _) (.cells (vw st).toArray 74)).alloc (by simp) (.cells (vb blk).toArray 75)).alloc (by simp; omega) (.cells (vw (zerw 8)).toArray 74)
  have hst0 : (((w.alloc (.cells (vw st).toArray 74)).alloc (.cells (vb blk).toArray 75)).alloc (.cells (vw (zerw 8)).toArray 74)).heap[w.heap.size]? = some (.cells (vw st).toArray 74) :=
    (Below.heap_alloc _ _ _ (by simp; omega)).trans ((Below.heap_alloc _ _ _ (by simp)).trans (heap_alloc_new _ _))
  have hbl0 : (((w.alloc (.cells (vw st).toArray 74)).alloc (.cells (vb blk).toArray 75)).alloc (.cells (vw (zerw 8)).toArray 74)).heap[w.heap.size + 1]? = some (.cells (vb blk).toArray 75) := by
    have h := heap_alloc_new (w.alloc (.cells (vw st).toArray 74)) (.cells (vb blk).toArray 75)
    rw [asz] at h
    exact (Below.heap_alloc _ _ _ (by simp)).trans h
  have hre0 : (((w.alloc (.cells (vw st).toArray 74)).alloc (.cells (vb blk).toArray 75)).alloc (.cells (vw (zerw 8)).toArray 74)).heap[w.heap.size + 1 + 1]? = some (.cells (vw (zerw 8)).toArray 74) := by
    have h := heap_alloc_new ((w.alloc (.cells (vw st).toArray 74)).alloc (.cells (vb blk).toArray 75)) (.cells (vw (zerw 8)).toArray 74)
    rw [asz, asz] at h
    exact h
  have hsz0 : (((w.alloc (.cells (vw st).toArray 74)).alloc (.cells (vb blk).toArray 75)).alloc (.cells (vw (zerw 8)).toArray 74)).heap.size = w.heap.size + 3 := by simp
  go_enter Tryd.func57, Tryd.ntmps57
  iterate 11 (try first | (refine wp_box_row rfl _ rfl rfl ?_) | (refine wp_alloc_row zero_w8 rfl rfl ?_) | go_values | go_skip | go_guarded | go_step)
  simp only [Act.put, List.setIfInBounds_toArray, List.set_cons_zero, List.set_cons_succ, asz]
  refine wpList_load_row rfl 75 _ rfl (w.heap.size + 1) rfl 75 (vb blk).toArray (0, 0) _ hbl0 Tryd.underlying75 rfl (by rw [vb_size, HBL.out]; exact cells_b64) ?_
  go_wp2_with fail
  generalize ((w.alloc (.cells (vw st).toArray 74)).alloc (.cells (vb blk).toArray 75)).alloc (.cells (vw (zerw 8)).toArray 74) = w1 at hb0 hst0 hbl0 hre0 hsz0 ⊢
  generalize hbr : w.heap.size + 1 + 1 = br at hre0 ⊢
  have hs1 : w.heap.size + 3 ≤ w1.heap.size := by omega
  have HB1 := Lib.hid hb0
  have HST1 := Lib.hid hst0
  have HRE1 := Lib.hid hre0
  clear hb0 hst0 hbl0 hre0 hsz0
  refine (sched_x blk w1 HBL.out).mono ?_
  rintro e w2 ⟨hLw, rfl, hb2⟩
  have hL := schL_length blk 64
  obtain ⟨L, hLe⟩ : ∃ L, schL blk 64 = L := ⟨_, rfl⟩
  rw [hLe] at hLw hL ⊢
  have HLE : Kept (schL blk 64 = L) := ⟨hLe⟩
  clear hLe
  have hs2 := hb2.size
  have HB2 := Lib.hid (HB1.out.trans (hb2.mono (by omega)))
  have HST2 : Hid (w2.heap[w.heap.size]? = some (.cells (vw st).toArray 74)) := (hb2.block _ (by omega)).trans HST1.out
  have HRE2 : Hid (w2.heap[br]? = some (.cells (vw (zerw 8)).toArray 74)) := (hb2.block _ (by omega)).trans HRE1.out
  clear hb2 HB1 HST1 HRE1
  have hw3 := heap_alloc_new w2 (.cells (vw L).toArray 102)
  have hst3 : (w2.alloc (.cells (vw L).toArray 102)).heap[w.heap.size]? = some (.cells (vw st).toArray 74) := (Below.heap_alloc _ _ _ (by omega)).trans HST2.out
  have hre3 : (w2.alloc (.cells (vw L).toArray 102)).heap[br]? = some (.cells (vw (zerw 8)).toArray 74) := (Below.heap_alloc _ _ _ (by omega)).trans HRE2.out
  have hb3 := HB2.out.alloc (by omega) (.cells (vw L).toArray 102)
  clear HST2 HRE2 HB2
  try dsimp only
  iterate 14 (try first | go_values | go_skip | go_guarded | (refine wp_alloc_row zero_w64 rfl rfl ?_) | (refine wp_fill_row cells_w64 rfl _ _ rfl (vw (zerw 64)).toArray (by simp [vw_length, zerw_length]) 102 rfl rfl (by simp [vw_length, hL]) (vw_one L) ?_) | go_step | go_upon)
  generalize w2.alloc (.cells (vw L).toArray 102) = w3 at hw3 hst3 hre3 hb3 ⊢
  generalize hbw : w2.heap.size = bw at hw3 ⊢
  have HW3 := Lib.hid hw3
  have HST3 := Lib.hid hst3
  have HRE3 := Lib.hid hre3
  have HB3 := Lib.hid hb3
  clear hw3 hst3 hre3 hb3
  have hbwl : w.heap.size + 3 ≤ bw := by omega
  obtain ⟨a0, b0, c0, d0, e0, f0, g0, h0, rfl⟩ : ∃ a b c d e f g h, st = [a, b, c, d, e, f, g, h] := by
    match st, hs with
    | [a, b, c, d, e, f, g, h], _ => exact ⟨a, b, c, d, e, f, g, h, rfl⟩
  have hcs : Hid (∀ W : World, W.heap[w.heap.size]? = some (.cells (vw [a0, b0, c0, d0, e0, f0, g0, h0]).toArray 74) → W.cell? ⟨w.heap.size, 0, none⟩ = some (.int .u32 a0) ∧ W.cell? ⟨w.heap.size, 1, none⟩ = some (.int .u32 b0) ∧ W.cell? ⟨w.heap.size, 2, none⟩ = some (.int .u32 c0) ∧ W.cell? ⟨w.heap.size, 3, none⟩ = some (.int .u32 d0) ∧ W.cell? ⟨w.heap.size, 4, none⟩ = some (.int .u32 e0) ∧ W.cell? ⟨w.heap.size, 5, none⟩ = some (.int .u32 f0) ∧ W.cell? ⟨w.heap.size, 6, none⟩ = some (.int .u32 g0) ∧ W.cell? ⟨w.heap.size, 7, none⟩ = some (.int .u32 h0)) := fun W h => ⟨cell_of_row _ _ _ _ _ _ h, cell_of_row _ _ _ _ _ _ h, cell_of_row _ _ _ _ _ _ h, cell_of_row _ _ _ _ _ _ h, cell_of_row _ _ _ _ _ _ h, cell_of_row _ _ _ _ _ _ h, cell_of_row _ _ _ _ _ _ h, cell_of_row _ _ _ _ _ _ h⟩
  go_wp2_with fail
  refine wp_region_held_drew (S := fun W => W.heap[w.heap.size]? = some (.cells (vw [a0, b0, c0, d0, e0, f0, g0, h0]).toArray 74)) (by kernel_rfl) HST3.out (fun hHeld => ?_)
  refine take_at (i := 0) (.pointer (some ⟨w.heap.size, 0, none⟩)) (some 21) (by decide) (by rfl) (by kernel_rfl) (by kernel_rfl) (by kernel_rfl) (fun _ _ _ h => h) (by rfl) (fun W hW => by go_simp) (by assumption) ?_
  try simp only [Act.put, List.setIfInBounds_toArray, List.set_cons_zero, List.set_cons_succ]
  refine take_at (i := 1) (.int .u32 a0) (some 22) (by decide) (by rfl) (by kernel_rfl) (by kernel_rfl) (by kernel_rfl) (fun _ _ _ h => h) (by rfl) (fun W hW => by obtain ⟨s0, s1, s2, s3, s4, s5, s6, s7⟩ := hcs.out W hW; go_simp) (by assumption) ?_
  try simp only [Act.put, List.setIfInBounds_toArray, List.set_cons_zero, List.set_cons_succ]
  refine take_at (i := 2) (.pointer (some ⟨w.heap.size, 1, none⟩)) (some 23) (by decide) (by rfl) (by kernel_rfl) (by kernel_rfl) (by kernel_rfl) (fun _ _ _ h => h) (by rfl) (fun W hW => by go_simp) (by assumption) ?_
  try simp only [Act.put, List.setIfInBounds_toArray, List.set_cons_zero, List.set_cons_succ]
  refine take_at (i := 3) (.int .u32 b0) (some 24) (by decide) (by rfl) (by kernel_rfl) (by kernel_rfl) (by kernel_rfl) (fun _ _ _ h => h) (by rfl) (fun W hW => by obtain ⟨s0, s1, s2, s3, s4, s5, s6, s7⟩ := hcs.out W hW; go_simp) (by assumption) ?_
  try simp only [Act.put, List.setIfInBounds_toArray, List.set_cons_zero, List.set_cons_succ]
  refine take_at (i := 4) (.pointer (some ⟨w.heap.size, 2, none⟩)) (some 25) (by decide) (by rfl) (by kernel_rfl) (by kernel_rfl) (by kernel_rfl) (fun _ _ _ h => h) (by rfl) (fun W hW => by go_simp) (by assumption) ?_
  try simp only [Act.put, List.setIfInBounds_toArray, List.set_cons_zero, List.set_cons_succ]
  refine take_at (i := 5) (.int .u32 c0) (some 26) (by decide) (by rfl) (by kernel_rfl) (by kernel_rfl) (by kernel_rfl) (fun _ _ _ h => h) (by rfl) (fun W hW => by obtain ⟨s0, s1, s2, s3, s4, s5, s6, s7⟩ := hcs.out W hW; go_simp) (by assumption) ?_
  try simp only [Act.put, List.setIfInBounds_toArray, List.set_cons_zero, List.set_cons_succ]
  refine take_at (i := 6) (.pointer (some ⟨w.heap.size, 3, none⟩)) (some 27) (by decide) (by rfl) (by kernel_rfl) (by kernel_rfl) (by kernel_rfl) (fun _ _ _ h => h) (by rfl) (fun W hW => by go_simp) (by assumption) ?_
  try simp only [Act.put, List.setIfInBounds_toArray, List.set_cons_zero, List.set_cons_succ]
  refine take_at (i := 7) (.int .u32 d0) (some 28) (by decide) (by rfl) (by kernel_rfl) (by kernel_rfl) (by kernel_rfl) (fun _ _ _ h => h) (by rfl) (fun W hW => by obtain ⟨s0, s1, s2, s3, s4, s5, s6, s7⟩ := hcs.out W hW; go_simp) (by assumption) ?_
  try simp only [Act.put, List.setIfInBounds_toArray, List.set_cons_zero, List.set_cons_succ]
  refine take_at (i := 8) (.pointer (some ⟨w.heap.size, 4, none⟩)) (some 29) (by decide) (by rfl) (by kernel_rfl) (by kernel_rfl) (by kernel_rfl) (fun _ _ _ h => h) (by rfl) (fun W hW => by go_simp) (by assumption) ?_
  try simp only [Act.put, List.setIfInBounds_toArray, List.set_cons_zero, List.set_cons_succ]
  refine take_at (i := 9) (.int .u32 e0) (some 30) (by decide) (by rfl) (by kernel_rfl) (by kernel_rfl) (by kernel_rfl) (fun _ _ _ h => h) (by rfl) (fun W hW => by obtain ⟨s0, s1, s2, s3, s4, s5, s6, s7⟩ := hcs.out W hW; go_simp) (by assumption) ?_
  try simp only [Act.put, List.setIfInBounds_toArray, List.set_cons_zero, List.set_cons_succ]
  refine take_at (i := 10) (.pointer (some ⟨w.heap.size, 5, none⟩)) (some 31) (by decide) (by rfl) (by kernel_rfl) (by kernel_rfl) (by kernel_rfl) (fun _ _ _ h => h) (by rfl) (fun W hW => by go_simp) (by assumption) ?_
  try simp only [Act.put, List.setIfInBounds_toArray, List.set_cons_zero, List.set_cons_succ]
  refine take_at (i := 11) (.int .u32 f0) (some 32) (by decide) (by rfl) (by kernel_rfl) (by kernel_rfl) (by kernel_rfl) (fun _ _ _ h => h) (by rfl) (fun W hW => by obtain ⟨s0, s1, s2, s3, s4, s5, s6, s7⟩ := hcs.out W hW; go_simp) (by assumption) ?_
  try simp only [Act.put, List.setIfInBounds_toArray, List.set_cons_zero, List.set_cons_succ]
  refine take_at (i := 12) (.pointer (some ⟨w.heap.size, 6, none⟩)) (some 33) (by decide) (by rfl) (by kernel_rfl) (by kernel_rfl) (by kernel_rfl) (fun _ _ _ h => h) (by rfl) (fun W hW => by go_simp) (by assumption) ?_
  try simp only [Act.put, List.setIfInBounds_toArray, List.set_cons_zero, List.set_cons_succ]
  refine take_at (i := 13) (.int .u32 g0) (some 34) (by decide) (by rfl) (by kernel_rfl) (by kernel_rfl) (by kernel_rfl) (fun _ _ _ h => h) (by rfl) (fun W hW => by obtain ⟨s0, s1, s2, s3, s4, s5, s6, s7⟩ := hcs.out W hW; go_simp) (by assumption) ?_
  try simp only [Act.put, List.setIfInBounds_toArray, List.set_cons_zero, List.set_cons_succ]
  refine take_at (i := 14) (.pointer (some ⟨w.heap.size, 7, none⟩)) (some 35) (by decide) (by rfl) (by kernel_rfl) (by kernel_rfl) (by kernel_rfl) (fun _ _ _ h => h) (by rfl) (fun W hW => by go_simp) (by assumption) ?_
  try simp only [Act.put, List.setIfInBounds_toArray, List.set_cons_zero, List.set_cons_succ]
  refine take_at (i := 15) (.int .u32 h0) (some 36) (by decide) (by rfl) (by kernel_rfl) (by kernel_rfl) (by kernel_rfl) (fun _ _ _ h => h) (by rfl) (fun W hW => by obtain ⟨s0, s1, s2, s3, s4, s5, s6, s7⟩ := hcs.out W hW; go_simp) (by assumption) ?_
  try simp only [Act.put, List.setIfInBounds_toArray, List.set_cons_zero, List.set_cons_succ]
  refine take_at (i := 16) (.int .u32 a0) (some 6) (by decide) (by rfl) (by kernel_rfl) (by kernel_rfl) (by kernel_rfl) (fun _ _ _ h => h) (by rfl) (fun W hW => by go_simp) (by assumption) ?_
  try simp only [Act.put, List.setIfInBounds_toArray, List.set_cons_zero, List.set_cons_succ]
  refine take_at (i := 17) (.int .u32 b0) (some 7) (by decide) (by rfl) (by kernel_rfl) (by kernel_rfl) (by kernel_rfl) (fun _ _ _ h => h) (by rfl) (fun W hW => by go_simp) (by assumption) ?_
  try simp only [Act.put, List.setIfInBounds_toArray, List.set_cons_zero, List.set_cons_succ]
  refine take_at (i := 18) (.int .u32 c0) (some 8) (by decide) (by rfl) (by kernel_rfl) (by kernel_rfl) (by kernel_rfl) (fun _ _ _ h => h) (by rfl) (fun W hW => by go_simp) (by assumption) ?_
  try simp only [Act.put, List.setIfInBounds_toArray, List.set_cons_zero, List.set_cons_succ]
  refine take_at (i := 19) (.int .u32 d0) (some 9) (by decide) (by rfl) (by kernel_rfl) (by kernel_rfl) (by kernel_rfl) (fun _ _ _ h => h) (by rfl) (fun W hW => by go_simp) (by assumption) ?_
  try simp only [Act.put, List.setIfInBounds_toArray, List.set_cons_zero, List.set_cons_succ]
  refine take_at (i := 20) (.int .u32 e0) (some 10) (by decide) (by rfl) (by kernel_rfl) (by kernel_rfl) (by kernel_rfl) (fun _ _ _ h => h) (by rfl) (fun W hW => by go_simp) (by assumption) ?_
  try simp only [Act.put, List.setIfInBounds_toArray, List.set_cons_zero, List.set_cons_succ]
  refine take_at (i := 21) (.int .u32 f0) (some 11) (by decide) (by rfl) (by kernel_rfl) (by kernel_rfl) (by kernel_rfl) (fun _ _ _ h => h) (by rfl) (fun W hW => by go_simp) (by assumption) ?_
  try simp only [Act.put, List.setIfInBounds_toArray, List.set_cons_zero, List.set_cons_succ]
  refine take_at (i := 22) (.int .u32 g0) (some 12) (by decide) (by rfl) (by kernel_rfl) (by kernel_rfl) (by kernel_rfl) (fun _ _ _ h => h) (by rfl) (fun W hW => by go_simp) (by assumption) ?_
  try simp only [Act.put, List.setIfInBounds_toArray, List.set_cons_zero, List.set_cons_succ]
  refine take_at (i := 23) (.int .u32 h0) (some 13) (by decide) (by rfl) (by kernel_rfl) (by kernel_rfl) (by kernel_rfl) (fun _ _ _ h => h) (by rfl) (fun W hW => by go_simp) (by assumption) ?_
  try simp only [Act.put, List.setIfInBounds_toArray, List.set_cons_zero, List.set_cons_succ]
  refine wpAnyH_done (by kernel_rfl) ?_ _
  try simp only [Act.put, List.setIfInBounds_toArray, List.set_cons_zero, List.set_cons_succ]
  obtain ⟨w4, hw4⟩ : ∃ v, w3.drew = v := ⟨_, rfl⟩
  have HW4 : Hid (w4.heap[bw]? = some (.cells (vw L).toArray 102)) := by rw [← hw4]; exact HW3.out
  have HST4 : Hid (w4.heap[w.heap.size]? = some (.cells (vw [a0, b0, c0, d0, e0, f0, g0, h0]).toArray 74)) := by rw [← hw4]; exact HST3.out
  have HRE4 : Hid (w4.heap[br]? = some (.cells (vw (zerw 8)).toArray 74)) := by rw [← hw4]; exact HRE3.out
  have HB4 : Hid (Below w.heap.size w w4) := by rw [← hw4]; exact HB3.out.drew
  rw [hw4]
  clear hw4 HW3 HST3 HRE3 HB3 hHeld hcs
  have i0 : W32 a0 ∧ W32 b0 ∧ W32 c0 ∧ W32 d0 ∧ W32 e0 ∧ W32 f0 ∧ W32 g0 ∧ W32 h0 := ⟨hsw _ (by simp), hsw _ (by simp), hsw _ (by simp), hsw _ (by simp), hsw _ (by simp), hsw _ (by simp), hsw _ (by simp), hsw _ (by simp)⟩
  go_wp2_with fail
  go_loopw [6, 7, 8, 9, 10, 11, 12, 13, 37] (fun va vb vc vd ve vf vg vh i wr => ∃ (k : Nat) (a b c d e f g h : Int), k ≤ 64 ∧ i = .int .i64 k ∧ Hid ((⟨a, b, c, d, e, f, g, h⟩ : Oct) = rndsO Ks L ⟨a0, b0, c0, d0, e0, f0, g0, h0⟩ k) ∧ va = .int .u32 a ∧ vb = .int .u32 b ∧ vc = .int .u32 c ∧ vd = .int .u32 d ∧ ve = .int .u32 e ∧ vf = .int .u32 f ∧ vg = .int .u32 g ∧ vh = .int .u32 h ∧ Hid (W32 a ∧ W32 b ∧ W32 c ∧ W32 d ∧ W32 e ∧ W32 f ∧ W32 g ∧ W32 h) ∧ Hid (wr.heap[bw]? = some (.cells (vw L).toArray 102)) ∧ Hid (wr.heap[w.heap.size]? = some (.cells (vw [a0, b0, c0, d0, e0, f0, g0, h0]).toArray 74)) ∧ Hid (wr.heap[br]? = some (.cells (vw (zerw 8)).toArray 74)) ∧ Hid (Below w.heap.size w wr)) (fun _ _ _ _ _ _ _ _ i _ => 64 - (intOf i).toNat)
  case atStart => exact ⟨0, a0, b0, c0, d0, e0, f0, g0, h0, by omega, rfl, rfl, rfl, rfl, rfl, rfl, rfl, rfl, rfl, rfl, i0, HW4, HST4, HRE4, HB4⟩
  case round =>
    clear HW4 HST4 HRE4 HB4 i0
    obtain ⟨k, a, b, c, d, e, f, g, h, hk, rfl, HOE, rfl, rfl, rfl, rfl, rfl, rfl, rfl, rfl, HI, HW, HST, HRE, HB⟩ := hrel
    by_cases hlt : k < 64
    · have hkL : k < L.length := by omega
      obtain ⟨hp0, hKs, hKc⟩ := HK.out
      have hkK : k < Ks.length := by omega
      have cw : Hid (∀ W : World, W.heap[bw]? = some (.cells (vw L).toArray 102) → W.cell? ⟨bw, k, none⟩ = some (.int .u32 L[k])) := fun W h => by rw [cell_of_row _ _ _ _ _ _ h, List.getElem?_toArray]; exact vw_at L k hkL
      have ck : Hid (∀ W : World, Below w.heap.size w W → W.cell? ⟨0, k, none⟩ = some (.int .u32 Ks[k])) := fun W h => (h.cell (p := ⟨0, k, none⟩) hp0).trans (hKc k hkK)
      have gy : L.getD k 0 = L[k] := by rw [List.getD_eq_getElem?_getD, List.getElem?_eq_getElem hkL]; rfl
      have gx : Ks.getD k 0 = Ks[k] := by rw [List.getD_eq_getElem?_getD, List.getElem?_eq_getElem hkK]; rfl
      generalize L[k] = y at cw gy
      generalize Ks[k] = x at ck gx
      have GX := Lib.hid gx
      have GY := Lib.hid gy
      clear gx gy
      have he := HI.out.2.2.2.2.1
      have ha := HI.out.1
      have HE := Lib.hid he
      have HA := Lib.hid ha
      have gk : (k : Int) < 64 := by omega
      clear he ha hKc hKs hkK hkL
      go_wp2_with fail
      refine wp_region_held_drew (S := fun W => W.heap[bw]? = some (.cells (vw L).toArray 102) ∧ Below w.heap.size w W) (by kernel_rfl) ⟨HW.out, HB.out.drew⟩ (fun hHeld => ?_)
      refine take_at (i := 0) (.int .u32 h) (some 40) (by decide) (by rfl) (by kernel_rfl) (by kernel_rfl) (by kernel_rfl) (fun _ _ _ h => h) (by rfl) (fun W hW => by go_simp) (by assumption) ?_
      try simp only [Act.put, List.setIfInBounds_toArray, List.set_cons_zero, List.set_cons_succ]
      refine take_at (i := 1) (.int .u32 e) (some 41) (by decide) (by rfl) (by kernel_rfl) (by kernel_rfl) (by kernel_rfl) (fun _ _ _ h => h) (by rfl) (fun W hW => by go_simp) (by assumption) ?_
      try simp only [Act.put, List.setIfInBounds_toArray, List.set_cons_zero, List.set_cons_succ]
      refine take_at (i := 3) (.int .u32 e) (some 43) (by decide) (by rfl) (by kernel_rfl) (by kernel_rfl) (by kernel_rfl) (fun _ _ _ h => h) (by rfl) (fun W hW => by go_simp) (by assumption) ?_
      try simp only [Act.put, List.setIfInBounds_toArray, List.set_cons_zero, List.set_cons_succ]
      refine take_at (i := 6) (.int .u32 e) (some 46) (by decide) (by rfl) (by kernel_rfl) (by kernel_rfl) (by kernel_rfl) (fun _ _ _ h => h) (by rfl) (fun W hW => by go_simp) (by assumption) ?_
      try simp only [Act.put, List.setIfInBounds_toArray, List.set_cons_zero, List.set_cons_succ]
      refine take_at (i := 10) (.int .u32 e) (some 50) (by decide) (by rfl) (by kernel_rfl) (by kernel_rfl) (by kernel_rfl) (fun _ _ _ h => h) (by rfl) (fun W hW => by go_simp) (by assumption) ?_
      try simp only [Act.put, List.setIfInBounds_toArray, List.set_cons_zero, List.set_cons_succ]
      refine take_at (i := 11) (.int .u32 f) (some 51) (by decide) (by rfl) (by kernel_rfl) (by kernel_rfl) (by kernel_rfl) (fun _ _ _ h => h) (by rfl) (fun W hW => by go_simp) (by assumption) ?_
      try simp only [Act.put, List.setIfInBounds_toArray, List.set_cons_zero, List.set_cons_succ]
      refine take_at (i := 12) (.int .u32 (bits .and .u32 e f)) (some 52) (by decide) (by rfl) (by kernel_rfl) (by kernel_rfl) (by kernel_rfl) (fun _ _ _ h => h) (by rfl) (fun W hW => by go_simp) (by assumption) ?_
      try simp only [Act.put, List.setIfInBounds_toArray, List.set_cons_zero, List.set_cons_succ]
      refine take_at (i := 13) (.int .u32 e) (some 53) (by decide) (by rfl) (by kernel_rfl) (by kernel_rfl) (by kernel_rfl) (fun _ _ _ h => h) (by rfl) (fun W hW => by go_simp) (by assumption) ?_
      try simp only [Act.put, List.setIfInBounds_toArray, List.set_cons_zero, List.set_cons_succ]
      refine take_at (i := 14) (.int .u32 (bits .xor .u32 4294967295 e)) (some 54) (by decide) (by rfl) (by kernel_rfl) (by kernel_rfl) (by kernel_rfl) (fun _ _ _ h => h) (by rfl) (fun W hW => by go_simp; rfl) (by assumption) ?_
      try simp only [Act.put, List.setIfInBounds_toArray, List.set_cons_zero, List.set_cons_succ]
      refine take_at (i := 15) (.int .u32 g) (some 55) (by decide) (by rfl) (by kernel_rfl) (by kernel_rfl) (by kernel_rfl) (fun _ _ _ h => h) (by rfl) (fun W hW => by go_simp) (by assumption) ?_
      try simp only [Act.put, List.setIfInBounds_toArray, List.set_cons_zero, List.set_cons_succ]
      refine take_at (i := 16) (.int .u32 (bits .and .u32 (bits .xor .u32 4294967295 e) g)) (some 56) (by decide) (by rfl) (by kernel_rfl) (by kernel_rfl) (by kernel_rfl) (fun _ _ _ h => h) (by rfl) (fun W hW => by go_simp) (by assumption) ?_
      try simp only [Act.put, List.setIfInBounds_toArray, List.set_cons_zero, List.set_cons_succ]
      refine take_at (i := 17) (.int .u32 (bits .xor .u32 (bits .and .u32 e f) (bits .and .u32 (bits .xor .u32 4294967295 e) g))) (some 57) (by decide) (by rfl) (by kernel_rfl) (by kernel_rfl) (by kernel_rfl) (fun _ _ _ h => h) (by rfl) (fun W hW => by go_simp) (by assumption) ?_
      try simp only [Act.put, List.setIfInBounds_toArray, List.set_cons_zero, List.set_cons_succ]
      refine take_at (i := 19) (.int .i64 (k : Int)) (some 59) (by decide) (by rfl) (by kernel_rfl) (by kernel_rfl) (by kernel_rfl) (fun _ _ _ h => h) (by rfl) (fun W hW => by go_simp) (by assumption) ?_
      try simp only [Act.put, List.setIfInBounds_toArray, List.set_cons_zero, List.set_cons_succ]
      refine take_at (i := 20) (.pointer (some ⟨0, k, none⟩)) (some 60) (by decide) (by rfl) (by kernel_rfl) (by kernel_rfl) (by kernel_rfl) (fun _ _ _ h => h) (by rfl) (fun W hW => by first | (go_simp; done) | (go_simp; intro h9; omega)) (by assumption) ?_
      try simp only [Act.put, List.setIfInBounds_toArray, List.set_cons_zero, List.set_cons_succ]
      refine take_at (i := 21) (.int .u32 x) (some 61) (by decide) (by rfl) (by kernel_rfl) (by kernel_rfl) (by kernel_rfl) (fun _ _ _ h => h) (by rfl) (fun W hW => by have h9 := ck.out W hW.2; go_simp) (by assumption) ?_
      try simp only [Act.put, List.setIfInBounds_toArray, List.set_cons_zero, List.set_cons_succ]
      refine take_at (i := 23) (.int .i64 (k : Int)) (some 63) (by decide) (by rfl) (by kernel_rfl) (by kernel_rfl) (by kernel_rfl) (fun _ _ _ h => h) (by rfl) (fun W hW => by go_simp) (by assumption) ?_
      try simp only [Act.put, List.setIfInBounds_toArray, List.set_cons_zero, List.set_cons_succ]
      refine take_at (i := 24) (.pointer (some ⟨bw, k, none⟩)) (some 64) (by decide) (by rfl) (by kernel_rfl) (by kernel_rfl) (by kernel_rfl) (fun _ _ _ h => h) (by rfl) (fun W hW => by first | (go_simp; done) | (go_simp; intro h9; omega)) (by assumption) ?_
      try simp only [Act.put, List.setIfInBounds_toArray, List.set_cons_zero, List.set_cons_succ]
      refine take_at (i := 25) (.int .u32 y) (some 65) (by decide) (by rfl) (by kernel_rfl) (by kernel_rfl) (by kernel_rfl) (fun _ _ _ h => h) (by rfl) (fun W hW => by have h9 := cw.out W hW.1; go_simp) (by assumption) ?_
      try simp only [Act.put, List.setIfInBounds_toArray, List.set_cons_zero, List.set_cons_succ]
      refine wpAnyH_ready (rs := [2]) (by kernel_rfl) (by simp) (AllReadyH.cons (Array.getElem?_eq_getElem (i := 2) (by decide)) (fun K9 hK => ?_) AllReadyH.nil)
      go_simp
      refine (turned_6 e _ HE.out).mono ?_
      rintro q9 w9 ⟨rfl, rfl⟩
      refine hK.out _ _ (hHeld) (fun hHeld => ?_)
      clear hK K9
      try simp only [Act.put, List.setIfInBounds_toArray, List.set_cons_zero, List.set_cons_succ]
      refine wpAnyH_ready (rs := [4]) (by kernel_rfl) (by simp) (AllReadyH.cons (Array.getElem?_eq_getElem (i := 4) (by decide)) (fun K9 hK => ?_) AllReadyH.nil)
      go_simp
      refine (turned_11 e _ HE.out).mono ?_
      rintro q9 w9 ⟨rfl, rfl⟩
      refine hK.out _ _ (hHeld) (fun hHeld => ?_)
      clear hK K9
      try simp only [Act.put, List.setIfInBounds_toArray, List.set_cons_zero, List.set_cons_succ]
      refine take_at (i := 5) (.int .u32 (bits .xor .u32 (rot e 67108864 64) (rot e 2097152 2048))) (some 45) (by decide) (by rfl) (by kernel_rfl) (by kernel_rfl) (by kernel_rfl) (fun _ _ _ h => h) (by rfl) (fun W hW => by go_simp) (by assumption) ?_
      try simp only [Act.put, List.setIfInBounds_toArray, List.set_cons_zero, List.set_cons_succ]
      refine wpAnyH_ready (rs := [7]) (by kernel_rfl) (by simp) (AllReadyH.cons (Array.getElem?_eq_getElem (i := 7) (by decide)) (fun K9 hK => ?_) AllReadyH.nil)
      go_simp
      refine (turned_25 e _ HE.out).mono ?_
      rintro q9 w9 ⟨rfl, rfl⟩
      refine hK.out _ _ (hHeld) (fun hHeld => ?_)
      clear hK K9
      try simp only [Act.put, List.setIfInBounds_toArray, List.set_cons_zero, List.set_cons_succ]
      refine take_at (i := 8) (.int .u32 (bits .xor .u32 (bits .xor .u32 (rot e 67108864 64) (rot e 2097152 2048)) (rot e 128 33554432))) (some 48) (by decide) (by rfl) (by kernel_rfl) (by kernel_rfl) (by kernel_rfl) (fun _ _ _ h => h) (by rfl) (fun W hW => by go_simp) (by assumption) ?_
      try simp only [Act.put, List.setIfInBounds_toArray, List.set_cons_zero, List.set_cons_succ]
      refine take_at (i := 9) (.int .u32 (IntKind.u32.wrap (h + bits .xor .u32 (bits .xor .u32 (rot e 67108864 64) (rot e 2097152 2048)) (rot e 128 33554432)))) (some 49) (by decide) (by rfl) (by kernel_rfl) (by kernel_rfl) (by kernel_rfl) (fun _ _ _ h => h) (by rfl) (fun W hW => by go_simp) (by assumption) ?_
      try simp only [Act.put, List.setIfInBounds_toArray, List.set_cons_zero, List.set_cons_succ]
      refine take_at (i := 18) (.int .u32 (IntKind.u32.wrap (IntKind.u32.wrap (h + bits .xor .u32 (bits .xor .u32 (rot e 67108864 64) (rot e 2097152 2048)) (rot e 128 33554432)) + bits .xor .u32 (bits .and .u32 e f) (bits .and .u32 (bits .xor .u32 4294967295 e) g)))) (some 58) (by decide) (by rfl) (by kernel_rfl) (by kernel_rfl) (by kernel_rfl) (fun _ _ _ h => h) (by rfl) (fun W hW => by go_simp) (by assumption) ?_
      try simp only [Act.put, List.setIfInBounds_toArray, List.set_cons_zero, List.set_cons_succ]
      refine take_at (i := 22) (.int .u32 (IntKind.u32.wrap (IntKind.u32.wrap (IntKind.u32.wrap (h + bits .xor .u32 (bits .xor .u32 (rot e 67108864 64) (rot e 2097152 2048)) (rot e 128 33554432)) + bits .xor .u32 (bits .and .u32 e f) (bits .and .u32 (bits .xor .u32 4294967295 e) g)) + x))) (some 62) (by decide) (by rfl) (by kernel_rfl) (by kernel_rfl) (by kernel_rfl) (fun _ _ _ h => h) (by rfl) (fun W hW => by go_simp) (by assumption) ?_
      try simp only [Act.put, List.setIfInBounds_toArray, List.set_cons_zero, List.set_cons_succ]
      refine take_at (i := 26) (.int .u32 (IntKind.u32.wrap (IntKind.u32.wrap (IntKind.u32.wrap (IntKind.u32.wrap (h + bits .xor .u32 (bits .xor .u32 (rot e 67108864 64) (rot e 2097152 2048)) (rot e 128 33554432)) + bits .xor .u32 (bits .and .u32 e f) (bits .and .u32 (bits .xor .u32 4294967295 e) g)) + x) + y))) (some 66) (by decide) (by rfl) (by kernel_rfl) (by kernel_rfl) (by kernel_rfl) (fun _ _ _ h => h) (by rfl) (fun W hW => by go_simp) (by assumption) ?_
      try simp only [Act.put, List.setIfInBounds_toArray, List.set_cons_zero, List.set_cons_succ]
      refine take_at (i := 27) (.int .u32 (IntKind.u32.wrap (IntKind.u32.wrap (IntKind.u32.wrap (IntKind.u32.wrap (h + bits .xor .u32 (bits .xor .u32 (rot e 67108864 64) (rot e 2097152 2048)) (rot e 128 33554432)) + bits .xor .u32 (bits .and .u32 e f) (bits .and .u32 (bits .xor .u32 4294967295 e) g)) + x) + y))) (some 15) (by decide) (by rfl) (by kernel_rfl) (by kernel_rfl) (by kernel_rfl) (fun _ _ _ h => h) (by rfl) (fun W hW => by go_simp) (by assumption) ?_
      try simp only [Act.put, List.setIfInBounds_toArray, List.set_cons_zero, List.set_cons_succ]
      refine wpAnyH_done (by kernel_rfl) ?_ _
      try simp only [Act.put, List.setIfInBounds_toArray, List.set_cons_zero, List.set_cons_succ]
      obtain ⟨p, hp⟩ : ∃ p, p = IntKind.u32.wrap (IntKind.u32.wrap (IntKind.u32.wrap (IntKind.u32.wrap (h + bits .xor .u32 (bits .xor .u32 (rot e 67108864 64) (rot e 2097152 2048)) (rot e 128 33554432)) + bits .xor .u32 (bits .and .u32 e f) (bits .and .u32 (bits .xor .u32 4294967295 e) g)) + x) + y) := ⟨_, rfl⟩
      rw [← hp]
      have HO1 : Hid ((⟨(p + qf ⟨a, b, c, d, e, f, g, h⟩) % 4294967296, a, b, c, (d + p) % 4294967296, e, f, g⟩ : Oct) = rndsO Ks L ⟨a0, b0, c0, d0, e0, f0, g0, h0⟩ (k + 1)) := by
        unfold Hid
        rw [rndsO, ← HOE.out, GX.out, GY.out, hp]
        unfold rndO pf s1f chf
        rfl
      clear hp hHeld HOE
      obtain ⟨w5, hw5⟩ : ∃ v, wr.drew = v := ⟨_, rfl⟩
      have HW5 : Hid (w5.heap[bw]? = some (.cells (vw L).toArray 102)) := by rw [← hw5]; exact HW.out
      have HST5 : Hid (w5.heap[w.heap.size]? = some (.cells (vw [a0, b0, c0, d0, e0, f0, g0, h0]).toArray 74)) := by rw [← hw5]; exact HST.out
      have HRE5 : Hid (w5.heap[br]? = some (.cells (vw (zerw 8)).toArray 74)) := by rw [← hw5]; exact HRE.out
      have HB5 : Hid (Below w.heap.size w w5) := by rw [← hw5]; exact HB.out.drew
      rw [hw5]
      clear hw5 HW HST HRE HB cw ck
      have ha0 := HA.out.1
      go_wp2_with (first
        | (refine (turned_2 a _ HA.out).mono ?_; rintro q9 w9 ⟨rfl, rfl⟩)
        | (refine (turned_13 a _ HA.out).mono ?_; rintro q9 w9 ⟨rfl, rfl⟩)
        | (refine (turned_22 a _ HA.out).mono ?_; rintro q9 w9 ⟨rfl, rfl⟩))
      go_roundw
      case rel => exact ⟨k + 1, (p + qf ⟨a, b, c, d, e, f, g, h⟩) % 4294967296, a, b, c, (d + p) % 4294967296, e, f, g, by omega, by go_num, HO1, rfl, rfl, rfl, rfl, rfl, rfl, rfl, rfl, ⟨(by first | exact W32.mod _ | (rw [IntKind.wrap_u32']; exact W32.mod _)), HI.out.1, HI.out.2.1, HI.out.2.2.1, (by first | exact W32.mod _ | (rw [IntKind.wrap_u32']; exact W32.mod _)), HI.out.2.2.2.2.1, HI.out.2.2.2.2.2.1, HI.out.2.2.2.2.2.2.1⟩, HW5, HST5, HRE5, HB5⟩
      case measure => simp [intOf]; omega
    · have hk64 : k = 64 := by omega
      have HOF : Kept ((⟨a, b, c, d, e, f, g, h⟩ : Oct) = rndsO Ks L ⟨a0, b0, c0, d0, e0, f0, g0, h0⟩ 64) := ⟨hk64 ▸ HOE.out⟩
      go_wp2_with fail
      go_loopw [109] (fun i wr => ∃ (k : Nat) (S : List Int), k ≤ 8 ∧ i = .int .i64 k ∧ S.length = 8 ∧ W32L S ∧ Hid (S = addL [a0, b0, c0, d0, e0, f0, g0, h0] [a, b, c, d, e, f, g, h] k) ∧ Hid (wr.heap[w.heap.size]? = some (.cells (vw S).toArray 74)) ∧ Hid (wr.heap[br]? = some (.cells (vw (zerw 8)).toArray 74)) ∧ Hid (Below w.heap.size w wr)) (fun i _ => 8 - (intOf i).toNat)
      case atStart => exact ⟨0, [a0, b0, c0, d0, e0, f0, g0, h0], by omega, rfl, rfl, hsw, rfl, HST, HRE, HB⟩
      case round =>
        clear HW HST HRE HB hlt hk hk64 HI HOE
        obtain ⟨k, S, hk, rfl, hS, hSw, HSE, HST, HRE, HB⟩ := hrel
        by_cases hlt : k < 8
        · have hkS : k < S.length := by omega
          have cS : wr.cell? ⟨w.heap.size, k, none⟩ = some (.int .u32 S[k]) := by rw [cell_of_row _ _ _ _ _ _ HST.out, List.getElem?_toArray]; exact vw_at S k hkS
          have fS : wr.frozen? ⟨w.heap.size, k, none⟩ = false := frozen_of_row _ _ _ _ _ HST.out
          have hidx := index_w8 [a, b, c, d, e, f, g, h] k rfl (by simp; omega)
          rw [show (vw [a, b, c, d, e, f, g, h]).toArray = #[.int .u32 a, .int .u32 b, .int .u32 c, .int .u32 d, .int .u32 e, .int .u32 f, .int .u32 g, .int .u32 h] from rfl] at hidx
          have gy : [a, b, c, d, e, f, g, h].getD k 0 = [a, b, c, d, e, f, g, h][k]'(by simp; omega) := by rw [List.getD_eq_getElem?_getD, List.getElem?_eq_getElem (by simp; omega)]; rfl
          have gz : S.getD k 0 = S[k] := by rw [List.getD_eq_getElem?_getD, List.getElem?_eq_getElem hkS]; rfl
          generalize [a, b, c, d, e, f, g, h][k]'_ = y at hidx gy
          generalize S[k] = z at cS gz
          have HSX : Kept (S.set k ((z + y) % 4294967296) = addL [a0, b0, c0, d0, e0, f0, g0, h0] [a, b, c, d, e, f, g, h] (k + 1)) := by
            refine ⟨?_⟩
            rw [addL, ← HSE.out, gz, gy]
          clear gy gz
          have HSS : Hid (∀ v, (wr.setCell ⟨w.heap.size, k, none⟩ (.int .u32 v)).heap[w.heap.size]? = some (.cells (vw (S.set k v)).toArray 74)) := fun v => by
            have h := heap_setCell_same wr w.heap.size k _ _ (.int .u32 v) HST.out
            rw [List.setIfInBounds_toArray, vw_set] at h
            exact h
          have HRR : Hid (∀ v, (wr.setCell ⟨w.heap.size, k, none⟩ (.int .u32 v)).heap[br]? = some (.cells (vw (zerw 8)).toArray 74)) := fun v => (Below.heap_setCell wr ⟨w.heap.size, k, none⟩ _ _ (by show br ≠ w.heap.size; omega)).trans HRE.out
          have HBB : Hid (∀ v, Below w.heap.size w (wr.setCell ⟨w.heap.size, k, none⟩ (.int .u32 v))) := fun v => HB.out.setCell (Nat.le_refl _) _
          go_wp2_with fail
          go_roundw
          case rel =>
            refine ⟨k + 1, S.set k _, by omega, by go_num, by simp [hS], ?_, ?_, HSS.out _, HRR.out _, HBB.out _⟩
            · exact W32L.set hSw k _ (by first | exact W32.mod _ | (rw [IntKind.wrap_u32']; exact W32.mod _))
            · first | exact HSX.out | (rw [IntKind.wrap_u32']; exact HSX.out)
          case measure => simp [intOf]; omega
        · obtain rfl : k = 8 := by omega
          have HFIN : Kept (mixP Ks [a0, b0, c0, d0, e0, f0, g0, h0] blk = S) := by
            refine ⟨?_⟩
            unfold mixP
            rw [HLE.out, HSE.out]
            rw [show octOf [a0, b0, c0, d0, e0, f0, g0, h0] = ⟨a0, b0, c0, d0, e0, f0, g0, h0⟩ from rfl, ← HOF.out]
            rfl
          clear hlt hk HSE HOF
          go_wp2_with (first
            | (refine wpList_load_row rfl 74 _ rfl w.heap.size rfl 74 (vw S).toArray (0, 0) _ HST.out Tryd.underlying74 rfl (by rw [show (vw S).toArray.size = 8 by simp [vw_length, hS]]; exact cells_w8) ?_)
            | (refine wp_put_row cells_w8 rfl _ _ rfl br rfl rfl (by simp [vw_length, hS]) (vw_one S) (vw (zerw 8)).toArray (by simp [vw_length, zerw_length]) 74 HRE.out ?hK9))
          intro w9 h9 hg9
          have hb9 : Below w.heap.size w w9 := HB.out.grown hg9 (by have := HB.out.size; omega) (fun k hk => by injection hk with hk; omega)
          go_wp2_with fail
          exact bodyPost_ret (v := .agg (vw S).toArray) (results_cell_row Tryd.results57 _ w9 br 74 (vw S).toArray (0, 0) _ rfl h9 Tryd.underlying74 rfl (by rw [show (vw S).toArray.size = 8 by simp [vw_length, hS]]; exact cells_w8)) rfl ⟨by rw [HFIN.out]; exact hS, by rw [HFIN.out]; exact hSw, by rw [HFIN.out], hb9⟩

end Go.Proofs.YtflgokbkkoobkaaDoor.Cd
