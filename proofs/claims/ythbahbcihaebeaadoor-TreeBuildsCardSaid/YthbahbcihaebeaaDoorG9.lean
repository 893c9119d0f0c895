/-
  The document's bytes with what stands behind them. Conditions: none.
-/
import Derived.Test.YthbahbcihaebeaaDoorG8
import Derived.Test.YthbahbcihaebeaaDoorG7
import Derived.Laws.BitsAllLaws
import Derived.Test.YthbahbcihaebeaaDoorG1
import Derived.Test.YthbahbcihaebeaaDoorG6
/-
  sha.Of, told exactly. Conditions: none.
-/
namespace Go.Proofs.YthbahbcihaebeaaDoor.Cd
open Go.RowKit

/-- The digest of bytes. -/
def shaS (Ks : List Int) (b : List UInt8) : List UInt8 := sumS (endF (mixP Ks) st0 b)
theorem shaS_length (Ks : List Int) (b : List UInt8) : (shaS Ks b).length = 32 := sumS_length _

set_option maxRecDepth 100000 in
set_option maxHeartbeats 3200000 in
theorem shof_x (Ks : List Int) (v : Value) (l : List (List UInt8)) (w : World) (h : Sls w w.heap.size v l) (hk : KeysIs Ks w) (hT : 8 * l.flatten.length + 8 < 18446744073709551616) :
    Calls Tryd.prog 40 #[v] w fun e w' => e = .returned (.agg (vb (shaS Ks l.flatten)).toArray) ∧ Below w.heap.size w w' := by
  obtain ⟨A, c, rfl, h2, h3, h4⟩ := h
  have HAT := Lib.hid h4
  have HK := Lib.hid hk
  have hm2 : l.length ≤ 9223372036854775807 := by unfold maxLen at h3; omega
  have hw0 := hk.1
  have HTT := Lib.hid hT
  clear h4 h3 hk hT
  have hd2 : DgAt ((w.alloc (.cells (vb (zer 32)).toArray 25)).alloc (.cells (dgC st0 (zer 64) 0 0).toArray 108)) (w.heap.size + 1) st0 (zer 64) 0 0 := by
    have h := heap_alloc_new (w.alloc (.cells (vb (zer 32)).toArray 25)) (.cells (dgC st0 (zer 64) 0 0).toArray 108)
    rw [asz] at h
    exact ⟨rfl, zer_length 64, h⟩
  have hr2 : ((w.alloc (.cells (vb (zer 32)).toArray 25)).alloc (.cells (dgC st0 (zer 64) 0 0).toArray 108)).heap[w.heap.size]? = some (.cells (vb (zer 32)).toArray 25) := (Below.heap_alloc _ _ _ (by simp)).trans (heap_alloc_new _ _)
  have hb2 : Below w.heap.size w ((w.alloc (.cells (vb (zer 32)).toArray 25)).alloc (.cells (dgC st0 (zer 64) 0 0).toArray 108)) := ((Below.refl _ _).alloc (Nat.le_refl _) _).alloc (by simp) _
  have hs2 : w.heap.size + 2 ≤ ((w.alloc (.cells (vb (zer 32)).toArray 25)).alloc (.cells (dgC st0 (zer 64) 0 0).toArray 108)).heap.size := by simp
  have HD2 : Hid (DgAt ((w.alloc (.cells (vb (zer 32)).toArray 25)).alloc (.cells (dgC st0 (zer 64) 0 0).toArray 108)) (w.heap.size + 1) (stF (mixP Ks) st0 []) (blkF []) (([] : List UInt8).length % 64 : Nat) (([] : List UInt8).length : Nat)) := hd2
  have HS2 : Hid (W32L (stF (mixP Ks) st0 [])) := st0_w
  have HR2 := Lib.hid hr2
  have HB2 := Lib.hid hb2
  clear hd2 hr2 hb2
  go_enter Tryd.func40, Tryd.ntmps40
  iterate 16 (try first | go_values | go_skip | go_guarded | (refine wp_alloc_row zero_32 rfl rfl ?_; try simp only [Act.put, List.setIfInBounds_toArray, List.set_cons_zero, List.set_cons_succ]) | (refine wp_alloc_row zero_dg rfl rfl ?_; try simp only [Act.put, List.setIfInBounds_toArray, List.set_cons_zero, List.set_cons_succ]) | (refine wp_build_row rfl _ rfl _ built_dg (by first | rfl | simp [Act.eval]) ?_; try simp only [Act.put, List.setIfInBounds_toArray, List.set_cons_zero, List.set_cons_succ]) | (refine wp_fill_row cells_dg rfl _ _ rfl (dgC (zerw 8) (zer 64) 0 0).toArray rfl 108 (by first | rfl | simp [Act.eval, Act.put]) rfl rfl (dg_one _ _ _ _) ?_; try simp only [Act.put, List.setIfInBounds_toArray, List.set_cons_zero, List.set_cons_succ]) | go_step | go_upon)
  simp only [asz]
  generalize (w.alloc (.cells (vb (zer 32)).toArray 25)).alloc (.cells (dgC st0 (zer 64) 0 0).toArray 108) = w2 at HD2 HR2 HB2 hs2 ⊢
  go_wp2_with fail
  go_loopw [10] (fun i wr => ∃ (k : Nat) (P : List UInt8), k ≤ l.length ∧ i = .int .i64 k ∧ Hid (P = (l.take k).flatten) ∧ Hid (W32L (stF (mixP Ks) st0 P)) ∧ Hid (DgAt wr (w.heap.size + 1) (stF (mixP Ks) st0 P) (blkF P) (P.length % 64 : Nat) (P.length : Nat)) ∧ Hid (wr.heap[w.heap.size]? = some (.cells (vb (zer 32)).toArray 25)) ∧ Hid (Below w.heap.size w wr) ∧ w.heap.size + 2 ≤ wr.heap.size) (fun i _ => l.length - (intOf i).toNat)
  case atStart => exact ⟨0, [], by omega, rfl, rfl, HS2, HD2, HR2, HB2, hs2⟩
  case round =>
    clear HD2 HR2 HB2 hs2 HS2
    obtain ⟨k, P, hk, rfl, HP, HS, HD, HR, HB, hsr⟩ := hrel
    by_cases hlt : k < l.length
    · obtain ⟨b, off, rfl, hbB, hc⟩ := HAT.out (by omega)
      obtain ⟨y, hcell0, hy⟩ := hc k hlt
      have hcell : wr.cell? ⟨b, off + k, none⟩ = some y := (HB.out.cell (p := ⟨b, off + k, none⟩) hbB).trans hcell0
      have hyv : SlNot wr (w.heap.size + 1) y l[k] := by
        have h9 := hy.below HB.out
        refine ⟨h9.more HB.out.size, fun A9 n9 c9 e h0 => ?_⟩
        obtain ⟨A8, c8, e8, _, _, _, h5, _⟩ := h9
        rw [e8] at e
        injection e with e
        have := h5 A9 e h0
        omega
      have HP2 : Hid (P ++ l[k] = (l.take (k + 1)).flatten) := by
        unfold Hid
        rw [HP.out, List.take_succ_eq_append_getElem hlt, List.flatten_append]
        simp
      have hlen : P.length + l[k].length ≤ l.flatten.length := by
        rw [← List.length_append, HP2.out]
        conv => rhs; rw [← List.take_append_drop (k + 1) l]
        rw [List.flatten_append, List.length_append]
        omega
      have hT := HTT.out
      have HADD := Lib.hid (add_x Ks P l[k] (w.heap.size + 1) P.length y wr HS.out HD.out (by omega) (by omega) (HK.out.below HB.out hw0) (by omega) (by omega) hyv)
      clear hlen hT HP
      obtain ⟨A8, c8, e8, _, _⟩ := hyv.1.len
      clear hc hcell0 hy hyv HD HS
      generalize l[k] = pc at HADD e8 HP2
      subst e8
      go_wp2_with fail
      refine HADD.out.mono ?_
      rintro q3 w3 ⟨rfl, hS3, hd3, ho3⟩
      rw [← Int.natCast_add, ← List.length_append] at hd3
      have HR3 : Hid (w3.heap[w.heap.size]? = some (.cells (vb (zer 32)).toArray 25)) := (ho3.block _ (by omega) (by omega)).trans HR.out
      have HB3 : Hid (Below w.heap.size w w3) := HB.out.trans (ho3.low (by omega) (by omega))
      have hs3 : w.heap.size + 2 ≤ w3.heap.size := by have := ho3.size; omega
      have HD3 := Lib.hid hd3
      have HS3 := Lib.hid hS3
      clear hd3 hS3 ho3 HR HB HADD
      go_wp2_with fail
      go_roundw
      case rel => exact ⟨k + 1, P ++ pc, by omega, by go_num, HP2, HS3, HD3, HR3, HB3, hs3⟩
      case measure => simp [intOf]; omega
    · obtain rfl : k = l.length := by omega
      have hPe : P = l.flatten := by rw [HP.out, List.take_length]
      subst hPe
      have HEN := Lib.hid (end_x Ks l.flatten (w.heap.size + 1) wr HD.out HTT.out HS.out (HK.out.below HB.out hw0) (by omega) (by omega))
      clear HP
      clear HD HS
      go_wp2_with fail
      refine HEN.out.mono ?_
      rintro q3 w3 ⟨rfl, hS3, ⟨B3, n3, x3, hd3⟩, ho3⟩
      have HR3 : Hid (w3.heap[w.heap.size]? = some (.cells (vb (zer 32)).toArray 25)) := (ho3.block _ (by omega) (by omega)).trans HR.out
      have HB3 : Hid (Below w.heap.size w w3) := HB.out.trans (ho3.low (by omega) (by omega))
      have hs3 : w.heap.size + 2 ≤ w3.heap.size := by have := ho3.size; omega
      have HSM := Lib.hid (dsum_x (w.heap.size + 1) _ B3 n3 x3 w3 hd3 hS3 (by omega))
      have hD := sumS_length (endF (mixP Ks) st0 l.flatten)
      clear hd3 hS3 ho3 HR HB HEN
      go_wp2_with fail
      refine HSM.out.mono ?_
      generalize hDe : sumS (endF (mixP Ks) st0 l.flatten) = D at hD
      rintro q4 w4 ⟨rfl, hb4⟩
      try rw [hDe]
      have HDE := Lib.hid hDe
      clear hDe
      have HR4 : Hid (w4.heap[w.heap.size]? = some (.cells (vb (zer 32)).toArray 25)) := (hb4.block _ (by omega)).trans HR3.out
      have HB4 : Hid (Below w.heap.size w w4) := HB3.out.trans (hb4.mono (by omega))
      have hs4 : w.heap.size + 2 ≤ w4.heap.size := by have := hb4.size; omega
      clear hb4 HR3 HB3 HSM
      try dsimp only
      iterate 6 (try first | go_values | go_skip | go_guarded | (refine wp_put_row cells_32 rfl _ _ rfl w.heap.size rfl rfl (by rw [vb_size, hD]) (id_one D) (vb (zer 32)).toArray (by rw [vb_size, zer_length]) 25 HR4.out ?hK9) | go_step | go_upon)
      case hK9 =>
        intro w9 h9 hg9
        have hb9 : Below w.heap.size w w9 := HB4.out.grown hg9 (by omega) (fun k hk => by injection hk with hk; omega)
        go_wp2_with fail
        exact bodyPost_ret (v := .agg (vb D).toArray) (results_cell_row Tryd.results40 _ w9 w.heap.size 25 (vb D).toArray (0, 0) _ rfl h9 Tryd.underlying25 rfl (by rw [vb_size, hD]; exact cells_32)) rfl ⟨by unfold shaS; rw [HDE.out], hb9⟩

end Go.Proofs.YthbahbcihaebeaaDoor.Cd

/-
  The document's words turned to the right, one, and three exclusively together. Conditions: none.
-/
namespace Go.Proofs.YthbahbcihaebeaaDoor.Cd
open Go.RowKit

theorem or_turned (x y : Int) (hx : W32 x) (hy : W32 y) : bits .or .u32 x y = bits .or .u32 y x := by
  rw [u32_or x y hx.1 hx.2 hy.1 hy.2, u32_or y x hy.1 hy.2 hx.1 hx.2, Nat.or_comm]
theorem W32.part {x : Int} (hx : W32 x) (q : Int) (hq : 0 < q) : W32 (x / q) := ⟨Int.ediv_nonneg hx.1 (by omega), Int.lt_of_le_of_lt (Int.ediv_le_self _ hx.1) hx.2⟩

set_option maxRecDepth 100000 in
set_option maxHeartbeats 800000 in
theorem rturn_2 (x : Int) (w : World) (hx : W32 x) : Calls Tryd.prog 74 #[.int .u32 x, .int .u64 2] w fun e w' => e = .returned (.int .u32 (rot x 1073741824 4)) ∧ w = w' := by
  have hr : bits .or .u32 (x / 4) (x * 1073741824 % 4294967296) = rot x 1073741824 4 := or_turned _ _ (hx.part _ (by omega)) (W32.mod _)
  have HR := Lib.hid hr
  clear hr
  obtain ⟨h0, h1⟩ := hx
  go_enter Tryd.func74, Tryd.ntmps74
  go_wp2
  try rw [HR.out]
  go_ret
  exact ⟨by first | rfl | rw [HR.out], rfl⟩

set_option maxRecDepth 100000 in
set_option maxHeartbeats 800000 in
theorem rturn_6 (x : Int) (w : World) (hx : W32 x) : Calls Tryd.prog 74 #[.int .u32 x, .int .u64 6] w fun e w' => e = .returned (.int .u32 (rot x 67108864 64)) ∧ w = w' := by
  have hr : bits .or .u32 (x / 64) (x * 67108864 % 4294967296) = rot x 67108864 64 := or_turned _ _ (hx.part _ (by omega)) (W32.mod _)
  have HR := Lib.hid hr
  clear hr
  obtain ⟨h0, h1⟩ := hx
  go_enter Tryd.func74, Tryd.ntmps74
  go_wp2
  try rw [HR.out]
  go_ret
  exact ⟨by first | rfl | rw [HR.out], rfl⟩

set_option maxRecDepth 100000 in
set_option maxHeartbeats 800000 in
theorem rturn_7 (x : Int) (w : World) (hx : W32 x) : Calls Tryd.prog 74 #[.int .u32 x, .int .u64 7] w fun e w' => e = .returned (.int .u32 (rot x 33554432 128)) ∧ w = w' := by
  have hr : bits .or .u32 (x / 128) (x * 33554432 % 4294967296) = rot x 33554432 128 := or_turned _ _ (hx.part _ (by omega)) (W32.mod _)
  have HR := Lib.hid hr
  clear hr
  obtain ⟨h0, h1⟩ := hx
  go_enter Tryd.func74, Tryd.ntmps74
  go_wp2
  try rw [HR.out]
  go_ret
  exact ⟨by first | rfl | rw [HR.out], rfl⟩

set_option maxRecDepth 100000 in
set_option maxHeartbeats 800000 in
theorem rturn_11 (x : Int) (w : World) (hx : W32 x) : Calls Tryd.prog 74 #[.int .u32 x, .int .u64 11] w fun e w' => e = .returned (.int .u32 (rot x 2097152 2048)) ∧ w = w' := by
  have hr : bits .or .u32 (x / 2048) (x * 2097152 % 4294967296) = rot x 2097152 2048 := or_turned _ _ (hx.part _ (by omega)) (W32.mod _)
  have HR := Lib.hid hr
  clear hr
  obtain ⟨h0, h1⟩ := hx
  go_enter Tryd.func74, Tryd.ntmps74
  go_wp2
  try rw [HR.out]
  go_ret
  exact ⟨by first | rfl | rw [HR.out], rfl⟩

set_option maxRecDepth 100000 in
set_option maxHeartbeats 800000 in
theorem rturn_13 (x : Int) (w : World) (hx : W32 x) : Calls Tryd.prog 74 #[.int .u32 x, .int .u64 13] w fun e w' => e = .returned (.int .u32 (rot x 524288 8192)) ∧ w = w' := by
  have hr : bits .or .u32 (x / 8192) (x * 524288 % 4294967296) = rot x 524288 8192 := or_turned _ _ (hx.part _ (by omega)) (W32.mod _)
  have HR := Lib.hid hr
  clear hr
  obtain ⟨h0, h1⟩ := hx
  go_enter Tryd.func74, Tryd.ntmps74
  go_wp2
  try rw [HR.out]
  go_ret
  exact ⟨by first | rfl | rw [HR.out], rfl⟩

set_option maxRecDepth 100000 in
set_option maxHeartbeats 800000 in
theorem rturn_17 (x : Int) (w : World) (hx : W32 x) : Calls Tryd.prog 74 #[.int .u32 x, .int .u64 17] w fun e w' => e = .returned (.int .u32 (rot x 32768 131072)) ∧ w = w' := by
  have hr : bits .or .u32 (x / 131072) (x * 32768 % 4294967296) = rot x 32768 131072 := or_turned _ _ (hx.part _ (by omega)) (W32.mod _)
  have HR := Lib.hid hr
  clear hr
  obtain ⟨h0, h1⟩ := hx
  go_enter Tryd.func74, Tryd.ntmps74
  go_wp2
  try rw [HR.out]
  go_ret
  exact ⟨by first | rfl | rw [HR.out], rfl⟩

set_option maxRecDepth 100000 in
set_option maxHeartbeats 800000 in
theorem rturn_18 (x : Int) (w : World) (hx : W32 x) : Calls Tryd.prog 74 #[.int .u32 x, .int .u64 18] w fun e w' => e = .returned (.int .u32 (rot x 16384 262144)) ∧ w = w' := by
  have hr : bits .or .u32 (x / 262144) (x * 16384 % 4294967296) = rot x 16384 262144 := or_turned _ _ (hx.part _ (by omega)) (W32.mod _)
  have HR := Lib.hid hr
  clear hr
  obtain ⟨h0, h1⟩ := hx
  go_enter Tryd.func74, Tryd.ntmps74
  go_wp2
  try rw [HR.out]
  go_ret
  exact ⟨by first | rfl | rw [HR.out], rfl⟩

set_option maxRecDepth 100000 in
set_option maxHeartbeats 800000 in
theorem rturn_19 (x : Int) (w : World) (hx : W32 x) : Calls Tryd.prog 74 #[.int .u32 x, .int .u64 19] w fun e w' => e = .returned (.int .u32 (rot x 8192 524288)) ∧ w = w' := by
  have hr : bits .or .u32 (x / 524288) (x * 8192 % 4294967296) = rot x 8192 524288 := or_turned _ _ (hx.part _ (by omega)) (W32.mod _)
  have HR := Lib.hid hr
  clear hr
  obtain ⟨h0, h1⟩ := hx
  go_enter Tryd.func74, Tryd.ntmps74
  go_wp2
  try rw [HR.out]
  go_ret
  exact ⟨by first | rfl | rw [HR.out], rfl⟩

set_option maxRecDepth 100000 in
set_option maxHeartbeats 800000 in
theorem rturn_22 (x : Int) (w : World) (hx : W32 x) : Calls Tryd.prog 74 #[.int .u32 x, .int .u64 22] w fun e w' => e = .returned (.int .u32 (rot x 1024 4194304)) ∧ w = w' := by
  have hr : bits .or .u32 (x / 4194304) (x * 1024 % 4294967296) = rot x 1024 4194304 := or_turned _ _ (hx.part _ (by omega)) (W32.mod _)
  have HR := Lib.hid hr
  clear hr
  obtain ⟨h0, h1⟩ := hx
  go_enter Tryd.func74, Tryd.ntmps74
  go_wp2
  try rw [HR.out]
  go_ret
  exact ⟨by first | rfl | rw [HR.out], rfl⟩

set_option maxRecDepth 100000 in
set_option maxHeartbeats 800000 in
theorem rturn_25 (x : Int) (w : World) (hx : W32 x) : Calls Tryd.prog 74 #[.int .u32 x, .int .u64 25] w fun e w' => e = .returned (.int .u32 (rot x 128 33554432)) ∧ w = w' := by
  have hr : bits .or .u32 (x / 33554432) (x * 128 % 4294967296) = rot x 128 33554432 := or_turned _ _ (hx.part _ (by omega)) (W32.mod _)
  have HR := Lib.hid hr
  clear hr
  obtain ⟨h0, h1⟩ := hx
  go_enter Tryd.func74, Tryd.ntmps74
  go_wp2
  try rw [HR.out]
  go_ret
  exact ⟨by first | rfl | rw [HR.out], rfl⟩

set_option maxRecDepth 100000 in
set_option maxHeartbeats 800000 in
theorem rthree_6 (x : Int) (w : World) (hx : W32 x) : Calls Tryd.prog 75 #[.int .u32 x, .int .u64 6, .int .u64 11, .int .u64 25] w fun e w' => e = .returned (.int .u32 (bits .xor .u32 (bits .xor .u32 (rot x 67108864 64) (rot x 2097152 2048)) (rot x 128 33554432))) ∧ w = w' := by
  have HX := Lib.hid hx
  clear hx
  go_enter Tryd.func75, Tryd.ntmps75
  go_wp2_with fail
  refine (rturn_6 x _ HX.out).mono ?_
  rintro q9 w9 ⟨rfl, rfl⟩
  go_wp2_with fail
  refine (rturn_11 x _ HX.out).mono ?_
  rintro q9 w9 ⟨rfl, rfl⟩
  go_wp2_with fail
  refine (rturn_25 x _ HX.out).mono ?_
  rintro q9 w9 ⟨rfl, rfl⟩
  go_wp2_with fail
  go_ret
  exact ⟨rfl, rfl⟩

set_option maxRecDepth 100000 in
set_option maxHeartbeats 800000 in
theorem rthree_2 (x : Int) (w : World) (hx : W32 x) : Calls Tryd.prog 75 #[.int .u32 x, .int .u64 2, .int .u64 13, .int .u64 22] w fun e w' => e = .returned (.int .u32 (bits .xor .u32 (bits .xor .u32 (rot x 1073741824 4) (rot x 524288 8192)) (rot x 1024 4194304))) ∧ w = w' := by
  have HX := Lib.hid hx
  clear hx
  go_enter Tryd.func75, Tryd.ntmps75
  go_wp2_with fail
  refine (rturn_2 x _ HX.out).mono ?_
  rintro q9 w9 ⟨rfl, rfl⟩
  go_wp2_with fail
  refine (rturn_13 x _ HX.out).mono ?_
  rintro q9 w9 ⟨rfl, rfl⟩
  go_wp2_with fail
  refine (rturn_22 x _ HX.out).mono ?_
  rintro q9 w9 ⟨rfl, rfl⟩
  go_wp2_with fail
  go_ret
  exact ⟨rfl, rfl⟩

end Go.Proofs.YthbahbcihaebeaaDoor.Cd

/-
  The document's state behind a block is the program's. Conditions: none.
-/
namespace Go.Proofs.YthbahbcihaebeaaDoor.Cd
open Go.RowKit

theorem word_sum (a b c d : UInt8) : IntKind.u32.wrap (IntKind.u32.wrap (IntKind.u32.wrap (IntKind.u32.wrap ((a.toNat : Int) * 16777216) + IntKind.u32.wrap ((b.toNat : Int) * 65536)) + IntKind.u32.wrap ((c.toNat : Int) * 256)) + (d.toNat : Int)) = word4 a b c d := by
  have ha := a.toNat_lt
  have hb := b.toNat_lt
  have hc := c.toNat_lt
  have hd := d.toNat_lt
  have e1 : IntKind.u32.wrap ((a.toNat : Int) * 16777216) = ((a.toNat * 16777216 : Nat) : Int) := by rw [IntKind.wrap_u32']; omega
  have e2 : IntKind.u32.wrap ((b.toNat : Int) * 65536) = ((b.toNat * 65536 : Nat) : Int) := by rw [IntKind.wrap_u32']; omega
  have e3 : IntKind.u32.wrap ((c.toNat : Int) * 256) = ((c.toNat * 256 : Nat) : Int) := by rw [IntKind.wrap_u32']; omega
  unfold word4
  rw [e1, e2, e3]
  rw [u32_or_nat _ _ (by omega) (by omega), nat_join 24 _ _ (by omega) (by omega), u32_or_nat _ _ (by omega) (by omega), nat_join 16 _ _ (by omega) (by omega), u32_or_nat _ _ (by omega) (by omega), nat_join 8 _ _ (by omega) (by omega)]
  simp only [IntKind.wrap_u32']
  omega
/-- What lies beside the words, where the document's state behind a block is made. -/
def NxAt (st Ks : List Int) (w : World) (bk br : Nat) (W : World) : Prop := W.heap[w.heap.size]? = some (.cells (vw st).toArray 105) ∧ W.heap[bk]? = some (.cells (vw Ks).toArray 119) ∧ W.heap[br]? = some (.cells (vw (zerw 8)).toArray 105) ∧ Below w.heap.size w W
theorem NxAt.drew {st Ks : List Int} {w W : World} {bk br : Nat} (h : NxAt st Ks w bk br W) : NxAt st Ks w bk br W.drew := ⟨h.1, h.2.1, h.2.2.1, h.2.2.2.drew⟩
theorem NxAt.set {st Ks : List Int} {w W : World} {bk br bw : Nat} (h : NxAt st Ks w bk br W) (h1 : w.heap.size < bk) (h2 : bk < br) (h3 : br < bw) (o : Nat) (v : Value) : NxAt st Ks w bk br (W.setCell ⟨bw, o, none⟩ v) :=
  ⟨(Below.heap_setCell W ⟨bw, o, none⟩ _ _ (by show w.heap.size ≠ bw; omega)).trans h.1, (Below.heap_setCell W ⟨bw, o, none⟩ _ _ (by show bk ≠ bw; omega)).trans h.2.1, (Below.heap_setCell W ⟨bw, o, none⟩ _ _ (by show br ≠ bw; omega)).trans h.2.2.1, h.2.2.2.setCell (by show w.heap.size ≤ bw; omega) _⟩
theorem four_blocks (w : World) (C1 C2 C3 C4 : Array Value) (T1 T2 T3 T4 : TypeId) :
    Below w.heap.size w ((((w.alloc (.cells C1 T1)).alloc (.cells C2 T2)).alloc (.cells C3 T3)).alloc (.cells C4 T4)) ∧
    ((((w.alloc (.cells C1 T1)).alloc (.cells C2 T2)).alloc (.cells C3 T3)).alloc (.cells C4 T4)).heap[w.heap.size]? = some (.cells C1 T1) ∧
    ((((w.alloc (.cells C1 T1)).alloc (.cells C2 T2)).alloc (.cells C3 T3)).alloc (.cells C4 T4)).heap[w.heap.size + 1]? = some (.cells C2 T2) ∧
    ((((w.alloc (.cells C1 T1)).alloc (.cells C2 T2)).alloc (.cells C3 T3)).alloc (.cells C4 T4)).heap[w.heap.size + 1 + 1]? = some (.cells C3 T3) ∧
    ((((w.alloc (.cells C1 T1)).alloc (.cells C2 T2)).alloc (.cells C3 T3)).alloc (.cells C4 T4)).heap[w.heap.size + 1 + 1 + 1]? = some (.cells C4 T4) := by
  refine ⟨((((Below.refl _ _).alloc (Nat.le_refl _) _).alloc (by simp) _).alloc (by simp; omega) _).alloc (by simp; omega) _, ?_, ?_, ?_, ?_⟩
  · exact (Below.heap_alloc _ _ _ (by simp; omega)).trans ((Below.heap_alloc _ _ _ (by simp; omega)).trans ((Below.heap_alloc _ _ _ (by simp)).trans (heap_alloc_new _ _)))
  · have h := heap_alloc_new (w.alloc (.cells C1 T1)) (.cells C2 T2)
    rw [asz] at h
    exact (Below.heap_alloc _ _ _ (by simp)).trans ((Below.heap_alloc _ _ _ (by simp)).trans h)
  · have h := heap_alloc_new ((w.alloc (.cells C1 T1)).alloc (.cells C2 T2)) (.cells C3 T3)
    rw [asz, asz] at h
    exact (Below.heap_alloc _ _ _ (by simp)).trans h
  · have h := heap_alloc_new (((w.alloc (.cells C1 T1)).alloc (.cells C2 T2)).alloc (.cells C3 T3)) (.cells C4 T4)
    rw [asz, asz, asz] at h
    exact h

set_option maxRecDepth 100000 in
set_option maxHeartbeats 6400000 in
theorem next_x (Ks st : List Int) (blk : List UInt8) (v : Value) (w : World) (hs : st.length = 8) (hsw : W32L st) (hb : blk.length = 64) (hkl : Ks.length = 64) (hv : Sl w w.heap.size v blk) :
    Calls Tryd.prog 68 #[.agg (vw st).toArray, v, .agg (vw Ks).toArray] w fun e w' => (mixP Ks st blk).length = 8 ∧ W32L (mixP Ks st blk) ∧ e = .returned (.agg (vw (mixP Ks st blk)).toArray) ∧ Below w.heap.size w w' := by
  obtain ⟨bb, off, c, rfl, hbc, hcm, hbB, hcl⟩ := hv.at (by omega)
  have HCL : Hid (∀ W : World, Below w.heap.size w W → ∀ (j : Nat) (hj : j < blk.length), W.cell? ⟨bb, off + j, none⟩ = some (.int .u8 (blk[j]).toNat)) := fun W h j hj => (h.cell (p := ⟨bb, off + j, none⟩) hbB).trans (hcl j hj)
  have hc64 : 64 ≤ c := by omega
  have hBL := Lib.hid hb
  rw [hb]
  clear hcl hbB hbc hb
  obtain ⟨hb0, hst0, hk0, hre0, hw0⟩ := four_blocks w (vw st).toArray (vw Ks).toArray (vw (zerw 8)).toArray (vw (zerw 64)).toArray 105 119 105 119
  go_enter Tryd.func68, Tryd.ntmps68
  go_wp2_with (first
    | (refine wp_box_row rfl _ rfl rfl ?_)
    | (refine wp_alloc_row zero_w8 rfl rfl ?_)
    | (refine wp_alloc_row zero_w64 rfl rfl ?_))
  generalize (((w.alloc (.cells (vw st).toArray 105)).alloc (.cells (vw Ks).toArray 119)).alloc (.cells (vw (zerw 8)).toArray 105)).alloc (.cells (vw (zerw 64)).toArray 119) = w1 at hb0 hst0 hk0 hre0 hw0 ⊢
  obtain ⟨bw, hbw⟩ : ∃ x, w.heap.size + 1 + 1 + 1 = x := ⟨_, rfl⟩
  obtain ⟨br, hbr⟩ : ∃ x, w.heap.size + 1 + 1 = x := ⟨_, rfl⟩
  obtain ⟨bk, hbk⟩ : ∃ x, w.heap.size + 1 = x := ⟨_, rfl⟩
  have l1 : w.heap.size < bk := by omega
  have l2 : bk < br := by omega
  have l3 : br < bw := by omega
  rw [hbw] at hw0 ⊢
  rw [hbr] at hre0 ⊢
  rw [hbk] at hk0 ⊢
  clear hbw hbr hbk
  have HN0 : Hid (NxAt st Ks w bk br w1) := ⟨hst0, hk0, hre0, hb0⟩
  have HW0 := Lib.hid hw0
  clear hb0 hst0 hk0 hre0 hw0
  go_loopw [8] (fun i wr => ∃ (k : Nat) (L : List Int), k ≤ 16 ∧ i = .int .i64 k ∧ L.length = 64 ∧ Hid (W32L L) ∧ Hid (L = schL blk k) ∧ Hid (wr.heap[bw]? = some (.cells (vw L).toArray 119)) ∧ Hid (NxAt st Ks w bk br wr)) (fun i _ => 16 - (intOf i).toNat)
  case atStart => exact ⟨0, zerw 64, by omega, rfl, zerw_length 64, W32L.zero 64, rfl, HW0, HN0⟩
  case round =>
    clear HN0 HW0
    obtain ⟨k, L, hk, rfl, hL, HLW, HE, HW, HN⟩ := hrel
    by_cases hlt : k < 16
    · obtain ⟨n, hn⟩ : ∃ n : Nat, (4 : Int) * (k : Int) = (n : Int) := ⟨4 * k, by omega⟩
      have hn2 : n + 3 < blk.length := by rw [hBL.out]; omega
      have hnm : ∀ x : Int, 4 * (k : Int) = x → IntKind.i64.wrap (4 * (k : Int)) = x := fun x e => by rw [e]; exact Go.wrap_small _ (by omega) (by omega)
      have hnw := hnm _ hn
      have hcs : Hid (∀ W : World, Below w.heap.size w W → W.cell? ⟨bb, off + n, none⟩ = some (.int .u8 (blk[n]).toNat) ∧ W.cell? ⟨bb, off + (n + 1), none⟩ = some (.int .u8 (blk[n + 1]).toNat) ∧ W.cell? ⟨bb, off + (n + 2), none⟩ = some (.int .u8 (blk[n + 2]).toNat) ∧ W.cell? ⟨bb, off + (n + 3), none⟩ = some (.int .u8 (blk[n + 3]).toNat)) := fun W h => ⟨HCL.out W h n (by omega), HCL.out W h (n + 1) (by omega), HCL.out W h (n + 2) (by omega), HCL.out W h (n + 3) (by omega)⟩
      have cw : wr.cell? ⟨bw, k, none⟩ = some (.int .u32 L[k]) := by rw [cell_of_row _ _ _ _ _ _ HW.out, List.getElem?_toArray]; exact vw_at L k (by omega)
      have fw : wr.frozen? ⟨bw, k, none⟩ = false := frozen_of_row _ _ _ _ _ HW.out
      have hnb : n ≤ 60 := by omega
      have r0 : blk.getD (n) 0 = blk[n] := by rw [List.getD_eq_getElem?_getD, List.getElem?_eq_getElem (by omega)]; rfl
      generalize blk[n] = b0 at hcs r0
      have r1 : blk.getD (n + 1) 0 = blk[n + 1] := by rw [List.getD_eq_getElem?_getD, List.getElem?_eq_getElem (by omega)]; rfl
      generalize blk[n + 1] = b1 at hcs r1
      have r2 : blk.getD (n + 2) 0 = blk[n + 2] := by rw [List.getD_eq_getElem?_getD, List.getElem?_eq_getElem (by omega)]; rfl
      generalize blk[n + 2] = b2 at hcs r2
      have r3 : blk.getD (n + 3) 0 = blk[n + 3] := by rw [List.getD_eq_getElem?_getD, List.getElem?_eq_getElem (by omega)]; rfl
      generalize blk[n + 3] = b3 at hcs r3
      have HE1 : Hid (L.set k (IntKind.u32.wrap (IntKind.u32.wrap (IntKind.u32.wrap (IntKind.u32.wrap ((b0.toNat : Int) * 16777216) + IntKind.u32.wrap ((b1.toNat : Int) * 65536)) + IntKind.u32.wrap ((b2.toNat : Int) * 256)) + (b3.toNat : Int))) = schL blk (k + 1)) := by
        have hn4 : 4 * k = n := by omega
        unfold Hid
        rw [word_sum, schL, if_pos hlt, ← HE.out]
        unfold w16
        rw [hn4, r0, r1, r2, r3]
      have HSW2 : Hid (W32L (L.set k (IntKind.u32.wrap (IntKind.u32.wrap (IntKind.u32.wrap (IntKind.u32.wrap ((b0.toNat : Int) * 16777216) + IntKind.u32.wrap ((b1.toNat : Int) * 65536)) + IntKind.u32.wrap ((b2.toNat : Int) * 256)) + (b3.toNat : Int))))) := by
        unfold Hid
        refine W32L.set HLW.out k _ ?_
        rw [IntKind.wrap_u32']
        exact W32.mod _
      clear r0 r1 r2 r3 hn2 hnm
      have q0 := wrap_byte32 b0
      have q1 := wrap_byte32 b1
      have q2 := wrap_byte32 b2
      have q3 := wrap_byte32 b3
      have f1a : (0 : Int) ≤ (n : Int) + 1 := by omega
      have f1b : (n : Int) + 1 < 64 := by omega
      have f1t : ((n : Int) + 1).toNat = n + 1 := by omega
      have f1w : IntKind.i64.wrap ((n : Int) + 1) = (n : Int) + 1 := Go.wrap_small _ (by omega) (by omega)
      have f2a : (0 : Int) ≤ (n : Int) + 2 := by omega
      have f2b : (n : Int) + 2 < 64 := by omega
      have f2t : ((n : Int) + 2).toNat = n + 2 := by omega
      have f2w : IntKind.i64.wrap ((n : Int) + 2) = (n : Int) + 2 := Go.wrap_small _ (by omega) (by omega)
      have f3a : (0 : Int) ≤ (n : Int) + 3 := by omega
      have f3b : (n : Int) + 3 < 64 := by omega
      have f3t : ((n : Int) + 3).toNat = n + 3 := by omega
      have f3w : IntKind.i64.wrap ((n : Int) + 3) = (n : Int) + 3 := Go.wrap_small _ (by omega) (by omega)
      have f0w : IntKind.i64.wrap (n : Int) = (n : Int) := Go.wrap_small _ (by omega) (by omega)
      have f0a : (0 : Int) ≤ (n : Int) := by omega
      have f0b : (n : Int) < 64 := by omega
      have gk : (k : Int) < 64 := by omega
      go_wp2_with fail
      obtain ⟨W0, hW0⟩ : ∃ x, wr.drew = x := ⟨_, rfl⟩
      have HN1 : Hid (NxAt st Ks w bk br W0) := by rw [← hW0]; exact HN.out.drew
      have HW1 : Hid (W0.heap[bw]? = some (.cells (vw L).toArray 119)) := by rw [← hW0]; exact HW.out
      have cw1 : W0.cell? ⟨bw, k, none⟩ = some (.int .u32 L[k]) := by rw [← hW0]; exact cw
      have fw1 : W0.frozen? ⟨bw, k, none⟩ = false := by rw [← hW0]; exact fw
      clear cw fw HN HW
      refine region_begin hW0 (S := fun W => Below w.heap.size w W) (by kernel_rfl) HN1.out.2.2.2 (fun hHeld => ?_)
      clear hW0
      refine take_at (i := 0) (.int .i64 (k : Int)) (some 29) (by decide) (by rfl) (by kernel_rfl) (by kernel_rfl) (by kernel_rfl) (fun _ _ _ h => h) (by rfl) (fun W hW => by go_simp) (by assumption) ?_
      try simp only [Act.put, List.setIfInBounds_toArray, List.set_cons_zero, List.set_cons_succ]
      refine take_at (i := 1) (.slice (some ⟨bb, off, none⟩) 64 c) (some 30) (by decide) (by rfl) (by kernel_rfl) (by kernel_rfl) (by kernel_rfl) (fun _ _ _ h => h) (by rfl) (fun W hW => by go_simp) (by assumption) ?_
      try simp only [Act.put, List.setIfInBounds_toArray, List.set_cons_zero, List.set_cons_succ]
      refine take_at (i := 2) (.int .i64 (k : Int)) (some 31) (by decide) (by rfl) (by kernel_rfl) (by kernel_rfl) (by kernel_rfl) (fun _ _ _ h => h) (by rfl) (fun W hW => by go_simp) (by assumption) ?_
      try simp only [Act.put, List.setIfInBounds_toArray, List.set_cons_zero, List.set_cons_succ]
      refine take_at (i := 3) (.int .i64 (n : Int)) (some 32) (by decide) (by rfl) (by kernel_rfl) (by kernel_rfl) (by kernel_rfl) (fun _ _ _ h => h) (by rfl) (fun W hW => by go_simp) (by assumption) ?_
      try simp only [Act.put, List.setIfInBounds_toArray, List.set_cons_zero, List.set_cons_succ]
      refine take_at (i := 4) (.pointer (some ⟨bb, off + (n), none⟩)) (some 33) (by decide) (by rfl) (by kernel_rfl) (by kernel_rfl) (by kernel_rfl) (fun _ _ _ h => h) (by rfl) (fun W hW => by first | (go_simp; done) | (go_simp; intro h9; omega) | (go_simp; omega)) (by assumption) ?_
      try simp only [Act.put, List.setIfInBounds_toArray, List.set_cons_zero, List.set_cons_succ]
      refine take_at (i := 5) (.int .u8 (b0.toNat : Int)) (some 34) (by decide) (by rfl) (by kernel_rfl) (by kernel_rfl) (by kernel_rfl) (fun _ _ _ h => h) (by rfl) (fun W hW => by obtain ⟨s0, s1, s2, s3⟩ := hcs.out W hW; go_simp) (by assumption) ?_
      try simp only [Act.put, List.setIfInBounds_toArray, List.set_cons_zero, List.set_cons_succ]
      refine take_at (i := 6) (.int .u32 (b0.toNat : Int)) (some 35) (by decide) (by rfl) (by kernel_rfl) (by kernel_rfl) (by kernel_rfl) (fun _ _ _ h => h) (by rfl) (fun W hW => by go_simp) (by assumption) ?_
      try simp only [Act.put, List.setIfInBounds_toArray, List.set_cons_zero, List.set_cons_succ]
      refine take_at (i := 7) (.int .u32 (IntKind.u32.wrap ((b0.toNat : Int) * 16777216))) (some 36) (by decide) (by rfl) (by kernel_rfl) (by kernel_rfl) (by kernel_rfl) (fun _ _ _ h => h) (by rfl) (fun W hW => by go_simp) (by assumption) ?_
      try simp only [Act.put, List.setIfInBounds_toArray, List.set_cons_zero, List.set_cons_succ]
      refine take_at (i := 8) (.slice (some ⟨bb, off, none⟩) 64 c) (some 37) (by decide) (by rfl) (by kernel_rfl) (by kernel_rfl) (by kernel_rfl) (fun _ _ _ h => h) (by rfl) (fun W hW => by go_simp) (by assumption) ?_
      try simp only [Act.put, List.setIfInBounds_toArray, List.set_cons_zero, List.set_cons_succ]
      refine take_at (i := 9) (.int .i64 (k : Int)) (some 38) (by decide) (by rfl) (by kernel_rfl) (by kernel_rfl) (by kernel_rfl) (fun _ _ _ h => h) (by rfl) (fun W hW => by go_simp) (by assumption) ?_
      try simp only [Act.put, List.setIfInBounds_toArray, List.set_cons_zero, List.set_cons_succ]
      refine take_at (i := 10) (.int .i64 (n : Int)) (some 39) (by decide) (by rfl) (by kernel_rfl) (by kernel_rfl) (by kernel_rfl) (fun _ _ _ h => h) (by rfl) (fun W hW => by go_simp) (by assumption) ?_
      try simp only [Act.put, List.setIfInBounds_toArray, List.set_cons_zero, List.set_cons_succ]
      refine take_at (i := 11) (.int .i64 ((n : Int) + 1)) (some 40) (by decide) (by rfl) (by kernel_rfl) (by kernel_rfl) (by kernel_rfl) (fun _ _ _ h => h) (by rfl) (fun W hW => by go_simp) (by assumption) ?_
      try simp only [Act.put, List.setIfInBounds_toArray, List.set_cons_zero, List.set_cons_succ]
      refine take_at (i := 12) (.pointer (some ⟨bb, off + (n + 1), none⟩)) (some 41) (by decide) (by rfl) (by kernel_rfl) (by kernel_rfl) (by kernel_rfl) (fun _ _ _ h => h) (by rfl) (fun W hW => by first | (go_simp; done) | (go_simp; intro h9; omega) | (go_simp; omega)) (by assumption) ?_
      try simp only [Act.put, List.setIfInBounds_toArray, List.set_cons_zero, List.set_cons_succ]
      refine take_at (i := 13) (.int .u8 (b1.toNat : Int)) (some 42) (by decide) (by rfl) (by kernel_rfl) (by kernel_rfl) (by kernel_rfl) (fun _ _ _ h => h) (by rfl) (fun W hW => by obtain ⟨s0, s1, s2, s3⟩ := hcs.out W hW; go_simp) (by assumption) ?_
      try simp only [Act.put, List.setIfInBounds_toArray, List.set_cons_zero, List.set_cons_succ]
      refine take_at (i := 14) (.int .u32 (b1.toNat : Int)) (some 43) (by decide) (by rfl) (by kernel_rfl) (by kernel_rfl) (by kernel_rfl) (fun _ _ _ h => h) (by rfl) (fun W hW => by go_simp) (by assumption) ?_
      try simp only [Act.put, List.setIfInBounds_toArray, List.set_cons_zero, List.set_cons_succ]
      refine take_at (i := 15) (.int .u32 (IntKind.u32.wrap ((b1.toNat : Int) * 65536))) (some 44) (by decide) (by rfl) (by kernel_rfl) (by kernel_rfl) (by kernel_rfl) (fun _ _ _ h => h) (by rfl) (fun W hW => by go_simp) (by assumption) ?_
      try simp only [Act.put, List.setIfInBounds_toArray, List.set_cons_zero, List.set_cons_succ]
      refine take_at (i := 16) (.int .u32 (IntKind.u32.wrap (IntKind.u32.wrap ((b0.toNat : Int) * 16777216) + IntKind.u32.wrap ((b1.toNat : Int) * 65536)))) (some 45) (by decide) (by rfl) (by kernel_rfl) (by kernel_rfl) (by kernel_rfl) (fun _ _ _ h => h) (by rfl) (fun W hW => by go_simp) (by assumption) ?_
      try simp only [Act.put, List.setIfInBounds_toArray, List.set_cons_zero, List.set_cons_succ]
      refine take_at (i := 17) (.slice (some ⟨bb, off, none⟩) 64 c) (some 46) (by decide) (by rfl) (by kernel_rfl) (by kernel_rfl) (by kernel_rfl) (fun _ _ _ h => h) (by rfl) (fun W hW => by go_simp) (by assumption) ?_
      try simp only [Act.put, List.setIfInBounds_toArray, List.set_cons_zero, List.set_cons_succ]
      refine take_at (i := 18) (.int .i64 (k : Int)) (some 47) (by decide) (by rfl) (by kernel_rfl) (by kernel_rfl) (by kernel_rfl) (fun _ _ _ h => h) (by rfl) (fun W hW => by go_simp) (by assumption) ?_
      try simp only [Act.put, List.setIfInBounds_toArray, List.set_cons_zero, List.set_cons_succ]
      refine take_at (i := 19) (.int .i64 (n : Int)) (some 48) (by decide) (by rfl) (by kernel_rfl) (by kernel_rfl) (by kernel_rfl) (fun _ _ _ h => h) (by rfl) (fun W hW => by go_simp) (by assumption) ?_
      try simp only [Act.put, List.setIfInBounds_toArray, List.set_cons_zero, List.set_cons_succ]
      refine take_at (i := 20) (.int .i64 ((n : Int) + 2)) (some 49) (by decide) (by rfl) (by kernel_rfl) (by kernel_rfl) (by kernel_rfl) (fun _ _ _ h => h) (by rfl) (fun W hW => by go_simp) (by assumption) ?_
      try simp only [Act.put, List.setIfInBounds_toArray, List.set_cons_zero, List.set_cons_succ]
      refine take_at (i := 21) (.pointer (some ⟨bb, off + (n + 2), none⟩)) (some 50) (by decide) (by rfl) (by kernel_rfl) (by kernel_rfl) (by kernel_rfl) (fun _ _ _ h => h) (by rfl) (fun W hW => by first | (go_simp; done) | (go_simp; intro h9; omega) | (go_simp; omega)) (by assumption) ?_
      try simp only [Act.put, List.setIfInBounds_toArray, List.set_cons_zero, List.set_cons_succ]
      refine take_at (i := 22) (.int .u8 (b2.toNat : Int)) (some 51) (by decide) (by rfl) (by kernel_rfl) (by kernel_rfl) (by kernel_rfl) (fun _ _ _ h => h) (by rfl) (fun W hW => by obtain ⟨s0, s1, s2, s3⟩ := hcs.out W hW; go_simp) (by assumption) ?_
      try simp only [Act.put, List.setIfInBounds_toArray, List.set_cons_zero, List.set_cons_succ]
      refine take_at (i := 23) (.int .u32 (b2.toNat : Int)) (some 52) (by decide) (by rfl) (by kernel_rfl) (by kernel_rfl) (by kernel_rfl) (fun _ _ _ h => h) (by rfl) (fun W hW => by go_simp) (by assumption) ?_
      try simp only [Act.put, List.setIfInBounds_toArray, List.set_cons_zero, List.set_cons_succ]
      refine take_at (i := 24) (.int .u32 (IntKind.u32.wrap ((b2.toNat : Int) * 256))) (some 53) (by decide) (by rfl) (by kernel_rfl) (by kernel_rfl) (by kernel_rfl) (fun _ _ _ h => h) (by rfl) (fun W hW => by go_simp) (by assumption) ?_
      try simp only [Act.put, List.setIfInBounds_toArray, List.set_cons_zero, List.set_cons_succ]
      refine take_at (i := 25) (.int .u32 (IntKind.u32.wrap (IntKind.u32.wrap (IntKind.u32.wrap ((b0.toNat : Int) * 16777216) + IntKind.u32.wrap ((b1.toNat : Int) * 65536)) + IntKind.u32.wrap ((b2.toNat : Int) * 256)))) (some 54) (by decide) (by rfl) (by kernel_rfl) (by kernel_rfl) (by kernel_rfl) (fun _ _ _ h => h) (by rfl) (fun W hW => by go_simp) (by assumption) ?_
      try simp only [Act.put, List.setIfInBounds_toArray, List.set_cons_zero, List.set_cons_succ]
      refine take_at (i := 26) (.slice (some ⟨bb, off, none⟩) 64 c) (some 55) (by decide) (by rfl) (by kernel_rfl) (by kernel_rfl) (by kernel_rfl) (fun _ _ _ h => h) (by rfl) (fun W hW => by go_simp) (by assumption) ?_
      try simp only [Act.put, List.setIfInBounds_toArray, List.set_cons_zero, List.set_cons_succ]
      refine take_at (i := 27) (.int .i64 (k : Int)) (some 56) (by decide) (by rfl) (by kernel_rfl) (by kernel_rfl) (by kernel_rfl) (fun _ _ _ h => h) (by rfl) (fun W hW => by go_simp) (by assumption) ?_
      try simp only [Act.put, List.setIfInBounds_toArray, List.set_cons_zero, List.set_cons_succ]
      refine take_at (i := 28) (.int .i64 (n : Int)) (some 57) (by decide) (by rfl) (by kernel_rfl) (by kernel_rfl) (by kernel_rfl) (fun _ _ _ h => h) (by rfl) (fun W hW => by go_simp) (by assumption) ?_
      try simp only [Act.put, List.setIfInBounds_toArray, List.set_cons_zero, List.set_cons_succ]
      refine take_at (i := 29) (.int .i64 ((n : Int) + 3)) (some 58) (by decide) (by rfl) (by kernel_rfl) (by kernel_rfl) (by kernel_rfl) (fun _ _ _ h => h) (by rfl) (fun W hW => by go_simp) (by assumption) ?_
      try simp only [Act.put, List.setIfInBounds_toArray, List.set_cons_zero, List.set_cons_succ]
      refine take_at (i := 30) (.pointer (some ⟨bb, off + (n + 3), none⟩)) (some 59) (by decide) (by rfl) (by kernel_rfl) (by kernel_rfl) (by kernel_rfl) (fun _ _ _ h => h) (by rfl) (fun W hW => by first | (go_simp; done) | (go_simp; intro h9; omega) | (go_simp; omega)) (by assumption) ?_
      try simp only [Act.put, List.setIfInBounds_toArray, List.set_cons_zero, List.set_cons_succ]
      refine take_at (i := 31) (.int .u8 (b3.toNat : Int)) (some 60) (by decide) (by rfl) (by kernel_rfl) (by kernel_rfl) (by kernel_rfl) (fun _ _ _ h => h) (by rfl) (fun W hW => by obtain ⟨s0, s1, s2, s3⟩ := hcs.out W hW; go_simp) (by assumption) ?_
      try simp only [Act.put, List.setIfInBounds_toArray, List.set_cons_zero, List.set_cons_succ]
      refine take_at (i := 32) (.int .u32 (b3.toNat : Int)) (some 61) (by decide) (by rfl) (by kernel_rfl) (by kernel_rfl) (by kernel_rfl) (fun _ _ _ h => h) (by rfl) (fun W hW => by go_simp) (by assumption) ?_
      try simp only [Act.put, List.setIfInBounds_toArray, List.set_cons_zero, List.set_cons_succ]
      refine take_at (i := 33) (.int .u32 (IntKind.u32.wrap (IntKind.u32.wrap (IntKind.u32.wrap (IntKind.u32.wrap ((b0.toNat : Int) * 16777216) + IntKind.u32.wrap ((b1.toNat : Int) * 65536)) + IntKind.u32.wrap ((b2.toNat : Int) * 256)) + (b3.toNat : Int)))) (some 62) (by decide) (by rfl) (by kernel_rfl) (by kernel_rfl) (by kernel_rfl) (fun _ _ _ h => h) (by rfl) (fun W hW => by go_simp) (by assumption) ?_
      try simp only [Act.put, List.setIfInBounds_toArray, List.set_cons_zero, List.set_cons_succ]
      refine take_at (i := 34) (.pointer (some ⟨bw, k, none⟩)) (some 63) (by decide) (by rfl) (by kernel_rfl) (by kernel_rfl) (by kernel_rfl) (fun _ _ _ h => h) (by rfl) (fun W hW => by first | (go_simp; done) | (go_simp; intro h9; omega) | (go_simp; omega)) (by assumption) ?_
      try simp only [Act.put, List.setIfInBounds_toArray, List.set_cons_zero, List.set_cons_succ]
      generalize IntKind.u32.wrap (IntKind.u32.wrap (IntKind.u32.wrap (IntKind.u32.wrap ((b0.toNat : Int) * 16777216) + IntKind.u32.wrap ((b1.toNat : Int) * 65536)) + IntKind.u32.wrap ((b2.toNat : Int) * 256)) + (b3.toNat : Int)) = v9 at HE1 HSW2 ⊢
      have HS2 : Hid ((W0.setCell ⟨bw, k, none⟩ (.int .u32 v9)).heap[bw]? = some (.cells (vw (L.set k v9)).toArray 119)) := by
        have h := heap_setCell_same W0 bw k _ _ (.int .u32 v9) HW1.out
        rw [List.setIfInBounds_toArray, vw_set] at h
        exact h
      have HN2 : Hid (NxAt st Ks w bk br (W0.setCell ⟨bw, k, none⟩ (.int .u32 v9))) := HN1.out.set l1 l2 l3 k _
      clear hHeld
      refine wpAnyH_ready (rs := [35]) (by kernel_rfl) (by simp) (AllReadyH.cons (Array.getElem?_eq_getElem (i := 35) (by decide)) (fun K9 hK => ?_) AllReadyH.nil)
      rw [if_pos (by rfl)]
      unfold Oper.wp
      go_simp
      refine hK.out _ _ (HN2.out.2.2.2) (fun hHeld => ?_)
      clear hK K9
      try simp only [Act.put, List.setIfInBounds_toArray, List.set_cons_zero, List.set_cons_succ]
      refine wpAnyH_done (by kernel_rfl) ?_ _
      try simp only [Act.put, List.setIfInBounds_toArray, List.set_cons_zero, List.set_cons_succ]
      clear hHeld
      go_wp2_with fail
      go_roundw
      case rel => exact ⟨k + 1, L.set k v9, by omega, by go_num, by simp [hL], HSW2, HE1, HS2, HN2⟩
      case measure => simp [intOf]; omega
    · have HE16 : Hid (L = schL blk 16) := (show k = 16 by omega) ▸ HE
      clear HE HCL
      go_wp2_with fail
      go_loopw [9] (fun i wr => ∃ (k : Nat) (L : List Int), 16 ≤ k ∧ k ≤ 64 ∧ i = .int .i64 k ∧ L.length = 64 ∧ Hid (W32L L) ∧ Hid (L = schL blk k) ∧ Hid (wr.heap[bw]? = some (.cells (vw L).toArray 119)) ∧ Hid (NxAt st Ks w bk br wr)) (fun i _ => 64 - (intOf i).toNat)
      case atStart => exact ⟨16, L, by omega, by omega, rfl, hL, HLW, HE16, HW, HN⟩
      case round =>
        clear HE16 HLW HW HN hL hlt hk
        obtain ⟨k, L, hk0, hk, rfl, hL, HLW, HE, HL, HN⟩ := hrel
        have hLw := HLW.out
        by_cases hlt : k < 64
        · obtain ⟨k15, h15⟩ : ∃ j : Nat, j = k - 15 := ⟨_, rfl⟩
          obtain ⟨k2, h2⟩ : ∃ j : Nat, j = k - 2 := ⟨_, rfl⟩
          obtain ⟨k16, h16⟩ : ∃ j : Nat, j = k - 16 := ⟨_, rfl⟩
          obtain ⟨k7, h7⟩ : ∃ j : Nat, j = k - 7 := ⟨_, rfl⟩
          have e15 : IntKind.i64.wrap ((k : Int) - 15) = (k15 : Int) := by rw [show (k : Int) - 15 = (k15 : Int) by omega]; exact Go.wrap_small _ (by omega) (by omega)
          have g15 : (k15 : Int) < 64 := by omega
          have m15 : k15 < L.length := by omega
          have e2 : IntKind.i64.wrap ((k : Int) - 2) = (k2 : Int) := by rw [show (k : Int) - 2 = (k2 : Int) by omega]; exact Go.wrap_small _ (by omega) (by omega)
          have g2 : (k2 : Int) < 64 := by omega
          have m2 : k2 < L.length := by omega
          have e16 : IntKind.i64.wrap ((k : Int) - 16) = (k16 : Int) := by rw [show (k : Int) - 16 = (k16 : Int) by omega]; exact Go.wrap_small _ (by omega) (by omega)
          have g16 : (k16 : Int) < 64 := by omega
          have m16 : k16 < L.length := by omega
          have e7 : IntKind.i64.wrap ((k : Int) - 7) = (k7 : Int) := by rw [show (k : Int) - 7 = (k7 : Int) by omega]; exact Go.wrap_small _ (by omega) (by omega)
          have g7 : (k7 : Int) < 64 := by omega
          have m7 : k7 < L.length := by omega
          have gk : (k : Int) < 64 := by omega
          have hcell : Hid (∀ (W : World) (j : Nat) (hj : j < L.length), W.heap[bw]? = some (.cells (vw L).toArray 119) → W.cell? ⟨bw, j, none⟩ = some (.int .u32 L[j])) := fun W j hj h => by rw [cell_of_row _ _ _ _ _ _ h, List.getElem?_toArray]; exact vw_at L j hj
          have c15 : Hid (∀ W : World, W.heap[bw]? = some (.cells (vw L).toArray 119) → W.cell? ⟨bw, k15, none⟩ = some (.int .u32 L[k15])) := fun W h => hcell.out W k15 m15 h
          have c2 : Hid (∀ W : World, W.heap[bw]? = some (.cells (vw L).toArray 119) → W.cell? ⟨bw, k2, none⟩ = some (.int .u32 L[k2])) := fun W h => hcell.out W k2 m2 h
          have c16 : Hid (∀ W : World, W.heap[bw]? = some (.cells (vw L).toArray 119) → W.cell? ⟨bw, k16, none⟩ = some (.int .u32 L[k16])) := fun W h => hcell.out W k16 m16 h
          have c7 : Hid (∀ W : World, W.heap[bw]? = some (.cells (vw L).toArray 119) → W.cell? ⟨bw, k7, none⟩ = some (.int .u32 L[k7])) := fun W h => hcell.out W k7 m7 h
          have hx := hLw _ (List.getElem_mem m15)
          have hy := hLw _ (List.getElem_mem m2)
          have cw : wr.cell? ⟨bw, k, none⟩ = some (.int .u32 L[k]) := hcell.out wr k (by omega) HL.out
          have fw : wr.frozen? ⟨bw, k, none⟩ = false := frozen_of_row _ _ _ _ _ HL.out
          have gx : L.getD (k - 15) 0 = L[k15] := by rw [← h15, List.getD_eq_getElem?_getD, List.getElem?_eq_getElem m15]; rfl
          generalize L[k15] = x at c15 hx gx
          have Gx := Lib.hid gx
          clear gx
          have gy : L.getD (k - 2) 0 = L[k2] := by rw [← h2, List.getD_eq_getElem?_getD, List.getElem?_eq_getElem m2]; rfl
          generalize L[k2] = y at c2 hy gy
          have Gy := Lib.hid gy
          clear gy
          have ga : L.getD (k - 16) 0 = L[k16] := by rw [← h16, List.getD_eq_getElem?_getD, List.getElem?_eq_getElem m16]; rfl
          generalize L[k16] = a at c16 ga
          have Ga := Lib.hid ga
          clear ga
          have gb : L.getD (k - 7) 0 = L[k7] := by rw [← h7, List.getD_eq_getElem?_getD, List.getElem?_eq_getElem m7]; rfl
          generalize L[k7] = b at c7 gb
          have Gb := Lib.hid gb
          clear gb
          have HX := Lib.hid hx
          have HY := Lib.hid hy
          have hx0 := hx.1
          have hy0 := hy.1
          have n16 : ¬ k = k16 := by omega
          have n7 : ¬ k = k7 := by omega
          have n16b : ¬ k16 = k := by omega
          have n7b : ¬ k7 = k := by omega
          clear hx hy h15 h2 h16 h7 m15 m2 m16 m7 hcell
          have FW : Hid (wr.frozen? ⟨bw, k, none⟩ = false) := fw
          have CW : Hid (wr.cell? ⟨bw, k, none⟩ = some (.int .u32 L[k])) := cw
          clear hLw cw fw
          go_wp2_with fail
          obtain ⟨w1, hw1⟩ : ∃ v, wr.drew = v := ⟨_, rfl⟩
          have HL1 : Hid (w1.heap[bw]? = some (.cells (vw L).toArray 119)) := by rw [← hw1]; exact HL.out
          have HN1 : Hid (NxAt st Ks w bk br w1) := by rw [← hw1]; exact HN.out.drew
          have CW1 : Hid (w1.cell? ⟨bw, k, none⟩ = some (.int .u32 L[k])) := by rw [← hw1]; exact CW.out
          have FW1 : Hid (w1.frozen? ⟨bw, k, none⟩ = false) := by rw [← hw1]; exact FW.out
          clear HL HN CW FW
          refine region_begin hw1 (S := fun W => W.heap[bw]? = some (.cells (vw L).toArray 119)) (by kernel_rfl) HL1.out (fun hHeld => ?_)
          clear hw1
          refine take_at (i := 0) (.int .i64 (k : Int)) (some 68) (by decide) (by rfl) (by kernel_rfl) (by kernel_rfl) (by kernel_rfl) (fun _ _ _ h => h) (by rfl) (fun W hW => by go_simp) (by assumption) ?_
          try simp only [Act.put, List.setIfInBounds_toArray, List.set_cons_zero, List.set_cons_succ]
          refine take_at (i := 1) (.int .i64 (k15 : Int)) (some 69) (by decide) (by rfl) (by kernel_rfl) (by kernel_rfl) (by kernel_rfl) (fun _ _ _ h => h) (by rfl) (fun W hW => by go_simp) (by assumption) ?_
          try simp only [Act.put, List.setIfInBounds_toArray, List.set_cons_zero, List.set_cons_succ]
          refine take_at (i := 2) (.pointer (some ⟨bw, k15, none⟩)) (some 70) (by decide) (by rfl) (by kernel_rfl) (by kernel_rfl) (by kernel_rfl) (fun _ _ _ h => h) (by rfl) (fun W hW => by first | (go_simp; done) | (go_simp; intro h9; omega)) (by assumption) ?_
          try simp only [Act.put, List.setIfInBounds_toArray, List.set_cons_zero, List.set_cons_succ]
          refine take_at (i := 3) (.int .u32 x) (some 71) (by decide) (by rfl) (by kernel_rfl) (by kernel_rfl) (by kernel_rfl) (fun _ _ _ h => h) (by rfl) (fun W hW => by have := c15.out W hW; go_simp) (by assumption) ?_
          try simp only [Act.put, List.setIfInBounds_toArray, List.set_cons_zero, List.set_cons_succ]
          refine take_at (i := 4) (.int .i64 (k : Int)) (some 72) (by decide) (by rfl) (by kernel_rfl) (by kernel_rfl) (by kernel_rfl) (fun _ _ _ h => h) (by rfl) (fun W hW => by go_simp) (by assumption) ?_
          try simp only [Act.put, List.setIfInBounds_toArray, List.set_cons_zero, List.set_cons_succ]
          refine take_at (i := 5) (.int .i64 (k2 : Int)) (some 73) (by decide) (by rfl) (by kernel_rfl) (by kernel_rfl) (by kernel_rfl) (fun _ _ _ h => h) (by rfl) (fun W hW => by go_simp) (by assumption) ?_
          try simp only [Act.put, List.setIfInBounds_toArray, List.set_cons_zero, List.set_cons_succ]
          refine take_at (i := 6) (.pointer (some ⟨bw, k2, none⟩)) (some 74) (by decide) (by rfl) (by kernel_rfl) (by kernel_rfl) (by kernel_rfl) (fun _ _ _ h => h) (by rfl) (fun W hW => by first | (go_simp; done) | (go_simp; intro h9; omega)) (by assumption) ?_
          try simp only [Act.put, List.setIfInBounds_toArray, List.set_cons_zero, List.set_cons_succ]
          refine take_at (i := 7) (.int .u32 y) (some 75) (by decide) (by rfl) (by kernel_rfl) (by kernel_rfl) (by kernel_rfl) (fun _ _ _ h => h) (by rfl) (fun W hW => by have := c2.out W hW; go_simp) (by assumption) ?_
          try simp only [Act.put, List.setIfInBounds_toArray, List.set_cons_zero, List.set_cons_succ]
          refine take_at (i := 8) (.int .u32 x) (some 10) (by decide) (by rfl) (by kernel_rfl) (by kernel_rfl) (by kernel_rfl) (fun _ _ _ h => h) (by rfl) (fun W hW => by go_simp) (by assumption) ?_
          try simp only [Act.put, List.setIfInBounds_toArray, List.set_cons_zero, List.set_cons_succ]
          refine take_at (i := 9) (.int .u32 y) (some 11) (by decide) (by rfl) (by kernel_rfl) (by kernel_rfl) (by kernel_rfl) (fun _ _ _ h => h) (by rfl) (fun W hW => by go_simp) (by assumption) ?_
          try simp only [Act.put, List.setIfInBounds_toArray, List.set_cons_zero, List.set_cons_succ]
          refine wpAnyH_done (by kernel_rfl) ?_ _
          try simp only [Act.put, List.setIfInBounds_toArray, List.set_cons_zero, List.set_cons_succ]
          clear c15 c2 hHeld
          go_wp2_with fail
          refine (rturn_7 x _ HX.out).mono ?_
          rintro e wt ⟨rfl, rfl⟩
          go_wp2_with fail
          refine (rturn_18 x _ HX.out).mono ?_
          rintro e wt ⟨rfl, rfl⟩
          go_wp2_with fail
          refine (rturn_17 y _ HY.out).mono ?_
          rintro e wt ⟨rfl, rfl⟩
          go_wp2_with fail
          refine (rturn_19 y _ HY.out).mono ?_
          rintro e wt ⟨rfl, rfl⟩
          go_wp2_with fail
          generalize hs9 : bits .xor .u32 (bits .xor .u32 (rot x 33554432 128) (rot x 16384 262144)) (x / 8) = s
          have HS9 := Lib.hid hs9
          clear hs9
          generalize ht9 : bits .xor .u32 (bits .xor .u32 (rot y 32768 131072) (rot y 8192 524288)) (y / 1024) = t
          have HT9 := Lib.hid ht9
          clear ht9
          have d16 := c16.out w1 HL1.out
          have d7 := c7.out w1 HL1.out
          clear c16 c7
          obtain ⟨w2, hw2⟩ : ∃ v, w1.drew = v := ⟨_, rfl⟩
          have HL2 : Hid (w2.heap[bw]? = some (.cells (vw L).toArray 119)) := by rw [← hw2]; exact HL1.out
          have HN2 : Hid (NxAt st Ks w bk br w2) := by rw [← hw2]; exact HN1.out.drew
          have cw2 : w2.cell? ⟨bw, k, none⟩ = some (.int .u32 L[k]) := by rw [← hw2]; exact CW1.out
          have fw2 : w2.frozen? ⟨bw, k, none⟩ = false := by rw [← hw2]; exact FW1.out
          have e16 : w2.cell? ⟨bw, k16, none⟩ = some (.int .u32 a) := by rw [← hw2]; exact d16
          have e7 : w2.cell? ⟨bw, k7, none⟩ = some (.int .u32 b) := by rw [← hw2]; exact d7
          clear HL1 HN1 CW1 FW1 d16 d7
          refine region_begin hw2 (S := fun W => W.cell? ⟨bw, k16, none⟩ = some (.int .u32 a) ∧ W.cell? ⟨bw, k7, none⟩ = some (.int .u32 b)) (by kernel_rfl) ⟨e16, e7⟩ (fun hHeld => ?_)
          clear hw2
          refine take_at (i := 0) (.int .i64 (k : Int)) (some 92) (by decide) (by rfl) (by kernel_rfl) (by kernel_rfl) (by kernel_rfl) (fun _ _ _ h => h) (by rfl) (fun W hW => by go_simp) (by assumption) ?_
          try simp only [Act.put, List.setIfInBounds_toArray, List.set_cons_zero, List.set_cons_succ]
          refine take_at (i := 1) (.int .i64 (k : Int)) (some 93) (by decide) (by rfl) (by kernel_rfl) (by kernel_rfl) (by kernel_rfl) (fun _ _ _ h => h) (by rfl) (fun W hW => by go_simp) (by assumption) ?_
          try simp only [Act.put, List.setIfInBounds_toArray, List.set_cons_zero, List.set_cons_succ]
          refine take_at (i := 2) (.int .i64 (k16 : Int)) (some 94) (by decide) (by rfl) (by kernel_rfl) (by kernel_rfl) (by kernel_rfl) (fun _ _ _ h => h) (by rfl) (fun W hW => by go_simp) (by assumption) ?_
          try simp only [Act.put, List.setIfInBounds_toArray, List.set_cons_zero, List.set_cons_succ]
          refine take_at (i := 3) (.pointer (some ⟨bw, k16, none⟩)) (some 95) (by decide) (by rfl) (by kernel_rfl) (by kernel_rfl) (by kernel_rfl) (fun _ _ _ h => h) (by rfl) (fun W hW => by first | (go_simp; done) | (go_simp; intro h9; omega)) (by assumption) ?_
          try simp only [Act.put, List.setIfInBounds_toArray, List.set_cons_zero, List.set_cons_succ]
          refine take_at (i := 4) (.int .u32 a) (some 96) (by decide) (by rfl) (by kernel_rfl) (by kernel_rfl) (by kernel_rfl) (fun _ _ _ h => h) (by rfl) (fun W hW => by have h9 := hW.1; go_simp) (by assumption) ?_
          try simp only [Act.put, List.setIfInBounds_toArray, List.set_cons_zero, List.set_cons_succ]
          refine take_at (i := 5) (.int .u32 s) (some 97) (by decide) (by rfl) (by kernel_rfl) (by kernel_rfl) (by kernel_rfl) (fun _ _ _ h => h) (by rfl) (fun W hW => by go_simp) (by assumption) ?_
          try simp only [Act.put, List.setIfInBounds_toArray, List.set_cons_zero, List.set_cons_succ]
          refine take_at (i := 6) (.int .u32 (IntKind.u32.wrap (a + s))) (some 98) (by decide) (by rfl) (by kernel_rfl) (by kernel_rfl) (by kernel_rfl) (fun _ _ _ h => h) (by rfl) (fun W hW => by go_simp) (by assumption) ?_
          try simp only [Act.put, List.setIfInBounds_toArray, List.set_cons_zero, List.set_cons_succ]
          refine take_at (i := 7) (.int .i64 (k : Int)) (some 99) (by decide) (by rfl) (by kernel_rfl) (by kernel_rfl) (by kernel_rfl) (fun _ _ _ h => h) (by rfl) (fun W hW => by go_simp) (by assumption) ?_
          try simp only [Act.put, List.setIfInBounds_toArray, List.set_cons_zero, List.set_cons_succ]
          refine take_at (i := 8) (.int .i64 (k7 : Int)) (some 100) (by decide) (by rfl) (by kernel_rfl) (by kernel_rfl) (by kernel_rfl) (fun _ _ _ h => h) (by rfl) (fun W hW => by go_simp) (by assumption) ?_
          try simp only [Act.put, List.setIfInBounds_toArray, List.set_cons_zero, List.set_cons_succ]
          refine take_at (i := 9) (.pointer (some ⟨bw, k7, none⟩)) (some 101) (by decide) (by rfl) (by kernel_rfl) (by kernel_rfl) (by kernel_rfl) (fun _ _ _ h => h) (by rfl) (fun W hW => by first | (go_simp; done) | (go_simp; intro h9; omega)) (by assumption) ?_
          try simp only [Act.put, List.setIfInBounds_toArray, List.set_cons_zero, List.set_cons_succ]
          refine take_at (i := 10) (.int .u32 b) (some 102) (by decide) (by rfl) (by kernel_rfl) (by kernel_rfl) (by kernel_rfl) (fun _ _ _ h => h) (by rfl) (fun W hW => by have h9 := hW.2; go_simp) (by assumption) ?_
          try simp only [Act.put, List.setIfInBounds_toArray, List.set_cons_zero, List.set_cons_succ]
          refine take_at (i := 11) (.int .u32 (IntKind.u32.wrap (IntKind.u32.wrap (a + s) + b))) (some 103) (by decide) (by rfl) (by kernel_rfl) (by kernel_rfl) (by kernel_rfl) (fun _ _ _ h => h) (by rfl) (fun W hW => by go_simp) (by assumption) ?_
          try simp only [Act.put, List.setIfInBounds_toArray, List.set_cons_zero, List.set_cons_succ]
          refine take_at (i := 12) (.int .u32 t) (some 104) (by decide) (by rfl) (by kernel_rfl) (by kernel_rfl) (by kernel_rfl) (fun _ _ _ h => h) (by rfl) (fun W hW => by go_simp) (by assumption) ?_
          try simp only [Act.put, List.setIfInBounds_toArray, List.set_cons_zero, List.set_cons_succ]
          refine take_at (i := 13) (.int .u32 (IntKind.u32.wrap (IntKind.u32.wrap (IntKind.u32.wrap (a + s) + b) + t))) (some 105) (by decide) (by rfl) (by kernel_rfl) (by kernel_rfl) (by kernel_rfl) (fun _ _ _ h => h) (by rfl) (fun W hW => by go_simp) (by assumption) ?_
          try simp only [Act.put, List.setIfInBounds_toArray, List.set_cons_zero, List.set_cons_succ]
          refine take_at (i := 14) (.pointer (some ⟨bw, k, none⟩)) (some 106) (by decide) (by rfl) (by kernel_rfl) (by kernel_rfl) (by kernel_rfl) (fun _ _ _ h => h) (by rfl) (fun W hW => by first | (go_simp; done) | (go_simp; intro h9; omega)) (by assumption) ?_
          try simp only [Act.put, List.setIfInBounds_toArray, List.set_cons_zero, List.set_cons_succ]
          have hV : W32 (IntKind.u32.wrap (IntKind.u32.wrap (IntKind.u32.wrap (a + s) + b) + t)) := by rw [IntKind.wrap_u32']; exact W32.mod _
          have hVe : IntKind.u32.wrap (IntKind.u32.wrap (IntKind.u32.wrap (a + s) + b) + t) = ext L k := by
            unfold ext sg0 sg1
            rw [Gx.out, Gy.out, Ga.out, Gb.out, HS9.out, HT9.out]
          have HE2 : Hid (L.set k (IntKind.u32.wrap (IntKind.u32.wrap (IntKind.u32.wrap (a + s) + b) + t)) = schL blk (k + 1)) := by
            unfold Hid
            rw [hVe, schL, if_neg (by omega), ← HE.out]
          clear hVe
          generalize IntKind.u32.wrap (IntKind.u32.wrap (IntKind.u32.wrap (a + s) + b) + t) = v9 at hV HE2 ⊢
          have HSW2 : Hid (W32L (L.set k v9)) := W32L.set HLW.out k _ hV
          have HS2 : Hid ((w2.setCell ⟨bw, k, none⟩ (.int .u32 v9)).heap[bw]? = some (.cells (vw (L.set k v9)).toArray 119)) := by
            have h := heap_setCell_same w2 bw k _ _ (.int .u32 v9) HL2.out
            rw [List.setIfInBounds_toArray, vw_set] at h
            exact h
          have HN3 : Hid (NxAt st Ks w bk br (w2.setCell ⟨bw, k, none⟩ (.int .u32 v9))) := HN2.out.set l1 l2 l3 k _
          clear hHeld hV
          refine wpAnyH_ready (rs := [15]) (by kernel_rfl) (by simp) (AllReadyH.cons (Array.getElem?_eq_getElem (i := 15) (by decide)) (fun K9 hK => ?_) AllReadyH.nil)
          rw [if_pos (by rfl)]
          unfold Oper.wp
          go_simp
          refine hK.out _ _ ⟨(World.cell?_setCell_other _ _ _ _ (by simp [n16, n16b])).trans e16, (World.cell?_setCell_other _ _ _ _ (by simp [n7, n7b])).trans e7⟩ (fun hHeld => ?_)
          clear hK K9
          try simp only [Act.put, List.setIfInBounds_toArray, List.set_cons_zero, List.set_cons_succ]
          refine wpAnyH_done (by kernel_rfl) ?_ _
          try simp only [Act.put, List.setIfInBounds_toArray, List.set_cons_zero, List.set_cons_succ]
          clear hHeld cw2 fw2 e16 e7
          go_wp2_with fail
          go_roundw
          case rel => exact ⟨k + 1, L.set k v9, by omega, by omega, by go_num, by simp [hL], HSW2, HE2, HS2, HN3⟩
          case measure => simp [intOf]; omega
        · have hk64 : k = 64 := by omega
          have HLE : Kept (schL blk 64 = L) := ⟨hk64 ▸ HE.out.symm⟩
          clear hk64
          clear hLw HE
          obtain ⟨a0, b0, c0, d0, e0, f0, g0, h0, rfl⟩ : ∃ a b c d e f g h, st = [a, b, c, d, e, f, g, h] := by
            match st, hs with
            | [a, b, c, d, e, f, g, h], _ => exact ⟨a, b, c, d, e, f, g, h, rfl⟩
          have hcs : Hid (∀ W : World, W.heap[w.heap.size]? = some (.cells (vw [a0, b0, c0, d0, e0, f0, g0, h0]).toArray 105) → W.cell? ⟨w.heap.size, 0, none⟩ = some (.int .u32 a0) ∧ W.cell? ⟨w.heap.size, 1, none⟩ = some (.int .u32 b0) ∧ W.cell? ⟨w.heap.size, 2, none⟩ = some (.int .u32 c0) ∧ W.cell? ⟨w.heap.size, 3, none⟩ = some (.int .u32 d0) ∧ W.cell? ⟨w.heap.size, 4, none⟩ = some (.int .u32 e0) ∧ W.cell? ⟨w.heap.size, 5, none⟩ = some (.int .u32 f0) ∧ W.cell? ⟨w.heap.size, 6, none⟩ = some (.int .u32 g0) ∧ W.cell? ⟨w.heap.size, 7, none⟩ = some (.int .u32 h0)) := fun W h => ⟨cell_of_row _ _ _ _ _ _ h, cell_of_row _ _ _ _ _ _ h, cell_of_row _ _ _ _ _ _ h, cell_of_row _ _ _ _ _ _ h, cell_of_row _ _ _ _ _ _ h, cell_of_row _ _ _ _ _ _ h, cell_of_row _ _ _ _ _ _ h, cell_of_row _ _ _ _ _ _ h⟩
          go_wp2_with fail
          clear hlt hk hk0
          obtain ⟨w3, hw3⟩ : ∃ v, wr.drew = v := ⟨_, rfl⟩
          have HL3 : Hid (w3.heap[bw]? = some (.cells (vw L).toArray 119)) := by rw [← hw3]; exact HL.out
          have HN3 : Hid (NxAt [a0, b0, c0, d0, e0, f0, g0, h0] Ks w bk br w3) := by rw [← hw3]; exact HN.out.drew
          clear HL HN
          refine region_begin hw3 (S := fun W => W.heap[w.heap.size]? = some (.cells (vw [a0, b0, c0, d0, e0, f0, g0, h0]).toArray 105)) (by kernel_rfl) HN3.out.1 (fun hHeld => ?_)
          clear hw3
          refine take_at (i := 0) (.pointer (some ⟨w.heap.size, 0, none⟩)) (some 107) (by decide) (by rfl) (by kernel_rfl) (by kernel_rfl) (by kernel_rfl) (fun _ _ _ h => h) (by rfl) (fun W hW => by go_simp) (by assumption) ?_
          try simp only [Act.put, List.setIfInBounds_toArray, List.set_cons_zero, List.set_cons_succ]
          refine take_at (i := 1) (.int .u32 a0) (some 108) (by decide) (by rfl) (by kernel_rfl) (by kernel_rfl) (by kernel_rfl) (fun _ _ _ h => h) (by rfl) (fun W hW => by obtain ⟨s0, s1, s2, s3, s4, s5, s6, s7⟩ := hcs.out W hW; go_simp) (by assumption) ?_
          try simp only [Act.put, List.setIfInBounds_toArray, List.set_cons_zero, List.set_cons_succ]
          refine take_at (i := 2) (.pointer (some ⟨w.heap.size, 1, none⟩)) (some 109) (by decide) (by rfl) (by kernel_rfl) (by kernel_rfl) (by kernel_rfl) (fun _ _ _ h => h) (by rfl) (fun W hW => by go_simp) (by assumption) ?_
          try simp only [Act.put, List.setIfInBounds_toArray, List.set_cons_zero, List.set_cons_succ]
          refine take_at (i := 3) (.int .u32 b0) (some 110) (by decide) (by rfl) (by kernel_rfl) (by kernel_rfl) (by kernel_rfl) (fun _ _ _ h => h) (by rfl) (fun W hW => by obtain ⟨s0, s1, s2, s3, s4, s5, s6, s7⟩ := hcs.out W hW; go_simp) (by assumption) ?_
          try simp only [Act.put, List.setIfInBounds_toArray, List.set_cons_zero, List.set_cons_succ]
          refine take_at (i := 4) (.pointer (some ⟨w.heap.size, 2, none⟩)) (some 111) (by decide) (by rfl) (by kernel_rfl) (by kernel_rfl) (by kernel_rfl) (fun _ _ _ h => h) (by rfl) (fun W hW => by go_simp) (by assumption) ?_
          try simp only [Act.put, List.setIfInBounds_toArray, List.set_cons_zero, List.set_cons_succ]
          refine take_at (i := 5) (.int .u32 c0) (some 112) (by decide) (by rfl) (by kernel_rfl) (by kernel_rfl) (by kernel_rfl) (fun _ _ _ h => h) (by rfl) (fun W hW => by obtain ⟨s0, s1, s2, s3, s4, s5, s6, s7⟩ := hcs.out W hW; go_simp) (by assumption) ?_
          try simp only [Act.put, List.setIfInBounds_toArray, List.set_cons_zero, List.set_cons_succ]
          refine take_at (i := 6) (.pointer (some ⟨w.heap.size, 3, none⟩)) (some 113) (by decide) (by rfl) (by kernel_rfl) (by kernel_rfl) (by kernel_rfl) (fun _ _ _ h => h) (by rfl) (fun W hW => by go_simp) (by assumption) ?_
          try simp only [Act.put, List.setIfInBounds_toArray, List.set_cons_zero, List.set_cons_succ]
          refine take_at (i := 7) (.int .u32 d0) (some 114) (by decide) (by rfl) (by kernel_rfl) (by kernel_rfl) (by kernel_rfl) (fun _ _ _ h => h) (by rfl) (fun W hW => by obtain ⟨s0, s1, s2, s3, s4, s5, s6, s7⟩ := hcs.out W hW; go_simp) (by assumption) ?_
          try simp only [Act.put, List.setIfInBounds_toArray, List.set_cons_zero, List.set_cons_succ]
          refine take_at (i := 8) (.pointer (some ⟨w.heap.size, 4, none⟩)) (some 115) (by decide) (by rfl) (by kernel_rfl) (by kernel_rfl) (by kernel_rfl) (fun _ _ _ h => h) (by rfl) (fun W hW => by go_simp) (by assumption) ?_
          try simp only [Act.put, List.setIfInBounds_toArray, List.set_cons_zero, List.set_cons_succ]
          refine take_at (i := 9) (.int .u32 e0) (some 116) (by decide) (by rfl) (by kernel_rfl) (by kernel_rfl) (by kernel_rfl) (fun _ _ _ h => h) (by rfl) (fun W hW => by obtain ⟨s0, s1, s2, s3, s4, s5, s6, s7⟩ := hcs.out W hW; go_simp) (by assumption) ?_
          try simp only [Act.put, List.setIfInBounds_toArray, List.set_cons_zero, List.set_cons_succ]
          refine take_at (i := 10) (.pointer (some ⟨w.heap.size, 5, none⟩)) (some 117) (by decide) (by rfl) (by kernel_rfl) (by kernel_rfl) (by kernel_rfl) (fun _ _ _ h => h) (by rfl) (fun W hW => by go_simp) (by assumption) ?_
          try simp only [Act.put, List.setIfInBounds_toArray, List.set_cons_zero, List.set_cons_succ]
          refine take_at (i := 11) (.int .u32 f0) (some 118) (by decide) (by rfl) (by kernel_rfl) (by kernel_rfl) (by kernel_rfl) (fun _ _ _ h => h) (by rfl) (fun W hW => by obtain ⟨s0, s1, s2, s3, s4, s5, s6, s7⟩ := hcs.out W hW; go_simp) (by assumption) ?_
          try simp only [Act.put, List.setIfInBounds_toArray, List.set_cons_zero, List.set_cons_succ]
          refine take_at (i := 12) (.pointer (some ⟨w.heap.size, 6, none⟩)) (some 119) (by decide) (by rfl) (by kernel_rfl) (by kernel_rfl) (by kernel_rfl) (fun _ _ _ h => h) (by rfl) (fun W hW => by go_simp) (by assumption) ?_
          try simp only [Act.put, List.setIfInBounds_toArray, List.set_cons_zero, List.set_cons_succ]
          refine take_at (i := 13) (.int .u32 g0) (some 120) (by decide) (by rfl) (by kernel_rfl) (by kernel_rfl) (by kernel_rfl) (fun _ _ _ h => h) (by rfl) (fun W hW => by obtain ⟨s0, s1, s2, s3, s4, s5, s6, s7⟩ := hcs.out W hW; go_simp) (by assumption) ?_
          try simp only [Act.put, List.setIfInBounds_toArray, List.set_cons_zero, List.set_cons_succ]
          refine take_at (i := 14) (.pointer (some ⟨w.heap.size, 7, none⟩)) (some 121) (by decide) (by rfl) (by kernel_rfl) (by kernel_rfl) (by kernel_rfl) (fun _ _ _ h => h) (by rfl) (fun W hW => by go_simp) (by assumption) ?_
          try simp only [Act.put, List.setIfInBounds_toArray, List.set_cons_zero, List.set_cons_succ]
          refine take_at (i := 15) (.int .u32 h0) (some 122) (by decide) (by rfl) (by kernel_rfl) (by kernel_rfl) (by kernel_rfl) (fun _ _ _ h => h) (by rfl) (fun W hW => by obtain ⟨s0, s1, s2, s3, s4, s5, s6, s7⟩ := hcs.out W hW; go_simp) (by assumption) ?_
          try simp only [Act.put, List.setIfInBounds_toArray, List.set_cons_zero, List.set_cons_succ]
          refine take_at (i := 16) (.int .u32 a0) (some 14) (by decide) (by rfl) (by kernel_rfl) (by kernel_rfl) (by kernel_rfl) (fun _ _ _ h => h) (by rfl) (fun W hW => by go_simp) (by assumption) ?_
          try simp only [Act.put, List.setIfInBounds_toArray, List.set_cons_zero, List.set_cons_succ]
          refine take_at (i := 17) (.int .u32 b0) (some 15) (by decide) (by rfl) (by kernel_rfl) (by kernel_rfl) (by kernel_rfl) (fun _ _ _ h => h) (by rfl) (fun W hW => by go_simp) (by assumption) ?_
          try simp only [Act.put, List.setIfInBounds_toArray, List.set_cons_zero, List.set_cons_succ]
          refine take_at (i := 18) (.int .u32 c0) (some 16) (by decide) (by rfl) (by kernel_rfl) (by kernel_rfl) (by kernel_rfl) (fun _ _ _ h => h) (by rfl) (fun W hW => by go_simp) (by assumption) ?_
          try simp only [Act.put, List.setIfInBounds_toArray, List.set_cons_zero, List.set_cons_succ]
          refine take_at (i := 19) (.int .u32 d0) (some 17) (by decide) (by rfl) (by kernel_rfl) (by kernel_rfl) (by kernel_rfl) (fun _ _ _ h => h) (by rfl) (fun W hW => by go_simp) (by assumption) ?_
          try simp only [Act.put, List.setIfInBounds_toArray, List.set_cons_zero, List.set_cons_succ]
          refine take_at (i := 20) (.int .u32 e0) (some 18) (by decide) (by rfl) (by kernel_rfl) (by kernel_rfl) (by kernel_rfl) (fun _ _ _ h => h) (by rfl) (fun W hW => by go_simp) (by assumption) ?_
          try simp only [Act.put, List.setIfInBounds_toArray, List.set_cons_zero, List.set_cons_succ]
          refine take_at (i := 21) (.int .u32 f0) (some 19) (by decide) (by rfl) (by kernel_rfl) (by kernel_rfl) (by kernel_rfl) (fun _ _ _ h => h) (by rfl) (fun W hW => by go_simp) (by assumption) ?_
          try simp only [Act.put, List.setIfInBounds_toArray, List.set_cons_zero, List.set_cons_succ]
          refine take_at (i := 22) (.int .u32 g0) (some 20) (by decide) (by rfl) (by kernel_rfl) (by kernel_rfl) (by kernel_rfl) (fun _ _ _ h => h) (by rfl) (fun W hW => by go_simp) (by assumption) ?_
          try simp only [Act.put, List.setIfInBounds_toArray, List.set_cons_zero, List.set_cons_succ]
          refine take_at (i := 23) (.int .u32 h0) (some 21) (by decide) (by rfl) (by kernel_rfl) (by kernel_rfl) (by kernel_rfl) (fun _ _ _ h => h) (by rfl) (fun W hW => by go_simp) (by assumption) ?_
          try simp only [Act.put, List.setIfInBounds_toArray, List.set_cons_zero, List.set_cons_succ]
          refine wpAnyH_done (by kernel_rfl) ?_ _
          try simp only [Act.put, List.setIfInBounds_toArray, List.set_cons_zero, List.set_cons_succ]
          clear hHeld
          have i0 : W32 a0 ∧ W32 b0 ∧ W32 c0 ∧ W32 d0 ∧ W32 e0 ∧ W32 f0 ∧ W32 g0 ∧ W32 h0 := ⟨hsw _ (by simp), hsw _ (by simp), hsw _ (by simp), hsw _ (by simp), hsw _ (by simp), hsw _ (by simp), hsw _ (by simp), hsw _ (by simp)⟩
          have I0 := Lib.hid i0
          clear i0 hsw hs
          go_wp2_with fail
          go_loopw [14, 15, 16, 17, 18, 19, 20, 21, 22] (fun va vb vc vd ve vf vg vh i wr => ∃ (k : Nat) (a b c d e f g h : Int), k ≤ 64 ∧ i = .int .i64 k ∧ Hid ((⟨a, b, c, d, e, f, g, h⟩ : Oct) = rndsO Ks L ⟨a0, b0, c0, d0, e0, f0, g0, h0⟩ k) ∧ va = .int .u32 a ∧ vb = .int .u32 b ∧ vc = .int .u32 c ∧ vd = .int .u32 d ∧ ve = .int .u32 e ∧ vf = .int .u32 f ∧ vg = .int .u32 g ∧ vh = .int .u32 h ∧ Hid (W32 a ∧ W32 b ∧ W32 c ∧ W32 d ∧ W32 e ∧ W32 f ∧ W32 g ∧ W32 h) ∧ Hid (wr.heap[bw]? = some (.cells (vw L).toArray 119)) ∧ Hid (NxAt [a0, b0, c0, d0, e0, f0, g0, h0] Ks w bk br wr)) (fun _ _ _ _ _ _ _ _ i _ => 64 - (intOf i).toNat)
          case atStart => exact ⟨0, a0, b0, c0, d0, e0, f0, g0, h0, by omega, rfl, rfl, rfl, rfl, rfl, rfl, rfl, rfl, rfl, rfl, I0, HL3, HN3⟩
          case round =>
            clear HL3 HN3 I0
            obtain ⟨k, a, b, c1, d, e, f, g, h, hk, rfl, HOE, rfl, rfl, rfl, rfl, rfl, rfl, rfl, rfl, HI, HW, HN⟩ := hrel
            by_cases hlt : k < 64
            · have hkL : k < L.length := by omega
              have hkK : k < Ks.length := by omega
              have cw : Hid (∀ W : World, W.heap[bw]? = some (.cells (vw L).toArray 119) → W.cell? ⟨bw, k, none⟩ = some (.int .u32 L[k])) := fun W h => by rw [cell_of_row _ _ _ _ _ _ h, List.getElem?_toArray]; exact vw_at L k hkL
              have ck : Hid (∀ W : World, W.heap[bk]? = some (.cells (vw Ks).toArray 119) → W.cell? ⟨bk, k, none⟩ = some (.int .u32 Ks[k])) := fun W h => by rw [cell_of_row _ _ _ _ _ _ h, List.getElem?_toArray]; exact vw_at Ks k hkK
              have gy : L.getD k 0 = L[k] := by rw [List.getD_eq_getElem?_getD, List.getElem?_eq_getElem hkL]; rfl
              have gx : Ks.getD k 0 = Ks[k] := by rw [List.getD_eq_getElem?_getD, List.getElem?_eq_getElem hkK]; rfl
              generalize L[k] = y at cw gy
              generalize Ks[k] = x at ck gx
              have GX := Lib.hid gx
              have GY := Lib.hid gy
              clear gx gy
              have he := HI.out.2.2.2.2.1
              have HEE := Lib.hid he
              have HA := Lib.hid HI.out.1
              have he0 := he.1
              have he1 := he.2
              have gk : (k : Int) < 64 := by omega
              clear he hkK hkL
              go_wp2_with fail
              obtain ⟨w5, hw5⟩ : ∃ v, wr.drew = v := ⟨_, rfl⟩
              have HW5 : Hid (w5.heap[bw]? = some (.cells (vw L).toArray 119)) := by rw [← hw5]; exact HW.out
              have HN5 : Hid (NxAt [a0, b0, c0, d0, e0, f0, g0, h0] Ks w bk br w5) := by rw [← hw5]; exact HN.out.drew
              clear HW HN
              refine region_begin hw5 (S := fun W => W.heap[bw]? = some (.cells (vw L).toArray 119) ∧ W.heap[bk]? = some (.cells (vw Ks).toArray 119)) (by kernel_rfl) ⟨HW5.out, HN5.out.2.1⟩ (fun hHeld => ?_)
              clear hw5
              refine take_at (i := 0) (.int .u32 h) (some 127) (by decide) (by rfl) (by kernel_rfl) (by kernel_rfl) (by kernel_rfl) (fun _ _ _ h => h) (by rfl) (fun W hW => by go_simp) (by assumption) ?_
              try simp only [Act.put, List.setIfInBounds_toArray, List.set_cons_zero, List.set_cons_succ]
              refine take_at (i := 1) (.int .u32 e) (some 128) (by decide) (by rfl) (by kernel_rfl) (by kernel_rfl) (by kernel_rfl) (fun _ _ _ h => h) (by rfl) (fun W hW => by go_simp) (by assumption) ?_
              try simp only [Act.put, List.setIfInBounds_toArray, List.set_cons_zero, List.set_cons_succ]
              refine take_at (i := 4) (.int .u32 e) (some 131) (by decide) (by rfl) (by kernel_rfl) (by kernel_rfl) (by kernel_rfl) (fun _ _ _ h => h) (by rfl) (fun W hW => by go_simp) (by assumption) ?_
              try simp only [Act.put, List.setIfInBounds_toArray, List.set_cons_zero, List.set_cons_succ]
              refine take_at (i := 5) (.int .u32 f) (some 132) (by decide) (by rfl) (by kernel_rfl) (by kernel_rfl) (by kernel_rfl) (fun _ _ _ h => h) (by rfl) (fun W hW => by go_simp) (by assumption) ?_
              try simp only [Act.put, List.setIfInBounds_toArray, List.set_cons_zero, List.set_cons_succ]
              refine take_at (i := 6) (.int .u32 (bits .and .u32 e f)) (some 133) (by decide) (by rfl) (by kernel_rfl) (by kernel_rfl) (by kernel_rfl) (fun _ _ _ h => h) (by rfl) (fun W hW => by go_simp) (by assumption) ?_
              try simp only [Act.put, List.setIfInBounds_toArray, List.set_cons_zero, List.set_cons_succ]
              refine take_at (i := 7) (.int .u32 e) (some 134) (by decide) (by rfl) (by kernel_rfl) (by kernel_rfl) (by kernel_rfl) (fun _ _ _ h => h) (by rfl) (fun W hW => by go_simp) (by assumption) ?_
              try simp only [Act.put, List.setIfInBounds_toArray, List.set_cons_zero, List.set_cons_succ]
              refine take_at (i := 8) (.int .u32 (bits .xor .u32 4294967295 e)) (some 135) (by decide) (by rfl) (by kernel_rfl) (by kernel_rfl) (by kernel_rfl) (fun _ _ _ h => h) (by rfl) (fun W hW => by go_simp; rfl) (by assumption) ?_
              try simp only [Act.put, List.setIfInBounds_toArray, List.set_cons_zero, List.set_cons_succ]
              refine take_at (i := 9) (.int .u32 g) (some 136) (by decide) (by rfl) (by kernel_rfl) (by kernel_rfl) (by kernel_rfl) (fun _ _ _ h => h) (by rfl) (fun W hW => by go_simp) (by assumption) ?_
              try simp only [Act.put, List.setIfInBounds_toArray, List.set_cons_zero, List.set_cons_succ]
              refine take_at (i := 10) (.int .u32 (bits .and .u32 (bits .xor .u32 4294967295 e) g)) (some 137) (by decide) (by rfl) (by kernel_rfl) (by kernel_rfl) (by kernel_rfl) (fun _ _ _ h => h) (by rfl) (fun W hW => by go_simp) (by assumption) ?_
              try simp only [Act.put, List.setIfInBounds_toArray, List.set_cons_zero, List.set_cons_succ]
              refine take_at (i := 11) (.int .u32 (bits .xor .u32 (bits .and .u32 e f) (bits .and .u32 (bits .xor .u32 4294967295 e) g))) (some 138) (by decide) (by rfl) (by kernel_rfl) (by kernel_rfl) (by kernel_rfl) (fun _ _ _ h => h) (by rfl) (fun W hW => by go_simp) (by assumption) ?_
              try simp only [Act.put, List.setIfInBounds_toArray, List.set_cons_zero, List.set_cons_succ]
              refine take_at (i := 13) (.int .i64 (k : Int)) (some 140) (by decide) (by rfl) (by kernel_rfl) (by kernel_rfl) (by kernel_rfl) (fun _ _ _ h => h) (by rfl) (fun W hW => by go_simp) (by assumption) ?_
              try simp only [Act.put, List.setIfInBounds_toArray, List.set_cons_zero, List.set_cons_succ]
              refine take_at (i := 14) (.pointer (some ⟨bk, k, none⟩)) (some 141) (by decide) (by rfl) (by kernel_rfl) (by kernel_rfl) (by kernel_rfl) (fun _ _ _ h => h) (by rfl) (fun W hW => by first | (go_simp; done) | (go_simp; intro h9; omega)) (by assumption) ?_
              try simp only [Act.put, List.setIfInBounds_toArray, List.set_cons_zero, List.set_cons_succ]
              refine take_at (i := 15) (.int .u32 x) (some 142) (by decide) (by rfl) (by kernel_rfl) (by kernel_rfl) (by kernel_rfl) (fun _ _ _ h => h) (by rfl) (fun W hW => by have h9 := ck.out W hW.2; go_simp) (by assumption) ?_
              try simp only [Act.put, List.setIfInBounds_toArray, List.set_cons_zero, List.set_cons_succ]
              refine take_at (i := 17) (.int .i64 (k : Int)) (some 144) (by decide) (by rfl) (by kernel_rfl) (by kernel_rfl) (by kernel_rfl) (fun _ _ _ h => h) (by rfl) (fun W hW => by go_simp) (by assumption) ?_
              try simp only [Act.put, List.setIfInBounds_toArray, List.set_cons_zero, List.set_cons_succ]
              refine take_at (i := 18) (.pointer (some ⟨bw, k, none⟩)) (some 145) (by decide) (by rfl) (by kernel_rfl) (by kernel_rfl) (by kernel_rfl) (fun _ _ _ h => h) (by rfl) (fun W hW => by first | (go_simp; done) | (go_simp; intro h9; omega)) (by assumption) ?_
              try simp only [Act.put, List.setIfInBounds_toArray, List.set_cons_zero, List.set_cons_succ]
              refine take_at (i := 19) (.int .u32 y) (some 146) (by decide) (by rfl) (by kernel_rfl) (by kernel_rfl) (by kernel_rfl) (fun _ _ _ h => h) (by rfl) (fun W hW => by have h9 := cw.out W hW.1; go_simp) (by assumption) ?_
              try simp only [Act.put, List.setIfInBounds_toArray, List.set_cons_zero, List.set_cons_succ]
              refine wpAnyH_ready (rs := [2]) (by kernel_rfl) (by simp) (AllReadyH.cons (Array.getElem?_eq_getElem (i := 2) (by decide)) (fun K9 hK => ?_) AllReadyH.nil)
              go_simp
              refine (rthree_6 e _ HEE.out).mono ?_
              rintro q9 w9 ⟨rfl, rfl⟩
              refine hK.out _ _ (hHeld) (fun hHeld => ?_)
              clear hK K9
              try simp only [Act.put, List.setIfInBounds_toArray, List.set_cons_zero, List.set_cons_succ]
              refine take_at (i := 3) (.int .u32 (IntKind.u32.wrap (h + bits .xor .u32 (bits .xor .u32 (rot e 67108864 64) (rot e 2097152 2048)) (rot e 128 33554432)))) (some 130) (by decide) (by rfl) (by kernel_rfl) (by kernel_rfl) (by kernel_rfl) (fun _ _ _ h => h) (by rfl) (fun W hW => by go_simp) (by assumption) ?_
              try simp only [Act.put, List.setIfInBounds_toArray, List.set_cons_zero, List.set_cons_succ]
              refine take_at (i := 12) (.int .u32 (IntKind.u32.wrap (IntKind.u32.wrap (h + bits .xor .u32 (bits .xor .u32 (rot e 67108864 64) (rot e 2097152 2048)) (rot e 128 33554432)) + bits .xor .u32 (bits .and .u32 e f) (bits .and .u32 (bits .xor .u32 4294967295 e) g)))) (some 139) (by decide) (by rfl) (by kernel_rfl) (by kernel_rfl) (by kernel_rfl) (fun _ _ _ h => h) (by rfl) (fun W hW => by go_simp) (by assumption) ?_
              try simp only [Act.put, List.setIfInBounds_toArray, List.set_cons_zero, List.set_cons_succ]
              refine take_at (i := 16) (.int .u32 (IntKind.u32.wrap (IntKind.u32.wrap (IntKind.u32.wrap (h + bits .xor .u32 (bits .xor .u32 (rot e 67108864 64) (rot e 2097152 2048)) (rot e 128 33554432)) + bits .xor .u32 (bits .and .u32 e f) (bits .and .u32 (bits .xor .u32 4294967295 e) g)) + x))) (some 143) (by decide) (by rfl) (by kernel_rfl) (by kernel_rfl) (by kernel_rfl) (fun _ _ _ h => h) (by rfl) (fun W hW => by go_simp) (by assumption) ?_
              try simp only [Act.put, List.setIfInBounds_toArray, List.set_cons_zero, List.set_cons_succ]
              refine take_at (i := 20) (.int .u32 (IntKind.u32.wrap (IntKind.u32.wrap (IntKind.u32.wrap (IntKind.u32.wrap (h + bits .xor .u32 (bits .xor .u32 (rot e 67108864 64) (rot e 2097152 2048)) (rot e 128 33554432)) + bits .xor .u32 (bits .and .u32 e f) (bits .and .u32 (bits .xor .u32 4294967295 e) g)) + x) + y))) (some 147) (by decide) (by rfl) (by kernel_rfl) (by kernel_rfl) (by kernel_rfl) (fun _ _ _ h => h) (by rfl) (fun W hW => by go_simp) (by assumption) ?_
              try simp only [Act.put, List.setIfInBounds_toArray, List.set_cons_zero, List.set_cons_succ]
              refine take_at (i := 21) (.int .u32 (IntKind.u32.wrap (IntKind.u32.wrap (IntKind.u32.wrap (IntKind.u32.wrap (h + bits .xor .u32 (bits .xor .u32 (rot e 67108864 64) (rot e 2097152 2048)) (rot e 128 33554432)) + bits .xor .u32 (bits .and .u32 e f) (bits .and .u32 (bits .xor .u32 4294967295 e) g)) + x) + y))) (some 23) (by decide) (by rfl) (by kernel_rfl) (by kernel_rfl) (by kernel_rfl) (fun _ _ _ h => h) (by rfl) (fun W hW => by go_simp) (by assumption) ?_
              try simp only [Act.put, List.setIfInBounds_toArray, List.set_cons_zero, List.set_cons_succ]
              refine wpAnyH_done (by kernel_rfl) ?_ _
              try simp only [Act.put, List.setIfInBounds_toArray, List.set_cons_zero, List.set_cons_succ]
              clear hHeld cw ck he0 he1
              obtain ⟨p, hp⟩ : ∃ p, p = IntKind.u32.wrap (IntKind.u32.wrap (IntKind.u32.wrap (IntKind.u32.wrap (h + bits .xor .u32 (bits .xor .u32 (rot e 67108864 64) (rot e 2097152 2048)) (rot e 128 33554432)) + bits .xor .u32 (bits .and .u32 e f) (bits .and .u32 (bits .xor .u32 4294967295 e) g)) + x) + y) := ⟨_, rfl⟩
              rw [← hp]
              have HO1 : Hid ((⟨(p + qf ⟨a, b, c1, d, e, f, g, h⟩) % 4294967296, a, b, c1, (d + p) % 4294967296, e, f, g⟩ : Oct) = rndsO Ks L ⟨a0, b0, c0, d0, e0, f0, g0, h0⟩ (k + 1)) := by
                unfold Hid
                rw [rndsO, ← HOE.out, GX.out, GY.out, hp]
                unfold rndO pf s1f chf
                rfl
              clear hp HOE GX GY
              have ha0 := HA.out.1
              go_wp2_with fail
              refine (rthree_2 a _ HA.out).mono ?_
              rintro q9 w9 ⟨rfl, rfl⟩
              go_wp2_with fail
              go_roundw
              case rel => exact ⟨k + 1, (p + qf ⟨a, b, c1, d, e, f, g, h⟩) % 4294967296, a, b, c1, (d + p) % 4294967296, e, f, g, by omega, by go_num, HO1, rfl, rfl, rfl, rfl, rfl, rfl, rfl, rfl, ⟨(by first | exact W32.mod _ | (rw [IntKind.wrap_u32']; exact W32.mod _)), HI.out.1, HI.out.2.1, HI.out.2.2.1, (by first | exact W32.mod _ | (rw [IntKind.wrap_u32']; exact W32.mod _)), HI.out.2.2.2.2.1, HI.out.2.2.2.2.2.1, HI.out.2.2.2.2.2.2.1⟩, HW5, HN5⟩
              case measure => simp [intOf]; omega
            · obtain rfl : k = 64 := by omega
              have HFIN : Kept (mixP Ks [a0, b0, c0, d0, e0, f0, g0, h0] blk = [(a0 + a) % 4294967296, (b0 + b) % 4294967296, (c0 + c1) % 4294967296, (d0 + d) % 4294967296, (e0 + e) % 4294967296, (f0 + f) % 4294967296, (g0 + g) % 4294967296, (h0 + h) % 4294967296]) := by
                refine ⟨?_⟩
                unfold mixP
                rw [HLE.out, show octOf [a0, b0, c0, d0, e0, f0, g0, h0] = ⟨a0, b0, c0, d0, e0, f0, g0, h0⟩ from rfl, ← HOE.out]
                rfl
              obtain ⟨s0, s1, s2, s3, s4, s5, s6, s7⟩ := hcs.out wr HN.out.1
              have HRE := Lib.hid HN.out.2.2.1
              clear hlt hk HOE HLE HW hcs
              go_wp2_with (refine wp_put_row cells_w8 rfl _ _ rfl br rfl rfl rfl (vw_one [(a0 + a) % 4294967296, (b0 + b) % 4294967296, (c0 + c1) % 4294967296, (d0 + d) % 4294967296, (e0 + e) % 4294967296, (f0 + f) % 4294967296, (g0 + g) % 4294967296, (h0 + h) % 4294967296]) (vw (zerw 8)).toArray (by simp [vw_length, zerw_length]) 105 HRE.out ?hK9)
              intro w9 h9 hg9
              have hb9 : Below w.heap.size w w9 := HN.out.2.2.2.grown hg9 (by have := HN.out.2.2.2.size; omega) (fun k hk => by injection hk with hk; omega)
              go_wp2_with fail
              have hSW : W32L (mixP Ks [a0, b0, c0, d0, e0, f0, g0, h0] blk) := by
                rw [HFIN.out]
                intro x hx
                simp only [List.mem_cons, List.not_mem_nil, or_false] at hx
                rcases hx with rfl | rfl | rfl | rfl | rfl | rfl | rfl | rfl <;> exact W32.mod _
              exact bodyPost_ret (results_cell_row Tryd.results68 _ w9 br 105 _ (0, 0) _ rfl h9 Tryd.underlying105 rfl (by exact cells_w8)) rfl ⟨by rw [HFIN.out]; rfl, hSW, by rw [HFIN.out]; rfl, hb9⟩

end Go.Proofs.YthbahbcihaebeaaDoor.Cd

/-
  The document's bytes with what stands behind them. Conditions: none.
-/
namespace Go.Proofs.YthbahbcihaebeaaDoor.Cd
open Go.RowKit

def lenV0 : Value → Nat | .slice _ n _ => n | _ => 0

theorem pad_step (N z : Nat) (h : z < gapZ N) : (N + 1 + z) % 64 ≠ 56 := by unfold gapZ at h; omega
theorem pad_stop (N : Nat) : (N + 1 + gapZ N) % 64 = 56 := by unfold gapZ; omega
theorem tail8_last (N k : Nat) (hk : k < 8) : (tail8 N).drop (7 - k) = UInt8.ofNat (8 * N / 2 ^ (8 * k)) :: (tail8 N).drop (8 - k) := by
  have hl := tail8_length N
  rw [List.drop_eq_getElem_cons (by omega), show 7 - k + 1 = 8 - k by omega]
  congr 1
  unfold tail8
  rw [List.getElem_map, List.getElem_range]
  congr 3
  omega
/-- What is left of the number of bytes behind k bytes of its bits' number. -/
def restN (N k : Nat) : Nat := if k = 0 then N else 8 * N / 2 ^ (8 * k)
theorem restN_next (N k : Nat) (hk : 0 < k) : restN N k / 256 = restN N (k + 1) := by
  unfold restN
  rw [if_neg (by omega), if_neg (by omega), Nat.div_div_eq_div_mul, show 8 * (k + 1) = 8 * k + 8 by omega, Nat.pow_add]
theorem restN_first (N : Nat) : N / 32 = restN N 1 := by
  unfold restN
  rw [if_neg (by omega)]
  omega
theorem ofNat_mod (n : Nat) : UInt8.ofNat (n % 256) = UInt8.ofNat n := by
  apply UInt8.toNat_inj.1
  rw [UInt8.toNat_ofNat', UInt8.toNat_ofNat']
  omega

set_option maxRecDepth 100000 in
set_option maxHeartbeats 3200000 in
theorem padded_any (v : Value) (bs : List UInt8) (w : World) (h : Sl w w.heap.size v bs) (hN : bs.length ≤ 1048576) :
    Calls Tryd.prog 66 #[v] w fun e w' => ∃ v', e = .returned v' ∧ Own w' w.heap.size v' (padS bs) ∧ Below w.heap.size w w' := by
  have H := Lib.hid h
  obtain ⟨A, c, rfl, hbc, hcm⟩ := h.len
  clear h
  have hg63 : gapZ bs.length < 64 := Nat.mod_lt _ (by omega)
  go_enter Tryd.func66, Tryd.ntmps66
  go_wp2_with (refine wp_append_sl rfl _ _ rfl w.heap.size _ [] rfl (own_new w _ (Nat.le_refl _)) (by simp) _ _ bs rfl (H.out.below ((Below.refl _ _).alloc (Nat.le_refl _) _)) (by simp; omega) ?_)
  intro v1 w1 ho1 hb1
  have hB1 : Below w.heap.size w w1 := ((Below.refl _ _).alloc (Nat.le_refl _) _).trans hb1
  clear hb1
  obtain ⟨A1, c1, e1, _, _⟩ := ho1.sl.len
  subst e1
  have HO1 := Lib.hid ho1
  have HB1 := Lib.hid hB1
  have hs1 := hB1.size
  clear ho1 hB1
  have hone : Own (w1.alloc (.cells #[.int .u8 128] 5)) w1.heap.size (.slice (some ⟨w1.heap.size, 0, none⟩) 1 1) [128] := own_byte w1 w1.heap.size (Nat.le_refl _) 128
  have HONE := Lib.hid hone
  clear hone
  go_wp2_with (refine wp_append_sl rfl _ _ rfl w.heap.size _ bs rfl (HO1.out.alloc _) (by simp; omega) _ _ [128] rfl HONE.out.sl (by simp; omega) ?_)
  intro v2 w2 ho2 hb2
  have HB2 := Lib.hid (HB1.out.trans (((Below.refl w.heap.size w1).alloc (by omega) (.cells #[.int .u8 128] 5)).trans hb2))
  have hs2 := hb2.size
  simp only [World.alloc, Array.size_push] at hs2
  obtain ⟨R0, hR0⟩ : ∃ R, bs ++ [128] = R := ⟨_, rfl⟩
  rw [hR0] at ho2
  have HR0 := Lib.hid hR0
  obtain ⟨A2, c2, e2, _, _⟩ := ho2.sl.len
  subst e2
  have HO2 := Lib.hid ho2
  clear hR0 ho2 hb2 HO1 HB1 HONE
  go_wp2_with fail
  go_loopw [3] (fun vv wr => ∃ (z : Nat) (R : List UInt8), z ≤ gapZ bs.length ∧ Hid (bs ++ 128 :: zer z = R) ∧ lenV0 vv = R.length ∧ Hid (Own wr w.heap.size vv R) ∧ Hid (Below w.heap.size w wr)) (fun vv _ => bs.length + 1 + gapZ bs.length - lenV0 vv)
  case atStart => exact ⟨0, R0, by omega, HR0, rfl, HO2, HB2⟩
  case round =>
    clear HO2 HB2 HR0
    obtain ⟨z, R, hz, HR, hlen, HO, HB⟩ := hrel
    obtain ⟨A3, c3, rfl, h3a, h3b⟩ := HO.out.sl.len
    have hsr := HB.out.size
    have hRl : R.length = bs.length + 1 + z := by rw [← HR.out]; simp [zer_length]; omega
    obtain ⟨m, hm⟩ : ∃ m, R.length % 64 = m := ⟨_, rfl⟩
    have m1 : (R.length : Int) % 64 = (m : Int) := by omega
    have m2 : (R.length : Int).tmod 64 = (m : Int) := by rw [Int.tmod_eq_emod_of_nonneg (by omega)]; exact m1
    by_cases hlt : z < gapZ bs.length
    · have hne := pad_step _ _ hlt
      have hq : ¬ (m : Int) = 56 := by omega
      have hq2 : ((m : Int) == 56) = false := by rw [beq_eq_false_iff_ne]; exact hq
      have hR2 : bs ++ 128 :: zer (z + 1) = R ++ [0] := by
        rw [← HR.out]
        unfold zer
        rw [List.replicate_succ']
        simp
      have HR2 := Lib.hid hR2
      have hl2 : bs.length + 1 + gapZ bs.length - (R.length + 1) < bs.length + 1 + gapZ bs.length - R.length := by omega
      have hR20 : R.length + 1 ≤ 1048576 + 66 := by omega
      have HRL := Lib.hid hRl
      clear hRl hne hm hR2
      have hzero : Own (wr.alloc (.cells #[.int .u8 0] 5)) wr.heap.size (.slice (some ⟨wr.heap.size, 0, none⟩) 1 1) [0] := own_byte wr wr.heap.size (Nat.le_refl _) 0
      have HZ := Lib.hid hzero
      clear hzero hlen
      go_wp2_with (refine wp_append_sl rfl _ _ rfl w.heap.size _ R rfl (HO.out.alloc _) (by simp; omega) _ _ [0] rfl HZ.out.sl (by simp; omega) ?_)
      intro v4 w4 ho4 hb4
      have HB4 := Lib.hid (HB.out.trans (((Below.refl w.heap.size wr).alloc (by omega) (.cells #[.int .u8 0] 5)).trans hb4))
      obtain ⟨R4, hR4⟩ : ∃ R4, R ++ [0] = R4 := ⟨_, rfl⟩
      have hl4 : R4.length = R.length + 1 := by rw [← hR4]; simp
      rw [hR4] at ho4 HR2
      obtain ⟨A4, c4, e4, _, _⟩ := ho4.sl.len
      subst e4
      have HO4 := Lib.hid ho4
      have HL4 := Lib.hid hl4
      clear ho4 hb4 hR4 hl4
      go_wp2_with fail
      go_roundw
      case rel => exact ⟨z + 1, R4, by omega, HR2, rfl, HO4, HB4⟩
      case measure => simp only [lenV0]; rw [HL4.out]; exact hl2
    · obtain rfl : z = gapZ bs.length := by omega
      have hst := pad_stop bs.length
      have hq : (m : Int) = 56 := by omega
      have hq2 : ((m : Int) == 56) = true := by rw [beq_iff_eq]; exact hq
      have hR3 : R.length ≤ 1048576 + 65 := by omega
      clear hst hm hRl hlen hlt hz
      go_wp2_with fail
      go_loopw [4, 5, 6] (fun vn vt i wr => ∃ (k n : Nat) (T : List UInt8), k ≤ 8 ∧ i = .int .i64 k ∧ vn = .int .i64 n ∧ n ≤ 1048576 ∧ Hid (n = restN bs.length k) ∧ Hid (T = (tail8 bs.length).drop (8 - k)) ∧ Hid (Sl wr wr.heap.size vt T) ∧ Hid (Own wr w.heap.size (.slice A3 R.length c3) R) ∧ Hid (Below w.heap.size w wr)) (fun _ _ i _ => 8 - (intOf i).toNat)
      case atStart => exact ⟨0, bs.length, [], by omega, rfl, rfl, hN, rfl, by unfold Hid; rw [List.drop_of_length_le (by rw [tail8_length]; omega)], Sl.nil _ _, HO, HB⟩
      case round =>
        clear HO HB m1 m2 hq hq2
        obtain ⟨k, n, T, hk, rfl, rfl, hn, HN, HT, HS, HO, HB⟩ := hrel
        obtain ⟨At, ct, rfl, hta, htb⟩ := HS.out.len
        have hTl : T.length ≤ 8 := by rw [HT.out]; simp [tail8_length]
        have hsr2 := HB.out.size
        by_cases hlt : k < 8
        · by_cases h0 : k = 0
          · subst h0
            have hn0 : n = bs.length := HN.out
            have x1 : (n : Int).tmod 32 = ((n % 32 : Nat) : Int) := by rw [Int.tmod_eq_emod_of_nonneg (by omega)]; omega
            have x2 : (n : Int) % 32 = ((n % 32 : Nat) : Int) := by omega
            have y1 : (n : Int).tdiv 32 = ((n / 32 : Nat) : Int) := by rw [Int.tdiv_eq_ediv_of_nonneg (by omega)]; omega
            have y2 : (n : Int) / 32 = ((n / 32 : Nat) : Int) := by omega
            have hxs : n % 32 < 32 := Nat.mod_lt _ (by omega)
            have hyl : n / 32 ≤ 1048576 := by omega
            have HY : Hid (n / 32 = restN bs.length 1) := by rw [hn0]; exact restN_first _
            obtain ⟨cb, hcb⟩ : ∃ cb : UInt8, cb = UInt8.ofNat (8 * bs.length / 2 ^ (8 * 0)) := ⟨_, rfl⟩
            have hc2 : (((n % 32 : Nat) : Int) * 8) = (cb.toNat : Int) := by
              rw [hcb, UInt8.toNat_ofNat', hn0]
              simp
              omega
            generalize n % 32 = x at x1 x2 hxs hc2
            generalize n / 32 = y at y1 y2 hyl HY
            have hc3 : IntKind.i64.wrap ((x : Int) * 8) = (cb.toNat : Int) := by rw [hc2]; exact Go.wrap_small _ (by omega) (by have := cb.toNat_lt; omega)
            have hc4 : IntKind.u8.wrap (cb.toNat : Int) = (cb.toNat : Int) := by rw [IntKind.wrap_u8']; have := cb.toNat_lt; omega
            have HT1 : Hid ([cb] ++ T = (tail8 bs.length).drop (8 - (0 + 1))) := by
              unfold Hid
              rw [HT.out, hcb]
              exact (tail8_last bs.length 0 (by omega)).symm
            have hown : Own (wr.alloc (.cells #[.int .u8 cb.toNat] 5)) wr.heap.size (.slice (some ⟨wr.heap.size, 0, none⟩) 1 1) [cb] := own_byte wr wr.heap.size (Nat.le_refl _) cb
            have HOW := Lib.hid hown
            clear hown hcb hn0 HN
            go_wp2_with (refine wp_append_sl rfl _ _ rfl wr.heap.size _ [cb] rfl HOW.out (by simp) _ _ T rfl (HS.out.below ((Below.refl _ _).alloc (Nat.le_refl _) _)) (by simp; omega) ?_)
            intro v5 w5 ho5 hb5
            have hb6 := ((Below.refl wr.heap.size wr).alloc (Nat.le_refl _) (.cells #[.int .u8 cb.toNat] 5)).trans hb5
            have HO5 := Lib.hid (HO.out.keep hb6)
            have HB5 := Lib.hid (HB.out.trans (hb6.mono hsr2))
            have HS5 := Lib.hid ho5.sl
            obtain ⟨A5, c5, e5, _, _⟩ := ho5.sl.len
            subst e5
            clear ho5 hb5 hb6
            go_wp2_with fail
            go_roundw
            case rel => exact ⟨1, y, [cb] ++ T, by omega, by go_num, rfl, hyl, HY, HT1, HS5, HO5, HB5⟩
            case measure => simp [intOf]
          · have hk0 : 0 < k := by omega
            have hq0 : ((k : Int) == 0) = false := by rw [beq_eq_false_iff_ne]; omega
            have x1 : (n : Int).tmod 256 = ((n % 256 : Nat) : Int) := by rw [Int.tmod_eq_emod_of_nonneg (by omega)]; omega
            have x2 : (n : Int) % 256 = ((n % 256 : Nat) : Int) := by omega
            have y1 : (n : Int).tdiv 256 = ((n / 256 : Nat) : Int) := by rw [Int.tdiv_eq_ediv_of_nonneg (by omega)]; omega
            have y2 : (n : Int) / 256 = ((n / 256 : Nat) : Int) := by omega
            have hyl : n / 256 ≤ 1048576 := by omega
            have HY : Hid (n / 256 = restN bs.length (k + 1)) := by unfold Hid; rw [HN.out]; exact restN_next _ _ hk0
            obtain ⟨cb, hcb⟩ : ∃ cb : UInt8, cb = UInt8.ofNat (8 * bs.length / 2 ^ (8 * k)) := ⟨_, rfl⟩
            have hc2 : ((n % 256 : Nat) : Int) = (cb.toNat : Int) := by
              have e := HN.out
              unfold restN at e
              rw [if_neg h0] at e
              rw [hcb, UInt8.toNat_ofNat', ← e]
            generalize n % 256 = x at x1 x2 hc2
            generalize n / 256 = y at y1 y2 hyl HY
            obtain rfl : x = cb.toNat := by omega
            have hc4 : IntKind.u8.wrap (cb.toNat : Int) = (cb.toNat : Int) := by rw [IntKind.wrap_u8']; have := cb.toNat_lt; omega
            have HT1 : Hid ([cb] ++ T = (tail8 bs.length).drop (8 - (k + 1))) := by
              unfold Hid
              rw [HT.out, hcb, show 8 - (k + 1) = 7 - k by omega, tail8_last _ k hlt]
              rfl
            have hown : Own (wr.alloc (.cells #[.int .u8 cb.toNat] 5)) wr.heap.size (.slice (some ⟨wr.heap.size, 0, none⟩) 1 1) [cb] := own_byte wr wr.heap.size (Nat.le_refl _) cb
            have HOW := Lib.hid hown
            clear hown hcb HN hc2
            go_wp2_with (refine wp_append_sl rfl _ _ rfl wr.heap.size _ [cb] rfl HOW.out (by simp) _ _ T rfl (HS.out.below ((Below.refl _ _).alloc (Nat.le_refl _) _)) (by simp; omega) ?_)
            intro v5 w5 ho5 hb5
            have hb6 := ((Below.refl wr.heap.size wr).alloc (Nat.le_refl _) (.cells #[.int .u8 cb.toNat] 5)).trans hb5
            have HO5 := Lib.hid (HO.out.keep hb6)
            have HB5 := Lib.hid (HB.out.trans (hb6.mono hsr2))
            have HS5 := Lib.hid ho5.sl
            obtain ⟨A5, c5, e5, _, _⟩ := ho5.sl.len
            subst e5
            clear ho5 hb5 hb6
            go_wp2_with fail
            go_roundw
            case rel => exact ⟨k + 1, y, [cb] ++ T, by omega, by go_num, rfl, hyl, HY, HT1, HS5, HO5, HB5⟩
            case measure => simp [intOf]; omega
        · obtain rfl : k = 8 := by omega
          have HFIN : Hid (R ++ T = padS bs) := by
            unfold Hid padS
            rw [HT.out, ← HR.out]
            simp
          clear HT HN hlt hk
          go_wp2_with (refine wp_append_sl rfl _ _ rfl w.heap.size _ R rfl HO.out hsr2 _ _ T rfl HS.out (by omega) ?_)
          intro v7 w7 ho7 hb7
          obtain ⟨A7, c7, e7, _, _⟩ := ho7.sl.len
          subst e7
          have HS7 := Lib.hid ho7
          have HB7 := Lib.hid (HB.out.trans hb7)
          clear ho7 hb7
          go_wp2_with fail
          go_ret
          exact ⟨_, rfl, by rw [← HFIN.out]; exact HS7.out, HB7.out⟩

end Go.Proofs.YthbahbcihaebeaaDoor.Cd
