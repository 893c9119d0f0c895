/-
  The document's words turned to the right, one, and three exclusively together. Conditions: none.
-/
import Derived.Test.YtflgokbkkoobkaaDoorShaSchedX
import Derived.Laws.BitsAllLaws
namespace Go.Proofs.YtflgokbkkoobkaaDoor.Cd
open Go.RowKit

theorem or_turned (x y : Int) (hx : W32 x) (hy : W32 y) : bits .or .u32 x y = bits .or .u32 y x := by
  rw [u32_or x y hx.1 hx.2 hy.1 hy.2, u32_or y x hy.1 hy.2 hx.1 hx.2, Nat.or_comm]
theorem W32.part {x : Int} (hx : W32 x) (q : Int) (hq : 0 < q) : W32 (x / q) := ⟨Int.ediv_nonneg hx.1 (by omega), Int.lt_of_le_of_lt (Int.ediv_le_self _ hx.1) hx.2⟩

set_option maxRecDepth 100000 in
set_option maxHeartbeats 800000 in
theorem rturn_2 (x : Int) (w : World) (hx : W32 x) : Calls Tryd.prog 58 #[.int .u32 x, .int .u64 2] w fun e w' => e = .returned (.int .u32 (rot x 1073741824 4)) ∧ w = w' := by
  have hr : bits .or .u32 (x / 4) (x * 1073741824 % 4294967296) = rot x 1073741824 4 := or_turned _ _ (hx.part _ (by omega)) (W32.mod _)
  have HR := Lib.hid hr
  clear hr
  obtain ⟨h0, h1⟩ := hx
  go_enter Tryd.func58, Tryd.ntmps58
  go_wp2
  try rw [HR.out]
  go_ret
  exact ⟨by first | rfl | rw [HR.out], rfl⟩

set_option maxRecDepth 100000 in
set_option maxHeartbeats 800000 in
theorem rturn_6 (x : Int) (w : World) (hx : W32 x) : Calls Tryd.prog 58 #[.int .u32 x, .int .u64 6] w fun e w' => e = .returned (.int .u32 (rot x 67108864 64)) ∧ w = w' := by
  have hr : bits .or .u32 (x / 64) (x * 67108864 % 4294967296) = rot x 67108864 64 := or_turned _ _ (hx.part _ (by omega)) (W32.mod _)
  have HR := Lib.hid hr
  clear hr
  obtain ⟨h0, h1⟩ := hx
  go_enter Tryd.func58, Tryd.ntmps58
  go_wp2
  try rw [HR.out]
  go_ret
  exact ⟨by first | rfl | rw [HR.out], rfl⟩

set_option maxRecDepth 100000 in
set_option maxHeartbeats 800000 in
theorem rturn_7 (x : Int) (w : World) (hx : W32 x) : Calls Tryd.prog 58 #[.int .u32 x, .int .u64 7] w fun e w' => e = .returned (.int .u32 (rot x 33554432 128)) ∧ w = w' := by
  have hr : bits .or .u32 (x / 128) (x * 33554432 % 4294967296) = rot x 33554432 128 := or_turned _ _ (hx.part _ (by omega)) (W32.mod _)
  have HR := Lib.hid hr
  clear hr
  obtain ⟨h0, h1⟩ := hx
  go_enter Tryd.func58, Tryd.ntmps58
  go_wp2
  try rw [HR.out]
  go_ret
  exact ⟨by first | rfl | rw [HR.out], rfl⟩

set_option maxRecDepth 100000 in
set_option maxHeartbeats 800000 in
theorem rturn_11 (x : Int) (w : World) (hx : W32 x) : Calls Tryd.prog 58 #[.int .u32 x, .int .u64 11] w fun e w' => e = .returned (.int .u32 (rot x 2097152 2048)) ∧ w = w' := by
  have hr : bits .or .u32 (x / 2048) (x * 2097152 % 4294967296) = rot x 2097152 2048 := or_turned _ _ (hx.part _ (by omega)) (W32.mod _)
  have HR := Lib.hid hr
  clear hr
  obtain ⟨h0, h1⟩ := hx
  go_enter Tryd.func58, Tryd.ntmps58
  go_wp2
  try rw [HR.out]
  go_ret
  exact ⟨by first | rfl | rw [HR.out], rfl⟩

set_option maxRecDepth 100000 in
set_option maxHeartbeats 800000 in
theorem rturn_13 (x : Int) (w : World) (hx : W32 x) : Calls Tryd.prog 58 #[.int .u32 x, .int .u64 13] w fun e w' => e = .returned (.int .u32 (rot x 524288 8192)) ∧ w = w' := by
  have hr : bits .or .u32 (x / 8192) (x * 524288 % 4294967296) = rot x 524288 8192 := or_turned _ _ (hx.part _ (by omega)) (W32.mod _)
  have HR := Lib.hid hr
  clear hr
  obtain ⟨h0, h1⟩ := hx
  go_enter Tryd.func58, Tryd.ntmps58
  go_wp2
  try rw [HR.out]
  go_ret
  exact ⟨by first | rfl | rw [HR.out], rfl⟩

set_option maxRecDepth 100000 in
set_option maxHeartbeats 800000 in
theorem rturn_17 (x : Int) (w : World) (hx : W32 x) : Calls Tryd.prog 58 #[.int .u32 x, .int .u64 17] w fun e w' => e = .returned (.int .u32 (rot x 32768 131072)) ∧ w = w' := by
  have hr : bits .or .u32 (x / 131072) (x * 32768 % 4294967296) = rot x 32768 131072 := or_turned _ _ (hx.part _ (by omega)) (W32.mod _)
  have HR := Lib.hid hr
  clear hr
  obtain ⟨h0, h1⟩ := hx
  go_enter Tryd.func58, Tryd.ntmps58
  go_wp2
  try rw [HR.out]
  go_ret
  exact ⟨by first | rfl | rw [HR.out], rfl⟩

set_option maxRecDepth 100000 in
set_option maxHeartbeats 800000 in
theorem rturn_18 (x : Int) (w : World) (hx : W32 x) : Calls Tryd.prog 58 #[.int .u32 x, .int .u64 18] w fun e w' => e = .returned (.int .u32 (rot x 16384 262144)) ∧ w = w' := by
  have hr : bits .or .u32 (x / 262144) (x * 16384 % 4294967296) = rot x 16384 262144 := or_turned _ _ (hx.part _ (by omega)) (W32.mod _)
  have HR := Lib.hid hr
  clear hr
  obtain ⟨h0, h1⟩ := hx
  go_enter Tryd.func58, Tryd.ntmps58
  go_wp2
  try rw [HR.out]
  go_ret
  exact ⟨by first | rfl | rw [HR.out], rfl⟩

set_option maxRecDepth 100000 in
set_option maxHeartbeats 800000 in
theorem rturn_19 (x : Int) (w : World) (hx : W32 x) : Calls Tryd.prog 58 #[.int .u32 x, .int .u64 19] w fun e w' => e = .returned (.int .u32 (rot x 8192 524288)) ∧ w = w' := by
  have hr : bits .or .u32 (x / 524288) (x * 8192 % 4294967296) = rot x 8192 524288 := or_turned _ _ (hx.part _ (by omega)) (W32.mod _)
  have HR := Lib.hid hr
  clear hr
  obtain ⟨h0, h1⟩ := hx
  go_enter Tryd.func58, Tryd.ntmps58
  go_wp2
  try rw [HR.out]
  go_ret
  exact ⟨by first | rfl | rw [HR.out], rfl⟩

set_option maxRecDepth 100000 in
set_option maxHeartbeats 800000 in
theorem rturn_22 (x : Int) (w : World) (hx : W32 x) : Calls Tryd.prog 58 #[.int .u32 x, .int .u64 22] w fun e w' => e = .returned (.int .u32 (rot x 1024 4194304)) ∧ w = w' := by
  have hr : bits .or .u32 (x / 4194304) (x * 1024 % 4294967296) = rot x 1024 4194304 := or_turned _ _ (hx.part _ (by omega)) (W32.mod _)
  have HR := Lib.hid hr
  clear hr
  obtain ⟨h0, h1⟩ := hx
  go_enter Tryd.func58, Tryd.ntmps58
  go_wp2
  try rw [HR.out]
  go_ret
  exact ⟨by first | rfl | rw [HR.out], rfl⟩

set_option maxRecDepth 100000 in
set_option maxHeartbeats 800000 in
theorem rturn_25 (x : Int) (w : World) (hx : W32 x) : Calls Tryd.prog 58 #[.int .u32 x, .int .u64 25] w fun e w' => e = .returned (.int .u32 (rot x 128 33554432)) ∧ w = w' := by
  have hr : bits .or .u32 (x / 33554432) (x * 128 % 4294967296) = rot x 128 33554432 := or_turned _ _ (hx.part _ (by omega)) (W32.mod _)
  have HR := Lib.hid hr
  clear hr
  obtain ⟨h0, h1⟩ := hx
  go_enter Tryd.func58, Tryd.ntmps58
  go_wp2
  try rw [HR.out]
  go_ret
  exact ⟨by first | rfl | rw [HR.out], rfl⟩

set_option maxRecDepth 100000 in
set_option maxHeartbeats 800000 in
theorem rthree_6 (x : Int) (w : World) (hx : W32 x) : Calls Tryd.prog 59 #[.int .u32 x, .int .u64 6, .int .u64 11, .int .u64 25] w fun e w' => e = .returned (.int .u32 (bits .xor .u32 (bits .xor .u32 (rot x 67108864 64) (rot x 2097152 2048)) (rot x 128 33554432))) ∧ w = w' := by
  have HX := Lib.hid hx
  clear hx
  go_enter Tryd.func59, Tryd.ntmps59
  go_wp2_with fail
  refine (rturn_6 x _ HX.out).mono ?_
  rintro q9 w9 ⟨rfl, rfl⟩
  go_wp2_with fail
  refine (rturn_11 x _ HX.out).mono ?_
  rintro q9 w9 ⟨rfl, rfl⟩
  go_wp2_with fail
  refine (rturn_25 x _ HX.out).mono ?_
  rintro q9 w9 ⟨rfl, rfl⟩
  go_wp2_with fail
  go_ret
  exact ⟨rfl, rfl⟩

set_option maxRecDepth 100000 in
set_option maxHeartbeats 800000 in
theorem rthree_2 (x : Int) (w : World) (hx : W32 x) : Calls Tryd.prog 59 #[.int .u32 x, .int .u64 2, .int .u64 13, .int .u64 22] w fun e w' => e = .returned (.int .u32 (bits .xor .u32 (bits .xor .u32 (rot x 1073741824 4) (rot x 524288 8192)) (rot x 1024 4194304))) ∧ w = w' := by
  have HX := Lib.hid hx
  clear hx
  go_enter Tryd.func59, Tryd.ntmps59
  go_wp2_with fail
  refine (rturn_2 x _ HX.out).mono ?_
  rintro q9 w9 ⟨rfl, rfl⟩
  go_wp2_with fail
  refine (rturn_13 x _ HX.out).mono ?_
  rintro q9 w9 ⟨rfl, rfl⟩
  go_wp2_with fail
  refine (rturn_22 x _ HX.out).mono ?_
  rintro q9 w9 ⟨rfl, rfl⟩
  go_wp2_with fail
  go_ret
  exact ⟨rfl, rfl⟩

end Go.Proofs.YtflgokbkkoobkaaDoor.Cd
