/-
  A word turned to the right. Conditions: none.
-/
import Derived.Test.YtflgokbkkoobkaaDoorBase
import Derived.Test.YtflgokbkkoobkaaDoorShaPad
import Derived.IntWalk
import Derived.Laws.BitsAllLaws
namespace Go.Proofs.YtflgokbkkoobkaaDoor.Cd
open Go.RowKit

/-- A word of thirty-two bits. -/
def W32 (x : Int) : Prop := 0 ≤ x ∧ x < 4294967296
theorem W32.mod (x : Int) : W32 (x % 4294967296) := ⟨by omega, by omega⟩
theorem W32.bits (op : BinOp) (x y : Int) : W32 (bits op .u32 x y) := by
  have h := bounds_u32 (Go.wf_bits op .u32 x y)
  exact ⟨h.1, by omega⟩
/-- A word turned to the right by so many places. -/
def rot (x p q : Int) : Int := bits .or .u32 (x * p % 4294967296) (x / q)
theorem W32.rot (x p q : Int) : W32 (rot x p q) := W32.bits _ _ _

set_option maxRecDepth 100000 in
set_option maxHeartbeats 800000 in
theorem turned_2 (x : Int) (w : World) (hx : W32 x) : Calls Tryd.prog 71 #[.int .u32 x, .int .i64 2] w fun e w' => e = .returned (.int .u32 (rot x 1073741824 4)) ∧ w = w' := by
  obtain ⟨h0, h1⟩ := hx
  have e1 : bits BinOp.and IntKind.u64 (IntKind.u64.wrap (-2)) 31 = 30 := by decide
  go_enter Tryd.func71, Tryd.ntmps71
  go_wp2
  go_ret
  exact ⟨rfl, rfl⟩

set_option maxRecDepth 100000 in
set_option maxHeartbeats 800000 in
theorem turned_6 (x : Int) (w : World) (hx : W32 x) : Calls Tryd.prog 71 #[.int .u32 x, .int .i64 6] w fun e w' => e = .returned (.int .u32 (rot x 67108864 64)) ∧ w = w' := by
  obtain ⟨h0, h1⟩ := hx
  have e1 : bits BinOp.and IntKind.u64 (IntKind.u64.wrap (-6)) 31 = 26 := by decide
  go_enter Tryd.func71, Tryd.ntmps71
  go_wp2
  go_ret
  exact ⟨rfl, rfl⟩

set_option maxRecDepth 100000 in
set_option maxHeartbeats 800000 in
theorem turned_7 (x : Int) (w : World) (hx : W32 x) : Calls Tryd.prog 71 #[.int .u32 x, .int .i64 7] w fun e w' => e = .returned (.int .u32 (rot x 33554432 128)) ∧ w = w' := by
  obtain ⟨h0, h1⟩ := hx
  have e1 : bits BinOp.and IntKind.u64 (IntKind.u64.wrap (-7)) 31 = 25 := by decide
  go_enter Tryd.func71, Tryd.ntmps71
  go_wp2
  go_ret
  exact ⟨rfl, rfl⟩

set_option maxRecDepth 100000 in
set_option maxHeartbeats 800000 in
theorem turned_11 (x : Int) (w : World) (hx : W32 x) : Calls Tryd.prog 71 #[.int .u32 x, .int .i64 11] w fun e w' => e = .returned (.int .u32 (rot x 2097152 2048)) ∧ w = w' := by
  obtain ⟨h0, h1⟩ := hx
  have e1 : bits BinOp.and IntKind.u64 (IntKind.u64.wrap (-11)) 31 = 21 := by decide
  go_enter Tryd.func71, Tryd.ntmps71
  go_wp2
  go_ret
  exact ⟨rfl, rfl⟩

set_option maxRecDepth 100000 in
set_option maxHeartbeats 800000 in
theorem turned_13 (x : Int) (w : World) (hx : W32 x) : Calls Tryd.prog 71 #[.int .u32 x, .int .i64 13] w fun e w' => e = .returned (.int .u32 (rot x 524288 8192)) ∧ w = w' := by
  obtain ⟨h0, h1⟩ := hx
  have e1 : bits BinOp.and IntKind.u64 (IntKind.u64.wrap (-13)) 31 = 19 := by decide
  go_enter Tryd.func71, Tryd.ntmps71
  go_wp2
  go_ret
  exact ⟨rfl, rfl⟩

set_option maxRecDepth 100000 in
set_option maxHeartbeats 800000 in
theorem turned_17 (x : Int) (w : World) (hx : W32 x) : Calls Tryd.prog 71 #[.int .u32 x, .int .i64 17] w fun e w' => e = .returned (.int .u32 (rot x 32768 131072)) ∧ w = w' := by
  obtain ⟨h0, h1⟩ := hx
  have e1 : bits BinOp.and IntKind.u64 (IntKind.u64.wrap (-17)) 31 = 15 := by decide
  go_enter Tryd.func71, Tryd.ntmps71
  go_wp2
  go_ret
  exact ⟨rfl, rfl⟩

set_option maxRecDepth 100000 in
set_option maxHeartbeats 800000 in
theorem turned_18 (x : Int) (w : World) (hx : W32 x) : Calls Tryd.prog 71 #[.int .u32 x, .int .i64 18] w fun e w' => e = .returned (.int .u32 (rot x 16384 262144)) ∧ w = w' := by
  obtain ⟨h0, h1⟩ := hx
  have e1 : bits BinOp.and IntKind.u64 (IntKind.u64.wrap (-18)) 31 = 14 := by decide
  go_enter Tryd.func71, Tryd.ntmps71
  go_wp2
  go_ret
  exact ⟨rfl, rfl⟩

set_option maxRecDepth 100000 in
set_option maxHeartbeats 800000 in
theorem turned_19 (x : Int) (w : World) (hx : W32 x) : Calls Tryd.prog 71 #[.int .u32 x, .int .i64 19] w fun e w' => e = .returned (.int .u32 (rot x 8192 524288)) ∧ w = w' := by
  obtain ⟨h0, h1⟩ := hx
  have e1 : bits BinOp.and IntKind.u64 (IntKind.u64.wrap (-19)) 31 = 13 := by decide
  go_enter Tryd.func71, Tryd.ntmps71
  go_wp2
  go_ret
  exact ⟨rfl, rfl⟩

set_option maxRecDepth 100000 in
set_option maxHeartbeats 800000 in
theorem turned_22 (x : Int) (w : World) (hx : W32 x) : Calls Tryd.prog 71 #[.int .u32 x, .int .i64 22] w fun e w' => e = .returned (.int .u32 (rot x 1024 4194304)) ∧ w = w' := by
  obtain ⟨h0, h1⟩ := hx
  have e1 : bits BinOp.and IntKind.u64 (IntKind.u64.wrap (-22)) 31 = 10 := by decide
  go_enter Tryd.func71, Tryd.ntmps71
  go_wp2
  go_ret
  exact ⟨rfl, rfl⟩

set_option maxRecDepth 100000 in
set_option maxHeartbeats 800000 in
theorem turned_25 (x : Int) (w : World) (hx : W32 x) : Calls Tryd.prog 71 #[.int .u32 x, .int .i64 25] w fun e w' => e = .returned (.int .u32 (rot x 128 33554432)) ∧ w = w' := by
  obtain ⟨h0, h1⟩ := hx
  have e1 : bits BinOp.and IntKind.u64 (IntKind.u64.wrap (-25)) 31 = 7 := by decide
  go_enter Tryd.func71, Tryd.ntmps71
  go_wp2
  go_ret
  exact ⟨rfl, rfl⟩

end Go.Proofs.YtflgokbkkoobkaaDoor.Cd
