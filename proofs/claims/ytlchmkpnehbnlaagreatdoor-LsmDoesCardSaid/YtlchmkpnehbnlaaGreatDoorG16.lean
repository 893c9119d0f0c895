/-
  code.Size: how many bytes a number has. Conditions: none.
-/
import Derived.Test.YtlchmkpnehbnlaaGreatDoorRows
import Derived.WalkKit
import Derived.WalkSpells
import Derived.WalkLawsBesides
import Derived.Outline
import Derived.LoopTactic
import Derived.Lib.Hide
import Derived.Test.YtlchmkpnehbnlaaGreatDoorG1
namespace Go.Proofs.YtlchmkpnehbnlaaGreatDoor.Cd
open Go.RowKit

theorem ret_int {k : IntKind} {a b : Int} (h : a = b) : Ending.returned (.int k b) = .returned (.int k a) := by rw [h]

set_option maxHeartbeats 400000 in
theorem size_any (n : Nat) (hn : n < 18446744073709551616) (w : World) :
    Calls Tryz.prog 130 #[.int .u64 n] w fun e w' => e = .returned (.int .i64 ((enc n).length : Nat)) ∧ w = w' := by
  have hl := enc_u64 n hn
  go_enter Tryz.func130, Tryz.ntmps130
  go_wp2
  go_loop [0, 3] (fun v s => ∃ (m k : Nat), v = .int .u64 m ∧ s = .int .i64 k ∧ 1 ≤ k ∧ m < 18446744073709551616 ∧ k + (enc m).length ≤ 11 ∧ Hid ((enc n).length + 1 = (enc m).length + k)) (fun v _ => (intOf v).toNat)
  case atStart => exact ⟨n, 1, rfl, rfl, by omega, hn, by omega, rfl⟩
  case round =>
    obtain ⟨m, k, rfl, rfl, h1, hm, hk, hh⟩ := hrel
    by_cases hc : 127 < m
    · have h2 := enc_hi (n := m) (by omega)
      have h3 : (enc m).length = (enc (m / 128)).length + 1 := by rw [h2]; rfl
      have h4 : Hid ((enc m).length = (enc (m / 128)).length + 1) := h3
      clear h2 h3
      go_wp2
      go_round
      case rel => exact ⟨m / 128, k + 1, by go_num, by go_num, by omega, by omega, by have := h4.out; omega, by have := h4.out; have := hh.out; unfold Hid; omega⟩
      case measure => simp [intOf]; omega
    · have h2 : Hid ((enc m).length = 1) := by unfold Hid; rw [enc_lo (by omega)]; rfl
      go_wp2
      go_ret
      have := h2.out
      have := hh.out
      exact ⟨ret_int (by omega), rfl⟩

end Go.Proofs.YtlchmkpnehbnlaaGreatDoor.Cd
