/-
  The document's step, sum and bytes. Conditions: none.
-/
import Derived.Test.YtflgokbkkoobkaaDoorMore
namespace Go.Proofs.YtflgokbkkoobkaaDoor.Cd
open Go.RowKit

theorem ret_int {k : IntKind} {a b : Int} (h : a = b) : Ending.returned (.int k a) = .returned (.int k b) := by rw [h]

theorem step_eq (s : Nat) (c : UInt8) (hs : s < 18446744073709551616) (x : Int) (hx : x = IntKind.u64.wrap ((s : Int) - (s : Int) % 256 + IntKind.u64.wrap (bits BinOp.xor IntKind.u8 ((s : Int) % 256) (c.toNat : Int)))) :
    IntKind.u64.wrap (IntKind.u64.wrap (IntKind.u64.wrap (x * 1099511627776) + IntKind.u64.wrap (x * 256)) + IntKind.u64.wrap (x * 179)) = (stp s c : Nat) := by
  have hc := c.toNat_lt
  have h1 := u8_xor_nat (s % 256) c.toNat (Nat.mod_lt _ (by omega)) hc
  have h2 := xor_low s c
  have h4 := xor_lt64 hs (byte_lt64 c)
  have h3 : (s % 256) ^^^ c.toNat < 256 := Nat.xor_lt_two_pow (n := 8) (Nat.mod_lt _ (by omega)) hc
  rw [show ((s % 256 : Nat) : Int) = (s : Int) % 256 by omega] at h1
  rw [h1] at hx
  unfold stp
  rw [← h2] at h4 ⊢
  generalize (s % 256) ^^^ c.toNat = r at *
  simp only [IntKind.wrap_u64] at hx ⊢
  omega

set_option maxRecDepth 100000 in
set_option maxHeartbeats 800000 in
theorem ref_step_any (s : Nat) (c : UInt8) (w : World) (hs : s < 18446744073709551616) :
    Calls Tryd.prog 49 #[.int .u64 s, .int .u8 c.toNat] w fun e w' => e = .returned (.int .u64 (stp s c : Nat)) ∧ w = w' := by
  have hc := c.toNat_lt
  go_enter Tryd.func49, Tryd.ntmps49
  go_wp2
  go_ret
  exact ⟨ret_int (step_eq s c hs _ rfl), rfl⟩

set_option maxRecDepth 100000 in
set_option maxHeartbeats 800000 in
theorem ref_sum_any (l : List UInt8) (w : World) (hl : l.length ≤ 140737488355328) :
    Calls Tryd.prog 38 #[.string ⟨l.toArray⟩] w fun e w' => e = .returned (.int .u64 (mor fnv0 l : Nat)) ∧ w = w' := by
  have hsz : (ByteArray.mk l.toArray).size = l.length := rfl
  go_enter Tryd.func38, Tryd.ntmps38
  go_wp2
  go_loop [3, 4] (fun s1 i => ∃ k : Nat, k ≤ l.length ∧ i = .int .i64 k ∧ s1 = .int .u64 (mor fnv0 (l.take k) : Nat)) (fun _ i => l.length - (intOf i).toNat)
  case atStart => exact ⟨0, Nat.zero_le _, rfl, rfl⟩
  case round =>
    obtain ⟨k, hk, rfl, rfl⟩ := hrel
    by_cases hlt : k < l.length
    · have hsn := mor_snoc fnv0 l k hlt
      have hlt64 := mor_lt fnv0 (l.take k) (by unfold fnv0; omega)
      generalize mor fnv0 (l.take k) = m at hsn hlt64 ⊢
      have HSN := Lib.hid hsn
      clear hsn
      go_wp2_with fail
      refine (ref_step_any m l[k] w hlt64).mono ?_
      rintro e w' ⟨rfl, rfl⟩
      go_wp2
      go_round
      case rel => exact ⟨k + 1, by omega, by go_num, by rw [HSN.out]⟩
      case measure => simp [intOf]; omega
    · have hkl : k = l.length := by omega
      have htk : Hid (l.take k = l) := by unfold Hid; rw [hkl, List.take_of_length_le (Nat.le_refl _)]
      clear hkl
      go_wp2
      go_ret
      exact ⟨by rw [htk.out]; rfl, rfl⟩

end Go.Proofs.YtflgokbkkoobkaaDoor.Cd
