/-
  The document's check: bit by bit. Conditions: none.
-/
import Derived.Test.YtcliknmcefcaeaaCrc
namespace Go.Proofs.Ytcliknmcefcaeaa.Cd
open Go.RowKit

/-- The bit of a byte that stands at k. -/
theorem bit_at (n k : Nat) : (((n : Int) / 2 ^ k).tmod 2 == 1) = decide (n / 2 ^ k % 2 = 1) := by
  have e : ((n : Int) / 2 ^ k) = ((n / 2 ^ k : Nat) : Int) := by rw [Int.natCast_ediv, Int.natCast_pow]; rfl
  rw [e]
  generalize n / 2 ^ k = b
  rw [Int.tmod_eq_emod_of_nonneg (by omega), Bool.eq_iff_iff]
  simp
  omega

theorem half_xor (s : Nat) (h : s < 4294967296) : bits BinOp.xor IntKind.u32 ((s : Int) / 2) 2197175160 = ((s / 2 ^^^ 2197175160 : Nat) : Int) := by
  have h2 := u32_xor_nat (s / 2) 2197175160 (by omega) (by omega)
  rw [← h2]
  rfl

theorem ref_same {s b : Nat} (h : (s % 2 = 1) ↔ (b % 2 = 1)) : (s / 2) ^^^ fell (s ^^^ b) = s / 2 := by rw [odd_xor, if_pos h, Nat.xor_zero]
theorem ref_other {s b : Nat} (h : ¬ ((s % 2 = 1) ↔ (b % 2 = 1))) : (s / 2) ^^^ fell (s ^^^ b) = s / 2 ^^^ 2197175160 := by rw [odd_xor, if_neg h]

set_option maxRecDepth 100000 in
set_option maxHeartbeats 1600000 in
theorem rsum_any (bs : List UInt8) (w : World) (hb : bs.length ≤ 140737488355328) :
    Calls Try.prog 74 #[.string ⟨bs.toArray⟩] w fun e w' => e = .returned (.int .u32 (crc bs : Nat)) ∧ w = w' := by
  have hsz : (ByteArray.mk bs.toArray).size = bs.length := rfl
  go_enter Try.func74, Try.ntmps74
  go_wp2
  go_loop [3, 4] (fun s1 i => ∃ k : Nat, k ≤ bs.length ∧ i = .int .i64 k ∧ s1 = .int .u32 (crcOn 4294967295 (bs.take k) : Nat)) (fun _ i => bs.length - (intOf i).toNat)
  case atStart => exact ⟨0, Nat.zero_le _, rfl, rfl⟩
  case round =>
    obtain ⟨k, hk, rfl, rfl⟩ := hrel
    by_cases hlt : k < bs.length
    · have hsn := crcOn_snoc 4294967295 bs k hlt
      have hlt32 := crcOn_lt (s := 4294967295) (by omega) (bs.take k)
      obtain ⟨x, hx⟩ : ∃ x, (ByteArray.mk bs.toArray)[k]'hlt = x := ⟨_, rfl⟩
      have hx2 : bs[k] = x := hx
      rw [hx2] at hsn
      generalize crcOn 4294967295 (bs.take k) = m at hsn hlt32 ⊢
      have HL := Lib.hid hlt32
      have HSN := Lib.hid hsn
      have hx8 := x.toNat_lt
      clear hx2 hsn hlt32
      go_wp2
      go_loop [3, 5] (fun s1 i => ∃ j : Nat, j ≤ 8 ∧ i = .int .i64 j ∧ s1 = .int .u32 (refN m x.toNat j : Nat)) (fun _ i => 8 - (intOf i).toNat)
      case atStart => exact ⟨0, Nat.zero_le _, rfl, rfl⟩
      case round =>
        obtain ⟨j, hj, rfl, rfl⟩ := hrel
        by_cases hjl : j < 8
        · have hl := refN_lt HL.out x.toNat j
          have hnx : refN m x.toNat (j + 1) = (refN m x.toNat j / 2) ^^^ fell (refN m x.toNat j ^^^ (x.toNat / 2 ^ j)) := rfl
          generalize refN m x.toNat j = s at hl hnx ⊢
          have F1 := bit_at x.toNat j
          generalize x.toNat / 2 ^ j = b at F1 hnx
          have F2 := half_xor s hl
          by_cases hq : (s % 2 = 1) ↔ (b % 2 = 1)
          · rw [ref_same hq] at hnx
            have HNX := Lib.hid hnx
            clear hnx
            rcases (by omega : s % 2 = 0 ∨ s % 2 = 1) with h0 | h0
            · have q1 : ((s : Int) % 2 == 1) = false := by simp; omega
              have q2 : decide (b % 2 = 1) = false := by simp; omega
              rw [q2] at F1
              clear hq h0 q2
              go_wp2
              go_round
              case rel => exact ⟨j + 1, by omega, by go_num, by rw [HNX.out]; go_num⟩
              case measure => simp [intOf]; omega
            · have q1 : ((s : Int) % 2 == 1) = true := by simp; omega
              have q2 : decide (b % 2 = 1) = true := by simp; omega
              rw [q2] at F1
              clear hq h0 q2
              go_wp2
              go_round
              case rel => exact ⟨j + 1, by omega, by go_num, by rw [HNX.out]; go_num⟩
              case measure => simp [intOf]; omega
          · rw [ref_other hq] at hnx
            have HNX := Lib.hid hnx
            clear hnx
            rcases (by omega : s % 2 = 0 ∨ s % 2 = 1) with h0 | h0
            · have q1 : ((s : Int) % 2 == 1) = false := by simp; omega
              have q2 : decide (b % 2 = 1) = true := by simp; omega
              rw [q2] at F1
              clear hq h0 q2
              go_wp2
              go_round
              case rel => exact ⟨j + 1, by omega, by go_num, by rw [HNX.out]⟩
              case measure => simp [intOf]; omega
            · have q1 : ((s : Int) % 2 == 1) = true := by simp; omega
              have q2 : decide (b % 2 = 1) = false := by simp; omega
              rw [q2] at F1
              clear hq h0 q2
              go_wp2
              go_round
              case rel => exact ⟨j + 1, by omega, by go_num, by rw [HNX.out]⟩
              case measure => simp [intOf]; omega
        · have hj8 : j = 8 := by omega
          have hcb : Hid (refN m x.toNat j = crcB m x) := by unfold Hid; rw [hj8, crcB_ref]
          clear hj8
          go_wp2
          go_round
          case rel => exact ⟨k + 1, by omega, by go_num, by rw [HSN.out, hcb.out]⟩
          case measure => simp [intOf]; omega
    · have hkl : k = bs.length := by omega
      have htk : Hid (bs.take k = bs) := by unfold Hid; rw [hkl, List.take_of_length_le (Nat.le_refl _)]
      have hl := crcOn_lt (s := 4294967295) (by omega) (bs.take k)
      clear hkl
      go_wp2
      go_ret
      refine ⟨ret_u32 ?_, rfl⟩
      rw [htk.out] at hl ⊢
      unfold crc
      omega

end Go.Proofs.Ytcliknmcefcaeaa.Cd
