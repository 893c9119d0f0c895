/-
  frame.Sum: the check of bytes. Conditions: none.
-/
import Derived.Test.YtcliknmcefcaeaaBase
import Derived.Test.YtcliknmcefcaeaaFrameMath
import Derived.IntWalk
import Derived.Laws.BitsAllLaws
namespace Go.Proofs.Ytcliknmcefcaeaa.Cd
open Go.RowKit

theorem ret_u32 {a b : Int} (h : a = b) : Ending.returned (.int .u32 a) = .returned (.int .u32 b) := by rw [h]

theorem wrap_byte32 (c : UInt8) : IntKind.u32.wrap (c.toNat : Int) = (c.toNat : Int) := by
  have := c.toNat_lt
  rw [IntKind.wrap_u32']
  omega

theorem and_one32 (s : Nat) (h : s < 4294967296) : bits BinOp.and IntKind.u32 (s : Int) 1 = ((s % 2 : Nat) : Int) := by
  have := u32_and_nat s 1 h (by omega)
  rw [nat_mask1] at this
  exact this

theorem bit1_xor (s : Nat) (h : s < 4294967296) (hs : s % 2 = 1) : bits BinOp.xor IntKind.u32 ((s : Int) / 2) 2197175160 = (bit1 s : Nat) := by
  have h2 := u32_xor_nat (s / 2) 2197175160 (by omega) (by omega)
  unfold bit1 fell
  rw [if_pos hs, ← h2]
  rfl
theorem bit1_none (s : Nat) (h : s < 4294967296) (hs : s % 2 = 0) : bits BinOp.xor IntKind.u32 ((s : Int) / 2) 0 = (bit1 s : Nat) := by
  have h2 := u32_xor_nat (s / 2) 0 (by omega) (by omega)
  unfold bit1 fell
  rw [if_neg (by omega), ← h2]
  rfl
theorem poly_all : bits BinOp.and IntKind.u32 2197175160 4294967295 = 2197175160 := by
  have := u32_and_nat 2197175160 4294967295 (by omega) (by omega)
  exact this.trans (by decide)
theorem poly_none : bits BinOp.and IntKind.u32 2197175160 0 = 0 := by
  have := u32_and_nat 2197175160 0 (by omega) (by omega)
  exact this.trans (by decide)

theorem xor_ones (s : Nat) (h : s < 4294967296) : 4294967295 ^^^ s = 4294967295 - s := by
  have e := congrArg BitVec.toNat (BitVec.allOnes_xor (x := BitVec.ofNat 32 s))
  rw [BitVec.toNat_xor, BitVec.toNat_not, BitVec.toNat_allOnes, BitVec.toNat_ofNat, Nat.mod_eq_of_lt (by omega)] at e
  exact e
theorem not32 (s : Nat) (h : s < 4294967296) : bits BinOp.xor IntKind.u32 IntKind.u32.max (s : Int) = ((4294967295 - s : Nat) : Int) := by
  rw [← xor_ones s h]
  exact u32_xor_nat 4294967295 s (by omega) h

set_option maxRecDepth 100000 in
set_option maxHeartbeats 1600000 in
theorem fsum_any (v : Value) (bs : List UInt8) (w : World) {B : Nat} (h : Sl w B v bs) :
    Calls Try.prog 95 #[v] w fun e w' => e = .returned (.int .u32 (crc bs : Nat)) ∧ w = w' := by
  have hat := fun h0 => h.at h0
  obtain ⟨A, c, rfl, h2, h3⟩ := h.len
  clear h
  have HAT := Lib.hid hat
  clear hat
  have hm2 : bs.length ≤ 9223372036854775807 := by unfold maxLen at h3; omega
  clear h3
  go_enter Try.func95, Try.ntmps95
  go_wp2
  go_loop [3, 9] (fun s1 i => ∃ k : Nat, k ≤ bs.length ∧ i = .int .i64 k ∧ s1 = .int .u32 (crcOn 4294967295 (bs.take k) : Nat)) (fun _ i => bs.length - (intOf i).toNat)
  case atStart => exact ⟨0, Nat.zero_le _, rfl, rfl⟩
  case round =>
    obtain ⟨k, hk, rfl, rfl⟩ := hrel
    by_cases hlt : k < bs.length
    · obtain ⟨b, off, c', he, _, _, _, hc⟩ := HAT.out (by omega)
      have hcell := hc k hlt
      have hsn := crcOn_snoc 4294967295 bs k hlt
      injection he with e1 _ e3
      subst e1 e3
      clear hc
      have hlt32 := crcOn_lt (s := 4294967295) (by omega) (bs.take k)
      generalize hx : bs[k] = x at hcell hsn
      generalize hm : crcOn 4294967295 (bs.take k) = m at hsn hlt32 ⊢
      have E1 := wrap_byte32 x
      have E2 := u32_xor_nat m x.toNat hlt32 (by have := x.toNat_lt; omega)
      have HX := Lib.hid (xor_byte_lt hlt32 x)
      have HSN := Lib.hid hsn
      clear hx hm hsn hlt32
      go_wp2
      go_loop [3, 17] (fun s1 i => ∃ j : Nat, j ≤ 8 ∧ i = .int .i64 j ∧ s1 = .int .u32 (bitsN j (m ^^^ x.toNat) : Nat)) (fun _ i => 8 - (intOf i).toNat)
      case atStart => exact ⟨0, Nat.zero_le _, rfl, rfl⟩
      case round =>
        obtain ⟨j, hj, rfl, rfl⟩ := hrel
        by_cases hjl : j < 8
        · have hl := bitsN_lt HX.out j
          have hnx : Hid (bitsN (j + 1) (m ^^^ x.toNat) = bit1 (bitsN j (m ^^^ x.toNat))) := rfl
          generalize bitsN j (m ^^^ x.toNat) = s at hl hnx ⊢
          have F1 := and_one32 s hl
          rcases (by omega : s % 2 = 0 ∨ s % 2 = 1) with h0 | h0
          · have F2 := bit1_none s hl h0
            have F3 := poly_none
            rw [h0] at F1
            clear h0
            go_wp2
            go_round
            case rel => exact ⟨j + 1, by omega, by go_num, by rw [hnx.out]⟩
            case measure => simp [intOf]; omega
          · have F2 := bit1_xor s hl h0
            have F3 := poly_all
            rw [h0] at F1
            clear h0
            go_wp2
            go_round
            case rel => exact ⟨j + 1, by omega, by go_num, by rw [hnx.out]⟩
            case measure => simp [intOf]; omega
        · have hj8 : j = 8 := by omega
          have hcb : Hid (bitsN j (m ^^^ x.toNat) = crcB m x) := by unfold Hid; rw [hj8]; rfl
          clear hj8
          go_wp2
          go_round
          case rel => exact ⟨k + 1, by omega, by go_num, by rw [HSN.out, hcb.out]⟩
          case measure => simp [intOf]; omega
    · have hkl : k = bs.length := by omega
      have htk : Hid (bs.take k = bs) := by unfold Hid; rw [hkl, List.take_of_length_le (Nat.le_refl _)]
      have hl := crcOn_lt (s := 4294967295) (by omega) (bs.take k)
      clear hkl
      go_wp2
      go_ret
      refine ⟨ret_u32 ?_, rfl⟩
      rw [htk.out] at hl ⊢
      exact not32 _ hl

end Go.Proofs.Ytcliknmcefcaeaa.Cd
