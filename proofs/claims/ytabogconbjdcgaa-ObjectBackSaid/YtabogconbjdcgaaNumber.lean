/-
  code.number: the number that a text begins with. Conditions: none.
-/
import Derived.Test.YtabogconbjdcgaaMem
import Derived.LoopTactic
import Derived.IntWalk
import Derived.Laws.BitsAllLaws
namespace Go.Proofs.Ytabogconbjdcgaa.Cd
open Go.RowKit

/-- What number answers. -/
def NumIs (l : List UInt8) (w : World) (e : Ending) (w' : World) : Prop := e = .returned (.tuple #[.int .u64 (nv l : Nat), .int .i64 (ns l : Nat)]) ∧ w = w'

theorem NumIs.bad {l : List UInt8} {w : World} {e : Ending} (h : Bad l) (he : e = .returned (.tuple #[.int .u64 0, .int .i64 0])) : NumIs l w e w :=
  ⟨by rw [he, nv_bad h, ns_bad h]; rfl, rfl⟩

theorem NumIs.good {l : List UInt8} {w : World} {e : Ending} {k x : Nat} (h : ¬ Bad l ∧ stop l = k ∧ x = val l (k + 1)) (he : e = .returned (.tuple #[.int .u64 (x : Nat), .int .i64 ((k : Int) + 1)])) : NumIs l w e w := by
  obtain ⟨h1, rfl, rfl⟩ := h
  refine ⟨?_, rfl⟩
  rw [he, nv_good h1, ns_good h1]
  rfl

theorem part_byte (c : UInt8) : IntKind.u64.wrap (bits BinOp.and IntKind.u8 (c.toNat : Int) 127) = ((c.toNat % 128 : Nat) : Int) := by
  have h := u8_and_nat c.toNat 127 c.toNat_lt (by omega)
  have h2 : c.toNat &&& 127 = c.toNat % 128 := Nat.and_two_pow_sub_one_eq_mod _ 7
  rw [show (127 : Int) = ((127 : Nat) : Int) from rfl, h, h2, IntKind.wrap_u64]
  omega

theorem shl_part (p k : Nat) : Op.shift .shl .u64 (p : Int) .i64 (7 * (k : Int)) = pure (.int .u64 (up p k : Nat)) := by
  have h : ¬ (7 * (k : Int) < 0) := by omega
  have h2 : (7 * (k : Int)).toNat = 7 * k := by omega
  simp only [Op.shift, if_neg h, h2, IntKind.bits, IntKind.wrap_u64]
  congr 2

theorem shr_part (y k : Nat) : Op.shift .shr .u64 (y : Int) .i64 (7 * (k : Int)) = pure (.int .u64 (down y k : Nat)) := by
  have h : ¬ (7 * (k : Int) < 0) := by omega
  have h2 : (7 * (k : Int)).toNat = 7 * k := by omega
  simp only [Op.shift, if_neg h, h2, IntKind.bits]
  congr 2
  unfold down
  rw [Int.natCast_ediv, Int.natCast_pow, Int.fdiv_eq_ediv_of_nonneg _ (Int.pow_nonneg (by omega))]
  rfl

theorem at8_of (s : ByteArray) (k : Nat) (h : k < s.size) : s[k].toNat = at8 s.data.toList k := by
  have h2 : k < s.data.toList.length := h
  unfold at8
  rw [List.getD_eq_getElem?_getD, List.getElem?_eq_getElem h2]
  rfl

set_option maxRecDepth 100000 in
set_option maxHeartbeats 800000 in
theorem number_any (s : ByteArray) (w : World) (hs : s.size ≤ 140737488355328) :
    Calls Try.prog 67 #[.string s] w (NumIs s.data.toList w) := by
  go_enter Try.func67, Try.ntmps67
  go_wp2
  go_loop [4, 5] (fun n i => ∃ (m k : Nat), n = .int .u64 m ∧ i = .int .i64 k ∧ k ≤ s.size ∧ m < 18446744073709551616 ∧ Hid (More s.data.toList k) ∧ Hid (k ≤ 9 → m = val s.data.toList k)) (fun _ i => s.size - (intOf i).toNat)
  case atStart => exact ⟨0, 0, rfl, rfl, by omega, by omega, More.zero _, fun _ => rfl⟩
  case round =>
    obtain ⟨m, k, rfl, rfl, hk, hm, hb, hv⟩ := hrel
    by_cases hlt : k < s.size
    · obtain ⟨c, hc⟩ : ∃ c, c = s[k] := ⟨_, rfl⟩
      have hat : c.toNat = at8 s.data.toList k := by rw [hc]; exact at8_of s k hlt
      have hc2 : s[k] = c := hc.symm
      have HAT := Lib.hid hat
      have HC := Lib.hid hc
      clear hat hc
      have E1 := part_byte c
      have E2 := shl_part (c.toNat % 128) k
      have E3 := shr_part (up (c.toNat % 128) k) k
      have E4 := u64_or_nat m (up (c.toNat % 128) k) hm (up_lt _ _)
      generalize hp : c.toNat % 128 = p at E1 E2 E3 E4
      generalize hy : up p k = y at E2 E3 E4
      generalize hz : down y k = z at E3
      have HP := Lib.hid hp
      have HY := Lib.hid hy
      have HZ := Lib.hid hz
      clear hp hy hz
      have hlen : Hid (k < s.data.toList.length) := hlt
      by_cases ha : 0 < k ∧ c.toNat = 0
      · obtain ⟨h0, hcz⟩ := ha
        have hbad : Hid (Bad s.data.toList) := num_zero hb.out hlen.out h0 (by rw [← HAT.out]; exact hcz)
        have hq : ((c.toNat : Int) == 0) = true := by simp; omega
        clear hcz hb hv E2 E3 E4 E1
        go_wp2
        go_ret2
        exact NumIs.bad hbad.out rfl
      · by_cases hzp : z = p
        · have hq : ((z : Int) != (p : Int)) = false := by simp; omega
          by_cases h8 : c.toNat < 128
          · have hdone := num_done hb.out hlen.out (by rw [← HAT.out]; exact h8) (by rw [← HAT.out]; omega) (by rw [← HAT.out, HP.out, HY.out, HZ.out]; exact hzp) hv.out
            rw [← HAT.out, HP.out, HY.out] at hdone
            have HD := Lib.hid hdone
            clear hdone hzp hb hv
            by_cases h0 : 0 < k
            · have hq2 : ((c.toNat : Int) == 0) = false := by simp; omega
              clear ha
              go_wp2
              go_ret2
              exact NumIs.good HD.out rfl
            · have hk0 : decide (0 < k) = false := by simpa using h0
              clear ha h0
              go_wp2
              go_ret2
              exact NumIs.good HD.out rfl
          · have hstep : Hid (k + 1 ≤ 9 → m ||| y = val s.data.toList (k + 1)) := fun h9 => by
              have := num_step hv.out (by omega)
              rw [← HAT.out, HP.out, HY.out] at this
              exact this
            have hmore : Hid (More s.data.toList (k + 1)) := hb.out.succ (by rw [← HAT.out]; omega)
            have hor : m ||| y < 18446744073709551616 := Nat.or_lt_two_pow (n := 64) hm (by rw [← HY.out]; exact up_lt _ _)
            have hq2 : ((c.toNat : Int) == 0) = false := by simp; omega
            clear hzp hb hv ha
            by_cases h0 : 0 < k
            · go_wp2
              go_round
              case rel => exact ⟨m ||| y, k + 1, by go_num, by go_num, by omega, hor, hmore, hstep⟩
              case measure => simp [intOf]; omega
            · have hk0 : decide (0 < k) = false := by simpa using h0
              clear h0
              go_wp2
              go_round
              case rel => exact ⟨m ||| y, k + 1, by go_num, by go_num, by omega, hor, hmore, hstep⟩
              case measure => simp [intOf]; omega
        · have hq : ((z : Int) != (p : Int)) = true := by simp; omega
          have hbad : Hid (Bad s.data.toList) := num_over hb.out hlen.out (by rw [← HAT.out, HP.out, HY.out, HZ.out]; exact hzp)
          clear hzp hb hv
          by_cases h0 : 0 < k
          · have hq2 : ((c.toNat : Int) == 0) = false := by simp; omega
            clear ha
            go_wp2
            go_ret2
            exact NumIs.bad hbad.out rfl
          · have hk0 : decide (0 < k) = false := by simpa using h0
            clear ha h0
            go_wp2
            go_ret2
            exact NumIs.bad hbad.out rfl
    · have : k = s.size := by omega
      have hbad : Hid (Bad s.data.toList) := num_end (by have := hb.out; subst k; exact this)
      clear this hb hv
      go_wp2
      go_ret2
      exact NumIs.bad hbad.out rfl

end Go.Proofs.Ytabogconbjdcgaa.Cd
