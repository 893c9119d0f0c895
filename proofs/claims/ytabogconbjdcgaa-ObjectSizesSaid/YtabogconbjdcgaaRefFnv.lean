/-
  The document's step, sum and bytes. Conditions: none.
-/
import Derived.Test.YtabogconbjdcgaaMore
namespace Go.Proofs.Ytabogconbjdcgaa.Cd
open Go.RowKit

theorem ret_int {k : IntKind} {a b : Int} (h : a = b) : Ending.returned (.int k a) = .returned (.int k b) := by rw [h]

theorem step_eq (s : Nat) (c : UInt8) (hs : s < 18446744073709551616) (x : Int) (hx : x = IntKind.u64.wrap ((s : Int) - (s : Int) % 256 + IntKind.u64.wrap (bits BinOp.xor IntKind.u8 ((s : Int) % 256) (c.toNat : Int)))) :
    IntKind.u64.wrap (IntKind.u64.wrap (IntKind.u64.wrap (x * 1099511627776) + IntKind.u64.wrap (x * 256)) + IntKind.u64.wrap (x * 179)) = (stp s c : Nat) := by
  have hc := c.toNat_lt
  have h1 := u8_xor_nat (s % 256) c.toNat (Nat.mod_lt _ (by omega)) hc
  have h2 := xor_low s c
  have h4 := xor_lt64 hs (byte_lt64 c)
  have h3 : (s % 256) ^^^ c.toNat < 256 := Nat.xor_lt_two_pow (n := 8) (Nat.mod_lt _ (by omega)) hc
  rw [show ((s % 256 : Nat) : Int) = (s : Int) % 256 by omega] at h1
  rw [h1] at hx
  unfold stp
  rw [← h2] at h4 ⊢
  generalize (s % 256) ^^^ c.toNat = r at *
  simp only [IntKind.wrap_u64] at hx ⊢
  omega



end Go.Proofs.Ytabogconbjdcgaa.Cd
