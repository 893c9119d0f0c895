/-
  A part that is written is read by the same call: no Go in sight. Conditions: none.
-/
import Derived.Test.YtabogconbjdcgaaMathC
namespace Go.Proofs.Ytabogconbjdcgaa.Cd

section
variable {n : Nat} (t : List UInt8)

theorem in_enc {z : Int} (h0 : -9223372036854775808 ≤ z) (h1 : z ≤ 9223372036854775807) : ¬ InBad z z (enc (zig z) ++ t) := by
  have h := zig_lt h0 h1
  unfold InBad
  rw [nv_enc h, zag_zig]
  rintro (h2 | h2 | h2)
  · exact enc_good h t h2
  · omega
  · omega
theorem inV_enc {z : Int} (h0 : -9223372036854775808 ≤ z) (h1 : z ≤ 9223372036854775807) : inV z z (enc (zig z) ++ t) = z := by
  unfold inV; rw [if_neg (in_enc t h0 h1), nv_enc (zig_lt h0 h1), zag_zig]
theorem inB_enc {z : Int} (h0 : -9223372036854775808 ≤ z) (h1 : z ≤ 9223372036854775807) : inB z z (enc (zig z) ++ t) = t := by
  unfold inB; rw [if_neg (in_enc t h0 h1), ns_enc (zig_lt h0 h1), List.drop_left]
theorem inX_enc {z : Int} (h0 : -9223372036854775808 ≤ z) (h1 : z ≤ 9223372036854775807) : inX z z (enc (zig z) ++ t) = false := decide_eq_false (in_enc t h0 h1)

theorem tx_enc (s : List UInt8) (hs : s.length < 18446744073709551616) : ¬ TxBad s.length (enc s.length ++ (s ++ t)) := by
  unfold TxBad
  rw [nv_enc hs, ns_enc hs, List.drop_left, List.length_append]
  rintro (h | h | h | h)
  · exact enc_good hs _ h
  · omega
  · omega
  · omega
theorem txV_enc (s : List UInt8) (hs : s.length < 18446744073709551616) : txV s.length (enc s.length ++ (s ++ t)) = s := by
  unfold txV; rw [if_neg (tx_enc t s hs), nv_enc hs, ns_enc hs, List.drop_left, List.take_left]
theorem txB_enc (s : List UInt8) (hs : s.length < 18446744073709551616) : txB s.length (enc s.length ++ (s ++ t)) = t := by
  unfold txB; rw [if_neg (tx_enc t s hs), nv_enc hs, ns_enc hs, List.drop_left, List.drop_left]
theorem txX_enc (s : List UInt8) (hs : s.length < 18446744073709551616) : txX s.length (enc s.length ++ (s ++ t)) = false := decide_eq_false (tx_enc t s hs)

theorem tk_enc (s : List UInt8) : ¬ TkBad false s.length (s ++ t) := by
  unfold TkBad
  rw [List.length_append]
  rintro (h | h | h)
  · cases h
  · omega
  · omega
theorem tkV_enc (s : List UInt8) : tkV false s.length (s ++ t) = s := by
  unfold tkV; rw [if_neg (tk_enc t s), Int.toNat_natCast, List.take_left]
theorem tkB_enc (s : List UInt8) : tkB false s.length (s ++ t) = t := by
  unfold tkB; rw [if_neg (tk_enc t s), Int.toNat_natCast, List.drop_left]
theorem tkX_enc (s : List UInt8) : tkX false s.length (s ++ t) = false := decide_eq_false (tk_enc t s)
end

end Go.Proofs.Ytabogconbjdcgaa.Cd
