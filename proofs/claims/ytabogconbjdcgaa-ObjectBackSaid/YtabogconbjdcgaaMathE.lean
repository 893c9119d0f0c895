/-
  What was read is written as the bytes that were read: no Go in sight. Conditions: none.
-/
import Derived.Test.YtabogconbjdcgaaMathC
namespace Go.Proofs.Ytabogconbjdcgaa.Cd

theorem one_u {bs : List UInt8} (h : uX bs = false) : enc (nv bs) ++ uB bs = bs := enc_uB (of_decide_eq_false h)

theorem one_int {bs : List UInt8} (h : uX bs = false) : enc (zig (zag (nv bs))) ++ uB bs = bs := by rw [zig_zag]; exact one_u h

theorem one_in {lo hi : Int} {bs : List UInt8} (h : inX lo hi bs = false) : enc (zig (inV lo hi bs)) ++ inB lo hi bs = bs := by
  have hn : ¬ InBad lo hi bs := of_decide_eq_false h
  have hb : ¬ Bad bs := fun h => hn (.inl h)
  unfold inV inB
  rw [if_neg hn, if_neg hn, zig_zag, enc_nv hb, List.take_append_drop]

theorem one_tk {bad : Bool} {n : Int} {bs : List UInt8} (h : tkX bad n bs = false) : tkV bad n bs ++ tkB bad n bs = bs := by
  have hn : ¬ TkBad bad n bs := of_decide_eq_false h
  unfold tkV tkB
  rw [if_neg hn, if_neg hn, List.take_append_drop]

theorem one_tx {most : Int} {bs : List UInt8} (h : txX most bs = false) : (enc (txV most bs).length ++ txV most bs) ++ txB most bs = bs := by
  have hn : ¬ TxBad most bs := of_decide_eq_false h
  have hb : ¬ Bad bs := fun h => hn (.inl h)
  have hl : nv bs ≤ (bs.drop (ns bs)).length := Nat.le_of_not_lt (fun h => hn (.inr (.inr (.inr h))))
  unfold txV txB
  rw [if_neg hn, if_neg hn, List.length_take, Nat.min_eq_left hl, enc_nv hb, List.append_assoc, List.take_append_drop, List.take_append_drop]

theorem tkV_len (bad : Bool) (n : Int) (bs : List UInt8) : (tkV bad n bs).length ≤ bs.length := by
  unfold tkV; split <;> simp; omega
theorem txV_len (most : Int) (bs : List UInt8) : (txV most bs).length ≤ bs.length := by
  unfold txV
  split
  · simp
  · rw [List.length_take, List.length_drop]; omega

theorem zag_lt {n : Nat} (h : n < 18446744073709551616) : -9223372036854775808 ≤ zag n ∧ zag n ≤ 9223372036854775807 := by
  unfold zag; split <;> omega

theorem inV_lt {lo hi : Int} {bs : List UInt8} : -9223372036854775808 ≤ inV lo hi bs ∧ inV lo hi bs ≤ 9223372036854775807 := by
  unfold inV
  split
  · omega
  · exact zag_lt (nv_u64 bs)

end Go.Proofs.Ytabogconbjdcgaa.Cd
