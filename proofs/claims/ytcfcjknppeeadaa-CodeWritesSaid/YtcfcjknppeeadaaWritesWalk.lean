/-
  CodeWrites answers true. Conditions: none.
-/
import Derived.Test.YtcfcjknppeeadaaWritten
import Derived.Test.YtcfcjknppeeadaaAlive
import Derived.Test.YtcfcjknppeeadaaSize
import Derived.Test.YtcfcjknppeeadaaOpen
namespace Go.Proofs.Ytcfcjknppeeadaa.CodeWrites
open Go.RowKit Go.Proofs.Ytcfcjknppeeadaa.Cd

set_option maxRecDepth 100000 in
set_option maxHeartbeats 800000 in
theorem main (v : Value) (ps : List Prt) (n : Nat) (w : World) (h : Parts w w.heap.size v ps) (hS : ∀ p ∈ ps, p.s.length ≤ 140737488355328) (hn : n < 18446744073709551616) :
    Calls Try.prog 3 #[v, .int .u64 n] w (Gives (.bool true) w) := by
  have H := Lib.hid h
  have HS := Lib.hid hS
  have hl := enc_u64 n hn
  clear h hS
  cases hb : big ps
  · have HB := Lib.hid hb
    clear hb
    go_enter Try.func3, Try.ntmps3
    go_wp2_with fail
    refine (alive_any _).mono ?_
    rintro e w1 ⟨rfl, hb1⟩
    have P1 := (H.out.below hb1).more hb1.size
    have HP1 := Lib.hid P1
    clear P1
    go_wp2_with fail
    refine (great_any _ _ _ HP1.out HS.out).mono ?_
    rintro e w2 ⟨rfl, hb2⟩
    rw [HB.out]
    have P2 := (HP1.out.below hb2).more hb2.size
    have HP2 := Lib.hid P2
    clear P2
    go_wp2_with fail
    refine (written_any _ _ _ HP2.out HS.out HB.out).mono ?_
    rintro e w3 ⟨v3, rfl, ho3, hb3⟩
    have hcv := run_text_of w3 _ v3 _ ho3.sl
    have hw3 : Below w.heap.size w w3 := (hb1.trans (hb2.mono hb1.size)).trans (hb3.mono (Nat.le_trans hb1.size hb2.size))
    have hs3 := hw3.size
    go_wp2_with (first | (go_at_call 13; refine (size_any n hn _).mono ?_; rintro e w4 ⟨rfl, rfl⟩) | (go_at_call 14; refine (ref_uint_any n _ hn).mono ?_; rintro e w5 ⟨rfl, hb5⟩))
    refine (uint_any _ [] n w5 (Sl.nil _ _) hn (by simp)).mono ?_
    rintro e w6 ⟨v6, rfl, ho6, hb6⟩
    obtain ⟨A6, c6, rfl, _⟩ := ho6.sl
    have hs5 := hb5.size
    go_wp2_with (go_at_call 13; refine (size_any n hn _).mono ?_; rintro e w7 ⟨rfl, rfl⟩)
    go_ret
    exact ⟨rfl, (hw3.trans (hb5.mono hs3)).trans (hb6.mono (by omega))⟩
  · have HB := Lib.hid hb
    clear hb
    go_enter Try.func3, Try.ntmps3
    go_wp2_with fail
    refine (alive_any _).mono ?_
    rintro e w1 ⟨rfl, hb1⟩
    have P1 := (H.out.below hb1).more hb1.size
    have HP1 := Lib.hid P1
    clear P1
    go_wp2_with fail
    refine (great_any _ _ _ HP1.out HS.out).mono ?_
    rintro e w2 ⟨rfl, hb2⟩
    rw [HB.out]
    go_wp2_with fail
    go_ret
    exact ⟨rfl, hb1.trans (hb2.mono hb1.size)⟩

theorem walk (v0 : Value) (ps : List Prt) (a1 : Int) (w : World) (w0 : Parts w w.heap.size v0 ps ∧ ∀ p ∈ ps, p.s.length ≤ 140737488351232) (w1 : (Lit.int .u64 a1).wf = true) :
    Calls Try.prog 3 #[v0, .int .u64 a1] w (Gives (.bool true) w) := by
  have b1 := bounds_u64 w1
  obtain ⟨a, rfl⟩ := Int.eq_ofNat_of_zero_le (a := a1) (by omega)
  exact main v0 ps a w w0.1 (fun p hp => Nat.le_trans (w0.2 p hp) (by omega)) (by omega)

end Go.Proofs.Ytcfcjknppeeadaa.CodeWrites
