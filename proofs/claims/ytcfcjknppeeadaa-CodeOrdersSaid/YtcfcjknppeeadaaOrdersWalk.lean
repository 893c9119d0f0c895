/-
  CodeOrders answers true. Conditions: none.
-/
import Derived.Test.YtcfcjknppeeadaaAlive
import Derived.Test.YtcfcjknppeeadaaSize
import Derived.Test.YtcfcjknppeeadaaMathB
import Derived.Deep.QuietTactic
import Derived.BigQuiet
import Derived.OpenShut
namespace Go.Proofs.Ytcfcjknppeeadaa.Cd
open Go.RowKit

/-- A row of the call's own that has a first byte. -/
theorem Own.open {w : World} {B : Nat} {v : Value} {c : UInt8} {r : List UInt8} (h : Own w B v (c :: r)) :
    ∃ g cap, v = .slice (some ⟨g, 0, none⟩) (r.length + 1) cap ∧ r.length + 1 ≤ cap ∧ cap ≤ maxLen ∧ g < w.heap.size ∧ ∀ j u, (vb (c :: r))[j]? = some u → w.cell? ⟨g, j, none⟩ = some u := by
  obtain ⟨g, cap, hv, hlt⟩ : ∃ g cap, v = .slice (some ⟨g, 0, none⟩) (r.length + 1) cap ∧ g < w.heap.size := by
    have hlt := h.lt
    rcases h.2 with ⟨_, h0⟩ | ⟨g, cap, cur, rfl, _⟩
    · simp at h0
    · exact ⟨g, cap, by simp, (hlt g rfl).2⟩
  have hc := World.ownsRow.cells h (g := g) (by rw [hv]; rfl)
  have hs := h.sl
  obtain ⟨A, c', e, h2, h3, _⟩ := hs
  rw [hv] at e
  injection e with e1 e2 e3
  subst e3
  exact ⟨g, cap, hv, h2, h3, hlt, fun j u hu => by have := hc j u hu; rwa [Addr.add_lit, Nat.zero_add] at this⟩

/-- string(x[1:]). -/
theorem run_text_tail (w : World) (g cap : Nat) (c : UInt8) (r : List UInt8) (hcap : r.length + 1 ≤ cap) (hc : ∀ j u, (vb (c :: r))[j]? = some u → w.cell? ⟨g, j, none⟩ = some u) :
    (convert 26 9 (.slice (if cap = 1 then some ⟨g, 0, none⟩ else some ⟨g, 1, none⟩) r.length (cap - 1))).run Try.prog w = .ok (.string ⟨r.toArray⟩) w := by
  by_cases h : cap = 1
  · have hr : r = [] := List.eq_nil_of_length_eq_zero (by omega)
    subst hr
    rw [if_pos h]
    exact run_convert_bytes_back w 26 9 5 ⟨g, 0, none⟩ _ [] Try.underlying26 Try.underlying5 Try.underlying9 fun j hj => by simp at hj
  · rw [if_neg h]
    refine run_convert_bytes_back w 26 9 5 ⟨g, 1, none⟩ _ r Try.underlying26 Try.underlying5 Try.underlying9 fun j hj => ?_
    rw [Addr.add_lit, Nat.add_comm]
    refine hc (j + 1) _ ?_
    simp [vb, hj]

set_option maxRecDepth 100000 in
set_option maxHeartbeats 800000 in
theorem orders_walk (a b : Nat) (n : Int) (w : World) (ha : a < 18446744073709551616) (hb : b < 18446744073709551616) (h0 : -9223372036854775808 ≤ n) (h1 : n ≤ 9223372036854775807) :
    Calls Try.prog 7 #[.int .u64 a, .int .u64 b, .int .i64 n] w (Gives (.bool true) w) := by
  have hm := enc_mono a b
  have HM := Lib.hid hm
  clear hm
  have hw : wrap64 (wrap64 (-n) - 1) = -n - 1 := by unfold wrap64; omega
  have hp := enc_pos a
  have hl := enc_u64 b hb
  obtain ⟨c, d, r, hc, hd, hx⟩ := zig_pair n
  have hlr := enc_u64 (zig n) (by unfold zig; split <;> omega)
  rw [hc] at hlr
  have HC := Lib.hid hc
  have HD := Lib.hid hd
  have HX := Lib.hid hx
  clear hc hd hx
  rcases Nat.lt_or_ge b a with hab | hab
  all_goals
    have hm2 : a ≤ b → (enc a).length ≤ (enc b).length := HM.out
    first
      | (have hm3 := hm2 hab; clear hm2)
      | (have hab2 : ¬ a ≤ b := by omega
         clear hm2)
    go_enter Try.func7, Try.ntmps7
    go_wp2_with (first | (go_at_call 10; refine (alive_any _).mono ?_; rintro e w1 ⟨rfl, hb1⟩) | (go_at_call 13; refine (size_any _ (by assumption) _).mono ?_; rintro e w2 ⟨rfl, rfl⟩))
    refine (int_any _ [] n w1 (Sl.nil _ _) (by omega) h1 (by simp)).mono ?_
    rintro e w2 ⟨v1, rfl, ho1, hb2⟩
    rw [List.nil_append, HC.out] at ho1
    go_wp2_with fail
    try rw [hw]
    refine (int_any _ [] _ w2 (Sl.nil _ _) (by omega) (by omega) (by simp)).mono ?_
    rintro e w3 ⟨v2, rfl, ho2, hb3⟩
    rw [List.nil_append, HD.out] at ho2
    obtain ⟨g1, c1, rfl, k1, m1, l1, q1⟩ := ho1.open
    obtain ⟨g2, c2, rfl, k2, m2, l2, q2⟩ := ho2.open
    have q1' : ∀ j u, (vb (c :: r))[j]? = some u → w3.cell? ⟨g1, j, none⟩ = some u := fun j u hu => (hb3.cell l1).trans (q1 j u hu)
    have e1 : w3.cell? ⟨g1, 0, none⟩ = some (.int .u8 c.toNat) := q1' 0 _ rfl
    have e2 : w3.cell? ⟨g2, 0, none⟩ = some (.int .u8 d.toNat) := q2 0 _ rfl
    have t1 := fun k => run_text_tail (w3.drewN k) g1 c1 c r k1 q1'
    have t2 := fun k => run_text_tail (w3.drewN k) g2 c2 d r k2 q2
    have hxor : bits BinOp.xor IntKind.u8 (c.toNat : Int) (d.toNat : Int) = 1 := by rw [u8_xor_nat _ _ c.toNat_lt d.toNat_lt, HX.out]; rfl
    have hend : Below w.heap.size w w3 := (hb1.trans (hb2.mono hb1.size)).trans (hb3.mono (Nat.le_trans hb1.size hb2.size))
    clear q1' q1 q2 ho1 ho2
    go_wp2_with fail
    go_quiet (fail)
    go_wp2_with fail
    all_goals
      go_ret
      exact ⟨rfl, hend.trans (below_drewN (Below.refl _ _) _)⟩

end Go.Proofs.Ytcfcjknppeeadaa.Cd

namespace Go.Proofs.Ytcfcjknppeeadaa.CodeOrders
open Go.RowKit Go.Proofs.Ytcfcjknppeeadaa.Cd

theorem walk (a0 a1 a2 : Int) (w : World) (w0 : (Lit.int .u64 a0).wf = true) (w1 : (Lit.int .u64 a1).wf = true) (w2 : (Lit.int .i64 a2).wf = true) :
    Calls Try.prog 7 #[.int .u64 a0, .int .u64 a1, .int .i64 a2] w (Gives (.bool true) w) := by
  have b0 := bounds_u64 w0
  have b1 := bounds_u64 w1
  have b2 := bounds_i64 w2
  obtain ⟨a, rfl⟩ := Int.eq_ofNat_of_zero_le (a := a0) (by omega)
  obtain ⟨b, rfl⟩ := Int.eq_ofNat_of_zero_le (a := a1) (by omega)
  exact orders_walk a b a2 w (by omega) (by omega) (by omega) (by omega)

end Go.Proofs.Ytcfcjknppeeadaa.CodeOrders
