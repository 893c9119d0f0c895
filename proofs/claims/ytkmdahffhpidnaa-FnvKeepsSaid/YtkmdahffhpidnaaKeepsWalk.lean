/-
  FnvKeeps answers true. Conditions: none.
-/
import Derived.Test.YtkmdahffhpidnaaFnvAlive
namespace Go.Proofs.Ytkmdahffhpidnaa.Cd
open Go.RowKit

set_option maxRecDepth 100000 in
set_option maxHeartbeats 800000 in
theorem keeps_big (v u : Value) (a b : List UInt8) (w : World) (h : Sl w w.heap.size v a) (k : Sl w w.heap.size u b) (hbig : 8192 < a.length ∨ 8192 < b.length) :
    Calls Try.prog 6 #[v, u] w (Gives (.bool true) w) := by
  obtain ⟨A, cap, rfl, h2, h3⟩ := h.len
  obtain ⟨A', cap', rfl, k2, k3⟩ := k.len
  clear h k
  have hm2 : a.length ≤ 9223372036854775807 := by unfold maxLen at h3; omega
  have hm3 : b.length ≤ 9223372036854775807 := by unfold maxLen at k3; omega
  clear h3 k3
  by_cases ha : 8192 < a.length
  all_goals
    go_enter Try.func6, Try.ntmps6
    go_wp2_with fail
    refine (alive_any w).mono ?_
    rintro e w1 ⟨rfl, hb1⟩
    go_wp2_with fail
    go_ret
    exact ⟨rfl, hb1⟩

set_option maxRecDepth 100000 in
set_option maxHeartbeats 800000 in
theorem keeps_walk (v u : Value) (a b : List UInt8) (w : World) (h : Sl w w.heap.size v a) (k : Sl w w.heap.size u b) (ha : a.length ≤ 8192) (hb : b.length ≤ 8192) :
    Calls Try.prog 6 #[v, u] w (Gives (.bool true) w) := by
  obtain ⟨A, cap, hv, h2, h3⟩ := h.len
  obtain ⟨A', cap', hu, k2, k3⟩ := k.len
  have H := Lib.hid h
  have K := Lib.hid k
  clear h k h3 k3
  subst hv hu
  go_enter Try.func6, Try.ntmps6
  go_wp2_with fail
  refine (alive_any w).mono ?_
  rintro e w1 ⟨rfl, hb1⟩
  have hs1 := hb1.size
  go_wp2_with (refine wp_append_sl rfl _ _ rfl w1.heap.size _ [] rfl (own_new w1 _ (Nat.le_refl _)) (by simp) _ _ a rfl (H.out.below (hb1.alloc hs1 _)) (by simp; omega) ?_)
  intro v1 w2 ho1 hb2
  have hbx : Below w.heap.size w w2 := (hb1.alloc hs1 _).trans (hb2.mono hs1)
  have hs2 := hb2.size
  rw [asz] at hs2
  go_wp2_with (refine wp_append_sl rfl _ _ rfl w2.heap.size _ [] rfl (own_new w2 _ (Nat.le_refl _)) (by simp) _ _ b rfl (K.out.below (hbx.alloc (by omega) _)) (by simp; omega) ?_)
  intro v2 w3 ho2 hb3
  have hs3 := hb3.size
  rw [asz] at hs3
  have hby : Below w2.heap.size w2 w3 := ((Below.refl _ _).alloc (Nat.le_refl _) _).trans hb3
  obtain ⟨A1, q1, e1, _, _⟩ := ho1.sl.len
  obtain ⟨A2, q2, e2, _, _⟩ := ho2.sl.len
  subst e1 e2
  have hx := (ho1.keep hby).sl
  have hy := ho2.sl
  have hS := Sls.two _ _ a b hx hy (Nat.le_refl _) 25
  have hbz : Below w.heap.size w w3 := hbx.trans (hby.mono (by omega))
  have HX := Lib.hid hx
  have HY := Lib.hid hy
  have HS := Lib.hid hS
  clear hx hy hS ho1 ho2
  go_wp2_with fail
  refine (sum_any _ [a, b] _ HS.out).mono ?_
  rintro e w4 ⟨rfl, rfl⟩
  have hb4 : Below w3.heap.size w3 (w3.alloc (.cells #[.slice A1 a.length q1, .slice A2 b.length q2] 25)) := (Below.refl _ _).alloc (Nat.le_refl _) _
  have c1 := run_text_of _ _ _ a (HX.out.below hb4)
  have c2 := run_text_of _ _ _ b (HY.out.below hb4)
  have hbw := hbz.alloc (by omega : w.heap.size ≤ w3.heap.size) (.cells #[.slice A1 a.length q1, .slice A2 b.length q2] 25)
  have c3 := run_text_of _ _ _ a (H.out.below hbw)
  have c4 := run_text_of _ _ _ b (K.out.below hbw)
  have hT := Sls.two _ _ a b (H.out.below hbw) (K.out.below hbw) (by simp; omega) 25
  rw [asz] at hT
  have HT := Lib.hid hT
  clear hT
  go_wp2_with fail
  refine (sum_any _ [a, b] _ HT.out).mono ?_
  rintro e w4 ⟨rfl, rfl⟩
  go_wp2_with fail
  go_ret
  exact ⟨rfl, hbw.alloc (by simp; omega) _⟩

end Go.Proofs.Ytkmdahffhpidnaa.Cd

namespace Go.Proofs.Ytkmdahffhpidnaa.FnvKeeps
open Go.RowKit Go.Proofs.Ytkmdahffhpidnaa.Cd

theorem walk (v : Value) (a : List UInt8) (u : Value) (b : List UInt8) (w : World) (h : Sl w w.heap.size v a) (k : Sl w w.heap.size u b) :
    Calls Try.prog 6 #[v, u] w (Gives (.bool true) w) := by
  by_cases hbig : 8192 < a.length ∨ 8192 < b.length
  · exact keeps_big v u a b w h k hbig
  · exact keeps_walk v u a b w h k (by omega) (by omega)

end Go.Proofs.Ytkmdahffhpidnaa.FnvKeeps
