/-
  FnvGoes answers true. Conditions: none.
-/
import Derived.Test.YtkmdahffhpidnaaFnvAlive
import Derived.Test.YtkmdahffhpidnaaRefFnv
namespace Go.Proofs.Ytkmdahffhpidnaa.Cd
open Go.RowKit

set_option maxRecDepth 100000 in
set_option maxHeartbeats 800000 in
theorem goes_big (s : Nat) (v u : Value) (a b : List UInt8) (w : World) (h : Sl w w.heap.size v a) (k : Sl w w.heap.size u b) (hbig : 8192 < a.length ∨ 8192 < b.length) :
    Calls Try.prog 4 #[.int .u64 s, v, u] w (Gives (.bool true) w) := by
  obtain ⟨A, cap, rfl, h2, h3⟩ := h.len
  obtain ⟨A', cap', rfl, k2, k3⟩ := k.len
  clear h k
  have hm2 : a.length ≤ 9223372036854775807 := by unfold maxLen at h3; omega
  have hm3 : b.length ≤ 9223372036854775807 := by unfold maxLen at k3; omega
  clear h3 k3
  by_cases ha : 8192 < a.length
  all_goals
    go_enter Try.func4, Try.ntmps4
    go_wp2_with fail
    refine (alive_any w).mono ?_
    rintro e w1 ⟨rfl, hb1⟩
    go_wp2_with fail
    go_ret
    exact ⟨rfl, hb1⟩

set_option maxRecDepth 100000 in
set_option maxHeartbeats 1600000 in
theorem goes_walk (s : Nat) (v u : Value) (a b : List UInt8) (w : World) (h : Sl w w.heap.size v a) (k : Sl w w.heap.size u b) (hs : s < 18446744073709551616) (ha : a.length ≤ 8192) (hb : b.length ≤ 8192) :
    Calls Try.prog 4 #[.int .u64 s, v, u] w (Gives (.bool true) w) := by
  obtain ⟨A, cap, hv, h2, h3⟩ := h.len
  obtain ⟨A', cap', hu, k2, k3⟩ := k.len
  have hat := fun h0 => h.at h0
  have H := Lib.hid h
  have K := Lib.hid k
  have HAT := Lib.hid hat
  clear h k h3 k3 hat
  subst hv hu
  go_enter Try.func4, Try.ntmps4
  go_wp2_with fail
  refine (alive_any w).mono ?_
  rintro e w1 ⟨rfl, hb1⟩
  have hs1 := hb1.size
  go_wp2_with fail
  go_loop [7, 24] (fun s1 i => ∃ k : Nat, k ≤ a.length ∧ i = .int .i64 k ∧ s1 = .int .u64 (mor s (a.take k) : Nat)) (fun _ i => a.length - (intOf i).toNat)
  case atStart => exact ⟨0, Nat.zero_le _, rfl, rfl⟩
  case round =>
    obtain ⟨k, hk, rfl, rfl⟩ := hrel
    by_cases hlt : k < a.length
    · obtain ⟨g, off, c', he, _, _, hgB, hc⟩ := HAT.out (by omega)
      have hcell := (hb1.cell (p := ⟨g, off + k, none⟩) hgB).trans (hc k hlt)
      have hsn := mor_snoc s a k hlt
      injection he with e1 _ e3
      subst e1 e3
      clear hc hgB
      have hlt64 := mor_lt s (a.take k) hs
      generalize hx : a[k] = x at hcell hsn
      generalize hm : mor s (a.take k) = m at hsn hlt64 ⊢
      have HSN := Lib.hid hsn
      clear hx hm hsn
      go_wp2_with fail
      refine (ref_step_any m x w1 hlt64).mono ?_
      rintro e w' ⟨rfl, rfl⟩
      go_wp2
      go_round
      case rel => exact ⟨k + 1, by omega, by go_num, by rw [HSN.out]⟩
      case measure => simp [intOf]; omega
    · have hkl : k = a.length := by omega
      have htk : Hid (a.take k = a) := by unfold Hid; rw [hkl, List.take_of_length_le (Nat.le_refl _)]
      rw [htk.out]
      clear hkl htk
      go_wp2_with (refine wp_append_sl rfl (.tmp 32) (.tmp 33) rfl w1.heap.size _ [] rfl (own_new w1 _ (Nat.le_refl _)) (by simp) _ _ a rfl (H.out.below (hb1.alloc hs1 _)) (by simp; omega) ?_)
      intro v1 w2 ho1 hb2
      have hbx : Below w.heap.size w w2 := (hb1.alloc hs1 _).trans (hb2.mono hs1)
      have hs2 := hb2.size
      rw [asz] at hs2
      go_wp2_with (refine wp_append_sl rfl (.tmp 34) (.tmp 35) rfl w1.heap.size _ a rfl ho1 (by omega) _ _ b rfl (K.out.below hbx) (by omega) ?_)
      intro v2 w3 ho2 hb3
      have hs3 := hb3.size
      have hby : Below w.heap.size w w3 := hbx.trans (hb3.mono hs1)
      obtain ⟨c, hc⟩ : ∃ c, a ++ b = c := ⟨_, rfl⟩
      rw [hc] at ho2
      obtain ⟨A2, q2, e2, _, _⟩ := ho2.sl.len
      subst e2
      have HX := Lib.hid ho2.sl
      have HA := Lib.hid (H.out.below hby)
      have HB := Lib.hid (K.out.below hby)
      have ml := mor_lt s a hs
      have m1 : mor (mor s a) b = mor s c := by rw [← hc]; exact (mor_append s a b).symm
      have m2 : mor (mor fnv0 a) b = mor fnv0 c := by rw [← hc]; exact (mor_append fnv0 a b).symm
      have M1 := Lib.hid m1
      have M2 := Lib.hid m2
      have f64 := mor_lt fnv0 a (by unfold fnv0; omega)
      clear m1 m2 ho1 ho2 hc
      go_wp2_with fail
      refine (more_any s _ a w3 HA.out hs).mono ?_
      rintro e w4 ⟨rfl, rfl⟩
      go_wp2_with fail
      refine (more_any s _ a w3 HA.out hs).mono ?_
      rintro e w4 ⟨rfl, rfl⟩
      go_wp2_with fail
      refine (more_any (mor s a) _ b w3 HB.out ml).mono ?_
      rintro e w4 ⟨rfl, rfl⟩
      rw [M1.out]
      go_wp2_with fail
      refine (more_any s _ c w3 HX.out hs).mono ?_
      rintro e w4 ⟨rfl, rfl⟩
      have hS := Sls.one _ a HA.out (by omega) 25
      have HS := Lib.hid hS
      clear hS
      go_wp2_with fail
      refine (sum_any _ [a] _ HS.out).mono ?_
      rintro e w4 ⟨rfl, rfl⟩
      rw [show [a].flatten = a by simp]
      have hb4 := hby.alloc (by omega : w.heap.size ≤ w3.heap.size) (.cells #[.slice A a.length cap] 25)
      have HB4 := Lib.hid (K.out.below hb4)
      go_wp2_with fail
      refine (more_any (mor fnv0 a) _ b _ HB4.out f64).mono ?_
      rintro e w4 ⟨rfl, rfl⟩
      rw [M2.out]
      have hS := Sls.one _ c (HX.out.below ((Below.refl _ w3).alloc (Nat.le_refl _) (.cells #[.slice A a.length cap] 25))) (by simp) 25
      rw [asz] at hS
      have HS2 := Lib.hid hS
      clear hS
      go_wp2_with fail
      refine (sum_any _ [c] _ HS2.out).mono ?_
      rintro e w4 ⟨rfl, rfl⟩
      rw [show [c].flatten = c by simp]
      go_wp2_with fail
      go_ret
      exact ⟨rfl, hb4.alloc (by simp; omega) _⟩

end Go.Proofs.Ytkmdahffhpidnaa.Cd

namespace Go.Proofs.Ytkmdahffhpidnaa.FnvGoes
open Go.RowKit Go.Proofs.Ytkmdahffhpidnaa.Cd

theorem walk (a0 : Int) (v : Value) (a : List UInt8) (u : Value) (b : List UInt8) (w : World) (w0 : (Lit.int .u64 a0).wf = true) (h : Sl w w.heap.size v a) (k : Sl w w.heap.size u b) :
    Calls Try.prog 4 #[.int .u64 a0, v, u] w (Gives (.bool true) w) := by
  have b0 := bounds_u64 w0
  obtain ⟨x, rfl⟩ := Int.eq_ofNat_of_zero_le (a := a0) (by omega)
  by_cases hbig : 8192 < a.length ∨ 8192 < b.length
  · exact goes_big x v u a b w h k hbig
  · exact goes_walk x v u a b w h k (by omega) (by omega) (by omega)

end Go.Proofs.Ytkmdahffhpidnaa.FnvGoes
