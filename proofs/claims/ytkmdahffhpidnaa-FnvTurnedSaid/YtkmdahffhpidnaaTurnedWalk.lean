/-
  FnvTurned answers true. Conditions: none.
-/
import Derived.Test.YtkmdahffhpidnaaFnvAlive
namespace Go.Proofs.Ytkmdahffhpidnaa.Cd
open Go.RowKit

set_option maxRecDepth 100000 in
set_option maxHeartbeats 800000 in
theorem turned_out (v : Value) (a : List UInt8) (at_ : Int) (c : UInt8) (w : World) (h : Sl w w.heap.size v a) (c0 : -9223372036854775808 ≤ at_) (c1 : at_ ≤ 9223372036854775807)
    (hout : 4096 < a.length ∨ at_ < 0 ∨ a.length ≤ at_ ∨ c.toNat = 0) :
    Calls Try.prog 7 #[v, .int .i64 at_, .int .u8 c.toNat] w (Gives (.bool true) w) := by
  obtain ⟨A, cap, rfl, h2, h3⟩ := h.len
  clear h
  have hm2 : a.length ≤ 9223372036854775807 := by unfold maxLen at h3; omega
  clear h3
  by_cases g1 : 4096 < a.length
  · clear hout
    go_enter Try.func7, Try.ntmps7
    go_wp2_with fail
    refine (alive_any w).mono ?_
    rintro e w1 ⟨rfl, hb1⟩
    go_wp2_with fail
    go_ret
    exact ⟨rfl, hb1⟩
  · by_cases g2 : at_ < 0
    · clear hout
      go_enter Try.func7, Try.ntmps7
      go_wp2_with fail
      refine (alive_any w).mono ?_
      rintro e w1 ⟨rfl, hb1⟩
      go_wp2_with fail
      go_ret
      exact ⟨rfl, hb1⟩
    · by_cases g3 : (a.length : Int) ≤ at_
      · clear hout
        go_enter Try.func7, Try.ntmps7
        go_wp2_with fail
        refine (alive_any w).mono ?_
        rintro e w1 ⟨rfl, hb1⟩
        go_wp2_with fail
        go_ret
        exact ⟨rfl, hb1⟩
      · have hc : c.toNat = 0 := by omega
        have hq : ((c.toNat : Int) == 0) = true := by simp; omega
        clear hout hc
        go_enter Try.func7, Try.ntmps7
        go_wp2_with fail
        refine (alive_any w).mono ?_
        rintro e w1 ⟨rfl, hb1⟩
        go_wp2_with fail
        go_ret
        exact ⟨rfl, hb1⟩

theorem xor_byte (x c : UInt8) (y : UInt8) (hy : y = UInt8.ofNat (x.toNat ^^^ c.toNat)) : bits BinOp.xor IntKind.u8 (x.toNat : Int) (c.toNat : Int) = (y.toNat : Int) := by
  subst hy
  rw [u8_xor_nat _ _ x.toNat_lt c.toNat_lt, UInt8.toNat_ofNat']
  have : x.toNat ^^^ c.toNat < 256 := Nat.xor_lt_two_pow (n := 8) x.toNat_lt c.toNat_lt
  omega

theorem xor_other (x c : UInt8) (hc : c.toNat ≠ 0) : UInt8.ofNat (x.toNat ^^^ c.toNat) ≠ x := by
  intro h
  have h2 := congrArg UInt8.toNat h
  rw [UInt8.toNat_ofNat', Nat.mod_eq_of_lt (Nat.xor_lt_two_pow (n := 8) x.toNat_lt c.toNat_lt)] at h2
  have h3 := congrArg (fun z => x.toNat ^^^ z) h2
  simp [← Nat.xor_assoc] at h3
  exact hc (by rw [h3])

set_option maxRecDepth 100000 in
set_option maxHeartbeats 1600000 in
theorem turned_walk (v : Value) (a : List UInt8) (k : Nat) (c : UInt8) (w : World) (h : Sl w w.heap.size v a) (ha : a.length ≤ 4096) (hk : k < a.length) (hc : c.toNat ≠ 0) :
    Calls Try.prog 7 #[v, .int .i64 k, .int .u8 c.toNat] w (Gives (.bool true) w) := by
  obtain ⟨A, cap, hv, h2, h3⟩ := h.len
  have H := Lib.hid h
  clear h h3
  subst hv
  have hq : ((c.toNat : Int) == 0) = false := by simp; omega
  obtain ⟨y, hy⟩ : ∃ y, y = UInt8.ofNat ((a[k]).toNat ^^^ c.toNat) := ⟨_, rfl⟩
  have hx := xor_byte a[k] c y hy
  have hne : y ≠ a[k] := by rw [hy]; exact xor_other _ c hc
  have ht := mor_turned fnv0 (by unfold fnv0; omega) a k hk y hne
  have HT := Lib.hid ht
  clear hy hc ht hne
  go_enter Try.func7, Try.ntmps7
  go_wp2_with fail
  refine (alive_any w).mono ?_
  rintro e w1 ⟨rfl, hb1⟩
  have hs1 := hb1.size
  go_wp2_with (refine wp_append_sl rfl _ _ rfl w1.heap.size _ [] rfl (own_new w1 _ (Nat.le_refl _)) (by simp) _ _ a rfl (H.out.below (hb1.alloc hs1 _)) (by simp; omega) ?_)
  intro v1 w2 ho1 hb2
  have hbx : Below w.heap.size w w2 := (hb1.alloc hs1 _).trans (hb2.mono hs1)
  have hs2 := hb2.size
  rw [asz] at hs2
  obtain ⟨g, q, cur, e1, hgB, hgl, hgc, hql, hqm, hcs⟩ := own_block ho1 (by omega)
  have hcell : w2.cell? ⟨g, k, none⟩ = some (.int .u8 (a[k]).toNat) := by
    rw [cell_of_row w2 g k cur 5 (0, 0) hgc]
    exact hcs k _ (vb_at a k hk)
  have hfr : w2.frozen? ⟨g, k, none⟩ = false := frozen_of_row w2 g k cur 5 hgc
  subst e1
  have ho3 := Own.stored ho1 k y
  have HO := Lib.hid ho3
  clear ho1 ho3 hcs hgc
  generalize a[k] = x at hx hcell
  go_wp2_with fail
  have hS := Sls.one _ (a.set k y) HO.out.sl (Nat.le_refl _) 25
  rw [World.size_setCell] at hS
  have hb3 : Below w.heap.size w (w2.setCell ⟨g, k, none⟩ (.int .u8 y.toNat)) := hbx.setCell (by show w.heap.size ≤ g; omega) _
  have hS2 := Lib.hid hS
  clear hS
  refine (sum_any _ [a.set k y] _ hS2.out).mono ?_
  rintro e w4 ⟨rfl, rfl⟩
  have hb4 := hb3.alloc (by simp; omega) (.cells #[.slice (some ⟨g, 0, none⟩) a.length q] 25)
  have hT := Sls.one _ a (H.out.below hb4) (by simp; omega) 25
  rw [asz, World.size_setCell] at hT
  have hT2 := Lib.hid hT
  clear hT
  go_wp2_with fail
  refine (sum_any _ [a] _ hT2.out).mono ?_
  rintro e w4 ⟨rfl, rfl⟩
  rw [show [a].flatten = a by simp]
  have hne : (((mor fnv0 (a.set k y) : Nat) : Int) == ((mor fnv0 a : Nat) : Int)) = false := by
    have := HT.out
    simp
    omega
  go_wp2_with fail
  go_ret
  exact ⟨by have := HT.out; first | rfl | (simp; omega), hb4.alloc (by simp; omega) _⟩

end Go.Proofs.Ytkmdahffhpidnaa.Cd

namespace Go.Proofs.Ytkmdahffhpidnaa.FnvTurned
open Go.RowKit Go.Proofs.Ytkmdahffhpidnaa.Cd

theorem walk (v : Value) (a : List UInt8) (a1 a2 : Int) (w : World) (h : Sl w w.heap.size v a) (w1 : (Lit.int .i64 a1).wf = true) (w2 : (Lit.int .u8 a2).wf = true) :
    Calls Try.prog 7 #[v, .int .i64 a1, .int .u8 a2] w (Gives (.bool true) w) := by
  have b1 := bounds_i64 w1
  have b2 := bounds_u8 w2
  obtain ⟨c, rfl⟩ := byte_of a2 b2.1 b2.2
  by_cases hout : 4096 < a.length ∨ a1 < 0 ∨ (a.length : Int) ≤ a1 ∨ c.toNat = 0
  · exact turned_out v a a1 c w h b1.1 b1.2 hout
  · obtain ⟨k, rfl⟩ := Int.eq_ofNat_of_zero_le (a := a1) (by omega)
    exact turned_walk v a k c w h (by omega) (by omega) (by omega)

end Go.Proofs.Ytkmdahffhpidnaa.FnvTurned
