/-
  FnvParts answers true. Conditions: none.
-/
import Derived.Test.YtkmdahffhpidnaaFnvAlive
namespace Go.Proofs.Ytkmdahffhpidnaa.Cd
open Go.RowKit

set_option maxRecDepth 100000 in
set_option maxHeartbeats 800000 in
theorem parts_walk (x y : Nat) (v : Value) (bs : List UInt8) (c d : UInt8) (w : World) (h : Sl w w.heap.size v bs) (hx : x < 18446744073709551616) (hy : y < 18446744073709551616) :
    Calls Try.prog 5 #[.int .u64 x, .int .u64 y, v, .int .u8 c.toNat, .int .u8 d.toNat] w (Gives (.bool true) w) := by
  have hlen := h.len
  have H := Lib.hid h
  clear h
  obtain ⟨A, cap, rfl, h2, h3⟩ := hlen
  have hm2 : bs.length ≤ 9223372036854775807 := by unfold maxLen at h3; omega
  clear h3
  by_cases hbig : 8192 < bs.length
  · go_enter Try.func5, Try.ntmps5
    go_wp2_with fail
    refine (alive_any w).mono ?_
    rintro e w1 ⟨rfl, hb1⟩
    go_wp2
    go_ret
    exact ⟨rfl, hb1⟩
  · have hp := mor_parts bs hx hy
    have hq : stp x c = stp x d ↔ c = d := ⟨stp_byte hx, fun h => by rw [h]⟩
    have HP := Lib.hid hp
    have HQ := Lib.hid hq
    clear hp hq
    have e1 : ((((mor x bs : Nat) : Int) == ((mor y bs : Nat) : Int)) == ((x : Int) == (y : Int))) = true := by
      have := HP.out
      by_cases hxy : x = y
      · subst hxy; simp
      · have h1 : ¬ (mor x bs = mor y bs) := fun h => hxy (this.1 h)
        rw [show (((mor x bs : Nat) : Int) == ((mor y bs : Nat) : Int)) = false by simp; omega, show ((x : Int) == (y : Int)) = false by simp; omega]
        rfl
    have e2 : ((((stp x c : Nat) : Int) == ((stp x d : Nat) : Int)) == ((c.toNat : Int) == (d.toNat : Int))) = true := by
      have := HQ.out
      by_cases hcd : c = d
      · subst hcd; simp
      · have h1 : ¬ (stp x c = stp x d) := fun h => hcd (this.1 h)
        have h2 : ¬ (c.toNat = d.toNat) := fun h => hcd (UInt8.toNat_inj.1 h)
        rw [show (((stp x c : Nat) : Int) == ((stp x d : Nat) : Int)) = false by simp; omega, show ((c.toNat : Int) == (d.toNat : Int)) = false by simp; omega]
        rfl
    go_enter Try.func5, Try.ntmps5
    go_wp2_with fail
    refine (alive_any w).mono ?_
    rintro e w1 ⟨rfl, hb1⟩
    have H1 := Lib.hid (H.out.below hb1)
    go_wp2_with fail
    refine (more_any x _ bs w1 H1.out hx).mono ?_
    rintro e w2 ⟨rfl, rfl⟩
    go_wp2_with fail
    refine (more_any y _ bs w1 H1.out hy).mono ?_
    rintro e w2 ⟨rfl, rfl⟩
    go_wp2_with fail
    refine (more_any x _ [c] _ (sl_new w1 [c] #[.int .u8 c.toNat] rfl (by simp [maxLen]) 1 rfl) hx).mono ?_
    rintro e w2 ⟨rfl, rfl⟩
    go_wp2_with fail
    have hsd := sl_new (w1.alloc (.cells #[.int .u8 c.toNat] 5)) [d] #[.int .u8 d.toNat] rfl (by simp [maxLen]) 1 rfl
    rw [asz] at hsd
    refine (more_any x _ [d] _ hsd hx).mono ?_
    rintro e w2 ⟨rfl, rfl⟩
    clear hsd
    simp only [mor]
    go_wp2_with fail
    go_ret
    exact ⟨rfl, (hb1.alloc hb1.size _).alloc (by have := hb1.size; simp; omega) _⟩

end Go.Proofs.Ytkmdahffhpidnaa.Cd

namespace Go.Proofs.Ytkmdahffhpidnaa.FnvParts
open Go.RowKit Go.Proofs.Ytkmdahffhpidnaa.Cd

theorem walk (a0 a1 : Int) (v : Value) (bs : List UInt8) (a3 a4 : Int) (w : World) (w0 : (Lit.int .u64 a0).wf = true) (w1 : (Lit.int .u64 a1).wf = true) (h : Sl w w.heap.size v bs) (w3 : (Lit.int .u8 a3).wf = true) (w4 : (Lit.int .u8 a4).wf = true) :
    Calls Try.prog 5 #[.int .u64 a0, .int .u64 a1, v, .int .u8 a3, .int .u8 a4] w (Gives (.bool true) w) := by
  have b0 := bounds_u64 w0
  have b1 := bounds_u64 w1
  have b3 := bounds_u8 w3
  have b4 := bounds_u8 w4
  obtain ⟨x, rfl⟩ := Int.eq_ofNat_of_zero_le (a := a0) (by omega)
  obtain ⟨y, rfl⟩ := Int.eq_ofNat_of_zero_le (a := a1) (by omega)
  obtain ⟨c, rfl⟩ := byte_of a3 b3.1 b3.2
  obtain ⟨d, rfl⟩ := byte_of a4 b4.1 b4.2
  exact parts_walk x y v bs c d w h (by omega) (by omega)

end Go.Proofs.Ytkmdahffhpidnaa.FnvParts
