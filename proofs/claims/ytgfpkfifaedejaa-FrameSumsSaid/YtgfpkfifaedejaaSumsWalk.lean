/-
  FrameSums answers true. Conditions: none.
-/
import Derived.Test.YtgfpkfifaedejaaSame
import Derived.Deep.RegionWith
import Derived.Deep.RegionHeld3
namespace Go.Proofs.Ytgfpkfifaedejaa.FrameSums
open Go.RowKit Go.Proofs.Ytgfpkfifaedejaa.Cd

set_option maxRecDepth 100000 in
set_option maxHeartbeats 800000 in
theorem much (v : Value) (bs : List UInt8) (s : ByteArray) (w : World) (h : Sl w w.heap.size v bs) (hs : s.size ≤ maxLen) (hbig : 4096 < bs.length ∨ (¬ 4096 < bs.length ∧ 4096 < s.size)) :
    Calls Try.prog 3 #[v, .string s] w (Gives (.bool true) w) := by
  obtain ⟨A, c, rfl, h2, h3⟩ := h.len
  have h3 : c ≤ 9223372036854775807 := h3
  have hs : s.size ≤ 9223372036854775807 := hs
  clear h
  rcases hbig with hbig | ⟨hb, hbig⟩
  all_goals
    go_enter Try.func3, Try.ntmps3
    go_wp2_with fail
    refine (alive_any w).mono ?_
    rintro e w1 ⟨rfl, hb1⟩
    go_wp2_with fail
    go_ret
    exact ⟨rfl, hb1⟩

set_option maxRecDepth 100000 in
set_option maxHeartbeats 4000000 in
theorem main (v : Value) (bs s : List UInt8) (w : World) (h : Sl w w.heap.size v bs) (hb : bs.length ≤ 4096) (hs : s.length ≤ 4096) :
    Calls Try.prog 3 #[v, .string ⟨s.toArray⟩] w (Gives (.bool true) w) := by
  obtain ⟨A, c, rfl, h2, h3⟩ := h.len
  have h3 : c ≤ 9223372036854775807 := h3
  have H := Lib.hid h
  clear h
  have hssz : (ByteArray.mk s.toArray).size = s.length := rfl
  have hfl := frm_le s (by omega)
  have hadd := fun W => add_text W bs (frm s) (by omega)
  have hq : ((bs ++ frm s) == (bs ++ frm s)) = true := by simp
  go_enter Try.func3, Try.ntmps3
  go_wp2_with fail
  refine (alive_any w).mono ?_
  rintro e w1 ⟨rfl, hb1⟩
  have H1 := Lib.hid (H.out.below hb1)
  have HB1 := Lib.hid hb1.drew
  have hs1 := hb1.size
  clear hb1
  go_wp2_with fail
  have K1 : Hid (Sl w1.drew w1.drew.heap.size (.slice A bs.length c) bs) := (H1.out.more hs1).below ((Below.refl _ _).drew)
  have hW1 : w.heap.size ≤ w1.drew.heap.size := hs1
  have kc1 := run_text_of _ _ _ _ K1.out
  go_region_with (first
    | (go_at_call 9; refine (fsum_any _ bs _ K1.out).mono ?_; rintro e wA ⟨rfl, rfl⟩)
    | (go_at_call 10; refine (rsum_any bs _ (by omega)).mono ?_; rintro e wA ⟨rfl, rfl⟩)
    | (go_at_call 11; refine (put_any _ bs s _ K1.out (by omega)).mono ?_; rintro e w2 ⟨v2, rfl, ho2, hb2⟩; have K2 := Lib.hid ((K1.out.below hb2).more hb2.size); have HO2 := Lib.hid ho2; have HB2 := Lib.hid hb2; have kc2 := run_text_of _ _ _ _ K2.out; have kv2 := run_text_of _ _ _ _ ho2.sl; clear ho2 hb2)
    | (go_at_call 12; refine (rframe_any s _ (by omega)).mono ?_; rintro e w3 ⟨rfl, hb3⟩; have K3 := Lib.hid ((K2.out.below hb3).more hb3.size); have HB3 := Lib.hid hb3; have kc3 := run_text_of _ _ _ _ K3.out; have kv3 := run_text_of _ _ _ _ (HO2.out.keep hb3).sl; clear hb3))
  all_goals
    go_wp2_with fail
    go_ret
    exact ⟨rfl, (HB1.out.trans (HB2.out.mono hW1)).trans (HB3.out.mono (Nat.le_trans hW1 HB2.out.size))⟩

theorem walk (v : Value) (bs : List UInt8) (s : ByteArray) (w : World) (h : Sl w w.heap.size v bs) (hs : s.size ≤ maxLen) :
    Calls Try.prog 3 #[v, .string s] w (Gives (.bool true) w) := by
  by_cases h1 : 4096 < bs.length
  · exact much v bs s w h hs (.inl h1)
  · by_cases h2 : 4096 < s.size
    · exact much v bs s w h hs (.inr ⟨h1, h2⟩)
    · have h3 := main v bs s.data.toList w h (by omega) (by have : s.data.toList.length = s.size := rfl; omega)
      simpa using h3

end Go.Proofs.Ytgfpkfifaedejaa.FrameSums
