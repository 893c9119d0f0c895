/-
  FnvSums answers true. Conditions: none.
-/
import Derived.Test.YtkmdahffhpidnaaFnvAlive
import Derived.Test.YtkmdahffhpidnaaBytes
import Derived.Deep.RegionWith
import Derived.Deep.RegionHeld3
namespace Go.Proofs.Ytkmdahffhpidnaa.Cd
open Go.RowKit

theorem add_text (W : World) (a b : List UInt8) (h : a.length + b.length ≤ 9223372036854775807) :
    (Op.stringOp .add ⟨a.toArray⟩ ⟨b.toArray⟩).run Try.prog W = .ok (.string ⟨(a ++ b).toArray⟩) W := by
  rw [run_string_add_sum _ _ _ (by simpa [ByteArray.size] using h)]
  rw [ByteArray.mk_append_mk]

theorem flat_snoc (l : List (List UInt8)) (k : Nat) (h : k < l.length) : (l.take (k + 1)).flatten = (l.take k).flatten ++ l[k] := by
  rw [List.take_succ_eq_append_getElem h, List.flatten_append]
  simp

set_option maxRecDepth 100000 in
set_option maxHeartbeats 1600000 in
theorem sums_walk (v : Value) (l : List (List UInt8)) (n : Nat) (w : World) (h : Sls w w.heap.size v l) (hn : n < 18446744073709551616) (hS : ∀ p ∈ l, p.length ≤ 140737488351232) :
    Calls Try.prog 3 #[v, .int .u64 n] w (Gives (.bool true) w) := by
  have H := Lib.hid h
  have HS := Lib.hid hS
  clear hS
  obtain ⟨A, cap, rfl, h2, h3, h4⟩ := h
  have hm2 : l.length ≤ 9223372036854775807 := by unfold maxLen at h3; omega
  have HAT := Lib.hid h4
  clear h3 h4
  go_enter Try.func3, Try.ntmps3
  go_wp2_with fail
  refine (alive_any w).mono ?_
  rintro e w1 ⟨rfl, hb1⟩
  have hs1 := hb1.size
  have H1 := Lib.hid (H.out.below hb1)
  go_wp2_with fail
  go_loop [5, 13] (fun s i => ∃ k : Nat, k ≤ l.length ∧ i = .int .i64 k ∧ s = .string ⟨(l.take k).flatten.toArray⟩ ∧ (l.take k).flatten.length ≤ 16384) (fun _ i => l.length - (intOf i).toNat)
  case atStart => exact ⟨0, Nat.zero_le _, rfl, rfl, by simp⟩
  case round =>
    obtain ⟨k, hk, rfl, rfl, hle⟩ := hrel
    by_cases hlt : k < l.length
    · obtain ⟨b, off, rfl, hB, hc⟩ := HAT.out (by omega)
      obtain ⟨u, hcell0, hu⟩ := hc k hlt
      have hcell := (hb1.cell (p := ⟨b, off + k, none⟩) hB).trans hcell0
      have hu1 := hu.below hb1
      have hcv := run_text_of w1 _ u _ hu1
      obtain ⟨A', c', e', q1, q2⟩ := hu1.len
      subst e'
      have hsn := flat_snoc l k hlt
      clear hc hcell0 hu hu1
      have hq3 := HS.out _ (List.getElem_mem hlt)
      generalize l[k] = p at *
      generalize (l.take k).flatten = d at *
      have hdz : (ByteArray.mk d.toArray).size = d.length := rfl
      by_cases hA : 16384 < d.length + p.length
      · go_wp2_with fail
        go_ret
        exact ⟨rfl, hb1⟩
      · have hadd := fun W => add_text W d p (by omega)
        have HSN := Lib.hid hsn
        clear hsn
        by_cases hC : 200 < l.length
        · go_wp2_with fail
          go_ret
          exact ⟨rfl, hb1⟩
        · go_wp2_with fail
          go_round
          case rel => exact ⟨k + 1, by omega, by go_num, by rw [HSN.out], by rw [HSN.out, List.length_append]; omega⟩
          case measure => simp [intOf]; omega
    · have hkl : k = l.length := by omega
      have htk : l.take k = l := by rw [hkl, List.take_of_length_le (Nat.le_refl _)]
      rw [htk]
      rw [htk] at hle
      clear hkl htk
      go_wp2_with fail
      refine (bytes_any n w1 hn).mono ?_
      rintro e w2 ⟨rfl, hb2⟩
      have hb3 := hb1.trans (hb2.mono hs1)
      have hs3 := hb3.size
      have hct := arr_sl n w2 26
      have harr := arr_lit n
      rw [arr_lit n]
      rw [arr_lit n] at hct
      generalize (UInt8.ofNat (dn n 7)).toNat = x0 at harr hct ⊢
      generalize (UInt8.ofNat (dn n 6)).toNat = x1 at harr hct ⊢
      generalize (UInt8.ofNat (dn n 5)).toNat = x2 at harr hct ⊢
      generalize (UInt8.ofNat (dn n 4)).toNat = x3 at harr hct ⊢
      generalize (UInt8.ofNat (dn n 3)).toNat = x4 at harr hct ⊢
      generalize (UInt8.ofNat (dn n 2)).toNat = x5 at harr hct ⊢
      generalize (UInt8.ofNat (dn n 1)).toNat = x6 at harr hct ⊢
      generalize (UInt8.ofNat (dn n 0)).toNat = x7 at harr hct ⊢
      clear harr
      obtain ⟨t8, ht8⟩ : ∃ t8, Hid (be8 n = t8) := ⟨_, rfl⟩
      rw [ht8.out] at hct
      go_wp2_with fail
      have hb4 := hb3.alloc hs3 (.cells #[.int .u8 x0, .int .u8 x1, .int .u8 x2, .int .u8 x3, .int .u8 x4, .int .u8 x5, .int .u8 x6, .int .u8 x7] 26)
      generalize w2.alloc (.cells #[.int .u8 x0, .int .u8 x1, .int .u8 x2, .int .u8 x3, .int .u8 x4, .int .u8 x5, .int .u8 x6, .int .u8 x7] 26) = W0 at hct hb4 ⊢
      generalize w2.heap.size = g8 at hct ⊢
      have hs4 := hb4.size
      have K0 : Hid (Sl W0.drew W0.drew.heap.size (.slice (some ⟨g8, 0, none⟩) 8 8) t8) := hct
      have L0 : Hid (Sls W0.drew w.heap.size (.slice A l.length cap) l) := H.out.below hb4.drew
      have HB4 : Hid (Below w.heap.size w W0.drew) := hb4.drew
      clear hct hb4 hb3 hb2 H1 HAT
      go_region_held3 (fun W => (convert 25 9 (.slice (some ⟨g8, 0, none⟩) 8 8)).run Try.prog W = .ok (.string ⟨t8.toArray⟩) W)
        (first | exact run_text_of _ _ _ _ K3.out | exact run_text_of _ _ _ _ K0.out)
        (first
        | (go_at_call 10; refine (sum_any _ l _ L0.out).mono ?_; rintro e wA ⟨rfl, rfl⟩)
        | (go_at_call 11; refine (ref_sum_any l.flatten _ (by omega)).mono ?_; rintro e wA ⟨rfl, rfl⟩)
        | (go_at_call 12; refine (ref_bytes_any n _ hn).mono ?_; rintro e w3 ⟨rfl, hb5⟩; rw [ht8.out]; have K3 := Lib.hid ((K0.out.below hb5).more hb5.size); have HB5 := Lib.hid (HB4.out.trans (hb5.mono HB4.out.size)); clear hb5))
      all_goals
        go_wp2_with fail
        go_ret
        exact ⟨rfl, HB5.out⟩

end Go.Proofs.Ytkmdahffhpidnaa.Cd

namespace Go.Proofs.Ytkmdahffhpidnaa.FnvSums
open Go.RowKit Go.Proofs.Ytkmdahffhpidnaa.Cd

theorem walk (v : Value) (l : List (List UInt8)) (a1 : Int) (w : World) (h : Sls w w.heap.size v l ∧ ∀ p ∈ l, p.length ≤ 140737488351232) (w1 : (Lit.int .u64 a1).wf = true) :
    Calls Try.prog 3 #[v, .int .u64 a1] w (Gives (.bool true) w) := by
  have b1 := bounds_u64 w1
  obtain ⟨n, rfl⟩ := Int.eq_ofNat_of_zero_le (a := a1) (by omega)
  exact sums_walk v l n w h.1 (by omega) h.2

end Go.Proofs.Ytkmdahffhpidnaa.FnvSums
