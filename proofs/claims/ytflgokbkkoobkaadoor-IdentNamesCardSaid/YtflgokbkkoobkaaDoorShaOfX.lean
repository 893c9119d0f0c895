/-
  sha.Of, told exactly. Conditions: none.
-/
import Derived.Test.YtflgokbkkoobkaaDoorShaSumX
import Derived.Test.YtflgokbkkoobkaaDoorShaOf
namespace Go.Proofs.YtflgokbkkoobkaaDoor.Cd
open Go.RowKit

/-- The digest of bytes. -/
def shaS (Ks : List Int) (b : List UInt8) : List UInt8 := sumS (endF (mixP Ks) st0 b)
theorem shaS_length (Ks : List Int) (b : List UInt8) : (shaS Ks b).length = 32 := sumS_length _

set_option maxRecDepth 100000 in
set_option maxHeartbeats 3200000 in
theorem shof_x (Ks : List Int) (v : Value) (l : List (List UInt8)) (w : World) (h : Sls w w.heap.size v l) (hk : KeysIs Ks w) (hT : 8 * l.flatten.length + 8 < 18446744073709551616) :
    Calls Tryd.prog 22 #[v] w fun e w' => e = .returned (.agg (vb (shaS Ks l.flatten)).toArray) ∧ Below w.heap.size w w' := by
  obtain ⟨A, c, rfl, h2, h3, h4⟩ := h
  have HAT := Lib.hid h4
  have HK := Lib.hid hk
  have hm2 : l.length ≤ 9223372036854775807 := by unfold maxLen at h3; omega
  have hw0 := hk.1
  have HTT := Lib.hid hT
  clear h4 h3 hk hT
  have hd2 : DgAt ((w.alloc (.cells (vb (zer 32)).toArray 24)).alloc (.cells (dgC st0 (zer 64) 0 0).toArray 77)) (w.heap.size + 1) st0 (zer 64) 0 0 := by
    have h := heap_alloc_new (w.alloc (.cells (vb (zer 32)).toArray 24)) (.cells (dgC st0 (zer 64) 0 0).toArray 77)
    rw [asz] at h
    exact ⟨rfl, zer_length 64, h⟩
  have hr2 : ((w.alloc (.cells (vb (zer 32)).toArray 24)).alloc (.cells (dgC st0 (zer 64) 0 0).toArray 77)).heap[w.heap.size]? = some (.cells (vb (zer 32)).toArray 24) := (Below.heap_alloc _ _ _ (by simp)).trans (heap_alloc_new _ _)
  have hb2 : Below w.heap.size w ((w.alloc (.cells (vb (zer 32)).toArray 24)).alloc (.cells (dgC st0 (zer 64) 0 0).toArray 77)) := ((Below.refl _ _).alloc (Nat.le_refl _) _).alloc (by simp) _
  have hs2 : w.heap.size + 2 ≤ ((w.alloc (.cells (vb (zer 32)).toArray 24)).alloc (.cells (dgC st0 (zer 64) 0 0).toArray 77)).heap.size := by simp
  have HD2 : Hid (DgAt ((w.alloc (.cells (vb (zer 32)).toArray 24)).alloc (.cells (dgC st0 (zer 64) 0 0).toArray 77)) (w.heap.size + 1) (stF (mixP Ks) st0 []) (blkF []) (([] : List UInt8).length % 64 : Nat) (([] : List UInt8).length : Nat)) := hd2
  have HS2 : Hid (W32L (stF (mixP Ks) st0 [])) := st0_w
  have HR2 := Lib.hid hr2
  have HB2 := Lib.hid hb2
  clear hd2 hr2 hb2
  go_enter Tryd.func22, Tryd.ntmps22
  iterate 16 (try first | go_values | go_skip | go_guarded | (refine wp_alloc_row zero_32 rfl rfl ?_; try simp only [Act.put, List.setIfInBounds_toArray, List.set_cons_zero, List.set_cons_succ]) | (refine wp_alloc_row zero_dg rfl rfl ?_; try simp only [Act.put, List.setIfInBounds_toArray, List.set_cons_zero, List.set_cons_succ]) | (refine wp_build_row rfl _ rfl _ built_dg (by first | rfl | simp [Act.eval]) ?_; try simp only [Act.put, List.setIfInBounds_toArray, List.set_cons_zero, List.set_cons_succ]) | (refine wp_fill_row cells_dg rfl _ _ rfl (dgC (zerw 8) (zer 64) 0 0).toArray rfl 77 (by first | rfl | simp [Act.eval, Act.put]) rfl rfl (dg_one _ _ _ _) ?_; try simp only [Act.put, List.setIfInBounds_toArray, List.set_cons_zero, List.set_cons_succ]) | go_step | go_upon)
  simp only [asz]
  generalize (w.alloc (.cells (vb (zer 32)).toArray 24)).alloc (.cells (dgC st0 (zer 64) 0 0).toArray 77) = w2 at HD2 HR2 HB2 hs2 ⊢
  go_wp2_with fail
  go_loopw [10] (fun i wr => ∃ (k : Nat) (P : List UInt8), k ≤ l.length ∧ i = .int .i64 k ∧ Hid (P = (l.take k).flatten) ∧ Hid (W32L (stF (mixP Ks) st0 P)) ∧ Hid (DgAt wr (w.heap.size + 1) (stF (mixP Ks) st0 P) (blkF P) (P.length % 64 : Nat) (P.length : Nat)) ∧ Hid (wr.heap[w.heap.size]? = some (.cells (vb (zer 32)).toArray 24)) ∧ Hid (Below w.heap.size w wr) ∧ w.heap.size + 2 ≤ wr.heap.size) (fun i _ => l.length - (intOf i).toNat)
  case atStart => exact ⟨0, [], by omega, rfl, rfl, HS2, HD2, HR2, HB2, hs2⟩
  case round =>
    clear HD2 HR2 HB2 hs2 HS2
    obtain ⟨k, P, hk, rfl, HP, HS, HD, HR, HB, hsr⟩ := hrel
    by_cases hlt : k < l.length
    · obtain ⟨b, off, rfl, hbB, hc⟩ := HAT.out (by omega)
      obtain ⟨y, hcell0, hy⟩ := hc k hlt
      have hcell : wr.cell? ⟨b, off + k, none⟩ = some y := (HB.out.cell (p := ⟨b, off + k, none⟩) hbB).trans hcell0
      have hyv : SlNot wr (w.heap.size + 1) y l[k] := by
        have h9 := hy.below HB.out
        refine ⟨h9.more HB.out.size, fun A9 n9 c9 e h0 => ?_⟩
        obtain ⟨A8, c8, e8, _, _, _, h5, _⟩ := h9
        rw [e8] at e
        injection e with e
        have := h5 A9 e h0
        omega
      have HP2 : Hid (P ++ l[k] = (l.take (k + 1)).flatten) := by
        unfold Hid
        rw [HP.out, List.take_succ_eq_append_getElem hlt, List.flatten_append]
        simp
      have hlen : P.length + l[k].length ≤ l.flatten.length := by
        rw [← List.length_append, HP2.out]
        conv => rhs; rw [← List.take_append_drop (k + 1) l]
        rw [List.flatten_append, List.length_append]
        omega
      have hT := HTT.out
      have HADD := Lib.hid (add_x Ks P l[k] (w.heap.size + 1) P.length y wr HS.out HD.out (by omega) (by omega) (HK.out.below HB.out hw0) (by omega) (by omega) hyv)
      clear hlen hT HP
      obtain ⟨A8, c8, e8, _, _⟩ := hyv.1.len
      clear hc hcell0 hy hyv HD HS
      generalize l[k] = pc at HADD e8 HP2
      subst e8
      go_wp2_with fail
      refine HADD.out.mono ?_
      rintro q3 w3 ⟨rfl, hS3, hd3, ho3⟩
      rw [← Int.natCast_add, ← List.length_append] at hd3
      have HR3 : Hid (w3.heap[w.heap.size]? = some (.cells (vb (zer 32)).toArray 24)) := (ho3.block _ (by omega) (by omega)).trans HR.out
      have HB3 : Hid (Below w.heap.size w w3) := HB.out.trans (ho3.low (by omega) (by omega))
      have hs3 : w.heap.size + 2 ≤ w3.heap.size := by have := ho3.size; omega
      have HD3 := Lib.hid hd3
      have HS3 := Lib.hid hS3
      clear hd3 hS3 ho3 HR HB HADD
      go_wp2_with fail
      go_roundw
      case rel => exact ⟨k + 1, P ++ pc, by omega, by go_num, HP2, HS3, HD3, HR3, HB3, hs3⟩
      case measure => simp [intOf]; omega
    · obtain rfl : k = l.length := by omega
      have hPe : P = l.flatten := by rw [HP.out, List.take_length]
      subst hPe
      have HEN := Lib.hid (end_x Ks l.flatten (w.heap.size + 1) wr HD.out HTT.out HS.out (HK.out.below HB.out hw0) (by omega) (by omega))
      clear HP
      clear HD HS
      go_wp2_with fail
      refine HEN.out.mono ?_
      rintro q3 w3 ⟨rfl, hS3, ⟨B3, n3, x3, hd3⟩, ho3⟩
      have HR3 : Hid (w3.heap[w.heap.size]? = some (.cells (vb (zer 32)).toArray 24)) := (ho3.block _ (by omega) (by omega)).trans HR.out
      have HB3 : Hid (Below w.heap.size w w3) := HB.out.trans (ho3.low (by omega) (by omega))
      have hs3 : w.heap.size + 2 ≤ w3.heap.size := by have := ho3.size; omega
      have HSM := Lib.hid (dsum_x (w.heap.size + 1) _ B3 n3 x3 w3 hd3 hS3 (by omega))
      have hD := sumS_length (endF (mixP Ks) st0 l.flatten)
      clear hd3 hS3 ho3 HR HB HEN
      go_wp2_with fail
      refine HSM.out.mono ?_
      generalize hDe : sumS (endF (mixP Ks) st0 l.flatten) = D at hD
      rintro q4 w4 ⟨rfl, hb4⟩
      try rw [hDe]
      have HDE := Lib.hid hDe
      clear hDe
      have HR4 : Hid (w4.heap[w.heap.size]? = some (.cells (vb (zer 32)).toArray 24)) := (hb4.block _ (by omega)).trans HR3.out
      have HB4 : Hid (Below w.heap.size w w4) := HB3.out.trans (hb4.mono (by omega))
      have hs4 : w.heap.size + 2 ≤ w4.heap.size := by have := hb4.size; omega
      clear hb4 HR3 HB3 HSM
      try dsimp only
      iterate 6 (try first | go_values | go_skip | go_guarded | (refine wp_put_row cells_32 rfl _ _ rfl w.heap.size rfl rfl (by rw [vb_size, hD]) (id_one D) (vb (zer 32)).toArray (by rw [vb_size, zer_length]) 24 HR4.out ?hK9) | go_step | go_upon)
      case hK9 =>
        intro w9 h9 hg9
        have hb9 : Below w.heap.size w w9 := HB4.out.grown hg9 (by omega) (fun k hk => by injection hk with hk; omega)
        go_wp2_with fail
        exact bodyPost_ret (v := .agg (vb D).toArray) (results_cell_row Tryd.results22 _ w9 w.heap.size 24 (vb D).toArray (0, 0) _ rfl h9 Tryd.underlying24 rfl (by rw [vb_size, hD]; exact cells_32)) rfl ⟨by unfold shaS; rw [HDE.out], hb9⟩

end Go.Proofs.YtflgokbkkoobkaaDoor.Cd
