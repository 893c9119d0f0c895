/-
  sha.Of answers thirty-two bytes, of any pieces. Conditions: none.
-/
import Derived.Test.YtflgokbkkoobkaaDoorShaSum
namespace Go.Proofs.YtflgokbkkoobkaaDoor.Cd
open Go.RowKit

theorem zero_dg (W : World) : (zeroValue 77).run Tryd.prog W = .ok (.agg (dgC (zerw 8) (zer 64) 0 0).toArray) W := by kernel_rfl
theorem cells_dg : (Tryd.prog.info? 77).map (·.size) = some 74 := by kernel_rfl
theorem built_dg : Tryd.prog.built 77 [(0, .agg #[.int .u32 1779033703, .int .u32 3144134277, .int .u32 1013904242, .int .u32 2773480762, .int .u32 1359893119, .int .u32 2600822924, .int .u32 528734635, .int .u32 1541459225])] = some (dgC st0 (zer 64) 0 0).toArray := by kernel_rfl
theorem dg_one (st : List Int) (blk : List UInt8) (u z : Int) : ∀ v ∈ (dgC st blk u z).toArray.toList, v.oneCell' = true := fun v hv => by
  simp only [dgC, List.mem_append] at hv
  rcases hv with hv | hv | hv
  · exact vw_one st v (by simpa using hv)
  · exact vb_one blk v hv
  · simp only [List.mem_cons, List.not_mem_nil, or_false] at hv
    rcases hv with rfl | rfl <;> rfl

set_option maxRecDepth 100000 in
set_option maxHeartbeats 3200000 in
theorem shof_any (v : Value) (l : List (List UInt8)) (w : World) (h : Sls w w.heap.size v l) (hk : KeysAt w) :
    Calls Tryd.prog 22 #[v] w fun e w' => ∃ D : List UInt8, D.length = 32 ∧ e = .returned (.agg (vb D).toArray) ∧ Below w.heap.size w w' := by
  obtain ⟨A, c, rfl, h2, h3, h4⟩ := h
  have HAT := Lib.hid h4
  have HK := Lib.hid hk
  have hm2 : l.length ≤ 9223372036854775807 := by unfold maxLen at h3; omega
  have hw0 := hk.1
  clear h4 h3 hk
  have hd2 : DgAt ((w.alloc (.cells (vb (zer 32)).toArray 24)).alloc (.cells (dgC st0 (zer 64) 0 0).toArray 77)) (w.heap.size + 1) st0 (zer 64) 0 0 := by
    have h := heap_alloc_new (w.alloc (.cells (vb (zer 32)).toArray 24)) (.cells (dgC st0 (zer 64) 0 0).toArray 77)
    rw [asz] at h
    exact ⟨rfl, zer_length 64, h⟩
  have hr2 : ((w.alloc (.cells (vb (zer 32)).toArray 24)).alloc (.cells (dgC st0 (zer 64) 0 0).toArray 77)).heap[w.heap.size]? = some (.cells (vb (zer 32)).toArray 24) := (Below.heap_alloc _ _ _ (by simp)).trans (heap_alloc_new _ _)
  have hb2 : Below w.heap.size w ((w.alloc (.cells (vb (zer 32)).toArray 24)).alloc (.cells (dgC st0 (zer 64) 0 0).toArray 77)) := ((Below.refl _ _).alloc (Nat.le_refl _) _).alloc (by simp) _
  have hs2 : w.heap.size + 2 ≤ ((w.alloc (.cells (vb (zer 32)).toArray 24)).alloc (.cells (dgC st0 (zer 64) 0 0).toArray 77)).heap.size := by simp
  have HD2 := Lib.hid hd2
  have HR2 := Lib.hid hr2
  have HB2 := Lib.hid hb2
  clear hd2 hr2 hb2
  go_enter Tryd.func22, Tryd.ntmps22
  iterate 16 (try first | go_values | go_skip | go_guarded | (refine wp_alloc_row zero_32 rfl rfl ?_; try simp only [Act.put, List.setIfInBounds_toArray, List.set_cons_zero, List.set_cons_succ]) | (refine wp_alloc_row zero_dg rfl rfl ?_; try simp only [Act.put, List.setIfInBounds_toArray, List.set_cons_zero, List.set_cons_succ]) | (refine wp_build_row rfl _ rfl _ built_dg (by first | rfl | simp [Act.eval]) ?_; try simp only [Act.put, List.setIfInBounds_toArray, List.set_cons_zero, List.set_cons_succ]) | (refine wp_fill_row cells_dg rfl _ _ rfl (dgC (zerw 8) (zer 64) 0 0).toArray rfl 77 (by first | rfl | simp [Act.eval, Act.put]) rfl rfl (dg_one _ _ _ _) ?_; try simp only [Act.put, List.setIfInBounds_toArray, List.set_cons_zero, List.set_cons_succ]) | go_step | go_upon)
  simp only [asz]
  generalize (w.alloc (.cells (vb (zer 32)).toArray 24)).alloc (.cells (dgC st0 (zer 64) 0 0).toArray 77) = w2 at HD2 HR2 HB2 hs2 ⊢
  go_wp2_with fail
  go_loopw [10] (fun i wr => ∃ (k : Nat) (S : List Int) (B : List UInt8) (n : Nat) (x : Int), k ≤ l.length ∧ i = .int .i64 k ∧ n < 64 ∧ Hid (W32L S) ∧ Hid (DgAt wr (w.heap.size + 1) S B n x) ∧ Hid (wr.heap[w.heap.size]? = some (.cells (vb (zer 32)).toArray 24)) ∧ Hid (Below w.heap.size w wr) ∧ w.heap.size + 2 ≤ wr.heap.size) (fun i _ => l.length - (intOf i).toNat)
  case atStart => exact ⟨0, st0, zer 64, 0, 0, by omega, rfl, by omega, st0_w, HD2, HR2, HB2, hs2⟩
  case round =>
    clear HD2 HR2 HB2 hs2
    obtain ⟨k, S, B, n, x, hk, rfl, hn, HS, HD, HR, HB, hsr⟩ := hrel
    by_cases hlt : k < l.length
    · obtain ⟨b, off, rfl, hbB, hc⟩ := HAT.out (by omega)
      obtain ⟨y, hcell0, hy⟩ := hc k hlt
      have hcell : wr.cell? ⟨b, off + k, none⟩ = some y := (HB.out.cell (p := ⟨b, off + k, none⟩) hbB).trans hcell0
      have hyv : SlNot wr (w.heap.size + 1) y l[k] := by
        have h9 := hy.below HB.out
        refine ⟨h9.more HB.out.size, fun A9 n9 c9 e h0 => ?_⟩
        obtain ⟨A8, c8, e8, _, _, _, h5, _⟩ := h9
        rw [e8] at e
        injection e with e
        have := h5 A9 e h0
        omega
      have HADD := Lib.hid (add_any (w.heap.size + 1) S B n x y l[k] wr HD.out hn HS.out (HK.out.below HB.out hw0) (by omega) (by omega) hyv)
      obtain ⟨A8, c8, e8, _, _⟩ := hyv.1.len
      clear hc hcell0 hy hyv HD HS
      generalize l[k] = pc at HADD e8
      subst e8
      go_wp2_with fail
      refine HADD.out.mono ?_
      rintro q3 w3 ⟨rfl, S3, B3, n3, hn3, hS3, ⟨x3, hd3⟩, ho3⟩
      have HR3 : Hid (w3.heap[w.heap.size]? = some (.cells (vb (zer 32)).toArray 24)) := (ho3.block _ (by omega) (by omega)).trans HR.out
      have HB3 : Hid (Below w.heap.size w w3) := HB.out.trans (ho3.low (by omega) (by omega))
      have hs3 : w.heap.size + 2 ≤ w3.heap.size := by have := ho3.size; omega
      have HD3 := Lib.hid hd3
      have HS3 := Lib.hid hS3
      clear hd3 hS3 ho3 HR HB HADD
      go_wp2_with fail
      go_roundw
      case rel => exact ⟨k + 1, S3, B3, n3, x3, by omega, by go_num, hn3, HS3, HD3, HR3, HB3, hs3⟩
      case measure => simp [intOf]; omega
    · have HEN := Lib.hid (end_any (w.heap.size + 1) S B n x wr HD.out hn HS.out (HK.out.below HB.out hw0) (by omega) (by omega))
      clear HD HS
      go_wp2_with fail
      refine HEN.out.mono ?_
      rintro q3 w3 ⟨rfl, S3, hS3, ⟨B3, n3, x3, hd3⟩, ho3⟩
      have HR3 : Hid (w3.heap[w.heap.size]? = some (.cells (vb (zer 32)).toArray 24)) := (ho3.block _ (by omega) (by omega)).trans HR.out
      have HB3 : Hid (Below w.heap.size w w3) := HB.out.trans (ho3.low (by omega) (by omega))
      have hs3 : w.heap.size + 2 ≤ w3.heap.size := by have := ho3.size; omega
      have HSM := Lib.hid (dsum_any (w.heap.size + 1) S3 B3 n3 x3 w3 hd3 (by omega))
      clear hd3 hS3 ho3 HR HB HEN
      go_wp2_with fail
      refine HSM.out.mono ?_
      rintro q4 w4 ⟨D, hD, rfl, hb4⟩
      have HR4 : Hid (w4.heap[w.heap.size]? = some (.cells (vb (zer 32)).toArray 24)) := (hb4.block _ (by omega)).trans HR3.out
      have HB4 : Hid (Below w.heap.size w w4) := HB3.out.trans (hb4.mono (by omega))
      have hs4 : w.heap.size + 2 ≤ w4.heap.size := by have := hb4.size; omega
      clear hb4 HR3 HB3 HSM
      try dsimp only
      iterate 6 (try first | go_values | go_skip | go_guarded | (refine wp_put_row cells_32 rfl _ _ rfl w.heap.size rfl rfl (by rw [vb_size, hD]) (id_one D) (vb (zer 32)).toArray (by rw [vb_size, zer_length]) 24 HR4.out ?hK9) | go_step | go_upon)
      case hK9 =>
        intro w9 h9 hg9
        have hb9 : Below w.heap.size w w9 := HB4.out.grown hg9 (by omega) (fun k hk => by injection hk with hk; omega)
        go_wp2_with fail
        exact bodyPost_ret (v := .agg (vb D).toArray) (results_cell_row Tryd.results22 _ w9 w.heap.size 24 (vb D).toArray (0, 0) _ rfl h9 Tryd.underlying24 rfl (by rw [vb_size, hD]; exact cells_32)) rfl ⟨D, hD, rfl, hb9⟩

end Go.Proofs.YtflgokbkkoobkaaDoor.Cd
