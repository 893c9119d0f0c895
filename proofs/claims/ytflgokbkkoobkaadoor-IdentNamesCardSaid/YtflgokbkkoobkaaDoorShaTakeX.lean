/-
  What take makes of a block, told exactly. Conditions: none.
-/
import Derived.Test.YtflgokbkkoobkaaDoorShaMixedX
import Derived.Test.YtflgokbkkoobkaaDoorShaTake
namespace Go.Proofs.YtflgokbkkoobkaaDoor.Cd
open Go.RowKit

theorem KeysIs.below {Ks : List Int} {w w' : World} {B : Nat} (h : KeysIs Ks w) (hb : Below B w w') (hB : 0 < B) : KeysIs Ks w' :=
  ⟨Nat.lt_of_lt_of_le h.1 hb.size, h.2.1, fun j hj => (hb.cell (p := ⟨0, j, none⟩) hB).trans (h.2.2 j hj)⟩
theorem KeysIs.only {Ks : List Int} {g : Nat} {w w' : World} (h : KeysIs Ks w) (hb : Only g w w') (hg : 0 < g) : KeysIs Ks w' := h.below (hb.low (B := 1) h.1 hg) (by omega)

set_option maxRecDepth 100000 in
set_option maxHeartbeats 3200000 in
theorem take_x (Ks S : List Int) (g : Nat) (st : List Int) (blk : List UInt8) (u z : Int) (w : World) (hSe : mixP Ks st blk = S) (hD : DgAt w g st blk u z) (hst : W32L st) (hk : KeysIs Ks w) (hg : 0 < g) (hgs : g < w.heap.size) :
    Calls Tryd.prog 48 #[.pointer (some ⟨g, 0, none⟩)] w fun e w' => e = .returned (.tuple #[]) ∧ W32L S ∧ DgAt w' g S (zer 64) 0 z ∧ Only g w w' := by
  have HSE := Lib.hid hSe
  have HD := Lib.hid hD
  have HS := Lib.hid hst
  have HK := Lib.hid hk
  clear hD hst hk hSe
  go_enter Tryd.func48, Tryd.ntmps48
  go_wp2_with fail
  obtain ⟨W0, hW0⟩ : ∃ v, w.drew = v := ⟨_, rfl⟩
  have HD0 : Hid (DgAt W0 g st blk u z) := by rw [← hW0]; exact HD.out
  have HB0 : Hid (Only g w W0) := by rw [← hW0]; exact (Only.refl _ _).drew
  have hgs0 : g < W0.heap.size := by rw [← hW0]; exact hgs
  refine region_begin hW0 (S := fun W => Only g w W) (by kernel_rfl) HB0.out (fun hHeld => ?_)
  clear hW0
  refine take_at (i := 0) (.pointer (some ⟨g, 0, none⟩)) (some 2) (by decide) (by rfl) (by kernel_rfl) (by kernel_rfl) (by kernel_rfl) (fun _ _ _ h => h) (by rfl) (fun W hW => by go_simp) (by assumption) ?_
  try simp only [Act.put, List.setIfInBounds_toArray, List.set_cons_zero, List.set_cons_succ]
  refine take_at (i := 1) (.pointer (some ⟨g, 0, none⟩)) (some 3) (by decide) (by rfl) (by kernel_rfl) (by kernel_rfl) (by kernel_rfl) (fun _ _ _ h => h) (by rfl) (fun W hW => by go_simp) (by assumption) ?_
  try simp only [Act.put, List.setIfInBounds_toArray, List.set_cons_zero, List.set_cons_succ]
  refine take_at (i := 2) (.pointer (some ⟨g, 0, none⟩)) (some 4) (by decide) (by rfl) (by kernel_rfl) (by kernel_rfl) (by kernel_rfl) (fun _ _ _ h => h) (by rfl) (fun W hW => by go_simp) (by assumption) ?_
  try simp only [Act.put, List.setIfInBounds_toArray, List.set_cons_zero, List.set_cons_succ]
  refine take_at (i := 3) (.pointer (some ⟨g, 0, none⟩)) (some 5) (by decide) (by rfl) (by kernel_rfl) (by kernel_rfl) (by kernel_rfl) (fun _ _ _ h => h) (by rfl) (fun W hW => by go_simp) (by assumption) ?_
  try simp only [Act.put, List.setIfInBounds_toArray, List.set_cons_zero, List.set_cons_succ]
  refine take_at (i := 5) (.pointer (some ⟨g, 0, none⟩)) (some 7) (by decide) (by rfl) (by kernel_rfl) (by kernel_rfl) (by kernel_rfl) (fun _ _ _ h => h) (by rfl) (fun W hW => by go_simp) (by assumption) ?_
  try simp only [Act.put, List.setIfInBounds_toArray, List.set_cons_zero, List.set_cons_succ]
  refine take_at (i := 6) (.pointer (some ⟨g, 0, none⟩)) (some 8) (by decide) (by rfl) (by kernel_rfl) (by kernel_rfl) (by kernel_rfl) (fun _ _ _ h => h) (by rfl) (fun W hW => by go_simp) (by assumption) ?_
  try simp only [Act.put, List.setIfInBounds_toArray, List.set_cons_zero, List.set_cons_succ]
  refine take_at (i := 7) (.pointer (some ⟨g, 8, none⟩)) (some 9) (by decide) (by rfl) (by kernel_rfl) (by kernel_rfl) (by kernel_rfl) (fun _ _ _ h => h) (by rfl) (fun W hW => by go_simp) (by assumption) ?_
  try simp only [Act.put, List.setIfInBounds_toArray, List.set_cons_zero, List.set_cons_succ]
  refine wpAnyH_ready (rs := [4, 8]) (by kernel_rfl) (by simp) ?_
  refine come (i := 4) (.agg (vw st).toArray) W0 (some 6) (by decide) (by rfl) (by rfl) (exec_load_st HD0.out _ rfl rfl) HB0.out ?_ (come (i := 8) (.agg (vb blk).toArray) W0 (some 10) (by decide) (by rfl) (by rfl) (exec_load_blk HD0.out _ rfl rfl) HB0.out ?_ AllReadyH.nil)
  · try simp only [Act.put, List.setIfInBounds_toArray, List.set_cons_zero, List.set_cons_succ]
    refine wpAnyH_ready (rs := [8]) (by kernel_rfl) (by simp) (come (i := 8) (.agg (vb blk).toArray) W0 (some 10) (by decide) (by rfl) (by rfl) (exec_load_blk HD0.out _ rfl rfl) HB0.out ?_ AllReadyH.nil)
    try simp only [Act.put, List.setIfInBounds_toArray, List.set_cons_zero, List.set_cons_succ]
    refine wpAnyH_ready (rs := [9]) (by kernel_rfl) (by simp) (AllReadyH.cons (Array.getElem?_eq_getElem (i := 9) (by decide)) (fun K9 hK => ?_) AllReadyH.nil)
    go_simp
    refine (mixed_x Ks st blk W0 HD0.out.1 HS.out HD0.out.2.1 (HK.out.only HB0.out hg)).mono ?_
    rintro e w5 ⟨hS, hSw, rfl, hb5⟩
    rw [HSE.out] at hS hSw ⊢
    have HD5 := Lib.hid (HD0.out.heap (hb5.block g hgs0))
    have HB5 := Lib.hid (HB0.out.trans (Only.of hb5))
    have hs5 := hb5.size
    clear hb5
    refine hK.out _ _ (HB5.out) (fun hHeld => ?_)
    clear hK K9
    try simp only [Act.put, List.setIfInBounds_toArray, List.set_cons_zero, List.set_cons_succ]
    refine take_at (i := 10) (.pointer (some ⟨g, 0, none⟩)) (some 12) (by decide) (by rfl) (by kernel_rfl) (by kernel_rfl) (by kernel_rfl) (fun _ _ _ h => h) (by rfl) (fun W hW => by go_simp) (by assumption) ?_
    try simp only [Act.put, List.setIfInBounds_toArray, List.set_cons_zero, List.set_cons_succ]
    refine take_at (i := 11) (.pointer (some ⟨g, 0, none⟩)) (some 13) (by decide) (by rfl) (by kernel_rfl) (by kernel_rfl) (by kernel_rfl) (fun _ _ _ h => h) (by rfl) (fun W hW => by go_simp) (by assumption) ?_
    try simp only [Act.put, List.setIfInBounds_toArray, List.set_cons_zero, List.set_cons_succ]
    refine wpAnyH_ready (rs := [12]) (by kernel_rfl) (by simp) (AllReadyH.cons (Array.getElem?_eq_getElem (i := 12) (by decide)) (fun K9 hK => ?_) AllReadyH.nil)
    refine step_put_st rfl _ _ rfl HD5.out rfl S hS rfl ?_
    have HD6 := Lib.hid (HD5.out.setState S hS)
    have HB6 := Lib.hid (HB5.out.grown (setCells_grown g (vw S) w5 0))
    have hs6 : g < (w5.setCells g 0 (vw S)).heap.size := by have := (setCells_grown g (vw S) w5 0).size; omega
    generalize w5.setCells g 0 (vw S) = w6 at HD6 HB6 hs6 ⊢
    clear HD5 HB5
    refine hK.out _ _ (HB6.out) (fun hHeld => ?_)
    clear hK K9
    try simp only [Act.put, List.setIfInBounds_toArray, List.set_cons_zero, List.set_cons_succ]
    refine wpAnyH_done (by kernel_rfl) ?_ _
    try simp only [Act.put, List.setIfInBounds_toArray, List.set_cons_zero, List.set_cons_succ]
    have hcl := clear_blk HD6.out 0
    have HD7 := Lib.hid (HD6.out.setBytes 0 (zer 64) (by simp [zer_length]))
    have HB7 := Lib.hid (HB6.out.grown (setCells_grown g (vb (zer 64)) w6 8))
    rw [show blk.take 0 ++ zer 64 ++ blk.drop (0 + (zer 64).length) = zer 64 by rw [List.take_zero, List.nil_append, List.drop_of_length_le (by rw [zer_length, HD6.out.2.1]; omega), List.append_nil]] at HD7
    have HD8 := Lib.hid (HD7.out.setUsed 0)
    have HB8 := Lib.hid (HB7.out.set 72 (.int .i64 0))
    have cu := HD7.out.used
    have fu := HD7.out.frozen 72
    generalize w6.setCells g 8 (vb (zer 64)) = w7 at hcl HD7 HB7 HD8 HB8 cu fu
    go_wp2_with fail
    go_end0
    exact ⟨rfl, hSw, HD8.out, HB8.out⟩
  · try simp only [Act.put, List.setIfInBounds_toArray, List.set_cons_zero, List.set_cons_succ]
    refine wpAnyH_ready (rs := [4]) (by kernel_rfl) (by simp) (come (i := 4) (.agg (vw st).toArray) W0 (some 6) (by decide) (by rfl) (by rfl) (exec_load_st HD0.out _ rfl rfl) HB0.out ?_ AllReadyH.nil)
    try simp only [Act.put, List.setIfInBounds_toArray, List.set_cons_zero, List.set_cons_succ]
    refine wpAnyH_ready (rs := [9]) (by kernel_rfl) (by simp) (AllReadyH.cons (Array.getElem?_eq_getElem (i := 9) (by decide)) (fun K9 hK => ?_) AllReadyH.nil)
    go_simp
    refine (mixed_x Ks st blk W0 HD0.out.1 HS.out HD0.out.2.1 (HK.out.only HB0.out hg)).mono ?_
    rintro e w5 ⟨hS, hSw, rfl, hb5⟩
    rw [HSE.out] at hS hSw ⊢
    have HD5 := Lib.hid (HD0.out.heap (hb5.block g hgs0))
    have HB5 := Lib.hid (HB0.out.trans (Only.of hb5))
    have hs5 := hb5.size
    clear hb5
    refine hK.out _ _ (HB5.out) (fun hHeld => ?_)
    clear hK K9
    try simp only [Act.put, List.setIfInBounds_toArray, List.set_cons_zero, List.set_cons_succ]
    refine take_at (i := 10) (.pointer (some ⟨g, 0, none⟩)) (some 12) (by decide) (by rfl) (by kernel_rfl) (by kernel_rfl) (by kernel_rfl) (fun _ _ _ h => h) (by rfl) (fun W hW => by go_simp) (by assumption) ?_
    try simp only [Act.put, List.setIfInBounds_toArray, List.set_cons_zero, List.set_cons_succ]
    refine take_at (i := 11) (.pointer (some ⟨g, 0, none⟩)) (some 13) (by decide) (by rfl) (by kernel_rfl) (by kernel_rfl) (by kernel_rfl) (fun _ _ _ h => h) (by rfl) (fun W hW => by go_simp) (by assumption) ?_
    try simp only [Act.put, List.setIfInBounds_toArray, List.set_cons_zero, List.set_cons_succ]
    refine wpAnyH_ready (rs := [12]) (by kernel_rfl) (by simp) (AllReadyH.cons (Array.getElem?_eq_getElem (i := 12) (by decide)) (fun K9 hK => ?_) AllReadyH.nil)
    refine step_put_st rfl _ _ rfl HD5.out rfl S hS rfl ?_
    have HD6 := Lib.hid (HD5.out.setState S hS)
    have HB6 := Lib.hid (HB5.out.grown (setCells_grown g (vw S) w5 0))
    have hs6 : g < (w5.setCells g 0 (vw S)).heap.size := by have := (setCells_grown g (vw S) w5 0).size; omega
    generalize w5.setCells g 0 (vw S) = w6 at HD6 HB6 hs6 ⊢
    clear HD5 HB5
    refine hK.out _ _ (HB6.out) (fun hHeld => ?_)
    clear hK K9
    try simp only [Act.put, List.setIfInBounds_toArray, List.set_cons_zero, List.set_cons_succ]
    refine wpAnyH_done (by kernel_rfl) ?_ _
    try simp only [Act.put, List.setIfInBounds_toArray, List.set_cons_zero, List.set_cons_succ]
    have hcl := clear_blk HD6.out 0
    have HD7 := Lib.hid (HD6.out.setBytes 0 (zer 64) (by simp [zer_length]))
    have HB7 := Lib.hid (HB6.out.grown (setCells_grown g (vb (zer 64)) w6 8))
    rw [show blk.take 0 ++ zer 64 ++ blk.drop (0 + (zer 64).length) = zer 64 by rw [List.take_zero, List.nil_append, List.drop_of_length_le (by rw [zer_length, HD6.out.2.1]; omega), List.append_nil]] at HD7
    have HD8 := Lib.hid (HD7.out.setUsed 0)
    have HB8 := Lib.hid (HB7.out.set 72 (.int .i64 0))
    have cu := HD7.out.used
    have fu := HD7.out.frozen 72
    generalize w6.setCells g 8 (vb (zer 64)) = w7 at hcl HD7 HB7 HD8 HB8 cu fu
    go_wp2_with fail
    go_end0
    exact ⟨rfl, hSw, HD8.out, HB8.out⟩

end Go.Proofs.YtflgokbkkoobkaaDoor.Cd
