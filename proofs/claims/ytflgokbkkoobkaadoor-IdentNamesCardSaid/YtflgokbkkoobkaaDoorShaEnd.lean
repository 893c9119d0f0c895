/-
  What stands behind all bytes: the digest's end. Conditions: none.
-/
import Derived.Test.YtflgokbkkoobkaaDoorShaAdd
import Derived.Test.YtflgokbkkoobkaaDoorIdText
namespace Go.Proofs.YtflgokbkkoobkaaDoor.Cd
open Go.RowKit

set_option maxRecDepth 100000 in
set_option maxHeartbeats 3200000 in
theorem end_any (g : Nat) (st : List Int) (blk : List UInt8) (u : Nat) (z : Int) (w : World) (hD : DgAt w g st blk u z) (hu : u < 64) (hst : W32L st) (hk : KeysAt w) (hg : 0 < g) (hgs : g < w.heap.size) :
    Calls Tryd.prog 35 #[.pointer (some ⟨g, 0, none⟩)] w fun e w' => e = .returned (.tuple #[]) ∧ ∃ S : List Int, W32L S ∧ (∃ (B : List UInt8) (n x : Int), DgAt w' g S B n x) ∧ Only g w w' := by
  have cz := hD.size
  have hone : Own (w.alloc (.cells #[.int .u8 128] 5)) (w.heap.size) (.slice (some ⟨w.heap.size, 0, none⟩) 1 1) [128] := own_byte w w.heap.size (Nat.le_refl _) 128
  have hO1 : Only g w (w.alloc (.cells #[.int .u8 128] 5)) := Only.of ((Below.refl _ _).alloc (Nat.le_refl _) _)
  have hV1 : SlNot (w.alloc (.cells #[.int .u8 128] 5)) g (.slice (some ⟨w.heap.size, 0, none⟩) 1 1) [128] := ⟨hone.sl, fun A n c e _ => by injection e with e; injection e with e; subst e; show w.heap.size ≠ g; omega⟩
  have hD1 : DgAt (w.alloc (.cells #[.int .u8 128] 5)) g st blk u z := hD.heap (Below.heap_alloc _ _ _ hgs)
  have HKW := Lib.hid hk
  have HADD := Lib.hid (add_any g st blk u z _ [128] _ hD1 hu hst (hk.only hO1 hg) hg (by simp; omega) hV1)
  have HK1 := Lib.hid (hk.only hO1 hg)
  have HO1 := Lib.hid hO1
  clear hone hV1 hD1 hO1 hD hst hk
  go_enter Tryd.func35, Tryd.ntmps35
  go_wp2_with fail
  refine HADD.out.mono ?_
  rintro q2 w2 ⟨rfl, S2, B2, n2, hn2, hS2, ⟨x2, hd2⟩, ho2⟩
  have hgs2 : g < w2.heap.size := by have := ho2.size; simp at this; omega
  have HD2 := Lib.hid hd2
  have HS2 := Lib.hid hS2
  have HO2 := Lib.hid (HO1.out.trans ho2)
  have HK2 := Lib.hid (HK1.out.only ho2 hg)
  have cu := hd2.used
  clear hd2 hS2 ho2 HADD HO1 HK1
  by_cases h56 : 56 < n2
  · have hq : (56 : Int) < (n2 : Int) := by omega
    have HTK := Lib.hid (take_any g S2 B2 n2 x2 w2 HD2.out HS2.out HK2.out hg hgs2)
    go_wp2_with fail
    refine HTK.out.mono ?_
    rintro q3 w3 ⟨rfl, S3, hS3, hd3, ho3⟩
    have HD3 := Lib.hid hd3
    have HS3 := Lib.hid hS3
    have HO3 := Lib.hid (HO2.out.trans ho3)
    clear hd3 hS3 ho3 HTK HD2 HO2 cu
    go_wp2_with fail
    go_loopw [19] (fun i wr => ∃ (k : Nat) (S : List Int) (B : List UInt8) (n : Int) (x : Int), k ≤ 8 ∧ i = .int .i64 k ∧ Hid (W32L S) ∧ Hid (DgAt wr g S B n x) ∧ Hid (Only g w wr)) (fun i _ => 8 - (intOf i).toNat)
    case atStart => exact ⟨0, S3, zer 64, 0, x2, by omega, rfl, HS3, HD3, HO3⟩
    case round =>
      clear HD3 HO3
      obtain ⟨k, S, B, n, x, hk, rfl, HS, HD, HO⟩ := hrel
      have hgs3 : g < wr.heap.size := by have := HO.out.size; omega
      by_cases hlt : k < 8
      · obtain ⟨s, hs⟩ : ∃ s : Nat, s = 56 - 8 * k := ⟨_, rfl⟩
        have s64 : (s : Int) ≤ 64 := by omega
        have s64n : s ≤ 64 := by omega
        have w1 : IntKind.i64.wrap (8 * (k : Int)) = 8 * (k : Int) := Go.wrap_small _ (by omega) (by omega)
        have w2' : IntKind.i64.wrap (56 - 8 * (k : Int)) = (s : Int) := by rw [show (56 : Int) - 8 * (k : Int) = (s : Int) by omega]; exact Go.wrap_small _ (by omega) (by omega)
        have w3 : IntKind.i64.wrap (56 + (k : Int)) = 56 + (k : Int) := Go.wrap_small _ (by omega) (by omega)
        have f1 : (0 : Int) ≤ 56 + (k : Int) := by omega
        have f2 : 56 + (k : Int) < 64 := by omega
        have f3 : (56 + (k : Int)).toNat = 56 + k := by omega
        go_wp2_with fail
        obtain ⟨W0, hW0⟩ : ∃ v, wr.drew = v := ⟨_, rfl⟩
        have HD0 : Hid (DgAt W0 g S B n x) := by rw [← hW0]; exact HD.out
        have HO0 : Hid (Only g w W0) := by rw [← hW0]; exact HO.out.drew
        obtain ⟨y, hy⟩ : ∃ y, y = IntKind.u64.wrap (z * 8) / 2 ^ s := ⟨_, rfl⟩
        have hyb := bounds_u8 (Go.wf_wrap .u8 y)
        obtain ⟨cb, hcb⟩ := byte_of (IntKind.u8.wrap y) hyb.1 hyb.2
        have HSB := Lib.hid (HD0.out.setByte (56 + k) (by omega) cb)
        have HOB := Lib.hid (HO0.out.set (8 + (56 + k)) (.int .u8 cb.toNat))
        have cs : W0.cell? ⟨g, 8 + (56 + k), none⟩ = some (.int .u8 (B[56 + k]'(by rw [HD0.out.2.1]; omega)).toNat) := by rw [cell_of_row _ _ _ _ _ _ HD0.out.2.2, List.getElem?_toArray]; exact dgC_block HD0.out.1 _ _ _ _
        have fs := HD0.out.frozen (8 + (56 + k))
        clear hyb HD HO
        refine region_begin hW0 (S := fun W => Only g w W) (by kernel_rfl) HO0.out (fun hHeld => ?_)
        clear hW0
        refine take_at (i := 0) (.pointer (some ⟨g, 0, none⟩)) (some 22) (by decide) (by rfl) (by kernel_rfl) (by kernel_rfl) (by kernel_rfl) (fun _ _ _ h => h) (by rfl) (fun W hW => by go_simp) (by assumption) ?_
        try simp only [Act.put, List.setIfInBounds_toArray, List.set_cons_zero, List.set_cons_succ]
        refine take_at (i := 1) (.int .i64 (k : Int)) (some 23) (by decide) (by rfl) (by kernel_rfl) (by kernel_rfl) (by kernel_rfl) (fun _ _ _ h => h) (by rfl) (fun W hW => by go_simp) (by assumption) ?_
        try simp only [Act.put, List.setIfInBounds_toArray, List.set_cons_zero, List.set_cons_succ]
        refine take_at (i := 2) (.int .i64 (56 + (k : Int))) (some 24) (by decide) (by rfl) (by kernel_rfl) (by kernel_rfl) (by kernel_rfl) (fun _ _ _ h => h) (by rfl) (fun W hW => by go_simp) (by assumption) ?_
        try simp only [Act.put, List.setIfInBounds_toArray, List.set_cons_zero, List.set_cons_succ]
        refine take_at (i := 3) (.int .u64 (IntKind.u64.wrap (z * 8))) (some 25) (by decide) (by rfl) (by kernel_rfl) (by kernel_rfl) (by kernel_rfl) (fun _ _ _ h => h) (by rfl) (fun W hW => by go_simp) (by assumption) ?_
        try simp only [Act.put, List.setIfInBounds_toArray, List.set_cons_zero, List.set_cons_succ]
        refine take_at (i := 4) (.int .i64 (k : Int)) (some 26) (by decide) (by rfl) (by kernel_rfl) (by kernel_rfl) (by kernel_rfl) (fun _ _ _ h => h) (by rfl) (fun W hW => by go_simp) (by assumption) ?_
        try simp only [Act.put, List.setIfInBounds_toArray, List.set_cons_zero, List.set_cons_succ]
        refine take_at (i := 5) (.int .i64 (8 * (k : Int))) (some 27) (by decide) (by rfl) (by kernel_rfl) (by kernel_rfl) (by kernel_rfl) (fun _ _ _ h => h) (by rfl) (fun W hW => by go_simp) (by assumption) ?_
        try simp only [Act.put, List.setIfInBounds_toArray, List.set_cons_zero, List.set_cons_succ]
        refine take_at (i := 6) (.int .i64 (s : Int)) (some 28) (by decide) (by rfl) (by kernel_rfl) (by kernel_rfl) (by kernel_rfl) (fun _ _ _ h => h) (by rfl) (fun W hW => by go_simp) (by assumption) ?_
        try simp only [Act.put, List.setIfInBounds_toArray, List.set_cons_zero, List.set_cons_succ]
        refine take_at (i := 7) (.int .u64 y) (some 29) (by decide) (by rfl) (by kernel_rfl) (by kernel_rfl) (by kernel_rfl) (fun _ _ _ h => h) (by rfl) (fun W hW => by rw [hy]; go_simp) (by assumption) ?_
        try simp only [Act.put, List.setIfInBounds_toArray, List.set_cons_zero, List.set_cons_succ]
        refine take_at (i := 8) (.int .u8 (cb.toNat : Int)) (some 30) (by decide) (by rfl) (by kernel_rfl) (by kernel_rfl) (by kernel_rfl) (fun _ _ _ h => h) (by rfl) (fun W hW => by rw [← hcb]; go_simp) (by assumption) ?_
        try simp only [Act.put, List.setIfInBounds_toArray, List.set_cons_zero, List.set_cons_succ]
        refine take_at (i := 9) (.pointer (some ⟨g, 0, none⟩)) (some 31) (by decide) (by rfl) (by kernel_rfl) (by kernel_rfl) (by kernel_rfl) (fun _ _ _ h => h) (by rfl) (fun W hW => by go_simp) (by assumption) ?_
        try simp only [Act.put, List.setIfInBounds_toArray, List.set_cons_zero, List.set_cons_succ]
        refine take_at (i := 10) (.pointer (some ⟨g, 8, none⟩)) (some 32) (by decide) (by rfl) (by kernel_rfl) (by kernel_rfl) (by kernel_rfl) (fun _ _ _ h => h) (by rfl) (fun W hW => by go_simp) (by assumption) ?_
        try simp only [Act.put, List.setIfInBounds_toArray, List.set_cons_zero, List.set_cons_succ]
        refine take_at (i := 11) (.pointer (some ⟨g, 8 + (56 + k), none⟩)) (some 33) (by decide) (by rfl) (by kernel_rfl) (by kernel_rfl) (by kernel_rfl) (fun _ _ _ h => h) (by rfl) (fun W hW => by first | (go_simp; done) | (go_simp; omega)) (by assumption) ?_
        try simp only [Act.put, List.setIfInBounds_toArray, List.set_cons_zero, List.set_cons_succ]
        clear hHeld
        refine wpAnyH_ready (rs := [12]) (by kernel_rfl) (by simp) (AllReadyH.cons (Array.getElem?_eq_getElem (i := 12) (by decide)) (fun K9 hK => ?_) AllReadyH.nil)
        rw [if_pos (by rfl)]
        unfold Oper.wp
        go_simp
        refine hK.out _ _ (HOB.out) (fun hHeld => ?_)
        clear hK K9
        try simp only [Act.put, List.setIfInBounds_toArray, List.set_cons_zero, List.set_cons_succ]
        refine wpAnyH_done (by kernel_rfl) ?_ _
        try simp only [Act.put, List.setIfInBounds_toArray, List.set_cons_zero, List.set_cons_succ]
        go_wp2_with fail
        go_roundw
        case rel => exact ⟨k + 1, S, B.set (56 + k) cb, n, x, by omega, by go_num, HS, HSB, HOB⟩
        case measure => simp [intOf]; omega
      · have HTE := Lib.hid (take_any g S B n x wr HD.out HS.out (HKW.out.only HO.out hg) hg hgs3)
        go_wp2_with fail
        refine HTE.out.mono ?_
        rintro q9 w9 ⟨rfl, S9, hS9, hd9, ho9⟩
        go_wp2_with fail
        go_end0
        exact ⟨rfl, S9, hS9, ⟨zer 64, 0, x, hd9⟩, HO.out.trans ho9⟩
  · have hq : ¬ (56 : Int) < (n2 : Int) := by omega
    go_wp2_with fail
    go_loopw [19] (fun i wr => ∃ (k : Nat) (S : List Int) (B : List UInt8) (n : Int) (x : Int), k ≤ 8 ∧ i = .int .i64 k ∧ Hid (W32L S) ∧ Hid (DgAt wr g S B n x) ∧ Hid (Only g w wr)) (fun i _ => 8 - (intOf i).toNat)
    case atStart => exact ⟨0, S2, B2, n2, x2, by omega, rfl, HS2, HD2, HO2⟩
    case round =>
      clear HD2 HO2
      obtain ⟨k, S, B, n, x, hk, rfl, HS, HD, HO⟩ := hrel
      have hgs3 : g < wr.heap.size := by have := HO.out.size; omega
      by_cases hlt : k < 8
      · obtain ⟨s, hs⟩ : ∃ s : Nat, s = 56 - 8 * k := ⟨_, rfl⟩
        have s64 : (s : Int) ≤ 64 := by omega
        have s64n : s ≤ 64 := by omega
        have w1 : IntKind.i64.wrap (8 * (k : Int)) = 8 * (k : Int) := Go.wrap_small _ (by omega) (by omega)
        have w2' : IntKind.i64.wrap (56 - 8 * (k : Int)) = (s : Int) := by rw [show (56 : Int) - 8 * (k : Int) = (s : Int) by omega]; exact Go.wrap_small _ (by omega) (by omega)
        have w3 : IntKind.i64.wrap (56 + (k : Int)) = 56 + (k : Int) := Go.wrap_small _ (by omega) (by omega)
        have f1 : (0 : Int) ≤ 56 + (k : Int) := by omega
        have f2 : 56 + (k : Int) < 64 := by omega
        have f3 : (56 + (k : Int)).toNat = 56 + k := by omega
        go_wp2_with fail
        obtain ⟨W0, hW0⟩ : ∃ v, wr.drew = v := ⟨_, rfl⟩
        have HD0 : Hid (DgAt W0 g S B n x) := by rw [← hW0]; exact HD.out
        have HO0 : Hid (Only g w W0) := by rw [← hW0]; exact HO.out.drew
        obtain ⟨y, hy⟩ : ∃ y, y = IntKind.u64.wrap (z * 8) / 2 ^ s := ⟨_, rfl⟩
        have hyb := bounds_u8 (Go.wf_wrap .u8 y)
        obtain ⟨cb, hcb⟩ := byte_of (IntKind.u8.wrap y) hyb.1 hyb.2
        have HSB := Lib.hid (HD0.out.setByte (56 + k) (by omega) cb)
        have HOB := Lib.hid (HO0.out.set (8 + (56 + k)) (.int .u8 cb.toNat))
        have cs : W0.cell? ⟨g, 8 + (56 + k), none⟩ = some (.int .u8 (B[56 + k]'(by rw [HD0.out.2.1]; omega)).toNat) := by rw [cell_of_row _ _ _ _ _ _ HD0.out.2.2, List.getElem?_toArray]; exact dgC_block HD0.out.1 _ _ _ _
        have fs := HD0.out.frozen (8 + (56 + k))
        clear hyb HD HO
        refine region_begin hW0 (S := fun W => Only g w W) (by kernel_rfl) HO0.out (fun hHeld => ?_)
        clear hW0
        refine take_at (i := 0) (.pointer (some ⟨g, 0, none⟩)) (some 22) (by decide) (by rfl) (by kernel_rfl) (by kernel_rfl) (by kernel_rfl) (fun _ _ _ h => h) (by rfl) (fun W hW => by go_simp) (by assumption) ?_
        try simp only [Act.put, List.setIfInBounds_toArray, List.set_cons_zero, List.set_cons_succ]
        refine take_at (i := 1) (.int .i64 (k : Int)) (some 23) (by decide) (by rfl) (by kernel_rfl) (by kernel_rfl) (by kernel_rfl) (fun _ _ _ h => h) (by rfl) (fun W hW => by go_simp) (by assumption) ?_
        try simp only [Act.put, List.setIfInBounds_toArray, List.set_cons_zero, List.set_cons_succ]
        refine take_at (i := 2) (.int .i64 (56 + (k : Int))) (some 24) (by decide) (by rfl) (by kernel_rfl) (by kernel_rfl) (by kernel_rfl) (fun _ _ _ h => h) (by rfl) (fun W hW => by go_simp) (by assumption) ?_
        try simp only [Act.put, List.setIfInBounds_toArray, List.set_cons_zero, List.set_cons_succ]
        refine take_at (i := 3) (.int .u64 (IntKind.u64.wrap (z * 8))) (some 25) (by decide) (by rfl) (by kernel_rfl) (by kernel_rfl) (by kernel_rfl) (fun _ _ _ h => h) (by rfl) (fun W hW => by go_simp) (by assumption) ?_
        try simp only [Act.put, List.setIfInBounds_toArray, List.set_cons_zero, List.set_cons_succ]
        refine take_at (i := 4) (.int .i64 (k : Int)) (some 26) (by decide) (by rfl) (by kernel_rfl) (by kernel_rfl) (by kernel_rfl) (fun _ _ _ h => h) (by rfl) (fun W hW => by go_simp) (by assumption) ?_
        try simp only [Act.put, List.setIfInBounds_toArray, List.set_cons_zero, List.set_cons_succ]
        refine take_at (i := 5) (.int .i64 (8 * (k : Int))) (some 27) (by decide) (by rfl) (by kernel_rfl) (by kernel_rfl) (by kernel_rfl) (fun _ _ _ h => h) (by rfl) (fun W hW => by go_simp) (by assumption) ?_
        try simp only [Act.put, List.setIfInBounds_toArray, List.set_cons_zero, List.set_cons_succ]
        refine take_at (i := 6) (.int .i64 (s : Int)) (some 28) (by decide) (by rfl) (by kernel_rfl) (by kernel_rfl) (by kernel_rfl) (fun _ _ _ h => h) (by rfl) (fun W hW => by go_simp) (by assumption) ?_
        try simp only [Act.put, List.setIfInBounds_toArray, List.set_cons_zero, List.set_cons_succ]
        refine take_at (i := 7) (.int .u64 y) (some 29) (by decide) (by rfl) (by kernel_rfl) (by kernel_rfl) (by kernel_rfl) (fun _ _ _ h => h) (by rfl) (fun W hW => by rw [hy]; go_simp) (by assumption) ?_
        try simp only [Act.put, List.setIfInBounds_toArray, List.set_cons_zero, List.set_cons_succ]
        refine take_at (i := 8) (.int .u8 (cb.toNat : Int)) (some 30) (by decide) (by rfl) (by kernel_rfl) (by kernel_rfl) (by kernel_rfl) (fun _ _ _ h => h) (by rfl) (fun W hW => by rw [← hcb]; go_simp) (by assumption) ?_
        try simp only [Act.put, List.setIfInBounds_toArray, List.set_cons_zero, List.set_cons_succ]
        refine take_at (i := 9) (.pointer (some ⟨g, 0, none⟩)) (some 31) (by decide) (by rfl) (by kernel_rfl) (by kernel_rfl) (by kernel_rfl) (fun _ _ _ h => h) (by rfl) (fun W hW => by go_simp) (by assumption) ?_
        try simp only [Act.put, List.setIfInBounds_toArray, List.set_cons_zero, List.set_cons_succ]
        refine take_at (i := 10) (.pointer (some ⟨g, 8, none⟩)) (some 32) (by decide) (by rfl) (by kernel_rfl) (by kernel_rfl) (by kernel_rfl) (fun _ _ _ h => h) (by rfl) (fun W hW => by go_simp) (by assumption) ?_
        try simp only [Act.put, List.setIfInBounds_toArray, List.set_cons_zero, List.set_cons_succ]
        refine take_at (i := 11) (.pointer (some ⟨g, 8 + (56 + k), none⟩)) (some 33) (by decide) (by rfl) (by kernel_rfl) (by kernel_rfl) (by kernel_rfl) (fun _ _ _ h => h) (by rfl) (fun W hW => by first | (go_simp; done) | (go_simp; omega)) (by assumption) ?_
        try simp only [Act.put, List.setIfInBounds_toArray, List.set_cons_zero, List.set_cons_succ]
        clear hHeld
        refine wpAnyH_ready (rs := [12]) (by kernel_rfl) (by simp) (AllReadyH.cons (Array.getElem?_eq_getElem (i := 12) (by decide)) (fun K9 hK => ?_) AllReadyH.nil)
        rw [if_pos (by rfl)]
        unfold Oper.wp
        go_simp
        refine hK.out _ _ (HOB.out) (fun hHeld => ?_)
        clear hK K9
        try simp only [Act.put, List.setIfInBounds_toArray, List.set_cons_zero, List.set_cons_succ]
        refine wpAnyH_done (by kernel_rfl) ?_ _
        try simp only [Act.put, List.setIfInBounds_toArray, List.set_cons_zero, List.set_cons_succ]
        go_wp2_with fail
        go_roundw
        case rel => exact ⟨k + 1, S, B.set (56 + k) cb, n, x, by omega, by go_num, HS, HSB, HOB⟩
        case measure => simp [intOf]; omega
      · have HTE := Lib.hid (take_any g S B n x wr HD.out HS.out (HKW.out.only HO.out hg) hg hgs3)
        go_wp2_with fail
        refine HTE.out.mono ?_
        rintro q9 w9 ⟨rfl, S9, hS9, hd9, ho9⟩
        go_wp2_with fail
        go_end0
        exact ⟨rfl, S9, hS9, ⟨zer 64, 0, x, hd9⟩, HO.out.trans ho9⟩

end Go.Proofs.YtflgokbkkoobkaaDoor.Cd
