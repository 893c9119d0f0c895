/-
  What stands behind all bytes, told exactly: the digest's end. Conditions: none.
-/
import Derived.Test.YtflgokbkkoobkaaDoorShaAddX
import Derived.Test.YtflgokbkkoobkaaDoorShaEnd
namespace Go.Proofs.YtflgokbkkoobkaaDoor.Cd
open Go.RowKit

theorem tail_byte (n s : Nat) (cb : UInt8) (hn : 8 * n < 18446744073709551616) (h : IntKind.u8.wrap (IntKind.u64.wrap ((n : Int) * 8) / 2 ^ s) = (cb.toNat : Int)) : cb = UInt8.ofNat (8 * n / 2 ^ s) := by
  rw [wrap_few64 _ (by omega) (by omega), show ((n : Int) * 8) = ((8 * n : Nat) : Int) by omega, show ((2 : Int) ^ s) = ((2 ^ s : Nat) : Int) by simp, ← Int.natCast_ediv, IntKind.wrap_u8'] at h
  apply UInt8.toNat_inj.1
  rw [UInt8.toNat_ofNat']
  omega

set_option maxRecDepth 100000 in
set_option maxHeartbeats 3200000 in
theorem end_x (Ks : List Int) (P : List UInt8) (g : Nat) (w : World) (hD : DgAt w g (stF (mixP Ks) st0 P) (blkF P) (P.length % 64 : Nat) P.length) (hP : 8 * P.length + 8 < 18446744073709551616) (hst : W32L (stF (mixP Ks) st0 P)) (hk : KeysIs Ks w) (hg : 0 < g) (hgs : g < w.heap.size) :
    Calls Tryd.prog 35 #[.pointer (some ⟨g, 0, none⟩)] w fun e w' => e = .returned (.tuple #[]) ∧ W32L (endF (mixP Ks) st0 P) ∧ (∃ (B : List UInt8) (n x : Int), DgAt w' g (endF (mixP Ks) st0 P) B n x) ∧ Only g w w' := by
  obtain ⟨z, hz⟩ : ∃ z : Int, z = (P.length : Int) := ⟨_, rfl⟩
  rw [← hz] at hD
  have HZ := Lib.hid hz
  have HZ8 : Hid (8 * P.length < 18446744073709551616) := by unfold Hid; omega
  have cz := hD.size
  have hone : Own (w.alloc (.cells #[.int .u8 128] 5)) (w.heap.size) (.slice (some ⟨w.heap.size, 0, none⟩) 1 1) [128] := own_byte w w.heap.size (Nat.le_refl _) 128
  have hO1 : Only g w (w.alloc (.cells #[.int .u8 128] 5)) := Only.of ((Below.refl _ _).alloc (Nat.le_refl _) _)
  have hV1 : SlNot (w.alloc (.cells #[.int .u8 128] 5)) g (.slice (some ⟨w.heap.size, 0, none⟩) 1 1) [128] := ⟨hone.sl, fun A n c e _ => by injection e with e; injection e with e; subst e; show w.heap.size ≠ g; omega⟩
  have hD1 : DgAt (w.alloc (.cells #[.int .u8 128] 5)) g (stF (mixP Ks) st0 P) (blkF P) (P.length % 64 : Nat) z := hD.heap (Below.heap_alloc _ _ _ hgs)
  have HKW := Lib.hid hk
  have HADD := Lib.hid (add_x Ks P [128] g z _ _ hst hD1 (by omega) (by simp; omega) (hk.only hO1 hg) hg (by simp; omega) hV1)
  have HK1 := Lib.hid (hk.only hO1 hg)
  have HO1 := Lib.hid hO1
  have HFW := Lib.hid (endF_few (mixP Ks) st0 P)
  have HMN := Lib.hid (endF_many (mixP Ks) st0 P)
  have HN : Hid ((P ++ [128]).length % 64 < 64) := Nat.mod_lt _ (by omega)
  obtain ⟨E, hE⟩ : ∃ E, endF (mixP Ks) st0 P = E := ⟨_, rfl⟩
  rw [hE] at HFW HMN ⊢
  clear hone hV1 hD1 hO1 hD hst hk hz hE
  generalize stF (mixP Ks) st0 (P ++ [128]) = S2 at HADD HFW HMN
  generalize blkF (P ++ [128]) = B2 at HADD HFW HMN
  generalize (P ++ [128]).length % 64 = n2 at HADD HFW HMN HN
  go_enter Tryd.func35, Tryd.ntmps35
  go_wp2_with fail
  refine HADD.out.mono ?_
  rintro q2 w2 ⟨rfl, hS2, hd2, ho2⟩
  have hgs2 : g < w2.heap.size := by have := ho2.size; simp at this; omega
  generalize z + (([128] : List UInt8).length : Int) = x2 at hd2
  have HD2 := Lib.hid hd2
  have HS2 := Lib.hid hS2
  have HO2 := Lib.hid (HO1.out.trans ho2)
  have HK2 := Lib.hid (HK1.out.only ho2 hg)
  have cu := hd2.used
  clear hd2 hS2 ho2 HADD HO1 HK1
  by_cases h56 : 56 < n2
  · have hq : (56 : Int) < (n2 : Int) := by omega
    obtain ⟨S, hSe⟩ : ∃ S, mixP Ks S2 B2 = S := ⟨_, rfl⟩
    have HFIN := Lib.hid (HMN.out h56).symm
    rw [hSe] at HFIN
    have HTK := Lib.hid (take_x Ks S g S2 B2 n2 x2 w2 hSe HD2.out HS2.out HK2.out hg hgs2)
    clear hSe HFW HMN HN
    obtain ⟨B0, hB0⟩ : ∃ B0 : List UInt8, zer 64 = B0 := ⟨_, rfl⟩
    obtain ⟨n, hn⟩ : ∃ n : Int, n = 0 := ⟨_, rfl⟩
    obtain ⟨x, hx⟩ : ∃ x : Int, x = x2 := ⟨_, rfl⟩
    rw [hB0] at HFIN
    go_wp2_with fail
    refine HTK.out.mono ?_
    rintro q3 w3 ⟨rfl, hS3, hd3, ho3⟩
    rw [hB0, ← hn, ← hx] at hd3
    have HD1 := Lib.hid hd3
    have HS := Lib.hid hS3
    have HO1 := Lib.hid (HO2.out.trans ho3)
    clear hd3 hS3 ho3 HTK HD2 HO2 cu hB0 hn hx
    go_wp2_with fail
    go_loopw [19] (fun i wr => ∃ (k : Nat) (B : List UInt8), k ≤ 8 ∧ i = .int .i64 k ∧ Hid (B.take (56 + k) = B0.take 56 ++ (tail8 P.length).take k) ∧ Hid (DgAt wr g S B n x) ∧ Hid (Only g w wr)) (fun i _ => 8 - (intOf i).toNat)
    case atStart => exact ⟨0, B0, by omega, rfl, by unfold Hid; simp, HD1, HO1⟩
    case round =>
      clear HD1 HO1
      obtain ⟨k, B, hk, rfl, HT, HD, HO⟩ := hrel
      have hgs3 : g < wr.heap.size := by have := HO.out.size; omega
      by_cases hlt : k < 8
      · obtain ⟨s, hs⟩ : ∃ s : Nat, s = 56 - 8 * k := ⟨_, rfl⟩
        have s64 : (s : Int) ≤ 64 := by omega
        have s64n : s ≤ 64 := by omega
        have w1 : IntKind.i64.wrap (8 * (k : Int)) = 8 * (k : Int) := Go.wrap_small _ (by omega) (by omega)
        have w2' : IntKind.i64.wrap (56 - 8 * (k : Int)) = (s : Int) := by rw [show (56 : Int) - 8 * (k : Int) = (s : Int) by omega]; exact Go.wrap_small _ (by omega) (by omega)
        have w3 : IntKind.i64.wrap (56 + (k : Int)) = 56 + (k : Int) := Go.wrap_small _ (by omega) (by omega)
        have f1 : (0 : Int) ≤ 56 + (k : Int) := by omega
        have f2 : 56 + (k : Int) < 64 := by omega
        have f3 : (56 + (k : Int)).toNat = 56 + k := by omega
        go_wp2_with fail
        obtain ⟨W0, hW0⟩ : ∃ v, wr.drew = v := ⟨_, rfl⟩
        have HD0 : Hid (DgAt W0 g S B n x) := by rw [← hW0]; exact HD.out
        have HO0 : Hid (Only g w W0) := by rw [← hW0]; exact HO.out.drew
        obtain ⟨y, hy⟩ : ∃ y, y = IntKind.u64.wrap (z * 8) / 2 ^ s := ⟨_, rfl⟩
        have hyb := bounds_u8 (Go.wf_wrap .u8 y)
        obtain ⟨cb, hcb⟩ := byte_of (IntKind.u8.wrap y) hyb.1 hyb.2
        have HCB : Hid (cb = UInt8.ofNat (8 * P.length / 2 ^ (56 - 8 * k))) := by
          unfold Hid
          rw [hy, HZ.out] at hcb
          rw [← hs]
          exact tail_byte P.length s cb HZ8.out hcb
        have HSB := Lib.hid (HD0.out.setByte (56 + k) (by omega) cb)
        have HOB := Lib.hid (HO0.out.set (8 + (56 + k)) (.int .u8 cb.toNat))
        have hB64 := HD0.out.2.1
        have HT2 : Hid ((B.set (56 + k) cb).take (56 + (k + 1)) = B0.take 56 ++ (tail8 P.length).take (k + 1)) := by
          unfold Hid
          rw [show 56 + (k + 1) = 56 + k + 1 by omega, put_tail B (56 + k) (by omega) cb, HT.out, tail8_at _ k hlt, HCB.out, List.append_assoc]
        clear hB64
        have cs : W0.cell? ⟨g, 8 + (56 + k), none⟩ = some (.int .u8 (B[56 + k]'(by rw [HD0.out.2.1]; omega)).toNat) := by rw [cell_of_row _ _ _ _ _ _ HD0.out.2.2, List.getElem?_toArray]; exact dgC_block HD0.out.1 _ _ _ _
        have fs := HD0.out.frozen (8 + (56 + k))
        clear hyb HD HO
        refine region_begin hW0 (S := fun W => Only g w W) (by kernel_rfl) HO0.out (fun hHeld => ?_)
        clear hW0
        refine take_at (i := 0) (.pointer (some ⟨g, 0, none⟩)) (some 22) (by decide) (by rfl) (by kernel_rfl) (by kernel_rfl) (by kernel_rfl) (fun _ _ _ h => h) (by rfl) (fun W hW => by go_simp) (by assumption) ?_
        try simp only [Act.put, List.setIfInBounds_toArray, List.set_cons_zero, List.set_cons_succ]
        refine take_at (i := 1) (.int .i64 (k : Int)) (some 23) (by decide) (by rfl) (by kernel_rfl) (by kernel_rfl) (by kernel_rfl) (fun _ _ _ h => h) (by rfl) (fun W hW => by go_simp) (by assumption) ?_
        try simp only [Act.put, List.setIfInBounds_toArray, List.set_cons_zero, List.set_cons_succ]
        refine take_at (i := 2) (.int .i64 (56 + (k : Int))) (some 24) (by decide) (by rfl) (by kernel_rfl) (by kernel_rfl) (by kernel_rfl) (fun _ _ _ h => h) (by rfl) (fun W hW => by go_simp) (by assumption) ?_
        try simp only [Act.put, List.setIfInBounds_toArray, List.set_cons_zero, List.set_cons_succ]
        refine take_at (i := 3) (.int .u64 (IntKind.u64.wrap (z * 8))) (some 25) (by decide) (by rfl) (by kernel_rfl) (by kernel_rfl) (by kernel_rfl) (fun _ _ _ h => h) (by rfl) (fun W hW => by go_simp) (by assumption) ?_
        try simp only [Act.put, List.setIfInBounds_toArray, List.set_cons_zero, List.set_cons_succ]
        refine take_at (i := 4) (.int .i64 (k : Int)) (some 26) (by decide) (by rfl) (by kernel_rfl) (by kernel_rfl) (by kernel_rfl) (fun _ _ _ h => h) (by rfl) (fun W hW => by go_simp) (by assumption) ?_
        try simp only [Act.put, List.setIfInBounds_toArray, List.set_cons_zero, List.set_cons_succ]
        refine take_at (i := 5) (.int .i64 (8 * (k : Int))) (some 27) (by decide) (by rfl) (by kernel_rfl) (by kernel_rfl) (by kernel_rfl) (fun _ _ _ h => h) (by rfl) (fun W hW => by go_simp) (by assumption) ?_
        try simp only [Act.put, List.setIfInBounds_toArray, List.set_cons_zero, List.set_cons_succ]
        refine take_at (i := 6) (.int .i64 (s : Int)) (some 28) (by decide) (by rfl) (by kernel_rfl) (by kernel_rfl) (by kernel_rfl) (fun _ _ _ h => h) (by rfl) (fun W hW => by go_simp) (by assumption) ?_
        try simp only [Act.put, List.setIfInBounds_toArray, List.set_cons_zero, List.set_cons_succ]
        refine take_at (i := 7) (.int .u64 y) (some 29) (by decide) (by rfl) (by kernel_rfl) (by kernel_rfl) (by kernel_rfl) (fun _ _ _ h => h) (by rfl) (fun W hW => by rw [hy]; go_simp) (by assumption) ?_
        try simp only [Act.put, List.setIfInBounds_toArray, List.set_cons_zero, List.set_cons_succ]
        refine take_at (i := 8) (.int .u8 (cb.toNat : Int)) (some 30) (by decide) (by rfl) (by kernel_rfl) (by kernel_rfl) (by kernel_rfl) (fun _ _ _ h => h) (by rfl) (fun W hW => by rw [← hcb]; go_simp) (by assumption) ?_
        try simp only [Act.put, List.setIfInBounds_toArray, List.set_cons_zero, List.set_cons_succ]
        refine take_at (i := 9) (.pointer (some ⟨g, 0, none⟩)) (some 31) (by decide) (by rfl) (by kernel_rfl) (by kernel_rfl) (by kernel_rfl) (fun _ _ _ h => h) (by rfl) (fun W hW => by go_simp) (by assumption) ?_
        try simp only [Act.put, List.setIfInBounds_toArray, List.set_cons_zero, List.set_cons_succ]
        refine take_at (i := 10) (.pointer (some ⟨g, 8, none⟩)) (some 32) (by decide) (by rfl) (by kernel_rfl) (by kernel_rfl) (by kernel_rfl) (fun _ _ _ h => h) (by rfl) (fun W hW => by go_simp) (by assumption) ?_
        try simp only [Act.put, List.setIfInBounds_toArray, List.set_cons_zero, List.set_cons_succ]
        refine take_at (i := 11) (.pointer (some ⟨g, 8 + (56 + k), none⟩)) (some 33) (by decide) (by rfl) (by kernel_rfl) (by kernel_rfl) (by kernel_rfl) (fun _ _ _ h => h) (by rfl) (fun W hW => by first | (go_simp; done) | (go_simp; omega)) (by assumption) ?_
        try simp only [Act.put, List.setIfInBounds_toArray, List.set_cons_zero, List.set_cons_succ]
        clear hHeld
        refine wpAnyH_ready (rs := [12]) (by kernel_rfl) (by simp) (AllReadyH.cons (Array.getElem?_eq_getElem (i := 12) (by decide)) (fun K9 hK => ?_) AllReadyH.nil)
        rw [if_pos (by rfl)]
        unfold Oper.wp
        go_simp
        refine hK.out _ _ (HOB.out) (fun hHeld => ?_)
        clear hK K9
        try simp only [Act.put, List.setIfInBounds_toArray, List.set_cons_zero, List.set_cons_succ]
        refine wpAnyH_done (by kernel_rfl) ?_ _
        try simp only [Act.put, List.setIfInBounds_toArray, List.set_cons_zero, List.set_cons_succ]
        go_wp2_with fail
        go_roundw
        case rel => exact ⟨k + 1, B.set (56 + k) cb, by omega, by go_num, HT2, HSB, HOB⟩
        case measure => simp [intOf]; omega
      · obtain rfl : k = 8 := by omega
        have hB8 : B = B0.take 56 ++ tail8 P.length := by
          have h1 := HT.out
          have h2 := HD.out.2.1
          have h3 := tail8_length P.length
          rw [List.take_of_length_le (by omega), List.take_of_length_le (l := tail8 P.length) (by omega)] at h1
          exact h1
        rw [← hB8] at HFIN
        have HTE := Lib.hid (take_x Ks _ g S B n x wr HFIN.out HD.out HS.out (HKW.out.only HO.out hg) hg hgs3)
        clear hB8 HFIN HT
        go_wp2_with fail
        refine HTE.out.mono ?_
        rintro q9 w9 ⟨rfl, hS9, hd9, ho9⟩
        go_wp2_with fail
        go_end0
        exact ⟨rfl, hS9, ⟨zer 64, 0, x, hd9⟩, HO.out.trans ho9⟩
  · have hq : ¬ (56 : Int) < (n2 : Int) := by omega
    obtain ⟨B0, hB0⟩ : ∃ B0 : List UInt8, B2 = B0 := ⟨_, rfl⟩
    obtain ⟨n, hn⟩ : ∃ n : Int, (n2 : Int) = n := ⟨_, rfl⟩
    obtain ⟨x, hx⟩ : ∃ x : Int, x2 = x := ⟨_, rfl⟩
    obtain ⟨S, hSe⟩ : ∃ S, S2 = S := ⟨_, rfl⟩
    have HFIN := Lib.hid (HFW.out (by omega)).symm
    rw [hB0, hSe] at HFIN
    rw [hSe] at HS2
    have HS := HS2
    go_wp2_with fail
    rw [hB0, hSe, hn, hx] at HD2
    have HD1 := HD2
    have HO1 := HO2
    clear HD2 HO2 HS2 hB0 hSe hn hx
    go_loopw [19] (fun i wr => ∃ (k : Nat) (B : List UInt8), k ≤ 8 ∧ i = .int .i64 k ∧ Hid (B.take (56 + k) = B0.take 56 ++ (tail8 P.length).take k) ∧ Hid (DgAt wr g S B n x) ∧ Hid (Only g w wr)) (fun i _ => 8 - (intOf i).toNat)
    case atStart => exact ⟨0, B0, by omega, rfl, by unfold Hid; simp, HD1, HO1⟩
    case round =>
      clear HD1 HO1
      obtain ⟨k, B, hk, rfl, HT, HD, HO⟩ := hrel
      have hgs3 : g < wr.heap.size := by have := HO.out.size; omega
      by_cases hlt : k < 8
      · obtain ⟨s, hs⟩ : ∃ s : Nat, s = 56 - 8 * k := ⟨_, rfl⟩
        have s64 : (s : Int) ≤ 64 := by omega
        have s64n : s ≤ 64 := by omega
        have w1 : IntKind.i64.wrap (8 * (k : Int)) = 8 * (k : Int) := Go.wrap_small _ (by omega) (by omega)
        have w2' : IntKind.i64.wrap (56 - 8 * (k : Int)) = (s : Int) := by rw [show (56 : Int) - 8 * (k : Int) = (s : Int) by omega]; exact Go.wrap_small _ (by omega) (by omega)
        have w3 : IntKind.i64.wrap (56 + (k : Int)) = 56 + (k : Int) := Go.wrap_small _ (by omega) (by omega)
        have f1 : (0 : Int) ≤ 56 + (k : Int) := by omega
        have f2 : 56 + (k : Int) < 64 := by omega
        have f3 : (56 + (k : Int)).toNat = 56 + k := by omega
        go_wp2_with fail
        obtain ⟨W0, hW0⟩ : ∃ v, wr.drew = v := ⟨_, rfl⟩
        have HD0 : Hid (DgAt W0 g S B n x) := by rw [← hW0]; exact HD.out
        have HO0 : Hid (Only g w W0) := by rw [← hW0]; exact HO.out.drew
        obtain ⟨y, hy⟩ : ∃ y, y = IntKind.u64.wrap (z * 8) / 2 ^ s := ⟨_, rfl⟩
        have hyb := bounds_u8 (Go.wf_wrap .u8 y)
        obtain ⟨cb, hcb⟩ := byte_of (IntKind.u8.wrap y) hyb.1 hyb.2
        have HCB : Hid (cb = UInt8.ofNat (8 * P.length / 2 ^ (56 - 8 * k))) := by
          unfold Hid
          rw [hy, HZ.out] at hcb
          rw [← hs]
          exact tail_byte P.length s cb HZ8.out hcb
        have HSB := Lib.hid (HD0.out.setByte (56 + k) (by omega) cb)
        have HOB := Lib.hid (HO0.out.set (8 + (56 + k)) (.int .u8 cb.toNat))
        have hB64 := HD0.out.2.1
        have HT2 : Hid ((B.set (56 + k) cb).take (56 + (k + 1)) = B0.take 56 ++ (tail8 P.length).take (k + 1)) := by
          unfold Hid
          rw [show 56 + (k + 1) = 56 + k + 1 by omega, put_tail B (56 + k) (by omega) cb, HT.out, tail8_at _ k hlt, HCB.out, List.append_assoc]
        clear hB64
        have cs : W0.cell? ⟨g, 8 + (56 + k), none⟩ = some (.int .u8 (B[56 + k]'(by rw [HD0.out.2.1]; omega)).toNat) := by rw [cell_of_row _ _ _ _ _ _ HD0.out.2.2, List.getElem?_toArray]; exact dgC_block HD0.out.1 _ _ _ _
        have fs := HD0.out.frozen (8 + (56 + k))
        clear hyb HD HO
        refine region_begin hW0 (S := fun W => Only g w W) (by kernel_rfl) HO0.out (fun hHeld => ?_)
        clear hW0
        refine take_at (i := 0) (.pointer (some ⟨g, 0, none⟩)) (some 22) (by decide) (by rfl) (by kernel_rfl) (by kernel_rfl) (by kernel_rfl) (fun _ _ _ h => h) (by rfl) (fun W hW => by go_simp) (by assumption) ?_
        try simp only [Act.put, List.setIfInBounds_toArray, List.set_cons_zero, List.set_cons_succ]
        refine take_at (i := 1) (.int .i64 (k : Int)) (some 23) (by decide) (by rfl) (by kernel_rfl) (by kernel_rfl) (by kernel_rfl) (fun _ _ _ h => h) (by rfl) (fun W hW => by go_simp) (by assumption) ?_
        try simp only [Act.put, List.setIfInBounds_toArray, List.set_cons_zero, List.set_cons_succ]
        refine take_at (i := 2) (.int .i64 (56 + (k : Int))) (some 24) (by decide) (by rfl) (by kernel_rfl) (by kernel_rfl) (by kernel_rfl) (fun _ _ _ h => h) (by rfl) (fun W hW => by go_simp) (by assumption) ?_
        try simp only [Act.put, List.setIfInBounds_toArray, List.set_cons_zero, List.set_cons_succ]
        refine take_at (i := 3) (.int .u64 (IntKind.u64.wrap (z * 8))) (some 25) (by decide) (by rfl) (by kernel_rfl) (by kernel_rfl) (by kernel_rfl) (fun _ _ _ h => h) (by rfl) (fun W hW => by go_simp) (by assumption) ?_
        try simp only [Act.put, List.setIfInBounds_toArray, List.set_cons_zero, List.set_cons_succ]
        refine take_at (i := 4) (.int .i64 (k : Int)) (some 26) (by decide) (by rfl) (by kernel_rfl) (by kernel_rfl) (by kernel_rfl) (fun _ _ _ h => h) (by rfl) (fun W hW => by go_simp) (by assumption) ?_
        try simp only [Act.put, List.setIfInBounds_toArray, List.set_cons_zero, List.set_cons_succ]
        refine take_at (i := 5) (.int .i64 (8 * (k : Int))) (some 27) (by decide) (by rfl) (by kernel_rfl) (by kernel_rfl) (by kernel_rfl) (fun _ _ _ h => h) (by rfl) (fun W hW => by go_simp) (by assumption) ?_
        try simp only [Act.put, List.setIfInBounds_toArray, List.set_cons_zero, List.set_cons_succ]
        refine take_at (i := 6) (.int .i64 (s : Int)) (some 28) (by decide) (by rfl) (by kernel_rfl) (by kernel_rfl) (by kernel_rfl) (fun _ _ _ h => h) (by rfl) (fun W hW => by go_simp) (by assumption) ?_
        try simp only [Act.put, List.setIfInBounds_toArray, List.set_cons_zero, List.set_cons_succ]
        refine take_at (i := 7) (.int .u64 y) (some 29) (by decide) (by rfl) (by kernel_rfl) (by kernel_rfl) (by kernel_rfl) (fun _ _ _ h => h) (by rfl) (fun W hW => by rw [hy]; go_simp) (by assumption) ?_
        try simp only [Act.put, List.setIfInBounds_toArray, List.set_cons_zero, List.set_cons_succ]
        refine take_at (i := 8) (.int .u8 (cb.toNat : Int)) (some 30) (by decide) (by rfl) (by kernel_rfl) (by kernel_rfl) (by kernel_rfl) (fun _ _ _ h => h) (by rfl) (fun W hW => by rw [← hcb]; go_simp) (by assumption) ?_
        try simp only [Act.put, List.setIfInBounds_toArray, List.set_cons_zero, List.set_cons_succ]
        refine take_at (i := 9) (.pointer (some ⟨g, 0, none⟩)) (some 31) (by decide) (by rfl) (by kernel_rfl) (by kernel_rfl) (by kernel_rfl) (fun _ _ _ h => h) (by rfl) (fun W hW => by go_simp) (by assumption) ?_
        try simp only [Act.put, List.setIfInBounds_toArray, List.set_cons_zero, List.set_cons_succ]
        refine take_at (i := 10) (.pointer (some ⟨g, 8, none⟩)) (some 32) (by decide) (by rfl) (by kernel_rfl) (by kernel_rfl) (by kernel_rfl) (fun _ _ _ h => h) (by rfl) (fun W hW => by go_simp) (by assumption) ?_
        try simp only [Act.put, List.setIfInBounds_toArray, List.set_cons_zero, List.set_cons_succ]
        refine take_at (i := 11) (.pointer (some ⟨g, 8 + (56 + k), none⟩)) (some 33) (by decide) (by rfl) (by kernel_rfl) (by kernel_rfl) (by kernel_rfl) (fun _ _ _ h => h) (by rfl) (fun W hW => by first | (go_simp; done) | (go_simp; omega)) (by assumption) ?_
        try simp only [Act.put, List.setIfInBounds_toArray, List.set_cons_zero, List.set_cons_succ]
        clear hHeld
        refine wpAnyH_ready (rs := [12]) (by kernel_rfl) (by simp) (AllReadyH.cons (Array.getElem?_eq_getElem (i := 12) (by decide)) (fun K9 hK => ?_) AllReadyH.nil)
        rw [if_pos (by rfl)]
        unfold Oper.wp
        go_simp
        refine hK.out _ _ (HOB.out) (fun hHeld => ?_)
        clear hK K9
        try simp only [Act.put, List.setIfInBounds_toArray, List.set_cons_zero, List.set_cons_succ]
        refine wpAnyH_done (by kernel_rfl) ?_ _
        try simp only [Act.put, List.setIfInBounds_toArray, List.set_cons_zero, List.set_cons_succ]
        go_wp2_with fail
        go_roundw
        case rel => exact ⟨k + 1, B.set (56 + k) cb, by omega, by go_num, HT2, HSB, HOB⟩
        case measure => simp [intOf]; omega
      · obtain rfl : k = 8 := by omega
        have hB8 : B = B0.take 56 ++ tail8 P.length := by
          have h1 := HT.out
          have h2 := HD.out.2.1
          have h3 := tail8_length P.length
          rw [List.take_of_length_le (by omega), List.take_of_length_le (l := tail8 P.length) (by omega)] at h1
          exact h1
        rw [← hB8] at HFIN
        have HTE := Lib.hid (take_x Ks _ g S B n x wr HFIN.out HD.out HS.out (HKW.out.only HO.out hg) hg hgs3)
        clear hB8 HFIN HT
        go_wp2_with fail
        refine HTE.out.mono ?_
        rintro q9 w9 ⟨rfl, hS9, hd9, ho9⟩
        go_wp2_with fail
        go_end0
        exact ⟨rfl, hS9, ⟨zer 64, 0, x, hd9⟩, HO.out.trans ho9⟩

end Go.Proofs.YtflgokbkkoobkaaDoor.Cd
