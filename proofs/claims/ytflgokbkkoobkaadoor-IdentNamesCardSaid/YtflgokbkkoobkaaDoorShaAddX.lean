/-
  Bytes that are put behind those that are there, told exactly: the digest's add. Conditions: none.
-/
import Derived.Test.YtflgokbkkoobkaaDoorShaTakeX
import Derived.Test.YtflgokbkkoobkaaDoorShaFed
import Derived.Test.YtflgokbkkoobkaaDoorShaAdd
namespace Go.Proofs.YtflgokbkkoobkaaDoor.Cd
open Go.RowKit

theorem wrap_few64 (x : Int) (h0 : 0 ≤ x) (h1 : x < 18446744073709551616) : IntKind.u64.wrap x = x := by
  simp [IntKind.wrap, IntKind.bits, IntKind.signed]
  omega

set_option maxRecDepth 100000 in
set_option maxHeartbeats 3200000 in
theorem add_x (Ks : List Int) (P bs : List UInt8) (g : Nat) (z : Int) (v : Value) (w : World) (hst : W32L (stF (mixP Ks) st0 P)) (hD : DgAt w g (stF (mixP Ks) st0 P) (blkF P) (P.length % 64 : Nat) z) (hz0 : 0 ≤ z) (hz : z + bs.length < 18446744073709551616) (hk : KeysIs Ks w) (hg : 0 < g) (hgs : g < w.heap.size) (hv : SlNot w g v bs) :
    Calls Tryd.prog 34 #[.pointer (some ⟨g, 0, none⟩), v] w fun e w' => e = .returned (.tuple #[]) ∧ W32L (stF (mixP Ks) st0 (P ++ bs)) ∧ DgAt w' g (stF (mixP Ks) st0 (P ++ bs)) (blkF (P ++ bs)) ((P ++ bs).length % 64 : Nat) (z + bs.length) ∧ Only g w w' := by
  have HF0 := Lib.hid (FedTo.start (mixP Ks) st0 P bs)
  have hu : P.length % 64 < 64 := Nat.mod_lt _ (by omega)
  generalize stF (mixP Ks) st0 P = st at hst hD HF0
  generalize blkF P = blk at hD HF0
  generalize P.length % 64 = u at hD HF0 hu
  have hbl : (bs.length : Int) < 18446744073709551616 := by omega
  have hw1 : IntKind.u64.wrap (bs.length : Int) = (bs.length : Int) := wrap_few64 _ (by omega) (by omega)
  have hw2 : IntKind.u64.wrap (z + (bs.length : Int)) = z + (bs.length : Int) := wrap_few64 _ (by omega) (by omega)
  obtain ⟨un, hun⟩ : ∃ n, (P ++ bs).length % 64 = n := ⟨_, rfl⟩
  rw [hun]
  have HUN := Lib.hid hun
  clear hun
  have HK := Lib.hid hk
  have HV := Lib.hid hv
  obtain ⟨A, c, rfl, hbc, hcm⟩ := hv.1.len
  have cz := hD.size
  have fz := hD.frozen 73
  have HDS : Hid (∀ x, DgAt (w.setCell ⟨g, 73, none⟩ (.int .u64 x)) g st blk u x) := fun x => hD.setSize x
  have HOS : Hid (∀ x, Only g w (w.setCell ⟨g, 73, none⟩ (.int .u64 x))) := fun x => (Only.refl g w).set 73 _
  have HST := Lib.hid hst
  clear hD hst hk hv
  go_enter Tryd.func34, Tryd.ntmps34
  go_wp2_with fail
  go_loopw [1] (fun vv wr => ∃ (r : List UInt8) (S : List Int) (B : List UInt8) (n : Nat) (x : Int), Hid (FedTo (mixP Ks) st0 P bs r S B n) ∧ n < 64 ∧ lenV vv = r.length ∧ Hid (SlNot wr g vv r) ∧ Hid (W32L S) ∧ Hid (DgAt wr g S B n x) ∧ Hid (Only g w wr) ∧ Hid (x = z + (bs.length : Int))) (fun vv _ => lenV vv)
  case atStart => exact ⟨bs, st, blk, u, _, HF0, hu, rfl, HV.out.only (HOS.out _), HST, HDS.out _, HOS.out _, (by first | rfl | (unfold Hid; omega))⟩
  case round =>
    obtain ⟨r, S, B, n, x, HF, hn, hlen, HR, HS, HD, HO, HX⟩ := hrel
    clear HF0 hw1 hw2 hbl
    clear HDS HOS cz fz HV HST hbc hcm
    obtain ⟨A1, c1, rfl, hrc, hcm⟩ := HR.out.1.len
    have hm2 : r.length ≤ 9223372036854775807 := by unfold maxLen at hcm; omega
    have hgs1 : g < wr.heap.size := by have := HO.out.size; omega
    clear hlen
    by_cases h0 : r.length = 0
    · have hq : ¬ (0 : Int) < (r.length : Int) := by omega
      go_wp2_with fail
      go_end0
      obtain ⟨hS9, hB9, hn9⟩ := HF.out.done h0
      rw [HUN.out] at hn9
      rw [← hS9, ← hB9, ← hn9, ← HX.out]
      exact ⟨rfl, HS.out, HD.out, HO.out⟩
    · have hq : (0 : Int) < (r.length : Int) := by omega
      go_wp2_with fail
      obtain ⟨W0, hW0⟩ : ∃ v, wr.drew = v := ⟨_, rfl⟩
      have HD0 : Hid (DgAt W0 g S B n x) := by rw [← hW0]; exact HD.out
      have HO0 : Hid (Only g w W0) := by rw [← hW0]; exact HO.out.drew
      have HR0 : Hid (SlNot W0 g (.slice A1 r.length c1) r) := by rw [← hW0]; exact HR.out.only ((Only.refl g wr).drew)
      have hgs0 : g < W0.heap.size := by rw [← hW0]; exact hgs1
      have hsb := fun W => slice_blk g n hn W
      clear HD HO HR
      refine region_begin hW0 (S := fun W => Only g w W ∧ W.cell? ⟨g, 72, none⟩ = some (.int .i64 n)) (by kernel_rfl) ⟨HO0.out, HD0.out.used⟩ (fun hHeld => ?_)
      clear hW0
      refine take_at (i := 0) (.pointer (some ⟨g, 0, none⟩)) (some 18) (by decide) (by rfl) (by kernel_rfl) (by kernel_rfl) (by kernel_rfl) (fun _ _ _ h => h) (by rfl) (fun W hW => by go_simp) (by assumption) ?_
      try simp only [Act.put, List.setIfInBounds_toArray, List.set_cons_zero, List.set_cons_succ]
      refine take_at (i := 1) (.pointer (some ⟨g, 0, none⟩)) (some 19) (by decide) (by rfl) (by kernel_rfl) (by kernel_rfl) (by kernel_rfl) (fun _ _ _ h => h) (by rfl) (fun W hW => by go_simp) (by assumption) ?_
      try simp only [Act.put, List.setIfInBounds_toArray, List.set_cons_zero, List.set_cons_succ]
      refine take_at (i := 2) (.pointer (some ⟨g, 8, none⟩)) (some 20) (by decide) (by rfl) (by kernel_rfl) (by kernel_rfl) (by kernel_rfl) (fun _ _ _ h => h) (by rfl) (fun W hW => by go_simp) (by assumption) ?_
      try simp only [Act.put, List.setIfInBounds_toArray, List.set_cons_zero, List.set_cons_succ]
      refine take_at (i := 3) (.pointer (some ⟨g, 0, none⟩)) (some 21) (by decide) (by rfl) (by kernel_rfl) (by kernel_rfl) (by kernel_rfl) (fun _ _ _ h => h) (by rfl) (fun W hW => by go_simp) (by assumption) ?_
      try simp only [Act.put, List.setIfInBounds_toArray, List.set_cons_zero, List.set_cons_succ]
      refine take_at (i := 4) (.pointer (some ⟨g, 0, none⟩)) (some 22) (by decide) (by rfl) (by kernel_rfl) (by kernel_rfl) (by kernel_rfl) (fun _ _ _ h => h) (by rfl) (fun W hW => by go_simp) (by assumption) ?_
      try simp only [Act.put, List.setIfInBounds_toArray, List.set_cons_zero, List.set_cons_succ]
      refine take_at (i := 5) (.pointer (some ⟨g, 72, none⟩)) (some 23) (by decide) (by rfl) (by kernel_rfl) (by kernel_rfl) (by kernel_rfl) (fun _ _ _ h => h) (by rfl) (fun W hW => by go_simp) (by assumption) ?_
      try simp only [Act.put, List.setIfInBounds_toArray, List.set_cons_zero, List.set_cons_succ]
      refine take_at (i := 6) (.int .i64 (n : Int)) (some 24) (by decide) (by rfl) (by kernel_rfl) (by kernel_rfl) (by kernel_rfl) (fun _ _ _ h => h) (by rfl) (fun W hW => by have h9 := hW.2; go_simp) (by assumption) ?_
      try simp only [Act.put, List.setIfInBounds_toArray, List.set_cons_zero, List.set_cons_succ]
      refine take_at (i := 7) (.slice (some ⟨g, 8 + n, none⟩) (64 - n) (64 - n)) (some 25) (by decide) (by rfl) (by kernel_rfl) (by kernel_rfl) (by kernel_rfl) (fun _ _ _ h => h) (by rfl) (fun W hW => by go_simp) (by assumption) ?_
      try simp only [Act.put, List.setIfInBounds_toArray, List.set_cons_zero, List.set_cons_succ]
      refine take_at (i := 8) (.slice A1 r.length c1) (some 26) (by decide) (by rfl) (by kernel_rfl) (by kernel_rfl) (by kernel_rfl) (fun _ _ _ h => h) (by rfl) (fun W hW => by go_simp) (by assumption) ?_
      try simp only [Act.put, List.setIfInBounds_toArray, List.set_cons_zero, List.set_cons_succ]
      refine wpAnyH_ready (rs := [9]) (by kernel_rfl) (by simp) (AllReadyH.cons (Array.getElem?_eq_getElem (i := 9) (by decide)) (fun K9 hK => ?_) AllReadyH.nil)
      refine step_copy_blk rfl _ _ rfl HD0.out n hn rfl _ W0.heap.size r rfl HR0.out.1 ?_
      intro w5 hd5 hg5
      have HD5 := Lib.hid hd5
      have HO5 := Lib.hid (HO0.out.grown hg5)
      have HR5 := Lib.hid (HR0.out.only ((Only.refl g W0).grown hg5))
      have hgs5 : g < w5.heap.size := by have := hg5.size; omega
      clear hd5 hg5 HD0 HO0 HR0
      refine hK.out _ _ (⟨HO5.out, HD5.out.used⟩) (fun hHeld => ?_)
      clear hK K9
      try simp only [Act.put, List.setIfInBounds_toArray, List.set_cons_zero, List.set_cons_succ]
      obtain ⟨m, hm⟩ : ∃ m, Nat.min r.length (64 - n) = m := ⟨_, rfl⟩
      have hm1 : m ≤ r.length := by rw [← hm]; exact Nat.min_le_left _ _
      have hm3 : m ≤ 64 - n := by rw [← hm]; exact Nat.min_le_right _ _
      have hm4 : 0 < m := by rw [← hm]; exact Nat.lt_min.2 ⟨by omega, by omega⟩
      rw [hm]
      refine take_at (i := 10) (.int .i64 (m : Int)) (some 4) (by decide) (by rfl) (by kernel_rfl) (by kernel_rfl) (by kernel_rfl) (fun _ _ _ h => h) (by rfl) (fun W hW => by go_simp) (by assumption) ?_
      try simp only [Act.put, List.setIfInBounds_toArray, List.set_cons_zero, List.set_cons_succ]
      refine wpAnyH_done (by kernel_rfl) ?_ _
      try simp only [Act.put, List.setIfInBounds_toArray, List.set_cons_zero, List.set_cons_succ]
      have HFM := Lib.hid (fun h => HF.out.more hm h)
      have HFF := Lib.hid (fun h => HF.out.full hm h)
      generalize B.take n ++ r.take (64 - n) ++ B.drop (n + (r.take (64 - n)).length) = B5 at HD5 HFM HFF
      have hsf := fun W => slice_from A1 r.length c1 m hm1 hrc W
      have HR6 := Lib.hid (HR5.out.rest m hm1)
      have cu := HD5.out.used
      have fu := HD5.out.frozen 72
      have HD6 := Lib.hid (HD5.out.setUsed ((n : Int) + m))
      have HO6 := Lib.hid ((Only.refl g w5).set 72 (.int .i64 ((n : Int) + m)))
      clear hsb hm HR5
      generalize (if c1 = m then A1 else A1.map (·.add m)) = A6 at hsf HR6
      by_cases hfull : n + m = 64
      · have hq64 : ((n : Int) + (m : Int) == 64) = true := by rw [beq_iff_eq]; omega
        rw [show (n : Int) + (m : Int) = 64 by omega] at HD6 HO6
        have hk6 := HK.out.only (HO5.out.trans HO6.out) hg
        have hgs6 : g < (w5.setCell ⟨g, 72, none⟩ (.int .i64 64)).heap.size := by simp; omega
        obtain ⟨S7, hS7e⟩ : ∃ S7, mixP Ks S B5 = S7 := ⟨_, rfl⟩
        have HF7 := Lib.hid (HFF.out hfull)
        rw [hS7e] at HF7
        have HTK := Lib.hid (take_x Ks S7 g S B5 64 x _ hS7e HD6.out HS.out hk6 hg hgs6)
        clear hS7e HFM HFF HF
        have e64 : (n : Int) + (m : Int) = 64 := by omega
        clear hk6 hgs6
        go_wp2_with fail
        refine HTK.out.mono ?_
        rintro q7 w7 ⟨rfl, hS7, hd7, ho7⟩
        have HD7 := Lib.hid hd7
        have HS7 := Lib.hid hS7
        have HO7 := Lib.hid ho7
        clear hd7 hS7 ho7
        go_wp2_with fail
        go_roundw
        case rel => exact ⟨r.drop m, S7, zer 64, 0, x, HF7, by omega, by simp [lenV], (HR6.out.only HO6.out).only HO7.out, HS7, HD7, (HO5.out.trans HO6.out).trans HO7.out, HX⟩
        case measure => simp [lenV]; omega
      · have hq64 : ((n : Int) + (m : Int) == 64) = false := by rw [beq_eq_false_iff_ne]; omega
        have hnm : n + m < 64 := by omega
        have HF7 := Lib.hid (HFM.out hnm)
        clear HFM HFF HF
        go_wp2_with fail
        go_roundw
        case rel => exact ⟨r.drop m, S, B5, n + m, x, HF7, hnm, by simp [lenV], HR6.out.only HO6.out, HS, by unfold Hid; rw [Int.natCast_add]; exact HD6.out, HO5.out.trans HO6.out, HX⟩
        case measure => simp [lenV]; omega

end Go.Proofs.YtflgokbkkoobkaaDoor.Cd
