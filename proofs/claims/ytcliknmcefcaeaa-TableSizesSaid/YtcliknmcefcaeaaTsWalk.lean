/-
  TableSizes: a table's bytes are as many as the document says. Conditions: none.
-/
import Derived.Test.YtcliknmcefcaeaaTbRefBytes
import Derived.Test.YtcliknmcefcaeaaTjWalk
namespace Go.Proofs.Ytcliknmcefcaeaa.Cd
open Go.RowKit

theorem wrB_size (p : Wr) : (wrB p).length = 1 + ((enc p.1.length).length + p.1.length) + ((enc p.2.1.length).length + p.2.1.length) := by
  unfold wrB
  rw [enc_gone]
  simp
  omega

set_option maxRecDepth 100000 in
set_option maxHeartbeats 1600000 in
theorem sized_any (v : Value) (l : List Wr) (w : World) (h : TbIn w w.heap.size v l) (hs : sumW l ≤ 1048576) :
    Calls Try.prog 31 #[v] w fun e w' => e = .returned (.int .i64 ((bytesW (ofW l)).length : Nat)) ∧ Below w.heap.size w w' := by
  have hNl := Nat.le_trans (sumW_len l) hs
  have CO := Lib.hid (rof_any v l w h (by omega))
  have hso := Nat.le_trans (sumW_of l) hs
  obtain ⟨T, hT⟩ : ∃ T, ofW l = T := ⟨_, rfl⟩
  rw [hT] at CO hso ⊢
  obtain ⟨A0, c0, rfl, _, _⟩ := h.len
  have hTl := Nat.le_trans (sumW_len T) hso
  have hkl := fun k => recK10_len T k hso
  have hu := ref_uint_int (T.length : Int)
  have hsum := Lib.hid hso
  have HKL := Lib.hid hkl
  clear h hs hNl hT hkl hso
  go_enter Try.func31, Try.ntmps31
  go_wp2_with fail
  refine CO.out.mono ?_
  rintro e w1 ⟨v1, rfl, ho, hb⟩
  obtain ⟨A1, c1, rfl, hc1, hc2⟩ := ho.tbIn.len
  have HL := Lib.hid ho.tbIn
  have HB := Lib.hid hb
  clear CO ho hb
  have CU := hu w1 (by omega) (by omega)
  rw [Int.toNat_natCast, show enc T.length = recK10 T 0 by simp [recK10]] at CU
  have CU := Lib.hid CU
  have hwr : IntKind.u64.wrap (T.length : Int) = T.length := by simp [IntKind.wrap, IntKind.bits, IntKind.signed]; omega
  have hk0 := HKL.out 0
  clear hu
  go_wp2_with fail
  refine CU.out.mono ?_
  rintro e w2 ⟨rfl, hb⟩
  replace HL := Lib.hid (HL.out.up hb)
  replace HB := Lib.hid (HB.out.trans (hb.mono HB.out.size))
  clear CU hb hwr
  go_wp2_with fail
  go_loopw [4, 16] (fun s i wr => ∃ (k : Nat), i = .int .i64 k ∧ k ≤ T.length ∧ s = .int .i64 ((recK10 T k).length : Nat) ∧ Hid (Below w.heap.size w wr) ∧ Hid (TbIn wr wr.heap.size (.slice A1 T.length c1) T)) (fun _ i _ => T.length - (intOf i).toNat)
  case atStart => exact ⟨0, rfl, by omega, rfl, HB.out, HL.out⟩
  case round =>
    clear HL HB
    obtain ⟨k, rfl, hk, rfl, hbl, hL⟩ := hrel
    have hbz := hbl.out.size
    by_cases hlt : k < T.length
    · obtain ⟨p, hpk⟩ : ∃ p, T[k]? = some p := ⟨T[k], List.getElem?_eq_getElem hlt⟩
      obtain ⟨b2, off2, e2, hB2, d0, d1, d2⟩ := hL.out.at hpk
      subst e2
      have hpm := sumW_mem (List.mem_of_getElem? hpk)
      have hsm := hsum.out
      have hp1 : p.1.length ≤ 1048576 := by omega
      have hp2 : p.2.1.length ≤ 1048576 := by omega
      have hrs := recK10_succ hpk
      have hr1 := HKL.out k
      have hsz := wrB_size p
      have hk1 := enc_u64 p.1.length (by omega)
      have hv1 := enc_u64 p.2.1.length (by omega)
      obtain ⟨pk, pv, pg⟩ := p
      dsimp only at d0 d1 d2 hp1 hp2 hrs hsz hk1 hv1
      obtain ⟨r, hr⟩ : ∃ x, (recK10 T k).length = x := ⟨_, rfl⟩
      obtain ⟨tk, htk⟩ : ∃ x, enc pk.length ++ pk = x := ⟨_, rfl⟩
      obtain ⟨tv, htv⟩ : ∃ x, enc pv.length ++ pv = x := ⟨_, rfl⟩
      have l2 : tk.length = (enc pk.length).length + pk.length := by rw [← htk, List.length_append]
      have l3 : tv.length = (enc pv.length).length + pv.length := by rw [← htv, List.length_append]
      have HK1 : Hid ((recK10 T (k + 1)).length = r + (1 + tk.length + tv.length)) := by
        unfold Hid
        rw [hrs, List.length_append, hr, hsz, l2, l3]
      rw [hr] at hr1 ⊢
      have HRK := Lib.hid (fun W => ref_text_of pk W (by omega))
      have HRV := Lib.hid (fun W => ref_text_of pv W (by omega))
      rw [htk] at HRK
      rw [htv] at HRV
      have w1 : IntKind.i64.wrap (1 + (tk.length : Int)) = 1 + (tk.length : Int) := by rw [IntKind.wrap_i64]; omega
      have w2 : IntKind.i64.wrap (1 + (tk.length : Int) + (tv.length : Int)) = 1 + (tk.length : Int) + (tv.length : Int) := by rw [IntKind.wrap_i64]; omega
      have w3 : IntKind.i64.wrap ((r : Int) + (1 + (tk.length : Int) + (tv.length : Int))) = (r : Int) + (1 + (tk.length : Int) + (tv.length : Int)) := by rw [IntKind.wrap_i64]; omega
      have hpw : wr.heap.size < (wr.alloc (.cells #[.string ⟨pk.toArray⟩, .string ⟨pv.toArray⟩, .bool pg] 29)).heap.size := by simp
      have hrw3 := heap_alloc_new wr (.cells #[.string ⟨pk.toArray⟩, .string ⟨pv.toArray⟩, .bool pg] 29)
      have HB3 : Hid (Below w.heap.size w (wr.alloc (.cells #[.string ⟨pk.toArray⟩, .string ⟨pv.toArray⟩, .bool pg] 29))) := hbl.out.alloc hbz _
      have HL3 := Lib.hid (hL.out.up ((Below.refl _ _).alloc (Nat.le_refl _) (.cells #[.string ⟨pk.toArray⟩, .string ⟨pv.toArray⟩, .bool pg] 29)))
      have HR3 := Lib.hid hrw3
      clear hpk hpm hsm hr htk htv hrw3 hk1 hv1 l2 l3 hrs hr1 hp1 hp2 hL hsz
      go_wp2_with fail
      generalize wr.alloc (.cells #[.string ⟨pk.toArray⟩, .string ⟨pv.toArray⟩, .bool pg] 29) = w3 at *
      generalize wr.heap.size = pb at *
      have c0 : w3.cell? ⟨pb, 0, none⟩ = some (.string ⟨pk.toArray⟩) := cell_of_row _ pb 0 _ _ _ HR3.out
      have c1 : w3.cell? ⟨pb, 1, none⟩ = some (.string ⟨pv.toArray⟩) := cell_of_row _ pb 1 _ _ _ HR3.out
      clear hbl d0 d1 d2
      (go_region_held3 (fun W => W.cell? ⟨pb, 0, none⟩ = some (.string ⟨pk.toArray⟩) ∧ W.cell? ⟨pb, 1, none⟩ = some (.string ⟨pv.toArray⟩)) (first | exact hS4 | exact hS3 | exact ⟨c0, c1⟩ | assumption) (first
        | (go_at_call 41; (with_reducible refine (HRK.out _).mono ?_); rintro e w4 ⟨rfl, hb4⟩; have hb4 : Below w3.heap.size w3 w4 := (Below.refl _ _).drew.trans hb4; have hS3 : w4.cell? ⟨pb, 0, none⟩ = some (.string ⟨pk.toArray⟩) ∧ w4.cell? ⟨pb, 1, none⟩ = some (.string ⟨pv.toArray⟩) := ⟨(hb4.cell (p := ⟨pb, 0, none⟩) hpw).trans c0, (hb4.cell (p := ⟨pb, 1, none⟩) hpw).trans c1⟩; have HB4 := Lib.hid hb4; clear hb4)
        | (go_at_call 41; (with_reducible refine (HRV.out _).mono ?_); rintro e w5 ⟨rfl, hb5⟩; have hb5 : Below w3.heap.size w3 w5 := HB4.out.trans (hb5.mono HB4.out.size); have hS4 : w5.cell? ⟨pb, 0, none⟩ = some (.string ⟨pk.toArray⟩) ∧ w5.cell? ⟨pb, 1, none⟩ = some (.string ⟨pv.toArray⟩) := ⟨(hb5.cell (p := ⟨pb, 0, none⟩) hpw).trans c0, (hb5.cell (p := ⟨pb, 1, none⟩) hpw).trans c1⟩; have HB5 := Lib.hid hb5; clear hb5)))
      all_goals go_wp2_with fail
      all_goals go_roundw
      all_goals first
        | (case rel => exact ⟨k + 1, by go_num, by omega, by rw [HK1.out]; simp, HB3.out.trans (HB5.out.mono HB3.out.size), HL3.out.up HB5.out⟩)
        | skip
      all_goals simp [intOf]
      all_goals omega
    · have hd : recK10 T k = recW T := recK10_all (by omega)
      have hfl := frm_len (recW T)
      have hrl := recW_len T hsum.out
      rw [hd]
      have heu := enc_u64 (recW T).length (by omega)
      have CU := ref_uint_int ((recW T).length : Int) wr (by omega) (by omega)
      rw [Int.toNat_natCast] at CU
      have CU := Lib.hid CU
      have hwr : IntKind.u64.wrap ((recW T).length : Int) = (recW T).length := by simp [IntKind.wrap, IntKind.bits, IntKind.signed]; omega
      obtain ⟨n, hn⟩ : ∃ x, (recW T).length = x := ⟨_, rfl⟩
      obtain ⟨m, hm⟩ : ∃ x, (enc n).length = x := ⟨_, rfl⟩
      have HF : Hid ((bytesW T).length = m + n + 4) := by unfold Hid bytesW; rw [hfl, hn, hm]
      rw [hn] at CU hwr heu hrl ⊢
      rw [hm] at heu
      have w1 : IntKind.i64.wrap ((m : Int) + (n : Int)) = (m : Int) + n := by rw [IntKind.wrap_i64]; omega
      have w2 : IntKind.i64.wrap ((m : Int) + (n : Int) + 4) = (m : Int) + n + 4 := by rw [IntKind.wrap_i64]; omega
      clear hd hfl hn
      go_wp2_with fail
      refine CU.out.mono ?_
      rintro e w4 ⟨rfl, hb4⟩
      have HB4 := Lib.hid (hbl.out.trans (hb4.mono hbz))
      have hm2 : (enc n).length = m := hm
      clear CU hb4 hwr hbl
      go_wp2_with fail
      go_ret
      refine ⟨?_, HB4.out⟩
      rw [HF.out]
      simp

set_option maxRecDepth 100000 in
set_option maxHeartbeats 3200000 in
theorem ts_main (va : Value) (l : List Wr) (w : World) (ha : TbIn w w.heap.size va l) (Fl : FitW l) :
    Calls Try.prog 9 #[va] w (Gives (.bool true) w) := by
  obtain ⟨A0, c0, rfl, hl1, hl2⟩ := ha.len
  have Ha := Lib.hid ha
  have HB : Hid (Below w.heap.size w w) := Below.refl _ _
  clear ha
  go_enter Try.func9, Try.ntmps9
  have CA := Lib.hid (alive10 w)
  go_wp2_with fail
  refine CA.out.mono ?_
  rintro e w1 ⟨rfl, hb⟩
  clear CA
  replace Ha := Lib.hid (Ha.out.up hb)
  replace HB := Lib.hid (HB.out.trans (hb.mono HB.out.size))
  clear hb
  have CG := Lib.hid (great10_any _ _ 4096 w1 Ha.out Fl (by omega))
  go_wp2_with fail
  refine CG.out.mono ?_
  rintro e w2 ⟨gr, rfl, hb, hg⟩
  clear CG
  replace Ha := Lib.hid (Ha.out.up hb)
  replace HB := Lib.hid (HB.out.trans (hb.mono HB.out.size))
  clear hb
  cases gr
  case true =>
    clear hg
    go_wp2_with fail
    go_ret
    exact ⟨rfl, HB.out⟩
  have hsl := hg rfl
  have hMl := Nat.le_trans (sumW_len l) hsl
  have hso := Nat.le_trans (sumW_of l) hsl
  clear hg
  have CS := Lib.hid (sized_any _ l w2 Ha.out (by omega))
  go_wp2_with fail
  refine CS.out.mono ?_
  rintro e w3 ⟨rfl, hb⟩
  replace Ha := Lib.hid (Ha.out.up hb)
  replace HB := Lib.hid (HB.out.trans (hb.mono HB.out.size))
  clear CS hb
  have CO := Lib.hid (tof_any _ l w3 Ha.out Fl (by omega))
  go_wp2_with fail
  refine CO.out.mono ?_
  intro e w4 h1
  obtain ⟨v1, rfl, ⟨g, rfl⟩, ht, hb⟩ := h1.tab
  obtain ⟨T, eT⟩ : ∃ res, ofW l = res := ⟨_, rfl⟩
  rw [eT] at ht hso ⊢
  have CB := Lib.hid (tbytes_any _ T w4 ht (by omega))
  replace HB := Lib.hid (HB.out.trans (hb.mono HB.out.size))
  clear CO hb ht h1 eT Ha
  go_wp2_with fail
  refine CB.out.mono ?_
  rintro e w5 ⟨v5, rfl, ho, hb⟩
  obtain ⟨A5, c5, rfl, _, _⟩ := ho.sl.len
  replace HB := Lib.hid (HB.out.trans (hb.mono HB.out.size))
  clear CB hb ho
  go_wp2_with fail
  go_ret
  exact ⟨rfl, HB.out⟩

end Go.Proofs.Ytcliknmcefcaeaa.Cd

namespace Go.Proofs.Ytcliknmcefcaeaa.TableSizes
open Go.RowKit Go.Proofs.Ytcliknmcefcaeaa.Cd

theorem walk (va : Value) (l : List Wr) (w : World) (ha : Cd.TbIn w w.heap.size va l ∧ FitW l) :
    Calls Try.prog 9 #[va] w (Gives (.bool true) w) := ts_main va l w ha.1 ha.2

end Go.Proofs.Ytcliknmcefcaeaa.TableSizes
