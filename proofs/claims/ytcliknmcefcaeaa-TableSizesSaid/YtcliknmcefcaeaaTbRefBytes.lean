/-
  The document's bytes of a table. Conditions: not too many.
-/
import Derived.Test.YtcliknmcefcaeaaTbBytes
import Derived.Test.YtcliknmcefcaeaaRefWriters
namespace Go.Proofs.Ytcliknmcefcaeaa.Cd
open Go.RowKit

theorem enc_gone (g : Bool) : enc (goneB g) = [if g then 1 else 0] := by
  cases g <;> simp [enc, lo8, goneB]

set_option maxRecDepth 100000 in
set_option maxHeartbeats 6400000 in
theorem rbytes_any (v : Value) (T : List Wr) (w : World) (h : TbIn w w.heap.size v T) (hs : sumW T ≤ 1048576) :
    Calls Try.prog 18 #[v] w (Said w (bytesW T)) := by
  obtain ⟨A, c, rfl, hc1, hc2⟩ := h.len
  have hTl := sumW_len T
  have HL := Lib.hid h
  have hwr : IntKind.u64.wrap (T.length : Int) = T.length := by simp [IntKind.wrap, IntKind.bits, IntKind.signed]; omega
  have CU := ref_uint_int (T.length : Int) w (by omega) (by omega)
  rw [Int.toNat_natCast, show enc T.length = recK10 T 0 by simp [recK10]] at CU
  have CU := Lib.hid CU
  have hkl : ∀ j, (recK10 T j).length ≤ 31457290 := fun j => recK10_len T j hs
  have HKL := Lib.hid hkl
  have hsum := Lib.hid hs
  have hrl := recW_len T hs
  have CF := Lib.hid (fun W => rframe_any (recW T) W (by omega))
  clear h hkl hs hrl
  go_enter Try.func18, Try.ntmps18
  go_wp2_with (go_at_call 40; refine CU.out.mono ?_; rintro e w1 ⟨rfl, hb⟩; have HB := Lib.hid hb; clear hb)
  clear CU hwr
  go_loopw [3, 12] (fun s i wr => ∃ (k : Nat), i = .int .i64 k ∧ k ≤ T.length ∧ s = .string ⟨(recK10 T k).toArray⟩ ∧ Hid (Below w.heap.size w wr)) (fun _ i _ => T.length - (intOf i).toNat)
  case atStart => exact ⟨0, rfl, by omega, rfl, HB.out⟩
  case round =>
    obtain ⟨k, rfl, hk, rfl, hbl⟩ := hrel
    have hbz := hbl.out.size
    by_cases hlt : k < T.length
    · obtain ⟨p, hpk⟩ : ∃ p, T[k]? = some p := ⟨T[k], List.getElem?_eq_getElem hlt⟩
      obtain ⟨b2, off2, e2, hB2, d0, d1, d2⟩ := (HL.out.below hbl.out).at hpk
      subst e2
      have hpm := sumW_mem (List.mem_of_getElem? hpk)
      have hsm := hsum.out
      have hp1 : p.1.length ≤ 1048576 := by omega
      have hp2 : p.2.1.length ≤ 1048576 := by omega
      have hrs := recK10_succ hpk
      have hr1 := HKL.out k
      obtain ⟨pk, pv, pg⟩ := p
      dsimp only at d0 d1 d2 hp1 hp2 hrs
      have hk1 := enc_u64 pk.length (by omega)
      have hv1 := enc_u64 pv.length (by omega)
      obtain ⟨r, hr⟩ : ∃ x, recK10 T k = x := ⟨_, rfl⟩
      obtain ⟨r1, hr1e⟩ : ∃ x, r ++ [if pg then (1 : UInt8) else 0] = x := ⟨_, rfl⟩
      obtain ⟨tk, htk⟩ : ∃ x, enc pk.length ++ pk = x := ⟨_, rfl⟩
      obtain ⟨r2, hr2⟩ : ∃ x, r1 ++ tk = x := ⟨_, rfl⟩
      obtain ⟨tv, htv⟩ : ∃ x, enc pv.length ++ pv = x := ⟨_, rfl⟩
      obtain ⟨r3, hr3⟩ : ∃ x, r2 ++ tv = x := ⟨_, rfl⟩
      have HK1 : Hid (recK10 T (k + 1) = r3) := by
        unfold Hid
        rw [hrs, hr, ← hr3, ← hr2, ← hr1e, ← htk, ← htv]
        unfold wrB
        dsimp only
        rw [enc_gone]
        simp
      rw [hr] at hr1 ⊢
      have l1 : r1.length = r.length + 1 := by rw [← hr1e, List.length_append]; rfl
      have l2 : tk.length = (enc pk.length).length + pk.length := by rw [← htk, List.length_append]
      have l3 : tv.length = (enc pv.length).length + pv.length := by rw [← htv, List.length_append]
      have l4 : r2.length = r1.length + tk.length := by rw [← hr2, List.length_append]
      have ha0 := fun W => add_text W r [if pg then (1 : UInt8) else 0] (by simp; omega)
      have ha1 := fun W => add_text W r1 tk (by omega)
      have ha2 := fun W => add_text W r2 tv (by omega)
      rw [hr1e] at ha0
      rw [hr2] at ha1
      rw [hr3] at ha2
      have HRK := Lib.hid (fun W => ref_text_of pk W (by omega))
      have HRV := Lib.hid (fun W => ref_text_of pv W (by omega))
      rw [htk] at HRK
      rw [htv] at HRV
      have hpw : wr.heap.size < (wr.alloc (.cells #[.string ⟨pk.toArray⟩, .string ⟨pv.toArray⟩, .bool pg] 29)).heap.size := by simp
      have hrw3 := heap_alloc_new wr (.cells #[.string ⟨pk.toArray⟩, .string ⟨pv.toArray⟩, .bool pg] 29)
      have HB3 : Hid (Below w.heap.size w (wr.alloc (.cells #[.string ⟨pk.toArray⟩, .string ⟨pv.toArray⟩, .bool pg] 29))) := hbl.out.alloc hbz _
      have HR3 := Lib.hid hrw3
      clear hpk hpm hsm hr hr1e htk hr2 htv hr3 hrw3 hk1 hv1 l1 l2 l3 l4 hrs hr1 hp1 hp2
      cases pg
      case false =>
        simp only [Bool.false_eq_true, if_false] at ha0
        go_wp2_with fail
        generalize wr.alloc (.cells #[.string ⟨pk.toArray⟩, .string ⟨pv.toArray⟩, .bool false] 29) = w3 at *
        generalize wr.heap.size = pb at *
        have c0 : w3.cell? ⟨pb, 0, none⟩ = some (.string ⟨pk.toArray⟩) := cell_of_row _ pb 0 _ _ _ HR3.out
        have c1 : w3.cell? ⟨pb, 1, none⟩ = some (.string ⟨pv.toArray⟩) := cell_of_row _ pb 1 _ _ _ HR3.out
        clear hbl d0 d1 d2
        (go_region_held3 (fun W => W.cell? ⟨pb, 0, none⟩ = some (.string ⟨pk.toArray⟩) ∧ W.cell? ⟨pb, 1, none⟩ = some (.string ⟨pv.toArray⟩)) (first | exact hS4 | exact hS3 | exact ⟨c0, c1⟩ | assumption) (first
          | (go_at_call 41; (with_reducible refine (HRK.out _).mono ?_); rintro e w4 ⟨rfl, hb4⟩; have hb4 : Below w3.heap.size w3 w4 := (Below.refl _ _).drew.trans hb4; have hS3 : w4.cell? ⟨pb, 0, none⟩ = some (.string ⟨pk.toArray⟩) ∧ w4.cell? ⟨pb, 1, none⟩ = some (.string ⟨pv.toArray⟩) := ⟨(hb4.cell (p := ⟨pb, 0, none⟩) hpw).trans c0, (hb4.cell (p := ⟨pb, 1, none⟩) hpw).trans c1⟩; have HB4 := Lib.hid hb4; clear hb4)
          | (go_at_call 41; (with_reducible refine (HRV.out _).mono ?_); rintro e w5 ⟨rfl, hb5⟩; have hb5 : Below w3.heap.size w3 w5 := HB4.out.trans (hb5.mono HB4.out.size); have hS4 : w5.cell? ⟨pb, 0, none⟩ = some (.string ⟨pk.toArray⟩) ∧ w5.cell? ⟨pb, 1, none⟩ = some (.string ⟨pv.toArray⟩) := ⟨(hb5.cell (p := ⟨pb, 0, none⟩) hpw).trans c0, (hb5.cell (p := ⟨pb, 1, none⟩) hpw).trans c1⟩; have HB5 := Lib.hid hb5; clear hb5)))
        all_goals go_wp2_with fail
        all_goals go_roundw
        all_goals first
          | (case rel => exact ⟨k + 1, by go_num, by omega, by rw [HK1.out], HB3.out.trans (HB5.out.mono HB3.out.size)⟩)
          | skip
        all_goals simp [intOf]
        all_goals omega
      case true =>
        simp only [if_true] at ha0
        go_wp2_with fail
        generalize wr.alloc (.cells #[.string ⟨pk.toArray⟩, .string ⟨pv.toArray⟩, .bool true] 29) = w3 at *
        generalize wr.heap.size = pb at *
        have c0 : w3.cell? ⟨pb, 0, none⟩ = some (.string ⟨pk.toArray⟩) := cell_of_row _ pb 0 _ _ _ HR3.out
        have c1 : w3.cell? ⟨pb, 1, none⟩ = some (.string ⟨pv.toArray⟩) := cell_of_row _ pb 1 _ _ _ HR3.out
        clear hbl d0 d1 d2
        (go_region_held3 (fun W => W.cell? ⟨pb, 0, none⟩ = some (.string ⟨pk.toArray⟩) ∧ W.cell? ⟨pb, 1, none⟩ = some (.string ⟨pv.toArray⟩)) (first | exact hS4 | exact hS3 | exact ⟨c0, c1⟩ | assumption) (first
          | (go_at_call 41; (with_reducible refine (HRK.out _).mono ?_); rintro e w4 ⟨rfl, hb4⟩; have hb4 : Below w3.heap.size w3 w4 := (Below.refl _ _).drew.trans hb4; have hS3 : w4.cell? ⟨pb, 0, none⟩ = some (.string ⟨pk.toArray⟩) ∧ w4.cell? ⟨pb, 1, none⟩ = some (.string ⟨pv.toArray⟩) := ⟨(hb4.cell (p := ⟨pb, 0, none⟩) hpw).trans c0, (hb4.cell (p := ⟨pb, 1, none⟩) hpw).trans c1⟩; have HB4 := Lib.hid hb4; clear hb4)
          | (go_at_call 41; (with_reducible refine (HRV.out _).mono ?_); rintro e w5 ⟨rfl, hb5⟩; have hb5 : Below w3.heap.size w3 w5 := HB4.out.trans (hb5.mono HB4.out.size); have hS4 : w5.cell? ⟨pb, 0, none⟩ = some (.string ⟨pk.toArray⟩) ∧ w5.cell? ⟨pb, 1, none⟩ = some (.string ⟨pv.toArray⟩) := ⟨(hb5.cell (p := ⟨pb, 0, none⟩) hpw).trans c0, (hb5.cell (p := ⟨pb, 1, none⟩) hpw).trans c1⟩; have HB5 := Lib.hid hb5; clear hb5)))
        all_goals go_wp2_with fail
        all_goals go_roundw
        all_goals first
          | (case rel => exact ⟨k + 1, by go_num, by omega, by rw [HK1.out], HB3.out.trans (HB5.out.mono HB3.out.size)⟩)
          | skip
        all_goals simp [intOf]
        all_goals omega
    · have hd : Hid (recK10 T k = recW T) := recK10_all (by omega)
      rw [hd.out]
      go_wp2_with fail
      refine (CF.out _).mono ?_
      rintro e w5 ⟨rfl, hb5⟩
      have HB5 := Lib.hid (hbl.out.trans (hb5.mono hbz))
      clear hb5
      go_wp2_with fail
      go_ret
      exact ⟨rfl, HB5.out⟩

end Go.Proofs.Ytcliknmcefcaeaa.Cd
