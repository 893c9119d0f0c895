/-
  A table's bytes: the program's and the document's. Conditions: not too many.
-/
import Derived.Test.YtcliknmcefcaeaaTbNew
import Derived.Test.YtcliknmcefcaeaaPut
import Derived.Test.YtcliknmcefcaeaaFrameSum
import Derived.Deep.RegionHeld3
namespace Go.Proofs.Ytcliknmcefcaeaa.Cd
open Go.RowKit

def goneB (g : Bool) : Nat := if g then 1 else 0
/-- A write's bytes. -/
def wrB (p : Wr) : List UInt8 := (enc (goneB p.2.2) ++ (enc p.1.length ++ p.1)) ++ (enc p.2.1.length ++ p.2.1)
/-- What a table's bytes are the record of; of its first k writes alone. -/
def recW (T : List Wr) : List UInt8 := enc T.length ++ (T.map wrB).flatten
def recK10 (T : List Wr) (k : Nat) : List UInt8 := enc T.length ++ ((T.take k).map wrB).flatten
theorem recK10_succ {T : List Wr} {k : Nat} {p : Wr} (h : T[k]? = some p) : recK10 T (k + 1) = recK10 T k ++ wrB p := by
  obtain ⟨hk, rfl⟩ := List.getElem?_eq_some_iff.1 h
  unfold recK10
  rw [List.take_succ_eq_append_getElem hk, List.map_append, List.flatten_append, ← List.append_assoc]
  simp
theorem recK10_all {T : List Wr} {k : Nat} (h : T.length ≤ k) : recK10 T k = recW T := by
  unfold recK10 recW
  rw [List.take_of_length_le h]
theorem goneB_lt (g : Bool) : goneB g < 128 := by cases g <;> simp [goneB]
theorem wrB_len (p : Wr) (h1 : p.1.length < 18446744073709551616) (h2 : p.2.1.length < 18446744073709551616) : 1 ≤ (wrB p).length ∧ (wrB p).length ≤ 30 + p.1.length + p.2.1.length := by
  have e0 := enc_u64 (goneB p.2.2) (by have := goneB_lt p.2.2; omega)
  have e1 := enc_u64 p.1.length h1
  have e2 := enc_u64 p.2.1.length h2
  have e3 := enc_pos (goneB p.2.2)
  unfold wrB
  simp only [List.length_append]
  omega
theorem sumW_cons (p : Wr) (r : List Wr) : sumW (p :: r) = (1 + p.1.length + p.2.1.length) + sumW r := by simp [sumW]
theorem recW_flat (T : List Wr) (h : sumW T ≤ 1048576) : ((T.map wrB).flatten).length ≤ 30 * sumW T := by
  induction T with
  | nil => simp
  | cons p r ih =>
    rw [sumW_cons] at h ⊢
    have h1 := ih (by omega)
    have h2 := (wrB_len p (by omega) (by omega)).2
    rw [List.map_cons, List.flatten_cons, List.length_append]
    omega
theorem sumW_take (T : List Wr) (k : Nat) : sumW (T.take k) ≤ sumW T := by
  induction T generalizing k with
  | nil => simp
  | cons p r ih =>
    cases k with
    | zero => simp [sumW]
    | succ k =>
      rw [List.take_succ_cons, sumW_cons, sumW_cons]
      have := ih k
      omega
theorem recK10_len (T : List Wr) (k : Nat) (h : sumW T ≤ 1048576) : (recK10 T k).length ≤ 31457290 := by
  have h1 := recW_flat (T.take k) (Nat.le_trans (sumW_take T k) h)
  have h2 := sumW_take T k
  have h3 := enc_u64 T.length (by have := sumW_len T; omega)
  unfold recK10
  rw [List.length_append]
  omega
theorem recW_len (T : List Wr) (h : sumW T ≤ 1048576) : (recW T).length ≤ 31457290 := by
  have := recK10_len T T.length h
  rwa [recK10_all (Nat.le_refl _)] at this
theorem sumW_flat (p : Wr) (r : List Wr) : sumW (flatG p :: r) ≤ sumW (p :: r) := by
  rw [sumW_cons, sumW_cons, flatG_key]
  have : (flatG p).2.1.length ≤ p.2.1.length := by unfold flatG; split <;> simp
  omega
theorem sumW_filter (t : List Wr) (f : Wr → Bool) : sumW (t.filter f) ≤ sumW t := by
  induction t with
  | nil => simp
  | cons p r ih =>
    rw [List.filter_cons]
    split
    · rw [sumW_cons, sumW_cons]; omega
    · rw [sumW_cons]; omega
theorem sumW_ins (t : List Wr) (p : Wr) : sumW (insW t p) ≤ sumW (p :: t) := by
  induction t with
  | nil => exact Nat.le_refl _
  | cons x r ih =>
    unfold insW
    split
    · rw [sumW_cons, sumW_cons, sumW_cons]
      rw [sumW_cons] at ih
      omega
    · rw [sumW_cons, sumW_cons]
      have := sumW_filter (x :: r) (fun y => y.1 != p.1)
      omega
theorem sumW_of (l : List Wr) : sumW (ofW l) ≤ sumW l := by
  have : ∀ t : List Wr, sumW (ofFrom t l) ≤ sumW t + sumW l := by
    induction l with
    | nil => intro t; simp [ofFrom, sumW]
    | cons p r ih =>
      intro t
      have h1 := ih (insW t (flatG p))
      have h2 := sumW_ins t (flatG p)
      have h3 := sumW_flat p t
      rw [sumW_cons] at h2 h3
      show sumW (ofFrom (insW t (flatG p)) r) ≤ _
      rw [sumW_cons] at h3 ⊢
      omega
  have h := this []
  simpa [ofW, sumW] using h

theorem nil_sl10 (w : World) (B : Nat) : Sl w B (.slice none 0 0) [] := ⟨none, 0, rfl, Nat.le_refl _, by decide, fun _ => rfl, (fun _ h => by cases h), (fun _ h => by cases h)⟩

set_option maxRecDepth 100000 in
set_option maxHeartbeats 3200000 in
theorem bytesOf_any (p : Wr) (w : World) (h1 : p.1.length ≤ 1048576) (h2 : p.2.1.length ≤ 1048576) :
    Calls Try.prog 73 #[.agg #[.string ⟨p.1.toArray⟩, .string ⟨p.2.1.toArray⟩, .bool p.2.2]] w (Wrote w (wrB p)) := by
  obtain ⟨b1, hb1⟩ : ∃ x, enc (goneB p.2.2) = x := ⟨_, rfl⟩
  obtain ⟨b2, hb2⟩ : ∃ x, b1 ++ (enc p.1.length ++ p.1) = x := ⟨_, rfl⟩
  have hwb : Hid (wrB p = b2 ++ (enc p.2.1.length ++ p.2.1)) := by unfold Hid wrB; rw [hb1, hb2]
  have l1 : b1.length ≤ 10 := by rw [← hb1]; exact enc_u64 _ (by have := goneB_lt p.2.2; omega)
  have l2 : b2.length ≤ 1048596 := by
    have := enc_u64 p.1.length (by omega)
    rw [← hb2, List.length_append, List.length_append]
    omega
  obtain ⟨W1, hW1⟩ : ∃ x, w.alloc (.cells #[.string ⟨p.1.toArray⟩, .string ⟨p.2.1.toArray⟩, .bool p.2.2] 29) = x := ⟨_, rfl⟩
  have hbw : Below w.heap.size w W1 := by rw [← hW1]; exact (Below.refl _ _).alloc (Nat.le_refl _) _
  have hrw : W1.heap[w.heap.size]? = some (.cells #[.string ⟨p.1.toArray⟩, .string ⟨p.2.1.toArray⟩, .bool p.2.2] 29) := by rw [← hW1]; exact heap_alloc_new _ _
  have hz : w.heap.size < W1.heap.size := by rw [← hW1]; simp
  have c0 := cell_of_row _ _ 0 _ _ _ hrw
  have c1 := cell_of_row _ _ 1 _ _ _ hrw
  have c2 := cell_of_row _ _ 2 _ _ _ hrw
  have HB := Lib.hid hbw
  have C1 := Lib.hid (fun W => uint_any (.slice none 0 0) [] (goneB p.2.2) W (nil_sl10 _ _) (by have := goneB_lt p.2.2; omega) (by simp))
  rw [show ([] : List UInt8) ++ enc (goneB p.2.2) = b1 from hb1] at C1
  have C2 : Hid (∀ v W, Sl W W.heap.size v b1 → Calls Try.prog 70 #[v, .string ⟨p.1.toArray⟩] W (Wrote W b2)) := fun v W h => by rw [← hb2]; exact text_of v b1 p.1 W h (by omega)
  have C3 : Hid (∀ v W, Sl W W.heap.size v b2 → Calls Try.prog 70 #[v, .string ⟨p.2.1.toArray⟩] W (Wrote W (wrB p))) := fun v W h => by rw [hwb.out]; exact text_of v b2 p.2.1 W h (by omega)
  clear hbw hrw hb1 hb2 hwb l1 l2
  go_enter Try.func73, Try.ntmps73
  obtain ⟨key, val, gone⟩ := p
  cases gone
  all_goals dsimp only at *
  all_goals go_wp2_with fail
  all_goals clear hW1 c2
  all_goals
    go_region_held3 (fun W => W.cell? ⟨w.heap.size, 0, none⟩ = some (.string ⟨key.toArray⟩) ∧ W.cell? ⟨w.heap.size, 1, none⟩ = some (.string ⟨val.toArray⟩)) (first | exact ⟨c0, c1⟩ | exact hS2 | exact hS3 | exact hS4 | assumption) (first
      | (go_at_call 72
         refine (C1.out _).mono ?_
         rintro e w2 ⟨v2, rfl, ho2, hb2⟩
         have hb2 : Below W1.heap.size W1 w2 := (Below.refl _ _).drew.trans hb2
         have hS2 : w2.cell? ⟨w.heap.size, 0, none⟩ = some (.string ⟨key.toArray⟩) ∧ w2.cell? ⟨w.heap.size, 1, none⟩ = some (.string ⟨val.toArray⟩) := ⟨(hb2.cell (p := ⟨w.heap.size, 0, none⟩) hz).trans c0, (hb2.cell (p := ⟨w.heap.size, 1, none⟩) hz).trans c1⟩
         have HB2 := Lib.hid hb2
         have S2 := ho2.sl
         have C2a := Lib.hid (C2.out v2 w2 S2)
         clear ho2 hb2 S2)
      | (go_at_call 70
         (with_reducible refine C2a.out.mono ?_)
         rintro e w3 ⟨v3, rfl, ho3, hb3⟩
         have hb3 : Below W1.heap.size W1 w3 := HB2.out.trans (hb3.mono HB2.out.size)
         have hS3 : w3.cell? ⟨w.heap.size, 0, none⟩ = some (.string ⟨key.toArray⟩) ∧ w3.cell? ⟨w.heap.size, 1, none⟩ = some (.string ⟨val.toArray⟩) := ⟨(hb3.cell (p := ⟨w.heap.size, 0, none⟩) hz).trans c0, (hb3.cell (p := ⟨w.heap.size, 1, none⟩) hz).trans c1⟩
         have HB3 := Lib.hid hb3
         have S3 := ho3.sl
         have C3a := Lib.hid (C3.out v3 w3 S3)
         clear ho3 hb3 S3)
      | (go_at_call 70
         (with_reducible refine C3a.out.mono ?_)
         rintro e w4 ⟨v4, rfl, ho4, hb4⟩
         have hb4 : Below W1.heap.size W1 w4 := HB3.out.trans (hb4.mono HB3.out.size)
         have hS4 : w4.cell? ⟨w.heap.size, 0, none⟩ = some (.string ⟨key.toArray⟩) ∧ w4.cell? ⟨w.heap.size, 1, none⟩ = some (.string ⟨val.toArray⟩) := ⟨(hb4.cell (p := ⟨w.heap.size, 0, none⟩) hz).trans c0, (hb4.cell (p := ⟨w.heap.size, 1, none⟩) hz).trans c1⟩
         have HB4 := Lib.hid hb4
         have HO4 := Lib.hid (ho4.lower (Nat.le_trans (Nat.le_of_lt hz) HB3.out.size))
         clear ho4 hb4))
    all_goals go_wp2_with fail
    all_goals go_ret
    all_goals exact ⟨_, rfl, HO4.out, HB.out.trans (HB4.out.mono (Nat.le_of_lt hz))⟩

set_option maxRecDepth 100000 in
set_option maxHeartbeats 3200000 in
theorem trecord_any (v : Value) (T : List Wr) (w : World) (h : TabV w v T) (hs : sumW T ≤ 1048576) :
    Calls Try.prog 39 #[v] w fun e w' => e = .returned (.string ⟨(recW T).toArray⟩) ∧ Below w.heap.size w w' := by
  have hTl := sumW_len T
  have CA := Lib.hid (tall_any v T w h (by omega))
  have H := Lib.hid h
  clear h
  go_enter Try.func39, Try.ntmps39
  go_wp2_with fail
  refine CA.out.mono ?_
  rintro e w1 ⟨vl, rfl, hn, hb⟩
  obtain ⟨A, c, rfl, hc1, hc2⟩ := hn.tbIn.len
  have HL := Lib.hid hn.tbIn
  have HB := Lib.hid hb
  have hfit := Lib.hid H.out.fit
  have CU := uint_any (.slice none 0 0) [] T.length w1 (nil_sl10 _ _) (by omega) (by simp)
  have hr0 : ([] : List UInt8) ++ enc T.length = recK10 T 0 := by simp [recK10]
  rw [hr0] at CU
  have CU := Lib.hid CU
  have hwr : IntKind.u64.wrap (T.length : Int) = T.length := by simp [IntKind.wrap, IntKind.bits, IntKind.signed]; omega
  clear hn hb hr0 CA H
  go_wp2_with (go_at_call 72; refine CU.out.mono ?_; rintro e w2 ⟨v2, rfl, ho2, hb2⟩; have HO2 := Lib.hid ho2; have HB2 := Lib.hid hb2; clear ho2 hb2)
  have hkl : ∀ j, (recK10 T j).length ≤ 31457290 := fun j => recK10_len T j hs
  have HKL := Lib.hid hkl
  have hsum := Lib.hid hs
  clear hkl hs CU hwr
  go_loopw [4, 15] (fun b i wr => ∃ (k : Nat), i = .int .i64 k ∧ k ≤ T.length ∧ Hid (Own wr w1.heap.size b (recK10 T k)) ∧ Hid (Below w1.heap.size w1 wr)) (fun _ i _ => T.length - (intOf i).toNat)
  case atStart => exact ⟨0, rfl, by omega, HO2.out, HB2.out⟩
  case round =>
    obtain ⟨k, rfl, hk, ho, hbl⟩ := hrel
    have hz1 := hbl.out.size
    by_cases hlt : k < T.length
    · obtain ⟨p, hpk⟩ : ∃ p, T[k]? = some p := ⟨T[k], List.getElem?_eq_getElem hlt⟩
      obtain ⟨b2, off2, e2, hB2, d0, d1, d2⟩ := (HL.out.below hbl.out).at hpk
      subst e2
      have hpm := sumW_mem (List.mem_of_getElem? hpk)
      have hsm := hsum.out
      have hp1 : p.1.length ≤ 1048576 := by omega
      have hp2 : p.2.1.length ≤ 1048576 := by omega
      have hrs := Lib.hid (recK10_succ hpk)
      have hr1 := HKL.out k
      have hwl := (wrB_len p (by omega) (by omega)).2
      have CB := Lib.hid (fun W => bytesOf_any p W hp1 hp2)
      obtain ⟨r, hr⟩ : ∃ r, recK10 T k = r := ⟨_, rfl⟩
      obtain ⟨wb, hwb⟩ : ∃ r, wrB p = r := ⟨_, rfl⟩
      rw [hr] at ho hr1 hrs
      rw [hwb] at hwl hrs
      have HWB := Lib.hid hwb
      have hb1 : Below wr.heap.size wr (wr.alloc (.cells #[.string ⟨p.1.toArray⟩, .string ⟨p.2.1.toArray⟩, .bool p.2.2] 29)) := (Below.refl _ _).alloc (Nat.le_refl _) _
      have HB1 := Lib.hid hb1
      clear hpk hpm hsm hr hb1 hwb
      go_wp2_with (first
        | (go_at_call 73; refine (CB.out _).mono ?_; rintro e w3 ⟨v3, rfl, ho3, hb3⟩; have hb3 : Below wr.heap.size wr w3 := HB1.out.trans (hb3.mono HB1.out.size); rw [HWB.out] at ho3; have HO3 := Lib.hid ho3.sl; have HB3 := Lib.hid hb3; have HOb := Lib.hid (ho.out.keep hb3); have hz3 := hb3.size; clear ho3 hb3)
        | (at_builtin; refine wp_append_sl rfl _ _ rfl w1.heap.size _ r rfl HOb.out (by omega) _ _ wb rfl HO3.out (by omega) ?_; intro v5 w5 ho5 hb5; have HO5 := Lib.hid ho5; have HB5 := Lib.hid ((hbl.out.trans (HB3.out.mono hz1)).trans hb5); clear ho5 hb5))
      go_roundw
      case rel => exact ⟨k + 1, by go_num, by omega, by unfold Hid; rw [hrs.out]; exact HO5.out, HB5.out⟩
      case measure => simp [intOf]; omega
    · have hfin : Hid (Own wr w1.heap.size u4 (recW T)) := by
        have := ho.out
        rwa [recK10_all (by omega)] at this
      have ht := run_text_of wr _ _ _ hfin.out.sl
      clear ho
      go_wp2_with fail
      go_ret
      exact ⟨rfl, HB.out.trans (hbl.out.mono HB.out.size)⟩

/-- A table's bytes. -/
def bytesW (T : List Wr) : List UInt8 := frm (recW T)

set_option maxRecDepth 100000 in
set_option maxHeartbeats 1600000 in
theorem tbytes_any (v : Value) (T : List Wr) (w : World) (h : TabV w v T) (hs : sumW T ≤ 1048576) :
    Calls Try.prog 17 #[v] w (Wrote w (bytesW T)) := by
  have CR := Lib.hid (trecord_any v T w h hs)
  have hl := recW_len T hs
  have CP := Lib.hid (fun W => put_any (.slice none 0 0) [] (recW T) W (nil_sl10 _ _) (by simp; omega))
  clear h
  go_enter Try.func17, Try.ntmps17
  go_wp2_with fail
  refine CR.out.mono ?_
  rintro e w1 ⟨rfl, hb⟩
  have HB := Lib.hid hb
  clear hb CR
  go_wp2_with fail
  refine (CP.out _).mono ?_
  rintro e w2 ⟨v2, rfl, ho2, hb2⟩
  have HO := Lib.hid (ho2.lower HB.out.size)
  have HB2 := Lib.hid (HB.out.trans (hb2.mono HB.out.size))
  clear ho2 hb2 CP
  go_wp2_with fail
  go_ret
  exact ⟨_, rfl, HO.out, HB2.out⟩

end Go.Proofs.Ytcliknmcefcaeaa.Cd
