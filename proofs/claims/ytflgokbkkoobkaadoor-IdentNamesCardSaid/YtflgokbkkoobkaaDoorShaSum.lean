/-
  A state's bytes: the digest's sum. Conditions: none.
-/
import Derived.Test.YtflgokbkkoobkaaDoorShaEnd
import Derived.Test.YtflgokbkkoobkaaDoorIdOf
namespace Go.Proofs.YtflgokbkkoobkaaDoor.Cd
open Go.RowKit

set_option maxRecDepth 100000 in
set_option maxHeartbeats 3200000 in
theorem dsum_any (g : Nat) (st : List Int) (blk : List UInt8) (u z : Int) (w : World) (hD : DgAt w g st blk u z) (hgs : g < w.heap.size) :
    Calls Tryd.prog 36 #[.pointer (some ⟨g, 0, none⟩)] w fun e w' => ∃ D : List UInt8, D.length = 32 ∧ e = .returned (.agg (vb D).toArray) ∧ Below w.heap.size w w' := by
  have hD1 : DgAt ((w.alloc (.cells (vb (zer 32)).toArray 24)).alloc (.cells (vb (zer 32)).toArray 24)) g st blk u z := hD.heap ((Below.heap_alloc _ _ _ (by simp; omega)).trans (Below.heap_alloc _ _ _ hgs))
  have hb1 : Below w.heap.size w ((w.alloc (.cells (vb (zer 32)).toArray 24)).alloc (.cells (vb (zer 32)).toArray 24)) := ((Below.refl _ _).alloc (Nat.le_refl _) _).alloc (by simp) _
  have ho1 : ((w.alloc (.cells (vb (zer 32)).toArray 24)).alloc (.cells (vb (zer 32)).toArray 24)).heap[w.heap.size + 1]? = some (.cells (vb (zer 32)).toArray 24) := by
    have h := heap_alloc_new (w.alloc (.cells (vb (zer 32)).toArray 24)) (.cells (vb (zer 32)).toArray 24)
    rwa [asz] at h
  have hr1 : ((w.alloc (.cells (vb (zer 32)).toArray 24)).alloc (.cells (vb (zer 32)).toArray 24)).heap[w.heap.size]? = some (.cells (vb (zer 32)).toArray 24) := (Below.heap_alloc _ _ _ (by simp)).trans (heap_alloc_new _ _)
  have HD1 := Lib.hid hD1
  have HB1 := Lib.hid hb1
  have HO1 := Lib.hid ho1
  have HR1 := Lib.hid hr1
  clear hD hD1 hb1 ho1 hr1
  go_enter Tryd.func36, Tryd.ntmps36
  go_wp2_with (refine wp_alloc_row zero_32 rfl rfl ?_)
  go_loopw [5] (fun i wr => ∃ (k : Nat) (D : List UInt8), k ≤ 32 ∧ i = .int .i64 k ∧ D.length = 32 ∧ Hid (wr.heap[w.heap.size + 1]? = some (.cells (vb D).toArray 24)) ∧ Hid (wr.heap[w.heap.size]? = some (.cells (vb (zer 32)).toArray 24)) ∧ Hid (DgAt wr g st blk u z) ∧ Hid (Below w.heap.size w wr)) (fun i _ => 32 - (intOf i).toNat)
  case atStart => exact ⟨0, zer 32, by omega, rfl, zer_length 32, HO1, HR1, HD1, HB1⟩
  case round =>
    clear HO1 HR1 HD1 HB1
    obtain ⟨k, D, hk, rfl, hD, HO, HR, HD, HB⟩ := hrel
    by_cases hlt : k < 32
    · obtain ⟨q, hq⟩ : ∃ q : Nat, q = k / 4 := ⟨_, rfl⟩
      obtain ⟨m, hm⟩ : ∃ m : Nat, m = k % 4 := ⟨_, rfl⟩
      obtain ⟨s, hs⟩ : ∃ s : Nat, s = 24 - 8 * m := ⟨_, rfl⟩
      have q1 : (k : Int) / 4 = (q : Int) := by omega
      have q2 : (k : Int).tdiv 4 = (q : Int) := by rw [Int.tdiv_eq_ediv_of_nonneg (by omega)]; exact q1
      have m1 : (k : Int) % 4 = (m : Int) := by omega
      have m2 : (k : Int).tmod 4 = (m : Int) := by rw [Int.tmod_eq_emod_of_nonneg (by omega)]; exact m1
      have q3 : (q : Int) < 8 := by omega
      have w1 : IntKind.i64.wrap (8 * (m : Int)) = 8 * (m : Int) := Go.wrap_small _ (by omega) (by omega)
      have w2' : IntKind.i64.wrap (24 - 8 * (m : Int)) = (s : Int) := by rw [show (24 : Int) - 8 * (m : Int) = (s : Int) by omega]; exact Go.wrap_small _ (by omega) (by omega)
      have w3 : (24 : Int) - 8 * (m : Int) = (s : Int) := by omega
      have s32 : (s : Int) ≤ 32 := by omega
      have s32n : s ≤ 32 := by omega
      have k32 : (k : Int) < 32 := by omega
      have hst8 := HD.out.1
      have hqs : q < st.length := by omega
      have cS : wr.cell? ⟨g, q, none⟩ = some (.int .u32 st[q]) := by
        have := HD.out.stRange q _ (vw_at st q hqs)
        rwa [Nat.zero_add] at this
      generalize st[q] = x at cS
      obtain ⟨y, hy⟩ : ∃ y, x / 2 ^ s = y := ⟨_, rfl⟩
      have hyb := bounds_u8 (Go.wf_wrap .u8 y)
      obtain ⟨cb, hcb⟩ := byte_of (IntKind.u8.wrap y) hyb.1 hyb.2
      have hkD : k < D.length := by omega
      have cO : wr.cell? ⟨w.heap.size + 1, k, none⟩ = some (.int .u8 (D[k]).toNat) := by
        rw [cell_of_row _ _ _ _ _ _ HO.out, List.getElem?_toArray]
        exact vb_at D k hkD
      generalize D[k] = b9 at cO
      have fO : wr.frozen? ⟨w.heap.size + 1, k, none⟩ = false := frozen_of_row _ _ _ _ _ HO.out
      have HO2 : Hid ((wr.setCell ⟨w.heap.size + 1, k, none⟩ (.int .u8 cb.toNat)).heap[w.heap.size + 1]? = some (.cells (vb (D.set k cb)).toArray 24)) := by
        have h := heap_setCell_same wr (w.heap.size + 1) k _ _ (.int .u8 cb.toNat) HO.out
        rw [List.setIfInBounds_toArray] at h
        rw [show vb (D.set k cb) = (vb D).set k (.int .u8 cb.toNat) by simp [vb, List.map_set]]
        exact h
      have HR2 : Hid ((wr.setCell ⟨w.heap.size + 1, k, none⟩ (.int .u8 cb.toNat)).heap[w.heap.size]? = some (.cells (vb (zer 32)).toArray 24)) := (Below.heap_setCell wr ⟨w.heap.size + 1, k, none⟩ _ _ (by show w.heap.size ≠ w.heap.size + 1; omega)).trans HR.out
      have HD2 : Hid (DgAt (wr.setCell ⟨w.heap.size + 1, k, none⟩ (.int .u8 cb.toNat)) g st blk u z) := HD.out.heap (Below.heap_setCell wr ⟨w.heap.size + 1, k, none⟩ _ _ (by show g ≠ w.heap.size + 1; omega))
      have HB2 : Hid (Below w.heap.size w (wr.setCell ⟨w.heap.size + 1, k, none⟩ (.int .u8 cb.toNat))) := HB.out.setCell (by show w.heap.size ≤ w.heap.size + 1; omega) _
      clear hq hm hs hyb HO HR HD HB hst8
      go_wp2_with fail
      go_roundw
      case rel => exact ⟨k + 1, D.set k cb, by omega, by go_num, by simp [hD], HO2, HR2, HD2, HB2⟩
      case measure => simp [intOf]; omega
    · obtain rfl : k = 32 := by omega
      clear hlt hk
      go_wp2_with (first
        | (refine wpList_load_row rfl 24 _ rfl (w.heap.size + 1) rfl 24 (vb D).toArray (0, 0) _ HO.out Tryd.underlying24 rfl (by rw [vb_size, hD]; exact cells_32) ?_)
        | (refine wp_put_row cells_32 rfl _ _ rfl w.heap.size rfl rfl (by rw [vb_size, hD]) (id_one D) (vb (zer 32)).toArray (by rw [vb_size, zer_length]) 24 HR.out ?hK9))
      intro w9 h9 hg9
      have hb9 : Below w.heap.size w w9 := HB.out.grown hg9 (by have := HB.out.size; omega) (fun k hk => by injection hk with hk; omega)
      go_wp2_with fail
      exact bodyPost_ret (v := .agg (vb D).toArray) (results_cell_row Tryd.results36 _ w9 w.heap.size 24 (vb D).toArray (0, 0) _ rfl h9 Tryd.underlying24 rfl (by rw [vb_size, hD]; exact cells_32)) rfl ⟨D, hD, rfl, hb9⟩

end Go.Proofs.YtflgokbkkoobkaaDoor.Cd
