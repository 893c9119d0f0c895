/-
  fnv.Bytes, and the document's. Conditions: none.
-/
import Derived.Test.YtflgokbkkoobkaaDoorRefFnv
namespace Go.Proofs.YtflgokbkkoobkaaDoor.Cd
open Go.RowKit

/-- The array as it stands with k places to go. -/
def arr (n k : Nat) : Array Value := Array.ofFn (n := 8) fun i => if i.val < k then .int .u8 0 else .int .u8 (UInt8.ofNat (dn n (7 - i.val))).toNat

theorem arr_all (n : Nat) : arr n 0 = (vb (be8 n)).toArray := rfl
theorem arr_none (n : Nat) : arr n 8 = #[.int .u8 0, .int .u8 0, .int .u8 0, .int .u8 0, .int .u8 0, .int .u8 0, .int .u8 0, .int .u8 0] := rfl
theorem arr_lit (n : Nat) : arr n 0 = #[.int .u8 (UInt8.ofNat (dn n 7)).toNat, .int .u8 (UInt8.ofNat (dn n 6)).toNat, .int .u8 (UInt8.ofNat (dn n 5)).toNat, .int .u8 (UInt8.ofNat (dn n 4)).toNat,
    .int .u8 (UInt8.ofNat (dn n 3)).toNat, .int .u8 (UInt8.ofNat (dn n 2)).toNat, .int .u8 (UInt8.ofNat (dn n 1)).toNat, .int .u8 (UInt8.ofNat (dn n 0)).toNat] := rfl
theorem arr_set (n k : Nat) (x : Int) (hx : x = (UInt8.ofNat (dn n (7 - k))).toNat) : (arr n (k + 1)).setIfInBounds k (.int .u8 x) = arr n k := by
  subst hx
  apply Array.ext
  · simp [arr]
  · intro i h1 h2
    simp only [arr, Array.size_ofFn] at h2
    rw [Array.getElem_setIfInBounds (by simpa [arr] using h2)]
    simp only [arr, Array.getElem_ofFn]
    by_cases h : k = i
    · subst h; simp
    · rw [if_neg h]
      by_cases h3 : i < k
      · rw [if_pos (by omega), if_pos h3]
      · rw [if_neg (by omega), if_neg h3]

theorem wrap_u8 (m : Nat) : IntKind.u8.wrap (m : Int) = ((UInt8.ofNat m).toNat : Nat) := by
  rw [UInt8.toNat_ofNat', IntKind.wrap_u8]
  omega

theorem low_u8 (m : Nat) : (m : Int) % 256 = ((UInt8.ofNat m).toNat : Nat) := by
  rw [UInt8.toNat_ofNat']
  omega

theorem arr_get (n j : Nat) (hj : j < 8) : (arr n (j + 1))[j]? = some (.int .u8 0) := by
  rw [Array.getElem?_eq_getElem (by simpa [arr] using hj)]
  simp [arr]

theorem arr_cell (n : Nat) (w : World) (T : TypeId) (j : Nat) (hj : j < 8) : (w.alloc (.cells (arr n 0) T)).cell? ⟨w.heap.size, j, none⟩ = some (.int .u8 ((be8 n)[j]'hj).toNat) := by
  have := cell_of_row (w.alloc (.cells (arr n 0) T)) w.heap.size j (arr n 0) T (0, 0) (heap_alloc_new w _)
  rw [this, arr_all]
  have h2 := vb_at (be8 n) j hj
  simpa using h2

theorem arr_sl (n : Nat) (w : World) (T : TypeId) : Sl (w.alloc (.cells (arr n 0) T)) (w.alloc (.cells (arr n 0) T)).heap.size (.slice (some ⟨w.heap.size, 0, none⟩) 8 8) (be8 n) :=
  ⟨_, 8, rfl, Nat.le_refl _, by simp [maxLen], (fun h => by cases h), (fun ad e _ => by injection e with e; subst e; simp), fun ad e j u hu => by
    injection e with e
    subst e
    have hj := (List.getElem?_eq_some_iff.1 hu).1
    rw [vb_length] at hj
    rw [Addr.add_lit, Nat.zero_add, arr_cell n w T j hj]
    rw [vb_at _ j hj] at hu
    exact hu⟩

theorem arr_text (n : Nat) (w : World) : (convert 22 9 (.slice (some ⟨w.heap.size, 0, none⟩) 8 8)).run Tryd.prog (w.alloc (.cells (arr n 0) 43)) = .ok (.string ⟨(be8 n).toArray⟩) (w.alloc (.cells (arr n 0) 43)) :=
  run_convert_bytes_back _ 22 9 5 ⟨w.heap.size, 0, none⟩ 8 (be8 n) Tryd.underlying22 Tryd.underlying5 Tryd.underlying9 fun j hj => by
    rw [Addr.add_lit, Nat.zero_add]
    exact arr_cell n w _ j hj

set_option maxRecDepth 100000 in
set_option maxHeartbeats 800000 in
theorem ref_bytes_any (n : Nat) (w : World) (hn : n < 18446744073709551616) :
    Calls Tryd.prog 37 #[.int .u64 n] w (Gives (.string ⟨(be8 n).toArray⟩) w) := by
  go_enter Tryd.func37, Tryd.ntmps37
  go_wp2
  go_loopw [0, 4] (fun m i wr => ∃ (k d : Nat) (q : Int), k ≤ 8 ∧ i = .int .i64 q ∧ q = (k : Int) - 1 ∧ m = .int .u64 (d : Nat) ∧ Hid (d = dn n (8 - k)) ∧ Hid (wr = w.alloc (.cells (arr n k) 43))) (fun _ i _ => (intOf i + 1).toNat)
  case atStart => exact ⟨8, n, _, Nat.le_refl _, rfl, rfl, rfl, rfl, rfl⟩
  case round =>
    obtain ⟨k, d, q, hk, rfl, hq, rfl, hd, hw⟩ := hrel
    obtain rfl := hw.out
    clear hw
    cases k with
    | zero =>
      obtain rfl : q = -1 := by omega
      clear hq
      have hcv := arr_text n w
      go_wp2
      go_ret
      exact ⟨rfl, (Below.refl _ _).alloc (Nat.le_refl _) _⟩
    | succ j =>
      obtain rfl : q = (j : Int) := by omega
      have hdd := hd.out
      rw [show 8 - (j + 1) = 7 - j by omega] at hdd
      have hlt := dn_lt n (7 - j) hn
      rw [← hdd] at hlt
      have hnext : Hid (d / 256 = dn n (8 - j)) := by unfold Hid; rw [show 8 - j = (7 - j) + 1 by omega, hdd]; rfl
      have HDD := Lib.hid hdd
      have hj : j < 8 := by omega
      have hget := arr_get n j hj
      clear hdd hd hq hk
      go_wp2
      go_roundw
      case rel => exact ⟨j, d / 256, _, by omega, rfl, rfl, by go_num, hnext, by unfold Hid; rw [arr_set n j _ (by rw [← HDD.out]; exact low_u8 d)]⟩
      case measure => simp [intOf]

set_option maxRecDepth 100000 in
set_option maxHeartbeats 800000 in
theorem bytes_any (n : Nat) (w : World) (hn : n < 18446744073709551616) :
    Calls Tryd.prog 19 #[.int .u64 n] w (Gives (.agg (arr n 0)) w) := by
  go_enter Tryd.func19, Tryd.ntmps19
  go_wp2
  go_loopw [0, 4] (fun m i wr => ∃ (k d : Nat) (q : Int), k ≤ 8 ∧ i = .int .i64 q ∧ q = (k : Int) - 1 ∧ m = .int .u64 (d : Nat) ∧ Hid (d = dn n (8 - k)) ∧ Hid (wr = (w.alloc (.cells (arr n 8) 43)).alloc (.cells (arr n k) 43))) (fun _ i _ => (intOf i + 1).toNat)
  case atStart => exact ⟨8, n, _, Nat.le_refl _, rfl, rfl, rfl, rfl, rfl⟩
  case round =>
    obtain ⟨k, d, q, hk, rfl, hq, rfl, hd, hw⟩ := hrel
    obtain rfl := hw.out
    clear hw
    cases k with
    | zero =>
      obtain rfl : q = -1 := by omega
      clear hq hd
      have harr := arr_lit n
      rw [arr_lit n, arr_none n]
      generalize (UInt8.ofNat (dn n 7)).toNat = x0 at harr ⊢
      generalize (UInt8.ofNat (dn n 6)).toNat = x1 at harr ⊢
      generalize (UInt8.ofNat (dn n 5)).toNat = x2 at harr ⊢
      generalize (UInt8.ofNat (dn n 4)).toNat = x3 at harr ⊢
      generalize (UInt8.ofNat (dn n 3)).toNat = x4 at harr ⊢
      generalize (UInt8.ofNat (dn n 2)).toNat = x5 at harr ⊢
      generalize (UInt8.ofNat (dn n 1)).toNat = x6 at harr ⊢
      generalize (UInt8.ofNat (dn n 0)).toNat = x7 at harr ⊢
      have HARR := Lib.hid harr
      clear harr
      go_wp2
      exact bodyPost_ret (v := .agg #[.int .u8 x0, .int .u8 x1, .int .u8 x2, .int .u8 x3, .int .u8 x4, .int .u8 x5, .int .u8 x6, .int .u8 x7]) (by simp [results, Tryd.results19, go_sem]) rfl ⟨by rw [HARR.out], ((Below.refl _ _).alloc (Nat.le_refl _) _).alloc (by simp) _⟩
    | succ j =>
      obtain rfl : q = (j : Int) := by omega
      have hdd := hd.out
      rw [show 8 - (j + 1) = 7 - j by omega] at hdd
      have hlt := dn_lt n (7 - j) hn
      rw [← hdd] at hlt
      have hnext : Hid (d / 256 = dn n (8 - j)) := by unfold Hid; rw [show 8 - j = (7 - j) + 1 by omega, hdd]; rfl
      have HDD := Lib.hid hdd
      have hj : j < 8 := by omega
      have hget := arr_get n j hj
      clear hdd hd hq hk
      go_wp2
      go_roundw
      case rel => exact ⟨j, d / 256, _, by omega, rfl, rfl, by go_num, hnext, by unfold Hid; rw [arr_set n j _ (by rw [← HDD.out]; exact wrap_u8 d)]⟩
      case measure => simp [intOf]

end Go.Proofs.YtflgokbkkoobkaaDoor.Cd
