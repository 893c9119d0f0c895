/-
  fnv.Bytes, and the document's. Conditions: none.
-/
import Derived.Test.YtabogconbjdcgaaRefFnv
namespace Go.Proofs.Ytabogconbjdcgaa.Cd
open Go.RowKit

/-- The array as it stands with k places to go. -/
def arr (n k : Nat) : Array Value := Array.ofFn (n := 8) fun i => if i.val < k then .int .u8 0 else .int .u8 (UInt8.ofNat (dn n (7 - i.val))).toNat

theorem arr_all (n : Nat) : arr n 0 = (vb (be8 n)).toArray := rfl
theorem arr_none (n : Nat) : arr n 8 = #[.int .u8 0, .int .u8 0, .int .u8 0, .int .u8 0, .int .u8 0, .int .u8 0, .int .u8 0, .int .u8 0] := rfl
theorem arr_lit (n : Nat) : arr n 0 = #[.int .u8 (UInt8.ofNat (dn n 7)).toNat, .int .u8 (UInt8.ofNat (dn n 6)).toNat, .int .u8 (UInt8.ofNat (dn n 5)).toNat, .int .u8 (UInt8.ofNat (dn n 4)).toNat,
    .int .u8 (UInt8.ofNat (dn n 3)).toNat, .int .u8 (UInt8.ofNat (dn n 2)).toNat, .int .u8 (UInt8.ofNat (dn n 1)).toNat, .int .u8 (UInt8.ofNat (dn n 0)).toNat] := rfl
theorem arr_set (n k : Nat) (x : Int) (hx : x = (UInt8.ofNat (dn n (7 - k))).toNat) : (arr n (k + 1)).setIfInBounds k (.int .u8 x) = arr n k := by
  subst hx
  apply Array.ext
  · simp [arr]
  · intro i h1 h2
    simp only [arr, Array.size_ofFn] at h2
    rw [Array.getElem_setIfInBounds (by simpa [arr] using h2)]
    simp only [arr, Array.getElem_ofFn]
    by_cases h : k = i
    · subst h; simp
    · rw [if_neg h]
      by_cases h3 : i < k
      · rw [if_pos (by omega), if_pos h3]
      · rw [if_neg (by omega), if_neg h3]

theorem wrap_u8 (m : Nat) : IntKind.u8.wrap (m : Int) = ((UInt8.ofNat m).toNat : Nat) := by
  rw [UInt8.toNat_ofNat', IntKind.wrap_u8]
  omega

theorem low_u8 (m : Nat) : (m : Int) % 256 = ((UInt8.ofNat m).toNat : Nat) := by
  rw [UInt8.toNat_ofNat']
  omega

theorem arr_get (n j : Nat) (hj : j < 8) : (arr n (j + 1))[j]? = some (.int .u8 0) := by
  rw [Array.getElem?_eq_getElem (by simpa [arr] using hj)]
  simp [arr]

theorem arr_cell (n : Nat) (w : World) (T : TypeId) (j : Nat) (hj : j < 8) : (w.alloc (.cells (arr n 0) T)).cell? ⟨w.heap.size, j, none⟩ = some (.int .u8 ((be8 n)[j]'hj).toNat) := by
  have := cell_of_row (w.alloc (.cells (arr n 0) T)) w.heap.size j (arr n 0) T (0, 0) (heap_alloc_new w _)
  rw [this, arr_all]
  have h2 := vb_at (be8 n) j hj
  simpa using h2

theorem arr_sl (n : Nat) (w : World) (T : TypeId) : Sl (w.alloc (.cells (arr n 0) T)) (w.alloc (.cells (arr n 0) T)).heap.size (.slice (some ⟨w.heap.size, 0, none⟩) 8 8) (be8 n) :=
  ⟨_, 8, rfl, Nat.le_refl _, by simp [maxLen], (fun h => by cases h), (fun ad e _ => by injection e with e; subst e; simp), fun ad e j u hu => by
    injection e with e
    subst e
    have hj := (List.getElem?_eq_some_iff.1 hu).1
    rw [vb_length] at hj
    rw [Addr.add_lit, Nat.zero_add, arr_cell n w T j hj]
    rw [vb_at _ j hj] at hu
    exact hu⟩




end Go.Proofs.Ytabogconbjdcgaa.Cd
