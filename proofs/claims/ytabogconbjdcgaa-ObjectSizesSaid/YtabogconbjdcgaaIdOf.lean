/-
  ident.Of by Fnv, and of no hash; by Sha, where sha.Of answers. Conditions: none.
-/
import Derived.Test.YtabogconbjdcgaaIdParse
import Derived.Test.YtabogconbjdcgaaFnvAlive
namespace Go.Proofs.Ytabogconbjdcgaa.Cd
open Go.RowKit


theorem zero_32 (W : World) : (zeroValue 39).run Try.prog W = .ok (.agg (vb (zer 32)).toArray) W := by kernel_rfl


theorem cells_32 : (Try.prog.info? 39).map (·.size) = some 32 := by kernel_rfl

theorem be8_length (n : Nat) : (be8 n).length = 8 := rfl

/-- Bytes that were laid out a moment ago, as a slice. -/
theorem sl_row (w : World) (l : List UInt8) (T : TypeId) (n : Nat) (hn : n = l.length) (hm : n ≤ maxLen) : Sl (w.alloc (.cells (vb l).toArray T)) (w.heap.size + 1) (.slice (some ⟨w.heap.size, 0, none⟩) n n) l := by
  subst hn
  refine ⟨_, l.length, rfl, Nat.le_refl _, hm, (fun h => by cases h), (fun ad e _ => by injection e with e; subst e; simp), fun ad e j u hu => ?_⟩
  injection e with e
  subst e
  rw [Addr.add_lit, Nat.zero_add, cell_of_row _ _ _ _ _ _ (heap_alloc_new w _), List.getElem?_toArray]
  exact hu


/-- A name by Fnv. -/
def ofF (a : List UInt8) : List UInt8 := 1 :: pad32 (be8 (mor fnv0 a))
theorem ofF_length (a : List UInt8) : (ofF a).length = 33 := by simp [ofF, pad32_length]
/-- A name by Sha, of a digest. -/
def ofS (d : List UInt8) : List UInt8 := 2 :: pad32 d
theorem ofS_length (d : List UInt8) : (ofS d).length = 33 := by simp [ofS, pad32_length]




end Go.Proofs.Ytabogconbjdcgaa.Cd
