/-
  A side that is new; maps.Clone. Conditions: none.
-/
import Derived.Test.YtbepanhndpkdhaaSide
import Derived.Shelf.SlMaps.Clone
namespace Go.Proofs.Ytbepanhndpkdhaa.Cd
open Go.RowKit

/-- What blank leaves. -/
def Blank (w : World) (e : Ending) (w' : World) : Prop :=
  ∃ bc bp, e = .returned (.agg #[.map (some bc), .map (some bp)]) ∧ Side w' bc bp (fun _ => []) 0 0 ∧ w.heap.size ≤ bc ∧ w.heap.size ≤ bp ∧ Below w.heap.size w w'

theorem lst_nil : lst (fun _ => []) = fun _ => none := by
  funext x
  unfold lst
  split <;> simp

set_option maxRecDepth 100000 in
set_option maxHeartbeats 800000 in
theorem blank_any (w : World) : Calls Try.prog 32 #[] w (Blank w) := by
  have hmm := @run_makeMap Try.prog
  go_enter Try.func32, Try.ntmps32
  go_wp2_with fail
  have hA := asz w (.cells #[.map (some (w.heap.size + 1)), .map (some (w.heap.size + 1 + 1))] 70)
  have h1 := MapF.made cntK (w.alloc (.cells #[.map (some (w.heap.size + 1)), .map (some (w.heap.size + 1 + 1))] 70))
  have h2 := MapF.made pgK ((w.alloc (.cells #[.map (some (w.heap.size + 1)), .map (some (w.heap.size + 1 + 1))] 70)).alloc (.map #[] 0))
  rw [hA] at h1
  rw [asz, hA] at h2
  have hB : Below w.heap.size w (((w.alloc (.cells #[.map (some (w.heap.size + 1)), .map (some (w.heap.size + 1 + 1))] 70)).alloc (.map #[] 0)).alloc (.map #[] 0)) :=
    (((Below.refl _ _).alloc (Nat.le_refl _) _).alloc (by simp) _).alloc (by simp; omega) _
  exact bodyPost_ret (v := .agg #[.map (some (w.heap.size + 1)), .map (some (w.heap.size + 1 + 1))]) (by simp [results, Try.results32, go_sem]) rfl
    ⟨_, _, rfl, ⟨⟨_, 0, h1.alloc _, Nat.le_refl _, fun _ _ => rfl⟩, by rw [lst_nil]; exact h2, by omega⟩, by omega, by omega, hB⟩

/-! ### maps.Clone -/

set_option maxRecDepth 100000 in
set_option maxHeartbeats 2000000 in
theorem clone_cnt (b n : Nat) (q : Nat → Option Nat) (w : World) (h : MapF cntK w b n q) :
    Calls Try.prog 76 #[.map (some b)] w fun e w' => e = .returned (.map (some w.heap.size)) ∧ MapF cntK w' w.heap.size n q ∧ Below w.heap.size w w' := by
  obtain ⟨D, ⟨es, clock, hb, hF⟩, hD⟩ := h
  have hq := fun w => run_eql_map_nil_sl (P := Try.prog) w 67 _ _ (some b) Try.underlying67
  go_enter Try.func76, Try.ntmps76
  go_wp2_with fail
  rw [run_callFunc_extern Try.func83 (by kernel_rfl) (by kernel_rfl) (by kernel_rfl) (e := Extern.MapsClone.clone) (by kernel_rfl), run_maps_clone_sl w 67 hb]
  simp only [Result.andThen]
  rw [Oper.upon_value]
  go_wp2_with fail
  rw [run_typeAssert_map_sl _ 67 20 _ _ _ Try.underlying67]
  simp only [Result.andThen]
  rw [Oper.upon_value]
  go_wp2_with fail
  go_ret
  exact ⟨rfl, ⟨D, ⟨es, clock, heap_alloc_new _ _, hF⟩, hD⟩, (Below.refl _ w).alloc (Nat.le_refl _) _⟩

set_option maxRecDepth 100000 in
set_option maxHeartbeats 2000000 in
theorem clone_pgs (b n : Nat) (q : Nat × Int → Option (List UInt8)) (w : World) (h : MapF pgK w b n q) :
    Calls Try.prog 77 #[.map (some b)] w fun e w' => e = .returned (.map (some w.heap.size)) ∧ MapF pgK w' w.heap.size n q ∧ Below w.heap.size w w' := by
  obtain ⟨D, ⟨es, clock, hb, hF⟩, hD⟩ := h
  have hq := fun w => run_eql_map_nil_sl (P := Try.prog) w 68 _ _ (some b) Try.underlying68
  go_enter Try.func77, Try.ntmps77
  go_wp2_with fail
  rw [run_callFunc_extern Try.func83 (by kernel_rfl) (by kernel_rfl) (by kernel_rfl) (e := Extern.MapsClone.clone) (by kernel_rfl), run_maps_clone_sl w 68 hb]
  simp only [Result.andThen]
  rw [Oper.upon_value]
  go_wp2_with fail
  rw [run_typeAssert_map_sl _ 68 20 _ _ _ Try.underlying68]
  simp only [Result.andThen]
  rw [Oper.upon_value]
  go_wp2_with fail
  go_ret
  exact ⟨rfl, ⟨D, ⟨es, clock, heap_alloc_new _ _, hF⟩, hD⟩, (Below.refl _ w).alloc (Nat.le_refl _) _⟩

end Go.Proofs.Ytbepanhndpkdhaa.Cd
