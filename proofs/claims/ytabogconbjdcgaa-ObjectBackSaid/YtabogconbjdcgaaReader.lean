/-
  code.Reader: Read, Good, fail, End. Conditions: none.
-/
import Derived.Test.YtabogconbjdcgaaMem
import Derived.Deep.RegionWith
namespace Go.Proofs.Ytabogconbjdcgaa.Cd
open Go.RowKit

/-- Block g is a reader that has the bytes 'bs' left. -/
def Rd (w : World) (g : Nat) (bs : List UInt8) (bad : Bool) : Prop := w.heap[g]? = some (.cells #[.string ⟨bs.toArray⟩, .bool bad] 88 (0, 0))

section
variable {w w' : World} {g : Nat} {bs : List UInt8} {bad : Bool}
theorem Rd.lt (h : Rd w g bs bad) : g < w.heap.size := by
  rcases Nat.lt_or_ge g w.heap.size with hlt | hge
  · exact hlt
  · unfold Rd at h; rw [Array.getElem?_eq_none hge] at h; cases h
theorem Rd.cell0 (h : Rd w g bs bad) : w.cell? ⟨g, 0, none⟩ = some (.string ⟨bs.toArray⟩) := cell_of_row w g 0 _ _ (0, 0) h
theorem Rd.cell1 (h : Rd w g bs bad) : w.cell? ⟨g, 1, none⟩ = some (.bool bad) := cell_of_row w g 1 _ _ (0, 0) h
theorem Rd.frozen (h : Rd w g bs bad) (i : Nat) : w.frozen? ⟨g, i, none⟩ = false := by
  unfold Rd at h
  simp [World.frozen?, h]
theorem Rd.drew (h : Rd w g bs bad) : Rd w.drew g bs bad := h
theorem Rd.set0 (h : Rd w g bs bad) (cs : List UInt8) : Rd (w.setCell ⟨g, 0, none⟩ (.string ⟨cs.toArray⟩)) g cs bad := by
  unfold Rd at h ⊢
  simp [World.setCell, Array.getElem?_modify, h]
theorem Rd.set1 (h : Rd w g bs bad) (b : Bool) : Rd (w.setCell ⟨g, 1, none⟩ (.bool b)) g bs b := by
  unfold Rd at h ⊢
  simp [World.setCell, Array.getElem?_modify, h]
theorem Rd.below {B : Nat} (h : Rd w g bs bad) (hb : Below B w w') (hg : g < B) : Rd w' g bs bad := (hb.block g hg).trans h
end

/-- What a reader's call leaves: the reader as it is said, and else nothing of what was there has turned. -/
def Left (w : World) (g : Nat) (bs : List UInt8) (bad : Bool) (w' : World) : Prop := Rd w' g bs bad ∧ w.grownBy w' (some g)

theorem grown_refl (w : World) (r : Option Nat) : w.grownBy w r := ⟨rfl, rfl, rfl, Nat.le_refl _, fun _ _ _ => rfl⟩
theorem grown_trans {a b c : World} {g : Nat} (h : a.grownBy b (some g)) (k : b.grownBy c (some g)) : a.grownBy c (some g) :=
  ⟨k.os.trans h.os, k.tape.trans h.tape, k.output.trans h.output, Nat.le_trans h.size k.size, fun i hi hn => (k.block i (Nat.lt_of_lt_of_le hi h.size) hn).trans (h.block i hi hn)⟩
theorem grown_set (w : World) (g i : Nat) (v : Value) : w.grownBy (w.setCell ⟨g, i, none⟩ v) (some g) :=
  ⟨rfl, rfl, rfl, by simp [World.setCell], fun k _ hk => Below.heap_setCell w _ v k (fun e => hk (by rw [e]))⟩

set_option maxHeartbeats 400000 in
theorem read_any (v : Value) (bs : List UInt8) (w : World) (hs : Sl w w.heap.size v bs) :
    Calls Try.prog 31 #[v] w fun e w' => e = .returned (.pointer (some ⟨w.heap.size, 0, none⟩)) ∧ Rd w' w.heap.size bs false ∧ Below w.heap.size w w' := by
  have hcv := run_text_of w _ v bs hs
  go_enter Try.func31, Try.ntmps31
  go_wp2_with fail
  go_ret
  exact ⟨rfl, heap_alloc_new w _, (Below.refl _ _).alloc (Nat.le_refl _) _⟩

set_option maxHeartbeats 400000 in
theorem good_any (g : Nat) (bs : List UInt8) (bad : Bool) (w : World) (hr : Rd w g bs bad) :
    Calls Try.prog 54 #[.pointer (some ⟨g, 0, none⟩)] w fun e w' => e = .returned (.bool !bad) ∧ w = w' := by
  have hc := hr.cell1
  go_enter Try.func54, Try.ntmps54
  go_wp2_with fail
  go_ret
  exact ⟨rfl, rfl⟩

set_option maxHeartbeats 400000 in
theorem good_nil (w : World) :
    Calls Try.prog 54 #[.pointer none] w fun e w' => e = .returned (.bool false) ∧ w = w' := by
  go_enter Try.func54, Try.ntmps54
  go_wp2_with fail
  go_ret
  exact ⟨rfl, rfl⟩

set_option maxHeartbeats 400000 in
theorem fail_any (g : Nat) (bs : List UInt8) (bad : Bool) (w : World) (hr : Rd w g bs bad) :
    Calls Try.prog 63 #[.pointer (some ⟨g, 0, none⟩)] w fun e w' => e = .returned (.tuple #[]) ∧ Left w g [] true w' := by
  have hc0 := hr.cell0
  have hc1 := hr.cell1
  have hf0 := hr.frozen 0
  have hf1 := hr.frozen 1
  go_enter Try.func63, Try.ntmps63
  go_wp2_with fail
  go_end0
  exact ⟨rfl, (hr.set0 []).set1 true, grown_trans (grown_set _ _ _ _) (grown_set _ _ _ _)⟩

set_option maxHeartbeats 400000 in
theorem end_any (g : Nat) (bs : List UInt8) (bad : Bool) (w : World) (hr : Rd w g bs bad) :
    Calls Try.prog 34 #[.pointer (some ⟨g, 0, none⟩)] w fun e w' => e = .returned (.bool (!bad && bs.isEmpty)) ∧ w = w' := by
  have hc0 := hr.cell0
  cases bad
  · go_enter Try.func34, Try.ntmps34
    go_wp2_with (go_at_call 54; refine (good_any g bs _ _ hr).mono ?_; rintro e w1 ⟨rfl, rfl⟩)
    go_ret
    exact ⟨by simp, rfl⟩
  · go_enter Try.func34, Try.ntmps34
    go_wp2_with (go_at_call 54; refine (good_any g bs _ _ hr).mono ?_; rintro e w1 ⟨rfl, rfl⟩)
    go_ret
    exact ⟨rfl, rfl⟩

set_option maxHeartbeats 400000 in
theorem end_nil (w : World) :
    Calls Try.prog 34 #[.pointer none] w fun e w' => e = .returned (.bool false) ∧ w = w' := by
  go_enter Try.func34, Try.ntmps34
  go_wp2_with (go_at_call 54; refine (good_nil _).mono ?_; rintro e w1 ⟨rfl, rfl⟩)
  go_ret
  exact ⟨rfl, rfl⟩

end Go.Proofs.Ytabogconbjdcgaa.Cd
