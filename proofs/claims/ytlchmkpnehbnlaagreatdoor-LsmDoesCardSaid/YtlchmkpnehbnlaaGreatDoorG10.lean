/-
  How a table's writes are sorted: by their keys. Conditions: none.
-/
import Derived.Test.YtlchmkpnehbnlaaGreatDoorG4
import Derived.Test.YtlchmkpnehbnlaaGreatDoorG9
import Derived.Sort.Walk0
import Derived.Lib.Hide
namespace Go.Proofs.YtlchmkpnehbnlaaGreatDoor.Cd
open Go.RowKit Go.Shelf Go.Sort

def cfW (a b : Wr) : Int := if a.1 < b.1 then -1 else if b.1 < a.1 then 1 else 0
theorem ltOf_cfW (a b : Wr) : ltOf cfW a b = decide (a.1 < b.1) := by
  unfold ltOf cfW
  by_cases h : a.1 < b.1
  · simp [h]
  · by_cases h2 : b.1 < a.1
    · simp [h, h2]
    · simp [h, h2]
theorem swoW : SWO (ltOf cfW) where
  irrefl := fun x => by rw [ltOf_cfW]; exact decide_eq_false (less_irrefl x.1)
  trans := fun x y z h1 h2 => by
    rw [ltOf_cfW] at *
    simp only [decide_eq_true_eq] at *
    exact less_trans h1 h2
  ntrans := fun x y z h1 h2 => by
    rw [ltOf_cfW] at *
    simp only [decide_eq_false_iff_not] at *
    intro h3
    by_cases h : y.1 < x.1
    · exact h2 (less_trans h h3)
    · have : x.1 = y.1 := less_tri h1 h
      rw [this] at h3
      exact h2 h3

set_option maxRecDepth 100000 in
set_option maxHeartbeats 1600000 in
theorem isNaN_any (a : List UInt8) (w : World) : Calls Tryz.prog 156 #[.string ⟨a.toArray⟩] w fun e w' => e = .returned (.bool false) ∧ w' = w := by
  go_enter Tryz.func156, Tryz.ntmps156
  go_wp2_with fail
  go_ret
  exact ⟨rfl, rfl⟩

set_option maxRecDepth 100000 in
set_option maxHeartbeats 1600000 in
theorem compare_any (a b : List UInt8) (w : World) : Calls Tryz.prog 116 #[.string ⟨a.toArray⟩, .string ⟨b.toArray⟩] w fun e w' => e = .returned (.int .i64 (if a < b then -1 else if b < a then 1 else 0)) ∧ w' = w := by
  have ha := Lib.hid (isNaN_any a w)
  have hb := Lib.hid (isNaN_any b w)
  by_cases h1 : a < b
  · have e1 : Op.bytesLess a b = true := by rw [bytesLess_eq]; simpa using h1
    rw [if_pos h1]
    clear h1
    go_enter Tryz.func116, Tryz.ntmps116
    go_wp2_with (first | (go_at_call 156; refine ha.out.mono ?_; rintro e w' ⟨rfl, h⟩; obtain rfl := h.symm; clear ha) | (go_at_call 156; refine hb.out.mono ?_; rintro e w' ⟨rfl, h⟩; obtain rfl := h.symm))
    go_ret
    exact ⟨rfl, rfl⟩
  · have e1 : Op.bytesLess a b = false := by rw [bytesLess_eq]; simpa using h1
    rw [if_neg h1]
    by_cases h2 : b < a
    · have e2 : (a == b) = false := by
        have := less_ne h2
        simpa using fun e => this e.symm
      rw [if_pos h2]
      clear h1 h2
      go_enter Tryz.func116, Tryz.ntmps116
      go_wp2_with (first | (go_at_call 156; refine ha.out.mono ?_; rintro e w' ⟨rfl, h⟩; obtain rfl := h.symm; clear ha) | (go_at_call 156; refine hb.out.mono ?_; rintro e w' ⟨rfl, h⟩; obtain rfl := h.symm))
      go_ret
      exact ⟨rfl, rfl⟩
    · have e2 : (a == b) = true := by simpa using less_tri h1 h2
      rw [if_neg h2]
      clear h1 h2
      go_enter Tryz.func116, Tryz.ntmps116
      go_wp2_with (first | (go_at_call 156; refine ha.out.mono ?_; rintro e w' ⟨rfl, h⟩; obtain rfl := h.symm; clear ha) | (go_at_call 156; refine hb.out.mono ?_; rintro e w' ⟨rfl, h⟩; obtain rfl := h.symm))
      go_ret
      exact ⟨rfl, rfl⟩

theorem two_grow (w : World) (o p : Obj) : ∃ q os, (w.alloc o).alloc p = grow (w.drewN q) os := ⟨0, #[o, p], by rw [alloc_eq_grow, alloc_eq_grow, grow_grow]; rfl⟩

set_option maxRecDepth 100000 in
set_option maxHeartbeats 1600000 in
theorem less_any (x y : Wr) (w : World) : Calls Tryz.prog 115 #[.agg (wrC x).toArray, .agg (wrC y).toArray] w fun e w' => e = .returned (.int .i64 (cfW x y)) ∧ ∃ q os, w' = grow (w.drewN q) os := by
  have hc := fun W => Lib.hid (compare_any x.1 y.1 W)
  obtain ⟨r, hr⟩ : ∃ r, cfW x y = r := ⟨_, rfl⟩
  have hc2 : ∀ W, Hid (Calls Tryz.prog 116 #[.string ⟨x.1.toArray⟩, .string ⟨y.1.toArray⟩] W fun e w' => e = .returned (.int .i64 r) ∧ w' = W) := fun W => by
    rw [← hr]
    exact hc W
  rw [hr]
  clear hc hr
  show Calls Tryz.prog 115 #[.agg #[.string ⟨x.1.toArray⟩, .string ⟨x.2.1.toArray⟩, .bool x.2.2], .agg #[.string ⟨y.1.toArray⟩, .string ⟨y.2.1.toArray⟩, .bool y.2.2]] w _
  go_enter Tryz.func115, Tryz.ntmps115
  go_wp2_with (go_at_call 116; refine (hc2 _).out.mono ?_; rintro e w' ⟨rfl, h⟩; obtain rfl := h.symm)
  go_ret
  exact ⟨rfl, two_grow _ _ _⟩

end Go.Proofs.YtlchmkpnehbnlaaGreatDoor.Cd
