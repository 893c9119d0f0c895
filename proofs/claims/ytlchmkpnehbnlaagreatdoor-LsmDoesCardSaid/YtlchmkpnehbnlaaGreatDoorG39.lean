/-
  strings.Compare. Conditions: none.
-/
import Derived.Test.YtlchmkpnehbnlaaGreatDoorG13
import Derived.Lib.Bytealg
import Derived.Laws.Externs
namespace Go.Proofs.YtlchmkpnehbnlaaGreatDoor.Cd
open Go.RowKit Go.Sort

theorem compare_is : ∀ (a b : List UInt8), Lib.compareBytes a b = cmpB a b
  | [], [] => by simp [Lib.compareBytes, cmpB]
  | [], _ :: _ => by simp [Lib.compareBytes, cmpB]
  | _ :: _, [] => by simp [Lib.compareBytes, cmpB]
  | x :: r, y :: s => by
    have ih := compare_is r s
    unfold cmpB at ih ⊢
    rw [Lib.compareBytes]
    simp only [List.cons_lt_cons_iff]
    by_cases h1 : x < y
    · simp [h1]
    · by_cases h2 : y < x
      · have hne : x ≠ y := fun e => by subst e; exact h1 h2
        simp [h1, h2, hne]
      · have he : x = y := UInt8.le_antisymm (UInt8.not_lt.1 h2) (UInt8.not_lt.1 h1)
        subst he
        simp [h1, ih]

set_option maxHeartbeats 1000000 in
set_option maxRecDepth 100000 in
theorem cmpstr_any (a b : List UInt8) (w : World) :
    Calls Tryz.prog 125 #[.string ⟨a.toArray⟩, .string ⟨b.toArray⟩] w fun e w' => e = .returned (.int .i64 (Lib.compareBytes a b)) ∧ w' = w := by
  go_enter Tryz.func125, Tryz.ntmps125
  go_wp2
  rw [run_callFunc_extern Tryz.func160 (by kernel_rfl) (by kernel_rfl) (by kernel_rfl) (e := Extern.BytealgCompare.compare) (by kernel_rfl), Lib.run_compareString]
  simp only [Result.andThen]
  rw [Oper.upon_value]
  go_wp2
  go_ret
  exact ⟨rfl, rfl⟩
set_option maxHeartbeats 1000000 in
set_option maxRecDepth 100000 in
theorem scompare_any : CmpOk := fun a b w => by
  go_enter Tryz.func78, Tryz.ntmps78
  go_wp2_with fail
  refine (cmpstr_any a b w).mono ?_
  rintro e w1 ⟨rfl, h⟩
  obtain rfl := h.symm
  rw [compare_is]
  go_wp2_with fail
  go_ret
  exact ⟨rfl, rfl⟩

end Go.Proofs.YtlchmkpnehbnlaaGreatDoor.Cd
