/-
  The document's Same of pairs. Conditions: none.
-/
import Derived.Test.YtlchmkpnehbnlaaGreatDoorG3
import Derived.Lib.Hide
import Derived.BigQuiet
import Derived.Laws.StructEq
import Derived.Deep.QuietTactic
/-
  The document's tables: Great, Long, Same. Conditions: none.
-/
namespace Go.Proofs.YtlchmkpnehbnlaaGreatDoor.Cd
open Go.RowKit

def sumW (l : List Wr) : Nat := (l.map fun p => 1 + p.1.length + p.2.1.length).sum
theorem sumW_len (l : List Wr) : l.length ≤ sumW l := by
  induction l with
  | nil => simp [sumW]
  | cons p r ih => unfold sumW at ih ⊢; simp only [List.length_cons, List.map_cons, List.sum_cons]; omega
theorem sumW_mem {l : List Wr} {p : Wr} (h : p ∈ l) : 1 + p.1.length + p.2.1.length ≤ sumW l := by
  induction l with
  | nil => cases h
  | cons q r ih =>
    unfold sumW at ih ⊢
    rcases List.mem_cons.1 h with rfl | h
    · simp
    · have := ih h
      simp only [List.map_cons, List.sum_cons]
      omega

def longW (l : List Wr) : Bool := l.any fun p => decide (48 < p.1.length) || decide (160 < p.2.1.length)

end Go.Proofs.YtlchmkpnehbnlaaGreatDoor.Cd

/-
  The document's Same of pairs. Conditions: none.
-/
namespace Go.Proofs.YtlchmkpnehbnlaaGreatDoor.Cd
open Go.RowKit

def prV (p : List UInt8 × List UInt8) : Value := .agg #[.string ⟨p.1.toArray⟩, .string ⟨p.2.toArray⟩]
def eqPr (p q : List UInt8 × List UInt8) : Bool := p.1 == q.1 && p.2 == q.2
theorem eqPr_iff (p q : List UInt8 × List UInt8) : eqPr p q = true ↔ p = q := by
  unfold eqPr
  rw [Bool.and_eq_true, beq_iff_eq, beq_iff_eq]
  exact ⟨fun h => Prod.ext h.1 h.2, fun h => by rw [h]; exact ⟨rfl, rfl⟩⟩
theorem fields_pr : Tryz.prog.underlying 49 = some (.struct (Tryz.prog.fieldsOf 49)) := by kernel_rfl
theorem held_pr : Tryz.prog.stoodInHeld 49 = false := by kernel_rfl
theorem guard_pr : Tryz.prog.eqGuardType Tryz.prog.depth 49 = false := by kernel_rfl
theorem equal_pr (p q : List UInt8 × List UInt8) (W : World) : (Op.equalIn 10000 49 (prV p) (prV q)).run Tryz.prog W = .ok (eqPr p q) W := by
  unfold prV
  rw [run_equalIn_struct W 9999 _ _ _ fields_pr held_pr]
  simp [Program.fieldsOf, Tryz.underlying49, Op.eqFields, go_sem]
  unfold eqPr
  by_cases h1 : p.1 = q.1
  · by_cases h2 : p.2 = q.2
    · simp [h1, h2]
    · simp [h1, h2]
  · simp [h1]
theorem neq_pr (p q : List UInt8 × List UInt8) (W : World) : (binOp .neq 49 (.agg #[.string ⟨p.1.toArray⟩, .string ⟨p.2.toArray⟩]) (.agg #[.string ⟨q.1.toArray⟩, .string ⟨q.2.toArray⟩])).run Tryz.prog W = .ok (.bool (!eqPr p q)) W := by
  have h := equal_pr p q W
  unfold prV at h
  rw [run_neq_struct, h]
  rfl

set_option maxRecDepth 100000 in
set_option maxHeartbeats 3200000 in
theorem same8_any (u v : Value) (a b : Prs) (w : World) (hu : PrIn w w.heap.size u a) (hv : PrIn w w.heap.size v b) :
    Calls Tryz.prog 19 #[u, v] w fun e w' => ∃ s : Bool, e = .returned (.bool s) ∧ (s = true ↔ a = b) ∧ Below w.heap.size w w' := by
  obtain ⟨A, c, rfl, ha1, ha2⟩ := hu.len
  obtain ⟨A2, c2, rfl, hb1, hb2⟩ := hv.len
  have HU := Lib.hid hu
  have HV := Lib.hid hv
  clear hu hv
  by_cases hl : a.length = b.length
  · have HLB := Lib.hid hl
    rw [← hl] at hb1 HV ⊢
    clear hl
    go_enter Tryz.func19, Tryz.ntmps19
    go_wp2_with fail
    go_loopw [5, 13] (fun _ i wr => ∃ k : Nat, i = .int .i64 k ∧ k ≤ a.length ∧ Hid (a.take k = b.take k) ∧ Hid (Below w.heap.size w wr)) (fun _ i _ => a.length - (intOf i).toNat)
    case atStart => exact ⟨0, rfl, by omega, rfl, Below.refl _ _⟩
    case round =>
      obtain ⟨k, rfl, hk, hst, hb⟩ := hrel
      by_cases hlt : k < a.length
      · obtain ⟨p, hpk⟩ : ∃ p, a[k]? = some p := ⟨a[k], List.getElem?_eq_getElem hlt⟩
        obtain ⟨q, hqk⟩ : ∃ q, b[k]? = some q := ⟨b[k]'(by rw [← HLB.out]; exact hlt), List.getElem?_eq_getElem (by rw [← HLB.out]; exact hlt)⟩
        obtain ⟨b2, off2, e2, hB2, d0, d1⟩ := (HU.out.below hb.out).at hpk
        obtain ⟨b3, off3, e3, hB3, f0, f1⟩ := (HV.out.below hb.out).at hqk
        subst e2 e3
        have hd : Hid (∀ n, Below w.heap.size w (wr.drewN n)) := fun n => hb.out.trans ⟨rfl, rfl, rfl, Nat.le_refl _, fun _ _ => rfl⟩
        have HP := Lib.hid hpk
        have HQ := Lib.hid hqk
        clear hpk hqk
        have hne := neq_pr p q
        have hgd := guard_pr
        obtain ⟨s, hs⟩ : ∃ s, eqPr p q = s := ⟨_, rfl⟩
        rw [hs] at hne
        have HS : Hid (s = true ↔ p = q) := by rw [← hs]; exact eqPr_iff p q
        clear hs
        cases s
        · have hno : Hid (a ≠ b) := fun e => by
            have h1 := HP.out
            rw [e, HQ.out] at h1
            injection h1 with h1
            exact absurd (HS.out.2 h1.symm) (by simp)
          go_wp2_with fail
          go_quiet (fail)
          all_goals go_wp2_with fail
          all_goals go_ret
          exact ⟨false, rfl, ⟨(fun h => by cases h), fun h => absurd h hno.out⟩, hd.out _⟩
        · have hst2 : Hid (a.take (k + 1) = b.take (k + 1)) := by
            obtain ⟨h1, rfl⟩ := List.getElem?_eq_some_iff.1 HP.out
            obtain ⟨h2, h3⟩ := List.getElem?_eq_some_iff.1 HQ.out
            unfold Hid
            rw [List.take_succ_eq_append_getElem h1, List.take_succ_eq_append_getElem h2, hst.out, h3, HS.out.1 rfl]
          go_wp2_with fail
          go_quiet (fail)
          all_goals go_wp2_with fail
          all_goals go_roundw
          case rel => exact ⟨k + 1, by go_num, by omega, hst2, hd.out _⟩
          case measure => simp [intOf]; omega
      · have he : Hid (a = b) := by
          have := hst.out
          rwa [List.take_of_length_le (by omega), List.take_of_length_le (by rw [← HLB.out]; omega)] at this
        go_wp2_with fail
        go_ret
        exact ⟨true, rfl, ⟨fun _ => he.out, fun _ => rfl⟩, hb.out⟩
  · have hl' : (a.length : Int) ≠ b.length := by omega
    go_enter Tryz.func19, Tryz.ntmps19
    go_wp2_with fail
    go_ret
    exact ⟨false, rfl, ⟨(fun h => by cases h), fun h => absurd (congrArg List.length h) hl⟩, Below.refl _ _⟩

end Go.Proofs.YtlchmkpnehbnlaaGreatDoor.Cd
