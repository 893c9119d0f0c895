/-
  The document's tables: Great, Long, Same. Conditions: none.
-/
import Derived.Test.YtcliknmcefcaeaaTbRows
import Derived.Lib.Hide
import Derived.BigQuiet
import Derived.Laws.StructEq
import Derived.Deep.QuietTactic
namespace Go.Proofs.Ytcliknmcefcaeaa.Cd
open Go.RowKit

/-- How much the writes have: 1 each, and their bytes. -/
def sumW (l : List Wr) : Nat := (l.map fun p => 1 + p.1.length + p.2.1.length).sum
theorem sumW_snoc {l : List Wr} {k : Nat} {p : Wr} (h : l[k]? = some p) : sumW (l.take (k + 1)) = sumW (l.take k) + (1 + p.1.length + p.2.1.length) := by
  obtain ⟨hk, rfl⟩ := List.getElem?_eq_some_iff.1 h
  unfold sumW
  rw [List.take_succ_eq_append_getElem hk, List.map_append, List.sum_append]
  simp
theorem sumW_len (l : List Wr) : l.length ≤ sumW l := by
  induction l with
  | nil => simp [sumW]
  | cons p r ih => unfold sumW at ih ⊢; simp only [List.length_cons, List.map_cons, List.sum_cons]; omega
theorem sumW_mem {l : List Wr} {p : Wr} (h : p ∈ l) : 1 + p.1.length + p.2.1.length ≤ sumW l := by
  induction l with
  | nil => cases h
  | cons q r ih =>
    unfold sumW at ih ⊢
    rcases List.mem_cons.1 h with rfl | h
    · simp
    · have := ih h
      simp only [List.map_cons, List.sum_cons]
      omega

set_option maxRecDepth 100000 in
set_option maxHeartbeats 1600000 in
theorem great10_any (v : Value) (l : List Wr) (most : Nat) (w : World) (h : TbIn w w.heap.size v l) (hf : FitW l) (hm : most ≤ 1048576) :
    Calls Try.prog 11 #[v, .int .i64 most] w fun e w' => ∃ g : Bool, e = .returned (.bool g) ∧ Below w.heap.size w w' ∧ (g = false → sumW l ≤ most) := by
  obtain ⟨A, c, rfl, hm1, hm2⟩ := h.len
  have H := Lib.hid h
  have HF := Lib.hid hf
  clear h hf
  go_enter Try.func11, Try.ntmps11
  go_wp2
  go_loopw [5, 10] (fun n i wr => ∃ (k m : Nat), i = .int .i64 k ∧ k ≤ l.length ∧ n = .int .i64 m ∧ m ≤ most ∧ Hid (m = sumW (l.take k)) ∧ Hid (Below w.heap.size w wr)) (fun _ i _ => l.length - (intOf i).toNat)
  case atStart => exact ⟨0, 0, rfl, by omega, rfl, by omega, rfl, Below.refl _ _⟩
  case round =>
    obtain ⟨k, m, rfl, hk, rfl, hmm, hst, hb⟩ := hrel
    by_cases hlt : k < l.length
    · obtain ⟨p, hpk⟩ : ∃ p, l[k]? = some p := ⟨l[k], List.getElem?_eq_getElem hlt⟩
      obtain ⟨b2, off2, e2, hB2, d0, d1, d2⟩ := (H.out.below hb.out).at hpk
      subst e2
      have hpf := HF.out p (List.mem_of_getElem? hpk)
      have hs := Lib.hid (sumW_snoc hpk)
      have hb2 : Hid (Below w.heap.size w (wr.alloc (.cells #[.string ⟨p.1.toArray⟩, .string ⟨p.2.1.toArray⟩, .bool p.2.2] 29))) := hb.out.trans (((Below.refl _ _).alloc (Nat.le_refl _) _).mono hb.out.size)
      have h1 := hpf.1
      have h2 := hpf.2
      clear hpk hpf hb
      by_cases hgr : m + (1 + p.1.length + p.2.1.length) ≤ most
      · have hgr' : (m : Int) + 1 + p.1.length + p.2.1.length ≤ most := by omega
        go_wp2_with fail
        go_roundw
        case rel => exact ⟨k + 1, m + (1 + p.1.length + p.2.1.length), by go_num, by omega, by go_num, hgr, by unfold Hid; rw [hs.out, hst.out], hb2.out⟩
        case measure => simp [intOf]; omega
      · have hgr' : (most : Int) < m + 1 + p.1.length + p.2.1.length := by omega
        go_wp2_with fail
        go_ret
        exact ⟨true, rfl, hb2.out, fun h => by cases h⟩
    · go_wp2_with fail
      go_ret
      refine ⟨false, rfl, hb.out, fun _ => ?_⟩
      have := hst.out
      rw [List.take_of_length_le (by omega)] at this
      omega

/-- A key or a value is too long. -/
def longW (l : List Wr) : Bool := l.any fun p => decide (48 < p.1.length) || decide (160 < p.2.1.length)

theorem eqW_def (a b : Wr) : a = b ↔ a.1 = b.1 ∧ a.2.1 = b.2.1 ∧ a.2.2 = b.2.2 := by
  obtain ⟨a1, a2, a3⟩ := a
  obtain ⟨b1, b2, b3⟩ := b
  constructor
  · rintro h; injection h with h1 h2; injection h2 with h2 h3; exact ⟨h1, h2, h3⟩
  · rintro ⟨h1, h2, h3⟩; simp only at h1 h2 h3; subst h1 h2 h3; rfl

def eqW (p q : Wr) : Bool := p.1 == q.1 && (p.2.1 == q.2.1 && p.2.2 == q.2.2)
theorem eqW_iff (p q : Wr) : eqW p q = true ↔ p = q := by
  rw [eqW_def]
  unfold eqW
  simp
theorem fields_wr : Try.prog.underlying 29 = some (.struct (Try.prog.fieldsOf 29)) := by kernel_rfl
theorem held_wr : Try.prog.stoodInHeld 29 = false := by kernel_rfl
theorem guard_wr : Try.prog.eqGuardType Try.prog.depth 29 = false := by kernel_rfl
theorem equal_wr (p q : Wr) (W : World) : (Op.equalIn 10000 29 (wrV p) (wrV q)).run Try.prog W = .ok (eqW p q) W := by
  unfold wrV
  rw [run_equalIn_struct W 9999 _ _ _ fields_wr held_wr]
  simp [Program.fieldsOf, Try.underlying29, Op.eqFields, go_sem]
  unfold eqW
  by_cases h1 : p.1 = q.1
  · by_cases h2 : p.2.1 = q.2.1
    · by_cases h3 : p.2.2 = q.2.2
      · simp [h1, h2, h3]
      · simp [h1, h2, h3]
    · simp [h1, h2]
  · simp [h1]
/-- A comparison of two writes. -/
theorem neq_wr (p q : Wr) (W : World) : (binOp .neq 29 (.agg #[.string ⟨p.1.toArray⟩, .string ⟨p.2.1.toArray⟩, .bool p.2.2]) (.agg #[.string ⟨q.1.toArray⟩, .string ⟨q.2.1.toArray⟩, .bool q.2.2])).run Try.prog W = .ok (.bool (!eqW p q)) W := by
  have h := equal_wr p q W
  unfold wrV at h
  rw [run_neq_struct, h]
  rfl
theorem eql_wr (p q : Wr) (W : World) : (binOp .eql 29 (.agg #[.string ⟨p.1.toArray⟩, .string ⟨p.2.1.toArray⟩, .bool p.2.2]) (.agg #[.string ⟨q.1.toArray⟩, .string ⟨q.2.1.toArray⟩, .bool q.2.2])).run Try.prog W = .ok (.bool (eqW p q)) W := by
  have h := equal_wr p q W
  unfold wrV at h
  rw [run_eql_struct, h]
  rfl

set_option maxRecDepth 100000 in
set_option maxHeartbeats 3200000 in
theorem same10_any (u v : Value) (a b : List Wr) (w : World) (hu : TbIn w w.heap.size u a) (hv : TbIn w w.heap.size v b) :
    Calls Try.prog 15 #[u, v] w fun e w' => ∃ s : Bool, e = .returned (.bool s) ∧ (s = true ↔ a = b) ∧ Below w.heap.size w w' := by
  obtain ⟨A, c, rfl, ha1, ha2⟩ := hu.len
  obtain ⟨A2, c2, rfl, hb1, hb2⟩ := hv.len
  have HU := Lib.hid hu
  have HV := Lib.hid hv
  clear hu hv
  by_cases hl : a.length = b.length
  · have HLB := Lib.hid hl
    rw [← hl] at hb1 HV ⊢
    clear hl
    go_enter Try.func15, Try.ntmps15
    go_wp2_with fail
    go_loopw [5, 13] (fun _ i wr => ∃ k : Nat, i = .int .i64 k ∧ k ≤ a.length ∧ Hid (a.take k = b.take k) ∧ Hid (Below w.heap.size w wr)) (fun _ i _ => a.length - (intOf i).toNat)
    case atStart => exact ⟨0, rfl, by omega, rfl, Below.refl _ _⟩
    case round =>
      obtain ⟨k, rfl, hk, hst, hb⟩ := hrel
      by_cases hlt : k < a.length
      · obtain ⟨p, hpk⟩ : ∃ p, a[k]? = some p := ⟨a[k], List.getElem?_eq_getElem hlt⟩
        obtain ⟨q, hqk⟩ : ∃ q, b[k]? = some q := ⟨b[k]'(by rw [← HLB.out]; exact hlt), List.getElem?_eq_getElem (by rw [← HLB.out]; exact hlt)⟩
        obtain ⟨b2, off2, e2, hB2, d0, d1, d2⟩ := (HU.out.below hb.out).at hpk
        obtain ⟨b3, off3, e3, hB3, f0, f1, f2⟩ := (HV.out.below hb.out).at hqk
        subst e2 e3
        have hd : Hid (∀ n, Below w.heap.size w (wr.drewN n)) := fun n => hb.out.trans ⟨rfl, rfl, rfl, Nat.le_refl _, fun _ _ => rfl⟩
        have HP := Lib.hid hpk
        have HQ := Lib.hid hqk
        clear hpk hqk
        have hne := neq_wr p q
        have hgd := guard_wr
        obtain ⟨s, hs⟩ : ∃ s, eqW p q = s := ⟨_, rfl⟩
        rw [hs] at hne
        have HS : Hid (s = true ↔ p = q) := by rw [← hs]; exact eqW_iff p q
        clear hs
        cases s
        · have hno : Hid (a ≠ b) := fun e => by
            have h1 := HP.out
            rw [e, HQ.out] at h1
            injection h1 with h1
            exact absurd (HS.out.2 h1.symm) (by simp)
          go_wp2_with fail
          go_quiet (fail)
          all_goals go_wp2_with fail
          all_goals go_ret
          exact ⟨false, rfl, ⟨(fun h => by cases h), fun h => absurd h hno.out⟩, hd.out _⟩
        · have hst2 : Hid (a.take (k + 1) = b.take (k + 1)) := by
            obtain ⟨h1, rfl⟩ := List.getElem?_eq_some_iff.1 HP.out
            obtain ⟨h2, h3⟩ := List.getElem?_eq_some_iff.1 HQ.out
            unfold Hid
            rw [List.take_succ_eq_append_getElem h1, List.take_succ_eq_append_getElem h2, hst.out, h3, HS.out.1 rfl]
          go_wp2_with fail
          go_quiet (fail)
          all_goals go_wp2_with fail
          all_goals go_roundw
          case rel => exact ⟨k + 1, by go_num, by omega, hst2, hd.out _⟩
          case measure => simp [intOf]; omega
      · have he : Hid (a = b) := by
          have := hst.out
          rwa [List.take_of_length_le (by omega), List.take_of_length_le (by rw [← HLB.out]; omega)] at this
        go_wp2_with fail
        go_ret
        exact ⟨true, rfl, ⟨fun _ => he.out, fun _ => rfl⟩, hb.out⟩
  · have hl' : (a.length : Int) ≠ b.length := by omega
    go_enter Try.func15, Try.ntmps15
    go_wp2_with fail
    go_ret
    exact ⟨false, rfl, ⟨(fun h => by cases h), fun h => absurd (congrArg List.length h) hl⟩, Below.refl _ _⟩

end Go.Proofs.Ytcliknmcefcaeaa.Cd
