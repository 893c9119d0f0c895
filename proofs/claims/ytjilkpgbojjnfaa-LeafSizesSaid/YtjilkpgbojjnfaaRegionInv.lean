/-
  A region that draws its order, walked by an invariant: each operation once, whatever has come up before it. Conditions: none.
-/
import Derived.Test.YtjilkpgbojjnfaaBase
import Derived.Orders
namespace Go.Proofs.Ytjilkpgbojjnfaa.Cd
open Go.RowKit

section
variable {P : Program} {ops : Array Oper} {Q : Exit → Act → World → Prop}

theorem ready_mem {md : Region.Mode} {listed : Array Bool} {i : Nat} : i ∈ Region.ready md ops listed ↔ i < ops.size ∧ listed.getD i true = false ∧ ∃ o, ops[i]? = some o ∧ ∀ e ∈ o.after, Region.binds md e = true → listed.getD e.on false = true := by
  unfold Region.ready
  simp only [List.mem_filter, List.mem_range, Bool.and_eq_true, Bool.not_eq_true']
  constructor
  · rintro ⟨h1, h2, h3⟩
    refine ⟨h1, h2, ops[i], Array.getElem?_eq_getElem h1, fun e he hb => ?_⟩
    rw [Array.getElem?_eq_getElem h1] at h3
    simp only [Option.map_some, Option.getD_some, Array.all_eq_true_iff_forall_mem] at h3
    have := h3 e he
    rw [hb] at this
    simpa using this
  · rintro ⟨h1, h2, o, ho, h3⟩
    refine ⟨h1, h2, ?_⟩
    rw [ho]
    simp only [Option.map_some, Option.getD_some, Array.all_eq_true_iff_forall_mem]
    intro e he
    cases hb : Region.binds md e
    · rfl
    · simpa using h3 e he hb

theorem getD_false {l : Array Bool} {i : Nat} (h : l.getD i true = false) : i < l.size ∧ l[i]? = some false := by
  by_cases hi : i < l.size
  · refine ⟨hi, ?_⟩
    simp [hi] at h
    rw [Array.getElem?_eq_getElem hi, h]
  · simp [hi] at h

/-- How many have not come up. -/
def left (l : Array Bool) : Nat := l.toList.count false
theorem left_set {l : Array Bool} {i : Nat} (h : l.getD i true = false) : left (l.setIfInBounds i true) + 1 = left l := by
  obtain ⟨hi, hv⟩ := getD_false h
  have hi2 : i < l.toList.length := by simpa using hi
  have hv2 : l.toList[i] = false := by
    rw [Array.getElem?_eq_getElem hi] at hv
    simpa using hv
  have hpos : 0 < l.toList.count false := List.count_pos_iff.2 (by rw [← hv2]; exact List.getElem_mem hi2)
  have e : (l.toList.set i true).count false = l.toList.count false - 1 := by
    rw [List.count_set hi2, hv2]
    simp
  unfold left
  rw [Array.toList_setIfInBounds, e]
  omega

/-- Each operation waits for earlier ones alone. -/
def Backward (ops : Array Oper) : Prop := ∀ (i : Nat) (o : Oper), ops[i]? = some o → ∀ e ∈ o.after, e.on < i
def backB (ops : Array Oper) : Bool := (List.range ops.size).all fun i => match ops[i]? with | some o => o.after.all (fun e => decide (e.on < i)) | none => true
theorem backward_of (h : backB ops = true) : Backward ops := by
  intro i o ho e he
  have hi := (Array.getElem?_eq_some_iff.1 ho).1
  have h1 := List.all_eq_true.1 h i (List.mem_range.2 hi)
  rw [ho] at h1
  simp only [Array.all_eq_true_iff_forall_mem, decide_eq_true_eq] at h1
  exact h1 e he

theorem ready_nil {md : Region.Mode} {listed : Array Bool} (hz : listed.size = ops.size) (hback : Backward ops) (h : Region.ready md ops listed = []) : ∀ i, i < ops.size → listed.getD i false = true := by
  intro i
  induction i using Nat.strongRecOn with
  | _ i ih =>
    intro hi
    cases hl : listed.getD i true with
    | true => simpa [show i < listed.size by omega] using hl
    | false =>
      have hm : i ∈ Region.ready md ops listed := ready_mem.2 ⟨hi, hl, ops[i], Array.getElem?_eq_getElem hi, fun e he _ => by
        have hlt := hback i ops[i] (Array.getElem?_eq_getElem hi) e he
        have := ih e.on hlt (by omega)
        exact this⟩
      rw [h] at hm
      cases hm

theorem wpAny_inv (hback : Backward ops) (I : Array Bool → Act → World → Prop)
    (hstep : ∀ i listed a w, listed.size = ops.size → I listed a w → i ∈ Region.ready .any ops listed → wpOp P ops Q i (I (listed.setIfInBounds i true)) a w)
    (hfin : ∀ listed a w, I listed a w → (∀ i, i < ops.size → listed.getD i false = true) → Q .normal a w) :
    ∀ fuel listed a w, listed.size = ops.size → left listed ≤ fuel → I listed a w → wpAny P .any ops Q fuel listed a w := by
  intro fuel
  induction fuel with
  | zero =>
    intro listed a w hz hl hI
    have hr : Region.ready .any ops listed = [] := by
      rw [List.eq_nil_iff_forall_not_mem]
      intro i hi
      have := left_set (ready_mem.1 hi).2.1
      omega
    exact ⟨hr, hfin listed a w hI (ready_nil hz hback hr)⟩
  | succ fuel ih =>
    intro listed a w hz hl hI
    refine ⟨fun hr => hfin listed a w hI (ready_nil hz hback hr), fun i hi => ?_⟩
    refine wpOp_mono (fun a' w' h' => ih _ a' w' (by simpa using hz) ?_ h') (hstep i listed a w hz hI hi)
    have := left_set (ready_mem.1 hi).2.1
    omega

/-- Each operation is shown once, of whatever has come up ahead of it. -/
theorem wp_region_inv {id : Nat} {a : Act} {w : World} (hm : P.follows .mixedOrders = true) (hback : Backward ops) (I : Array Bool → Act → World → Prop)
    (h0 : I (Array.replicate ops.size false) a w.drew)
    (hstep : ∀ i listed a w, listed.size = ops.size → I listed a w → i ∈ Region.ready .any ops listed → wpOp P ops Q i (I (listed.setIfInBounds i true)) a w)
    (hfin : ∀ listed a w, I listed a w → (∀ i, i < ops.size → listed.getD i false = true) → Q .normal a w) : (Code.region id ops true).wp P Q a w :=
  wp_region_any hm (wpAny_inv hback I hstep hfin _ _ a _ (by simp) (by simp [left]) h0)

theorem wpOp_of {i : Nat} {o : Oper} {K : Act → World → Prop} {a : Act} {w : World} (hi : ops[i]? = some o) (h : if Region.wanted o (yielded ops a.tmps) = true then o.wp P a w K Q else K (a.put o.dst undef) w) : wpOp P ops Q i K a w := by
  unfold wpOp
  rw [hi]
  simp only
  split
  · rename_i hw
    rw [if_pos hw] at h
    exact .inl h
  · rename_i hw
    rw [if_neg hw] at h
    exact h
end

/-- Operation i waits for operation j. -/
def waitsB (ops : Array Oper) (i j : Nat) : Bool := match ops[i]? with | some o => o.after.any (fun e => e.on == j && Region.binds .any e) | none => false
theorem ready_waits {ops : Array Oper} {listed : Array Bool} {i j : Nat} (h : i ∈ Region.ready .any ops listed) (hw : waitsB ops i j = true) : listed.getD j false = true := by
  obtain ⟨_, _, o, ho, haft⟩ := ready_mem.1 h
  unfold waitsB at hw
  rw [ho] at hw
  simp only at hw
  obtain ⟨e, he, hb⟩ := Array.any_eq_true'.1 hw
  simp only [Bool.and_eq_true, beq_iff_eq] at hb
  have := haft e he hb.2
  rw [hb.1] at this
  exact this

/-- What has come up: once a bit is set it stays. -/
theorem bit_set {l : Array Bool} {i j : Nat} : (l.setIfInBounds i true).getD j false = true ↔ (i = j ∧ j < l.size) ∨ l.getD j false = true := by
  by_cases hj : j < l.size
  · by_cases e : i = j
    · subst e
      simp [hj]
    · simp [hj, e, Array.getElem_setIfInBounds]
  · simp [hj]

end Go.Proofs.Ytjilkpgbojjnfaa.Cd
