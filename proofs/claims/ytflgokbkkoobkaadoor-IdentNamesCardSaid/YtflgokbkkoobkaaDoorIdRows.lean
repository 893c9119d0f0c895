/-
  Blocks of cells: cells that are stored in one go, bytes that are copied into the middle of a block. Conditions: none.
-/
import Derived.Test.YtflgokbkkoobkaaDoorBase
import Derived.Deep.WholeRow
import Derived.Deep.MidRow
import Derived.Laws.IdiomCopy
import Derived.Lib.SliceRun
namespace Go.Proofs.YtflgokbkkoobkaaDoor.Cd
open Go.RowKit

/-- Cells of a list that are others. -/
def laid (c : List Value) : Nat → List Value → List Value
  | _, [] => c
  | o, v :: r => laid (c.set o v) (o + 1) r
theorem laid_length (vs : List Value) : ∀ (c : List Value) (o : Nat), (laid c o vs).length = c.length := by
  induction vs with
  | nil => intro c o; rfl
  | cons v r ih => intro c o; rw [laid, ih, List.length_set]
theorem laid_at (vs : List Value) : ∀ (c : List Value) (o j : Nat), (laid c o vs)[j]? = if o ≤ j ∧ j < o + vs.length ∧ j < c.length then vs[j - o]? else c[j]? := by
  induction vs with
  | nil => intro c o j; rw [laid, if_neg (by simp; omega)]
  | cons v r ih =>
    intro c o j
    rw [laid, ih, List.length_set, List.length_cons]
    by_cases h1 : o + 1 ≤ j ∧ j < o + 1 + r.length ∧ j < c.length
    · rw [if_pos h1, if_pos (by omega), show j - o = j - (o + 1) + 1 by omega, List.getElem?_cons_succ]
    · rw [if_neg h1]
      by_cases h2 : j = o
      · subst h2
        by_cases h3 : j < c.length
        · rw [if_pos (by omega), Nat.sub_self, List.getElem?_cons_zero, List.getElem?_set_self h3]
        · rw [if_neg (by omega), List.getElem?_eq_none (by rw [List.length_set]; omega), List.getElem?_eq_none (by omega)]
      · rw [if_neg (by omega), List.getElem?_set_ne (fun e => h2 e.symm)]
theorem setCells_row (g : Nat) (T : TypeId) (vs : List Value) : ∀ (w : World) (c : List Value) (o : Nat), w.heap[g]? = some (.cells c.toArray T (0, 0)) → (w.setCells g o vs).heap[g]? = some (.cells (laid c o vs).toArray T (0, 0)) := by
  induction vs with
  | nil => intro w c o h; exact h
  | cons v r ih =>
    intro w c o h
    rw [World.setCells, laid]
    refine ih _ _ _ ?_
    have := heap_setCell_same w g o _ T v h
    rw [List.setIfInBounds_toArray] at this
    exact this
theorem setCells_grown (g : Nat) (vs : List Value) : ∀ (w : World) (o : Nat), w.grownBy (w.setCells g o vs) (some g) := by
  induction vs with
  | nil => intro w o; exact ⟨rfl, rfl, rfl, Nat.le_refl _, fun _ _ _ => rfl⟩
  | cons v r ih =>
    intro w o
    rw [World.setCells]
    have h1 : w.grownBy (w.setCell ⟨g, o, none⟩ v) (some g) := ⟨rfl, rfl, rfl, by simp, fun k _ hk => heap_setCell_other _ _ _ _ (fun e => hk (by rw [e]))⟩
    exact h1.trans (ih _ _)
theorem laid_mid (pre old post vs : List Value) (h : vs.length = old.length) : laid (pre ++ old ++ post) pre.length vs = pre ++ vs ++ post := by
  apply List.ext_getElem?
  intro j
  rw [laid_at]
  simp only [List.length_append]
  by_cases h1 : pre.length ≤ j ∧ j < pre.length + vs.length ∧ j < pre.length + old.length + post.length
  · rw [if_pos h1, List.append_assoc, List.getElem?_append_right h1.1, List.getElem?_append_left (by omega)]
  · rw [if_neg h1]
    by_cases h2 : j < pre.length
    · rw [List.append_assoc, List.getElem?_append_left h2, List.append_assoc, List.getElem?_append_left h2]
    · rw [List.getElem?_append_right (by simp; omega), List.getElem?_append_right (by simp; omega)]
      simp only [List.length_append, h]

/-- What copy leaves of a block whose cells from o on are a slice of n bytes. -/
theorem run_copy_in {w : World} {g o n c : Nat} {C : List Value} {T : TypeId} (hrow : w.heap[g]? = some (.cells C.toArray T)) (hn : o + n ≤ C.length) {y : Value} {B : Nat} {bs : List UInt8} (hy : Sl w B y bs) (ty : TypeId) :
    ∃ w', (Builtin.copy_ #[22, 22] ty #[.slice (some ⟨g, o, none⟩) n c, y]).run Tryd.prog w = .ok (.int .i64 (Nat.min bs.length n : Nat)) w' ∧ w'.heap[g]? = some (.cells (laid C o (vb (bs.take n))).toArray T) ∧ w.grownBy w' (some g) := by
  obtain ⟨A, c', rfl, h2, h3, h4, h5, h6⟩ := hy
  by_cases h0 : Nat.min bs.length n = 0
  · have ht : bs.take n = [] := by
      apply List.eq_nil_of_length_eq_zero
      rw [List.length_take, Nat.min_comm]
      exact h0
    refine ⟨w, ?_, by rw [ht]; exact hrow, ⟨rfl, rfl, rfl, Nat.le_refl _, fun _ _ _ => rfl⟩⟩
    rw [run_copy_none w _ _ _ 5 _ _ _ _ _ _ Tryd.underlying22 (by kernel_rfl) h0, h0]
    rfl
  · have hmin : Nat.min bs.length n ≤ bs.length := Nat.min_le_left _ _
    have hmin2 : Nat.min bs.length n ≤ n := Nat.min_le_right _ _
    have hlen : (vb (bs.take n)).length = Nat.min bs.length n := by rw [vb_length, List.length_take, Nat.min_comm]
    cases A with
    | none => have := h4 rfl; omega
    | some ad =>
      have hcell : ∀ j, j < C.length → (w.cell? ⟨g, j, none⟩).isSome = true := fun j hj => by
        rw [cell_of_row _ _ _ _ _ _ hrow, Array.getElem?_eq_getElem (by simpa using hj)]
        rfl
      have hsrc : ∀ j v, (vb (bs.take n))[j]? = some v → w.cell? (ad.add j) = some v := fun j v hv => by
        refine h6 ad rfl j v ?_
        have hj := (List.getElem?_eq_some_iff.1 hv).1
        rw [vb_length] at hj
        rw [vb_at _ j hj] at hv
        rw [List.length_take] at hj
        rw [vb_at _ j (by omega), ← hv, List.getElem_take]
      have hrun := run_copy_cells (P := Tryd.prog) w 22 22 ty 5 g o n c ad bs.length c' (vb (bs.take n)) Tryd.underlying22 (by kernel_rfl) hlen
        hsrc (fun j hj => hcell _ (by omega)) (fun j hj => by simp [World.frozen?, hrow]) (vb_one _)
      rw [hlen] at hrun
      exact ⟨_, hrun, setCells_row g T _ w C o hrow, setCells_grown _ _ _ _⟩

theorem wp_copy_in {w : World} {ops : Array Oper} {rest : List Oper} {op : Oper} {a : Act} {Q : Exit → Act → World → Prop} (hgd : op.guard = none) (d x : Operand)
    (hop : op.op = Op.call { callee := Callee.builtin Builtin.copy, args := #[d, x], argTypes := #[22, 22] }) (g o n c : Nat) (C : List Value) (T : TypeId) (hrow : w.heap[g]? = some (.cells C.toArray T)) (hn : o + n ≤ C.length)
    (hd : a.eval d = .slice (some ⟨g, o, none⟩) n c) (y : Value) (B : Nat) (bs : List UInt8) (hx : a.eval x = y) (hy : Sl w B y bs)
    (hK : ∀ w', w'.heap[g]? = some (.cells (laid C o (vb (bs.take n))).toArray T) → w.grownBy w' (some g) → wpList Tryd.prog ops Q rest (a.put op.dst (.int .i64 (Nat.min bs.length n : Nat))) w') : wpList Tryd.prog ops Q (op :: rest) a w := by
  refine wpList_plain hgd fun K hK' => ?_
  obtain ⟨w', hrun, r1, r2⟩ := run_copy_in (c := c) hrow hn hy op.type
  unfold Oper.wp
  simp [execOp, hop, resolve, invoke, builtin, hd, hx, hrun, Result.andThen]
  exact hK' _ _ (hK w' r1 r2)

theorem setRow_grown (w : World) (g : Nat) (cs : Array Value) : w.grownBy (w.setRow g cs) (some g) :=
  ⟨rfl, rfl, rfl, by simp, fun k _ hk => setRow_other w g k cs (fun e => hk (by rw [e]))⟩

/-- A variable of many cells is laid out: noughts. -/
theorem wp_alloc_row {T : TypeId} {C : Array Value} (hz : ∀ W, (zeroValue T).run Tryd.prog W = .ok (.agg C) W) {ops : Array Oper} {rest : List Oper} {o : Oper} {a : Act} {w : World} {Q : Exit → Act → World → Prop} (hgd : o.guard = none) (ho : o.op = .alloc T)
    (h : wpList Tryd.prog ops Q rest (a.put o.dst (.pointer (some ⟨w.heap.size, 0, none⟩))) (w.alloc (.cells C T))) : wpList Tryd.prog ops Q (o :: rest) a w :=
  wpList_plain hgd fun K hK => by
    unfold Oper.wp
    simp [execOp, ho, Instr.alloc, hz, newVar, newRow, newObj, Value.cells, Result.andThen]
    exact hK _ _ h
/-- A value of many cells is put into a block of its own. -/
theorem wp_box_row {T : TypeId} {C : Array Value} {ops : Array Oper} {rest : List Oper} {o : Oper} {a : Act} {w : World} {Q : Exit → Act → World → Prop} (hgd : o.guard = none) (x : Operand) (ho : o.op = .box T x) (hx : a.eval x = .agg C)
    (h : wpList Tryd.prog ops Q rest (a.put o.dst (.pointer (some ⟨w.heap.size, 0, none⟩))) (w.alloc (.cells C T))) : wpList Tryd.prog ops Q (o :: rest) a w :=
  wpList_plain hgd fun K hK => by
    unfold Oper.wp
    simp [execOp, ho, hx, Instr.box, newVar, newRow, newObj, Value.cells, Result.andThen]
    exact hK _ _ h
/-- A value of many cells is laid out of parts. -/
theorem wp_build_row {T : TypeId} {C : Array Value} {ops : Array Oper} {rest : List Oper} {o : Oper} {a : Act} {w : World} {Q : Exit → Act → World → Prop} (hgd : o.guard = none) (parts : Array (Nat × Operand)) (ho : o.op = .build T parts)
    (vs : List (Nat × Value)) (hb : Tryd.prog.built T vs = some C) (hv : (parts.map fun (i, x) => (i, a.eval x)).toList = vs)
    (h : wpList Tryd.prog ops Q rest (a.put o.dst (.agg C)) w) : wpList Tryd.prog ops Q (o :: rest) a w :=
  wpList_build hgd T parts ho (by rw [hv, hb]; rfl) (by rw [hv, hb]; exact h)
/-- A value goes into a block. -/
theorem wp_put_row {T : TypeId} {C : Array Value} {n : Nat} (hT : (Tryd.prog.info? T).map (·.size) = some n) {ops : Array Oper} {rest : List Oper} {o : Oper} {a : Act} {w : World} {Q : Exit → Act → World → Prop} (hgd : o.guard = none) (x y : Operand) (ho : o.op = .store T x y)
    (g : Nat) (hx : a.eval x = .pointer (some ⟨g, 0, none⟩)) (hy : a.eval y = .agg C) (hC : C.size = n) (h1 : ∀ u ∈ C.toList, u.oneCell' = true) (old : Array Value) (hold : old.size = n) (T' : TypeId) (hg : w.heap[g]? = some (.cells old T'))
    (h : ∀ w', w'.heap[g]? = some (.cells C T') → w.grownBy w' (some g) → wpList Tryd.prog ops Q rest (a.put o.dst undef) w') : wpList Tryd.prog ops Q (o :: rest) a w :=
  wpList_store_row hgd _ x y ho g C hx hy _ old hg (by rw [hC]; exact hT) (by rw [hC, hold]) (by have := all_oneCell_toArray h1; simpa using this) (h _ (setRow_heap w g old _ _ _ hg) (setRow_grown w g _))
set_option maxRecDepth 100000 in
/-- A block that was laid out a moment ago is filled. -/
theorem wp_fill_row {T : TypeId} {C : Array Value} {n : Nat} (hT : (Tryd.prog.info? T).map (·.size) = some n) {ops : Array Oper} {rest : List Oper} {o : Oper} {a : Act} {w : World} {Q : Exit → Act → World → Prop} (hgd : o.guard = none) (x y : Operand) (ho : o.op = .store T x y)
    (old : Array Value) (hold : old.size = n) (T' : TypeId) (hx : a.eval x = .pointer (some ⟨w.heap.size, 0, none⟩)) (hy : a.eval y = .agg C) (hC : C.size = n) (h1 : ∀ u ∈ C.toList, u.oneCell' = true)
    (h : wpList Tryd.prog ops Q rest (a.put o.dst undef) (w.alloc (.cells C T'))) : wpList Tryd.prog ops Q (o :: rest) a (w.alloc (.cells old T')) :=
  wpList_store_row hgd _ x y ho w.heap.size C hx hy _ old (heap_alloc_new w _) (by rw [hC]; exact hT) (by rw [hC, hold]) (by have := all_oneCell_toArray h1; simpa using this) (by
    have e : (w.alloc (.cells old T')).setRow w.heap.size C = w.alloc (.cells C T') := by
      unfold World.setRow World.alloc
      congr 1
      apply Array.ext
      · simp
      · intro k h1 h2
        simp only [Array.getElem_modify, Array.getElem_push]
        by_cases hk : w.heap.size = k
        · subst hk; simp
        · have : k < w.heap.size := by simp at h2; omega
          simp [hk, this]
    rw [e]
    exact h)

end Go.Proofs.YtflgokbkkoobkaaDoor.Cd
