/-
  Two names are the same if all of their cells are. Conditions: none.
-/
import Derived.Test.YthbahbcihaebeaaDoorG3
import Derived.Deep.WholeRow
import Derived.Deep.MidRow
import Derived.Laws.IdiomCopy
import Derived.Lib.SliceRun
import Derived.Test.YthbahbcihaebeaaDoorG1
import Derived.ChangeKeysEq
import Derived.Laws.StructEq
/-
  Blocks of cells: cells that are stored in one go, bytes that are copied into the middle of a block. Conditions: none.
-/
namespace Go.Proofs.YthbahbcihaebeaaDoor.Cd
open Go.RowKit

/-- Cells of a list that are others. -/
def laid (c : List Value) : Nat → List Value → List Value
  | _, [] => c
  | o, v :: r => laid (c.set o v) (o + 1) r
theorem laid_length (vs : List Value) : ∀ (c : List Value) (o : Nat), (laid c o vs).length = c.length := by
  induction vs with
  | nil => intro c o; rfl
  | cons v r ih => intro c o; rw [laid, ih, List.length_set]
theorem laid_at (vs : List Value) : ∀ (c : List Value) (o j : Nat), (laid c o vs)[j]? = if o ≤ j ∧ j < o + vs.length ∧ j < c.length then vs[j - o]? else c[j]? := by
  induction vs with
  | nil => intro c o j; rw [laid, if_neg (by simp; omega)]
  | cons v r ih =>
    intro c o j
    rw [laid, ih, List.length_set, List.length_cons]
    by_cases h1 : o + 1 ≤ j ∧ j < o + 1 + r.length ∧ j < c.length
    · rw [if_pos h1, if_pos (by omega), show j - o = j - (o + 1) + 1 by omega, List.getElem?_cons_succ]
    · rw [if_neg h1]
      by_cases h2 : j = o
      · subst h2
        by_cases h3 : j < c.length
        · rw [if_pos (by omega), Nat.sub_self, List.getElem?_cons_zero, List.getElem?_set_self h3]
        · rw [if_neg (by omega), List.getElem?_eq_none (by rw [List.length_set]; omega), List.getElem?_eq_none (by omega)]
      · rw [if_neg (by omega), List.getElem?_set_ne (fun e => h2 e.symm)]
theorem setCells_row (g : Nat) (T : TypeId) (vs : List Value) : ∀ (w : World) (c : List Value) (o : Nat), w.heap[g]? = some (.cells c.toArray T (0, 0)) → (w.setCells g o vs).heap[g]? = some (.cells (laid c o vs).toArray T (0, 0)) := by
  induction vs with
  | nil => intro w c o h; exact h
  | cons v r ih =>
    intro w c o h
    rw [World.setCells, laid]
    refine ih _ _ _ ?_
    have := heap_setCell_same w g o _ T v h
    rw [List.setIfInBounds_toArray] at this
    exact this
theorem setCells_grown (g : Nat) (vs : List Value) : ∀ (w : World) (o : Nat), w.grownBy (w.setCells g o vs) (some g) := by
  induction vs with
  | nil => intro w o; exact ⟨rfl, rfl, rfl, Nat.le_refl _, fun _ _ _ => rfl⟩
  | cons v r ih =>
    intro w o
    rw [World.setCells]
    have h1 : w.grownBy (w.setCell ⟨g, o, none⟩ v) (some g) := ⟨rfl, rfl, rfl, by simp, fun k _ hk => heap_setCell_other _ _ _ _ (fun e => hk (by rw [e]))⟩
    exact h1.trans (ih _ _)
theorem laid_mid (pre old post vs : List Value) (h : vs.length = old.length) : laid (pre ++ old ++ post) pre.length vs = pre ++ vs ++ post := by
  apply List.ext_getElem?
  intro j
  rw [laid_at]
  simp only [List.length_append]
  by_cases h1 : pre.length ≤ j ∧ j < pre.length + vs.length ∧ j < pre.length + old.length + post.length
  · rw [if_pos h1, List.append_assoc, List.getElem?_append_right h1.1, List.getElem?_append_left (by omega)]
  · rw [if_neg h1]
    by_cases h2 : j < pre.length
    · rw [List.append_assoc, List.getElem?_append_left h2, List.append_assoc, List.getElem?_append_left h2]
    · rw [List.getElem?_append_right (by simp; omega), List.getElem?_append_right (by simp; omega)]
      simp only [List.length_append, h]

/-- What copy leaves of a block whose cells from o on are a slice of n bytes. -/
theorem run_copy_in {w : World} {g o n c : Nat} {C : List Value} {T : TypeId} (hrow : w.heap[g]? = some (.cells C.toArray T)) (hn : o + n ≤ C.length) {y : Value} {B : Nat} {bs : List UInt8} (hy : Sl w B y bs) (ty : TypeId) :
    ∃ w', (Builtin.copy_ #[73, 73] ty #[.slice (some ⟨g, o, none⟩) n c, y]).run Tryd.prog w = .ok (.int .i64 (Nat.min bs.length n : Nat)) w' ∧ w'.heap[g]? = some (.cells (laid C o (vb (bs.take n))).toArray T) ∧ w.grownBy w' (some g) := by
  obtain ⟨A, c', rfl, h2, h3, h4, h5, h6⟩ := hy
  by_cases h0 : Nat.min bs.length n = 0
  · have ht : bs.take n = [] := by
      apply List.eq_nil_of_length_eq_zero
      rw [List.length_take, Nat.min_comm]
      exact h0
    refine ⟨w, ?_, by rw [ht]; exact hrow, ⟨rfl, rfl, rfl, Nat.le_refl _, fun _ _ _ => rfl⟩⟩
    rw [run_copy_none w _ _ _ 5 _ _ _ _ _ _ Tryd.underlying73 (by kernel_rfl) h0, h0]
    rfl
  · have hmin : Nat.min bs.length n ≤ bs.length := Nat.min_le_left _ _
    have hmin2 : Nat.min bs.length n ≤ n := Nat.min_le_right _ _
    have hlen : (vb (bs.take n)).length = Nat.min bs.length n := by rw [vb_length, List.length_take, Nat.min_comm]
    cases A with
    | none => have := h4 rfl; omega
    | some ad =>
      have hcell : ∀ j, j < C.length → (w.cell? ⟨g, j, none⟩).isSome = true := fun j hj => by
        rw [cell_of_row _ _ _ _ _ _ hrow, Array.getElem?_eq_getElem (by simpa using hj)]
        rfl
      have hsrc : ∀ j v, (vb (bs.take n))[j]? = some v → w.cell? (ad.add j) = some v := fun j v hv => by
        refine h6 ad rfl j v ?_
        have hj := (List.getElem?_eq_some_iff.1 hv).1
        rw [vb_length] at hj
        rw [vb_at _ j hj] at hv
        rw [List.length_take] at hj
        rw [vb_at _ j (by omega), ← hv, List.getElem_take]
      have hrun := run_copy_cells (P := Tryd.prog) w 73 73 ty 5 g o n c ad bs.length c' (vb (bs.take n)) Tryd.underlying73 (by kernel_rfl) hlen
        hsrc (fun j hj => hcell _ (by omega)) (fun j hj => by simp [World.frozen?, hrow]) (vb_one _)
      rw [hlen] at hrun
      exact ⟨_, hrun, setCells_row g T _ w C o hrow, setCells_grown _ _ _ _⟩

theorem wp_copy_in {w : World} {ops : Array Oper} {rest : List Oper} {op : Oper} {a : Act} {Q : Exit → Act → World → Prop} (hgd : op.guard = none) (d x : Operand)
    (hop : op.op = Op.call { callee := Callee.builtin Builtin.copy, args := #[d, x], argTypes := #[73, 73] }) (g o n c : Nat) (C : List Value) (T : TypeId) (hrow : w.heap[g]? = some (.cells C.toArray T)) (hn : o + n ≤ C.length)
    (hd : a.eval d = .slice (some ⟨g, o, none⟩) n c) (y : Value) (B : Nat) (bs : List UInt8) (hx : a.eval x = y) (hy : Sl w B y bs)
    (hK : ∀ w', w'.heap[g]? = some (.cells (laid C o (vb (bs.take n))).toArray T) → w.grownBy w' (some g) → wpList Tryd.prog ops Q rest (a.put op.dst (.int .i64 (Nat.min bs.length n : Nat))) w') : wpList Tryd.prog ops Q (op :: rest) a w := by
  refine wpList_plain hgd fun K hK' => ?_
  obtain ⟨w', hrun, r1, r2⟩ := run_copy_in (c := c) hrow hn hy op.type
  unfold Oper.wp
  simp [execOp, hop, resolve, invoke, builtin, hd, hx, hrun, Result.andThen]
  exact hK' _ _ (hK w' r1 r2)

theorem setRow_grown (w : World) (g : Nat) (cs : Array Value) : w.grownBy (w.setRow g cs) (some g) :=
  ⟨rfl, rfl, rfl, by simp, fun k _ hk => setRow_other w g k cs (fun e => hk (by rw [e]))⟩

/-- A variable of many cells is laid out: noughts. -/
theorem wp_alloc_row {T : TypeId} {C : Array Value} (hz : ∀ W, (zeroValue T).run Tryd.prog W = .ok (.agg C) W) {ops : Array Oper} {rest : List Oper} {o : Oper} {a : Act} {w : World} {Q : Exit → Act → World → Prop} (hgd : o.guard = none) (ho : o.op = .alloc T)
    (h : wpList Tryd.prog ops Q rest (a.put o.dst (.pointer (some ⟨w.heap.size, 0, none⟩))) (w.alloc (.cells C T))) : wpList Tryd.prog ops Q (o :: rest) a w :=
  wpList_plain hgd fun K hK => by
    unfold Oper.wp
    simp [execOp, ho, Instr.alloc, hz, newVar, newRow, newObj, Value.cells, Result.andThen]
    exact hK _ _ h
/-- A value of many cells is put into a block of its own. -/
theorem wp_box_row {T : TypeId} {C : Array Value} {ops : Array Oper} {rest : List Oper} {o : Oper} {a : Act} {w : World} {Q : Exit → Act → World → Prop} (hgd : o.guard = none) (x : Operand) (ho : o.op = .box T x) (hx : a.eval x = .agg C)
    (h : wpList Tryd.prog ops Q rest (a.put o.dst (.pointer (some ⟨w.heap.size, 0, none⟩))) (w.alloc (.cells C T))) : wpList Tryd.prog ops Q (o :: rest) a w :=
  wpList_plain hgd fun K hK => by
    unfold Oper.wp
    simp [execOp, ho, hx, Instr.box, newVar, newRow, newObj, Value.cells, Result.andThen]
    exact hK _ _ h
/-- A value of many cells is laid out of parts. -/
theorem wp_build_row {T : TypeId} {C : Array Value} {ops : Array Oper} {rest : List Oper} {o : Oper} {a : Act} {w : World} {Q : Exit → Act → World → Prop} (hgd : o.guard = none) (parts : Array (Nat × Operand)) (ho : o.op = .build T parts)
    (vs : List (Nat × Value)) (hb : Tryd.prog.built T vs = some C) (hv : (parts.map fun (i, x) => (i, a.eval x)).toList = vs)
    (h : wpList Tryd.prog ops Q rest (a.put o.dst (.agg C)) w) : wpList Tryd.prog ops Q (o :: rest) a w :=
  wpList_build hgd T parts ho (by rw [hv, hb]; rfl) (by rw [hv, hb]; exact h)
/-- A value goes into a block. -/
theorem wp_put_row {T : TypeId} {C : Array Value} {n : Nat} (hT : (Tryd.prog.info? T).map (·.size) = some n) {ops : Array Oper} {rest : List Oper} {o : Oper} {a : Act} {w : World} {Q : Exit → Act → World → Prop} (hgd : o.guard = none) (x y : Operand) (ho : o.op = .store T x y)
    (g : Nat) (hx : a.eval x = .pointer (some ⟨g, 0, none⟩)) (hy : a.eval y = .agg C) (hC : C.size = n) (h1 : ∀ u ∈ C.toList, u.oneCell' = true) (old : Array Value) (hold : old.size = n) (T' : TypeId) (hg : w.heap[g]? = some (.cells old T'))
    (h : ∀ w', w'.heap[g]? = some (.cells C T') → w.grownBy w' (some g) → wpList Tryd.prog ops Q rest (a.put o.dst undef) w') : wpList Tryd.prog ops Q (o :: rest) a w :=
  wpList_store_row hgd _ x y ho g C hx hy _ old hg (by rw [hC]; exact hT) (by rw [hC, hold]) (by have := all_oneCell_toArray h1; simpa using this) (h _ (setRow_heap w g old _ _ _ hg) (setRow_grown w g _))
set_option maxRecDepth 100000 in
/-- A block that was laid out a moment ago is filled. -/
theorem wp_fill_row {T : TypeId} {C : Array Value} {n : Nat} (hT : (Tryd.prog.info? T).map (·.size) = some n) {ops : Array Oper} {rest : List Oper} {o : Oper} {a : Act} {w : World} {Q : Exit → Act → World → Prop} (hgd : o.guard = none) (x y : Operand) (ho : o.op = .store T x y)
    (old : Array Value) (hold : old.size = n) (T' : TypeId) (hx : a.eval x = .pointer (some ⟨w.heap.size, 0, none⟩)) (hy : a.eval y = .agg C) (hC : C.size = n) (h1 : ∀ u ∈ C.toList, u.oneCell' = true)
    (h : wpList Tryd.prog ops Q rest (a.put o.dst undef) (w.alloc (.cells C T'))) : wpList Tryd.prog ops Q (o :: rest) a (w.alloc (.cells old T')) :=
  wpList_store_row hgd _ x y ho w.heap.size C hx hy _ old (heap_alloc_new w _) (by rw [hC]; exact hT) (by rw [hC, hold]) (by have := all_oneCell_toArray h1; simpa using this) (by
    have e : (w.alloc (.cells old T')).setRow w.heap.size C = w.alloc (.cells C T') := by
      unfold World.setRow World.alloc
      congr 1
      apply Array.ext
      · simp
      · intro k h1 h2
        simp only [Array.getElem_modify, Array.getElem_push]
        by_cases hk : w.heap.size = k
        · subst hk; simp
        · have : k < w.heap.size := by simp at h2; omega
          simp [hk, this]
    rw [e]
    exact h)

end Go.Proofs.YthbahbcihaebeaaDoor.Cd

/-
  A name as thirty-three cells; ident.named, ident.Size and the document's. Conditions: none.
-/
namespace Go.Proofs.YthbahbcihaebeaaDoor.Cd
open Go.RowKit

/-- A name's value: its kind, and its sum's bytes. -/
def idV (l : List UInt8) : Value := .agg (vb l).toArray
/-- Bytes cut, or filled up with noughts, to thirty-two. -/
def pad32 (b : List UInt8) : List UInt8 := b.take 32 ++ zer (32 - b.length)
theorem pad32_length (b : List UInt8) : (pad32 b).length = 32 := by simp [pad32, zer_length]; omega
def sizeI (k : UInt8) : Nat := if k.toNat = 1 then 8 else if k.toNat = 2 then 32 else 0

theorem laid_id (k : UInt8) (bs : List UInt8) : laid (vb (k :: zer 32)) 1 (vb (bs.take 32)) = vb (k :: pad32 bs) := by
  have hz : zer 32 = zer (bs.take 32).length ++ zer (32 - bs.length) := by
    unfold zer
    rw [List.replicate_append_replicate, List.length_take]
    congr 1
    omega
  have h := laid_mid [Value.int .u8 k.toNat] (vb (zer (bs.take 32).length)) (vb (zer (32 - bs.length))) (vb (bs.take 32)) (by rw [vb_length, vb_length, zer_length])
  rw [hz]
  show laid (Value.int .u8 k.toNat :: vb (zer (bs.take 32).length ++ zer (32 - bs.length))) 1 _ = Value.int .u8 k.toNat :: vb (bs.take 32 ++ zer (32 - bs.length))
  rw [vb_append, vb_append]
  exact h

theorem vb_size (l : List UInt8) : (vb l).toArray.size = l.length := by simp [vb_length]
theorem cells_id : (Tryd.prog.info? 27).map (·.size) = some 33 := by kernel_rfl

theorem zero_id (W : World) : (zeroValue 27).run Tryd.prog W = .ok (.agg (vb (zer 33)).toArray) W := by kernel_rfl
theorem built_id (n : Int) : Tryd.prog.built 27 [(0, .int .u8 n)] = some (Value.int .u8 n :: vb (zer 32)).toArray := by kernel_rfl
theorem built_id0 : Tryd.prog.built 27 [] = some (vb (zer 33)).toArray := by kernel_rfl
theorem id_one (l : List UInt8) : ∀ u ∈ (vb l).toArray.toList, u.oneCell' = true := fun u hu => vb_one l u (by simpa using hu)

/-- A name that lies in a block is loaded. -/
theorem wp_load_id {ops : Array Oper} {rest : List Oper} {o : Oper} {a : Act} {w : World} {Q : Exit → Act → World → Prop} (hgd : o.guard = none) (x : Operand) (ho : o.op = .load 27 x)
    (g : Nat) (hx : a.eval x = .pointer (some ⟨g, 0, none⟩)) (l : List UInt8) (hl : l.length = 33) (hg : w.heap[g]? = some (.cells (vb l).toArray 27))
    (h : wpList Tryd.prog ops Q rest (a.put o.dst (idV l)) w) : wpList Tryd.prog ops Q (o :: rest) a w :=
  wpList_load_row hgd _ x ho g hx _ (vb l).toArray (0, 0) _ hg Tryd.underlying27 rfl (by rw [vb_size, hl]; exact cells_id) h
/-- A name goes into a block of noughts that was laid out a moment ago. -/
theorem wp_fill_id {ops : Array Oper} {rest : List Oper} {o : Oper} {a : Act} {W w : World} {Q : Exit → Act → World → Prop} (hgd : o.guard = none) (x y : Operand) (ho : o.op = .store 27 x y)
    (hW : W = w.alloc (.cells (vb (zer 33)).toArray 27))
    (hx : a.eval x = .pointer (some ⟨w.heap.size, 0, none⟩)) (l : List UInt8) (hl : l.length = 33) (hy : a.eval y = idV l)
    (h : wpList Tryd.prog ops Q rest (a.put o.dst undef) (w.alloc (.cells (vb l).toArray 27))) : wpList Tryd.prog ops Q (o :: rest) a W := by
  subst hW
  exact wp_fill_row cells_id hgd x y ho _ (by rw [vb_size, zer_length]) _ hx hy (by rw [vb_size, hl]) (id_one l) h
/-- A name goes into a block. -/
theorem wp_put_id {ops : Array Oper} {rest : List Oper} {o : Oper} {a : Act} {w : World} {Q : Exit → Act → World → Prop} (hgd : o.guard = none) (x y : Operand) (ho : o.op = .store 27 x y)
    (g : Nat) (hx : a.eval x = .pointer (some ⟨g, 0, none⟩)) (l : List UInt8) (hl : l.length = 33) (hy : a.eval y = idV l) (old : List UInt8) (hold : old.length = 33) (hg : w.heap[g]? = some (.cells (vb old).toArray 27))
    (h : ∀ w', w'.heap[g]? = some (.cells (vb l).toArray 27) → w.grownBy w' (some g) → wpList Tryd.prog ops Q rest (a.put o.dst undef) w') : wpList Tryd.prog ops Q (o :: rest) a w :=
  wp_put_row cells_id hgd x y ho g hx hy (by rw [vb_size, hl]) (id_one l) _ (by rw [vb_size, hold]) _ hg h

/-- What a call answers out of a block of its own. -/
theorem ret_id {fn : Func} {p : Tmp} (hf : fn.results = #[.cell p 27]) (tmps : Array Value) (w : World) (g : Nat) (l : List UInt8) (hl : l.length = 33)
    (hp : tmps.getD p undef = .pointer (some ⟨g, 0, none⟩)) (hg : w.heap[g]? = some (.cells (vb l).toArray 27)) : (results fn tmps).run Tryd.prog w = .ok (idV l) w :=
  results_cell_row hf tmps w g _ (vb l).toArray (0, 0) _ hp hg Tryd.underlying27 rfl (by rw [vb_size, hl]; exact cells_id)

set_option maxRecDepth 100000 in
set_option maxHeartbeats 800000 in
theorem size_any (k : UInt8) (w : World) : Calls Tryd.prog 15 #[.int .u8 k.toNat] w fun e w' => e = .returned (.int .i64 (sizeI k : Nat)) ∧ w = w' := by
  have hk := k.toNat_lt
  have hq : sizeI k = if k.toNat = 1 then 8 else if k.toNat = 2 then 32 else 0 := rfl
  generalize k.toNat = n at hk hq
  have HQ := Lib.hid hq
  clear hq
  by_cases h1 : n = 1
  · subst h1
    go_enter Tryd.func15, Tryd.ntmps15
    go_wp2
    go_ret
    exact ⟨by rw [HQ.out]; rfl, rfl⟩
  · by_cases h2 : n = 2
    · subst h2
      go_enter Tryd.func15, Tryd.ntmps15
      go_wp2
      go_ret
      exact ⟨by rw [HQ.out]; rfl, rfl⟩
    · have e1 : ((n : Int) == 1) = false := by simp; omega
      have e2 : ((n : Int) == 2) = false := by simp; omega
      go_enter Tryd.func15, Tryd.ntmps15
      go_wp2
      go_ret
      exact ⟨by rw [HQ.out, if_neg h1, if_neg h2]; rfl, rfl⟩

set_option maxRecDepth 100000 in
set_option maxHeartbeats 800000 in
theorem rsize_any (k : UInt8) (w : World) : Calls Tryd.prog 36 #[.int .u8 k.toNat] w fun e w' => e = .returned (.int .i64 (sizeI k : Nat)) ∧ w = w' := by
  have hk := k.toNat_lt
  have hq : sizeI k = if k.toNat = 1 then 8 else if k.toNat = 2 then 32 else 0 := rfl
  generalize k.toNat = n at hk hq
  have HQ := Lib.hid hq
  clear hq
  by_cases h1 : n = 1
  · subst h1
    go_enter Tryd.func36, Tryd.ntmps36
    go_wp2
    go_ret
    exact ⟨by rw [HQ.out]; rfl, rfl⟩
  · by_cases h2 : n = 2
    · subst h2
      go_enter Tryd.func36, Tryd.ntmps36
      go_wp2
      go_ret
      exact ⟨by rw [HQ.out]; rfl, rfl⟩
    · have e1 : ((n : Int) == 1) = false := by simp; omega
      have e2 : ((n : Int) == 2) = false := by simp; omega
      go_enter Tryd.func36, Tryd.ntmps36
      go_wp2
      go_ret
      exact ⟨by rw [HQ.out, if_neg h1, if_neg h2]; rfl, rfl⟩

set_option maxRecDepth 100000 in
set_option maxHeartbeats 1600000 in
theorem named_any (k : UInt8) (v : Value) (bs : List UInt8) (w : World) (h : Sl w w.heap.size v bs) : Calls Tryd.prog 39 #[.int .u8 k.toNat, v] w (Gives (idV (k :: pad32 bs)) w) := by
  have H := Lib.hid h
  obtain ⟨A, c, rfl, _, _⟩ := h.len
  clear h
  go_enter Tryd.func39, Tryd.ntmps39
  go_wp2_with (first
    | (refine wp_alloc_row zero_id rfl rfl ?_)
    | (refine wp_build_row rfl _ rfl _ (built_id k.toNat) rfl ?_)
    | (refine wp_fill_id rfl _ _ rfl rfl (by simp [Act.eval, Act.put]) (k :: zer 32) (by simp [zer_length]) rfl ?_)
    | (refine wp_copy_in rfl _ _ rfl (w.heap.size + 1) 1 32 32 (vb (k :: zer 32)) 27 (by rw [← asz w (.cells (vb (zer 33)).toArray 27)]; exact heap_alloc_new _ _) (by simp [vb_length, zer_length]) rfl _ w.heap.size bs rfl (H.out.below (((Below.refl _ _).alloc (Nat.le_refl _) _).alloc (by simp) _)) ?hK))
  intro w3 hr3 hg3
  rw [laid_id] at hr3
  have hl := pad32_length bs
  obtain ⟨X, hX⟩ : ∃ X, pad32 bs = X := ⟨_, rfl⟩
  rw [hX] at hr3 hl
  have HX := Lib.hid hX
  have hs3 := hg3.size
  rw [asz, asz] at hs3
  have hr4 : w3.heap[w.heap.size]? = some (.cells (vb (zer 33)).toArray 27) := by
    rw [hg3.block _ (by rw [asz, asz]; omega) (by simp)]
    rw [heap_alloc_old _ _ (by rw [asz]; omega)]
    exact heap_alloc_new _ _
  have hb3 : Below w.heap.size w w3 := (((Below.refl _ _).alloc (Nat.le_refl _) _).alloc (by simp) _).grown hg3 (by rw [asz, asz]; omega) (fun k hk => by injection hk with hk; omega)
  have HL := Lib.hid hl
  have HR := Lib.hid hr3
  have HR4 := Lib.hid hr4
  have HB := Lib.hid hb3
  clear hX hl hr3 hr4 hb3 hg3 hs3
  go_wp2_with (first
    | (refine wp_load_id rfl _ rfl (w.heap.size + 1) rfl (k :: X) (by rw [List.length_cons, HL.out]) HR.out ?_)
    | (refine wp_put_id rfl _ _ rfl w.heap.size rfl (k :: X) (by rw [List.length_cons, HL.out]) rfl (zer 33) (zer_length _) HR4.out ?hK2))
  intro w5 hr5 hg5
  have hb5 := HB.out.grown hg5 (by have := HB.out.size; omega) (fun k hk => by injection hk with hk; omega)
  go_wp2_with fail
  exact bodyPost_ret (v := idV (k :: X)) (ret_id Tryd.results39 _ _ w.heap.size (k :: X) (by rw [List.length_cons, HL.out]) rfl hr5) rfl ⟨by rw [HX.out], hb5⟩

end Go.Proofs.YthbahbcihaebeaaDoor.Cd

/-
  Two names are the same if all of their cells are. Conditions: none.
-/
namespace Go.Proofs.YthbahbcihaebeaaDoor.Cd
open Go.RowKit

theorem ipart_byte (l : List UInt8) (i : Nat) (h : i < l.length) (w : World) : (part 5 (vb l).toArray i).run Tryd.prog w = .ok (.int .u8 (l[i]).toNat) w := by
  have hc : (vb l).toArray[i]? = some (.int .u8 (l[i]).toNat) := by
    rw [List.getElem?_toArray]
    exact vb_at l i h
  simp [part, isAgg, run_underlying Tryd.underlying5, hc]
theorem part_sum (l : List UInt8) (h : l.length = 33) (w : World) : (part 25 (vb l).toArray 1).run Tryd.prog w = .ok (.agg (vb (l.drop 1)).toArray) w := by
  have hs : (Tryd.prog.info? 25).map (·.size) = some 32 := by kernel_rfl
  have ht : List.take 32 (vb l).tail = vb l.tail := by
    rw [List.take_of_length_le (by simp [vb_length, h])]
    simp [vb, List.map_tail]
  cases hq : Tryd.prog.info? 25 with
  | none => simp [hq] at hs
  | some i =>
    have hs2 : i.size = 32 := by simpa [hq] using hs
    simp [part, isAgg, run_underlying Tryd.underlying25, sizeOf, typeInfo, hq, hs2, ht]

theorem eqItems_bytes (d : Nat) (x y : List UInt8) : ∀ (is : List Nat) (w : World), (∀ i ∈ is, i < x.length ∧ i < y.length) →
    (Op.eqItems (d + 1) 5 1 (vb x).toArray (vb y).toArray is).run Tryd.prog w = .ok (is.all fun i => x[i]? == y[i]?) w
  | [], w, _ => by simp [Op.eqItems]
  | i :: is, w, h => by
    obtain ⟨h1, h2⟩ := h i (by simp)
    have ih := eqItems_bytes d x y is w (fun j hj => h j (by simp [hj]))
    have e := run_equalIn_int (P := Tryd.prog) w d 5 .u8 _ ((x[i]).toNat : Int) ((y[i]).toNat : Int) Tryd.underlying5
    have hb : (((x[i]).toNat : Int) == ((y[i]).toNat : Int)) = (x[i]? == y[i]?) := by
      rw [List.getElem?_eq_getElem h1, List.getElem?_eq_getElem h2]
      rw [Bool.eq_iff_iff]
      simp only [beq_iff_eq, Option.some.injEq, ← UInt8.toNat_inj]
      omega
    rw [hb] at e
    simp only [Op.eqItems, Sem.run_bind, Nat.mul_one, ipart_byte x i h1, ipart_byte y i h2, e, Result.andThen_ok, List.all_cons]
    cases x[i]? == y[i]?
    · simp
    · simpa using ih

theorem range_all (x y : List UInt8) (n : Nat) (hx : x.length = n) (hy : y.length = n) : ((List.range n).all fun i => x[i]? == y[i]?) = (x == y) := by
  rw [Bool.eq_iff_iff]
  simp only [List.all_eq_true, List.mem_range, beq_iff_eq]
  constructor
  · intro h
    apply List.ext_getElem?
    intro i
    by_cases hi : i < n
    · exact h i hi
    · rw [List.getElem?_eq_none (by omega), List.getElem?_eq_none (by omega)]
  · rintro rfl i _
    rfl

theorem equal_sum (d : Nat) (x y : List UInt8) (hx : x.length = 32) (hy : y.length = 32) (w : World) : (Op.equalIn (d + 2) 25 (.agg (vb x).toArray) (.agg (vb y).toArray)).run Tryd.prog w = .ok (x == y) w := by
  have hs : (Tryd.prog.info? 5).map (·.size) = some 1 := by kernel_rfl
  cases hq : Tryd.prog.info? 5 with
  | none => simp [hq] at hs
  | some i =>
    have hc : Tryd.prog.cellsOf 5 = 1 := by simp [Program.cellsOf, hs]
    rw [run_equalIn_array w (d + 1) _ _ Tryd.underlying25 hq, hc, eqItems_bytes d x y _ w (fun i hi => by have := List.mem_range.1 hi; omega), range_all x y 32 hx hy]

theorem fields_id : (Tryd.prog.fieldsOf 27).toList.map (fun f => (f.name == "_", f.type, f.offset)) = [(false, 5, 0), (false, 25, 1)] := by kernel_rfl
theorem equal_id (x y : List UInt8) (hx : x.length = 33) (hy : y.length = 33) (w : World) : (Op.equalIn 10000 27 (.agg (vb x).toArray) (.agg (vb y).toArray)).run Tryd.prog w = .ok (x == y) w := by
  rw [run_equalIn_struct w 9999 27 _ _ (by kernel_rfl) (by kernel_rfl)]
  have hf := fields_id
  generalize (Tryd.prog.fieldsOf 27).toList = fs at hf
  obtain ⟨f, g, rfl⟩ : ∃ f g, fs = [f, g] := by
    have hl : fs.length = 2 := by simpa using congrArg List.length hf
    match fs, hl with
    | [f, g], _ => exact ⟨f, g, rfl⟩
  simp only [List.map_cons, List.map_nil, List.cons.injEq, Prod.mk.injEq, and_true, beq_eq_false_iff_ne] at hf
  obtain ⟨⟨f1, f2, f3⟩, g1, g2, g3⟩ := hf
  have e := run_equalIn_int (P := Tryd.prog) w 9998 5 .u8 _ ((x[0]).toNat : Int) ((y[0]).toNat : Int) Tryd.underlying5
  have e2 := equal_sum 9997 (x.drop 1) (y.drop 1) (by simp [hx]) (by simp [hy]) w
  have hb : (((x[0]).toNat : Int) == ((y[0]).toNat : Int)) = (x[0] == y[0]) := by
    rw [Bool.eq_iff_iff]
    simp only [beq_iff_eq, ← UInt8.toNat_inj]
    omega
  have hxy : (x == y) = (x[0] == y[0] && x.drop 1 == y.drop 1) := by
    obtain ⟨a, x, rfl⟩ := List.exists_cons_of_length_pos (l := x) (by omega)
    obtain ⟨b, y, rfl⟩ := List.exists_cons_of_length_pos (l := y) (by omega)
    rfl
  rw [hb] at e
  rw [hxy]
  simp only [Op.eqFields, f1, f2, f3, g1, g2, g3, ne_eq, not_false_eq_true, if_true, Sem.run_bind, ipart_byte x 0 (by omega), ipart_byte y 0 (by omega), Result.andThen_ok, e]
  cases x[0] == y[0]
  · simp
  · simp only [Bool.not_true, Bool.false_eq_true, if_false, Sem.run_bind, part_sum x hx, part_sum y hy, Result.andThen_ok, e2]
    cases x.drop 1 == y.drop 1 <;> simp

theorem eqGuard_id (op : BinOp) (p q : Operand) (x y : List UInt8) (w : World) : (eqGuard op 27 p q (idV x) (idV y)).run Tryd.prog w = .ok () w := run_eqGuard_agg w op _ p q _ _ (by kernel_rfl)
theorem eql_id (x y : List UInt8) (hx : x.length = 33) (hy : y.length = 33) (w : World) : (binOp .eql 27 (idV x) (idV y)).run Tryd.prog w = .ok (.bool (x == y)) w := by
  unfold idV
  rw [run_eql_struct, equal_id x y hx hy]
  rfl
theorem neq_id (x y : List UInt8) (hx : x.length = 33) (hy : y.length = 33) (w : World) : (binOp .neq 27 (idV x) (idV y)).run Tryd.prog w = .ok (.bool (!(x == y))) w := by
  unfold idV
  rw [run_neq_struct, equal_id x y hx hy]
  rfl
theorem wp_eql_id {ops : Array Oper} {rest : List Oper} {o : Oper} {a : Act} {w : World} {Q : Exit → Act → World → Prop} (hgd : o.guard = none) (p q : Operand) (t : TypeId) (ho : o.op = .binOp .eql 27 p q t)
    (x y : List UInt8) (hx : x.length = 33) (hy : y.length = 33) (hp : a.eval p = idV x) (hq : a.eval q = idV y)
    (h : wpList Tryd.prog ops Q rest (a.put o.dst (.bool (x == y))) w) : wpList Tryd.prog ops Q (o :: rest) a w :=
  wpList_plain hgd fun K hK => by
    unfold Oper.wp
    simp only [execOp, ho, hp, hq, Sem.run_bind, eqGuard_id, eql_id x y hx hy, Result.andThen_ok]
    exact hK _ _ h

end Go.Proofs.YthbahbcihaebeaaDoor.Cd
