/-
  Rows of many cells: cells that are stored in one go, a page that is copied, a write that is appended. Conditions: none.
-/
import Derived.Test.YtbepanhndpkdhaaAsks
import Derived.Deep.WholeRow
import Derived.Maps.AppendAt
import Derived.Deep.RegionHeld3
import Derived.Deep.RegionLaw
namespace Go.Proofs.Ytbepanhndpkdhaa.Cd
open Go.RowKit

/-- Cells of a list that are others. -/
def laid (c : List Value) : Nat → List Value → List Value
  | _, [] => c
  | o, v :: r => laid (c.set o v) (o + 1) r
theorem laid_length (vs : List Value) : ∀ (c : List Value) (o : Nat), (laid c o vs).length = c.length := by
  induction vs with
  | nil => intro c o; rfl
  | cons v r ih => intro c o; rw [laid, ih, List.length_set]
theorem laid_at (vs : List Value) : ∀ (c : List Value) (o j : Nat), (laid c o vs)[j]? = if o ≤ j ∧ j < o + vs.length ∧ j < c.length then vs[j - o]? else c[j]? := by
  induction vs with
  | nil => intro c o j; rw [laid, if_neg (by simp; omega)]
  | cons v r ih =>
    intro c o j
    rw [laid, ih, List.length_set, List.length_cons]
    by_cases h1 : o + 1 ≤ j ∧ j < o + 1 + r.length ∧ j < c.length
    · rw [if_pos h1, if_pos (by omega), show j - o = j - (o + 1) + 1 by omega, List.getElem?_cons_succ]
    · rw [if_neg h1]
      by_cases h2 : j = o
      · subst h2
        by_cases h3 : j < c.length
        · rw [if_pos (by omega), Nat.sub_self, List.getElem?_cons_zero, List.getElem?_set_self h3]
        · rw [if_neg (by omega), List.getElem?_eq_none (by rw [List.length_set]; omega), List.getElem?_eq_none (by omega)]
      · rw [if_neg (by omega), List.getElem?_set_ne (fun e => h2 e.symm)]
theorem setCells_row (g : Nat) (T : TypeId) (vs : List Value) : ∀ (w : World) (c : List Value) (o : Nat), w.heap[g]? = some (.cells c.toArray T (0, 0)) → (w.setCells g o vs).heap[g]? = some (.cells (laid c o vs).toArray T (0, 0)) := by
  induction vs with
  | nil => intro w c o h; exact h
  | cons v r ih =>
    intro w c o h
    rw [World.setCells, laid]
    refine ih _ _ _ ?_
    have := heap_setCell_same w g o _ T v h
    rw [List.setIfInBounds_toArray] at this
    exact this
theorem setCells_grown (g : Nat) (vs : List Value) : ∀ (w : World) (o : Nat), w.grownBy (w.setCells g o vs) (some g) := by
  induction vs with
  | nil => intro w o; exact ⟨rfl, rfl, rfl, Nat.le_refl _, fun _ _ _ => rfl⟩
  | cons v r ih =>
    intro w o
    rw [World.setCells]
    have h1 : w.grownBy (w.setCell ⟨g, o, none⟩ v) (some g) := ⟨rfl, rfl, rfl, by simp, fun k _ hk => heap_setCell_other _ _ _ _ (fun e => hk (by rw [e]))⟩
    exact h1.trans (ih _ _)

theorem laid_mid (pre old post vs : List Value) (h : vs.length = old.length) : laid (pre ++ old ++ post) pre.length vs = pre ++ vs ++ post := by
  apply List.ext_getElem?
  intro j
  rw [laid_at]
  simp only [List.length_append]
  by_cases h1 : pre.length ≤ j ∧ j < pre.length + vs.length ∧ j < pre.length + old.length + post.length
  · rw [if_pos h1, List.append_assoc, List.getElem?_append_right h1.1, List.getElem?_append_left (by omega)]
  · rw [if_neg h1]
    by_cases h2 : j < pre.length
    · rw [List.append_assoc, List.getElem?_append_left h2, List.append_assoc, List.getElem?_append_left h2]
    · rw [List.getElem?_append_right (by simp; omega), List.getElem?_append_right (by simp; omega)]
      simp only [List.length_append, h]

theorem nought_len : nought.length = 512 := List.length_replicate

/-- What copy leaves of a page of noughts. -/
theorem wp_copy_pad {w : World} {ops : Array Oper} {rest : List Oper} {o : Oper} {a : Act} {Q : Exit → Act → World → Prop} (hgd : o.guard = none) (d x : Operand)
    (hop : o.op = Op.call { callee := Callee.builtin Builtin.copy, args := #[d, x], argTypes := #[29, 29] }) (g k i : Nat) (hrow : w.heap[g]? = some (.cells (wv k i nought) 107))
    (hd : a.eval d = .slice (some ⟨g, 2, none⟩) 512 512) (y : Value) (B : Nat) (bs : List UInt8) (hx : a.eval x = y) (hy : Sl w B y bs) (hb : bs.length ≤ 512)
    (hK : ∀ w' v, w'.heap[g]? = some (.cells (wv k i (pad bs)) 107) → w.grownBy w' (some g) → wpList Try.prog ops Q rest (a.put o.dst v) w') : wpList Try.prog ops Q (o :: rest) a w := by
  refine wpList_plain hgd fun K hK' => ?_
  obtain ⟨v, w', hrun, r1, r2⟩ : ∃ v w', (Builtin.copy_ #[29, 29] o.type #[.slice (some ⟨g, 2, none⟩) 512 512, y]).run Try.prog w = .ok v w' ∧ w'.heap[g]? = some (.cells (wv k i (pad bs)) 107) ∧ w.grownBy w' (some g) := by
    obtain ⟨A, c, rfl, h2, h3, h4, h5, h6⟩ := hy
    by_cases h0 : bs.length = 0
    · have hbs : bs = [] := List.eq_nil_of_length_eq_zero h0
      subst hbs
      exact ⟨_, _, run_copy_none w _ _ _ 5 _ _ _ _ _ _ Try.underlying29 (by kernel_rfl) (by simp), hrow, ⟨rfl, rfl, rfl, Nat.le_refl _, fun _ _ _ => rfl⟩⟩
    · cases A with
      | none => have := h4 rfl; omega
      | some ad =>
        have hcell : ∀ j, j < 514 → (w.cell? ⟨g, j, none⟩).isSome = true := fun j hj => by
          rw [cell_of_row _ _ _ _ _ _ hrow, Array.getElem?_eq_getElem (by rw [wv_size k i nought_len]; exact hj)]
          rfl
        have hrun := run_copy_cells (P := Try.prog) w 29 29 o.type 5 g 2 512 512 ad bs.length c (vb bs) Try.underlying29 (by kernel_rfl) (by rw [vb_length]; exact (Nat.min_eq_left hb).symm)
          (h6 ad rfl) (fun j hj => hcell _ (by rw [vb_length] at hj; omega)) (fun j hj => by simp [World.frozen?, hrow]) (vb_one bs)
        refine ⟨_, _, hrun, ?_, setCells_grown _ _ _ _⟩
        have h7 := setCells_row g _ (vb bs) w _ 2 hrow
        rw [h7]
        have hsp : (Value.int .i64 k :: Value.int .i64 i :: vb nought : List Value) = [Value.int .i64 k, Value.int .i64 i] ++ vb (List.replicate bs.length 0) ++ vb (List.replicate (512 - bs.length) 0) := by
          show _ = Value.int .i64 k :: Value.int .i64 i :: (vb (List.replicate bs.length 0) ++ vb (List.replicate (512 - bs.length) 0))
          rw [← vb_append, List.replicate_append_replicate, show bs.length + (512 - bs.length) = 512 by omega]
          rfl
        rw [hsp]
        have h8 := laid_mid [Value.int .i64 k, Value.int .i64 i] (vb (List.replicate bs.length 0)) (vb (List.replicate (512 - bs.length) 0)) (vb bs) (by simp [vb])
        rw [show ([Value.int .i64 k, Value.int .i64 i] : List Value).length = 2 from rfl] at h8
        rw [h8]
        unfold wv pad
        rw [vb_append]
        rfl
  unfold Oper.wp
  simp [execOp, hop, resolve, invoke, builtin, hd, hx, hrun, Result.andThen]
  exact hK' _ _ (hK w' v r1 r2)

theorem info_pw : (Try.prog.info? 107).map (fun i => (i.zero, i.size, i.bytes)) = some (some (.agg Try.zeroCells107), 514, 528) := by kernel_rfl
theorem zero_pw : Try.zeroCells107 = wv 0 0 nought := by kernel_rfl

theorem wv_one (f i : Nat) (p : List UInt8) : ∀ u ∈ (wv f i p).toList, u.oneCell' = true := by
  intro u hu
  rw [show (wv f i p).toList = Value.int .i64 f :: Value.int .i64 i :: vb p from rfl] at hu
  rcases List.mem_cons.1 hu with rfl | hu
  · rfl
  · rcases List.mem_cons.1 hu with rfl | hu
    · rfl
    · exact vb_one p u hu

/-- A write that lies in a block of its own is loaded whole. -/
theorem load_pw {b : Nat} {C : Array Value} (hC : C.size = 514) (W : World) (h : W.heap[b]? = some (.cells C 107)) : (Instr.loadAt 107 (.pointer (some ⟨b, 0, none⟩))).run Try.prog W = .ok (.agg C) W := by
  simp only [Instr.loadAt, Instr.sureAddr, Sem.run_bind, Sem.run_pure, Result.andThen]
  exact run_loadVar_row (P := Try.prog) W b _ 107 C _ _ h Try.underlying107 rfl (by rw [hC]; kernel_rfl)
theorem load_pw2 {b : Nat} {C : Array Value} (hC : C.size = 514) (W : World) (h : W.heap[b]? = some (.cells C 107)) : (loadCellsFrom ⟨b, 0, none⟩ 0 514 #[]).run Try.prog W = .ok C W := by
  have := run_loadCells_list (P := Try.prog) W ⟨b, 0, none⟩ C.toList (fun j v hv => by
    rw [Addr.add_lit, Nat.zero_add, cell_of_row _ _ _ _ _ _ h]
    simpa using hv)
  rw [Array.length_toList, hC] at this
  simpa [loadCells] using this

theorem run_load_pw {b : Nat} {C : Array Value} (hC : C.size = 514) (W : World) (h : W.heap[b]? = some (.cells C 107)) {op : Oper} {a : Act} (x : Operand) (ho : op.op = .load 107 x) (hx : a.eval x = .pointer (some ⟨b, 0, none⟩)) :
    (execOp a.eval op).run Try.prog W = .ok (.value (.agg C)) W := by
  have := run_loadVar_row (P := Try.prog) W b _ 107 C _ _ h Try.underlying107 rfl (by rw [hC]; kernel_rfl)
  unfold execOp
  simp only [ho, hx, Instr.loadAt, Instr.sureAddr, Sem.run_bind, Sem.run_pure, Result.andThen_ok, this]
theorem yieldsIf_load_pw {ops : Array Oper} {S : World → Prop} {op : Oper} {a : Act} (hw : Region.wanted op (yielded ops a.tmps) = true) (x : Operand) (ho : op.op = .load 107 x) (b : Nat) (hx : a.eval x = .pointer (some ⟨b, 0, none⟩))
    {C : Array Value} (hC : C.size = 514) (hS : ∀ w, S w → w.heap[b]? = some (.cells C 107)) : YieldsIf Try.prog ops S op (.agg C) a := .inl ⟨hw, fun w hw' => run_load_pw hC w (hS w hw') x ho hx⟩
/-- As a step of a region that draws. -/
theorem step_load_pw {ops : Array Oper} {op : Oper} {a : Act} {w : World} {K : Act → World → Prop} {Q : Exit → Act → World → Prop} {E : Prop} (hgd : op.guard = none) (x : Operand) (ho : op.op = .load 107 x) (b : Nat) (hx : a.eval x = .pointer (some ⟨b, 0, none⟩))
    {C : Array Value} (hC : C.size = 514) (h : w.heap[b]? = some (.cells C 107)) (hK : K (a.put op.dst (.agg C)) w) : if Region.wanted op (yielded ops a.tmps) = true then Oper.wp Try.prog op a w K Q else E := by
  have hw : Region.wanted op (yielded ops a.tmps) = true := by simp [Region.wanted, hgd]
  rw [if_pos hw]
  simp only [Oper.wp, run_load_pw hC w h x ho hx, Oper.upon]
  exact hK

theorem foldl_lay (l : List Value) : ∀ (k : Nat) (B : List Value), k + l.length ≤ B.length → (l.zipIdx k).foldl (fun cs x => Array.setIfInBounds cs (0 + x.2) x.1) B.toArray = (laid B k l).toArray := by
  induction l with
  | nil => intro k B _; rfl
  | cons v r ih =>
    intro k B h
    rw [List.length_cons] at h
    rw [List.zipIdx_cons, List.foldl_cons, laid, Nat.zero_add, List.setIfInBounds_toArray]
    exact ih (k + 1) (B.set k v) (by rw [List.length_set]; omega)
theorem laid_all (B l : List Value) (h : l.length = B.length) : laid B 0 l = l := by
  apply List.ext_getElem?
  intro j
  rw [laid_at]
  by_cases hj : j < l.length
  · rw [if_pos (by omega), Nat.sub_zero]
  · rw [if_neg (by omega), List.getElem?_eq_none (by omega), List.getElem?_eq_none (by omega)]

/-- []write of one write. -/
theorem run_build_one {C : Array Value} (hC : C.size = 514) (W : World) : (Instr.buildSlice 72 1 #[(0, .agg C)]).run Try.prog W = .ok (.slice (some ⟨W.heap.size, 0, none⟩) 1 1) (W.alloc (.cells C 107)) := by
  obtain ⟨l, rfl⟩ : ∃ l : List Value, C = l.toArray := ⟨C.toList, by simp⟩
  have hl : l.length = 514 := by simpa using hC
  have hb : ((Array.range (1 * 514)).map (Try.zeroCells107[· % Try.zeroCells107.size]!)) = (((List.range 514).map (Try.zeroCells107[· % Try.zeroCells107.size]!))).toArray := by
    rw [Nat.one_mul, ← List.toArray_range, List.map_toArray]
  have hz : (Value.agg Try.zeroCells107).cells = Try.zeroCells107 := rfl
  have hf : ∀ B : List Value, B.length = 514 → Instr.fill (fun i => some (i * 514, 514)) B.toArray [(0, .agg l.toArray)] = some l.toArray := by
    intro B hB
    unfold Instr.fill
    simp only [Nat.zero_mul, Value.cells, List.size_toArray, hl, hB, Nat.zero_add, ne_eq, not_true_eq_false, decide_false, Bool.false_or, Nat.lt_irrefl, gt_iff_lt, Bool.false_eq_true, if_false]
    unfold Instr.fill
    have := foldl_lay l 0 B (by omega)
    rw [laid_all B l (by omega)] at this
    simp only [Nat.zero_add] at this
    rw [← Array.foldl_toList, Array.toList_zipIdx]
    simp only []
    rw [this]
  unfold Instr.buildSlice
  rw [Sem.run_bind, run_underlying Try.underlying72, Result.andThen_ok]
  simp only
  rw [Sem.run_bind, Try.sizeOf107, Result.andThen_ok, if_neg (by decide), if_neg (by decide), Sem.run_bind]
  rw [Try.zeroValue107, Result.andThen_ok, Sem.run_bind, Sem.run_pure, Result.andThen_ok]
  simp only [hz]
  rw [hb, hf _ (by rw [List.length_map, List.length_range])]
  simp only [newRow, newObj, Sem.run_bind, Sem.run_pure]
  rfl

/-- .. as a step of a region that draws. -/
theorem step_build_pw {ops : Array Oper} {op : Oper} {a : Act} {w : World} {K : Act → World → Prop} {Q : Exit → Act → World → Prop} {E : Prop} (hgd : op.guard = none) (x : Operand) (ho : op.op = .buildSlice 72 1 #[(0, x)])
    {C : Array Value} (hx : a.eval x = .agg C) (hC : C.size = 514) (hK : K (a.put op.dst (.slice (some ⟨w.heap.size, 0, none⟩) 1 1)) (w.alloc (.cells C 107))) : if Region.wanted op (yielded ops a.tmps) = true then Oper.wp Try.prog op a w K Q else E := by
  have hw : Region.wanted op (yielded ops a.tmps) = true := by simp [Region.wanted, hgd]
  rw [if_pos hw]
  have hrun : (execOp a.eval op).run Try.prog w = .ok (.value (.slice (some ⟨w.heap.size, 0, none⟩) 1 1)) (w.alloc (.cells C 107)) := by
    unfold execOp
    simp only [ho, List.map_toArray, List.map_cons, List.map_nil, hx, Sem.run_bind, Sem.run_pure, Result.andThen_ok, run_build_one hC w]
  simp only [Oper.wp, hrun, Oper.upon]
  exact hK

/-- append of one write, as a step of a region that draws. -/
theorem step_append_pw {w : World} {ops : Array Oper} {o : Oper} {a : Act} {K : Act → World → Prop} {Q : Exit → Act → World → Prop} {E : Prop} (hgd : o.guard = none) (s x : Operand)
    (hop : o.op = .call { callee := .builtin .append, args := #[s, x], argTypes := #[72, 72] })
    (v : Value) (n : Nat) (xs : List Value) (hs : a.eval s = v) (ho : w.ownsRow 0 107 514 v n xs) (b f i : Nat) (p : List UInt8) (hp : p.length = 512) (hx : a.eval x = .slice (some ⟨b, 0, none⟩) 1 1) (hb : w.heap[b]? = some (.cells (wv f i p) 107))
    (hm : n ≤ 137438953472)
    (h : ∀ v' w', w'.ownsRow 0 107 514 v' (n + 1) (xs ++ (wv f i p).toList) → w.grownBy w' v.ownBlock → (v'.ownBlock = v.ownBlock ∨ v'.ownBlock = some w.heap.size) → K (a.put o.dst v') w') : if Region.wanted o (yielded ops a.tmps) = true then Oper.wp Try.prog o a w K Q else E := by
  have hw : Region.wanted o (yielded ops a.tmps) = true := by simp [Region.wanted, hgd]
  rw [if_pos hw]
  obtain ⟨i0, hi, hz0, hz1, hz2⟩ := info_parts info_pw
  obtain ⟨v', w', hrun, r1, r2, _, r3⟩ := run_append_own_at (P := Try.prog) w 0 72 o.type 107 i0 _ 514 528 Try.underlying72 hi hz0 hz1 hz2 (by rw [zero_pw]; exact wv_size 0 0 nought_len) (by omega) v n xs ho
    ⟨b, 0, none⟩ 1 1 (wv f i p).toList (by rw [Array.length_toList, wv_size f i hp]) (fun j u hu => by rw [Addr.add_lit, Nat.zero_add, cell_of_row _ _ _ _ _ _ hb]; simpa using hu) (wv_one f i p) (by simp only [maxLen]; omega) (by omega) (Nat.zero_le _)
  unfold Oper.wp
  simp [execOp, hop, resolve, invoke, builtin, hs, hx, hrun, Result.andThen]
  exact h v' w' r1 r2 r3

end Go.Proofs.Ytbepanhndpkdhaa.Cd
