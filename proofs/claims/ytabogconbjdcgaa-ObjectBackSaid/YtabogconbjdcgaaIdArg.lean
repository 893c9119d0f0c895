/-
  A name as an argument; alive answers true. Conditions: none.
-/
import Derived.Test.YtabogconbjdcgaaIdName
import Derived.Lib.SmallJoins
import Derived.SizedLaws
namespace Go.Proofs.Ytabogconbjdcgaa.Cd
open Go.RowKit Go.ChangeShapes Go.WideShapes Go.Deep Go.Joins

theorem ione_byte {H : Type} {enc : TypeId × Value → H} {w : World} {n : Nat} {cs : List Value} {x : DataW H × List MemPlace} (h : DataW.trod enc Try.prog w 0 (fun _ => true) true n 5 cs = some x) : ∃ c : UInt8, cs = [.int .u8 c.toNat] := by
  obtain ⟨a, e, _, hw⟩ := DataW.trod_int Try.underlying5 h
  have hb := bounds_u8 hw
  obtain ⟨c, rfl⟩ := byte_of a hb.1 hb.2
  exact ⟨c, e⟩

theorem bytes_of_cells (n : Nat) (cs : List Value) (hn : cs.length = n) (h : ∀ i, i < n → ∃ c : UInt8, cs[i]? = some (.int .u8 c.toNat)) : ∃ l : List UInt8, l.length = n ∧ cs = vb l := by
  induction cs generalizing n with
  | nil => exact ⟨[], hn, rfl⟩
  | cons v r ih =>
    subst hn
    obtain ⟨c, hc⟩ := h 0 (by simp)
    obtain ⟨l, h1, h2⟩ := ih r.length rfl (fun i hi => by simpa using h (i + 1) (by simp; omega))
    refine ⟨c :: l, by simp [h1], ?_⟩
    simp at hc
    rw [hc, h2]
    rfl

theorem id_of_trod {H : Type} {enc : TypeId × Value → H} {w : World} {r : Reach} {b0 : Nat} {v : Value} {d : DataW H} {ps : List MemPlace} (hv : Value.okWide Try.prog w r b0 41 v)
    (h : DataW.Trod enc Try.prog w 0 (fun _ => true) true 41 v d ps) (_ : ∀ n ∈ d.weights Try.prog 41, n ≤ reachBytes) :
    ∃ l : List UInt8, v = idV l ∧ l.length = 33 := by
  obtain ⟨cs, rfl, hsz⟩ := okWide_struct Try.underlying41 hv
  have hsz2 : cs.size = 33 := hsz.trans (by kernel_rfl)
  obtain ⟨fuel, hf⟩ := h
  obtain ⟨y0, y1, n, hx, hl, h0, h1⟩ := trod_struct2 Try.underlying41 hf
  obtain ⟨xs, m, _, _, hl2, hl3, h2⟩ := DataW.trod_array Try.underlying39 h1
  have hcu : Try.prog.cellsOf 5 = 1 := by kernel_rfl
  have hcs : Try.prog.cellsOf 39 = 32 := by kernel_rfl
  have hcell : ∀ i, i < 33 → ∃ c : UInt8, cs.toList[i]? = some (.int .u8 c.toNat) := by
    intro i hi
    cases i with
    | zero =>
      obtain ⟨c, hc⟩ := ione_byte h0
      refine ⟨c, ?_⟩
      have := congrArg (fun l => l[0]?) hc
      simpa [Value.cells, hcu, List.getElem?_take] using this
    | succ i =>
      have h3 := h2 i (by omega)
      rw [List.getElem?_eq_getElem (by omega)] at h3
      obtain ⟨c, hc⟩ := ione_byte h3
      refine ⟨c, ?_⟩
      have := congrArg (fun l => l[0]?) hc
      simp [Value.cells, hcu, hcs, List.getElem?_take, List.getElem?_drop] at this
      have e : cs.toList[i + 1]? = cs[i + 1]? := by simp
      rw [e]
      have hi2 : i < 32 := by omega
      simpa [hi2, Nat.add_comm] using this
  obtain ⟨l, e1, e2⟩ := bytes_of_cells 33 cs.toList (by simpa using hsz2) hcell
  refine ⟨l, ?_, e1⟩
  unfold idV
  rw [← e2]

/-- The same behind a guard. -/
theorem op_load_id {o : Oper} {a : Act} {w : World} {K : Act → World → Prop} {Q : Exit → Act → World → Prop} (x : Operand) (ho : o.op = .load 41 x)
    (g : Nat) (hx : a.eval x = .pointer (some ⟨g, 0, none⟩)) (l : List UInt8) (hl : l.length = 33) (hg : IdAt w g l) (h : K (a.put o.dst (idV l)) w) : o.wp Try.prog a w K Q :=
  wp_load_row _ x ho g hx _ (vb l).toArray (0, 0) _ hg Try.underlying41 rfl (by rw [vb_size, hl]; exact cells_id) h
theorem op_alloc_id {o : Oper} {a : Act} {w : World} {K : Act → World → Prop} {Q : Exit → Act → World → Prop} (ho : o.op = .alloc 41)
    (h : K (a.put o.dst (.pointer (some ⟨w.heap.size, 0, none⟩))) (w.alloc (.cells (vb (zer 33)).toArray 41))) : o.wp Try.prog a w K Q := by
  unfold Oper.wp
  simp [execOp, ho, Instr.alloc, zero_id, newVar, newRow, newObj, Value.cells, Result.andThen]
  exact h
theorem op_zero_id {o : Oper} {a : Act} {w : World} {K : Act → World → Prop} {Q : Exit → Act → World → Prop} (ho : o.op = .build 41 #[])
    (h : K (a.put o.dst (idV (zer 33))) w) : o.wp Try.prog a w K Q :=
  wp_build _ #[] ho (by simp [built_id0]) (by simpa [built_id0, idV] using h)
theorem op_fill_id {o : Oper} {a : Act} {W w : World} {K : Act → World → Prop} {Q : Exit → Act → World → Prop} (x y : Operand) (ho : o.op = .store 41 x y)
    (hW : W = w.alloc (.cells (vb (zer 33)).toArray 41)) (hx : a.eval x = .pointer (some ⟨w.heap.size, 0, none⟩)) (l : List UInt8) (hl : l.length = 33) (hy : a.eval y = idV l)
    (h : K (a.put o.dst undef) (w.alloc (.cells (vb l).toArray 41))) : o.wp Try.prog a W K Q := by
  subst hW
  refine wp_store_row _ x y ho w.heap.size (vb l).toArray hx hy _ _ (heap_alloc_new w _) (by rw [vb_size, hl]; exact cells_id) (by rw [vb_size, vb_size, hl, zer_length]) (all_oneCell_toArray (vb_one l)) ?_
  have e : (w.alloc (.cells (vb (zer 33)).toArray 41)).setRow w.heap.size (vb l).toArray = w.alloc (.cells (vb l).toArray 41) := by
    unfold World.setRow World.alloc
    congr 1
    apply Array.ext
    · simp
    · intro k h1 h2
      simp only [Array.getElem_modify, Array.getElem_push]
      by_cases hk : w.heap.size = k
      · subst hk; simp
      · have : k < w.heap.size := by simp at h2; omega
        simp [hk, this]
  rw [e]
  exact h
theorem op_put_id {o : Oper} {a : Act} {w : World} {K : Act → World → Prop} {Q : Exit → Act → World → Prop} (x y : Operand) (ho : o.op = .store 41 x y)
    (g : Nat) (hx : a.eval x = .pointer (some ⟨g, 0, none⟩)) (l : List UInt8) (hl : l.length = 33) (hy : a.eval y = idV l) (old : List UInt8) (hold : old.length = 33) (hg : IdAt w g old)
    (h : ∀ w', IdAt w' g l → w.grownBy w' (some g) → K (a.put o.dst undef) w') : o.wp Try.prog a w K Q :=
  wp_store_row _ x y ho g (vb l).toArray hx hy _ (vb old).toArray hg (by rw [vb_size, hl]; exact cells_id) (by rw [vb_size, vb_size, hl, hold]) (all_oneCell_toArray (vb_one l)) (h _ (setRow_heap w g _ _ _ _ hg) (setRow_grown w g _))
theorem op_eql_id {o : Oper} {a : Act} {w : World} {K : Act → World → Prop} {Q : Exit → Act → World → Prop} (p q : Operand) (t : TypeId) (ho : o.op = .binOp .eql 41 p q t)
    (x y : List UInt8) (hx : x.length = 33) (hy : y.length = 33) (hp : a.eval p = idV x) (hq : a.eval q = idV y) (h : K (a.put o.dst (.bool (x == y))) w) : o.wp Try.prog a w K Q := by
  unfold Oper.wp
  simp only [execOp, ho, hp, hq, Sem.run_bind, eqGuard_id, eql_id x y hx hy, Result.andThen_ok]
  exact h
theorem op_neq_id {o : Oper} {a : Act} {w : World} {K : Act → World → Prop} {Q : Exit → Act → World → Prop} (p q : Operand) (t : TypeId) (ho : o.op = .binOp .neq 41 p q t)
    (x y : List UInt8) (hx : x.length = 33) (hy : y.length = 33) (hp : a.eval p = idV x) (hq : a.eval q = idV y) (h : K (a.put o.dst (.bool (!(x == y)))) w) : o.wp Try.prog a w K Q := by
  unfold Oper.wp
  simp only [execOp, ho, hp, hq, Sem.run_bind, eqGuard_id, neq_id x y hx hy, Result.andThen_ok]
  exact h

theorem text_l (l : List UInt8) (w : World) (hl : l.length = 33) : Calls Try.prog 42 #[idV l] w (Gives (.string ⟨(textI l).toArray⟩) w) := by
  obtain ⟨k, s, rfl⟩ := List.exists_cons_of_length_pos (l := l) (by omega)
  exact itext_any k s w (by simpa using hl)
theorem good_l (l : List UInt8) (w : World) (hl : l.length = 33) : Calls Try.prog 45 #[idV l] w (Gives (.bool (goodI l)) w) := by
  obtain ⟨k, s, rfl⟩ := List.exists_cons_of_length_pos (l := l) (by omega)
  exact igood_any k s w (by simpa using hl)
theorem name_l (l : List UInt8) (w : World) (hl : l.length = 33) : Calls Try.prog 27 #[idV l] w (Gives (.string ⟨(textI l).toArray⟩) w) := by
  obtain ⟨k, s, rfl⟩ := List.exists_cons_of_length_pos (l := l) (by omega)
  exact name_any k s w (by simpa using hl)


end Go.Proofs.Ytabogconbjdcgaa.Cd
