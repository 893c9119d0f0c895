/-
  A name as an argument; alive answers true. Conditions: none.
-/
import Derived.Test.YtflgokbkkoobkaaDoorIdName
import Derived.Lib.SmallJoins
import Derived.SizedLaws
namespace Go.Proofs.YtflgokbkkoobkaaDoor.Cd
open Go.RowKit Go.ChangeShapes Go.WideShapes Go.Deep Go.Joins

theorem ione_byte {H : Type} {enc : TypeId × Value → H} {w : World} {n : Nat} {cs : List Value} {x : DataW H × List MemPlace} (h : DataW.trod enc Tryd.prog w 0 (fun _ => true) true n 5 cs = some x) : ∃ c : UInt8, cs = [.int .u8 c.toNat] := by
  obtain ⟨a, e, _, hw⟩ := DataW.trod_int Tryd.underlying5 h
  have hb := bounds_u8 hw
  obtain ⟨c, rfl⟩ := byte_of a hb.1 hb.2
  exact ⟨c, e⟩

theorem bytes_of_cells (n : Nat) (cs : List Value) (hn : cs.length = n) (h : ∀ i, i < n → ∃ c : UInt8, cs[i]? = some (.int .u8 c.toNat)) : ∃ l : List UInt8, l.length = n ∧ cs = vb l := by
  induction cs generalizing n with
  | nil => exact ⟨[], hn, rfl⟩
  | cons v r ih =>
    subst hn
    obtain ⟨c, hc⟩ := h 0 (by simp)
    obtain ⟨l, h1, h2⟩ := ih r.length rfl (fun i hi => by simpa using h (i + 1) (by simp; omega))
    refine ⟨c :: l, by simp [h1], ?_⟩
    simp at hc
    rw [hc, h2]
    rfl

set_option maxRecDepth 100000 in
theorem id_of_trod {H : Type} {enc : TypeId × Value → H} {w : World} {r : Reach} {b0 : Nat} {v : Value} {d : DataW H} {ps : List MemPlace} (hv : Value.okWide Tryd.prog w r b0 26 v)
    (h : DataW.Trod enc Tryd.prog w 0 (fun _ => true) true 26 v d ps) (_ : ∀ n ∈ d.weights Tryd.prog 26, n ≤ reachBytes) :
    ∃ l : List UInt8, v = idV l ∧ l.length = 33 := by
  obtain ⟨cs, rfl, hsz⟩ := okWide_struct Tryd.underlying26 hv
  have hsz2 : cs.size = 33 := hsz.trans (by kernel_rfl)
  obtain ⟨fuel, hf⟩ := h
  obtain ⟨y0, y1, n, hx, hl, h0, h1⟩ := trod_struct2 Tryd.underlying26 hf
  obtain ⟨xs, m, _, _, hl2, hl3, h2⟩ := DataW.trod_array Tryd.underlying24 h1
  have hcu : Tryd.prog.cellsOf 5 = 1 := by kernel_rfl
  have hcs : Tryd.prog.cellsOf 24 = 32 := by kernel_rfl
  have hcell : ∀ i, i < 33 → ∃ c : UInt8, cs.toList[i]? = some (.int .u8 c.toNat) := by
    intro i hi
    cases i with
    | zero =>
      obtain ⟨c, hc⟩ := ione_byte h0
      refine ⟨c, ?_⟩
      have := congrArg (fun l => l[0]?) hc
      simpa [Value.cells, hcu, List.getElem?_take] using this
    | succ i =>
      have h3 := h2 i (by omega)
      rw [List.getElem?_eq_getElem (by omega)] at h3
      obtain ⟨c, hc⟩ := ione_byte h3
      refine ⟨c, ?_⟩
      have := congrArg (fun l => l[0]?) hc
      simp [Value.cells, hcu, hcs, List.getElem?_take, List.getElem?_drop] at this
      have e : cs.toList[i + 1]? = cs[i + 1]? := by simp
      rw [e]
      have hi2 : i < 32 := by omega
      simpa [hi2, Nat.add_comm] using this
  obtain ⟨l, e1, e2⟩ := bytes_of_cells 33 cs.toList (by simpa using hsz2) hcell
  refine ⟨l, ?_, e1⟩
  unfold idV
  rw [← e2]

/-- The same behind a guard. -/
theorem op_load_id {o : Oper} {a : Act} {w : World} {K : Act → World → Prop} {Q : Exit → Act → World → Prop} (x : Operand) (ho : o.op = .load 26 x)
    (g : Nat) (hx : a.eval x = .pointer (some ⟨g, 0, none⟩)) (l : List UInt8) (hl : l.length = 33) (hg : IdAt w g l) (h : K (a.put o.dst (idV l)) w) : o.wp Tryd.prog a w K Q :=
  wp_load_row _ x ho g hx _ (vb l).toArray (0, 0) _ hg Tryd.underlying26 rfl (by rw [vb_size, hl]; exact cells_id) h
theorem op_alloc_id {o : Oper} {a : Act} {w : World} {K : Act → World → Prop} {Q : Exit → Act → World → Prop} (ho : o.op = .alloc 26)
    (h : K (a.put o.dst (.pointer (some ⟨w.heap.size, 0, none⟩))) (w.alloc (.cells (vb (zer 33)).toArray 26))) : o.wp Tryd.prog a w K Q := by
  unfold Oper.wp
  simp [execOp, ho, Instr.alloc, zero_id, newVar, newRow, newObj, Value.cells, Result.andThen]
  exact h
theorem op_zero_id {o : Oper} {a : Act} {w : World} {K : Act → World → Prop} {Q : Exit → Act → World → Prop} (ho : o.op = .build 26 #[])
    (h : K (a.put o.dst (idV (zer 33))) w) : o.wp Tryd.prog a w K Q :=
  wp_build _ #[] ho (by simp [built_id0]) (by simpa [built_id0, idV] using h)
theorem op_fill_id {o : Oper} {a : Act} {W w : World} {K : Act → World → Prop} {Q : Exit → Act → World → Prop} (x y : Operand) (ho : o.op = .store 26 x y)
    (hW : W = w.alloc (.cells (vb (zer 33)).toArray 26)) (hx : a.eval x = .pointer (some ⟨w.heap.size, 0, none⟩)) (l : List UInt8) (hl : l.length = 33) (hy : a.eval y = idV l)
    (h : K (a.put o.dst undef) (w.alloc (.cells (vb l).toArray 26))) : o.wp Tryd.prog a W K Q := by
  subst hW
  refine wp_store_row _ x y ho w.heap.size (vb l).toArray hx hy _ _ (heap_alloc_new w _) (by rw [vb_size, hl]; exact cells_id) (by rw [vb_size, vb_size, hl, zer_length]) (all_oneCell_toArray (vb_one l)) ?_
  have e : (w.alloc (.cells (vb (zer 33)).toArray 26)).setRow w.heap.size (vb l).toArray = w.alloc (.cells (vb l).toArray 26) := by
    unfold World.setRow World.alloc
    congr 1
    apply Array.ext
    · simp
    · intro k h1 h2
      simp only [Array.getElem_modify, Array.getElem_push]
      by_cases hk : w.heap.size = k
      · subst hk; simp
      · have : k < w.heap.size := by simp at h2; omega
        simp [hk, this]
  rw [e]
  exact h
theorem op_put_id {o : Oper} {a : Act} {w : World} {K : Act → World → Prop} {Q : Exit → Act → World → Prop} (x y : Operand) (ho : o.op = .store 26 x y)
    (g : Nat) (hx : a.eval x = .pointer (some ⟨g, 0, none⟩)) (l : List UInt8) (hl : l.length = 33) (hy : a.eval y = idV l) (old : List UInt8) (hold : old.length = 33) (hg : IdAt w g old)
    (h : ∀ w', IdAt w' g l → w.grownBy w' (some g) → K (a.put o.dst undef) w') : o.wp Tryd.prog a w K Q :=
  wp_store_row _ x y ho g (vb l).toArray hx hy _ (vb old).toArray hg (by rw [vb_size, hl]; exact cells_id) (by rw [vb_size, vb_size, hl, hold]) (all_oneCell_toArray (vb_one l)) (h _ (setRow_heap w g _ _ _ _ hg) (setRow_grown w g _))
theorem op_eql_id {o : Oper} {a : Act} {w : World} {K : Act → World → Prop} {Q : Exit → Act → World → Prop} (p q : Operand) (t : TypeId) (ho : o.op = .binOp .eql 26 p q t)
    (x y : List UInt8) (hx : x.length = 33) (hy : y.length = 33) (hp : a.eval p = idV x) (hq : a.eval q = idV y) (h : K (a.put o.dst (.bool (x == y))) w) : o.wp Tryd.prog a w K Q := by
  unfold Oper.wp
  simp only [execOp, ho, hp, hq, Sem.run_bind, eqGuard_id, eql_id x y hx hy, Result.andThen_ok]
  exact h
theorem op_neq_id {o : Oper} {a : Act} {w : World} {K : Act → World → Prop} {Q : Exit → Act → World → Prop} (p q : Operand) (t : TypeId) (ho : o.op = .binOp .neq 26 p q t)
    (x y : List UInt8) (hx : x.length = 33) (hy : y.length = 33) (hp : a.eval p = idV x) (hq : a.eval q = idV y) (h : K (a.put o.dst (.bool (!(x == y)))) w) : o.wp Tryd.prog a w K Q := by
  unfold Oper.wp
  simp only [execOp, ho, hp, hq, Sem.run_bind, eqGuard_id, neq_id x y hx hy, Result.andThen_ok]
  exact h

theorem text_l (l : List UInt8) (w : World) (hl : l.length = 33) : Calls Tryd.prog 18 #[idV l] w (Gives (.string ⟨(textI l).toArray⟩) w) := by
  obtain ⟨k, s, rfl⟩ := List.exists_cons_of_length_pos (l := l) (by omega)
  exact itext_any k s w (by simpa using hl)
theorem good_l (l : List UInt8) (w : World) (hl : l.length = 33) : Calls Tryd.prog 32 #[idV l] w (Gives (.bool (goodI l)) w) := by
  obtain ⟨k, s, rfl⟩ := List.exists_cons_of_length_pos (l := l) (by omega)
  exact igood_any k s w (by simpa using hl)
theorem name_l (l : List UInt8) (w : World) (hl : l.length = 33) : Calls Tryd.prog 47 #[idV l] w (Gives (.string ⟨(textI l).toArray⟩) w) := by
  obtain ⟨k, s, rfl⟩ := List.exists_cons_of_length_pos (l := l) (by omega)
  exact name_any k s w (by simpa using hl)

theorem a_text : textI (ofF [97]) = [1, 175, 99, 220, 76, 134, 1, 236, 140] := by decide
set_option maxRecDepth 100000 in
set_option maxHeartbeats 1600000 in
theorem ialive_any (w : World) : Calls Tryd.prog 6 #[] w (Gives (.bool true) w) := by
  have kc := bytes_const
  have hs := sl_mark w [97] #[.int .u8 97] rfl (by simp [maxLen]) 1 rfl (1, 2)
  have hb0 : Below w.heap.size w (w.alloc (.cells #[.int .u8 97] 5 (1, 2))) := (Below.refl _ _).alloc (Nat.le_refl _) _
  go_enter Tryd.func6, Tryd.ntmps6
  go_wp2_with fail
  have hof := of_fnv _ [97] (w.alloc (.cells #[.int .u8 97] 5 (1, 2))) (hs.more (by simp))
  have htx := fun W => text_l (ofF [97]) W (ofF_length _)
  rw [a_text] at htx
  generalize ofF [97] = L at hof htx
  have HTX := Lib.hid htx
  clear htx
  refine hof.mono ?_
  rintro e w2 ⟨rfl, hb2⟩
  have HB2 := Lib.hid (hb0.trans (hb2.mono hb0.size))
  clear hb2 hof hs hb0
  go_wp2_with fail
  refine (HTX.out _).mono ?_
  rintro e w3 ⟨rfl, hb3⟩
  have HB3 := Lib.hid (HB2.out.trans (hb3.mono HB2.out.size))
  clear hb3
  have hsz := fun W => size_any 2 W
  rw [show ((2 : UInt8).toNat : Int) = 2 from rfl, show sizeI 2 = 32 from rfl] at hsz
  have HSZ := Lib.hid hsz
  clear hsz
  go_wp2_with fail
  refine (HSZ.out _).mono ?_
  rintro e w4 ⟨rfl, rfl⟩
  go_wp2_with fail
  go_ret
  exact ⟨rfl, HB3.out⟩

end Go.Proofs.YtflgokbkkoobkaaDoor.Cd
