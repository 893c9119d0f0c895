/-
  Two names are the same if all of their cells are. Conditions: none.
-/
import Derived.Test.YtflgokbkkoobkaaDoorIdNamed
import Derived.ChangeKeysEq
import Derived.Laws.StructEq
namespace Go.Proofs.YtflgokbkkoobkaaDoor.Cd
open Go.RowKit

theorem ipart_byte (l : List UInt8) (i : Nat) (h : i < l.length) (w : World) : (part 5 (vb l).toArray i).run Tryd.prog w = .ok (.int .u8 (l[i]).toNat) w := by
  have hc : (vb l).toArray[i]? = some (.int .u8 (l[i]).toNat) := by
    rw [List.getElem?_toArray]
    exact vb_at l i h
  simp [part, isAgg, run_underlying Tryd.underlying5, hc]
theorem part_sum (l : List UInt8) (h : l.length = 33) (w : World) : (part 24 (vb l).toArray 1).run Tryd.prog w = .ok (.agg (vb (l.drop 1)).toArray) w := by
  have hs : (Tryd.prog.info? 24).map (·.size) = some 32 := by kernel_rfl
  have ht : List.take 32 (vb l).tail = vb l.tail := by
    rw [List.take_of_length_le (by simp [vb_length, h])]
    simp [vb, List.map_tail]
  cases hq : Tryd.prog.info? 24 with
  | none => simp [hq] at hs
  | some i =>
    have hs2 : i.size = 32 := by simpa [hq] using hs
    simp [part, isAgg, run_underlying Tryd.underlying24, sizeOf, typeInfo, hq, hs2, ht]

theorem eqItems_bytes (d : Nat) (x y : List UInt8) : ∀ (is : List Nat) (w : World), (∀ i ∈ is, i < x.length ∧ i < y.length) →
    (Op.eqItems (d + 1) 5 1 (vb x).toArray (vb y).toArray is).run Tryd.prog w = .ok (is.all fun i => x[i]? == y[i]?) w
  | [], w, _ => by simp [Op.eqItems]
  | i :: is, w, h => by
    obtain ⟨h1, h2⟩ := h i (by simp)
    have ih := eqItems_bytes d x y is w (fun j hj => h j (by simp [hj]))
    have e := run_equalIn_int (P := Tryd.prog) w d 5 .u8 _ ((x[i]).toNat : Int) ((y[i]).toNat : Int) Tryd.underlying5
    have hb : (((x[i]).toNat : Int) == ((y[i]).toNat : Int)) = (x[i]? == y[i]?) := by
      rw [List.getElem?_eq_getElem h1, List.getElem?_eq_getElem h2]
      rw [Bool.eq_iff_iff]
      simp only [beq_iff_eq, Option.some.injEq, ← UInt8.toNat_inj]
      omega
    rw [hb] at e
    simp only [Op.eqItems, Sem.run_bind, Nat.mul_one, ipart_byte x i h1, ipart_byte y i h2, e, Result.andThen_ok, List.all_cons]
    cases x[i]? == y[i]?
    · simp
    · simpa using ih

theorem range_all (x y : List UInt8) (n : Nat) (hx : x.length = n) (hy : y.length = n) : ((List.range n).all fun i => x[i]? == y[i]?) = (x == y) := by
  rw [Bool.eq_iff_iff]
  simp only [List.all_eq_true, List.mem_range, beq_iff_eq]
  constructor
  · intro h
    apply List.ext_getElem?
    intro i
    by_cases hi : i < n
    · exact h i hi
    · rw [List.getElem?_eq_none (by omega), List.getElem?_eq_none (by omega)]
  · rintro rfl i _
    rfl

theorem equal_sum (d : Nat) (x y : List UInt8) (hx : x.length = 32) (hy : y.length = 32) (w : World) : (Op.equalIn (d + 2) 24 (.agg (vb x).toArray) (.agg (vb y).toArray)).run Tryd.prog w = .ok (x == y) w := by
  have hs : (Tryd.prog.info? 5).map (·.size) = some 1 := by kernel_rfl
  cases hq : Tryd.prog.info? 5 with
  | none => simp [hq] at hs
  | some i =>
    have hc : Tryd.prog.cellsOf 5 = 1 := by simp [Program.cellsOf, hs]
    rw [run_equalIn_array w (d + 1) _ _ Tryd.underlying24 hq, hc, eqItems_bytes d x y _ w (fun i hi => by have := List.mem_range.1 hi; omega), range_all x y 32 hx hy]

theorem fields_id : (Tryd.prog.fieldsOf 26).toList.map (fun f => (f.name == "_", f.type, f.offset)) = [(false, 5, 0), (false, 24, 1)] := by kernel_rfl
theorem equal_id (x y : List UInt8) (hx : x.length = 33) (hy : y.length = 33) (w : World) : (Op.equalIn 10000 26 (.agg (vb x).toArray) (.agg (vb y).toArray)).run Tryd.prog w = .ok (x == y) w := by
  rw [run_equalIn_struct w 9999 26 _ _ (by kernel_rfl) (by kernel_rfl)]
  have hf := fields_id
  generalize (Tryd.prog.fieldsOf 26).toList = fs at hf
  obtain ⟨f, g, rfl⟩ : ∃ f g, fs = [f, g] := by
    have hl : fs.length = 2 := by simpa using congrArg List.length hf
    match fs, hl with
    | [f, g], _ => exact ⟨f, g, rfl⟩
  simp only [List.map_cons, List.map_nil, List.cons.injEq, Prod.mk.injEq, and_true, beq_eq_false_iff_ne] at hf
  obtain ⟨⟨f1, f2, f3⟩, g1, g2, g3⟩ := hf
  have e := run_equalIn_int (P := Tryd.prog) w 9998 5 .u8 _ ((x[0]).toNat : Int) ((y[0]).toNat : Int) Tryd.underlying5
  have e2 := equal_sum 9997 (x.drop 1) (y.drop 1) (by simp [hx]) (by simp [hy]) w
  have hb : (((x[0]).toNat : Int) == ((y[0]).toNat : Int)) = (x[0] == y[0]) := by
    rw [Bool.eq_iff_iff]
    simp only [beq_iff_eq, ← UInt8.toNat_inj]
    omega
  have hxy : (x == y) = (x[0] == y[0] && x.drop 1 == y.drop 1) := by
    obtain ⟨a, x, rfl⟩ := List.exists_cons_of_length_pos (l := x) (by omega)
    obtain ⟨b, y, rfl⟩ := List.exists_cons_of_length_pos (l := y) (by omega)
    rfl
  rw [hb] at e
  rw [hxy]
  simp only [Op.eqFields, f1, f2, f3, g1, g2, g3, ne_eq, not_false_eq_true, if_true, Sem.run_bind, ipart_byte x 0 (by omega), ipart_byte y 0 (by omega), Result.andThen_ok, e]
  cases x[0] == y[0]
  · simp
  · simp only [Bool.not_true, Bool.false_eq_true, if_false, Sem.run_bind, part_sum x hx, part_sum y hy, Result.andThen_ok, e2]
    cases x.drop 1 == y.drop 1 <;> simp

theorem eqGuard_id (op : BinOp) (p q : Operand) (x y : List UInt8) (w : World) : (eqGuard op 26 p q (idV x) (idV y)).run Tryd.prog w = .ok () w := run_eqGuard_agg w op _ p q _ _ (by kernel_rfl)
theorem eql_id (x y : List UInt8) (hx : x.length = 33) (hy : y.length = 33) (w : World) : (binOp .eql 26 (idV x) (idV y)).run Tryd.prog w = .ok (.bool (x == y)) w := by
  unfold idV
  rw [run_eql_struct, equal_id x y hx hy]
  rfl
theorem neq_id (x y : List UInt8) (hx : x.length = 33) (hy : y.length = 33) (w : World) : (binOp .neq 26 (idV x) (idV y)).run Tryd.prog w = .ok (.bool (!(x == y))) w := by
  unfold idV
  rw [run_neq_struct, equal_id x y hx hy]
  rfl
theorem wp_eql_id {ops : Array Oper} {rest : List Oper} {o : Oper} {a : Act} {w : World} {Q : Exit → Act → World → Prop} (hgd : o.guard = none) (p q : Operand) (t : TypeId) (ho : o.op = .binOp .eql 26 p q t)
    (x y : List UInt8) (hx : x.length = 33) (hy : y.length = 33) (hp : a.eval p = idV x) (hq : a.eval q = idV y)
    (h : wpList Tryd.prog ops Q rest (a.put o.dst (.bool (x == y))) w) : wpList Tryd.prog ops Q (o :: rest) a w :=
  wpList_plain hgd fun K hK => by
    unfold Oper.wp
    simp only [execOp, ho, hp, hq, Sem.run_bind, eqGuard_id, eql_id x y hx hy, Result.andThen_ok]
    exact hK _ _ h

end Go.Proofs.YtflgokbkkoobkaaDoor.Cd
