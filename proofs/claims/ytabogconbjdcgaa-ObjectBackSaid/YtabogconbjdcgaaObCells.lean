/-
  Values of many cells that are laid out of parts; rows of one. Conditions: none.
-/
import Derived.Test.YtabogconbjdcgaaObKids
import Derived.Great.BuildSlice
namespace Go.Proofs.Ytabogconbjdcgaa.Cd
open Go.RowKit

theorem fold_laid (off : Nat) (vs : List Value) : ∀ (k : Nat) (cs : Array Value), (vs.zipIdx k).foldl (fun cs x => cs.setIfInBounds (off + x.2) x.1) cs = (laid cs.toList (off + k) vs).toArray := by
  induction vs with
  | nil => intro k cs; simp [laid]
  | cons v r ih =>
    intro k cs
    rw [List.zipIdx_cons, List.foldl_cons, ih, laid, Array.toList_setIfInBounds]
    rfl
theorem fill_laid {place : Nat → Option (Nat × Nat)} {cells : Array Value} {i : Nat} {v : Value} {rest : List (Nat × Value)} {off size : Nat} (hp : place i = some (off, size)) (vs : List Value) (hv : v.cells = vs.toArray) (hs : vs.length = size) (ho : off + size ≤ cells.size) :
    Instr.fill place cells ((i, v) :: rest) = Instr.fill place (laid cells.toList off vs).toArray rest := by
  subst hs
  have hfold := fold_laid off vs 0 cells
  rw [Nat.add_zero] at hfold
  rw [Instr.fill, hp]
  simp only [hv]
  have hz : vs.toArray.size = vs.length := by simp
  rw [if_neg (by simp; omega)]
  rw [← hfold]
  congr 1
  rw [← Array.foldl_toList, Array.toList_zipIdx]

/-- A struct's nought, and where its fields lie. -/
def shapeOf (P : Program) (t : TypeId) : Option (Value × List (Nat × Nat)) :=
  match P.info? t, P.underlying t with
  | some it, some (.struct fields) =>
    match it.zero, fields.toList.mapM (fun f => (P.info? f.type).map fun i => (f.offset, i.size)) with
    | some z, some places => some (z, places)
    | _, _ => none
  | _, _ => none
theorem built_shape {P : Program} {t : TypeId} {z : Value} {places : List (Nat × Nat)} (h : shapeOf P t = some (z, places)) (parts : List (Nat × Value)) : P.built t parts = Instr.fill (places.toArray[·]?) z.cells parts := by
  unfold shapeOf at h
  unfold Program.built
  split at h
  · rename_i it fields h1 h2
    rw [h1, h2]
    simp only
    split at h
    · rename_i z' p' h3 h4
      injection h with h
      injection h with ha hb
      subst ha hb
      rw [h3, h4]
    · cases h
  · cases h

theorem shape_kk : shapeOf Try.prog 59 = some (.agg (Value.string ByteArray.empty :: vb (zer 33)).toArray, [(0, 1), (1, 33)]) := by kernel_rfl
theorem built_kk (s : List UInt8) (i : Idn) : Try.prog.built 59 [(0, .string ⟨s.toArray⟩), (1, idV i.1)] = some (kkC (s, i)).toArray := by
  have hl : (vb i.1).length = 33 := by rw [vb_length, i.2]
  rw [built_shape shape_kk, fill_laid (off := 0) (size := 1) rfl [.string ⟨s.toArray⟩] rfl rfl (by simp [Value.cells, vb_length, zer_length]), fill_laid (off := 1) (size := 33) rfl (vb i.1) rfl hl (by simp [Value.cells, laid_length, vb_length, zer_length])]
  have h := laid_mid [Value.string ⟨s.toArray⟩] (vb (zer 33)) [] (vb i.1) (by rw [hl, vb_length, zer_length])
  simp only [List.append_nil, List.length_singleton] at h
  have e : laid (Value.agg (Value.string ByteArray.empty :: vb (zer 33)).toArray).cells.toList 0 [Value.string ⟨s.toArray⟩] = [Value.string ⟨s.toArray⟩] ++ vb (zer 33) := rfl
  rw [e]
  show some (laid ([Value.string ⟨s.toArray⟩] ++ vb (zer 33)) 1 (vb i.1)).toArray = _
  rw [h]
  rfl
theorem wp_build_kk {ops : Array Oper} {rest : List Oper} {o : Oper} {a : Act} {w : World} {Q : Exit → Act → World → Prop} (hgd : o.guard = none) (x y : Operand) (ho : o.op = .build 59 #[(0, x), (1, y)])
    (s : List UInt8) (i : Idn) (hx : a.eval x = .string ⟨s.toArray⟩) (hy : a.eval y = idV i.1)
    (h : wpList Try.prog ops Q rest (a.put o.dst (.agg (kkC (s, i)).toArray)) w) : wpList Try.prog ops Q (o :: rest) a w :=
  wp_build_row hgd _ ho _ (built_kk s i) (by simp [hx, hy]) h

/-- A row of one. -/
theorem fill_one {α : Type} {f : α → List Value} {n : Nat} {T S : TypeId} {bytes : Nat} {z : Value} (K : Kind f n T S bytes z) (p : α) (cells : Array Value) (hc : cells.size = n) :
    Instr.fill (fun i => some (i * n, n)) cells [(0, .agg (f p).toArray)] = some (f p).toArray := by
  rw [fill_laid (off := 0) (size := n) (by simp) (f p) rfl (K.len p) (by omega), Instr.fill]
  have h := laid_mid [] cells.toList [] (f p) (by rw [K.len]; simp [hc])
  simp only [List.append_nil, List.nil_append, List.length_nil] at h
  rw [h]
section
variable {α : Type} {f : α → List Value} {n : Nat} {T S : TypeId} {bytes : Nat} {z : Value}
theorem op_one (K : Kind f n T S bytes z) (hn : n ≤ 1000) {o : Oper} {a : Act} {w : World} {K9 : Act → World → Prop} {Q : Exit → Act → World → Prop} (x : Operand) (ho : o.op = .buildSlice S 1 #[(0, x)]) (p : α) (hx : a.eval x = .agg (f p).toArray)
    (h : K9 (a.put o.dst (.slice (some ⟨w.heap.size, 0, none⟩) 1 1)) (w.alloc (.cells (f p).toArray T))) : o.wp Try.prog a w K9 Q := by
  obtain ⟨i0, hi, hz0, hz1, hz2⟩ := info_parts K.info
  subst hz1
  have hp := K.pos
  exact wp_buildSlice S T 1 _ ho (f p).toArray i0 z K.slice hi hz0 (by omega) (by omega) (by
    have e : (#[(0, x)].map fun (i, x) => (i, a.eval x)).toList = [(0, .agg (f p).toArray)] := by simp [hx]
    rw [e]
    exact fill_one K p _ (by simp)) h
theorem wp_one (K : Kind f n T S bytes z) (hn : n ≤ 1000) {ops : Array Oper} {rest : List Oper} {o : Oper} {a : Act} {w : World} {Q : Exit → Act → World → Prop} (hgd : o.guard = none) (x : Operand) (ho : o.op = .buildSlice S 1 #[(0, x)]) (p : α) (hx : a.eval x = .agg (f p).toArray)
    (h : wpList Try.prog ops Q rest (a.put o.dst (.slice (some ⟨w.heap.size, 0, none⟩) 1 1)) (w.alloc (.cells (f p).toArray T))) : wpList Try.prog ops Q (o :: rest) a w :=
  wpList_plain hgd fun _ hK => op_one K hn x ho p hx (hK _ _ h)
theorem step_one (K : Kind f n T S bytes z) (hn : n ≤ 1000) {ops : Array Oper} {o : Oper} {a : Act} {w : World} {K9 : Act → World → Prop} {Q : Exit → Act → World → Prop} {E : Prop} (hgd : o.guard = none) (x : Operand) (ho : o.op = .buildSlice S 1 #[(0, x)]) (p : α) (hx : a.eval x = .agg (f p).toArray)
    (h : K9 (a.put o.dst (.slice (some ⟨w.heap.size, 0, none⟩) 1 1)) (w.alloc (.cells (f p).toArray T))) : if Region.wanted o (yielded ops a.tmps) = true then Oper.wp Try.prog o a w K9 Q else E := by
  have hw : Region.wanted o (yielded ops a.tmps) = true := by simp [Region.wanted, hgd]
  rw [if_pos hw]
  exact op_one K hn x ho p hx h
end

end Go.Proofs.Ytabogconbjdcgaa.Cd
