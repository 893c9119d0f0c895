/-
  A word turned to the right. Conditions: none.
-/
import Derived.Test.YthbahbcihaebeaaDoorG2
import Derived.Deep.Slices
import Derived.Deep.Fields
import Derived.Deep.RegionLaw
import Derived.RegionTactic
import Derived.BigRegion
import Derived.OpenShut
import Derived.ChangeSame
import Derived.LoopTactic
import Derived.Laws.Rows
import Derived.SizedLaws
import Derived.Lib.SlBytesConst
import Derived.Test.YthbahbcihaebeaaDoorG1
import Derived.IntWalk
import Derived.Laws.BitsAllLaws
/-
  What every seat's texts lean on: what a call gives, slices of bytes that grow, the reading of an argument of bytes. Conditions: none.
-/
namespace Go.Proofs.YthbahbcihaebeaaDoor.Cd
open Go.RowKit Go.ChangeShapes Go.WideShapes Go.Deep

/-- What a call leaves that answers one value and writes to nothing that was there. -/
def Gives (v : Value) (w : World) (e : Ending) (w' : World) : Prop := e = .returned v ∧ Below w.heap.size w w'

theorem below_of_grown {w0 w w' : World} {g B : Nat} (h : Below B w0 w) (hg : w.grownBy w' (some g)) (hB : B ≤ w.heap.size) (hr : B ≤ g) : Below B w0 w' :=
  h.grown hg hB (fun k hk => by injection hk with hk; omega)

theorem below_drewN {B : Nat} {a w : World} (h : Below B a w) (n : Nat) : Below B a (w.drewN n) := ⟨h.os, h.tape, h.output, h.size, h.block⟩

theorem asz (w : World) (o : Obj) : (w.alloc o).heap.size = w.heap.size + 1 := by simp

theorem sl_mark (w : World) (cs : List UInt8) (xs : Array Value) (hx : xs = (vb cs).toArray) (hm : cs.length ≤ maxLen) (n : Nat) (hn : n = cs.length) (fr : Nat × Nat) :
    Sl (w.alloc (.cells xs 5 fr)) (w.heap.size + 1) (.slice (some ⟨w.heap.size, 0, none⟩) n n) cs := by
  subst hx hn
  refine ⟨_, cs.length, rfl, Nat.le_refl _, hm, (fun h => by cases h), (fun ad e _ => by injection e with e; subst e; simp), fun ad e j u hu => ?_⟩
  injection e with e
  subst e
  rw [Addr.add_lit, Nat.zero_add]
  have := cell_of_row (w.alloc (.cells (vb cs).toArray 5 fr)) w.heap.size j (vb cs).toArray 5 fr (heap_alloc_new w _)
  rw [this]
  simpa using hu

theorem sl_new (w : World) (cs : List UInt8) (xs : Array Value) (hx : xs = (vb cs).toArray) (hm : cs.length ≤ maxLen) (n : Nat) (hn : n = cs.length) :
    Sl (w.alloc (.cells xs 5)) (w.heap.size + 1) (.slice (some ⟨w.heap.size, 0, none⟩) n n) cs := sl_mark w cs xs hx hm n hn (0, 0)

/-- []byte of a constant, for the walk. -/
theorem bytes_const (w : World) (C : Array Value) (n c : Nat) : (convert 73 73 (.slice (some ⟨w.heap.size, 0, none⟩) n c)).run Tryd.prog (w.alloc (.cells C 5)) = .ok (.slice (some ⟨w.heap.size, 0, none⟩) n c) (w.alloc (.cells C 5 (C.size, C.size + 1))) :=
  Lib.run_convert_bytes_const (P := Tryd.prog) w 73 5 C n c Tryd.underlying73 Tryd.underlying5

/-- A row of the call's own that has a first byte. -/
theorem Own.open {w : World} {B : Nat} {v : Value} {c : UInt8} {r : List UInt8} (h : Own w B v (c :: r)) :
    ∃ g cap, v = .slice (some ⟨g, 0, none⟩) (r.length + 1) cap ∧ r.length + 1 ≤ cap ∧ cap ≤ maxLen ∧ g < w.heap.size ∧ ∀ j u, (vb (c :: r))[j]? = some u → w.cell? ⟨g, j, none⟩ = some u := by
  obtain ⟨g, cap, hv, hlt⟩ : ∃ g cap, v = .slice (some ⟨g, 0, none⟩) (r.length + 1) cap ∧ g < w.heap.size := by
    have hlt := h.lt
    rcases h.2 with ⟨_, h0⟩ | ⟨g, cap, cur, rfl, _⟩
    · simp at h0
    · exact ⟨g, cap, by simp, (hlt g rfl).2⟩
  have hc := World.ownsRow.cells h (g := g) (by rw [hv]; rfl)
  have hs := h.sl
  obtain ⟨A, c', e, h2, h3, _⟩ := hs
  rw [hv] at e
  injection e with e1 e2 e3
  subst e3
  exact ⟨g, cap, hv, h2, h3, hlt, fun j u hu => by have := hc j u hu; rwa [Addr.add_lit, Nat.zero_add] at this⟩

/-- string(x[1:]). -/
theorem run_text_tail (w : World) (g cap : Nat) (c : UInt8) (r : List UInt8) (hcap : r.length + 1 ≤ cap) (hc : ∀ j u, (vb (c :: r))[j]? = some u → w.cell? ⟨g, j, none⟩ = some u) :
    (convert 73 9 (.slice (if cap = 1 then some ⟨g, 0, none⟩ else some ⟨g, 1, none⟩) r.length (cap - 1))).run Tryd.prog w = .ok (.string ⟨r.toArray⟩) w := by
  by_cases h : cap = 1
  · have hr : r = [] := List.eq_nil_of_length_eq_zero (by omega)
    subst hr
    rw [if_pos h]
    exact run_convert_bytes_back w 73 9 5 ⟨g, 0, none⟩ _ [] Tryd.underlying73 Tryd.underlying5 Tryd.underlying9 fun j hj => by simp at hj
  · rw [if_neg h]
    refine run_convert_bytes_back w 73 9 5 ⟨g, 1, none⟩ _ r Tryd.underlying73 Tryd.underlying5 Tryd.underlying9 fun j hj => ?_
    rw [Addr.add_lit, Nat.add_comm]
    refine hc (j + 1) _ ?_
    simp [vb, hj]

theorem Own.alloc {w : World} {B : Nat} {v : Value} {bs : List UInt8} (h : Own w B v bs) (o : Obj) : Own (w.alloc o) B v bs := World.ownsRow.alloc h o
theorem Own.drew {w : World} {B : Nat} {v : Value} {bs : List UInt8} (h : Own w B v bs) : Own w.drew B v bs := h

theorem Own.keep {w w' : World} {B : Nat} {v : Value} {bs : List UInt8} (h : Own w B v bs) (hb : Below w.heap.size w w') : Own w' B v bs := by
  have hlt := h.lt
  refine ⟨h.1, ?_⟩
  rcases h.2 with h2 | ⟨g, cap, cur, rfl, hg, hh, r⟩
  · exact .inl h2
  · exact .inr ⟨g, cap, cur, rfl, hg, (hb.block g (hlt g rfl).2).trans hh, r⟩

theorem hO_sl {w : World} {B : Nat} {v : Value} {bs : List UInt8} (h : Own w B v bs) (o : Obj) : Sl (w.alloc o) (w.heap.size + 1) v bs := by
  have h2 := (h.alloc o).sl
  rwa [show (w.alloc o).heap.size = w.heap.size + 1 by simp] at h2

/-- append(own, b...), b whatever slice of bytes. -/
theorem run_append_sl (w : World) (B : Nat) (v : Value) (bs : List UInt8) (ho : Own w B v bs) (hB : B ≤ w.heap.size) (x : Value) (B' : Nat) (ns : List UInt8) (hx : Sl w B' x ns)
    (hm : bs.length + ns.length ≤ 140737488355328) (ty : TypeId) :
    ∃ v' w', (Builtin.append_ #[73, 73] ty #[v, x]).run Tryd.prog w = .ok v' w' ∧ Own w' B v' (bs ++ ns) ∧ Below B w w' := by
  obtain ⟨i0, hi, hz0, hz1, hz2⟩ := info_parts info5
  have hmax : bs.length + ns.length ≤ maxLen := by simp only [maxLen]; omega
  obtain ⟨A, c, rfl, _, _, h4, _, h6⟩ := hx
  cases A with
  | some ad =>
    obtain ⟨v', w', hr, h2, h3, _⟩ := run_append_own (P := Tryd.prog) w B 73 ty 5 i0 _ 1 1 Tryd.underlying73 hi hz0 hz1 hz2 rfl (by omega) v bs.length (vb bs) ho ad ns.length c (vb ns) (by simp [vb]) (h6 ad rfl) (vb_one ns) hmax (by omega) hB
    refine ⟨v', w', hr, ?_, (Below.refl _ _).grown h3 hB (fun k hk => (ho.lt k hk).1)⟩
    unfold Own
    rw [vb_append, List.length_append]
    exact h2
  | none =>
    have hc := h4 rfl
    subst hc
    have : ns = [] := List.eq_nil_of_length_eq_zero (by omega)
    subst this
    refine ⟨v, w, ?_, by simpa using ho, Below.refl _ _⟩
    rcases ho.2 with ⟨rfl, h0⟩ | ⟨g, cap, cur, rfl, _, _, hnc, _⟩
    · simp [Builtin.append_, run_underlying Tryd.underlying73, sizeOf, typeInfo, hi, Builtin.lenOf, Builtin.firstCells]
    · simp [Builtin.append_, run_underlying Tryd.underlying73, sizeOf, typeInfo, hi, Builtin.lenOf, Builtin.firstCells, hnc, storeCells]

theorem step_append_sl {w : World} {ops : Array Oper} {o : Oper} {a : Act} {K : Act → World → Prop} {Q : Exit → Act → World → Prop} {E : Prop} (hgd : o.guard = none) (s x : Operand)
    (hop : o.op = .call { callee := .builtin .append, args := #[s, x], argTypes := #[73, 73] })
    (B : Nat) (v : Value) (bs : List UInt8) (hs : a.eval s = v) (ho : Own w B v bs) (hB : B ≤ w.heap.size) (y : Value) (B' : Nat) (ns : List UInt8) (hx : a.eval x = y) (hy : Sl w B' y ns)
    (hm : bs.length + ns.length ≤ 140737488355328)
    (h : ∀ v' w', Own w' B v' (bs ++ ns) → Below B w w' → K (a.put o.dst v') w') : if Region.wanted o (yielded ops a.tmps) = true then Oper.wp Tryd.prog o a w K Q else E := by
  have hw : Region.wanted o (yielded ops a.tmps) = true := by simp [Region.wanted, hgd]
  rw [if_pos hw]
  obtain ⟨v', w', hrun, r1, r2⟩ := run_append_sl w B v bs ho hB y B' ns hy hm o.type
  unfold Oper.wp
  simp [execOp, hop, resolve, invoke, builtin, hs, hx, hrun, Result.andThen]
  exact h v' w' r1 r2

theorem step_append_text {w : World} {ops : Array Oper} {o : Oper} {a : Act} {K : Act → World → Prop} {Q : Exit → Act → World → Prop} {E : Prop} (hgd : o.guard = none) (s x : Operand)
    (hop : o.op = .call { callee := .builtin .append, args := #[s, x], argTypes := #[73, 9] })
    (B : Nat) (v : Value) (bs : List UInt8) (hs : a.eval s = v) (ho : Own w B v bs) (hB : B ≤ w.heap.size) (t : List UInt8) (hx : a.eval x = .string ⟨t.toArray⟩)
    (hm : bs.length + t.length ≤ 140737488355328)
    (h : ∀ v' w', Own w' B v' (bs ++ t) → Below B w w' → K (a.put o.dst v') w') : if Region.wanted o (yielded ops a.tmps) = true then Oper.wp Tryd.prog o a w K Q else E := by
  have hw : Region.wanted o (yielded ops a.tmps) = true := by simp [Region.wanted, hgd]
  rw [if_pos hw]
  obtain ⟨i0, hi, hz0, hz1, hz2⟩ := info_parts info5
  have hmax : bs.length + t.length ≤ maxLen := by simp only [maxLen]; omega
  obtain ⟨v', w', hrun, r1, r2⟩ := Lib.run_append_own_string (P := Tryd.prog) w B 73 9 o.type 5 i0 Tryd.underlying73 Tryd.underlying9 hi hz0 hz1 hz2 v bs.length (vb bs) ho ⟨t.toArray⟩ hmax (by have : (ByteArray.mk t.toArray).size = t.length := rfl; omega) hB
  unfold Oper.wp
  simp [execOp, hop, resolve, invoke, builtin, hs, hx, hrun, Result.andThen]
  refine h v' w' ?_ ((Below.refl _ _).grown r2.1 hB (fun k hk => (ho.lt k hk).1))
  unfold Own
  rw [vb_append, List.length_append]
  exact r1

theorem own_empty (wr : World) (o : Obj) (B : Nat) (hB : B ≤ wr.heap.size + 1) : Own (((wr.alloc o).alloc (.cells #[] 5)).drew) B (.slice (some ⟨wr.heap.size + 1, 0, none⟩) 0 0) [] := by
  have h := World.ownsRow_made (base := B) (e := 5) (size := 1) (wr.alloc o) #[] 0 (by simp; omega) (by simp) rfl
  rw [show (wr.alloc o).heap.size = wr.heap.size + 1 by simp] at h
  exact h

/-- A slice that has bytes: where they lie. -/
theorem Sl.at {w : World} {B : Nat} {v : Value} {bs : List UInt8} (h : Sl w B v bs) (h0 : 0 < bs.length) :
    ∃ b off c, v = .slice (some ⟨b, off, none⟩) bs.length c ∧ bs.length ≤ c ∧ c ≤ maxLen ∧ b < B ∧ ∀ j (hj : j < bs.length), w.cell? ⟨b, off + j, none⟩ = some (.int .u8 (bs[j]).toNat) := by
  obtain ⟨A, c, rfl, h2, h3, h4, h5, h6⟩ := h
  cases A with
  | none => have := h4 rfl; omega
  | some a =>
    obtain ⟨b, off, spot⟩ := a
    have hc := h6 _ rfl 0 _ (vb_at bs 0 h0)
    have hspot : spot = none := by simpa [Addr.add] using World.cell?_spot hc
    subst hspot
    refine ⟨b, off, c, rfl, h2, h3, h5 _ rfl h0, fun j hj => ?_⟩
    have := h6 _ rfl j _ (vb_at bs j hj)
    rwa [Addr.add_lit] at this

theorem Sl.len {w : World} {B : Nat} {v : Value} {bs : List UInt8} (h : Sl w B v bs) : ∃ A c, v = .slice A bs.length c ∧ bs.length ≤ c ∧ c ≤ maxLen := by
  obtain ⟨A, c, rfl, h2, h3, _⟩ := h
  exact ⟨A, c, rfl, h2, h3⟩

/-- A slice of byte slices. -/
def Sls (w : World) (B : Nat) (v : Value) (l : List (List UInt8)) : Prop :=
  ∃ A c, v = .slice A l.length c ∧ l.length ≤ c ∧ c ≤ maxLen ∧
    (0 < l.length → ∃ b off, A = some ⟨b, off, none⟩ ∧ b < B ∧ ∀ i (hi : i < l.length), ∃ u, w.cell? ⟨b, off + i, none⟩ = some u ∧ Sl w B u l[i])

theorem Sls.below {w w' : World} {B : Nat} {v : Value} {l : List (List UInt8)} (h : Sls w B v l) (hb : Below B w w') : Sls w' B v l := by
  obtain ⟨A, c, h1, h2, h3, h4⟩ := h
  refine ⟨A, c, h1, h2, h3, fun h0 => ?_⟩
  obtain ⟨b, off, e, hB, hc⟩ := h4 h0
  refine ⟨b, off, e, hB, fun i hi => ?_⟩
  obtain ⟨u, q1, q2⟩ := hc i hi
  exact ⟨u, (hb.cell (p := ⟨b, off + i, none⟩) hB).trans q1, q2.below hb⟩

theorem Sls.more {w : World} {B B' : Nat} {v : Value} {l : List (List UInt8)} (h : Sls w B v l) (hB : B ≤ B') : Sls w B' v l := by
  obtain ⟨A, c, h1, h2, h3, h4⟩ := h
  refine ⟨A, c, h1, h2, h3, fun h0 => ?_⟩
  obtain ⟨b, off, e, hB', hc⟩ := h4 h0
  refine ⟨b, off, e, Nat.lt_of_lt_of_le hB' hB, fun i hi => ?_⟩
  obtain ⟨u, q1, q2⟩ := hc i hi
  exact ⟨u, q1, q2.more hB⟩

theorem Sls.nil (w : World) (B : Nat) : Sls w B (.slice none 0 0) [] := ⟨none, 0, rfl, by simp, by simp, fun h => by simp at h⟩

/-- A slice of slices that was laid out a moment ago. -/
theorem Sls.new {w : World} {B : Nat} (xs : List Value) (l : List (List UInt8)) (hl : xs.length = l.length) (hm : l.length ≤ maxLen) (h : ∀ i (hi : i < l.length) (hx : i < xs.length), Sl w B xs[i] l[i])
    (hB : B ≤ w.heap.size) (n : Nat) (hn : n = l.length) (T : TypeId) (X : Array Value) (hX : X = xs.toArray) :
    Sls (w.alloc (.cells X T)) (w.heap.size + 1) (.slice (some ⟨w.heap.size, 0, none⟩) n n) l := by
  subst hn hX
  refine ⟨_, _, rfl, Nat.le_refl _, hm, fun _ => ⟨w.heap.size, 0, rfl, by omega, fun i hi => ?_⟩⟩
  have hx : i < xs.length := by omega
  refine ⟨xs[i], ?_, ((h i hi hx).below ((Below.refl _ _).alloc hB _)).more (by omega)⟩
  have := cell_of_row (w.alloc (.cells xs.toArray T)) w.heap.size i xs.toArray T (0, 0) (heap_alloc_new w _)
  rw [Nat.zero_add, this]
  simp [hx]

/-- append of bytes, for the walk: the source whatever slice of bytes. -/
theorem wp_append_sl {w : World} {ops : Array Oper} {rest : List Oper} {o : Oper} {a : Act} {Q : Exit → Act → World → Prop} (hgd : o.guard = none) (s x : Operand)
    (hop : o.op = .call { callee := .builtin .append, args := #[s, x], argTypes := #[73, 73] })
    (B : Nat) (v : Value) (bs : List UInt8) (hs : a.eval s = v) (ho : Own w B v bs) (hB : B ≤ w.heap.size) (y : Value) (B' : Nat) (ns : List UInt8) (hx : a.eval x = y) (hy : Sl w B' y ns)
    (hm : bs.length + ns.length ≤ 140737488355328)
    (hK : ∀ v' w', Own w' B v' (bs ++ ns) → Below B w w' → wpList Tryd.prog ops Q rest (a.put o.dst v') w') : wpList Tryd.prog ops Q (o :: rest) a w := by
  refine wpList_plain hgd fun K hK' => ?_
  obtain ⟨v', w', hrun, r1, r2⟩ := run_append_sl w B v bs ho hB y B' ns hy hm o.type
  unfold Oper.wp
  simp [execOp, hop, resolve, invoke, builtin, hs, hx, hrun, Result.andThen]
  exact hK' _ _ (hK v' w' r1 r2)

theorem own_new (w : World) (B : Nat) (hB : B ≤ w.heap.size) : Own (w.alloc (.cells #[] 5)) B (.slice (some ⟨w.heap.size, 0, none⟩) 0 0) [] :=
  World.ownsRow_made (base := B) (e := 5) (size := 1) w #[] 0 hB (by simp) rfl

/-- A row of the call's own that has bytes: its block, known whole. -/
theorem own_block {w : World} {B : Nat} {v : Value} {bs : List UInt8} (h : Own w B v bs) (h0 : 0 < bs.length) :
    ∃ (g cap : Nat) (cur : Array Value), v = .slice (some ⟨g, 0, none⟩) bs.length cap ∧ B ≤ g ∧ g < w.heap.size ∧ w.heap[g]? = some (.cells cur 5 (0, 0)) ∧ bs.length ≤ cap ∧ cap ≤ maxLen ∧ ∀ (j : Nat) (u : Value), (vb bs)[j]? = some u → cur[j]? = some u := by
  have hlt := h.lt
  rcases h.2 with ⟨_, h1⟩ | ⟨g, cap, cur, rfl, hb, hh, hn, hm, hc, ht⟩
  · omega
  · refine ⟨g, cap, cur, rfl, hb, (hlt g rfl).2, hh, hn, hm, fun j u hu => ?_⟩
    have hj := (List.getElem?_eq_some_iff.1 hu).1
    rw [vb_length] at hj
    rw [← ht] at hu
    rw [List.getElem?_take, if_pos (by omega)] at hu
    simpa using hu

theorem own_far {w w' : World} {B g : Nat} {v : Value} {bs : List UInt8} (h : Own w B v bs) (hg : w.grownBy w' (some g)) (hlt0 : g < B) : Own w' B v bs := by
  have hlt := h.lt
  refine ⟨h.1, ?_⟩
  rcases h.2 with h2 | ⟨g', cap, cur, rfl, hb, hh, r⟩
  · exact .inl h2
  · exact .inr ⟨g', cap, cur, rfl, hb, (hg.block g' (hlt g' rfl).2 (fun e => by injection e with e; omega)).trans hh, r⟩

/-- A byte of a row of the call's own is written over. -/
theorem Own.stored {w : World} {B g n cap : Nat} {bs : List UInt8} (h : Own w B (.slice (some ⟨g, 0, none⟩) n cap) bs) (k : Nat) (c : UInt8) :
    Own (w.setCell ⟨g, k, none⟩ (.int .u8 c.toNat)) B (.slice (some ⟨g, 0, none⟩) n cap) (bs.set k c) := by
  have hn : n = bs.length := by
    rcases h.2 with ⟨h1, _⟩ | ⟨g', cap', cur, h1, _⟩
    · cases h1
    · injection h1
  subst hn
  have h2 := (World.ownsRow.stored h k (.int .u8 c.toNat)).1
  unfold Own
  rw [List.length_set]
  have e : vb (bs.set k c) = (vb bs).set k (.int .u8 c.toNat) := by simp [vb, List.map_set]
  rw [e]
  exact h2

theorem byte_of (a : Int) (h0 : 0 ≤ a) (h1 : a ≤ 255) : ∃ c : UInt8, a = (c.toNat : Int) :=
  ⟨UInt8.ofNat a.toNat, by rw [UInt8.toNat_ofNat']; omega⟩

theorem weightsAll_mem {H : Type} {P : Program} {e : TypeId} {d : DataW H} {l : List (DataW H)} (hd : d ∈ l) {n : Nat} (hn : n ∈ d.weights P e) : n ∈ DataW.weightsAll P e l := by
  induction l with
  | nil => cases hd
  | cons x r ih =>
    simp only [DataW.weightsAll, List.mem_append]
    rcases List.mem_cons.1 hd with rfl | h
    · exact .inl hn
    · exact .inr (ih h)

theorem cells_u8 : Tryd.prog.bytesOf 5 = 1 := by kernel_rfl
theorem cells_sl : Tryd.prog.cellsOf 73 = 1 := by kernel_rfl

/-- Cells that are read as a slice of bytes. -/
theorem sl_of_cells {H : Type} {enc : TypeId × Value → H} {w : World} {fuel : Nat} {cs : List Value} {x : DataW H × List MemPlace} (hf : DataW.trod enc Tryd.prog w 0 (fun _ => true) true fuel 73 cs = some x) :
    ∃ A n c bs, cs = [.slice A n c] ∧ Sl w w.heap.size (.slice A n c) bs ∧ ((∀ m ∈ x.1.weights Tryd.prog 73, m ≤ reachBytes) → bs.length ≤ 140737488351232) := by
  rcases open_ints Tryd.underlying73 Tryd.underlying5 (by kernel_rfl) hf with ⟨rfl, _⟩ | ⟨a, n0, c0, zs, rfl, _, hl, hm, hz, hx, hcell, hwz⟩
  · exact ⟨none, 0, 0, [], rfl, Sl.nil _ _, fun _ => by simp⟩
  · have hzl : zs.length = c0 := by simpa using hz
    have hlen : ((zs.take n0).map fun z => UInt8.ofNat z.toNat).length = n0 := by rw [List.length_map, List.length_take]; omega
    have hcells : ∀ j u, (vb ((zs.take n0).map fun z => UInt8.ofNat z.toNat))[j]? = some u → w.cell? (a.add j) = some u := by
      intro j u hu
      have hj := (List.getElem?_eq_some_iff.1 hu).1
      rw [vb_length, hlen] at hj
      have hjz : j < zs.length := by omega
      have hr := range_u8 hwz j
      rw [hcell j hjz]
      rw [← hu]
      simp only [vb, List.map_map, List.getElem?_map, List.getElem?_take, if_pos hj, List.getElem?_eq_getElem hjz, Option.map_some, Function.comp]
      rw [List.getElem?_eq_getElem hjz] at hr
      simp only [Option.getD_some] at hr
      congr 2
      rw [List.getD_eq_getElem?_getD, List.getElem?_eq_getElem hjz, Option.getD_some, UInt8.toNat_ofNat']
      omega
    refine ⟨some a, n0, c0, (zs.take n0).map fun z => UInt8.ofNat z.toNat, rfl, ⟨some a, c0, by rw [hlen], by rw [hlen]; exact hl, hm, (fun h => by cases h), ?_, ?_⟩, fun hw => ?_⟩
    · intro ad e h0
      injection e with e
      subst e
      rw [hlen] at h0
      have := World.block_lt_of_cell? w _ (hcell 0 (by omega))
      rwa [block_of_add] at this
    · intro ad e
      injection e with e
      subst e
      exact hcells
    · have h2 := hw ((lits .u8 (zs.take n0)).length + (lits .u8 (zs.drop n0)).length) (by
        rw [hx]
        simp only [DataW.weights, Tryd.underlying73, cells_u8, Nat.mul_one]
        exact List.mem_cons_self)
      simp only [lits, List.length_map, List.length_take, List.length_drop, reachBytes] at h2
      rw [hlen]
      omega

theorem sl_of_trod {H : Type} {enc : TypeId × Value → H} {w : World} {v : Value} {d : DataW H} {ps : List MemPlace} (hv : ∃ A n c, v = .slice A n c)
    (h : DataW.Trod enc Tryd.prog w 0 (fun _ => true) true 73 v d ps) : ∃ bs, Sl w w.heap.size v bs := by
  obtain ⟨A0, n0, c0, rfl⟩ := hv
  obtain ⟨fuel, hf⟩ := h
  obtain ⟨A, n, c, bs, e, h1, _⟩ := sl_of_cells hf
  simp [Value.cells] at e
  obtain ⟨rfl, rfl, rfl⟩ := e
  exact ⟨bs, h1⟩

instance : Inhabited (List UInt8) := ⟨[]⟩
theorem sls_of_trod {H : Type} {enc : TypeId × Value → H} {w : World} {v : Value} {d : DataW H} {ps : List MemPlace} (hv : ∃ A n c, v = .slice A n c)
    (h : DataW.Trod enc Tryd.prog w 0 (fun _ => true) true 102 v d ps) (hw : ∀ n ∈ d.weights Tryd.prog 102, n ≤ reachBytes) :
    ∃ l, Sls w w.heap.size v l ∧ ∀ p ∈ l, p.length ≤ 140737488351232 := by
  obtain ⟨A0, n0, c0, rfl⟩ := hv
  obtain ⟨fuel, hf⟩ := h
  rcases open_slice Tryd.underlying102 hf with ⟨hcs, _⟩ | ⟨a, len, cap, m, n, D, Pl, hcs, _, hl, hm, hmm, hx, hi⟩
  · simp [Value.cells] at hcs
    obtain ⟨rfl, rfl, rfl⟩ := hcs
    exact ⟨[], Sls.nil _ _, by simp⟩
  · simp [Value.cells] at hcs
    obtain ⟨rfl, rfl, rfl⟩ := hcs
    have hone : ∀ i, i < n0 → ∃ bs : List UInt8, ∃ u, w.cell? (a.add i) = some u ∧ Sl w w.heap.size u bs ∧ ((∀ m ∈ (D i).weights Tryd.prog 73, m ≤ reachBytes) → bs.length ≤ 140737488351232) := by
      intro i hin
      obtain ⟨cs', hcc, htt⟩ := hi i (by rw [hmm]; simp; omega)
      rw [cells_sl, Nat.mul_one] at hcc
      obtain ⟨A, n1, c1, bs, rfl, h1, h2⟩ := sl_of_cells htt
      obtain ⟨_, _, hat⟩ := World.cells?_some hcc
      have := hat 0 (by omega)
      refine ⟨bs, _, ?_, h1, h2⟩
      rw [Go.Deep.add_add, Nat.add_zero] at this
      exact this
    obtain ⟨f, hf⟩ := choose_lt hone
    have hlen : ((List.range n0).map f).length = n0 := by simp
    refine ⟨(List.range n0).map f, ⟨some a, c0, by rw [hlen], by rw [hlen]; exact hl, hm, fun hp => ?_⟩, ?_⟩
    · rw [hlen] at hp
      obtain ⟨b, off, spot⟩ := a
      obtain ⟨u0, hc, _⟩ := hf 0 hp
      have hspot : spot = none := by simpa [Addr.add] using World.cell?_spot hc
      subst hspot
      refine ⟨b, off, rfl, ?_, ?_⟩
      · have := World.block_lt_of_cell? w _ hc
        rwa [block_of_add] at this
      · intro i hi2
        rw [hlen] at hi2
        obtain ⟨u, q1, q2, _⟩ := hf i hi2
        rw [Addr.add_lit] at q1
        refine ⟨u, q1, ?_⟩
        simpa using q2
    · intro p hp
      obtain ⟨i, hi2, rfl⟩ := List.mem_map.1 hp
      have hlt := List.mem_range.1 hi2
      obtain ⟨u, _, _, q3⟩ := hf i hlt
      refine q3 fun m' hm' => hw m' ?_
      have hd : d = .slice ((List.range n0).map D) ((List.range (m - n0)).map fun j => D (n0 + j)) := by
        simp only [Prod.mk.injEq] at hx
        exact hx.1
      rw [hd]
      simp only [DataW.weights, Tryd.underlying102]
      exact List.mem_cons_of_mem _ (List.mem_append_left _ (weightsAll_mem (d := D i) (List.mem_map.2 ⟨i, hi2, rfl⟩) hm'))

end Go.Proofs.YthbahbcihaebeaaDoor.Cd

/-
  fnv.More, fnv.Sum; the document's step and sum. Conditions: none.
-/
namespace Go.Proofs.YthbahbcihaebeaaDoor.Cd
open Go.RowKit

theorem wrap_byte (c : UInt8) : IntKind.u64.wrap (c.toNat : Int) = (c.toNat : Int) := by
  have := c.toNat_lt
  rw [IntKind.wrap_u64]
  omega

theorem wrap_stp (m : Nat) (c : UInt8) : IntKind.u64.wrap (((m ^^^ c.toNat : Nat) : Int) * 1099511628211) = (stp m c : Nat) := by
  rw [IntKind.wrap_u64]
  unfold stp
  omega

set_option maxRecDepth 100000 in
set_option maxHeartbeats 800000 in
theorem more_any (s : Nat) (v : Value) (bs : List UInt8) (w : World) {B : Nat} (h : Sl w B v bs) (hs : s < 18446744073709551616) :
    Calls Tryd.prog 54 #[.int .u64 s, v] w fun e w' => e = .returned (.int .u64 (mor s bs : Nat)) ∧ w = w' := by
  have hat := fun h0 => h.at h0
  obtain ⟨A, c, rfl, h2, h3⟩ := h.len
  clear h
  have HAT := Lib.hid hat
  clear hat
  have hm2 : bs.length ≤ 9223372036854775807 := by unfold maxLen at h3; omega
  clear h3
  go_enter Tryd.func54, Tryd.ntmps54
  go_wp2
  go_loop [0, 8] (fun s1 i => ∃ k : Nat, k ≤ bs.length ∧ i = .int .i64 k ∧ s1 = .int .u64 (mor s (bs.take k) : Nat)) (fun _ i => bs.length - (intOf i).toNat)
  case atStart => exact ⟨0, Nat.zero_le _, rfl, rfl⟩
  case round =>
    obtain ⟨k, hk, rfl, rfl⟩ := hrel
    by_cases hlt : k < bs.length
    · obtain ⟨b, off, c', he, _, _, _, hc⟩ := HAT.out (by omega)
      have hcell := hc k hlt
      have hsn := mor_snoc s bs k hlt
      injection he with e1 _ e3
      subst e1 e3
      clear hc
      have hlt64 := mor_lt s (bs.take k) hs
      generalize hx : bs[k] = x at hcell hsn
      generalize hm : mor s (bs.take k) = m at hsn hlt64 ⊢
      have E1 := wrap_byte x
      have E2 := u64_xor_nat m x.toNat hlt64 (byte_lt64 x)
      have E3 := wrap_stp m x
      have HSN := Lib.hid hsn
      clear hx hm hsn
      go_wp2
      go_round
      case rel => exact ⟨k + 1, by omega, by go_num, by rw [HSN.out]⟩
      case measure => simp [intOf]; omega
    · have hkl : k = bs.length := by omega
      have htk : Hid (bs.take k = bs) := by unfold Hid; rw [hkl, List.take_of_length_le (Nat.le_refl _)]
      clear hkl
      go_wp2
      go_ret
      exact ⟨by rw [htk.out]; rfl, rfl⟩

/-- Pieces, one behind the other. -/
theorem mor_flat (s : Nat) (l : List (List UInt8)) (k : Nat) (h : k < l.length) : mor s (l.take (k + 1)).flatten = mor (mor s (l.take k).flatten) l[k] := by
  rw [List.take_succ_eq_append_getElem h, List.flatten_append, mor_append]
  simp

set_option maxRecDepth 100000 in
set_option maxHeartbeats 800000 in
theorem sum_any (v : Value) (l : List (List UInt8)) (w : World) {B : Nat} (h : Sls w B v l) :
    Calls Tryd.prog 38 #[v] w fun e w' => e = .returned (.int .u64 (mor fnv0 l.flatten : Nat)) ∧ w = w' := by
  obtain ⟨A, c, rfl, h2, h3, h4⟩ := h
  have HAT := Lib.hid h4
  clear h4
  have hm2 : l.length ≤ 9223372036854775807 := by unfold maxLen at h3; omega
  clear h3
  go_enter Tryd.func38, Tryd.ntmps38
  go_wp2
  go_loop [3, 8] (fun s1 i => ∃ k : Nat, k ≤ l.length ∧ i = .int .i64 k ∧ s1 = .int .u64 (mor fnv0 (l.take k).flatten : Nat)) (fun _ i => l.length - (intOf i).toNat)
  case atStart => exact ⟨0, Nat.zero_le _, rfl, rfl⟩
  case round =>
    obtain ⟨k, hk, rfl, rfl⟩ := hrel
    by_cases hlt : k < l.length
    · obtain ⟨b, off, rfl, _, hc⟩ := HAT.out (by omega)
      obtain ⟨u, hcell, hu⟩ := hc k hlt
      have hsn := mor_flat fnv0 l k hlt
      clear hc
      have hlt64 := mor_lt fnv0 (l.take k).flatten (by unfold fnv0; omega)
      generalize l[k] = x at hu hsn
      generalize mor fnv0 (l.take k).flatten = m at hsn hlt64 ⊢
      have HSN := Lib.hid hsn
      clear hsn
      go_wp2_with fail
      refine (more_any m u x w hu hlt64).mono ?_
      rintro e w' ⟨rfl, rfl⟩
      go_wp2
      go_round
      case rel => exact ⟨k + 1, by omega, by go_num, by rw [HSN.out]⟩
      case measure => simp [intOf]; omega
    · have hkl : k = l.length := by omega
      have htk : Hid (l.take k = l) := by unfold Hid; rw [hkl, List.take_of_length_le (Nat.le_refl _)]
      clear hkl
      go_wp2
      go_ret
      exact ⟨by rw [htk.out]; rfl, rfl⟩

end Go.Proofs.YthbahbcihaebeaaDoor.Cd

/-
  alive answers true. Conditions: none.
-/
namespace Go.Proofs.YthbahbcihaebeaaDoor.Cd
open Go.RowKit

theorem sum_nil (w : World) : Calls Tryd.prog 38 #[.slice none 0 0] w fun e w' => e = .returned (.int .u64 14695981039346656037) ∧ w = w' := sum_any _ [] w (Sls.nil w 0)

theorem a_sum : mor fnv0 [97] = 12638187200555641996 := by decide

/-- One slice, laid out a moment ago. -/
theorem Sls.one {w : World} {B : Nat} (x : Value) (bs : List UInt8) (h : Sl w B x bs) (hB : B ≤ w.heap.size) (T : TypeId) :
    Sls (w.alloc (.cells #[x] T)) (w.heap.size + 1) (.slice (some ⟨w.heap.size, 0, none⟩) 1 1) [bs] :=
  Sls.new [x] [bs] rfl (by simp [maxLen]) (fun i hi hx => by
    obtain rfl : i = 0 := by simp at hi; omega
    exact h) hB 1 rfl T #[x] rfl

theorem Sls.two {w : World} {B : Nat} (x y : Value) (a b : List UInt8) (h : Sl w B x a) (h2 : Sl w B y b) (hB : B ≤ w.heap.size) (T : TypeId) :
    Sls (w.alloc (.cells #[x, y] T)) (w.heap.size + 1) (.slice (some ⟨w.heap.size, 0, none⟩) 2 2) [a, b] :=
  Sls.new [x, y] [a, b] rfl (by simp [maxLen]) (fun i hi hx => by
    rcases (by simp at hi; omega : i = 0 ∨ i = 1) with rfl | rfl
    · exact h
    · exact h2) hB 2 rfl T #[x, y] rfl

end Go.Proofs.YthbahbcihaebeaaDoor.Cd

/-
  The document's step, sum and bytes. Conditions: none.
-/
namespace Go.Proofs.YthbahbcihaebeaaDoor.Cd
open Go.RowKit

theorem ret_int {k : IntKind} {a b : Int} (h : a = b) : Ending.returned (.int k a) = .returned (.int k b) := by rw [h]

theorem step_eq (s : Nat) (c : UInt8) (hs : s < 18446744073709551616) (x : Int) (hx : x = IntKind.u64.wrap ((s : Int) - (s : Int) % 256 + IntKind.u64.wrap (bits BinOp.xor IntKind.u8 ((s : Int) % 256) (c.toNat : Int)))) :
    IntKind.u64.wrap (IntKind.u64.wrap (IntKind.u64.wrap (x * 1099511627776) + IntKind.u64.wrap (x * 256)) + IntKind.u64.wrap (x * 179)) = (stp s c : Nat) := by
  have hc := c.toNat_lt
  have h1 := u8_xor_nat (s % 256) c.toNat (Nat.mod_lt _ (by omega)) hc
  have h2 := xor_low s c
  have h4 := xor_lt64 hs (byte_lt64 c)
  have h3 : (s % 256) ^^^ c.toNat < 256 := Nat.xor_lt_two_pow (n := 8) (Nat.mod_lt _ (by omega)) hc
  rw [show ((s % 256 : Nat) : Int) = (s : Int) % 256 by omega] at h1
  rw [h1] at hx
  unfold stp
  rw [← h2] at h4 ⊢
  generalize (s % 256) ^^^ c.toNat = r at *
  simp only [IntKind.wrap_u64] at hx ⊢
  omega

set_option maxRecDepth 100000 in
set_option maxHeartbeats 800000 in
theorem ref_step_any (s : Nat) (c : UInt8) (w : World) (hs : s < 18446744073709551616) :
    Calls Tryd.prog 65 #[.int .u64 s, .int .u8 c.toNat] w fun e w' => e = .returned (.int .u64 (stp s c : Nat)) ∧ w = w' := by
  have hc := c.toNat_lt
  go_enter Tryd.func65, Tryd.ntmps65
  go_wp2
  go_ret
  exact ⟨ret_int (step_eq s c hs _ rfl), rfl⟩

set_option maxRecDepth 100000 in
set_option maxHeartbeats 800000 in
theorem ref_sum_any (l : List UInt8) (w : World) (hl : l.length ≤ 140737488355328) :
    Calls Tryd.prog 52 #[.string ⟨l.toArray⟩] w fun e w' => e = .returned (.int .u64 (mor fnv0 l : Nat)) ∧ w = w' := by
  have hsz : (ByteArray.mk l.toArray).size = l.length := rfl
  go_enter Tryd.func52, Tryd.ntmps52
  go_wp2
  go_loop [3, 4] (fun s1 i => ∃ k : Nat, k ≤ l.length ∧ i = .int .i64 k ∧ s1 = .int .u64 (mor fnv0 (l.take k) : Nat)) (fun _ i => l.length - (intOf i).toNat)
  case atStart => exact ⟨0, Nat.zero_le _, rfl, rfl⟩
  case round =>
    obtain ⟨k, hk, rfl, rfl⟩ := hrel
    by_cases hlt : k < l.length
    · have hsn := mor_snoc fnv0 l k hlt
      have hlt64 := mor_lt fnv0 (l.take k) (by unfold fnv0; omega)
      generalize mor fnv0 (l.take k) = m at hsn hlt64 ⊢
      have HSN := Lib.hid hsn
      clear hsn
      go_wp2_with fail
      refine (ref_step_any m l[k] w hlt64).mono ?_
      rintro e w' ⟨rfl, rfl⟩
      go_wp2
      go_round
      case rel => exact ⟨k + 1, by omega, by go_num, by rw [HSN.out]⟩
      case measure => simp [intOf]; omega
    · have hkl : k = l.length := by omega
      have htk : Hid (l.take k = l) := by unfold Hid; rw [hkl, List.take_of_length_le (Nat.le_refl _)]
      clear hkl
      go_wp2
      go_ret
      exact ⟨by rw [htk.out]; rfl, rfl⟩

end Go.Proofs.YthbahbcihaebeaaDoor.Cd

/-
  fnv.Bytes, and the document's. Conditions: none.
-/
namespace Go.Proofs.YthbahbcihaebeaaDoor.Cd
open Go.RowKit

/-- The array as it stands with k places to go. -/
def arr (n k : Nat) : Array Value := Array.ofFn (n := 8) fun i => if i.val < k then .int .u8 0 else .int .u8 (UInt8.ofNat (dn n (7 - i.val))).toNat

theorem arr_all (n : Nat) : arr n 0 = (vb (be8 n)).toArray := rfl
theorem arr_none (n : Nat) : arr n 8 = #[.int .u8 0, .int .u8 0, .int .u8 0, .int .u8 0, .int .u8 0, .int .u8 0, .int .u8 0, .int .u8 0] := rfl
theorem arr_lit (n : Nat) : arr n 0 = #[.int .u8 (UInt8.ofNat (dn n 7)).toNat, .int .u8 (UInt8.ofNat (dn n 6)).toNat, .int .u8 (UInt8.ofNat (dn n 5)).toNat, .int .u8 (UInt8.ofNat (dn n 4)).toNat,
    .int .u8 (UInt8.ofNat (dn n 3)).toNat, .int .u8 (UInt8.ofNat (dn n 2)).toNat, .int .u8 (UInt8.ofNat (dn n 1)).toNat, .int .u8 (UInt8.ofNat (dn n 0)).toNat] := rfl
theorem arr_set (n k : Nat) (x : Int) (hx : x = (UInt8.ofNat (dn n (7 - k))).toNat) : (arr n (k + 1)).setIfInBounds k (.int .u8 x) = arr n k := by
  subst hx
  apply Array.ext
  · simp [arr]
  · intro i h1 h2
    simp only [arr, Array.size_ofFn] at h2
    rw [Array.getElem_setIfInBounds (by simpa [arr] using h2)]
    simp only [arr, Array.getElem_ofFn]
    by_cases h : k = i
    · subst h; simp
    · rw [if_neg h]
      by_cases h3 : i < k
      · rw [if_pos (by omega), if_pos h3]
      · rw [if_neg (by omega), if_neg h3]

theorem wrap_u8 (m : Nat) : IntKind.u8.wrap (m : Int) = ((UInt8.ofNat m).toNat : Nat) := by
  rw [UInt8.toNat_ofNat', IntKind.wrap_u8]
  omega

theorem low_u8 (m : Nat) : (m : Int) % 256 = ((UInt8.ofNat m).toNat : Nat) := by
  rw [UInt8.toNat_ofNat']
  omega

theorem arr_get (n j : Nat) (hj : j < 8) : (arr n (j + 1))[j]? = some (.int .u8 0) := by
  rw [Array.getElem?_eq_getElem (by simpa [arr] using hj)]
  simp [arr]

theorem arr_cell (n : Nat) (w : World) (T : TypeId) (j : Nat) (hj : j < 8) : (w.alloc (.cells (arr n 0) T)).cell? ⟨w.heap.size, j, none⟩ = some (.int .u8 ((be8 n)[j]'hj).toNat) := by
  have := cell_of_row (w.alloc (.cells (arr n 0) T)) w.heap.size j (arr n 0) T (0, 0) (heap_alloc_new w _)
  rw [this, arr_all]
  have h2 := vb_at (be8 n) j hj
  simpa using h2

theorem arr_sl (n : Nat) (w : World) (T : TypeId) : Sl (w.alloc (.cells (arr n 0) T)) (w.alloc (.cells (arr n 0) T)).heap.size (.slice (some ⟨w.heap.size, 0, none⟩) 8 8) (be8 n) :=
  ⟨_, 8, rfl, Nat.le_refl _, by simp [maxLen], (fun h => by cases h), (fun ad e _ => by injection e with e; subst e; simp), fun ad e j u hu => by
    injection e with e
    subst e
    have hj := (List.getElem?_eq_some_iff.1 hu).1
    rw [vb_length] at hj
    rw [Addr.add_lit, Nat.zero_add, arr_cell n w T j hj]
    rw [vb_at _ j hj] at hu
    exact hu⟩

theorem arr_text (n : Nat) (w : World) : (convert 73 9 (.slice (some ⟨w.heap.size, 0, none⟩) 8 8)).run Tryd.prog (w.alloc (.cells (arr n 0) 86)) = .ok (.string ⟨(be8 n).toArray⟩) (w.alloc (.cells (arr n 0) 86)) :=
  run_convert_bytes_back _ 73 9 5 ⟨w.heap.size, 0, none⟩ 8 (be8 n) Tryd.underlying73 Tryd.underlying5 Tryd.underlying9 fun j hj => by
    rw [Addr.add_lit, Nat.zero_add]
    exact arr_cell n w _ j hj

set_option maxRecDepth 100000 in
set_option maxHeartbeats 800000 in
theorem ref_bytes_any (n : Nat) (w : World) (hn : n < 18446744073709551616) :
    Calls Tryd.prog 51 #[.int .u64 n] w (Gives (.string ⟨(be8 n).toArray⟩) w) := by
  go_enter Tryd.func51, Tryd.ntmps51
  go_wp2
  go_loopw [0, 4] (fun m i wr => ∃ (k d : Nat) (q : Int), k ≤ 8 ∧ i = .int .i64 q ∧ q = (k : Int) - 1 ∧ m = .int .u64 (d : Nat) ∧ Hid (d = dn n (8 - k)) ∧ Hid (wr = w.alloc (.cells (arr n k) 86))) (fun _ i _ => (intOf i + 1).toNat)
  case atStart => exact ⟨8, n, _, Nat.le_refl _, rfl, rfl, rfl, rfl, rfl⟩
  case round =>
    obtain ⟨k, d, q, hk, rfl, hq, rfl, hd, hw⟩ := hrel
    obtain rfl := hw.out
    clear hw
    cases k with
    | zero =>
      obtain rfl : q = -1 := by omega
      clear hq
      have hcv := arr_text n w
      go_wp2
      go_ret
      exact ⟨rfl, (Below.refl _ _).alloc (Nat.le_refl _) _⟩
    | succ j =>
      obtain rfl : q = (j : Int) := by omega
      have hdd := hd.out
      rw [show 8 - (j + 1) = 7 - j by omega] at hdd
      have hlt := dn_lt n (7 - j) hn
      rw [← hdd] at hlt
      have hnext : Hid (d / 256 = dn n (8 - j)) := by unfold Hid; rw [show 8 - j = (7 - j) + 1 by omega, hdd]; rfl
      have HDD := Lib.hid hdd
      have hj : j < 8 := by omega
      have hget := arr_get n j hj
      clear hdd hd hq hk
      go_wp2
      go_roundw
      case rel => exact ⟨j, d / 256, _, by omega, rfl, rfl, by go_num, hnext, by unfold Hid; rw [arr_set n j _ (by rw [← HDD.out]; exact low_u8 d)]⟩
      case measure => simp [intOf]

set_option maxRecDepth 100000 in
set_option maxHeartbeats 800000 in
theorem bytes_any (n : Nat) (w : World) (hn : n < 18446744073709551616) :
    Calls Tryd.prog 37 #[.int .u64 n] w (Gives (.agg (arr n 0)) w) := by
  go_enter Tryd.func37, Tryd.ntmps37
  go_wp2
  go_loopw [0, 4] (fun m i wr => ∃ (k d : Nat) (q : Int), k ≤ 8 ∧ i = .int .i64 q ∧ q = (k : Int) - 1 ∧ m = .int .u64 (d : Nat) ∧ Hid (d = dn n (8 - k)) ∧ Hid (wr = (w.alloc (.cells (arr n 8) 86)).alloc (.cells (arr n k) 86))) (fun _ i _ => (intOf i + 1).toNat)
  case atStart => exact ⟨8, n, _, Nat.le_refl _, rfl, rfl, rfl, rfl, rfl⟩
  case round =>
    obtain ⟨k, d, q, hk, rfl, hq, rfl, hd, hw⟩ := hrel
    obtain rfl := hw.out
    clear hw
    cases k with
    | zero =>
      obtain rfl : q = -1 := by omega
      clear hq hd
      have harr := arr_lit n
      rw [arr_lit n, arr_none n]
      generalize (UInt8.ofNat (dn n 7)).toNat = x0 at harr ⊢
      generalize (UInt8.ofNat (dn n 6)).toNat = x1 at harr ⊢
      generalize (UInt8.ofNat (dn n 5)).toNat = x2 at harr ⊢
      generalize (UInt8.ofNat (dn n 4)).toNat = x3 at harr ⊢
      generalize (UInt8.ofNat (dn n 3)).toNat = x4 at harr ⊢
      generalize (UInt8.ofNat (dn n 2)).toNat = x5 at harr ⊢
      generalize (UInt8.ofNat (dn n 1)).toNat = x6 at harr ⊢
      generalize (UInt8.ofNat (dn n 0)).toNat = x7 at harr ⊢
      have HARR := Lib.hid harr
      clear harr
      go_wp2
      exact bodyPost_ret (v := .agg #[.int .u8 x0, .int .u8 x1, .int .u8 x2, .int .u8 x3, .int .u8 x4, .int .u8 x5, .int .u8 x6, .int .u8 x7]) (by simp [results, Tryd.results37, go_sem]) rfl ⟨by rw [HARR.out], ((Below.refl _ _).alloc (Nat.le_refl _) _).alloc (by simp) _⟩
    | succ j =>
      obtain rfl : q = (j : Int) := by omega
      have hdd := hd.out
      rw [show 8 - (j + 1) = 7 - j by omega] at hdd
      have hlt := dn_lt n (7 - j) hn
      rw [← hdd] at hlt
      have hnext : Hid (d / 256 = dn n (8 - j)) := by unfold Hid; rw [show 8 - j = (7 - j) + 1 by omega, hdd]; rfl
      have HDD := Lib.hid hdd
      have hj : j < 8 := by omega
      have hget := arr_get n j hj
      clear hdd hd hq hk
      go_wp2
      go_roundw
      case rel => exact ⟨j, d / 256, _, by omega, rfl, rfl, by go_num, hnext, by unfold Hid; rw [arr_set n j _ (by rw [← HDD.out]; exact wrap_u8 d)]⟩
      case measure => simp [intOf]

end Go.Proofs.YthbahbcihaebeaaDoor.Cd

/-
  Footprints: what a call leaves that writes to the blocks of a set alone, and to new ones. Conditions: none.
-/
namespace Go.Proofs.YthbahbcihaebeaaDoor.Cd
open Go.RowKit

/-- Nothing that was there has turned, but for the blocks of S. -/
structure Apart (S : Nat → Prop) (w w' : World) : Prop where
  os : w'.os = w.os
  tape : w'.tape = w.tape
  output : w'.output = w.output
  size : w.heap.size ≤ w'.heap.size
  block : ∀ k, k < w.heap.size → ¬ S k → w'.heap[k]? = w.heap[k]?

/-- The set, and what was laid since. -/
def since (S : Nat → Prop) (w w' : World) : Nat → Prop := fun k => S k ∨ (w.heap.size ≤ k ∧ k < w'.heap.size)

theorem Apart.refl (S : Nat → Prop) (w : World) : Apart S w w := ⟨rfl, rfl, rfl, Nat.le_refl _, fun _ _ _ => rfl⟩
theorem Apart.mono {S T : Nat → Prop} {w w' : World} (h : Apart S w w') (hs : ∀ k, S k → T k) : Apart T w w' :=
  ⟨h.os, h.tape, h.output, h.size, fun k hk hn => h.block k hk (fun e => hn (hs k e))⟩
theorem Apart.trans {S : Nat → Prop} {w w1 w2 : World} (h : Apart S w w1) (k : Apart (since S w w1) w1 w2) : Apart S w w2 :=
  ⟨k.os.trans h.os, k.tape.trans h.tape, k.output.trans h.output, Nat.le_trans h.size k.size, fun i hi hn =>
    (k.block i (Nat.lt_of_lt_of_le hi h.size) (fun e => e.elim hn (fun e => by omega))).trans (h.block i hi hn)⟩
theorem Apart.below {S : Nat → Prop} {w w' : World} (h : Below w.heap.size w w') : Apart S w w' := ⟨h.os, h.tape, h.output, h.size, fun k hk _ => h.block k hk⟩
theorem Apart.grown {S : Nat → Prop} {w w' : World} {g : Nat} (h : w.grownBy w' (some g)) (hg : S g) : Apart S w w' :=
  ⟨h.os, h.tape, h.output, h.size, fun k hk hn => h.block k hk (fun e => by injection e with e; exact hn (by rw [e]; exact hg))⟩
theorem Apart.cell {S : Nat → Prop} {w w' : World} (h : Apart S w w') {p : Addr} (hp : p.block < w.heap.size) (hn : ¬ S p.block) : w'.cell? p = w.cell? p := World.cell?_of_block (h.block p.block hp hn)
/-- Where the set lies above B, all below B is as it was. -/
theorem Apart.low {S : Nat → Prop} {w w' : World} {B : Nat} (h : Apart S w w') (hB : B ≤ w.heap.size) (hs : ∀ k, S k → B ≤ k) : Below B w w' :=
  ⟨h.os, h.tape, h.output, h.size, fun k hk => h.block k (Nat.lt_of_lt_of_le hk hB) (fun e => by have := hs k e; omega)⟩

theorem since_refl (S : Nat → Prop) (w : World) (k : Nat) : since S w w k ↔ S k := ⟨fun h => h.elim id (fun e => by omega), .inl⟩
theorem since_trans {S : Nat → Prop} {w w1 w2 : World} (h1 : w.heap.size ≤ w1.heap.size) (h2 : w1.heap.size ≤ w2.heap.size) (k : Nat) : since (since S w w1) w1 w2 k ↔ since S w w2 k := by
  unfold since
  constructor
  · rintro ((h | h) | h)
    · exact .inl h
    · exact .inr ⟨h.1, by omega⟩
    · exact .inr ⟨by omega, h.2⟩
  · rintro (h | h)
    · exact .inl (.inl h)
    · by_cases hk : k < w1.heap.size
      · exact .inl (.inr ⟨h.1, hk⟩)
      · exact .inr ⟨by omega, h.2⟩
theorem since_old {S : Nat → Prop} {w w' : World} {k : Nat} (hk : k < w.heap.size) : since S w w' k ↔ S k := ⟨fun h => h.elim id (fun e => by omega), .inl⟩

/-- Two sets that are apart stay so: what is laid for the one is new to the other. -/
theorem since_apart {S T : Nat → Prop} {w w' : World} (h : ∀ k, S k → ¬ T k) (ht : ∀ k, T k → k < w.heap.size) : ∀ k, since S w w' k → ¬ T k := by
  rintro k (hs | hs) hk
  · exact h k hs hk
  · have := ht k hk; omega

end Go.Proofs.YthbahbcihaebeaaDoor.Cd

/-
  Slices of things of n cells each, whatever things: how they read, how they grow. Conditions: none.
-/
namespace Go.Proofs.YthbahbcihaebeaaDoor.Cd
open Go.RowKit Go.ChangeShapes Go.WideShapes Go.Deep

/-- Things of n cells each: their type T, that of slices of them S. -/
structure Kind {α : Type} (f : α → List Value) (n : Nat) (T S : TypeId) (bytes : Nat) (z : Value) : Prop where
  pos : 0 < n
  len : ∀ x, (f x).length = n
  one : ∀ x, ∀ u ∈ f x, u.oneCell' = true
  slice : Tryd.prog.underlying S = some (.slice T)
  info : (Tryd.prog.info? T).map (fun i => (i.zero, i.size, i.bytes)) = some (some z, n, bytes)
  zero : z.cells.size = n
  few : bytes ≤ 128

section
variable {α : Type} {f : α → List Value} {n : Nat} {T S : TypeId} {bytes : Nat} {z : Value}

/-- A slice value that reads as the things 'l'. -/
def RwIn (f : α → List Value) (n : Nat) (w : World) (B : Nat) (v : Value) (l : List α) : Prop :=
  ∃ A c, v = .slice A l.length c ∧ l.length ≤ c ∧ c ≤ maxLen ∧ (A = none → c = 0) ∧
    (0 < l.length → ∃ b off, A = some ⟨b, off, none⟩ ∧ b < B ∧ ∀ (i : Nat) p, l[i]? = some p → ∀ (j : Nat) x, (f p)[j]? = some x → w.cell? ⟨b, off + i * n + j, none⟩ = some x)

variable {w w' : World} {B B' : Nat} {v : Value} {l : List α}
theorem RwIn.below (h : RwIn f n w B v l) (hb : Below B w w') : RwIn f n w' B v l := by
  obtain ⟨A, c, h1, h2, h3, h4, h5⟩ := h
  refine ⟨A, c, h1, h2, h3, h4, fun hp => ?_⟩
  obtain ⟨b, off, e, hB, hc⟩ := h5 hp
  exact ⟨b, off, e, hB, fun i p hi j x hj => (hb.cell (p := ⟨b, off + i * n + j, none⟩) hB).trans (hc i p hi j x hj)⟩
theorem RwIn.more (h : RwIn f n w B v l) (hB : B ≤ B') : RwIn f n w B' v l := by
  obtain ⟨A, c, h1, h2, h3, h4, h5⟩ := h
  refine ⟨A, c, h1, h2, h3, h4, fun hp => ?_⟩
  obtain ⟨b, off, e, hb, hc⟩ := h5 hp
  exact ⟨b, off, e, Nat.lt_of_lt_of_le hb hB, hc⟩
theorem RwIn.on (h : RwIn f n w w.heap.size v l) (hb : Below w.heap.size w w') : RwIn f n w' w'.heap.size v l := (h.below hb).more hb.size
theorem RwIn.nil (w : World) (B : Nat) : RwIn f n w B (.slice none 0 0) ([] : List α) := ⟨none, 0, rfl, Nat.le_refl _, Nat.zero_le _, fun _ => rfl, fun h => by simp at h⟩
theorem RwIn.len (h : RwIn f n w B v l) : ∃ A c, v = .slice A l.length c ∧ l.length ≤ c ∧ c ≤ 9223372036854775807 := by
  obtain ⟨A, c, h1, h2, h3, _⟩ := h
  exact ⟨A, c, h1, h2, h3⟩
/-- The k-th thing's cells. -/
theorem RwIn.at {A : Option Addr} {m c : Nat} (h : RwIn f n w B (.slice A m c) l) {k : Nat} {p : α} (hk : l[k]? = some p) :
    ∃ b off, A = some ⟨b, off, none⟩ ∧ b < B ∧ ∀ (j : Nat) x, (f p)[j]? = some x → w.cell? ⟨b, off + k * n + j, none⟩ = some x := by
  obtain ⟨A0, c0, e, _, _, _, h5⟩ := h
  injection e with e1 e2 e3
  have hlt := (List.getElem?_eq_some_iff.1 hk).1
  obtain ⟨b, off, e, hB, hc⟩ := h5 (by omega)
  exact ⟨b, off, e1.trans e, hB, hc k p hk⟩

/-! ### Rows of the call's own -/

def rowC (f : α → List Value) (l : List α) : List Value := (l.map f).flatten
theorem rowC_append (a b : List α) : rowC f (a ++ b) = rowC f a ++ rowC f b := by simp [rowC]
theorem rowC_len (hf : ∀ x, (f x).length = n) (l : List α) : (rowC f l).length = l.length * n := by
  induction l with
  | nil => simp [rowC]
  | cons p r ih =>
    show (f p ++ rowC f r).length = _
    rw [List.length_append, ih, hf, List.length_cons, Nat.add_mul]
    omega
theorem rowC_at (hf : ∀ x, (f x).length = n) : ∀ (l : List α) (i : Nat) (p : α), l[i]? = some p → ∀ (j : Nat) x, (f p)[j]? = some x → (rowC f l)[i * n + j]? = some x
  | [], _, _, h, _, _, _ => by simp at h
  | q :: r, 0, p, h, j, x, hx => by
    have e : q = p := by simpa using h
    subst e
    have hj : j < (f q).length := (List.getElem?_eq_some_iff.1 hx).1
    show (f q ++ rowC f r)[0 * n + j]? = some x
    rw [Nat.zero_mul, Nat.zero_add, List.getElem?_append_left hj]
    exact hx
  | q :: r, i + 1, p, h, j, x, hx => by
    have := rowC_at hf r i p (by simpa using h) j x hx
    show (f q ++ rowC f r)[(i + 1) * n + j]? = some x
    have e : (i + 1) * n = n + i * n := by rw [Nat.add_mul, Nat.one_mul, Nat.add_comm]
    rw [List.getElem?_append_right (by rw [hf, e]; omega)]
    rw [show (i + 1) * n + j - (f q).length = i * n + j by rw [hf, e]; omega]
    exact this
theorem rowC_of (hf : ∀ x, (f x).length = n) : ∀ (l : List α) (j : Nat) x, (rowC f l)[j]? = some x → ∃ i p k, l[i]? = some p ∧ (f p)[k]? = some x ∧ j = i * n + k
  | [], _, _, h => by simp [rowC] at h
  | q :: r, j, x, h => by
    have h : (f q ++ rowC f r)[j]? = some x := h
    by_cases hj : j < n
    · rw [List.getElem?_append_left (by rw [hf]; exact hj)] at h
      exact ⟨0, q, j, rfl, h, by omega⟩
    · rw [List.getElem?_append_right (by rw [hf]; omega), hf] at h
      obtain ⟨i, p, k, h1, h2, h3⟩ := rowC_of hf r _ x h
      exact ⟨i + 1, p, k, by simpa using h1, h2, by rw [Nat.add_mul]; omega⟩
theorem rowC_one (h1 : ∀ x, ∀ u ∈ f x, u.oneCell' = true) (l : List α) : ∀ u ∈ rowC f l, u.oneCell' = true := by
  intro u hu
  simp only [rowC, List.mem_flatten, List.mem_map] at hu
  obtain ⟨_, ⟨p, _, rfl⟩, hu⟩ := hu
  exact h1 p u hu

/-- A row of things of the call's own. -/
def OwnRw (f : α → List Value) (n : Nat) (T : TypeId) (w : World) (B : Nat) (v : Value) (l : List α) : Prop := w.ownsRow B T n v l.length (rowC f l)

theorem OwnRw.nil (w : World) (B : Nat) : OwnRw f n T w B (.slice none 0 0) ([] : List α) := World.ownsRow_nil _ _ _ _
theorem OwnRw.keep (h : OwnRw f n T w B v l) (hb : Below w.heap.size w w') : OwnRw f n T w' B v l := by
  have hlt := World.ownsRow.lt h
  refine ⟨h.1, ?_⟩
  rcases h.2 with h4 | ⟨g, cap, cur, rfl, hg, hh, r⟩
  · exact .inl h4
  · exact .inr ⟨g, cap, cur, rfl, hg, (hb.block g (hlt g rfl).2).trans hh, r⟩
theorem OwnRw.lower (h : OwnRw f n T w B v l) (hB : B' ≤ B) : OwnRw f n T w B' v l := by
  refine ⟨h.1, ?_⟩
  rcases h.2 with h2 | ⟨g, cap, cur, hv, hg, r⟩
  · exact .inl h2
  · exact .inr ⟨g, cap, cur, hv, Nat.le_trans hB hg, r⟩
theorem OwnRw.alloc (h : OwnRw f n T w B v l) (o : Obj) : OwnRw f n T (w.alloc o) B v l := World.ownsRow.alloc h o
theorem OwnRw.drew (h : OwnRw f n T w B v l) : OwnRw f n T w.drew B v l := h
/-- Where another block alone turned, one below the row's. -/
theorem OwnRw.far {g : Nat} (h : OwnRw f n T w B v l) (hg : w.grownBy w' (some g)) (hlt0 : g < B) : OwnRw f n T w' B v l := by
  have hlt := World.ownsRow.lt h
  refine ⟨h.1, ?_⟩
  rcases h.2 with h4 | ⟨g', cap, cur, rfl, hb, hh, r⟩
  · exact .inl h4
  · exact .inr ⟨g', cap, cur, rfl, hb, (hg.block g' (hlt g' rfl).2 (fun e => by injection e with e; omega)).trans hh, r⟩
theorem OwnRw.put (h : OwnRw f n T w B v l) (p : Addr) (u : Value) (hp : p.block < B) : OwnRw f n T (w.setCell p u) B v l :=
  h.far (g := p.block) ⟨rfl, rfl, rfl, by simp, fun k _ hk => heap_setCell_other _ _ _ _ (fun e => hk (by rw [e]))⟩ hp
theorem OwnRw.rwIn (K : Kind f n T S bytes z) (h : OwnRw f n T w B v l) : RwIn f n w w.heap.size v l := by
  have hlt := World.ownsRow.lt h
  have hc := fun g hg => World.ownsRow.cells h (g := g) hg
  rcases h.2 with ⟨rfl, h0⟩ | ⟨g, cap, cur, rfl, hBg, hg, hn, hm, _, _⟩
  · have : l = [] := List.eq_nil_of_length_eq_zero h0
    subst this
    exact RwIn.nil _ _
  · refine ⟨_, cap, rfl, hn, hm, (fun h => by cases h), fun _ => ⟨g, 0, rfl, (hlt g rfl).2, fun i p hi j x hj => ?_⟩⟩
    have := hc g rfl (i * n + j) _ (rowC_at K.len l i p hi j x hj)
    rw [Addr.add_lit] at this
    rwa [← Nat.add_assoc] at this

/-- append of things, onto a row of the call's own. -/
theorem run_append_rw (K : Kind f n T S bytes z) (ho : OwnRw f n T w B v l) (hB : B ≤ w.heap.size) (x : Value) (B' : Nat) (ns : List α) (hx : RwIn f n w B' x ns) (hm : l.length + ns.length ≤ 1099511627776) (ty : TypeId) :
    ∃ v' w', (Builtin.append_ #[S, S] ty #[v, x]).run Tryd.prog w = .ok v' w' ∧ OwnRw f n T w' B v' (l ++ ns) ∧ Below B w w' ∧ w.grownBy w' v.ownBlock := by
  obtain ⟨i0, hi, hz0, hz1, hz2⟩ := info_parts K.info
  have hmax : l.length + ns.length ≤ maxLen := by simp only [maxLen]; omega
  have hby : ∀ m, m ≤ l.length + ns.length → m * bytes ≤ 140737488355328 := fun m hmm => Nat.le_trans (Nat.mul_le_mul (Nat.le_trans hmm hm) K.few) (by omega)
  obtain ⟨A, c, rfl, _, _, h4, h6⟩ := hx
  by_cases h0 : 0 < ns.length
  · obtain ⟨b, off, rfl, _, hc⟩ := h6 h0
    obtain ⟨v', w', hr, h2, h3, _⟩ := run_append_own (P := Tryd.prog) w B S ty T i0 _ n bytes K.slice hi hz0 hz1 hz2 K.zero K.pos v l.length (rowC f l) ho ⟨b, off, none⟩ ns.length c (rowC f ns) (rowC_len K.len ns)
      (fun j u hu => by
        rw [Addr.add_lit]
        obtain ⟨i, p, k, h1, h2, rfl⟩ := rowC_of K.len ns j u hu
        rw [← Nat.add_assoc]
        exact hc i p h1 k u h2) (rowC_one K.one ns) hmax (hby _ (Nat.le_refl _)) hB
    refine ⟨v', w', hr, ?_, (Below.refl _ _).grown h3 hB (fun k hk => (World.ownsRow.lt ho k hk).1), h3⟩
    unfold OwnRw
    rw [rowC_append, List.length_append]
    exact h2
  · have hns : ns = [] := List.eq_nil_of_length_eq_zero (by omega)
    subst hns
    cases A with
    | some ad =>
      obtain ⟨v', w', hr, h2, h3, _⟩ := run_append_own (P := Tryd.prog) w B S ty T i0 _ n bytes K.slice hi hz0 hz1 hz2 K.zero K.pos v l.length (rowC f l) ho ad 0 c [] (by simp) (fun j u hu => by simp at hu) (by simp) hmax (hby _ (Nat.le_refl _)) hB
      refine ⟨v', w', hr, ?_, (Below.refl _ _).grown h3 hB (fun k hk => (World.ownsRow.lt ho k hk).1), h3⟩
      unfold OwnRw
      rw [rowC_append, List.length_append]
      exact h2
    | none =>
      have hc := h4 rfl
      subst hc
      refine ⟨v, w, ?_, by simpa using ho, Below.refl _ _, ⟨rfl, rfl, rfl, Nat.le_refl _, fun _ _ _ => rfl⟩⟩
      rcases ho.2 with ⟨rfl, h0⟩ | ⟨g, cap, cur, rfl, _, _, hnc, _⟩
      · simp [Builtin.append_, run_underlying K.slice, sizeOf, typeInfo, hi, Builtin.lenOf, Builtin.firstCells]
      · simp [Builtin.append_, run_underlying K.slice, sizeOf, typeInfo, hi, Builtin.lenOf, Builtin.firstCells, hnc, storeCells]

theorem wp_append_rw (K : Kind f n T S bytes z) {ops : Array Oper} {rest : List Oper} {o : Oper} {a : Act} {Q : Exit → Act → World → Prop} (hgd : o.guard = none) (s x : Operand)
    (hop : o.op = .call { callee := .builtin .append, args := #[s, x], argTypes := #[S, S] })
    (hs : a.eval s = v) (ho : OwnRw f n T w B v l) (hB : B ≤ w.heap.size) (y : Value) (B' : Nat) (ns : List α) (hx : a.eval x = y) (hy : RwIn f n w B' y ns)
    (hm : l.length + ns.length ≤ 1099511627776)
    (hK : ∀ v' w', OwnRw f n T w' B v' (l ++ ns) → Below B w w' → w.grownBy w' v.ownBlock → wpList Tryd.prog ops Q rest (a.put o.dst v') w') : wpList Tryd.prog ops Q (o :: rest) a w := by
  refine wpList_plain hgd fun K9 hK' => ?_
  obtain ⟨v', w', hrun, r1, r2, r3⟩ := run_append_rw K ho hB y B' ns hy hm o.type
  unfold Oper.wp
  simp [execOp, hop, resolve, invoke, builtin, hs, hx, hrun, Result.andThen]
  exact hK' _ _ (hK v' w' r1 r2 r3)
/-- The same, where the region takes one operation by itself. -/
theorem op_append_rw (K : Kind f n T S bytes z) {o : Oper} {a : Act} {K9 : Act → World → Prop} {Q : Exit → Act → World → Prop} (s x : Operand)
    (hop : o.op = .call { callee := .builtin .append, args := #[s, x], argTypes := #[S, S] })
    (hs : a.eval s = v) (ho : OwnRw f n T w B v l) (hB : B ≤ w.heap.size) (y : Value) (B' : Nat) (ns : List α) (hx : a.eval x = y) (hy : RwIn f n w B' y ns)
    (hm : l.length + ns.length ≤ 1099511627776)
    (hK : ∀ v' w', OwnRw f n T w' B v' (l ++ ns) → Below B w w' → w.grownBy w' v.ownBlock → K9 (a.put o.dst v') w') : o.wp Tryd.prog a w K9 Q := by
  obtain ⟨v', w', hrun, r1, r2, r3⟩ := run_append_rw K ho hB y B' ns hy hm o.type
  unfold Oper.wp
  simp [execOp, hop, resolve, invoke, builtin, hs, hx, hrun, Result.andThen]
  exact hK v' w' r1 r2 r3
theorem step_append_rw (K : Kind f n T S bytes z) {ops : Array Oper} {o : Oper} {a : Act} {K9 : Act → World → Prop} {Q : Exit → Act → World → Prop} {E : Prop} (hgd : o.guard = none) (s x : Operand)
    (hop : o.op = .call { callee := .builtin .append, args := #[s, x], argTypes := #[S, S] })
    (hs : a.eval s = v) (ho : OwnRw f n T w B v l) (hB : B ≤ w.heap.size) (y : Value) (B' : Nat) (ns : List α) (hx : a.eval x = y) (hy : RwIn f n w B' y ns)
    (hm : l.length + ns.length ≤ 1099511627776)
    (hK : ∀ v' w', OwnRw f n T w' B v' (l ++ ns) → Below B w w' → w.grownBy w' v.ownBlock → K9 (a.put o.dst v') w') : if Region.wanted o (yielded ops a.tmps) = true then Oper.wp Tryd.prog o a w K9 Q else E := by
  have hw : Region.wanted o (yielded ops a.tmps) = true := by simp [Region.wanted, hgd]
  rw [if_pos hw]
  exact op_append_rw K s x hop hs ho hB y B' ns hx hy hm hK

/-- One thing, laid out a moment ago. -/
theorem rw_one (K : Kind f n T S bytes z) (w : World) (p : α) (T' : TypeId) (X : Array Value) (hX : X = (f p).toArray) : RwIn f n (w.alloc (.cells X T')) (w.heap.size + 1) (.slice (some ⟨w.heap.size, 0, none⟩) 1 1) [p] := by
  subst hX
  exact ⟨_, 1, rfl, by simp, by simp [maxLen], (fun h => by cases h), fun _ => ⟨w.heap.size, 0, rfl, by omega, fun i q hi j x hx => by
    have hlt := (List.getElem?_eq_some_iff.1 hi).1
    obtain rfl : i = 0 := by simp at hlt; omega
    obtain rfl : p = q := by simpa using hi
    have hrow := heap_alloc_new w (.cells (f p).toArray T')
    rw [show 0 + 0 * n + j = j by omega]
    exact (cell_of_row _ _ j _ _ _ hrow).trans (by simpa using hx)⟩⟩
/-- The same of one that lies in a block. -/
theorem rw_block (w : World) (p : α) (b : Nat) (T' : TypeId) (fr : Nat × Nat) (h : w.heap[b]? = some (.cells (f p).toArray T' fr)) (hB : b < B) : RwIn f n w B (.slice (some ⟨b, 0, none⟩) 1 1) [p] :=
  ⟨_, 1, rfl, by simp, by simp [maxLen], (fun h => by cases h), fun _ => ⟨b, 0, rfl, hB, fun i q hi j x hx => by
    have hlt := (List.getElem?_eq_some_iff.1 hi).1
    obtain rfl : i = 0 := by simp at hlt; omega
    obtain rfl : p = q := by simpa using hi
    rw [show 0 + 0 * n + j = j by omega]
    exact (cell_of_row _ _ j _ _ _ h).trans (by simpa using hx)⟩⟩
/-- What is left of a slice behind its first k. -/
theorem rowC_cons (p : α) (l : List α) : rowC f (p :: l) = f p ++ rowC f l := rfl
end

end Go.Proofs.YthbahbcihaebeaaDoor.Cd

/-
  A word turned to the right. Conditions: none.
-/
namespace Go.Proofs.YthbahbcihaebeaaDoor.Cd
open Go.RowKit

/-- A word of thirty-two bits. -/
def W32 (x : Int) : Prop := 0 ≤ x ∧ x < 4294967296
theorem W32.mod (x : Int) : W32 (x % 4294967296) := ⟨by omega, by omega⟩
theorem W32.bits (op : BinOp) (x y : Int) : W32 (bits op .u32 x y) := by
  have h := bounds_u32 (Go.wf_bits op .u32 x y)
  exact ⟨h.1, by omega⟩
/-- A word turned to the right by so many places. -/
def rot (x p q : Int) : Int := bits .or .u32 (x * p % 4294967296) (x / q)
theorem W32.rot (x p q : Int) : W32 (rot x p q) := W32.bits _ _ _

set_option maxRecDepth 100000 in
set_option maxHeartbeats 800000 in
theorem turned_2 (x : Int) (w : World) (hx : W32 x) : Calls Tryd.prog 79 #[.int .u32 x, .int .i64 2] w fun e w' => e = .returned (.int .u32 (rot x 1073741824 4)) ∧ w = w' := by
  obtain ⟨h0, h1⟩ := hx
  have e1 : bits BinOp.and IntKind.u64 (IntKind.u64.wrap (-2)) 31 = 30 := by decide
  go_enter Tryd.func79, Tryd.ntmps79
  go_wp2
  go_ret
  exact ⟨rfl, rfl⟩

set_option maxRecDepth 100000 in
set_option maxHeartbeats 800000 in
theorem turned_6 (x : Int) (w : World) (hx : W32 x) : Calls Tryd.prog 79 #[.int .u32 x, .int .i64 6] w fun e w' => e = .returned (.int .u32 (rot x 67108864 64)) ∧ w = w' := by
  obtain ⟨h0, h1⟩ := hx
  have e1 : bits BinOp.and IntKind.u64 (IntKind.u64.wrap (-6)) 31 = 26 := by decide
  go_enter Tryd.func79, Tryd.ntmps79
  go_wp2
  go_ret
  exact ⟨rfl, rfl⟩

set_option maxRecDepth 100000 in
set_option maxHeartbeats 800000 in
theorem turned_7 (x : Int) (w : World) (hx : W32 x) : Calls Tryd.prog 79 #[.int .u32 x, .int .i64 7] w fun e w' => e = .returned (.int .u32 (rot x 33554432 128)) ∧ w = w' := by
  obtain ⟨h0, h1⟩ := hx
  have e1 : bits BinOp.and IntKind.u64 (IntKind.u64.wrap (-7)) 31 = 25 := by decide
  go_enter Tryd.func79, Tryd.ntmps79
  go_wp2
  go_ret
  exact ⟨rfl, rfl⟩

set_option maxRecDepth 100000 in
set_option maxHeartbeats 800000 in
theorem turned_11 (x : Int) (w : World) (hx : W32 x) : Calls Tryd.prog 79 #[.int .u32 x, .int .i64 11] w fun e w' => e = .returned (.int .u32 (rot x 2097152 2048)) ∧ w = w' := by
  obtain ⟨h0, h1⟩ := hx
  have e1 : bits BinOp.and IntKind.u64 (IntKind.u64.wrap (-11)) 31 = 21 := by decide
  go_enter Tryd.func79, Tryd.ntmps79
  go_wp2
  go_ret
  exact ⟨rfl, rfl⟩

set_option maxRecDepth 100000 in
set_option maxHeartbeats 800000 in
theorem turned_13 (x : Int) (w : World) (hx : W32 x) : Calls Tryd.prog 79 #[.int .u32 x, .int .i64 13] w fun e w' => e = .returned (.int .u32 (rot x 524288 8192)) ∧ w = w' := by
  obtain ⟨h0, h1⟩ := hx
  have e1 : bits BinOp.and IntKind.u64 (IntKind.u64.wrap (-13)) 31 = 19 := by decide
  go_enter Tryd.func79, Tryd.ntmps79
  go_wp2
  go_ret
  exact ⟨rfl, rfl⟩

set_option maxRecDepth 100000 in
set_option maxHeartbeats 800000 in
theorem turned_17 (x : Int) (w : World) (hx : W32 x) : Calls Tryd.prog 79 #[.int .u32 x, .int .i64 17] w fun e w' => e = .returned (.int .u32 (rot x 32768 131072)) ∧ w = w' := by
  obtain ⟨h0, h1⟩ := hx
  have e1 : bits BinOp.and IntKind.u64 (IntKind.u64.wrap (-17)) 31 = 15 := by decide
  go_enter Tryd.func79, Tryd.ntmps79
  go_wp2
  go_ret
  exact ⟨rfl, rfl⟩

set_option maxRecDepth 100000 in
set_option maxHeartbeats 800000 in
theorem turned_18 (x : Int) (w : World) (hx : W32 x) : Calls Tryd.prog 79 #[.int .u32 x, .int .i64 18] w fun e w' => e = .returned (.int .u32 (rot x 16384 262144)) ∧ w = w' := by
  obtain ⟨h0, h1⟩ := hx
  have e1 : bits BinOp.and IntKind.u64 (IntKind.u64.wrap (-18)) 31 = 14 := by decide
  go_enter Tryd.func79, Tryd.ntmps79
  go_wp2
  go_ret
  exact ⟨rfl, rfl⟩

set_option maxRecDepth 100000 in
set_option maxHeartbeats 800000 in
theorem turned_19 (x : Int) (w : World) (hx : W32 x) : Calls Tryd.prog 79 #[.int .u32 x, .int .i64 19] w fun e w' => e = .returned (.int .u32 (rot x 8192 524288)) ∧ w = w' := by
  obtain ⟨h0, h1⟩ := hx
  have e1 : bits BinOp.and IntKind.u64 (IntKind.u64.wrap (-19)) 31 = 13 := by decide
  go_enter Tryd.func79, Tryd.ntmps79
  go_wp2
  go_ret
  exact ⟨rfl, rfl⟩

set_option maxRecDepth 100000 in
set_option maxHeartbeats 800000 in
theorem turned_22 (x : Int) (w : World) (hx : W32 x) : Calls Tryd.prog 79 #[.int .u32 x, .int .i64 22] w fun e w' => e = .returned (.int .u32 (rot x 1024 4194304)) ∧ w = w' := by
  obtain ⟨h0, h1⟩ := hx
  have e1 : bits BinOp.and IntKind.u64 (IntKind.u64.wrap (-22)) 31 = 10 := by decide
  go_enter Tryd.func79, Tryd.ntmps79
  go_wp2
  go_ret
  exact ⟨rfl, rfl⟩

set_option maxRecDepth 100000 in
set_option maxHeartbeats 800000 in
theorem turned_25 (x : Int) (w : World) (hx : W32 x) : Calls Tryd.prog 79 #[.int .u32 x, .int .i64 25] w fun e w' => e = .returned (.int .u32 (rot x 128 33554432)) ∧ w = w' := by
  obtain ⟨h0, h1⟩ := hx
  have e1 : bits BinOp.and IntKind.u64 (IntKind.u64.wrap (-25)) 31 = 7 := by decide
  go_enter Tryd.func79, Tryd.ntmps79
  go_wp2
  go_ret
  exact ⟨rfl, rfl⟩

end Go.Proofs.YthbahbcihaebeaaDoor.Cd
