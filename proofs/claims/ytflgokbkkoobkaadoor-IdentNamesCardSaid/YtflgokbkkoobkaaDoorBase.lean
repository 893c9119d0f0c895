/-
  What every seat's texts lean on: what a call gives, slices of bytes that grow, the reading of an argument of bytes. Conditions: none.
-/
import Derived.Test.YtflgokbkkoobkaaDoorConv
import Derived.Deep.Slices
import Derived.Deep.Fields
import Derived.Deep.RegionLaw
import Derived.RegionTactic
import Derived.BigRegion
import Derived.OpenShut
import Derived.ChangeSame
import Derived.LoopTactic
import Derived.Laws.Rows
import Derived.SizedLaws
import Derived.Lib.SlBytesConst
namespace Go.Proofs.YtflgokbkkoobkaaDoor.Cd
open Go.RowKit Go.ChangeShapes Go.WideShapes Go.Deep

/-- What a call leaves that answers one value and writes to nothing that was there. -/
def Gives (v : Value) (w : World) (e : Ending) (w' : World) : Prop := e = .returned v ∧ Below w.heap.size w w'

theorem below_of_grown {w0 w w' : World} {g B : Nat} (h : Below B w0 w) (hg : w.grownBy w' (some g)) (hB : B ≤ w.heap.size) (hr : B ≤ g) : Below B w0 w' :=
  h.grown hg hB (fun k hk => by injection hk with hk; omega)

theorem below_drewN {B : Nat} {a w : World} (h : Below B a w) (n : Nat) : Below B a (w.drewN n) := ⟨h.os, h.tape, h.output, h.size, h.block⟩

theorem asz (w : World) (o : Obj) : (w.alloc o).heap.size = w.heap.size + 1 := by simp

theorem sl_mark (w : World) (cs : List UInt8) (xs : Array Value) (hx : xs = (vb cs).toArray) (hm : cs.length ≤ maxLen) (n : Nat) (hn : n = cs.length) (fr : Nat × Nat) :
    Sl (w.alloc (.cells xs 5 fr)) (w.heap.size + 1) (.slice (some ⟨w.heap.size, 0, none⟩) n n) cs := by
  subst hx hn
  refine ⟨_, cs.length, rfl, Nat.le_refl _, hm, (fun h => by cases h), (fun ad e _ => by injection e with e; subst e; simp), fun ad e j u hu => ?_⟩
  injection e with e
  subst e
  rw [Addr.add_lit, Nat.zero_add]
  have := cell_of_row (w.alloc (.cells (vb cs).toArray 5 fr)) w.heap.size j (vb cs).toArray 5 fr (heap_alloc_new w _)
  rw [this]
  simpa using hu

theorem sl_new (w : World) (cs : List UInt8) (xs : Array Value) (hx : xs = (vb cs).toArray) (hm : cs.length ≤ maxLen) (n : Nat) (hn : n = cs.length) :
    Sl (w.alloc (.cells xs 5)) (w.heap.size + 1) (.slice (some ⟨w.heap.size, 0, none⟩) n n) cs := sl_mark w cs xs hx hm n hn (0, 0)

/-- []byte of a constant, for the walk. -/
theorem bytes_const (w : World) (C : Array Value) (n c : Nat) : (convert 22 22 (.slice (some ⟨w.heap.size, 0, none⟩) n c)).run Tryd.prog (w.alloc (.cells C 5)) = .ok (.slice (some ⟨w.heap.size, 0, none⟩) n c) (w.alloc (.cells C 5 (C.size, C.size + 1))) :=
  Lib.run_convert_bytes_const (P := Tryd.prog) w 22 5 C n c Tryd.underlying22 Tryd.underlying5

/-- A row of the call's own that has a first byte. -/
theorem Own.open {w : World} {B : Nat} {v : Value} {c : UInt8} {r : List UInt8} (h : Own w B v (c :: r)) :
    ∃ g cap, v = .slice (some ⟨g, 0, none⟩) (r.length + 1) cap ∧ r.length + 1 ≤ cap ∧ cap ≤ maxLen ∧ g < w.heap.size ∧ ∀ j u, (vb (c :: r))[j]? = some u → w.cell? ⟨g, j, none⟩ = some u := by
  obtain ⟨g, cap, hv, hlt⟩ : ∃ g cap, v = .slice (some ⟨g, 0, none⟩) (r.length + 1) cap ∧ g < w.heap.size := by
    have hlt := h.lt
    rcases h.2 with ⟨_, h0⟩ | ⟨g, cap, cur, rfl, _⟩
    · simp at h0
    · exact ⟨g, cap, by simp, (hlt g rfl).2⟩
  have hc := World.ownsRow.cells h (g := g) (by rw [hv]; rfl)
  have hs := h.sl
  obtain ⟨A, c', e, h2, h3, _⟩ := hs
  rw [hv] at e
  injection e with e1 e2 e3
  subst e3
  exact ⟨g, cap, hv, h2, h3, hlt, fun j u hu => by have := hc j u hu; rwa [Addr.add_lit, Nat.zero_add] at this⟩

/-- string(x[1:]). -/
theorem run_text_tail (w : World) (g cap : Nat) (c : UInt8) (r : List UInt8) (hcap : r.length + 1 ≤ cap) (hc : ∀ j u, (vb (c :: r))[j]? = some u → w.cell? ⟨g, j, none⟩ = some u) :
    (convert 22 9 (.slice (if cap = 1 then some ⟨g, 0, none⟩ else some ⟨g, 1, none⟩) r.length (cap - 1))).run Tryd.prog w = .ok (.string ⟨r.toArray⟩) w := by
  by_cases h : cap = 1
  · have hr : r = [] := List.eq_nil_of_length_eq_zero (by omega)
    subst hr
    rw [if_pos h]
    exact run_convert_bytes_back w 22 9 5 ⟨g, 0, none⟩ _ [] Tryd.underlying22 Tryd.underlying5 Tryd.underlying9 fun j hj => by simp at hj
  · rw [if_neg h]
    refine run_convert_bytes_back w 22 9 5 ⟨g, 1, none⟩ _ r Tryd.underlying22 Tryd.underlying5 Tryd.underlying9 fun j hj => ?_
    rw [Addr.add_lit, Nat.add_comm]
    refine hc (j + 1) _ ?_
    simp [vb, hj]

theorem Own.alloc {w : World} {B : Nat} {v : Value} {bs : List UInt8} (h : Own w B v bs) (o : Obj) : Own (w.alloc o) B v bs := World.ownsRow.alloc h o
theorem Own.drew {w : World} {B : Nat} {v : Value} {bs : List UInt8} (h : Own w B v bs) : Own w.drew B v bs := h

theorem Own.keep {w w' : World} {B : Nat} {v : Value} {bs : List UInt8} (h : Own w B v bs) (hb : Below w.heap.size w w') : Own w' B v bs := by
  have hlt := h.lt
  refine ⟨h.1, ?_⟩
  rcases h.2 with h2 | ⟨g, cap, cur, rfl, hg, hh, r⟩
  · exact .inl h2
  · exact .inr ⟨g, cap, cur, rfl, hg, (hb.block g (hlt g rfl).2).trans hh, r⟩

theorem hO_sl {w : World} {B : Nat} {v : Value} {bs : List UInt8} (h : Own w B v bs) (o : Obj) : Sl (w.alloc o) (w.heap.size + 1) v bs := by
  have h2 := (h.alloc o).sl
  rwa [show (w.alloc o).heap.size = w.heap.size + 1 by simp] at h2

/-- append(own, b...), b whatever slice of bytes. -/
theorem run_append_sl (w : World) (B : Nat) (v : Value) (bs : List UInt8) (ho : Own w B v bs) (hB : B ≤ w.heap.size) (x : Value) (B' : Nat) (ns : List UInt8) (hx : Sl w B' x ns)
    (hm : bs.length + ns.length ≤ 140737488355328) (ty : TypeId) :
    ∃ v' w', (Builtin.append_ #[22, 22] ty #[v, x]).run Tryd.prog w = .ok v' w' ∧ Own w' B v' (bs ++ ns) ∧ Below B w w' := by
  obtain ⟨i0, hi, hz0, hz1, hz2⟩ := info_parts info5
  have hmax : bs.length + ns.length ≤ maxLen := by simp only [maxLen]; omega
  obtain ⟨A, c, rfl, _, _, h4, _, h6⟩ := hx
  cases A with
  | some ad =>
    obtain ⟨v', w', hr, h2, h3, _⟩ := run_append_own (P := Tryd.prog) w B 22 ty 5 i0 _ 1 1 Tryd.underlying22 hi hz0 hz1 hz2 rfl (by omega) v bs.length (vb bs) ho ad ns.length c (vb ns) (by simp [vb]) (h6 ad rfl) (vb_one ns) hmax (by omega) hB
    refine ⟨v', w', hr, ?_, (Below.refl _ _).grown h3 hB (fun k hk => (ho.lt k hk).1)⟩
    unfold Own
    rw [vb_append, List.length_append]
    exact h2
  | none =>
    have hc := h4 rfl
    subst hc
    have : ns = [] := List.eq_nil_of_length_eq_zero (by omega)
    subst this
    refine ⟨v, w, ?_, by simpa using ho, Below.refl _ _⟩
    rcases ho.2 with ⟨rfl, h0⟩ | ⟨g, cap, cur, rfl, _, _, hnc, _⟩
    · simp [Builtin.append_, run_underlying Tryd.underlying22, sizeOf, typeInfo, hi, Builtin.lenOf, Builtin.firstCells]
    · simp [Builtin.append_, run_underlying Tryd.underlying22, sizeOf, typeInfo, hi, Builtin.lenOf, Builtin.firstCells, hnc, storeCells]

theorem step_append_sl {w : World} {ops : Array Oper} {o : Oper} {a : Act} {K : Act → World → Prop} {Q : Exit → Act → World → Prop} {E : Prop} (hgd : o.guard = none) (s x : Operand)
    (hop : o.op = .call { callee := .builtin .append, args := #[s, x], argTypes := #[22, 22] })
    (B : Nat) (v : Value) (bs : List UInt8) (hs : a.eval s = v) (ho : Own w B v bs) (hB : B ≤ w.heap.size) (y : Value) (B' : Nat) (ns : List UInt8) (hx : a.eval x = y) (hy : Sl w B' y ns)
    (hm : bs.length + ns.length ≤ 140737488355328)
    (h : ∀ v' w', Own w' B v' (bs ++ ns) → Below B w w' → K (a.put o.dst v') w') : if Region.wanted o (yielded ops a.tmps) = true then Oper.wp Tryd.prog o a w K Q else E := by
  have hw : Region.wanted o (yielded ops a.tmps) = true := by simp [Region.wanted, hgd]
  rw [if_pos hw]
  obtain ⟨v', w', hrun, r1, r2⟩ := run_append_sl w B v bs ho hB y B' ns hy hm o.type
  unfold Oper.wp
  simp [execOp, hop, resolve, invoke, builtin, hs, hx, hrun, Result.andThen]
  exact h v' w' r1 r2

theorem step_append_text {w : World} {ops : Array Oper} {o : Oper} {a : Act} {K : Act → World → Prop} {Q : Exit → Act → World → Prop} {E : Prop} (hgd : o.guard = none) (s x : Operand)
    (hop : o.op = .call { callee := .builtin .append, args := #[s, x], argTypes := #[22, 9] })
    (B : Nat) (v : Value) (bs : List UInt8) (hs : a.eval s = v) (ho : Own w B v bs) (hB : B ≤ w.heap.size) (t : List UInt8) (hx : a.eval x = .string ⟨t.toArray⟩)
    (hm : bs.length + t.length ≤ 140737488355328)
    (h : ∀ v' w', Own w' B v' (bs ++ t) → Below B w w' → K (a.put o.dst v') w') : if Region.wanted o (yielded ops a.tmps) = true then Oper.wp Tryd.prog o a w K Q else E := by
  have hw : Region.wanted o (yielded ops a.tmps) = true := by simp [Region.wanted, hgd]
  rw [if_pos hw]
  obtain ⟨i0, hi, hz0, hz1, hz2⟩ := info_parts info5
  have hmax : bs.length + t.length ≤ maxLen := by simp only [maxLen]; omega
  obtain ⟨v', w', hrun, r1, r2⟩ := Lib.run_append_own_string (P := Tryd.prog) w B 22 9 o.type 5 i0 Tryd.underlying22 Tryd.underlying9 hi hz0 hz1 hz2 v bs.length (vb bs) ho ⟨t.toArray⟩ hmax (by have : (ByteArray.mk t.toArray).size = t.length := rfl; omega) hB
  unfold Oper.wp
  simp [execOp, hop, resolve, invoke, builtin, hs, hx, hrun, Result.andThen]
  refine h v' w' ?_ ((Below.refl _ _).grown r2.1 hB (fun k hk => (ho.lt k hk).1))
  unfold Own
  rw [vb_append, List.length_append]
  exact r1

theorem own_empty (wr : World) (o : Obj) (B : Nat) (hB : B ≤ wr.heap.size + 1) : Own (((wr.alloc o).alloc (.cells #[] 5)).drew) B (.slice (some ⟨wr.heap.size + 1, 0, none⟩) 0 0) [] := by
  have h := World.ownsRow_made (base := B) (e := 5) (size := 1) (wr.alloc o) #[] 0 (by simp; omega) (by simp) rfl
  rw [show (wr.alloc o).heap.size = wr.heap.size + 1 by simp] at h
  exact h

/-- A slice that has bytes: where they lie. -/
theorem Sl.at {w : World} {B : Nat} {v : Value} {bs : List UInt8} (h : Sl w B v bs) (h0 : 0 < bs.length) :
    ∃ b off c, v = .slice (some ⟨b, off, none⟩) bs.length c ∧ bs.length ≤ c ∧ c ≤ maxLen ∧ b < B ∧ ∀ j (hj : j < bs.length), w.cell? ⟨b, off + j, none⟩ = some (.int .u8 (bs[j]).toNat) := by
  obtain ⟨A, c, rfl, h2, h3, h4, h5, h6⟩ := h
  cases A with
  | none => have := h4 rfl; omega
  | some a =>
    obtain ⟨b, off, spot⟩ := a
    have hc := h6 _ rfl 0 _ (vb_at bs 0 h0)
    have hspot : spot = none := by simpa [Addr.add] using World.cell?_spot hc
    subst hspot
    refine ⟨b, off, c, rfl, h2, h3, h5 _ rfl h0, fun j hj => ?_⟩
    have := h6 _ rfl j _ (vb_at bs j hj)
    rwa [Addr.add_lit] at this

theorem Sl.len {w : World} {B : Nat} {v : Value} {bs : List UInt8} (h : Sl w B v bs) : ∃ A c, v = .slice A bs.length c ∧ bs.length ≤ c ∧ c ≤ maxLen := by
  obtain ⟨A, c, rfl, h2, h3, _⟩ := h
  exact ⟨A, c, rfl, h2, h3⟩

/-- A slice of byte slices. -/
def Sls (w : World) (B : Nat) (v : Value) (l : List (List UInt8)) : Prop :=
  ∃ A c, v = .slice A l.length c ∧ l.length ≤ c ∧ c ≤ maxLen ∧
    (0 < l.length → ∃ b off, A = some ⟨b, off, none⟩ ∧ b < B ∧ ∀ i (hi : i < l.length), ∃ u, w.cell? ⟨b, off + i, none⟩ = some u ∧ Sl w B u l[i])

theorem Sls.below {w w' : World} {B : Nat} {v : Value} {l : List (List UInt8)} (h : Sls w B v l) (hb : Below B w w') : Sls w' B v l := by
  obtain ⟨A, c, h1, h2, h3, h4⟩ := h
  refine ⟨A, c, h1, h2, h3, fun h0 => ?_⟩
  obtain ⟨b, off, e, hB, hc⟩ := h4 h0
  refine ⟨b, off, e, hB, fun i hi => ?_⟩
  obtain ⟨u, q1, q2⟩ := hc i hi
  exact ⟨u, (hb.cell (p := ⟨b, off + i, none⟩) hB).trans q1, q2.below hb⟩

theorem Sls.more {w : World} {B B' : Nat} {v : Value} {l : List (List UInt8)} (h : Sls w B v l) (hB : B ≤ B') : Sls w B' v l := by
  obtain ⟨A, c, h1, h2, h3, h4⟩ := h
  refine ⟨A, c, h1, h2, h3, fun h0 => ?_⟩
  obtain ⟨b, off, e, hB', hc⟩ := h4 h0
  refine ⟨b, off, e, Nat.lt_of_lt_of_le hB' hB, fun i hi => ?_⟩
  obtain ⟨u, q1, q2⟩ := hc i hi
  exact ⟨u, q1, q2.more hB⟩

theorem Sls.nil (w : World) (B : Nat) : Sls w B (.slice none 0 0) [] := ⟨none, 0, rfl, by simp, by simp, fun h => by simp at h⟩

/-- A slice of slices that was laid out a moment ago. -/
theorem Sls.new {w : World} {B : Nat} (xs : List Value) (l : List (List UInt8)) (hl : xs.length = l.length) (hm : l.length ≤ maxLen) (h : ∀ i (hi : i < l.length) (hx : i < xs.length), Sl w B xs[i] l[i])
    (hB : B ≤ w.heap.size) (n : Nat) (hn : n = l.length) (T : TypeId) (X : Array Value) (hX : X = xs.toArray) :
    Sls (w.alloc (.cells X T)) (w.heap.size + 1) (.slice (some ⟨w.heap.size, 0, none⟩) n n) l := by
  subst hn hX
  refine ⟨_, _, rfl, Nat.le_refl _, hm, fun _ => ⟨w.heap.size, 0, rfl, by omega, fun i hi => ?_⟩⟩
  have hx : i < xs.length := by omega
  refine ⟨xs[i], ?_, ((h i hi hx).below ((Below.refl _ _).alloc hB _)).more (by omega)⟩
  have := cell_of_row (w.alloc (.cells xs.toArray T)) w.heap.size i xs.toArray T (0, 0) (heap_alloc_new w _)
  rw [Nat.zero_add, this]
  simp [hx]

/-- append of bytes, for the walk: the source whatever slice of bytes. -/
theorem wp_append_sl {w : World} {ops : Array Oper} {rest : List Oper} {o : Oper} {a : Act} {Q : Exit → Act → World → Prop} (hgd : o.guard = none) (s x : Operand)
    (hop : o.op = .call { callee := .builtin .append, args := #[s, x], argTypes := #[22, 22] })
    (B : Nat) (v : Value) (bs : List UInt8) (hs : a.eval s = v) (ho : Own w B v bs) (hB : B ≤ w.heap.size) (y : Value) (B' : Nat) (ns : List UInt8) (hx : a.eval x = y) (hy : Sl w B' y ns)
    (hm : bs.length + ns.length ≤ 140737488355328)
    (hK : ∀ v' w', Own w' B v' (bs ++ ns) → Below B w w' → wpList Tryd.prog ops Q rest (a.put o.dst v') w') : wpList Tryd.prog ops Q (o :: rest) a w := by
  refine wpList_plain hgd fun K hK' => ?_
  obtain ⟨v', w', hrun, r1, r2⟩ := run_append_sl w B v bs ho hB y B' ns hy hm o.type
  unfold Oper.wp
  simp [execOp, hop, resolve, invoke, builtin, hs, hx, hrun, Result.andThen]
  exact hK' _ _ (hK v' w' r1 r2)

theorem own_new (w : World) (B : Nat) (hB : B ≤ w.heap.size) : Own (w.alloc (.cells #[] 5)) B (.slice (some ⟨w.heap.size, 0, none⟩) 0 0) [] :=
  World.ownsRow_made (base := B) (e := 5) (size := 1) w #[] 0 hB (by simp) rfl

/-- A row of the call's own that has bytes: its block, known whole. -/
theorem own_block {w : World} {B : Nat} {v : Value} {bs : List UInt8} (h : Own w B v bs) (h0 : 0 < bs.length) :
    ∃ (g cap : Nat) (cur : Array Value), v = .slice (some ⟨g, 0, none⟩) bs.length cap ∧ B ≤ g ∧ g < w.heap.size ∧ w.heap[g]? = some (.cells cur 5 (0, 0)) ∧ bs.length ≤ cap ∧ cap ≤ maxLen ∧ ∀ (j : Nat) (u : Value), (vb bs)[j]? = some u → cur[j]? = some u := by
  have hlt := h.lt
  rcases h.2 with ⟨_, h1⟩ | ⟨g, cap, cur, rfl, hb, hh, hn, hm, hc, ht⟩
  · omega
  · refine ⟨g, cap, cur, rfl, hb, (hlt g rfl).2, hh, hn, hm, fun j u hu => ?_⟩
    have hj := (List.getElem?_eq_some_iff.1 hu).1
    rw [vb_length] at hj
    rw [← ht] at hu
    rw [List.getElem?_take, if_pos (by omega)] at hu
    simpa using hu

theorem own_far {w w' : World} {B g : Nat} {v : Value} {bs : List UInt8} (h : Own w B v bs) (hg : w.grownBy w' (some g)) (hlt0 : g < B) : Own w' B v bs := by
  have hlt := h.lt
  refine ⟨h.1, ?_⟩
  rcases h.2 with h2 | ⟨g', cap, cur, rfl, hb, hh, r⟩
  · exact .inl h2
  · exact .inr ⟨g', cap, cur, rfl, hb, (hg.block g' (hlt g' rfl).2 (fun e => by injection e with e; omega)).trans hh, r⟩

/-- A byte of a row of the call's own is written over. -/
theorem Own.stored {w : World} {B g n cap : Nat} {bs : List UInt8} (h : Own w B (.slice (some ⟨g, 0, none⟩) n cap) bs) (k : Nat) (c : UInt8) :
    Own (w.setCell ⟨g, k, none⟩ (.int .u8 c.toNat)) B (.slice (some ⟨g, 0, none⟩) n cap) (bs.set k c) := by
  have hn : n = bs.length := by
    rcases h.2 with ⟨h1, _⟩ | ⟨g', cap', cur, h1, _⟩
    · cases h1
    · injection h1
  subst hn
  have h2 := (World.ownsRow.stored h k (.int .u8 c.toNat)).1
  unfold Own
  rw [List.length_set]
  have e : vb (bs.set k c) = (vb bs).set k (.int .u8 c.toNat) := by simp [vb, List.map_set]
  rw [e]
  exact h2

theorem byte_of (a : Int) (h0 : 0 ≤ a) (h1 : a ≤ 255) : ∃ c : UInt8, a = (c.toNat : Int) :=
  ⟨UInt8.ofNat a.toNat, by rw [UInt8.toNat_ofNat']; omega⟩

theorem weightsAll_mem {H : Type} {P : Program} {e : TypeId} {d : DataW H} {l : List (DataW H)} (hd : d ∈ l) {n : Nat} (hn : n ∈ d.weights P e) : n ∈ DataW.weightsAll P e l := by
  induction l with
  | nil => cases hd
  | cons x r ih =>
    simp only [DataW.weightsAll, List.mem_append]
    rcases List.mem_cons.1 hd with rfl | h
    · exact .inl hn
    · exact .inr (ih h)

theorem cells_u8 : Tryd.prog.bytesOf 5 = 1 := by kernel_rfl
theorem cells_sl : Tryd.prog.cellsOf 22 = 1 := by kernel_rfl

/-- Cells that are read as a slice of bytes. -/
theorem sl_of_cells {H : Type} {enc : TypeId × Value → H} {w : World} {fuel : Nat} {cs : List Value} {x : DataW H × List MemPlace} (hf : DataW.trod enc Tryd.prog w 0 (fun _ => true) true fuel 22 cs = some x) :
    ∃ A n c bs, cs = [.slice A n c] ∧ Sl w w.heap.size (.slice A n c) bs ∧ ((∀ m ∈ x.1.weights Tryd.prog 22, m ≤ reachBytes) → bs.length ≤ 140737488351232) := by
  rcases open_ints Tryd.underlying22 Tryd.underlying5 (by kernel_rfl) hf with ⟨rfl, _⟩ | ⟨a, n0, c0, zs, rfl, _, hl, hm, hz, hx, hcell, hwz⟩
  · exact ⟨none, 0, 0, [], rfl, Sl.nil _ _, fun _ => by simp⟩
  · have hzl : zs.length = c0 := by simpa using hz
    have hlen : ((zs.take n0).map fun z => UInt8.ofNat z.toNat).length = n0 := by rw [List.length_map, List.length_take]; omega
    have hcells : ∀ j u, (vb ((zs.take n0).map fun z => UInt8.ofNat z.toNat))[j]? = some u → w.cell? (a.add j) = some u := by
      intro j u hu
      have hj := (List.getElem?_eq_some_iff.1 hu).1
      rw [vb_length, hlen] at hj
      have hjz : j < zs.length := by omega
      have hr := range_u8 hwz j
      rw [hcell j hjz]
      rw [← hu]
      simp only [vb, List.map_map, List.getElem?_map, List.getElem?_take, if_pos hj, List.getElem?_eq_getElem hjz, Option.map_some, Function.comp]
      rw [List.getElem?_eq_getElem hjz] at hr
      simp only [Option.getD_some] at hr
      congr 2
      rw [List.getD_eq_getElem?_getD, List.getElem?_eq_getElem hjz, Option.getD_some, UInt8.toNat_ofNat']
      omega
    refine ⟨some a, n0, c0, (zs.take n0).map fun z => UInt8.ofNat z.toNat, rfl, ⟨some a, c0, by rw [hlen], by rw [hlen]; exact hl, hm, (fun h => by cases h), ?_, ?_⟩, fun hw => ?_⟩
    · intro ad e h0
      injection e with e
      subst e
      rw [hlen] at h0
      have := World.block_lt_of_cell? w _ (hcell 0 (by omega))
      rwa [block_of_add] at this
    · intro ad e
      injection e with e
      subst e
      exact hcells
    · have h2 := hw ((lits .u8 (zs.take n0)).length + (lits .u8 (zs.drop n0)).length) (by
        rw [hx]
        simp only [DataW.weights, Tryd.underlying22, cells_u8, Nat.mul_one]
        exact List.mem_cons_self)
      simp only [lits, List.length_map, List.length_take, List.length_drop, reachBytes] at h2
      rw [hlen]
      omega

theorem sl_of_trod {H : Type} {enc : TypeId × Value → H} {w : World} {v : Value} {d : DataW H} {ps : List MemPlace} (hv : ∃ A n c, v = .slice A n c)
    (h : DataW.Trod enc Tryd.prog w 0 (fun _ => true) true 22 v d ps) : ∃ bs, Sl w w.heap.size v bs := by
  obtain ⟨A0, n0, c0, rfl⟩ := hv
  obtain ⟨fuel, hf⟩ := h
  obtain ⟨A, n, c, bs, e, h1, _⟩ := sl_of_cells hf
  simp [Value.cells] at e
  obtain ⟨rfl, rfl, rfl⟩ := e
  exact ⟨bs, h1⟩

instance : Inhabited (List UInt8) := ⟨[]⟩
theorem sls_of_trod {H : Type} {enc : TypeId × Value → H} {w : World} {v : Value} {d : DataW H} {ps : List MemPlace} (hv : ∃ A n c, v = .slice A n c)
    (h : DataW.Trod enc Tryd.prog w 0 (fun _ => true) true 71 v d ps) (hw : ∀ n ∈ d.weights Tryd.prog 71, n ≤ reachBytes) :
    ∃ l, Sls w w.heap.size v l ∧ ∀ p ∈ l, p.length ≤ 140737488351232 := by
  obtain ⟨A0, n0, c0, rfl⟩ := hv
  obtain ⟨fuel, hf⟩ := h
  rcases open_slice Tryd.underlying71 hf with ⟨hcs, _⟩ | ⟨a, len, cap, m, n, D, Pl, hcs, _, hl, hm, hmm, hx, hi⟩
  · simp [Value.cells] at hcs
    obtain ⟨rfl, rfl, rfl⟩ := hcs
    exact ⟨[], Sls.nil _ _, by simp⟩
  · simp [Value.cells] at hcs
    obtain ⟨rfl, rfl, rfl⟩ := hcs
    have hone : ∀ i, i < n0 → ∃ bs : List UInt8, ∃ u, w.cell? (a.add i) = some u ∧ Sl w w.heap.size u bs ∧ ((∀ m ∈ (D i).weights Tryd.prog 22, m ≤ reachBytes) → bs.length ≤ 140737488351232) := by
      intro i hin
      obtain ⟨cs', hcc, htt⟩ := hi i (by rw [hmm]; simp; omega)
      rw [cells_sl, Nat.mul_one] at hcc
      obtain ⟨A, n1, c1, bs, rfl, h1, h2⟩ := sl_of_cells htt
      obtain ⟨_, _, hat⟩ := World.cells?_some hcc
      have := hat 0 (by omega)
      refine ⟨bs, _, ?_, h1, h2⟩
      rw [Go.Deep.add_add, Nat.add_zero] at this
      exact this
    obtain ⟨f, hf⟩ := choose_lt hone
    have hlen : ((List.range n0).map f).length = n0 := by simp
    refine ⟨(List.range n0).map f, ⟨some a, c0, by rw [hlen], by rw [hlen]; exact hl, hm, fun hp => ?_⟩, ?_⟩
    · rw [hlen] at hp
      obtain ⟨b, off, spot⟩ := a
      obtain ⟨u0, hc, _⟩ := hf 0 hp
      have hspot : spot = none := by simpa [Addr.add] using World.cell?_spot hc
      subst hspot
      refine ⟨b, off, rfl, ?_, ?_⟩
      · have := World.block_lt_of_cell? w _ hc
        rwa [block_of_add] at this
      · intro i hi2
        rw [hlen] at hi2
        obtain ⟨u, q1, q2, _⟩ := hf i hi2
        rw [Addr.add_lit] at q1
        refine ⟨u, q1, ?_⟩
        simpa using q2
    · intro p hp
      obtain ⟨i, hi2, rfl⟩ := List.mem_map.1 hp
      have hlt := List.mem_range.1 hi2
      obtain ⟨u, _, _, q3⟩ := hf i hlt
      refine q3 fun m' hm' => hw m' ?_
      have hd : d = .slice ((List.range n0).map D) ((List.range (m - n0)).map fun j => D (n0 + j)) := by
        simp only [Prod.mk.injEq] at hx
        exact hx.1
      rw [hd]
      simp only [DataW.weights, Tryd.underlying71]
      exact List.mem_cons_of_mem _ (List.mem_append_left _ (weightsAll_mem (d := D i) (List.mem_map.2 ⟨i, hi2, rfl⟩) hm'))

end Go.Proofs.YtflgokbkkoobkaaDoor.Cd
