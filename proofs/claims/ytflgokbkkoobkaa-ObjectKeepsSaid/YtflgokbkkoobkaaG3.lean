/-
  A region that draws its order, walked by an invariant: each operation once, whatever has come up before it. Conditions: none.
-/
import Derived.Test.YtflgokbkkoobkaaG2
import Derived.Deep.Slices
import Derived.Deep.Fields
import Derived.Deep.RegionLaw
import Derived.RegionTactic
import Derived.BigRegion
import Derived.OpenShut
import Derived.ChangeSame
import Derived.LoopTactic
import Derived.Laws.Rows
import Derived.SizedLaws
import Derived.Lib.SlBytesConst
import Derived.Orders
/-
  What every seat's texts lean on: what a call gives, slices of bytes that grow, the reading of an argument of bytes. Conditions: none.
-/
namespace Go.Proofs.Ytflgokbkkoobkaa.Cd
open Go.RowKit Go.ChangeShapes Go.WideShapes Go.Deep

/-- What a call leaves that answers one value and writes to nothing that was there. -/
def Gives (v : Value) (w : World) (e : Ending) (w' : World) : Prop := e = .returned v ∧ Below w.heap.size w w'

theorem below_of_grown {w0 w w' : World} {g B : Nat} (h : Below B w0 w) (hg : w.grownBy w' (some g)) (hB : B ≤ w.heap.size) (hr : B ≤ g) : Below B w0 w' :=
  h.grown hg hB (fun k hk => by injection hk with hk; omega)

theorem below_drewN {B : Nat} {a w : World} (h : Below B a w) (n : Nat) : Below B a (w.drewN n) := ⟨h.os, h.tape, h.output, h.size, h.block⟩

theorem asz (w : World) (o : Obj) : (w.alloc o).heap.size = w.heap.size + 1 := by simp

theorem sl_mark (w : World) (cs : List UInt8) (xs : Array Value) (hx : xs = (vb cs).toArray) (hm : cs.length ≤ maxLen) (n : Nat) (hn : n = cs.length) (fr : Nat × Nat) :
    Sl (w.alloc (.cells xs 5 fr)) (w.heap.size + 1) (.slice (some ⟨w.heap.size, 0, none⟩) n n) cs := by
  subst hx hn
  refine ⟨_, cs.length, rfl, Nat.le_refl _, hm, (fun h => by cases h), (fun ad e _ => by injection e with e; subst e; simp), fun ad e j u hu => ?_⟩
  injection e with e
  subst e
  rw [Addr.add_lit, Nat.zero_add]
  have := cell_of_row (w.alloc (.cells (vb cs).toArray 5 fr)) w.heap.size j (vb cs).toArray 5 fr (heap_alloc_new w _)
  rw [this]
  simpa using hu

theorem sl_new (w : World) (cs : List UInt8) (xs : Array Value) (hx : xs = (vb cs).toArray) (hm : cs.length ≤ maxLen) (n : Nat) (hn : n = cs.length) :
    Sl (w.alloc (.cells xs 5)) (w.heap.size + 1) (.slice (some ⟨w.heap.size, 0, none⟩) n n) cs := sl_mark w cs xs hx hm n hn (0, 0)

/-- []byte of a constant, for the walk. -/
theorem bytes_const (w : World) (C : Array Value) (n c : Nat) : (convert 35 35 (.slice (some ⟨w.heap.size, 0, none⟩) n c)).run Try.prog (w.alloc (.cells C 5)) = .ok (.slice (some ⟨w.heap.size, 0, none⟩) n c) (w.alloc (.cells C 5 (C.size, C.size + 1))) :=
  Lib.run_convert_bytes_const (P := Try.prog) w 35 5 C n c Try.underlying35 Try.underlying5

/-- A row of the call's own that has a first byte. -/
theorem Own.open {w : World} {B : Nat} {v : Value} {c : UInt8} {r : List UInt8} (h : Own w B v (c :: r)) :
    ∃ g cap, v = .slice (some ⟨g, 0, none⟩) (r.length + 1) cap ∧ r.length + 1 ≤ cap ∧ cap ≤ maxLen ∧ g < w.heap.size ∧ ∀ j u, (vb (c :: r))[j]? = some u → w.cell? ⟨g, j, none⟩ = some u := by
  obtain ⟨g, cap, hv, hlt⟩ : ∃ g cap, v = .slice (some ⟨g, 0, none⟩) (r.length + 1) cap ∧ g < w.heap.size := by
    have hlt := h.lt
    rcases h.2 with ⟨_, h0⟩ | ⟨g, cap, cur, rfl, _⟩
    · simp at h0
    · exact ⟨g, cap, by simp, (hlt g rfl).2⟩
  have hc := World.ownsRow.cells h (g := g) (by rw [hv]; rfl)
  have hs := h.sl
  obtain ⟨A, c', e, h2, h3, _⟩ := hs
  rw [hv] at e
  injection e with e1 e2 e3
  subst e3
  exact ⟨g, cap, hv, h2, h3, hlt, fun j u hu => by have := hc j u hu; rwa [Addr.add_lit, Nat.zero_add] at this⟩

/-- string(x[1:]). -/
theorem run_text_tail (w : World) (g cap : Nat) (c : UInt8) (r : List UInt8) (hcap : r.length + 1 ≤ cap) (hc : ∀ j u, (vb (c :: r))[j]? = some u → w.cell? ⟨g, j, none⟩ = some u) :
    (convert 35 9 (.slice (if cap = 1 then some ⟨g, 0, none⟩ else some ⟨g, 1, none⟩) r.length (cap - 1))).run Try.prog w = .ok (.string ⟨r.toArray⟩) w := by
  by_cases h : cap = 1
  · have hr : r = [] := List.eq_nil_of_length_eq_zero (by omega)
    subst hr
    rw [if_pos h]
    exact run_convert_bytes_back w 35 9 5 ⟨g, 0, none⟩ _ [] Try.underlying35 Try.underlying5 Try.underlying9 fun j hj => by simp at hj
  · rw [if_neg h]
    refine run_convert_bytes_back w 35 9 5 ⟨g, 1, none⟩ _ r Try.underlying35 Try.underlying5 Try.underlying9 fun j hj => ?_
    rw [Addr.add_lit, Nat.add_comm]
    refine hc (j + 1) _ ?_
    simp [vb, hj]

theorem Own.alloc {w : World} {B : Nat} {v : Value} {bs : List UInt8} (h : Own w B v bs) (o : Obj) : Own (w.alloc o) B v bs := World.ownsRow.alloc h o
theorem Own.drew {w : World} {B : Nat} {v : Value} {bs : List UInt8} (h : Own w B v bs) : Own w.drew B v bs := h

theorem Own.keep {w w' : World} {B : Nat} {v : Value} {bs : List UInt8} (h : Own w B v bs) (hb : Below w.heap.size w w') : Own w' B v bs := by
  have hlt := h.lt
  refine ⟨h.1, ?_⟩
  rcases h.2 with h2 | ⟨g, cap, cur, rfl, hg, hh, r⟩
  · exact .inl h2
  · exact .inr ⟨g, cap, cur, rfl, hg, (hb.block g (hlt g rfl).2).trans hh, r⟩

theorem hO_sl {w : World} {B : Nat} {v : Value} {bs : List UInt8} (h : Own w B v bs) (o : Obj) : Sl (w.alloc o) (w.heap.size + 1) v bs := by
  have h2 := (h.alloc o).sl
  rwa [show (w.alloc o).heap.size = w.heap.size + 1 by simp] at h2

/-- append(own, b...), b whatever slice of bytes. -/
theorem run_append_sl (w : World) (B : Nat) (v : Value) (bs : List UInt8) (ho : Own w B v bs) (hB : B ≤ w.heap.size) (x : Value) (B' : Nat) (ns : List UInt8) (hx : Sl w B' x ns)
    (hm : bs.length + ns.length ≤ 140737488355328) (ty : TypeId) :
    ∃ v' w', (Builtin.append_ #[35, 35] ty #[v, x]).run Try.prog w = .ok v' w' ∧ Own w' B v' (bs ++ ns) ∧ Below B w w' := by
  obtain ⟨i0, hi, hz0, hz1, hz2⟩ := info_parts info5
  have hmax : bs.length + ns.length ≤ maxLen := by simp only [maxLen]; omega
  obtain ⟨A, c, rfl, _, _, h4, _, h6⟩ := hx
  cases A with
  | some ad =>
    obtain ⟨v', w', hr, h2, h3, _⟩ := run_append_own (P := Try.prog) w B 35 ty 5 i0 _ 1 1 Try.underlying35 hi hz0 hz1 hz2 rfl (by omega) v bs.length (vb bs) ho ad ns.length c (vb ns) (by simp [vb]) (h6 ad rfl) (vb_one ns) hmax (by omega) hB
    refine ⟨v', w', hr, ?_, (Below.refl _ _).grown h3 hB (fun k hk => (ho.lt k hk).1)⟩
    unfold Own
    rw [vb_append, List.length_append]
    exact h2
  | none =>
    have hc := h4 rfl
    subst hc
    have : ns = [] := List.eq_nil_of_length_eq_zero (by omega)
    subst this
    refine ⟨v, w, ?_, by simpa using ho, Below.refl _ _⟩
    rcases ho.2 with ⟨rfl, h0⟩ | ⟨g, cap, cur, rfl, _, _, hnc, _⟩
    · simp [Builtin.append_, run_underlying Try.underlying35, sizeOf, typeInfo, hi, Builtin.lenOf, Builtin.firstCells]
    · simp [Builtin.append_, run_underlying Try.underlying35, sizeOf, typeInfo, hi, Builtin.lenOf, Builtin.firstCells, hnc, storeCells]

theorem step_append_sl {w : World} {ops : Array Oper} {o : Oper} {a : Act} {K : Act → World → Prop} {Q : Exit → Act → World → Prop} {E : Prop} (hgd : o.guard = none) (s x : Operand)
    (hop : o.op = .call { callee := .builtin .append, args := #[s, x], argTypes := #[35, 35] })
    (B : Nat) (v : Value) (bs : List UInt8) (hs : a.eval s = v) (ho : Own w B v bs) (hB : B ≤ w.heap.size) (y : Value) (B' : Nat) (ns : List UInt8) (hx : a.eval x = y) (hy : Sl w B' y ns)
    (hm : bs.length + ns.length ≤ 140737488355328)
    (h : ∀ v' w', Own w' B v' (bs ++ ns) → Below B w w' → K (a.put o.dst v') w') : if Region.wanted o (yielded ops a.tmps) = true then Oper.wp Try.prog o a w K Q else E := by
  have hw : Region.wanted o (yielded ops a.tmps) = true := by simp [Region.wanted, hgd]
  rw [if_pos hw]
  obtain ⟨v', w', hrun, r1, r2⟩ := run_append_sl w B v bs ho hB y B' ns hy hm o.type
  unfold Oper.wp
  simp [execOp, hop, resolve, invoke, builtin, hs, hx, hrun, Result.andThen]
  exact h v' w' r1 r2

theorem step_append_text {w : World} {ops : Array Oper} {o : Oper} {a : Act} {K : Act → World → Prop} {Q : Exit → Act → World → Prop} {E : Prop} (hgd : o.guard = none) (s x : Operand)
    (hop : o.op = .call { callee := .builtin .append, args := #[s, x], argTypes := #[35, 9] })
    (B : Nat) (v : Value) (bs : List UInt8) (hs : a.eval s = v) (ho : Own w B v bs) (hB : B ≤ w.heap.size) (t : List UInt8) (hx : a.eval x = .string ⟨t.toArray⟩)
    (hm : bs.length + t.length ≤ 140737488355328)
    (h : ∀ v' w', Own w' B v' (bs ++ t) → Below B w w' → K (a.put o.dst v') w') : if Region.wanted o (yielded ops a.tmps) = true then Oper.wp Try.prog o a w K Q else E := by
  have hw : Region.wanted o (yielded ops a.tmps) = true := by simp [Region.wanted, hgd]
  rw [if_pos hw]
  obtain ⟨i0, hi, hz0, hz1, hz2⟩ := info_parts info5
  have hmax : bs.length + t.length ≤ maxLen := by simp only [maxLen]; omega
  obtain ⟨v', w', hrun, r1, r2⟩ := Lib.run_append_own_string (P := Try.prog) w B 35 9 o.type 5 i0 Try.underlying35 Try.underlying9 hi hz0 hz1 hz2 v bs.length (vb bs) ho ⟨t.toArray⟩ hmax (by have : (ByteArray.mk t.toArray).size = t.length := rfl; omega) hB
  unfold Oper.wp
  simp [execOp, hop, resolve, invoke, builtin, hs, hx, hrun, Result.andThen]
  refine h v' w' ?_ ((Below.refl _ _).grown r2.1 hB (fun k hk => (ho.lt k hk).1))
  unfold Own
  rw [vb_append, List.length_append]
  exact r1

theorem own_empty (wr : World) (o : Obj) (B : Nat) (hB : B ≤ wr.heap.size + 1) : Own (((wr.alloc o).alloc (.cells #[] 5)).drew) B (.slice (some ⟨wr.heap.size + 1, 0, none⟩) 0 0) [] := by
  have h := World.ownsRow_made (base := B) (e := 5) (size := 1) (wr.alloc o) #[] 0 (by simp; omega) (by simp) rfl
  rw [show (wr.alloc o).heap.size = wr.heap.size + 1 by simp] at h
  exact h

/-- A slice that has bytes: where they lie. -/
theorem Sl.at {w : World} {B : Nat} {v : Value} {bs : List UInt8} (h : Sl w B v bs) (h0 : 0 < bs.length) :
    ∃ b off c, v = .slice (some ⟨b, off, none⟩) bs.length c ∧ bs.length ≤ c ∧ c ≤ maxLen ∧ b < B ∧ ∀ j (hj : j < bs.length), w.cell? ⟨b, off + j, none⟩ = some (.int .u8 (bs[j]).toNat) := by
  obtain ⟨A, c, rfl, h2, h3, h4, h5, h6⟩ := h
  cases A with
  | none => have := h4 rfl; omega
  | some a =>
    obtain ⟨b, off, spot⟩ := a
    have hc := h6 _ rfl 0 _ (vb_at bs 0 h0)
    have hspot : spot = none := by simpa [Addr.add] using World.cell?_spot hc
    subst hspot
    refine ⟨b, off, c, rfl, h2, h3, h5 _ rfl h0, fun j hj => ?_⟩
    have := h6 _ rfl j _ (vb_at bs j hj)
    rwa [Addr.add_lit] at this

theorem Sl.len {w : World} {B : Nat} {v : Value} {bs : List UInt8} (h : Sl w B v bs) : ∃ A c, v = .slice A bs.length c ∧ bs.length ≤ c ∧ c ≤ maxLen := by
  obtain ⟨A, c, rfl, h2, h3, _⟩ := h
  exact ⟨A, c, rfl, h2, h3⟩

/-- A slice of byte slices. -/
def Sls (w : World) (B : Nat) (v : Value) (l : List (List UInt8)) : Prop :=
  ∃ A c, v = .slice A l.length c ∧ l.length ≤ c ∧ c ≤ maxLen ∧
    (0 < l.length → ∃ b off, A = some ⟨b, off, none⟩ ∧ b < B ∧ ∀ i (hi : i < l.length), ∃ u, w.cell? ⟨b, off + i, none⟩ = some u ∧ Sl w B u l[i])

theorem Sls.below {w w' : World} {B : Nat} {v : Value} {l : List (List UInt8)} (h : Sls w B v l) (hb : Below B w w') : Sls w' B v l := by
  obtain ⟨A, c, h1, h2, h3, h4⟩ := h
  refine ⟨A, c, h1, h2, h3, fun h0 => ?_⟩
  obtain ⟨b, off, e, hB, hc⟩ := h4 h0
  refine ⟨b, off, e, hB, fun i hi => ?_⟩
  obtain ⟨u, q1, q2⟩ := hc i hi
  exact ⟨u, (hb.cell (p := ⟨b, off + i, none⟩) hB).trans q1, q2.below hb⟩

theorem Sls.more {w : World} {B B' : Nat} {v : Value} {l : List (List UInt8)} (h : Sls w B v l) (hB : B ≤ B') : Sls w B' v l := by
  obtain ⟨A, c, h1, h2, h3, h4⟩ := h
  refine ⟨A, c, h1, h2, h3, fun h0 => ?_⟩
  obtain ⟨b, off, e, hB', hc⟩ := h4 h0
  refine ⟨b, off, e, Nat.lt_of_lt_of_le hB' hB, fun i hi => ?_⟩
  obtain ⟨u, q1, q2⟩ := hc i hi
  exact ⟨u, q1, q2.more hB⟩

theorem Sls.nil (w : World) (B : Nat) : Sls w B (.slice none 0 0) [] := ⟨none, 0, rfl, by simp, by simp, fun h => by simp at h⟩

/-- A slice of slices that was laid out a moment ago. -/
theorem Sls.new {w : World} {B : Nat} (xs : List Value) (l : List (List UInt8)) (hl : xs.length = l.length) (hm : l.length ≤ maxLen) (h : ∀ i (hi : i < l.length) (hx : i < xs.length), Sl w B xs[i] l[i])
    (hB : B ≤ w.heap.size) (n : Nat) (hn : n = l.length) (T : TypeId) (X : Array Value) (hX : X = xs.toArray) :
    Sls (w.alloc (.cells X T)) (w.heap.size + 1) (.slice (some ⟨w.heap.size, 0, none⟩) n n) l := by
  subst hn hX
  refine ⟨_, _, rfl, Nat.le_refl _, hm, fun _ => ⟨w.heap.size, 0, rfl, by omega, fun i hi => ?_⟩⟩
  have hx : i < xs.length := by omega
  refine ⟨xs[i], ?_, ((h i hi hx).below ((Below.refl _ _).alloc hB _)).more (by omega)⟩
  have := cell_of_row (w.alloc (.cells xs.toArray T)) w.heap.size i xs.toArray T (0, 0) (heap_alloc_new w _)
  rw [Nat.zero_add, this]
  simp [hx]

/-- append of bytes, for the walk: the source whatever slice of bytes. -/
theorem wp_append_sl {w : World} {ops : Array Oper} {rest : List Oper} {o : Oper} {a : Act} {Q : Exit → Act → World → Prop} (hgd : o.guard = none) (s x : Operand)
    (hop : o.op = .call { callee := .builtin .append, args := #[s, x], argTypes := #[35, 35] })
    (B : Nat) (v : Value) (bs : List UInt8) (hs : a.eval s = v) (ho : Own w B v bs) (hB : B ≤ w.heap.size) (y : Value) (B' : Nat) (ns : List UInt8) (hx : a.eval x = y) (hy : Sl w B' y ns)
    (hm : bs.length + ns.length ≤ 140737488355328)
    (hK : ∀ v' w', Own w' B v' (bs ++ ns) → Below B w w' → wpList Try.prog ops Q rest (a.put o.dst v') w') : wpList Try.prog ops Q (o :: rest) a w := by
  refine wpList_plain hgd fun K hK' => ?_
  obtain ⟨v', w', hrun, r1, r2⟩ := run_append_sl w B v bs ho hB y B' ns hy hm o.type
  unfold Oper.wp
  simp [execOp, hop, resolve, invoke, builtin, hs, hx, hrun, Result.andThen]
  exact hK' _ _ (hK v' w' r1 r2)

theorem own_new (w : World) (B : Nat) (hB : B ≤ w.heap.size) : Own (w.alloc (.cells #[] 5)) B (.slice (some ⟨w.heap.size, 0, none⟩) 0 0) [] :=
  World.ownsRow_made (base := B) (e := 5) (size := 1) w #[] 0 hB (by simp) rfl

/-- A row of the call's own that has bytes: its block, known whole. -/
theorem own_block {w : World} {B : Nat} {v : Value} {bs : List UInt8} (h : Own w B v bs) (h0 : 0 < bs.length) :
    ∃ (g cap : Nat) (cur : Array Value), v = .slice (some ⟨g, 0, none⟩) bs.length cap ∧ B ≤ g ∧ g < w.heap.size ∧ w.heap[g]? = some (.cells cur 5 (0, 0)) ∧ bs.length ≤ cap ∧ cap ≤ maxLen ∧ ∀ (j : Nat) (u : Value), (vb bs)[j]? = some u → cur[j]? = some u := by
  have hlt := h.lt
  rcases h.2 with ⟨_, h1⟩ | ⟨g, cap, cur, rfl, hb, hh, hn, hm, hc, ht⟩
  · omega
  · refine ⟨g, cap, cur, rfl, hb, (hlt g rfl).2, hh, hn, hm, fun j u hu => ?_⟩
    have hj := (List.getElem?_eq_some_iff.1 hu).1
    rw [vb_length] at hj
    rw [← ht] at hu
    rw [List.getElem?_take, if_pos (by omega)] at hu
    simpa using hu

theorem own_far {w w' : World} {B g : Nat} {v : Value} {bs : List UInt8} (h : Own w B v bs) (hg : w.grownBy w' (some g)) (hlt0 : g < B) : Own w' B v bs := by
  have hlt := h.lt
  refine ⟨h.1, ?_⟩
  rcases h.2 with h2 | ⟨g', cap, cur, rfl, hb, hh, r⟩
  · exact .inl h2
  · exact .inr ⟨g', cap, cur, rfl, hb, (hg.block g' (hlt g' rfl).2 (fun e => by injection e with e; omega)).trans hh, r⟩

/-- A byte of a row of the call's own is written over. -/
theorem Own.stored {w : World} {B g n cap : Nat} {bs : List UInt8} (h : Own w B (.slice (some ⟨g, 0, none⟩) n cap) bs) (k : Nat) (c : UInt8) :
    Own (w.setCell ⟨g, k, none⟩ (.int .u8 c.toNat)) B (.slice (some ⟨g, 0, none⟩) n cap) (bs.set k c) := by
  have hn : n = bs.length := by
    rcases h.2 with ⟨h1, _⟩ | ⟨g', cap', cur, h1, _⟩
    · cases h1
    · injection h1
  subst hn
  have h2 := (World.ownsRow.stored h k (.int .u8 c.toNat)).1
  unfold Own
  rw [List.length_set]
  have e : vb (bs.set k c) = (vb bs).set k (.int .u8 c.toNat) := by simp [vb, List.map_set]
  rw [e]
  exact h2

theorem byte_of (a : Int) (h0 : 0 ≤ a) (h1 : a ≤ 255) : ∃ c : UInt8, a = (c.toNat : Int) :=
  ⟨UInt8.ofNat a.toNat, by rw [UInt8.toNat_ofNat']; omega⟩

theorem weightsAll_mem {H : Type} {P : Program} {e : TypeId} {d : DataW H} {l : List (DataW H)} (hd : d ∈ l) {n : Nat} (hn : n ∈ d.weights P e) : n ∈ DataW.weightsAll P e l := by
  induction l with
  | nil => cases hd
  | cons x r ih =>
    simp only [DataW.weightsAll, List.mem_append]
    rcases List.mem_cons.1 hd with rfl | h
    · exact .inl hn
    · exact .inr (ih h)

theorem cells_u8 : Try.prog.bytesOf 5 = 1 := by kernel_rfl
theorem cells_sl : Try.prog.cellsOf 35 = 1 := by kernel_rfl

/-- Cells that are read as a slice of bytes. -/
theorem sl_of_cells {H : Type} {enc : TypeId × Value → H} {w : World} {fuel : Nat} {cs : List Value} {x : DataW H × List MemPlace} (hf : DataW.trod enc Try.prog w 0 (fun _ => true) true fuel 35 cs = some x) :
    ∃ A n c bs, cs = [.slice A n c] ∧ Sl w w.heap.size (.slice A n c) bs ∧ ((∀ m ∈ x.1.weights Try.prog 35, m ≤ reachBytes) → bs.length ≤ 140737488351232) := by
  rcases open_ints Try.underlying35 Try.underlying5 (by kernel_rfl) hf with ⟨rfl, _⟩ | ⟨a, n0, c0, zs, rfl, _, hl, hm, hz, hx, hcell, hwz⟩
  · exact ⟨none, 0, 0, [], rfl, Sl.nil _ _, fun _ => by simp⟩
  · have hzl : zs.length = c0 := by simpa using hz
    have hlen : ((zs.take n0).map fun z => UInt8.ofNat z.toNat).length = n0 := by rw [List.length_map, List.length_take]; omega
    have hcells : ∀ j u, (vb ((zs.take n0).map fun z => UInt8.ofNat z.toNat))[j]? = some u → w.cell? (a.add j) = some u := by
      intro j u hu
      have hj := (List.getElem?_eq_some_iff.1 hu).1
      rw [vb_length, hlen] at hj
      have hjz : j < zs.length := by omega
      have hr := range_u8 hwz j
      rw [hcell j hjz]
      rw [← hu]
      simp only [vb, List.map_map, List.getElem?_map, List.getElem?_take, if_pos hj, List.getElem?_eq_getElem hjz, Option.map_some, Function.comp]
      rw [List.getElem?_eq_getElem hjz] at hr
      simp only [Option.getD_some] at hr
      congr 2
      rw [List.getD_eq_getElem?_getD, List.getElem?_eq_getElem hjz, Option.getD_some, UInt8.toNat_ofNat']
      omega
    refine ⟨some a, n0, c0, (zs.take n0).map fun z => UInt8.ofNat z.toNat, rfl, ⟨some a, c0, by rw [hlen], by rw [hlen]; exact hl, hm, (fun h => by cases h), ?_, ?_⟩, fun hw => ?_⟩
    · intro ad e h0
      injection e with e
      subst e
      rw [hlen] at h0
      have := World.block_lt_of_cell? w _ (hcell 0 (by omega))
      rwa [block_of_add] at this
    · intro ad e
      injection e with e
      subst e
      exact hcells
    · have h2 := hw ((lits .u8 (zs.take n0)).length + (lits .u8 (zs.drop n0)).length) (by
        rw [hx]
        simp only [DataW.weights, Try.underlying35, cells_u8, Nat.mul_one]
        exact List.mem_cons_self)
      simp only [lits, List.length_map, List.length_take, List.length_drop, reachBytes] at h2
      rw [hlen]
      omega

theorem sl_of_trod {H : Type} {enc : TypeId × Value → H} {w : World} {v : Value} {d : DataW H} {ps : List MemPlace} (hv : ∃ A n c, v = .slice A n c)
    (h : DataW.Trod enc Try.prog w 0 (fun _ => true) true 35 v d ps) : ∃ bs, Sl w w.heap.size v bs := by
  obtain ⟨A0, n0, c0, rfl⟩ := hv
  obtain ⟨fuel, hf⟩ := h
  obtain ⟨A, n, c, bs, e, h1, _⟩ := sl_of_cells hf
  simp [Value.cells] at e
  obtain ⟨rfl, rfl, rfl⟩ := e
  exact ⟨bs, h1⟩

end Go.Proofs.Ytflgokbkkoobkaa.Cd

/-
  Footprints: what a call leaves that writes to the blocks of a set alone, and to new ones. Conditions: none.
-/
namespace Go.Proofs.Ytflgokbkkoobkaa.Cd
open Go.RowKit

/-- Nothing that was there has turned, but for the blocks of S. -/
structure Apart (S : Nat → Prop) (w w' : World) : Prop where
  os : w'.os = w.os
  tape : w'.tape = w.tape
  output : w'.output = w.output
  size : w.heap.size ≤ w'.heap.size
  block : ∀ k, k < w.heap.size → ¬ S k → w'.heap[k]? = w.heap[k]?

/-- The set, and what was laid since. -/
def since (S : Nat → Prop) (w w' : World) : Nat → Prop := fun k => S k ∨ (w.heap.size ≤ k ∧ k < w'.heap.size)

theorem Apart.refl (S : Nat → Prop) (w : World) : Apart S w w := ⟨rfl, rfl, rfl, Nat.le_refl _, fun _ _ _ => rfl⟩
theorem Apart.mono {S T : Nat → Prop} {w w' : World} (h : Apart S w w') (hs : ∀ k, S k → T k) : Apart T w w' :=
  ⟨h.os, h.tape, h.output, h.size, fun k hk hn => h.block k hk (fun e => hn (hs k e))⟩
theorem Apart.trans {S : Nat → Prop} {w w1 w2 : World} (h : Apart S w w1) (k : Apart (since S w w1) w1 w2) : Apart S w w2 :=
  ⟨k.os.trans h.os, k.tape.trans h.tape, k.output.trans h.output, Nat.le_trans h.size k.size, fun i hi hn =>
    (k.block i (Nat.lt_of_lt_of_le hi h.size) (fun e => e.elim hn (fun e => by omega))).trans (h.block i hi hn)⟩
theorem Apart.below {S : Nat → Prop} {w w' : World} (h : Below w.heap.size w w') : Apart S w w' := ⟨h.os, h.tape, h.output, h.size, fun k hk _ => h.block k hk⟩
theorem Apart.grown {S : Nat → Prop} {w w' : World} {g : Nat} (h : w.grownBy w' (some g)) (hg : S g) : Apart S w w' :=
  ⟨h.os, h.tape, h.output, h.size, fun k hk hn => h.block k hk (fun e => by injection e with e; exact hn (by rw [e]; exact hg))⟩
theorem Apart.cell {S : Nat → Prop} {w w' : World} (h : Apart S w w') {p : Addr} (hp : p.block < w.heap.size) (hn : ¬ S p.block) : w'.cell? p = w.cell? p := World.cell?_of_block (h.block p.block hp hn)
/-- Where the set lies above B, all below B is as it was. -/
theorem Apart.low {S : Nat → Prop} {w w' : World} {B : Nat} (h : Apart S w w') (hB : B ≤ w.heap.size) (hs : ∀ k, S k → B ≤ k) : Below B w w' :=
  ⟨h.os, h.tape, h.output, h.size, fun k hk => h.block k (Nat.lt_of_lt_of_le hk hB) (fun e => by have := hs k e; omega)⟩

theorem since_refl (S : Nat → Prop) (w : World) (k : Nat) : since S w w k ↔ S k := ⟨fun h => h.elim id (fun e => by omega), .inl⟩
theorem since_trans {S : Nat → Prop} {w w1 w2 : World} (h1 : w.heap.size ≤ w1.heap.size) (h2 : w1.heap.size ≤ w2.heap.size) (k : Nat) : since (since S w w1) w1 w2 k ↔ since S w w2 k := by
  unfold since
  constructor
  · rintro ((h | h) | h)
    · exact .inl h
    · exact .inr ⟨h.1, by omega⟩
    · exact .inr ⟨by omega, h.2⟩
  · rintro (h | h)
    · exact .inl (.inl h)
    · by_cases hk : k < w1.heap.size
      · exact .inl (.inr ⟨h.1, hk⟩)
      · exact .inr ⟨by omega, h.2⟩
theorem since_old {S : Nat → Prop} {w w' : World} {k : Nat} (hk : k < w.heap.size) : since S w w' k ↔ S k := ⟨fun h => h.elim id (fun e => by omega), .inl⟩

/-- Two sets that are apart stay so: what is laid for the one is new to the other. -/
theorem since_apart {S T : Nat → Prop} {w w' : World} (h : ∀ k, S k → ¬ T k) (ht : ∀ k, T k → k < w.heap.size) : ∀ k, since S w w' k → ¬ T k := by
  rintro k (hs | hs) hk
  · exact h k hs hk
  · have := ht k hk; omega

end Go.Proofs.Ytflgokbkkoobkaa.Cd

/-
  Slices of things of n cells each, whatever things: how they read, how they grow. Conditions: none.
-/
namespace Go.Proofs.Ytflgokbkkoobkaa.Cd
open Go.RowKit Go.ChangeShapes Go.WideShapes Go.Deep

/-- Things of n cells each: their type T, that of slices of them S. -/
structure Kind {α : Type} (f : α → List Value) (n : Nat) (T S : TypeId) (bytes : Nat) (z : Value) : Prop where
  pos : 0 < n
  len : ∀ x, (f x).length = n
  one : ∀ x, ∀ u ∈ f x, u.oneCell' = true
  slice : Try.prog.underlying S = some (.slice T)
  info : (Try.prog.info? T).map (fun i => (i.zero, i.size, i.bytes)) = some (some z, n, bytes)
  zero : z.cells.size = n
  few : bytes ≤ 128

section
variable {α : Type} {f : α → List Value} {n : Nat} {T S : TypeId} {bytes : Nat} {z : Value}

/-- A slice value that reads as the things 'l'. -/
def RwIn (f : α → List Value) (n : Nat) (w : World) (B : Nat) (v : Value) (l : List α) : Prop :=
  ∃ A c, v = .slice A l.length c ∧ l.length ≤ c ∧ c ≤ maxLen ∧ (A = none → c = 0) ∧
    (0 < l.length → ∃ b off, A = some ⟨b, off, none⟩ ∧ b < B ∧ ∀ (i : Nat) p, l[i]? = some p → ∀ (j : Nat) x, (f p)[j]? = some x → w.cell? ⟨b, off + i * n + j, none⟩ = some x)

variable {w w' : World} {B B' : Nat} {v : Value} {l : List α}
theorem RwIn.below (h : RwIn f n w B v l) (hb : Below B w w') : RwIn f n w' B v l := by
  obtain ⟨A, c, h1, h2, h3, h4, h5⟩ := h
  refine ⟨A, c, h1, h2, h3, h4, fun hp => ?_⟩
  obtain ⟨b, off, e, hB, hc⟩ := h5 hp
  exact ⟨b, off, e, hB, fun i p hi j x hj => (hb.cell (p := ⟨b, off + i * n + j, none⟩) hB).trans (hc i p hi j x hj)⟩
theorem RwIn.more (h : RwIn f n w B v l) (hB : B ≤ B') : RwIn f n w B' v l := by
  obtain ⟨A, c, h1, h2, h3, h4, h5⟩ := h
  refine ⟨A, c, h1, h2, h3, h4, fun hp => ?_⟩
  obtain ⟨b, off, e, hb, hc⟩ := h5 hp
  exact ⟨b, off, e, Nat.lt_of_lt_of_le hb hB, hc⟩
theorem RwIn.on (h : RwIn f n w w.heap.size v l) (hb : Below w.heap.size w w') : RwIn f n w' w'.heap.size v l := (h.below hb).more hb.size
theorem RwIn.nil (w : World) (B : Nat) : RwIn f n w B (.slice none 0 0) ([] : List α) := ⟨none, 0, rfl, Nat.le_refl _, Nat.zero_le _, fun _ => rfl, fun h => by simp at h⟩
theorem RwIn.len (h : RwIn f n w B v l) : ∃ A c, v = .slice A l.length c ∧ l.length ≤ c ∧ c ≤ 9223372036854775807 := by
  obtain ⟨A, c, h1, h2, h3, _⟩ := h
  exact ⟨A, c, h1, h2, h3⟩
/-- The k-th thing's cells. -/
theorem RwIn.at {A : Option Addr} {m c : Nat} (h : RwIn f n w B (.slice A m c) l) {k : Nat} {p : α} (hk : l[k]? = some p) :
    ∃ b off, A = some ⟨b, off, none⟩ ∧ b < B ∧ ∀ (j : Nat) x, (f p)[j]? = some x → w.cell? ⟨b, off + k * n + j, none⟩ = some x := by
  obtain ⟨A0, c0, e, _, _, _, h5⟩ := h
  injection e with e1 e2 e3
  have hlt := (List.getElem?_eq_some_iff.1 hk).1
  obtain ⟨b, off, e, hB, hc⟩ := h5 (by omega)
  exact ⟨b, off, e1.trans e, hB, hc k p hk⟩

/-! ### Rows of the call's own -/

def rowC (f : α → List Value) (l : List α) : List Value := (l.map f).flatten
theorem rowC_append (a b : List α) : rowC f (a ++ b) = rowC f a ++ rowC f b := by simp [rowC]
theorem rowC_len (hf : ∀ x, (f x).length = n) (l : List α) : (rowC f l).length = l.length * n := by
  induction l with
  | nil => simp [rowC]
  | cons p r ih =>
    show (f p ++ rowC f r).length = _
    rw [List.length_append, ih, hf, List.length_cons, Nat.add_mul]
    omega
theorem rowC_at (hf : ∀ x, (f x).length = n) : ∀ (l : List α) (i : Nat) (p : α), l[i]? = some p → ∀ (j : Nat) x, (f p)[j]? = some x → (rowC f l)[i * n + j]? = some x
  | [], _, _, h, _, _, _ => by simp at h
  | q :: r, 0, p, h, j, x, hx => by
    have e : q = p := by simpa using h
    subst e
    have hj : j < (f q).length := (List.getElem?_eq_some_iff.1 hx).1
    show (f q ++ rowC f r)[0 * n + j]? = some x
    rw [Nat.zero_mul, Nat.zero_add, List.getElem?_append_left hj]
    exact hx
  | q :: r, i + 1, p, h, j, x, hx => by
    have := rowC_at hf r i p (by simpa using h) j x hx
    show (f q ++ rowC f r)[(i + 1) * n + j]? = some x
    have e : (i + 1) * n = n + i * n := by rw [Nat.add_mul, Nat.one_mul, Nat.add_comm]
    rw [List.getElem?_append_right (by rw [hf, e]; omega)]
    rw [show (i + 1) * n + j - (f q).length = i * n + j by rw [hf, e]; omega]
    exact this
theorem rowC_of (hf : ∀ x, (f x).length = n) : ∀ (l : List α) (j : Nat) x, (rowC f l)[j]? = some x → ∃ i p k, l[i]? = some p ∧ (f p)[k]? = some x ∧ j = i * n + k
  | [], _, _, h => by simp [rowC] at h
  | q :: r, j, x, h => by
    have h : (f q ++ rowC f r)[j]? = some x := h
    by_cases hj : j < n
    · rw [List.getElem?_append_left (by rw [hf]; exact hj)] at h
      exact ⟨0, q, j, rfl, h, by omega⟩
    · rw [List.getElem?_append_right (by rw [hf]; omega), hf] at h
      obtain ⟨i, p, k, h1, h2, h3⟩ := rowC_of hf r _ x h
      exact ⟨i + 1, p, k, by simpa using h1, h2, by rw [Nat.add_mul]; omega⟩
theorem rowC_one (h1 : ∀ x, ∀ u ∈ f x, u.oneCell' = true) (l : List α) : ∀ u ∈ rowC f l, u.oneCell' = true := by
  intro u hu
  simp only [rowC, List.mem_flatten, List.mem_map] at hu
  obtain ⟨_, ⟨p, _, rfl⟩, hu⟩ := hu
  exact h1 p u hu

/-- A row of things of the call's own. -/
def OwnRw (f : α → List Value) (n : Nat) (T : TypeId) (w : World) (B : Nat) (v : Value) (l : List α) : Prop := w.ownsRow B T n v l.length (rowC f l)

theorem OwnRw.nil (w : World) (B : Nat) : OwnRw f n T w B (.slice none 0 0) ([] : List α) := World.ownsRow_nil _ _ _ _
theorem OwnRw.keep (h : OwnRw f n T w B v l) (hb : Below w.heap.size w w') : OwnRw f n T w' B v l := by
  have hlt := World.ownsRow.lt h
  refine ⟨h.1, ?_⟩
  rcases h.2 with h4 | ⟨g, cap, cur, rfl, hg, hh, r⟩
  · exact .inl h4
  · exact .inr ⟨g, cap, cur, rfl, hg, (hb.block g (hlt g rfl).2).trans hh, r⟩
theorem OwnRw.lower (h : OwnRw f n T w B v l) (hB : B' ≤ B) : OwnRw f n T w B' v l := by
  refine ⟨h.1, ?_⟩
  rcases h.2 with h2 | ⟨g, cap, cur, hv, hg, r⟩
  · exact .inl h2
  · exact .inr ⟨g, cap, cur, hv, Nat.le_trans hB hg, r⟩
theorem OwnRw.alloc (h : OwnRw f n T w B v l) (o : Obj) : OwnRw f n T (w.alloc o) B v l := World.ownsRow.alloc h o
theorem OwnRw.drew (h : OwnRw f n T w B v l) : OwnRw f n T w.drew B v l := h
/-- Where another block alone turned, one below the row's. -/
theorem OwnRw.far {g : Nat} (h : OwnRw f n T w B v l) (hg : w.grownBy w' (some g)) (hlt0 : g < B) : OwnRw f n T w' B v l := by
  have hlt := World.ownsRow.lt h
  refine ⟨h.1, ?_⟩
  rcases h.2 with h4 | ⟨g', cap, cur, rfl, hb, hh, r⟩
  · exact .inl h4
  · exact .inr ⟨g', cap, cur, rfl, hb, (hg.block g' (hlt g' rfl).2 (fun e => by injection e with e; omega)).trans hh, r⟩
theorem OwnRw.put (h : OwnRw f n T w B v l) (p : Addr) (u : Value) (hp : p.block < B) : OwnRw f n T (w.setCell p u) B v l :=
  h.far (g := p.block) ⟨rfl, rfl, rfl, by simp, fun k _ hk => heap_setCell_other _ _ _ _ (fun e => hk (by rw [e]))⟩ hp
theorem OwnRw.rwIn (K : Kind f n T S bytes z) (h : OwnRw f n T w B v l) : RwIn f n w w.heap.size v l := by
  have hlt := World.ownsRow.lt h
  have hc := fun g hg => World.ownsRow.cells h (g := g) hg
  rcases h.2 with ⟨rfl, h0⟩ | ⟨g, cap, cur, rfl, hBg, hg, hn, hm, _, _⟩
  · have : l = [] := List.eq_nil_of_length_eq_zero h0
    subst this
    exact RwIn.nil _ _
  · refine ⟨_, cap, rfl, hn, hm, (fun h => by cases h), fun _ => ⟨g, 0, rfl, (hlt g rfl).2, fun i p hi j x hj => ?_⟩⟩
    have := hc g rfl (i * n + j) _ (rowC_at K.len l i p hi j x hj)
    rw [Addr.add_lit] at this
    rwa [← Nat.add_assoc] at this

/-- append of things, onto a row of the call's own. -/
theorem run_append_rw (K : Kind f n T S bytes z) (ho : OwnRw f n T w B v l) (hB : B ≤ w.heap.size) (x : Value) (B' : Nat) (ns : List α) (hx : RwIn f n w B' x ns) (hm : l.length + ns.length ≤ 1099511627776) (ty : TypeId) :
    ∃ v' w', (Builtin.append_ #[S, S] ty #[v, x]).run Try.prog w = .ok v' w' ∧ OwnRw f n T w' B v' (l ++ ns) ∧ Below B w w' ∧ w.grownBy w' v.ownBlock := by
  obtain ⟨i0, hi, hz0, hz1, hz2⟩ := info_parts K.info
  have hmax : l.length + ns.length ≤ maxLen := by simp only [maxLen]; omega
  have hby : ∀ m, m ≤ l.length + ns.length → m * bytes ≤ 140737488355328 := fun m hmm => Nat.le_trans (Nat.mul_le_mul (Nat.le_trans hmm hm) K.few) (by omega)
  obtain ⟨A, c, rfl, _, _, h4, h6⟩ := hx
  by_cases h0 : 0 < ns.length
  · obtain ⟨b, off, rfl, _, hc⟩ := h6 h0
    obtain ⟨v', w', hr, h2, h3, _⟩ := run_append_own (P := Try.prog) w B S ty T i0 _ n bytes K.slice hi hz0 hz1 hz2 K.zero K.pos v l.length (rowC f l) ho ⟨b, off, none⟩ ns.length c (rowC f ns) (rowC_len K.len ns)
      (fun j u hu => by
        rw [Addr.add_lit]
        obtain ⟨i, p, k, h1, h2, rfl⟩ := rowC_of K.len ns j u hu
        rw [← Nat.add_assoc]
        exact hc i p h1 k u h2) (rowC_one K.one ns) hmax (hby _ (Nat.le_refl _)) hB
    refine ⟨v', w', hr, ?_, (Below.refl _ _).grown h3 hB (fun k hk => (World.ownsRow.lt ho k hk).1), h3⟩
    unfold OwnRw
    rw [rowC_append, List.length_append]
    exact h2
  · have hns : ns = [] := List.eq_nil_of_length_eq_zero (by omega)
    subst hns
    cases A with
    | some ad =>
      obtain ⟨v', w', hr, h2, h3, _⟩ := run_append_own (P := Try.prog) w B S ty T i0 _ n bytes K.slice hi hz0 hz1 hz2 K.zero K.pos v l.length (rowC f l) ho ad 0 c [] (by simp) (fun j u hu => by simp at hu) (by simp) hmax (hby _ (Nat.le_refl _)) hB
      refine ⟨v', w', hr, ?_, (Below.refl _ _).grown h3 hB (fun k hk => (World.ownsRow.lt ho k hk).1), h3⟩
      unfold OwnRw
      rw [rowC_append, List.length_append]
      exact h2
    | none =>
      have hc := h4 rfl
      subst hc
      refine ⟨v, w, ?_, by simpa using ho, Below.refl _ _, ⟨rfl, rfl, rfl, Nat.le_refl _, fun _ _ _ => rfl⟩⟩
      rcases ho.2 with ⟨rfl, h0⟩ | ⟨g, cap, cur, rfl, _, _, hnc, _⟩
      · simp [Builtin.append_, run_underlying K.slice, sizeOf, typeInfo, hi, Builtin.lenOf, Builtin.firstCells]
      · simp [Builtin.append_, run_underlying K.slice, sizeOf, typeInfo, hi, Builtin.lenOf, Builtin.firstCells, hnc, storeCells]

theorem wp_append_rw (K : Kind f n T S bytes z) {ops : Array Oper} {rest : List Oper} {o : Oper} {a : Act} {Q : Exit → Act → World → Prop} (hgd : o.guard = none) (s x : Operand)
    (hop : o.op = .call { callee := .builtin .append, args := #[s, x], argTypes := #[S, S] })
    (hs : a.eval s = v) (ho : OwnRw f n T w B v l) (hB : B ≤ w.heap.size) (y : Value) (B' : Nat) (ns : List α) (hx : a.eval x = y) (hy : RwIn f n w B' y ns)
    (hm : l.length + ns.length ≤ 1099511627776)
    (hK : ∀ v' w', OwnRw f n T w' B v' (l ++ ns) → Below B w w' → w.grownBy w' v.ownBlock → wpList Try.prog ops Q rest (a.put o.dst v') w') : wpList Try.prog ops Q (o :: rest) a w := by
  refine wpList_plain hgd fun K9 hK' => ?_
  obtain ⟨v', w', hrun, r1, r2, r3⟩ := run_append_rw K ho hB y B' ns hy hm o.type
  unfold Oper.wp
  simp [execOp, hop, resolve, invoke, builtin, hs, hx, hrun, Result.andThen]
  exact hK' _ _ (hK v' w' r1 r2 r3)
/-- The same, where the region takes one operation by itself. -/
theorem op_append_rw (K : Kind f n T S bytes z) {o : Oper} {a : Act} {K9 : Act → World → Prop} {Q : Exit → Act → World → Prop} (s x : Operand)
    (hop : o.op = .call { callee := .builtin .append, args := #[s, x], argTypes := #[S, S] })
    (hs : a.eval s = v) (ho : OwnRw f n T w B v l) (hB : B ≤ w.heap.size) (y : Value) (B' : Nat) (ns : List α) (hx : a.eval x = y) (hy : RwIn f n w B' y ns)
    (hm : l.length + ns.length ≤ 1099511627776)
    (hK : ∀ v' w', OwnRw f n T w' B v' (l ++ ns) → Below B w w' → w.grownBy w' v.ownBlock → K9 (a.put o.dst v') w') : o.wp Try.prog a w K9 Q := by
  obtain ⟨v', w', hrun, r1, r2, r3⟩ := run_append_rw K ho hB y B' ns hy hm o.type
  unfold Oper.wp
  simp [execOp, hop, resolve, invoke, builtin, hs, hx, hrun, Result.andThen]
  exact hK v' w' r1 r2 r3
theorem step_append_rw (K : Kind f n T S bytes z) {ops : Array Oper} {o : Oper} {a : Act} {K9 : Act → World → Prop} {Q : Exit → Act → World → Prop} {E : Prop} (hgd : o.guard = none) (s x : Operand)
    (hop : o.op = .call { callee := .builtin .append, args := #[s, x], argTypes := #[S, S] })
    (hs : a.eval s = v) (ho : OwnRw f n T w B v l) (hB : B ≤ w.heap.size) (y : Value) (B' : Nat) (ns : List α) (hx : a.eval x = y) (hy : RwIn f n w B' y ns)
    (hm : l.length + ns.length ≤ 1099511627776)
    (hK : ∀ v' w', OwnRw f n T w' B v' (l ++ ns) → Below B w w' → w.grownBy w' v.ownBlock → K9 (a.put o.dst v') w') : if Region.wanted o (yielded ops a.tmps) = true then Oper.wp Try.prog o a w K9 Q else E := by
  have hw : Region.wanted o (yielded ops a.tmps) = true := by simp [Region.wanted, hgd]
  rw [if_pos hw]
  exact op_append_rw K s x hop hs ho hB y B' ns hx hy hm hK

/-- One thing, laid out a moment ago. -/
theorem rw_one (K : Kind f n T S bytes z) (w : World) (p : α) (T' : TypeId) (X : Array Value) (hX : X = (f p).toArray) : RwIn f n (w.alloc (.cells X T')) (w.heap.size + 1) (.slice (some ⟨w.heap.size, 0, none⟩) 1 1) [p] := by
  subst hX
  exact ⟨_, 1, rfl, by simp, by simp [maxLen], (fun h => by cases h), fun _ => ⟨w.heap.size, 0, rfl, by omega, fun i q hi j x hx => by
    have hlt := (List.getElem?_eq_some_iff.1 hi).1
    obtain rfl : i = 0 := by simp at hlt; omega
    obtain rfl : p = q := by simpa using hi
    have hrow := heap_alloc_new w (.cells (f p).toArray T')
    rw [show 0 + 0 * n + j = j by omega]
    exact (cell_of_row _ _ j _ _ _ hrow).trans (by simpa using hx)⟩⟩
/-- The same of one that lies in a block. -/
theorem rw_block (w : World) (p : α) (b : Nat) (T' : TypeId) (fr : Nat × Nat) (h : w.heap[b]? = some (.cells (f p).toArray T' fr)) (hB : b < B) : RwIn f n w B (.slice (some ⟨b, 0, none⟩) 1 1) [p] :=
  ⟨_, 1, rfl, by simp, by simp [maxLen], (fun h => by cases h), fun _ => ⟨b, 0, rfl, hB, fun i q hi j x hx => by
    have hlt := (List.getElem?_eq_some_iff.1 hi).1
    obtain rfl : i = 0 := by simp at hlt; omega
    obtain rfl : p = q := by simpa using hi
    rw [show 0 + 0 * n + j = j by omega]
    exact (cell_of_row _ _ j _ _ _ h).trans (by simpa using hx)⟩⟩
/-- What is left of a slice behind its first k. -/
theorem rowC_cons (p : α) (l : List α) : rowC f (p :: l) = f p ++ rowC f l := rfl
end

end Go.Proofs.Ytflgokbkkoobkaa.Cd

/-
  A region that draws its order, walked by an invariant: each operation once, whatever has come up before it. Conditions: none.
-/
namespace Go.Proofs.Ytflgokbkkoobkaa.Cd
open Go.RowKit

section
variable {P : Program} {ops : Array Oper} {Q : Exit → Act → World → Prop}

theorem ready_mem {md : Region.Mode} {listed : Array Bool} {i : Nat} : i ∈ Region.ready md ops listed ↔ i < ops.size ∧ listed.getD i true = false ∧ ∃ o, ops[i]? = some o ∧ ∀ e ∈ o.after, Region.binds md e = true → listed.getD e.on false = true := by
  unfold Region.ready
  simp only [List.mem_filter, List.mem_range, Bool.and_eq_true, Bool.not_eq_true']
  constructor
  · rintro ⟨h1, h2, h3⟩
    refine ⟨h1, h2, ops[i], Array.getElem?_eq_getElem h1, fun e he hb => ?_⟩
    rw [Array.getElem?_eq_getElem h1] at h3
    simp only [Option.map_some, Option.getD_some, Array.all_eq_true_iff_forall_mem] at h3
    have := h3 e he
    rw [hb] at this
    simpa using this
  · rintro ⟨h1, h2, o, ho, h3⟩
    refine ⟨h1, h2, ?_⟩
    rw [ho]
    simp only [Option.map_some, Option.getD_some, Array.all_eq_true_iff_forall_mem]
    intro e he
    cases hb : Region.binds md e
    · rfl
    · simpa using h3 e he hb

theorem getD_false {l : Array Bool} {i : Nat} (h : l.getD i true = false) : i < l.size ∧ l[i]? = some false := by
  by_cases hi : i < l.size
  · refine ⟨hi, ?_⟩
    simp [hi] at h
    rw [Array.getElem?_eq_getElem hi, h]
  · simp [hi] at h

/-- How many have not come up. -/
def left (l : Array Bool) : Nat := l.toList.count false
theorem left_set {l : Array Bool} {i : Nat} (h : l.getD i true = false) : left (l.setIfInBounds i true) + 1 = left l := by
  obtain ⟨hi, hv⟩ := getD_false h
  have hi2 : i < l.toList.length := by simpa using hi
  have hv2 : l.toList[i] = false := by
    rw [Array.getElem?_eq_getElem hi] at hv
    simpa using hv
  have hpos : 0 < l.toList.count false := List.count_pos_iff.2 (by rw [← hv2]; exact List.getElem_mem hi2)
  have e : (l.toList.set i true).count false = l.toList.count false - 1 := by
    rw [List.count_set hi2, hv2]
    simp
  unfold left
  rw [Array.toList_setIfInBounds, e]
  omega

/-- Each operation waits for earlier ones alone. -/
def Backward (ops : Array Oper) : Prop := ∀ (i : Nat) (o : Oper), ops[i]? = some o → ∀ e ∈ o.after, e.on < i
def backB (ops : Array Oper) : Bool := (List.range ops.size).all fun i => match ops[i]? with | some o => o.after.all (fun e => decide (e.on < i)) | none => true
theorem backward_of (h : backB ops = true) : Backward ops := by
  intro i o ho e he
  have hi := (Array.getElem?_eq_some_iff.1 ho).1
  have h1 := List.all_eq_true.1 h i (List.mem_range.2 hi)
  rw [ho] at h1
  simp only [Array.all_eq_true_iff_forall_mem, decide_eq_true_eq] at h1
  exact h1 e he

theorem ready_nil {md : Region.Mode} {listed : Array Bool} (hz : listed.size = ops.size) (hback : Backward ops) (h : Region.ready md ops listed = []) : ∀ i, i < ops.size → listed.getD i false = true := by
  intro i
  induction i using Nat.strongRecOn with
  | _ i ih =>
    intro hi
    cases hl : listed.getD i true with
    | true => simpa [show i < listed.size by omega] using hl
    | false =>
      have hm : i ∈ Region.ready md ops listed := ready_mem.2 ⟨hi, hl, ops[i], Array.getElem?_eq_getElem hi, fun e he _ => by
        have hlt := hback i ops[i] (Array.getElem?_eq_getElem hi) e he
        have := ih e.on hlt (by omega)
        exact this⟩
      rw [h] at hm
      cases hm

theorem wpAny_inv (hback : Backward ops) (I : Array Bool → Act → World → Prop)
    (hstep : ∀ i listed a w, listed.size = ops.size → I listed a w → i ∈ Region.ready .any ops listed → wpOp P ops Q i (I (listed.setIfInBounds i true)) a w)
    (hfin : ∀ listed a w, I listed a w → (∀ i, i < ops.size → listed.getD i false = true) → Q .normal a w) :
    ∀ fuel listed a w, listed.size = ops.size → left listed ≤ fuel → I listed a w → wpAny P .any ops Q fuel listed a w := by
  intro fuel
  induction fuel with
  | zero =>
    intro listed a w hz hl hI
    have hr : Region.ready .any ops listed = [] := by
      rw [List.eq_nil_iff_forall_not_mem]
      intro i hi
      have := left_set (ready_mem.1 hi).2.1
      omega
    exact ⟨hr, hfin listed a w hI (ready_nil hz hback hr)⟩
  | succ fuel ih =>
    intro listed a w hz hl hI
    refine ⟨fun hr => hfin listed a w hI (ready_nil hz hback hr), fun i hi => ?_⟩
    refine wpOp_mono (fun a' w' h' => ih _ a' w' (by simpa using hz) ?_ h') (hstep i listed a w hz hI hi)
    have := left_set (ready_mem.1 hi).2.1
    omega

/-- Each operation is shown once, of whatever has come up ahead of it. -/
theorem wp_region_inv {id : Nat} {a : Act} {w : World} (hm : P.follows .mixedOrders = true) (hback : Backward ops) (I : Array Bool → Act → World → Prop)
    (h0 : I (Array.replicate ops.size false) a w.drew)
    (hstep : ∀ i listed a w, listed.size = ops.size → I listed a w → i ∈ Region.ready .any ops listed → wpOp P ops Q i (I (listed.setIfInBounds i true)) a w)
    (hfin : ∀ listed a w, I listed a w → (∀ i, i < ops.size → listed.getD i false = true) → Q .normal a w) : (Code.region id ops true).wp P Q a w :=
  wp_region_any hm (wpAny_inv hback I hstep hfin _ _ a _ (by simp) (by simp [left]) h0)

theorem wpOp_of {i : Nat} {o : Oper} {K : Act → World → Prop} {a : Act} {w : World} (hi : ops[i]? = some o) (h : if Region.wanted o (yielded ops a.tmps) = true then o.wp P a w K Q else K (a.put o.dst undef) w) : wpOp P ops Q i K a w := by
  unfold wpOp
  rw [hi]
  simp only
  split
  · rename_i hw
    rw [if_pos hw] at h
    exact .inl h
  · rename_i hw
    rw [if_neg hw] at h
    exact h
end

/-- Operation i waits for operation j. -/
def waitsB (ops : Array Oper) (i j : Nat) : Bool := match ops[i]? with | some o => o.after.any (fun e => e.on == j && Region.binds .any e) | none => false
theorem ready_waits {ops : Array Oper} {listed : Array Bool} {i j : Nat} (h : i ∈ Region.ready .any ops listed) (hw : waitsB ops i j = true) : listed.getD j false = true := by
  obtain ⟨_, _, o, ho, haft⟩ := ready_mem.1 h
  unfold waitsB at hw
  rw [ho] at hw
  simp only at hw
  obtain ⟨e, he, hb⟩ := Array.any_eq_true'.1 hw
  simp only [Bool.and_eq_true, beq_iff_eq] at hb
  have := haft e he hb.2
  rw [hb.1] at this
  exact this

/-- What has come up: once a bit is set it stays. -/
theorem bit_set {l : Array Bool} {i j : Nat} : (l.setIfInBounds i true).getD j false = true ↔ (i = j ∧ j < l.size) ∨ l.getD j false = true := by
  by_cases hj : j < l.size
  · by_cases e : i = j
    · subst e
      simp [hj]
    · simp [hj, e, Array.getElem_setIfInBounds]
  · simp [hj]

theorem bit_ne {l : Array Bool} {i j : Nat} (hne : i ≠ j) (h : (l.setIfInBounds i true).getD j false = true) : l.getD j false = true := by
  rcases bit_set.1 h with ⟨e, _⟩ | h
  · exact absurd e hne
  · exact h
theorem bit_keep {l : Array Bool} {i j : Nat} (h : l.getD j false = true) : (l.setIfInBounds i true).getD j false = true := bit_set.2 (.inr h)
theorem bit_self {l : Array Bool} {i : Nat} (h : i < l.size) : (l.setIfInBounds i true).getD i false = true := bit_set.2 (.inl ⟨rfl, h⟩)
theorem bit_off {l : Array Bool} {i : Nat} (h : l.getD i true = false) : ¬ l.getD i false = true := by
  obtain ⟨h1, h2⟩ := getD_false h
  rw [Array.getElem?_eq_getElem h1] at h2
  injection h2 with h2
  simp [h1, h2]

end Go.Proofs.Ytflgokbkkoobkaa.Cd
