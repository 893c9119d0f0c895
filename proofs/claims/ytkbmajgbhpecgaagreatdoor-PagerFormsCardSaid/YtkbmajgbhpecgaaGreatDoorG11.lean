/-
  PagerAgain answers true. Conditions: none.
-/
import Derived.Test.YtkbmajgbhpecgaaGreatDoorG1
import Derived.Deep.Strs
import Derived.Test.YtkbmajgbhpecgaaGreatDoorG10
import Derived.Test.YtkbmajgbhpecgaaGreatDoorG9
import Derived.Test.YtkbmajgbhpecgaaGreatDoorG7
import Derived.BigQuiet
/-
  Slices of strings: how they read, how they grow. Conditions: none.
-/
namespace Go.Proofs.YtkbmajgbhpecgaaGreatDoor.Cd
open Go.RowKit Go.ChangeShapes Go.WideShapes Go.Deep

/-- Texts as cells. -/
def vs (l : List (List UInt8)) : List Value := l.map fun s => Value.string ⟨s.toArray⟩
theorem vs_length (l : List (List UInt8)) : (vs l).length = l.length := by simp [vs]
theorem vs_append (a b : List (List UInt8)) : vs (a ++ b) = vs a ++ vs b := by simp [vs]
theorem vs_at (l : List (List UInt8)) (j : Nat) (hj : j < l.length) : (vs l)[j]? = some (.string ⟨l[j].toArray⟩) := by simp [vs, hj]
theorem vs_one (l : List (List UInt8)) : ∀ u ∈ vs l, u.oneCell' = true := by
  intro u hu
  simp only [vs, List.mem_map] at hu
  obtain ⟨b, _, rfl⟩ := hu
  rfl

/-- A slice value that reads as the texts 'l'. -/
def Strs (w : World) (B : Nat) (v : Value) (l : List (List UInt8)) : Prop :=
  ∃ A c, v = .slice A l.length c ∧ l.length ≤ c ∧ c ≤ maxLen ∧ (A = none → c = 0) ∧
    (0 < l.length → ∃ b off, A = some ⟨b, off, none⟩ ∧ b < B ∧ ∀ j u, (vs l)[j]? = some u → w.cell? ⟨b, off + j, none⟩ = some u)

theorem Strs.below {w w' : World} {B : Nat} {v : Value} {l : List (List UInt8)} (h : Strs w B v l) (hb : Below B w w') : Strs w' B v l := by
  obtain ⟨A, c, h1, h2, h3, h4, h5⟩ := h
  refine ⟨A, c, h1, h2, h3, h4, fun h0 => ?_⟩
  obtain ⟨b, off, e, hB, hc⟩ := h5 h0
  exact ⟨b, off, e, hB, fun j u hu => (hb.cell (p := ⟨b, off + j, none⟩) hB).trans (hc j u hu)⟩

theorem Strs.more {w : World} {B B' : Nat} {v : Value} {l : List (List UInt8)} (h : Strs w B v l) (hB : B ≤ B') : Strs w B' v l := by
  obtain ⟨A, c, h1, h2, h3, h4, h5⟩ := h
  refine ⟨A, c, h1, h2, h3, h4, fun h0 => ?_⟩
  obtain ⟨b, off, e, hB', hc⟩ := h5 h0
  exact ⟨b, off, e, Nat.lt_of_lt_of_le hB' hB, hc⟩

theorem Strs.len {w : World} {B : Nat} {v : Value} {l : List (List UInt8)} (h : Strs w B v l) : ∃ A c, v = .slice A l.length c ∧ l.length ≤ c ∧ c ≤ maxLen := by
  obtain ⟨A, c, h1, h2, h3, _⟩ := h
  exact ⟨A, c, h1, h2, h3⟩

theorem Strs.at {w : World} {B : Nat} {v : Value} {l : List (List UInt8)} (h : Strs w B v l) (h0 : 0 < l.length) :
    ∃ b off c, v = .slice (some ⟨b, off, none⟩) l.length c ∧ l.length ≤ c ∧ c ≤ maxLen ∧ b < B ∧ ∀ j (hj : j < l.length), w.cell? ⟨b, off + j, none⟩ = some (.string ⟨l[j].toArray⟩) := by
  obtain ⟨A, c, rfl, h2, h3, h4, h5⟩ := h
  obtain ⟨b, off, rfl, hB, hc⟩ := h5 h0
  exact ⟨b, off, c, rfl, h2, h3, hB, fun j hj => hc j _ (vs_at l j hj)⟩

theorem Strs.take {w : World} {B : Nat} {A : Option Addr} {L c : Nat} {l : List (List UInt8)} (h : Strs w B (.slice A L c) l) (k : Nat) (hk : k ≤ l.length) : Strs w B (.slice A k c) (l.take k) := by
  obtain ⟨A', c', e, h2, h3, h4, h5⟩ := h
  injection e with e1 e2 e3
  subst e1 e2 e3
  have hl : (l.take k).length = k := by rw [List.length_take]; omega
  refine ⟨A, c, by rw [hl], by rw [hl]; omega, h3, h4, fun h0 => ?_⟩
  rw [hl] at h0
  obtain ⟨b, off, e, hB, hc⟩ := h5 (by omega)
  refine ⟨b, off, e, hB, fun j u hu => hc j u ?_⟩
  have hj := (List.getElem?_eq_some_iff.1 hu).1
  rw [vs_length, hl] at hj
  rw [← hu]
  simp only [vs, List.map_take]
  rw [List.getElem?_take, if_pos hj]

/-- A row of texts of the call's own. -/
def OwnS (w : World) (B : Nat) (v : Value) (l : List (List UInt8)) : Prop := w.ownsRow B 9 1 v l.length (vs l)

theorem OwnS.nil (w : World) (B : Nat) : OwnS w B (.slice none 0 0) [] := World.ownsRow_nil _ _ _ _
theorem OwnS.alloc {w : World} {B : Nat} {v : Value} {l : List (List UInt8)} (h : OwnS w B v l) (o : Obj) : OwnS (w.alloc o) B v l := World.ownsRow.alloc h o
theorem OwnS.lower {w : World} {B B' : Nat} {v : Value} {l : List (List UInt8)} (h : OwnS w B v l) (hB : B' ≤ B) : OwnS w B' v l := by
  refine ⟨h.1, ?_⟩
  rcases h.2 with h2 | ⟨g, cap, cur, hv, hg, r⟩
  · exact .inl h2
  · exact .inr ⟨g, cap, cur, hv, Nat.le_trans hB hg, r⟩
theorem OwnS.keep {w w' : World} {B : Nat} {v : Value} {l : List (List UInt8)} (h : OwnS w B v l) (hb : Below w.heap.size w w') : OwnS w' B v l := by
  have hlt := h.lt
  refine ⟨h.1, ?_⟩
  rcases h.2 with h2 | ⟨g, cap, cur, rfl, hg, hh, r⟩
  · exact .inl h2
  · exact .inr ⟨g, cap, cur, rfl, hg, (hb.block g (hlt g rfl).2).trans hh, r⟩
/-- A block below the row's is written. -/
theorem OwnS.far {w w' : World} {B g : Nat} {v : Value} {l : List (List UInt8)} (h : OwnS w B v l) (hg : w.grownBy w' (some g)) (hlt0 : g < B) : OwnS w' B v l := by
  have hlt := h.lt
  refine ⟨h.1, ?_⟩
  rcases h.2 with h2 | ⟨g', cap, cur, rfl, hb, hh, r⟩
  · exact .inl h2
  · exact .inr ⟨g', cap, cur, rfl, hb, (hg.block g' (hlt g' rfl).2 (fun e => by injection e with e; omega)).trans hh, r⟩

theorem OwnS.strs {w : World} {B : Nat} {v : Value} {l : List (List UInt8)} (h : OwnS w B v l) : Strs w w.heap.size v l := by
  have hlt := h.lt
  have hc := fun g hg => h.cells (g := g) hg
  rcases h.2 with ⟨rfl, h0⟩ | ⟨g, cap, cur, rfl, _, hg, hn, hm, _, _⟩
  · have : l = [] := List.eq_nil_of_length_eq_zero h0
    subst this
    exact ⟨none, 0, rfl, by simp, by simp, fun _ => rfl, fun h => by simp at h⟩
  · refine ⟨_, cap, rfl, hn, hm, (fun h => by cases h), fun _ => ⟨g, 0, rfl, (hlt g rfl).2, fun j u hu => ?_⟩⟩
    have := hc g rfl j u hu
    rwa [Addr.add_lit] at this

theorem info_str : (Tryz.prog.info? 9).map (fun i => (i.zero, i.size, i.bytes)) = some (some (.string ByteArray.empty), 1, 16) := by kernel_rfl

/-- append of texts, onto a row of the call's own. -/
theorem run_append_strs (w : World) (B : Nat) (v : Value) (l : List (List UInt8)) (ho : OwnS w B v l) (hB : B ≤ w.heap.size) (x : Value) (B' : Nat) (ns : List (List UInt8)) (hx : Strs w B' x ns)
    (hm : l.length + ns.length ≤ 8796093022208) (ty : TypeId) :
    ∃ v' w', (Builtin.append_ #[32, 32] ty #[v, x]).run Tryz.prog w = .ok v' w' ∧ OwnS w' B v' (l ++ ns) ∧ Below B w w' := by
  obtain ⟨i0, hi, hz0, hz1, hz2⟩ := info_parts info_str
  have hmax : l.length + ns.length ≤ maxLen := by simp only [maxLen]; omega
  obtain ⟨A, c, rfl, _, _, h4, h6⟩ := hx
  by_cases h0 : 0 < ns.length
  · obtain ⟨b, off, rfl, _, hc⟩ := h6 h0
    obtain ⟨v', w', hr, h2, h3, _⟩ := run_append_own (P := Tryz.prog) w B 32 ty 9 i0 _ 1 16 Tryz.underlying32 hi hz0 hz1 hz2 rfl (by omega) v l.length (vs l) ho ⟨b, off, none⟩ ns.length c (vs ns) (by simp [vs]) (fun j u hu => by rw [Addr.add_lit]; exact hc j u hu) (vs_one ns) hmax (by omega) hB
    refine ⟨v', w', hr, ?_, (Below.refl _ _).grown h3 hB (fun k hk => (ho.lt k hk).1)⟩
    unfold OwnS
    rw [vs_append, List.length_append]
    exact h2
  · have hns : ns = [] := List.eq_nil_of_length_eq_zero (by omega)
    subst hns
    cases A with
    | some ad =>
      obtain ⟨v', w', hr, h2, h3, _⟩ := run_append_own (P := Tryz.prog) w B 32 ty 9 i0 _ 1 16 Tryz.underlying32 hi hz0 hz1 hz2 rfl (by omega) v l.length (vs l) ho ad 0 c [] rfl (fun j u hu => by simp at hu) (by simp) hmax (by simpa using by omega) hB
      refine ⟨v', w', hr, ?_, (Below.refl _ _).grown h3 hB (fun k hk => (ho.lt k hk).1)⟩
      unfold OwnS
      rw [vs_append, List.length_append]
      exact h2
    | none =>
      have hc := h4 rfl
      subst hc
      refine ⟨v, w, ?_, by simpa using ho, Below.refl _ _⟩
      rcases ho.2 with ⟨rfl, h0⟩ | ⟨g, cap, cur, rfl, _, _, hnc, _⟩
      · simp [Builtin.append_, run_underlying Tryz.underlying32, sizeOf, typeInfo, hi, Builtin.lenOf, Builtin.firstCells]
      · simp [Builtin.append_, run_underlying Tryz.underlying32, sizeOf, typeInfo, hi, Builtin.lenOf, Builtin.firstCells, hnc, storeCells]

/-- append of texts, for the walk. -/
theorem wp_append_strs {w : World} {ops : Array Oper} {rest : List Oper} {o : Oper} {a : Act} {Q : Exit → Act → World → Prop} (hgd : o.guard = none) (s x : Operand)
    (hop : o.op = .call { callee := .builtin .append, args := #[s, x], argTypes := #[32, 32] })
    (B : Nat) (v : Value) (l : List (List UInt8)) (hs : a.eval s = v) (ho : OwnS w B v l) (hB : B ≤ w.heap.size) (y : Value) (B' : Nat) (ns : List (List UInt8)) (hx : a.eval x = y) (hy : Strs w B' y ns)
    (hm : l.length + ns.length ≤ 8796093022208)
    (hK : ∀ v' w', OwnS w' B v' (l ++ ns) → Below B w w' → wpList Tryz.prog ops Q rest (a.put o.dst v') w') : wpList Tryz.prog ops Q (o :: rest) a w := by
  refine wpList_plain hgd fun K hK' => ?_
  obtain ⟨v', w', hrun, r1, r2⟩ := run_append_strs w B v l ho hB y B' ns hy hm o.type
  unfold Oper.wp
  simp [execOp, hop, resolve, invoke, builtin, hs, hx, hrun, Result.andThen]
  exact hK' _ _ (hK v' w' r1 r2)

/-- A row stays while another, older one grows. -/
theorem OwnS.apart {w w' : World} {B : Nat} {v : Value} {l : List (List UInt8)} {r : Option Nat} (h : OwnS w B v l) (hg : w.grownBy w' r) (hr : ∀ k, r = some k → k < B) : OwnS w' B v l :=
  World.ownsRow.kept h hg (by
    cases hv : v.ownBlock with
    | none => exact .inl rfl
    | some k => exact .inr fun e => by have h1 := (World.ownsRow.lt h k hv).1; have h2 := hr k e.symm; omega)

/-- append of bytes, for the walk: what else lies there stays. -/
theorem wp_append_far {w : World} {ops : Array Oper} {rest : List Oper} {o : Oper} {a : Act} {Q : Exit → Act → World → Prop} (hgd : o.guard = none) (s x : Operand)
    (hop : o.op = .call { callee := .builtin .append, args := #[s, x], argTypes := #[49, 49] })
    (B : Nat) (v : Value) (bs : List UInt8) (hs : a.eval s = v) (ho : Own w B v bs) (hB : B ≤ w.heap.size) (y : Value) (B' : Nat) (ns : List UInt8) (hx : a.eval x = y) (hy : Sl w B' y ns)
    (hm : bs.length + ns.length ≤ 140737488355328)
    (hK : ∀ v' w', Own w' B v' (bs ++ ns) → Below B w w' → w.grownBy w' v.ownBlock → wpList Tryz.prog ops Q rest (a.put o.dst v') w') : wpList Tryz.prog ops Q (o :: rest) a w := by
  refine wpList_plain hgd fun K hK' => ?_
  obtain ⟨i0, hi, hz0, hz1, hz2⟩ := info_parts info5
  have hmax : bs.length + ns.length ≤ maxLen := by simp only [maxLen]; omega
  obtain ⟨v', w', hrun, r1, r2, r3⟩ : ∃ v' w', (Builtin.append_ #[49, 49] o.type #[v, y]).run Tryz.prog w = .ok v' w' ∧ Own w' B v' (bs ++ ns) ∧ Below B w w' ∧ w.grownBy w' v.ownBlock := by
    obtain ⟨A, c, rfl, _, _, h4, _, h6⟩ := hy
    cases A with
    | some ad =>
      obtain ⟨v', w', hr, h2, h3, _⟩ := run_append_own (P := Tryz.prog) w B 49 o.type 5 i0 _ 1 1 Tryz.underlying49 hi hz0 hz1 hz2 rfl (by omega) v bs.length (vb bs) ho ad ns.length c (vb ns) (by simp [vb]) (h6 ad rfl) (vb_one ns) hmax (by omega) hB
      refine ⟨v', w', hr, ?_, (Below.refl _ _).grown h3 hB (fun k hk => (ho.lt k hk).1), h3⟩
      unfold Own
      rw [vb_append, List.length_append]
      exact h2
    | none =>
      have hc := h4 rfl
      subst hc
      have : ns = [] := List.eq_nil_of_length_eq_zero (by omega)
      subst this
      refine ⟨v, w, ?_, by simpa using ho, Below.refl _ _, ⟨rfl, rfl, rfl, Nat.le_refl _, fun _ _ _ => rfl⟩⟩
      rcases ho.2 with ⟨rfl, h0⟩ | ⟨g, cap, cur, rfl, _, _, hnc, _⟩
      · simp [Builtin.append_, run_underlying Tryz.underlying49, sizeOf, typeInfo, hi, Builtin.lenOf, Builtin.firstCells]
      · simp [Builtin.append_, run_underlying Tryz.underlying49, sizeOf, typeInfo, hi, Builtin.lenOf, Builtin.firstCells, hnc, storeCells]
  unfold Oper.wp
  simp [execOp, hop, resolve, invoke, builtin, hs, hx, hrun, Result.andThen]
  exact hK' _ _ (hK v' w' r1 r2 r3)

/-- One text, laid out a moment ago. -/
theorem strs_one (w : World) (s : List UInt8) (T : TypeId) : Strs (w.alloc (.cells #[.string ⟨s.toArray⟩] T)) (w.heap.size + 1) (.slice (some ⟨w.heap.size, 0, none⟩) 1 1) [s] :=
  ⟨_, 1, rfl, by simp, by simp [maxLen], (fun h => by cases h), fun _ => ⟨w.heap.size, 0, rfl, by omega, fun j u hu => by
    have hj := (List.getElem?_eq_some_iff.1 hu).1
    rw [vs_length] at hj
    obtain rfl : j = 0 := by simp at hj; omega
    have := cell_of_row (w.alloc (.cells #[.string ⟨s.toArray⟩] T)) w.heap.size 0 #[.string ⟨s.toArray⟩] T (0, 0) (heap_alloc_new w _)
    rw [this]
    simpa [vs] using hu⟩⟩

theorem owns_new (w : World) (B : Nat) (hB : B ≤ w.heap.size) : OwnS (w.alloc (.cells #[] 9)) B (.slice (some ⟨w.heap.size, 0, none⟩) 0 0) [] :=
  World.ownsRow_made (base := B) (e := 9) (size := 1) w #[] 0 hB (by simp) rfl

theorem cells_str : Tryz.prog.cellsOf 9 = 1 := by kernel_rfl
theorem bytes_str : Tryz.prog.bytesOf 9 = 16 := by kernel_rfl

theorem strs_of_trod {H : Type} {enc : TypeId × Value → H} {w : World} {v : Value} {d : DataW H} {ps : List MemPlace} (hv : ∃ A n c, v = .slice A n c)
    (h : DataW.Trod enc Tryz.prog w 0 (fun _ => true) true 32 v d ps) (hw : ∀ n ∈ d.weights Tryz.prog 32, n ≤ reachBytes) :
    ∃ l, Strs w w.heap.size v l ∧ ∀ p ∈ l, p.length ≤ 140737488351232 := by
  obtain ⟨A0, n0, c0, rfl⟩ := hv
  obtain ⟨fuel, hf⟩ := h
  rcases open_strs Tryz.underlying32 Tryz.underlying9 cells_str hf with ⟨hcs, _⟩ | ⟨a, len, cap, m, Sx, hcs, _, hl, hm, hmm, hx, hi⟩
  · simp [Value.cells] at hcs
    obtain ⟨rfl, rfl, rfl⟩ := hcs
    exact ⟨[], ⟨none, 0, rfl, by simp, by simp, fun _ => rfl, fun h => by simp at h⟩, by simp⟩
  · simp [Value.cells] at hcs
    obtain ⟨rfl, rfl, rfl⟩ := hcs
    have hmc : m = c0 := by rw [hmm]; simp
    have hlen : ((List.range n0).map fun i => (Sx i).data.toList).length = n0 := by simp
    refine ⟨(List.range n0).map fun i => (Sx i).data.toList, ⟨some a, c0, by rw [hlen], by rw [hlen]; exact hl, hm, (fun h => by cases h), fun hp => ?_⟩, ?_⟩
    · rw [hlen] at hp
      obtain ⟨b, off, spot⟩ := a
      have hc := (hi 0 (by omega)).1
      have hspot : spot = none := by simpa [Addr.add] using World.cell?_spot hc
      subst hspot
      refine ⟨b, off, rfl, ?_, fun j u hu => ?_⟩
      · have := World.block_lt_of_cell? w _ hc
        rwa [block_of_add] at this
      · have hj := (List.getElem?_eq_some_iff.1 hu).1
        rw [vs_length, hlen] at hj
        have := (hi j (by omega)).1
        rw [Addr.add_lit] at this
        rw [this, ← hu]
        simp [vs, hj]
    · intro p hp
      obtain ⟨i, hi2, rfl⟩ := List.mem_map.1 hp
      have hlt := List.mem_range.1 hi2
      have hd : d = .slice ((List.range n0).map fun i => .lit (.string (Sx i).data.toList)) ((List.range (m - n0)).map fun j => .lit (.string (Sx (n0 + j)).data.toList)) := by
        simp only [Prod.mk.injEq] at hx
        exact hx.1
      refine hw _ ?_
      rw [hd]
      simp only [DataW.weights, Tryz.underlying32]
      refine List.mem_cons_of_mem _ (List.mem_append_left _ (weightsAll_mem (d := .lit (.string (Sx i).data.toList)) (List.mem_map.2 ⟨i, hi2, rfl⟩) ?_))
      simp [DataW.weights]

end Go.Proofs.YtkbmajgbhpecgaaGreatDoor.Cd

/-
  has: a pager has just these pages. Conditions: the power is on.
-/
namespace Go.Proofs.YtkbmajgbhpecgaaGreatDoor.Cd
open Go.RowKit

theorem reads_got {D : Dsk} {n q : List UInt8} {i : Int} {w w' : World} {e : Ending} (hq : readD D n i = (q, 0)) (h : ReadsP D n i w e w') :
    e = .returned (.tuple #[.slice (some ⟨w.heap.size, 0, none⟩) 512 512, .int .i64 0]) ∧ Below w.heap.size w w' ∧ q.length = 512 ∧ w'.heap.size = w.heap.size + 1 ∧ w'.heap[w.heap.size]? = some (.cells (vb q).toArray 110) := by
  obtain ⟨hb, ⟨q', h1, h2, h3, h4, h5⟩ | ⟨m, h1, h2, _⟩⟩ := h
  · rw [hq] at h1
    injection h1 with h1
    subst h1
    exact ⟨h3, hb, h2, h4, h5⟩
  · rw [hq] at h2
    injection h2 with _ h2
    exact absurd h2.symm h1

theorem reads_none {D : Dsk} {n : List UInt8} {i : Int} {m : Nat} {w w' : World} {e : Ending} (hm : m ≠ 0) (hq : readD D n i = ([], m)) (h : ReadsP D n i w e w') :
    e = .returned (.tuple #[.slice none 0 0, .int .i64 m]) ∧ Below w.heap.size w w' := by
  obtain ⟨hb, ⟨q', h1, _⟩ | ⟨m', h1, h2, h3⟩⟩ := h
  · rw [hq] at h1
    injection h1 with _ h1
    exact absurd h1 hm
  · rw [hq] at h2
    injection h2 with _ h2
    subst h2
    exact ⟨h3, hb⟩

theorem readD_in {D : Dsk} {n : List UInt8} {k : Nat} (ho : D.off = false) (hk : k < (pagesF D.now n).length) : readD D n (k : Int) = ((pagesF D.now n)[k], 0) := by
  unfold readD
  rw [if_neg (by rw [ho]; simp), if_neg (by omega)]
  simp [hk]
theorem readD_out {D : Dsk} {n : List UInt8} {k : Nat} (ho : D.off = false) (hk : (pagesF D.now n).length ≤ k) : readD D n (k : Int) = ([], 5) := by
  unfold readD
  rw [if_neg (by rw [ho]; simp), if_pos (by omega)]

set_option maxRecDepth 100000 in
set_option maxHeartbeats 1600000 in
theorem phas_any (p g N : Nat) (n : List UInt8) (v : Value) (l : List (List UInt8)) (S : Nat → Prop) (D : Dsk) (w : World) (h : PgrAt w S p g n) (hd : DkS w g N S D) (ho : D.off = false) (hn : n.length ≤ 140737488355000) (hs : Strs w w.heap.size v l) :
    Calls Tryz.prog 19 #[.pointer (some ⟨p, 0, none⟩), v] w (Gives (.bool (decide (pagesF D.now n = l))) w) := by
  obtain ⟨A, c, rfl, hc1, hc2⟩ := hs.len
  have hc2 : c ≤ 9223372036854775807 := hc2
  have HS := Lib.hid hs
  have HP := Lib.hid h
  have HD := Lib.hid hd
  have HK := Lib.hid (count_p p g N n S D w h hd ho hn)
  obtain ⟨P, hP⟩ : ∃ x, pagesF D.now n = x := ⟨_, rfl⟩
  have HPP := Lib.hid hP
  rw [hP] at HK ⊢
  clear h hd hs hP
  by_cases hlen : P.length = l.length
  · go_enter Tryz.func19, Tryz.ntmps19
    go_wp2_with (go_at_call 18; refine HK.out.mono ?_; rintro e w1 ⟨rfl, hb1⟩; have HB1 := Lib.hid hb1; rw [hlen]; clear hb1)
    go_loopw [18] (fun i wr => ∃ k : Nat, i = .int .i64 k ∧ k ≤ l.length ∧ Hid (P.take k = l.take k) ∧ Hid (Below w.heap.size w wr)) (fun i _ => l.length - (intOf i).toNat)
    case atStart => exact ⟨0, rfl, by omega, rfl, HB1.out⟩
    case round =>
      obtain ⟨k, rfl, hk, htk, hbl⟩ := hrel
      by_cases hlt : k < l.length
      · obtain ⟨b2, off2, c2', e2, _, _, hB2, hat⟩ := (HS.out.below hbl.out).at (by omega)
        injection e2 with e2 _ e3
        subst e2 e3
        have d0 := hat k hlt
        obtain ⟨s, hs⟩ : ∃ x, l[k] = x := ⟨_, rfl⟩
        rw [hs] at d0
        have HSK := Lib.hid hs
        have hkP : k < P.length := by omega
        have HRD : Hid (readD D n (k : Int) = (P[k], 0)) := by
          have := readD_in (D := D) (n := n) (k := k) ho (by rw [HPP.out]; exact hkP)
          unfold Hid
          rw [this]
          congr 1
          simp only [HPP.out]
        obtain ⟨q, hq⟩ : ∃ x, P[k] = x := ⟨_, rfl⟩
        rw [hq] at HRD
        have HQK := Lib.hid hq
        have hwf : (Lit.int .i64 (k : Int)).wf = true := WalkArith.wf_i64 (by omega)
        have HR := Lib.hid (read_p p g N n (k : Int) S D wr (HP.out.below hbl.out) (HD.out.below hbl.out) hn hwf)
        clear hat hs hq hwf
        by_cases he : q = s
        · have hqs : (q == s) = true := by rw [he]; simp
          clear he
          go_wp2_with (go_at_call 39; refine HR.out.mono ?_; intro e w2 hr; obtain ⟨rfl, hb2, hql, _, hh2⟩ := reads_got HRD.out hr; have HSL := Lib.hid (sl_page hql _ hh2); have HB2 := Lib.hid (hbl.out.trans (hb2.mono hbl.out.size)); have hcv := run_text_of w2 _ _ _ HSL.out; clear hr hb2 hh2)
          go_roundw
          case rel =>
            refine ⟨k + 1, by go_num, by omega, ?_, HB2.out⟩
            have := htk.out
            unfold Hid
            rw [List.take_succ_eq_append_getElem hkP, List.take_succ_eq_append_getElem hlt, this, HQK.out, HSK.out, eq_of_beq hqs]
          case measure => simp [intOf]; omega
        · have hqs : (q == s) = false := beq_eq_false_iff_ne.2 he
          have hdc : Hid (decide (P = l) = false) := decide_eq_false (fun e => he (by rw [← HQK.out, ← HSK.out]; simp only [e]))
          clear he
          go_wp2_with (go_at_call 39; refine HR.out.mono ?_; intro e w2 hr; obtain ⟨rfl, hb2, hql, _, hh2⟩ := reads_got HRD.out hr; have HSL := Lib.hid (sl_page hql _ hh2); have HB2 := Lib.hid (hbl.out.trans (hb2.mono hbl.out.size)); have hcv := run_text_of w2 _ _ _ HSL.out; clear hr hb2 hh2)
          go_ret
          rw [hdc.out]
          exact ⟨rfl, HB2.out⟩
      · have hPl : Hid (decide (P = l) = true) := by
          have := htk.out
          rw [List.take_of_length_le (by omega), List.take_of_length_le (by omega)] at this
          exact decide_eq_true this
        have HRD : Hid (readD D n (l.length : Int) = ([], 5)) := readD_out ho (by rw [HPP.out]; omega)
        have hwf : (Lit.int .i64 (l.length : Int)).wf = true := WalkArith.wf_i64 (by omega)
        have HR := Lib.hid (read_p p g N n (l.length : Int) S D wr (HP.out.below hbl.out) (HD.out.below hbl.out) hn hwf)
        clear hwf htk
        go_wp2_with (go_at_call 39; refine HR.out.mono ?_; intro e w2 hr; obtain ⟨rfl, hb2⟩ := reads_none (by decide) HRD.out hr; have HB2 := Lib.hid (hbl.out.trans (hb2.mono hbl.out.size)); clear hr hb2)
        go_ret
        rw [hPl.out]
        exact ⟨rfl, HB2.out⟩
  · have hne : (P.length : Int) ≠ l.length := by omega
    have hdc : decide (P = l) = false := decide_eq_false (fun e => hlen (by rw [e]))
    rw [hdc]
    go_enter Tryz.func19, Tryz.ntmps19
    go_wp2_with (go_at_call 18; refine HK.out.mono ?_; rintro e w1 ⟨rfl, hb1⟩)
    go_ret
    exact ⟨rfl, hb1⟩

end Go.Proofs.YtkbmajgbhpecgaaGreatDoor.Cd

/-
  Pages with some written: what the numbers are, where the file can have them. Conditions: none.
-/
namespace Go.Proofs.YtkbmajgbhpecgaaGreatDoor.Cd
open Go.RowKit

theorem fresh_bound : ∀ (ws : Pgs) (P : List (List UInt8)) (f : Nat), freshN P.length ws = some f → ∀ (k : Nat) (hk : k < ws.length), 0 ≤ ws[k].1 ∧ ws[k].1 ≤ ((laidP P (ws.take k)).length : Int)
  | [], _, _, _, _, hk => by simp at hk
  | p :: r, P, f, h, k, hk => by
    unfold freshN at h
    split at h
    · cases h
    · rename_i h1
      have h2 : 0 ≤ p.1 ∧ p.1 ≤ (P.length : Int) := by omega
      match k with
      | 0 => exact ⟨h2.1, by simpa [laidP] using h2.2⟩
      | k + 1 =>
        have hlen := setP_len P p.1.toNat (pad p.2)
        have hr : ∃ f', freshN (setP P p.1.toNat (pad p.2)).length r = some f' := by
          rw [hlen]
          split at h
          · rename_i e
            obtain ⟨f', h3, _⟩ := Option.map_eq_some_iff.1 h
            exact ⟨f', by rw [show max P.length (p.1.toNat + 1) = P.length + 1 by omega]; exact h3⟩
          · rename_i e
            exact ⟨f, by rw [show max P.length (p.1.toNat + 1) = P.length by omega]; exact h⟩
        obtain ⟨f', hf'⟩ := hr
        have := fresh_bound r (setP P p.1.toNat (pad p.2)) f' hf' k (by simpa using hk)
        simpa [laidP] using this

theorem laidP_snoc {P : List (List UInt8)} {ws : Pgs} {k : Nat} {p : Int × List UInt8} (h : ws[k]? = some p) : laidP P (ws.take (k + 1)) = setP (laidP P (ws.take k)) p.1.toNat (pad p.2) := by
  obtain ⟨hk, rfl⟩ := List.getElem?_eq_some_iff.1 h
  unfold laidP
  rw [List.take_succ_eq_append_getElem hk, List.foldl_append]
  rfl
theorem laidP_len {P : List (List UInt8)} {ws : Pgs} : (laidP P ws).length ≥ P.length := by
  unfold laidP
  induction ws generalizing P with
  | nil => exact Nat.le_refl _
  | cons p r ih =>
    have := ih (P := setP P p.1.toNat (pad p.2))
    have h2 := setP_len P p.1.toNat (pad p.2)
    simp only [List.foldl_cons]
    omega
theorem fresh_len : ∀ (ws : Pgs) (P : List (List UInt8)) (f : Nat), freshN P.length ws = some f → (laidP P ws).length = P.length + f
  | [], P, f, h => by
    injection h with h
    subst h
    rfl
  | p :: r, P, f, h => by
    unfold freshN at h
    split at h
    · cases h
    · rename_i h1
      have hlen := setP_len P p.1.toNat (pad p.2)
      show (laidP (setP P p.1.toNat (pad p.2)) r).length = _
      split at h
      · rename_i e
        obtain ⟨f', h3, h4⟩ := Option.map_eq_some_iff.1 h
        have := fresh_len r (setP P p.1.toNat (pad p.2)) f' (by rw [hlen, show max P.length (p.1.toNat + 1) = P.length + 1 by omega]; exact h3)
        rw [this]
        omega
      · rename_i e
        have := fresh_len r (setP P p.1.toNat (pad p.2)) f (by rw [hlen, show max P.length (p.1.toNat + 1) = P.length by omega]; exact h)
        rw [this]
        omega

/-- A page's bytes in the row, or one behind its end. -/
theorem setP_one {P : List (List UInt8)} (d : List UInt8) (x : List UInt8) : setP P P.length d = (P ++ [x]).set P.length d := by
  unfold setP
  rw [show P.length + 1 - P.length = 1 by omega]
  simp

theorem pOwnS_open {w : World} {B : Nat} {v : Value} {l : List (List UInt8)} (h : OwnS w B v l) (h0 : 0 < l.length) :
    ∃ g cap cur, v = .slice (some ⟨g, 0, none⟩) l.length cap ∧ B ≤ g ∧ g < w.heap.size ∧ w.heap[g]? = some (.cells cur 9 (0, 0)) ∧ l.length ≤ cap ∧ cap ≤ maxLen ∧ ∀ k, k < l.length → ∃ u, w.cell? ⟨g, k, none⟩ = some u := by
  have hlt := h.lt
  have hc := fun g hg => h.cells (g := g) hg
  rcases h.2 with ⟨_, h1⟩ | ⟨g, cap, cur, rfl, hb, hh, hn, hm, _, _⟩
  · omega
  · refine ⟨g, cap, cur, rfl, hb, (hlt g rfl).2, hh, hn, hm, fun k hk => ?_⟩
    have := hc g rfl k _ (vs_at l k hk)
    rw [Addr.add_lit, Nat.zero_add] at this
    exact ⟨_, this⟩
theorem pOwnS_stored {w : World} {B g cap : Nat} {l : List (List UInt8)} (h : OwnS w B (.slice (some ⟨g, 0, none⟩) l.length cap) l) (k : Nat) (s : List UInt8) :
    OwnS (w.setCell ⟨g, k, none⟩ (.string ⟨s.toArray⟩)) B (.slice (some ⟨g, 0, none⟩) l.length cap) (l.set k s) := by
  have h2 := (World.ownsRow.stored h k (.string ⟨s.toArray⟩)).1
  unfold OwnS
  rw [List.length_set]
  have e : vs (l.set k s) = (vs l).set k (.string ⟨s.toArray⟩) := by simp [vs, List.map_set]
  rw [e]
  exact h2
theorem powns_new (w : World) (B : Nat) (hB : B ≤ w.heap.size) : OwnS (w.alloc (.cells #[] 9)) B (.slice (some ⟨w.heap.size, 0, none⟩) 0 0) [] :=
  World.ownsRow_made (base := B) (e := 9) (size := 1) w #[] 0 hB (by simp) rfl

/-- append of one text: nothing turns but the row's own block. -/
theorem wp_append_one {w : World} {B : Nat} {v : Value} {l : List (List UInt8)} {ops : Array Oper} {rest : List Oper} {o : Oper} {a : Act} {Q : Exit → Act → World → Prop} (hgd : o.guard = none) (s x : Operand)
    (hop : o.op = .call { callee := .builtin .append, args := #[s, x], argTypes := #[32, 32] })
    (hs : a.eval s = v) (ho : OwnS w B v l) (hB : B ≤ w.heap.size) (b off c0 : Nat) (t : List UInt8) (hx : a.eval x = .slice (some ⟨b, off, none⟩) 1 c0) (hn : w.cell? ⟨b, off, none⟩ = some (.string ⟨t.toArray⟩)) (hm : l.length ≤ 8388608)
    (hK : ∀ v' w', OwnS w' B v' (l ++ [t]) → Below B w w' → w.grownBy w' v.ownBlock → wpList Tryz.prog ops Q rest (a.put o.dst v') w') : wpList Tryz.prog ops Q (o :: rest) a w := by
  refine wpList_plain hgd fun K hK' => ?_
  obtain ⟨i0, hi, hz0, hz1, hz2⟩ := info_parts info_str
  obtain ⟨v', w', hrun, r2, r3, _⟩ := run_append_own (P := Tryz.prog) w B 32 o.type 9 i0 _ 1 16 Tryz.underlying32 hi hz0 hz1 hz2 rfl (by omega) v l.length (vs l) ho ⟨b, off, none⟩ 1 c0 [.string ⟨t.toArray⟩] rfl
    (fun j u hu => by
      rw [Addr.add_lit]
      match j with
      | 0 => rw [← Option.some.inj (show some (Value.string ⟨t.toArray⟩) = some u from hu)]; exact hn
      | j + 1 => simp at hu)
    (fun u hu => by obtain rfl := List.mem_singleton.1 hu; rfl) (by simp only [maxLen]; omega) (by omega) hB
  unfold Oper.wp
  simp [execOp, hop, resolve, invoke, builtin, hs, hx, hrun, Result.andThen]
  refine hK' _ _ (hK v' w' ?_ ((Below.refl _ _).grown r3 hB (fun k hk => (ho.lt k hk).1)) r3)
  unfold OwnS
  rw [vs_append, List.length_append]
  exact r2

/-- A row of texts is no page's box. -/
theorem ownS_ne {w : World} {B pb : Nat} {v : Value} {l : List (List UInt8)} {xs : Array Value} {fr : Nat × Nat} (h : OwnS w B v l) (hb : w.heap[pb]? = some (.cells xs 51 fr)) : v.ownBlock ≠ some pb := by
  intro e
  rcases h.2 with ⟨rfl, _⟩ | ⟨g, cap, cur, rfl, _, hg, _⟩
  · cases e
  · have e : some g = some pb := e
    injection e with e
    subst e
    rw [hg] at hb
    injection hb with hb
    injection hb with _ hb
    exact absurd hb (by decide)

/-- A slice's length. -/
def slLen : Value → Nat | .slice _ n _ => n | _ => 0

set_option maxRecDepth 100000 in
set_option maxHeartbeats 3200000 in
theorem plaid_any (v u : Value) (P : List (List UInt8)) (ws : Pgs) (f : Nat) (w : World) (hs : Strs w w.heap.size v P) (hp : PgsIn w w.heap.size u ws) (hf : freshN P.length ws = some f) (hsh : ∀ p ∈ ws, p.2.length ≤ 512) (hl : ws.length ≤ 8) (hP : P.length ≤ 1000000) :
    Calls Tryz.prog 14 #[v, u] w (fun e w' => ∃ v', e = .returned v' ∧ OwnS w' w.heap.size v' (laidP P ws) ∧ Below w.heap.size w w') := by
  obtain ⟨A, c, rfl, hc1, hc2⟩ := hs.len
  have hc2 : c ≤ 9223372036854775807 := hc2
  obtain ⟨A2, c2, rfl, hd1, hd2⟩ := hp.len
  have HS := Lib.hid hs
  have HP := Lib.hid hp
  have HF := Lib.hid (fresh_bound ws P f hf)
  have HSH := Lib.hid hsh
  have hfl := Lib.hid (fresh_len ws P f hf)
  have hfw := Lib.hid (laid_len' ws hf)
  clear hs hp hf hsh
  have hl' : (ws.length : Int) ≤ 8 := by omega
  go_enter Tryz.func14, Tryz.ntmps14
  go_wp2_with (at_builtin; refine wp_append_strs rfl _ _ rfl w.heap.size _ [] rfl (powns_new w _ (Nat.le_refl _)) (by simp) _ _ P rfl (HS.out.below ((Below.refl _ _).alloc (Nat.le_refl _) _)) (by simp; omega) ?_)
  intro v2 w2 ho2 hb2
  have HB2 := Lib.hid (((Below.refl w.heap.size w).alloc (Nat.le_refl _) (.cells #[] 9)).trans hb2)
  have HO2 : Hid (OwnS w2 w.heap.size v2 P) := ho2
  clear ho2 hb2
  go_wp2_with fail
  go_loopw [5, 13] (fun o i wr => ∃ k : Nat, i = .int .i64 k ∧ k ≤ ws.length ∧ Hid (OwnS wr w.heap.size o (laidP P (ws.take k))) ∧ Hid (Below w.heap.size w wr)) (fun _ i _ => ws.length - (intOf i).toNat)
  case atStart => exact ⟨0, rfl, by omega, HO2.out, HB2.out⟩
  case round =>
    obtain ⟨k, rfl, hk, hown, hbl⟩ := hrel
    by_cases hlt : k < ws.length
    · obtain ⟨q, hqk⟩ : ∃ q, ws[k]? = some q := ⟨ws[k], List.getElem?_eq_getElem hlt⟩
      obtain ⟨b2, off2, c2', e2, _, _, hB2, hat⟩ := (HP.out.below hbl.out).at (by omega)
      injection e2 with e2 _ e3
      subst e2 e3
      obtain ⟨d0, d1⟩ := hat k q hqk
      obtain ⟨L, hL⟩ : ∃ x, laidP P (ws.take k) = x := ⟨_, rfl⟩
      have hbd := HF.out k hlt
      have hqe : ws[k] = q := by have := List.getElem?_eq_getElem hlt; rw [hqk] at this; injection this with this; exact this.symm
      rw [hqe, hL] at hbd
      obtain ⟨x, hx⟩ := Int.eq_ofNat_of_zero_le hbd.1
      have hxL : x ≤ L.length := by omega
      have HSN : Hid (laidP P (ws.take (k + 1)) = setP L x (pad q.2)) := by
        unfold Hid
        rw [laidP_snoc hqk, hL, hx]
        rfl
      have hq5 := HSH.out q (List.mem_of_getElem? hqk)
      have hLl : L.length ≤ 1000008 := by
        have h1 : (laidP P (ws.take k)).length ≤ (laidP P ws).length := by
          have h2 := laidP_len (P := laidP P (ws.take k)) (ws := ws.drop k)
          have h3 : laidP (laidP P (ws.take k)) (ws.drop k) = laidP P ws := by unfold laidP; rw [← List.foldl_append, List.take_append_drop]
          rw [h3] at h2
          exact h2
        rw [hL] at h1
        have := hfl.out
        have := hfw.out
        omega
      obtain ⟨pi, s⟩ := q
      have hx : pi = (x : Int) := hx
      subst hx
      dsimp only at d0 d1 hq5 HSN
      rw [hL] at hown
      clear hat hqk hbd hqe hL HO2 HB2
      obtain ⟨w3, hw3⟩ : ∃ y, wr.alloc (.cells #[.int .i64 x, .string ⟨s.toArray⟩] 51) = y := ⟨_, rfl⟩
      have hb3 : Below wr.heap.size wr w3 := by rw [← hw3]; exact (Below.refl _ _).alloc (Nat.le_refl _) _
      have hrw3 : w3.heap[wr.heap.size]? = some (.cells #[.int .i64 x, .string ⟨s.toArray⟩] 51) := by rw [← hw3]; exact heap_alloc_new _ _
      have hz3 : w3.heap.size = wr.heap.size + 1 := by rw [← hw3]; simp
      have HO3 := Lib.hid (hown.out.keep hb3)
      have HLT3 : Hid (∀ (o : Value) (g : Nat), o.ownBlock = some g → OwnS wr w.heap.size o L → g < wr.heap.size) := fun o g h1 h2 => (h2.lt g h1).2
      have HB3 := Lib.hid (hbl.out.trans (hb3.mono hbl.out.size))
      have HR3 := Lib.hid hrw3
      have hwz := hbl.out.size
      clear hb3 hrw3 hown hbl
      obtain ⟨pb, hpb⟩ : ∃ y, wr.heap.size = y := ⟨_, rfl⟩
      rw [hpb] at HR3
      have hz3' : w3.heap.size = pb + 1 := by omega
      go_wp2_with fail
      clear hw3 hz3
      go_loopw [5] (fun o wr => ∃ M : List (List UInt8), Hid (OwnS wr w.heap.size o M) ∧ Hid (M = L ∨ (M = L ++ [[]] ∧ x = L.length)) ∧ Hid (wr.heap[pb]? = some (.cells #[.int .i64 x, .string ⟨s.toArray⟩] 51)) ∧ Hid (Below w.heap.size w wr)) (fun o _ => x + 1 - slLen o)
      case atStart => exact ⟨L, HO3.out, .inl rfl, HR3.out, HB3.out⟩
      case round =>
        obtain ⟨M, hown, hM, hrow, hbl⟩ := hrel
        obtain ⟨A3, c3, rfl, hm1, hm2⟩ := hown.out.strs.len
        have hm2 : c3 ≤ 9223372036854775807 := hm2
        have cb0 : ∀ o : Obj, True := fun _ => trivial
        have c0 := cell_of_row _ pb 0 _ _ _ hrow.out
        have c1 := cell_of_row _ pb 1 _ _ _ hrow.out
        have c0 : wr.cell? ⟨pb, 0, none⟩ = some (.int .i64 x) := c0
        have c1 : wr.cell? ⟨pb, 1, none⟩ = some (.string ⟨s.toArray⟩) := c1
        by_cases hin : M.length ≤ x
        · have hML : M = L ∧ x = L.length := by
            rcases hM.out with h | ⟨h, h2⟩
            · subst h; exact ⟨rfl, by omega⟩
            · rw [h] at hin; simp at hin; omega
          have HML := Lib.hid hML
          have hin' : (M.length : Int) ≤ (x : Int) := by omega
          have hM8 : M.length ≤ 8388608 := by omega
          have hal := heap_alloc_new wr (.cells #[.string ⟨#[]⟩] 9)
          have HAL := Lib.hid hal
          clear hML hal hM
          have HBA : Hid (Below wr.heap.size wr (wr.alloc (.cells #[.string ⟨#[]⟩] 9))) := (Below.refl _ _).alloc (Nat.le_refl _) _
          have hpw : pb < wr.heap.size := (Array.getElem?_eq_some_iff.1 hrow.out).1
          have hbz := hbl.out.size
          go_wp2_with (at_builtin; refine wp_append_one rfl _ _ rfl rfl (hown.out.keep HBA.out) (by simp; omega) wr.heap.size 0 _ [] rfl (cell_of_row _ _ 0 _ _ _ HAL.out) hM8 ?_)
          intro v5 w5 hov hbv hgv
          have hne := ownS_ne (hown.out.keep HBA.out) ((HBA.out.block pb hpw).trans hrow.out)
          have HR5 := Lib.hid ((hgv.block pb (by simp; omega) (fun e => hne e.symm)).trans ((HBA.out.block pb hpw).trans hrow.out))
          have HB5 := Lib.hid ((hbl.out.trans (HBA.out.mono hbz)).trans hbv)
          have HO5 := Lib.hid hov
          clear hgv hne hbv hov
          obtain ⟨A5, c5, rfl, _, _⟩ := HO5.out.strs.len
          go_wp2_with fail
          go_roundw
          case rel => exact ⟨M ++ [[]], HO5.out, .inr ⟨by rw [HML.out.1], HML.out.2⟩, HR5.out, HB5.out⟩
          case measure => simp [slLen]; omega
        · have hin' : (x : Int) < (M.length : Int) := by omega
          have hset : Hid (M.set x (pad s) = setP L x (pad s)) := by
            unfold Hid
            rcases hM.out with h | ⟨h, h2⟩
            · subst h; rw [setP_in (by omega)]
            · rw [h, h2, setP_one]
          obtain ⟨g, cap, cur, e5, hgB, hgl, hgh, hgc, hgm, hgu⟩ := pOwnS_open hown.out (by omega)
          injection e5 with e5 _ e6
          subst e5 e6
          have hne : g ≠ pb := fun e => ownS_ne hown.out hrow.out (by rw [← e]; rfl)
          obtain ⟨uu, hfc⟩ := hgu x (by omega)
          have hff : wr.frozen? ⟨g, x, none⟩ = false := by simp [World.frozen?, hgh]
          have hpw : pb < wr.heap.size := (Array.getElem?_eq_some_iff.1 hrow.out).1
          have hbz := hbl.out.size
          have HSC : Hid (∀ (W : World) (y : Value) (j : Nat), (W.setCell ⟨g, x, none⟩ y).cell? ⟨pb, j, none⟩ = W.cell? ⟨pb, j, none⟩) := fun W y j => World.cell?_of_block (a := ⟨pb, j, none⟩) (heap_setCell_other _ _ _ _ (fun e => hne e.symm))
          have HFC := Lib.hid hfc
          have HFF := Lib.hid hff
          have HOM := Lib.hid hown.out
          have hxc : x < c3 := by omega
          clear hgu hgh hfc hff hown hrow HO3 HR3 HB3 HLT3 hM
          go_wp2_with fail
          go_region_held3 (fun W => W.cell? ⟨pb, 0, none⟩ = some (.int .i64 x) ∧ W.cell? ⟨pb, 1, none⟩ = some (.string ⟨s.toArray⟩)) (first | exact hS3 | exact ⟨c0, c1⟩ | exact ⟨(HSC.out _ _ _).trans hS3.1, (HSC.out _ _ _).trans hS3.2⟩ | assumption) (first
            | (go_at_call 22; refine (filled_any s hq5 _).mono ?_; rintro e w6 ⟨rfl, hb6⟩; have hb6 : Below wr.heap.size wr w6 := (Below.refl _ _).drew.trans hb6; have hS3 : w6.cell? ⟨pb, 0, none⟩ = some (.int .i64 x) ∧ w6.cell? ⟨pb, 1, none⟩ = some (.string ⟨s.toArray⟩) := ⟨(hb6.cell (p := ⟨pb, 0, none⟩) hpw).trans c0, (hb6.cell (p := ⟨pb, 1, none⟩) hpw).trans c1⟩; have hfc : w6.cell? ⟨g, x, none⟩ = some uu := (hb6.cell (p := ⟨g, x, none⟩) hgl).trans HFC.out; have hff : w6.frozen? ⟨g, x, none⟩ = false := (World.frozen?_of_block (a := ⟨g, x, none⟩) (hb6.block g hgl)).trans HFF.out; have HB6 := Lib.hid hb6; clear hb6))
          have hown7 := pOwnS_stored (HOM.out.keep HB6.out) x (pad s)
          have hb7 := hbl.out.trans (HB6.out.mono hbz)
          have HOW7 : Hid (OwnS (w6.setCell ⟨g, x, none⟩ (.string ⟨(pad s).toArray⟩)) w.heap.size (.slice (some ⟨g, 0, none⟩) M.length c3) (laidP P (ws.take (k + 1)))) := by
            unfold Hid
            rw [HSN.out, ← hset.out]
            exact hown7
          have HB7 : Hid (Below w.heap.size w (w6.setCell ⟨g, x, none⟩ (.string ⟨(pad s).toArray⟩))) :=
            ⟨hb7.os, hb7.tape, hb7.output, by simpa using hb7.size, fun j hj => (heap_setCell_other _ _ _ _ (fun e => by have e : j = g := e; omega)).trans (hb7.block j hj)⟩
          clear hown7 hb7
          go_wp2_with fail
          go_roundw
          case rel => exact ⟨k + 1, by go_num, by omega, HOW7.out, HB7.out⟩
          case measure => simp [intOf]; omega
    · have hd : Hid (laidP P (ws.take k) = laidP P ws) := by unfold Hid; rw [List.take_of_length_le (by omega)]
      go_wp2_with fail
      go_ret
      exact ⟨_, rfl, by rw [← hd.out]; exact hown.out, hbl.out⟩

end Go.Proofs.YtkbmajgbhpecgaaGreatDoor.Cd

/-
  The reference's Record. Conditions: pages of at most 512 bytes.
-/
namespace Go.Proofs.YtkbmajgbhpecgaaGreatDoor.Cd
open Go.RowKit

set_option maxRecDepth 100000 in
set_option maxHeartbeats 3200000 in
theorem precord_any (u : Value) (ws : Pgs) (w : World) (hp : PgsIn w w.heap.size u ws) (hsh : ∀ p ∈ ws, p.2.length ≤ 512) (hl : ws.length ≤ 8) :
    Calls Tryz.prog 24 #[u] w (Said w (recT ws)) := by
  obtain ⟨A2, c2, rfl, hd1, hd2⟩ := hp.len
  have hwf : wfP ws := by obtain ⟨_, _, _, _, _, h4, _⟩ := hp; exact h4
  have HP := Lib.hid hp
  have HSH := Lib.hid hsh
  have HWF := Lib.hid hwf
  have hl' : (ws.length : Int) ≤ 8 := by omega
  have HI := Lib.hid (ref_int_any (ws.length : Int) w (by omega) (by omega))
  rw [← recK_zero] at HI
  clear hp hsh hwf
  go_enter Tryz.func24, Tryz.ntmps24
  go_wp2_with (go_at_call 46; refine HI.out.mono ?_; rintro e w2 ⟨rfl, hb2⟩; have HB2 := Lib.hid hb2; clear hb2)
  go_loopw [3, 11] (fun o i wr => ∃ k : Nat, i = .int .i64 k ∧ k ≤ ws.length ∧ o = .string ⟨(recK ws k).toArray⟩ ∧ Hid (Below w.heap.size w wr)) (fun _ i _ => ws.length - (intOf i).toNat)
  case atStart => exact ⟨0, rfl, by omega, rfl, HB2.out⟩
  case round =>
    obtain ⟨k, rfl, hk, rfl, hbl⟩ := hrel
    by_cases hlt : k < ws.length
    · obtain ⟨q, hqk⟩ : ∃ q, ws[k]? = some q := ⟨ws[k], List.getElem?_eq_getElem hlt⟩
      obtain ⟨b2, off2, c2', e2, _, _, hB2, hat⟩ := (HP.out.below hbl.out).at (by omega)
      injection e2 with e2 _ e3
      subst e2 e3
      obtain ⟨d0, d1⟩ := hat k q hqk
      have hqe : ws[k] = q := by have := List.getElem?_eq_getElem hlt; rw [hqk] at this; injection this with this; exact this.symm
      have hq5 := HSH.out q (List.mem_of_getElem? hqk)
      have hqw := HWF.out q (List.mem_of_getElem? hqk)
      have hbq := bounds_i64 hqw
      have hk1 := recK_len HWF.out HSH.out (by omega) k hk
      have hz := enc_u64 _ (zig_lt hbq.1 hbq.2)
      have hlen := enc_u64 q.2.length (by omega)
      obtain ⟨r, hr⟩ : ∃ x, recK ws k = x := ⟨_, rfl⟩
      obtain ⟨r1, hr1⟩ : ∃ x, r ++ enc (zig q.1) = x := ⟨_, rfl⟩
      obtain ⟨tx, htx⟩ : ∃ x, enc q.2.length ++ q.2 = x := ⟨_, rfl⟩
      obtain ⟨r2, hr2⟩ : ∃ x, r1 ++ tx = x := ⟨_, rfl⟩
      have HK1 : Hid (recK ws (k + 1) = r2) := by
        unfold Hid
        rw [recK_succ hlt, hqe, hr, ← hr2, ← hr1, ← htx, recP, List.append_assoc]
      rw [hr] at hk1 ⊢
      have l1 : r1.length = r.length + (enc (zig q.1)).length := by rw [← hr1, List.length_append]
      have l2 : tx.length = (enc q.2.length).length + q.2.length := by rw [← htx, List.length_append]
      have ha1 := fun W => add_text W r (enc (zig q.1)) (by omega)
      have ha2 := fun W => add_text W r1 tx (by omega)
      rw [hr1] at ha1
      rw [hr2] at ha2
      have HRI := Lib.hid (fun W => ref_int_any q.1 W hbq.1 hbq.2)
      have HRT := Lib.hid (fun W => ref_text_of q.2 W (by omega))
      rw [htx] at HRT
      obtain ⟨z1, hz1⟩ : ∃ x, enc (zig q.1) = x := ⟨_, rfl⟩
      rw [hz1] at ha1 HRI
      have hbz := hbl.out.size
      have hpw : wr.heap.size < (wr.alloc (.cells #[.int .i64 q.1, .string ⟨q.2.toArray⟩] 51)).heap.size := by simp
      have hrw3 := heap_alloc_new wr (.cells #[.int .i64 q.1, .string ⟨q.2.toArray⟩] 51)
      have HB3 : Hid (Below w.heap.size w (wr.alloc (.cells #[.int .i64 q.1, .string ⟨q.2.toArray⟩] 51))) := hbl.out.alloc hbz _
      have HR3 := Lib.hid hrw3
      obtain ⟨w3, hw3⟩ : ∃ y, wr.alloc (.cells #[.int .i64 q.1, .string ⟨q.2.toArray⟩] 51) = y := ⟨_, rfl⟩
      rw [hw3] at HB3 HR3 hpw
      obtain ⟨pb, hpb⟩ : ∃ y, wr.heap.size = y := ⟨_, rfl⟩
      rw [hpb] at HR3 hpw
      have c0 : w3.cell? ⟨pb, 0, none⟩ = some (.int .i64 q.1) := cell_of_row _ pb 0 _ _ _ HR3.out
      have c1 : w3.cell? ⟨pb, 1, none⟩ = some (.string ⟨q.2.toArray⟩) := cell_of_row _ pb 1 _ _ _ HR3.out
      clear hat hqk hqe hr hr1 hr2 htx hz1 hrw3 hz hlen l1 l2 hk1 hbl hbz
      go_wp2_with fail
      clear hw3
      go_region_held3 (fun W => W.cell? ⟨pb, 0, none⟩ = some (.int .i64 q.1) ∧ W.cell? ⟨pb, 1, none⟩ = some (.string ⟨q.2.toArray⟩)) (first | exact hS4 | exact hS3 | exact ⟨c0, c1⟩ | assumption) (first
        | (go_at_call 46; refine (HRI.out _).mono ?_; rintro e w4 ⟨rfl, hb4⟩; have hb4 : Below w3.heap.size w3 w4 := (Below.refl _ _).drew.trans hb4; have hS3 : w4.cell? ⟨pb, 0, none⟩ = some (.int .i64 q.1) ∧ w4.cell? ⟨pb, 1, none⟩ = some (.string ⟨q.2.toArray⟩) := ⟨(hb4.cell (p := ⟨pb, 0, none⟩) hpw).trans c0, (hb4.cell (p := ⟨pb, 1, none⟩) hpw).trans c1⟩; have HB4 := Lib.hid hb4; clear hb4)
        | (go_at_call 44; refine (HRT.out _).mono ?_; rintro e w5 ⟨rfl, hb5⟩; have hb5 : Below w3.heap.size w3 w5 := HB4.out.trans (hb5.mono HB4.out.size); have hS4 : w5.cell? ⟨pb, 0, none⟩ = some (.int .i64 q.1) ∧ w5.cell? ⟨pb, 1, none⟩ = some (.string ⟨q.2.toArray⟩) := ⟨(hb5.cell (p := ⟨pb, 0, none⟩) hpw).trans c0, (hb5.cell (p := ⟨pb, 1, none⟩) hpw).trans c1⟩; have HB5 := Lib.hid hb5; clear hb5))
      all_goals go_wp2_with fail
      all_goals go_roundw
      all_goals first
        | (case rel => exact ⟨k + 1, by go_num, by omega, by rw [HK1.out], HB3.out.trans (HB5.out.mono HB3.out.size)⟩)
        | skip
      all_goals simp [intOf]
      all_goals omega
    · have hd : Hid (recK ws k = recT ws) := by unfold Hid; rw [← recK_all]; rw [show k = ws.length by omega]
      go_wp2_with fail
      go_ret
      exact ⟨by rw [hd.out]; rfl, hbl.out⟩

end Go.Proofs.YtkbmajgbhpecgaaGreatDoor.Cd

/-
  wants: what a commit must answer. Conditions: a step that is played.
-/
namespace Go.Proofs.YtkbmajgbhpecgaaGreatDoor.Cd
open Go.RowKit

theorem fresh_step {c fr : Nat} {q : Int × List UInt8} {r : Pgs} : (freshN (c + fr) (q :: r)).map (· + fr) = if q.1 < 0 ∨ ((c + fr : Nat) : Int) < q.1 then none else if q.1 = ((c + fr : Nat) : Int) then (freshN (c + (fr + 1)) r).map (· + (fr + 1)) else (freshN (c + fr) r).map (· + fr) := by
  rw [freshN]
  split
  · rfl
  · split
    · rw [Option.map_map, show c + fr + 1 = c + (fr + 1) by omega]
      congr 1
      funext x
      show x + 1 + fr = x + (fr + 1)
      omega
    · rfl

set_option maxRecDepth 100000 in
set_option maxHeartbeats 3200000 in
theorem pwants_any (u : Value) (ws : Pgs) (cn : Nat) (free : Int) (w : World) (hp : PgsIn w w.heap.size u ws) (hl : ws.length ≤ 8) (hcn : cn ≤ 1000000) (hfr : -1000000 ≤ free ∧ free ≤ 1000000) (hby : ∀ p ∈ ws, p.2.length ≤ 32768) :
    Calls Tryz.prog 11 #[u, .int .i64 cn, .int .i64 free] w (Gives (.int .i64 (wantsD cn free ws : Nat)) w) := by
  obtain ⟨A2, c2, rfl, hd1, hd2⟩ := hp.len
  have hwf : wfP ws := by obtain ⟨_, _, _, _, _, h4, _⟩ := hp; exact h4
  have HP := Lib.hid hp
  have HWF := Lib.hid hwf
  have HBY := Lib.hid hby
  obtain ⟨hf1, hf2⟩ := hfr
  have hl' : (ws.length : Int) ≤ 8 := by omega
  have hcn' : (cn : Int) ≤ 1000000 := by omega
  clear hp hwf hby
  go_enter Tryz.func11, Tryz.ntmps11
  go_wp2_with fail
  go_loopw [15] (fun i wr => ∃ k : Nat, i = .int .i64 k ∧ k ≤ ws.length ∧ Hid (∀ (j : Nat) p, j < k → ws[j]? = some p → p.2.length ≤ 512) ∧ Hid (Below w.heap.size w wr)) (fun i _ => ws.length - (intOf i).toNat)
  case atStart => exact ⟨0, rfl, by omega, (fun j p hj => by omega), Below.refl _ _⟩
  case round =>
    obtain ⟨k, rfl, hk, hsh, hbl⟩ := hrel
    by_cases hlt : k < ws.length
    · obtain ⟨q, hqk⟩ : ∃ q, ws[k]? = some q := ⟨ws[k], List.getElem?_eq_getElem hlt⟩
      obtain ⟨b2, off2, c2', e2, _, _, hB2, hat⟩ := (HP.out.below hbl.out).at (by omega)
      injection e2 with e2 _ e3
      subst e2 e3
      obtain ⟨d0, d1⟩ := hat k q hqk
      have HQ := Lib.hid hqk
      have hbz := hbl.out.size
      have hqs := HBY.out q (List.mem_of_getElem? hqk)
      clear hat hqk
      by_cases hlong : 512 < q.2.length
      · have hw : Hid (wantsD cn free ws = 3) := by
          unfold Hid wantsD
          rw [if_pos]
          unfold hasLong
          rw [List.any_eq_true]
          exact ⟨q, List.mem_of_getElem? HQ.out, by simpa using hlong⟩
        go_wp2_with fail
        go_ret
        exact ⟨by rw [hw.out]; rfl, hbl.out.alloc hbz _⟩
      · have hlong' : (q.2.length : Int) ≤ 512 := by omega
        go_wp2_with fail
        go_roundw
        case rel =>
          refine ⟨k + 1, by go_num, by omega, fun j p hj hp => ?_, hbl.out.alloc hbz _⟩
          by_cases e : j = k
          · subst e
            rw [HQ.out] at hp
            injection hp with hp
            rw [← hp]
            omega
          · exact hsh.out j p (by omega) hp
        case measure => simp [intOf]; omega
    · have hshort : Hid (∀ p ∈ ws, p.2.length ≤ 512) := fun p hp => by
        obtain ⟨j, hj, rfl⟩ := List.getElem_of_mem hp
        exact hsh.out j _ (by omega) (List.getElem?_eq_getElem hj)
      have hnl : Hid (hasLong ws = false) := by
        unfold Hid hasLong
        rw [List.any_eq_false]
        intro p hp
        have := hshort.out p hp
        simp
        omega
      clear hsh
      obtain ⟨w1, hw1⟩ : ∃ x, x = wr := ⟨_, rfl⟩
      subst hw1
      go_wp2_with fail
      go_loopw [7, 26] (fun o i wr => ∃ k fr : Nat, i = .int .i64 k ∧ o = .int .i64 fr ∧ k ≤ ws.length ∧ fr ≤ k ∧ Hid (freshN cn ws = (freshN (cn + fr) (ws.drop k)).map (· + fr)) ∧ Hid (Below w.heap.size w wr)) (fun _ i _ => ws.length - (intOf i).toNat)
      case atStart => exact ⟨0, 0, rfl, rfl, by omega, by omega, (by simp [Hid]), hbl.out⟩
      case round =>
        obtain ⟨k, fr, rfl, rfl, hk, hfk, hfr, hbl2⟩ := hrel
        by_cases hlt2 : k < ws.length
        · obtain ⟨q, hqk⟩ : ∃ q, ws[k]? = some q := ⟨ws[k], List.getElem?_eq_getElem hlt2⟩
          obtain ⟨b2, off2, c2', e2, _, _, hB2, hat⟩ := (HP.out.below hbl2.out).at (by omega)
          injection e2 with e2 _ e3
          subst e2 e3
          obtain ⟨d0, d1⟩ := hat k q hqk
          have hbz := hbl2.out.size
          have hst := hfr.out
          have hqe : ws[k] = q := by have := List.getElem?_eq_getElem hlt2; rw [hqk] at this; injection this with this; exact this.symm
          rw [List.drop_eq_getElem_cons hlt2, hqe, fresh_step] at hst
          have hbq := bounds_i64 (HWF.out q (List.mem_of_getElem? hqk))
          have hfk' : (fr : Int) ≤ 8 := by omega
          obtain ⟨qi, qs⟩ := q
          dsimp only at hst d0 d1 hbq
          clear hat hqk hqe hfr
          obtain ⟨hb1, hb2⟩ := hbq
          by_cases hbad : qi < 0 ∨ ((cn + fr : Nat) : Int) < qi
          · rw [if_pos hbad] at hst
            have hw : Hid (wantsD cn free ws = 1) := by
              unfold Hid wantsD
              rw [if_neg (by rw [hnl.out]; simp), hst]
            clear hst
            rcases hbad with h0 | h0
            · go_wp2_with fail
              go_ret
              exact ⟨by rw [hw.out]; rfl, hbl2.out.alloc hbz _⟩
            · have h1 : ¬ qi < 0 := by omega
              have h2 : (cn : Int) + fr < qi := by omega
              clear h0
              go_wp2_with fail
              go_ret
              exact ⟨by rw [hw.out]; rfl, hbl2.out.alloc hbz _⟩
          · rw [if_neg hbad] at hst
            have h1 : 0 ≤ qi := by omega
            have h2 : qi ≤ (cn : Int) + fr := by omega
            by_cases heq : qi = ((cn + fr : Nat) : Int)
            · rw [if_pos heq] at hst
              have HST := Lib.hid hst
              have h3 : (qi == (cn : Int) + fr) = true := by rw [beq_iff_eq]; omega
              clear hst hbad heq
              go_wp2_with fail
              go_roundw
              case rel => exact ⟨k + 1, fr + 1, by go_num, by go_num, by omega, by omega, HST.out, hbl2.out.alloc hbz _⟩
              case measure => simp [intOf]; omega
            · rw [if_neg heq] at hst
              have HST := Lib.hid hst
              have h3 : (qi == (cn : Int) + fr) = false := by rw [beq_eq_false_iff_ne]; omega
              clear hst hbad heq
              go_wp2_with fail
              go_roundw
              case rel => exact ⟨k + 1, fr, by go_num, rfl, by omega, by omega, HST.out, hbl2.out.alloc hbz _⟩
              case measure => simp [intOf]; omega
        · have hfs : Hid (freshN cn ws = some fr) := by
            have := hfr.out
            rw [List.drop_of_length_le (by omega)] at this
            unfold Hid
            rw [this]
            simp [freshN]
          clear hfr
          by_cases h0 : ws.length = 0
          · have hw : Hid (wantsD cn free ws = 0) := by
              unfold Hid wantsD
              rw [if_neg (by rw [hnl.out]; simp), hfs.out]
              simp only
              rw [if_pos (List.eq_nil_of_length_eq_zero h0)]
            have h0' : ((ws.length : Int) == 0) = true := by rw [h0]; rfl
            clear h0
            go_wp2_with fail
            go_ret
            exact ⟨by rw [hw.out]; rfl, hbl2.out⟩
          · have h0' : ((ws.length : Int) == 0) = false := by rw [beq_eq_false_iff_ne]; omega
            obtain ⟨r0, r1⟩ := recF_len HWF.out hshort.out (by omega)
            obtain ⟨m, hm⟩ : ∃ x, (recF ws).length = x := ⟨_, rfl⟩
            have hw : Hid (wantsD cn free ws = if free < (pagesOf m + fr : Nat) then 7 else 0) := by
              unfold Hid wantsD
              rw [if_neg (by rw [hnl.out]; simp), hfs.out]
              simp only
              rw [if_neg (fun e => h0 (by rw [e]; rfl)), hm]
            obtain ⟨rf, hrf⟩ : ∃ x, recF ws = x := ⟨_, rfl⟩
            rw [hrf] at hm r0 r1
            have HRF := Lib.hid hrf
            have hfr8 : (fr : Int) ≤ 8 := by omega
            have hm' : (m : Int) ≤ 4300 := by omega
            have hmr : ((rf.length : Nat) : Int) = m := by omega
            have HRC := Lib.hid (precord_any _ ws wr (HP.out.below hbl2.out |>.more hbl2.out.size) hshort.out hl)
            have hrt : (recT ws).length ≤ 4300 := by have := frm_ge (recT ws); have e : (frm (recT ws)).length = rf.length := by rw [← hrf]; rfl
                                                     omega
            have HFM := Lib.hid (fun W => rframe_any (recT ws) W (by omega))
            have hfe : frm (recT ws) = rf := hrf
            rw [hfe] at HFM
            clear h0 hrf hfe hm
            by_cases hroom : free < (m : Int) / 512 + ((m : Int) % 512 + 511) / 512 + fr
            · have hq7 : Hid (wantsD cn free ws = 7) := by unfold Hid; rw [hw.out, if_pos (by unfold pagesOf; omega)]
              go_wp2_with (first
                | (go_at_call 24; refine HRC.out.mono ?_; rintro e w5 ⟨rfl, hb5⟩; have HB5 := Lib.hid (hbl2.out.trans (hb5.mono hbl2.out.size)); clear hb5)
                | (go_at_call 23; refine (HFM.out _).mono ?_; rintro e w6 ⟨rfl, hb6⟩; have HB6 := Lib.hid (HB5.out.trans (hb6.mono HB5.out.size)); clear hb6))
              go_ret
              exact ⟨by rw [hq7.out]; rfl, HB6.out⟩
            · have hroom' : (m : Int) / 512 + ((m : Int) % 512 + 511) / 512 + fr ≤ free := by omega
              have hq7 : Hid (wantsD cn free ws = 0) := by unfold Hid; rw [hw.out, if_neg (by unfold pagesOf; omega)]
              go_wp2_with (first
                | (go_at_call 24; refine HRC.out.mono ?_; rintro e w5 ⟨rfl, hb5⟩; have HB5 := Lib.hid (hbl2.out.trans (hb5.mono hbl2.out.size)); clear hb5)
                | (go_at_call 23; refine (HFM.out _).mono ?_; rintro e w6 ⟨rfl, hb6⟩; have HB6 := Lib.hid (HB5.out.trans (hb6.mono HB5.out.size)); clear hb6))
              go_ret
              exact ⟨by rw [hq7.out]; rfl, HB6.out⟩

end Go.Proofs.YtkbmajgbhpecgaaGreatDoor.Cd

/-
  PagerCommits answers true. Conditions: none.
-/
namespace Go.Proofs.YtkbmajgbhpecgaaGreatDoor.Cd
open Go.RowKit

theorem recT_le {ws : Pgs} (hw : wfP ws) (hl : ∀ p ∈ ws, p.2.length ≤ 32768) (hn : ws.length ≤ 8) : pagesOf (recF ws).length ≤ 520 := by
  have h0 := enc_u64 (zig (ws.length : Int)) (zig_lt (by omega) (by omega))
  have h1 : ∀ l : Pgs, (∀ p ∈ l, (Lit.int .i64 p.1).wf = true ∧ p.2.length ≤ 32768) → ((l.map recP).flatten).length ≤ 32788 * l.length := by
    intro l
    induction l with
    | nil => intro _; simp
    | cons p r ih =>
      intro h
      have h2 := ih fun q hq => h q (List.mem_cons_of_mem _ hq)
      obtain ⟨h3, h4⟩ := h p List.mem_cons_self
      have hb := bounds_i64 h3
      have h5 := enc_u64 _ (zig_lt hb.1 hb.2)
      have h6 := enc_u64 p.2.length (by omega)
      simp only [List.map_cons, List.flatten_cons, List.length_append, recP, List.length_cons]
      omega
  have h2 := h1 ws fun p hp => ⟨hw p hp, hl p hp⟩
  have h3 : (recT ws).length ≤ 10 + 32788 * ws.length := by
    unfold recT
    rw [List.length_append]
    omega
  have h4 := frm_le (recT ws) (by omega)
  unfold recF pagesOf
  omega

theorem OwnS.off {T : Nat → Prop} {w w' : World} {B : Nat} {v : Value} {l : List (List UInt8)} (h : OwnS w B v l) (ha : Apart T w w') (hT : ∀ b, v.ownBlock = some b → ¬ T b) : OwnS w' B v l := by
  have hlt := h.lt
  refine ⟨h.1, ?_⟩
  rcases h.2 with h2 | ⟨g, cap, cur, rfl, hg, hh, r⟩
  · exact .inl h2
  · exact .inr ⟨g, cap, cur, rfl, hg, (ha.block g (hlt g rfl).2 (hT g rfl)).trans hh, r⟩

/-- Between two steps: the pager, its disk, the pages as they must be. -/
structure Mid (w : World) (g p r k : Nat) (D : Dsk) (v : Value) (wr : World) (T : Nat → Prop) : Prop where
  disk : DkS wr g (2200 * k) T D
  pager : PgrAt wr T p g [102]
  low : ∀ j, T j → w.heap.size ≤ j
  own : OwnS wr w.heap.size v (pagesF D.now [102])
  apart : ∀ b, v.ownBlock = some b → ¬ T b
  roomy : Roomy D r (pagesF D.now [102]).length
  fits : (pagesF D.now [102]).length ≤ r
  bare : Bare D [102]
  below : Below w.heap.size w wr

section
variable {w w4 w5 : World} {g p r k : Nat} {D : Dsk} {v val : Value} {e : Ending} {T : Nat → Prop} {ws : Pgs}
theorem Mid.over (h : Mid w g p r k D v w4 T) (hb : Below w4.heap.size w4 w5) : Mid w g p r k D v w5 T :=
  ⟨h.disk.below hb, h.pager.below hb, h.low, h.own.keep hb, h.apart, h.roomy, h.fits, h.bare, h.below.trans (hb.mono h.below.size)⟩

theorem Mid.same (h : Mid w g p r k D v w4 T) (hz : (commitD D [102] ws).2 ≠ 0) (hm : MakesD g (2200 * (k + 1)) T (commitD D [102] ws).1 val w4 e w5) : Mid w g p r (k + 1) D v w5 (since T w4 w5) := by
  have hD : (commitD D [102] ws).1 = D := by
    rcases h.roomy.commit h.bare ws with ⟨_, h1⟩ | ⟨_, _, _, _, h1, _⟩
    · exact h1
    · exact absurd h1 hz
  rw [hD] at hm
  refine ⟨hm.2.1, h.pager.apart hm.2.2, fun j hj => ?_, OwnS.off h.own hm.2.2 h.apart, fun b hb ht => ?_, h.roomy, h.fits, h.bare, h.below.trans (hm.2.2.low h.below.size h.low)⟩
  · rcases hj with hj | hj
    · exact h.low j hj
    · have := h.below.size; omega
  · rcases ht with ht | ht
    · exact h.apart b hb ht
    · have := (h.own.lt b hb).2; omega

theorem Mid.done (h : Mid w g p r k D v w4 T) (hz : (commitD D [102] ws).2 = 0) (hm : MakesD g (2200 * (k + 1)) T (commitD D [102] ws).1 val w4 e w5) :
    ∃ f, freshN (pagesF D.now [102]).length ws = some f ∧ pagesF (commitD D [102] ws).1.now [102] = laidP (pagesF D.now [102]) ws ∧ (∀ q ∈ ws, q.2.length ≤ 512) ∧
      OwnS w5 w.heap.size v (pagesF D.now [102]) ∧ ∀ v' w6, OwnS w6 w5.heap.size v' (laidP (pagesF D.now [102]) ws) → Below w5.heap.size w5 w6 → Mid w g p r (k + 1) (commitD D [102] ws).1 v' w6 (since T w4 w5) := by
  rcases h.roomy.commit h.bare ws with ⟨h1, _⟩ | ⟨f, h1, h2, h3, _, h4, h5, h6⟩
  · exact absurd hz h1
  · have hpg := (h6 [102] (by decide) (by decide)).1
    rw [if_pos rfl] at hpg
    have hlen := fresh_len ws _ f h2
    have hbz := h.below.size
    refine ⟨f, h2, hpg, hasLong_none h1, OwnS.off h.own hm.2.2 h.apart, fun v' w6 ho hb => ?_⟩
    have hlow : ∀ j, since T w4 w5 j → w.heap.size ≤ j := fun j hj => by
      rcases hj with hj | hj
      · exact h.low j hj
      · omega
    have hz5 := hm.2.2.size
    refine ⟨hm.2.1.below hb, (h.pager.apart hm.2.2).below hb, hlow, by rw [hpg]; exact ho.lower (by omega), fun b hb2 ht => ?_, by rw [hpg, hlen]; exact h4, ?_, h5, (h.below.trans (hm.2.2.low hbz h.low)).trans (hb.mono (by omega))⟩
    · have h7 := (ho.lt b hb2).1
      have h8 := hm.2.1.lt b ht
      omega
    · rw [hpg, hlen]
      by_cases hws : ws = []
      · subst hws
        injection h2 with h2
        have := h.fits
        omega
      · have := h3 hws
        omega
end

end Go.Proofs.YtkbmajgbhpecgaaGreatDoor.Cd

namespace Go.Proofs.YtkbmajgbhpecgaaGreatDoor.PagerCommits
open Go.RowKit Go.Proofs.YtkbmajgbhpecgaaGreatDoor.Cd

end Go.Proofs.YtkbmajgbhpecgaaGreatDoor.PagerCommits

/-
  Two pagers on one disk, between two steps. Conditions: none.
-/
namespace Go.Proofs.YtkbmajgbhpecgaaGreatDoor.Cd
open Go.RowKit

/-- The names of two files, their journals and drafts: none is another's. -/
def Away (n m : List UInt8) : Prop := ∀ a ∈ [m, jnl m, drf m], a ≠ n ∧ a ≠ jnl n ∧ a ≠ drf n

/-- Two pagers, of the files n and m, on one disk; v and u are their pages. -/
structure Duo (w : World) (g p q k : Nat) (n m : List UInt8) (D : Dsk) (v u : Value) (wr : World) (T : Nat → Prop) : Prop where
  disk : DkS wr g (2200 * k) T D
  pager : PgrAt wr T p g n
  other : PgrAt wr T q g m
  low : ∀ j, T j → w.heap.size ≤ j
  own : OwnS wr w.heap.size v (pagesF D.now n)
  apart : ∀ b, v.ownBlock = some b → ¬ T b
  own2 : OwnS wr w.heap.size u (pagesF D.now m)
  apart2 : ∀ b, u.ownBlock = some b → ¬ T b
  roomy : Roomy D 200 ((pagesF D.now n).length + (pagesF D.now m).length)
  fits : (pagesF D.now n).length + (pagesF D.now m).length ≤ 200
  bare : Bare D n
  bare2 : Bare D m
  below : Below w.heap.size w wr

section
variable {w w4 w5 : World} {g p q k : Nat} {n m : List UInt8} {D : Dsk} {v u val : Value} {e : Ending} {T : Nat → Prop} {ws : Pgs}
theorem Duo.swap (h : Duo w g p q k n m D v u w4 T) : Duo w g q p k m n D u v w4 T :=
  ⟨h.disk, h.other, h.pager, h.low, h.own2, h.apart2, h.own, h.apart, by rw [Nat.add_comm]; exact h.roomy, by rw [Nat.add_comm]; exact h.fits, h.bare2, h.bare, h.below⟩
theorem Duo.over (h : Duo w g p q k n m D v u w4 T) (hb : Below w4.heap.size w4 w5) : Duo w g p q k n m D v u w5 T :=
  ⟨h.disk.below hb, h.pager.below hb, h.other.below hb, h.low, h.own.keep hb, h.apart, h.own2.keep hb, h.apart2, h.roomy, h.fits, h.bare, h.bare2, h.below.trans (hb.mono h.below.size)⟩

theorem Duo.step (h : Duo w g p q k n m D v u w4 T) (hk : k ≤ 100) : Duo w g p q (k + 1) n m D v u w4 T :=
  ⟨h.disk.mono (by omega) (by omega), h.pager, h.other, h.low, h.own, h.apart, h.own2, h.apart2, h.roomy, h.fits, h.bare, h.bare2, h.below⟩
theorem Duo.reopen {p2 : Nat} (h : Duo w g p q k n m D v u w4 T) (hp : PgrAt w5 T p2 g n) (hb : Below w4.heap.size w4 w5) : Duo w g p2 q k n m D v u w5 T :=
  have h2 := h.over hb
  ⟨h2.disk, hp, h2.other, h2.low, h2.own, h2.apart, h2.own2, h2.apart2, h2.roomy, h2.fits, h2.bare, h2.bare2, h2.below⟩

/-- Behind a commit. -/
theorem Duo.done (h : Duo w g p q k n m D v u w4 T) (ha : Away n m) {v' : Value} (hv : OwnS w4 w.heap.size v' (laidP (pagesF D.now n) ws)) (hva : ∀ b, v'.ownBlock = some b → ¬ T b) (hz : (commitD D n ws).2 = 0) (hm : MakesD g (2200 * (k + 1)) T (commitD D n ws).1 val w4 e w5) :
    Duo w g p q (k + 1) n m (commitD D n ws).1 v' u w5 (since T w4 w5) := by
  rcases h.roomy.commit h.bare ws with ⟨h1, _⟩ | ⟨f, h1, h2, h3, _, h4, h5, h6⟩
  · exact absurd hz h1
  · have hpg := (h6 n (fun e => jnl_ne n e.symm) (fun e => drf_ne n e.symm)).1
    rw [if_pos rfl] at hpg
    obtain ⟨m1, m2, m3⟩ := ha m (by simp)
    obtain ⟨j1, j2, j3⟩ := ha (jnl m) (by simp)
    obtain ⟨d1, d2, d3⟩ := ha (drf m) (by simp)
    have hpm := (h6 m m2 m3).1
    rw [if_neg m1] at hpm
    have hjm := (h6 (jnl m) j2 j3).2
    rw [if_neg (fun e => j1 e.1)] at hjm
    have hdm := (h6 (drf m) d2 d3).2
    rw [if_neg (fun e => d1 e.1)] at hdm
    have hlen := fresh_len ws _ f h2
    have hbz := h.below.size
    have hsum : (pagesF (commitD D n ws).1.now n).length + (pagesF (commitD D n ws).1.now m).length = (pagesF D.now n).length + (pagesF D.now m).length + f := by rw [hpg, hpm, hlen]; omega
    have hnew : ∀ (x : Value) (l : List (List UInt8)), OwnS w4 w.heap.size x l → (∀ b, x.ownBlock = some b → ¬ T b) → ∀ b, x.ownBlock = some b → ¬ since T w4 w5 b := fun x l ho hx b hb ht => by
      rcases ht with ht | ht
      · exact hx b hb ht
      · have := (ho.lt b hb).2; omega
    refine ⟨hm.2.1, h.pager.apart hm.2.2, h.other.apart hm.2.2, fun j hj => ?_, by rw [hpg]; exact OwnS.off hv hm.2.2 hva, hnew _ _ hv hva, by rw [hpm]; exact OwnS.off h.own2 hm.2.2 h.apart2, hnew _ _ h.own2 h.apart2, by rw [hsum]; exact h4, ?_, h5, ⟨by rw [hdm]; exact h.bare2.draft, by rw [hjm]; exact h.bare2.journal⟩, h.below.trans (hm.2.2.low hbz h.low)⟩
    · rcases hj with hj | hj
      · exact h.low j hj
      · omega
    · rw [hsum]
      by_cases hws : ws = []
      · subst hws
        injection h2 with h2
        have := h.fits
        omega
      · have := h3 hws
        omega
end
theorem away_fg : Away [102] [103] := by unfold Away; decide
theorem away_gf : Away [103] [102] := by unfold Away; decide

end Go.Proofs.YtkbmajgbhpecgaaGreatDoor.Cd

/-
  PagerAgain answers true. Conditions: none.
-/
namespace Go.Proofs.YtkbmajgbhpecgaaGreatDoor.Cd
open Go.RowKit

theorem Duo.some {w : World} {g p q k : Nat} {n m : List UInt8} {D : Dsk} {v u : Value} {wr : World} {T : Nat → Prop} (h : Duo w g p q k n m D v u wr T) : ∃ D T, Hid (Duo w g p q k n m D v u wr T) := ⟨D, T, h⟩

set_option maxRecDepth 100000 in
set_option maxHeartbeats 12800000 in
theorem pa_main (v : Value) (l : List Stp) (w : World) (h : Steps w w.heap.size v l) (hok : ∀ p ∈ l, p.Ok) :
    Calls Tryz.prog 5 #[v] w (Gives (.bool true) w) := by
  obtain ⟨A, c, rfl, hm1, hm, _, hp⟩ := id h
  have hm : c ≤ 9223372036854775807 := hm
  have H := Lib.hid h
  have HOK := Lib.hid hok
  have HP := Lib.hid hp
  clear h hok hp
  go_enter Tryz.func5, Tryz.ntmps5
  go_wp2_with fail
  refine (palive_any w).mono ?_
  rintro e w1 ⟨rfl, hb1⟩
  have HB1 := Lib.hid hb1
  have HG := Lib.hid (great6_any _ l w1 (by obtain ⟨A', c', h1, h2, h3, h4, h5⟩ := H.out.below hb1; exact ⟨A', c', h1, h2, h3, h4, fun h0 => by obtain ⟨b, off, e, hB, hc⟩ := h5 h0; exact ⟨b, off, e, Nat.lt_of_lt_of_le hB hb1.size, fun i q hi => by obtain ⟨u, hu, hx⟩ := hc i q hi; exact ⟨u, hu.more hb1.size, hx⟩⟩⟩) HOK.out)
  clear hb1
  go_wp2_with fail
  refine HG.out.mono ?_
  rintro e w2 ⟨gr, rfl, hb2, hsm⟩
  have HB2 := Lib.hid (HB1.out.trans (hb2.mono HB1.out.size))
  clear hb2
  cases gr
  · have HSM := Lib.hid (hsm rfl)
    clear hsm
    go_wp2_with fail
    refine (new_dks 200 w2 (by omega) (by omega)).mono ?_
    rintro e w3 ⟨g, S, rfl, hd, hS, hb3⟩
    have HD := Lib.hid hd
    have HS := Lib.hid hS
    have HB3 := Lib.hid (HB2.out.trans (hb3.mono HB2.out.size))
    have hz3 := hb3.size
    clear hd hS hb3
    go_wp2_with fail
    refine (open_bare g 0 [102] S (newD 200) w3 HD.out rfl (by simp) (bare_new _ _)).mono ?_
    rintro e w4 ⟨rfl, hpg, hb4⟩
    obtain ⟨p, hp0⟩ : ∃ x, w3.heap.size = x := ⟨_, rfl⟩
    rw [hp0] at hpg ⊢
    have HD4 := Lib.hid (HD.out.below hb4)
    have HB4 := Lib.hid (HB3.out.trans (hb4.mono HB3.out.size))
    have HP4 := Lib.hid hpg
    clear hpg hb4
    go_wp2_with fail
    refine (open_bare g 0 [103] S (newD 200) w4 HD4.out rfl (by simp) (bare_new _ _)).mono ?_
    rintro e w5 ⟨rfl, hqg, hb5⟩
    obtain ⟨q, hq0⟩ : ∃ x, w4.heap.size = x := ⟨_, rfl⟩
    rw [hq0] at hqg ⊢
    have hz2 := HB2.out.size
    have HMID : Hid (Duo w g p q 0 [102] [103] (newD 200) (.slice none 0 0) (.slice none 0 0) w5 S) := by
      refine Lib.hid ⟨HD4.out.below hb5, HP4.out.below hb5, hqg, fun j hj => by have := HS.out j hj; omega, OwnS.nil _ _, fun b hb => (by cases hb), OwnS.nil _ _, fun b hb => (by cases hb), new_roomy (room := 200) (by omega), Nat.zero_le _, bare_new _ _, bare_new _ _, HB4.out.trans (hb5.mono HB4.out.size)⟩
    clear hqg hb5 HD4 HB4 HP4 HD HB3
    go_wp2_with fail
    go_loopw [4, 7, 8, 9, 33] (fun pv ev av bv i wr => ∃ (k : Nat) (D : Dsk) (T : Nat → Prop) (p : Nat), pv = .pointer (some ⟨p, 0, none⟩) ∧ ev = .int .i64 0 ∧ i = .int .i64 k ∧ k ≤ l.length ∧ Hid (Duo w g p q k [102] [103] D av bv wr T)) (fun _ _ _ _ i _ => l.length - (intOf i).toNat)
    case atStart => exact ⟨0, newD 200, S, p, rfl, rfl, rfl, by omega, HMID.out⟩
    case round =>
      obtain ⟨k, D, T, p, rfl, rfl, rfl, hk, hmid⟩ := hrel
      clear HMID HS HB1 HG
      have hl12 : l.length ≤ 12 := HSM.out.1
      by_cases hlt : k < l.length
      · obtain ⟨b, off, rfl, hB, hc⟩ := HP.out (by omega)
        obtain ⟨s, hsk⟩ : ∃ s, l[k]? = some s := ⟨l[k], List.getElem?_eq_getElem hlt⟩
        obtain ⟨u, hsl, hcu⟩ := hc k s hsk
        have hbl := hmid.out.below
        have hbz := hbl.size
        have hpg := hsl.below hbl
        obtain ⟨Au, cu, rfl, hcu1, hcu2⟩ := hsl.len
        have hcell : ∀ (j : Nat) x, (s.cells (.slice Au s.pages.length cu))[j]? = some x → wr.cell? ⟨b, off + k * 3 + j, none⟩ = some x := fun j x hx => (hbl.cell (p := ⟨b, off + k * 3 + j, none⟩) hB).trans (hcu j x hx)
        have c0 : wr.cell? ⟨b, off + k * 3, none⟩ = some (.slice Au s.pages.length cu) := hcell 0 _ rfl
        have c1 := hcell 1 _ rfl
        have c2 := hcell 2 _ rfl
        have hsmall := HSM.out.2 s (List.mem_of_getElem? hsk)
        have hwf : wfP s.pages := by obtain ⟨_, _, _, _, _, h4, _⟩ := hsl; exact h4
        obtain ⟨w5, hw5⟩ : ∃ x, wr.alloc (.cells #[.slice Au s.pages.length cu, .int .i64 s.fuse, .int .u64 s.keep] 36) = x := ⟨_, rfl⟩
        have hb5 : Below wr.heap.size wr w5 := by rw [← hw5]; exact (Below.refl _ _).alloc (Nat.le_refl _) _
        have hrow5 : w5.heap[wr.heap.size]? = some (.cells #[.slice Au s.pages.length cu, .int .i64 s.fuse, .int .u64 s.keep] 36) := by rw [← hw5]; exact heap_alloc_new _ _
        have f0 : w5.cell? ⟨wr.heap.size, 0, none⟩ = some (.slice Au s.pages.length cu) := cell_of_row _ _ 0 _ _ _ hrow5
        have f1 : w5.cell? ⟨wr.heap.size, 1, none⟩ = some (.int .i64 s.fuse) := cell_of_row _ _ 1 _ _ _ hrow5
        have f2 : w5.cell? ⟨wr.heap.size, 2, none⟩ = some (.int .u64 s.keep) := cell_of_row _ _ 2 _ _ _ hrow5
        clear hrow5
        have HM5 := Lib.hid (hmid.out.over hb5)
        have HW := Lib.hid (writes_any s (.slice Au s.pages.length cu) w5 (by obtain ⟨A', c', h1, h2, h3, h4, h5⟩ := hpg.below (hb5.mono hbz); exact ⟨A', c', h1, h2, h3, h4, fun h0 => by obtain ⟨b', off', e, hB', hc'⟩ := h5 h0; exact ⟨b', off', e, Nat.lt_of_lt_of_le hB' (Nat.le_trans hbz hb5.size), hc'⟩⟩) hsmall)
        obtain ⟨ws, hws⟩ : ∃ x, wsOf s.pages = x := ⟨_, rfl⟩
        have hwl : ws.length ≤ 8 := by rw [← hws]; exact Nat.le_trans (wsOf_len _) hsmall.1
        have HWF : Hid (wfP ws) := by rw [← hws]; exact wsOf_wf hwf
        have HWB : Hid (∀ q ∈ ws, q.2.length ≤ 32768) := by rw [← hws]; exact fun q hq => Nat.le_trans (bytesP_mem (wsOf_sub q hq)) hsmall.2
        rw [hws] at HW
        have hrec := Lib.hid (recT_le HWF.out HWB.out hwl)
        have hfit := hmid.out.fits
        have hfree := hmid.out.roomy.free
        obtain ⟨P, hP⟩ : ∃ x, pagesF D.now [102] = x := ⟨_, rfl⟩
        obtain ⟨Q, hQ⟩ : ∃ x, pagesF D.now [103] = x := ⟨_, rfl⟩
        obtain ⟨A8, c8, rfl, hc81, hc82⟩ := HM5.out.own.strs.len
        obtain ⟨B8, d8, rfl, hd81, hd82⟩ := HM5.out.own2.strs.len
        rw [hP] at hfit hfree hc81 HM5
        rw [hQ] at hfit hfree hd81 HM5
        rw [hP, hQ]
        have HPP := Lib.hid hP
        have HQQ := Lib.hid hQ
        obtain ⟨fr, hfr⟩ : ∃ x, freeD D = x := ⟨_, rfl⟩
        rw [hfr] at hfree
        have HFR := Lib.hid hfr
        have hf1 : -1000000 ≤ fr := by omega
        have hf2 : fr ≤ 1000000 := by omega
        have hkk : (k : Int) ≤ 12 := by omega
        clear hc hcell hcu hsl hpg hwf hsk hP hQ hfr hfree hb5 hbl hmid
        rcases Nat.mod_two_eq_zero_or_one k with hev | hev
        case' inl =>
          have hv0 : ((k : Int) % 2 == 0) = true := by rw [beq_iff_eq]; omega
          clear hev
          have H5 := Lib.hid HM5.out
          have hans := H5.out.roomy.answers H5.out.bare ws
          rw [HPP.out, HFR.out] at hans
          obtain ⟨wa, hwa⟩ : ∃ x, wantsD P.length fr ws = x := ⟨_, rfl⟩
          rw [hwa] at hans
          have HANS := Lib.hid hans
          have HWA := Lib.hid hwa
          clear hans hwa
          by_cases hwz : wa = 0
          case' pos =>
            have hw0 : ((wa : Int) == 0) = true := by rw [hwz]; rfl
            have HZ := Lib.hid hwz
            clear hwz
            go_wp2_with fail
            refine HW.out.mono ?_
            rintro e w6 ⟨mb, mv, rfl, hmp, hop, hb6⟩
            have HMP := Lib.hid hmp
            have HOP := Lib.hid hop
            have HM6 := Lib.hid (H5.out.over hb6)
            have HFD := Lib.hid (free_dks g (2200 * k) T D w6 HM6.out.disk)
            clear hmp hop hb6
            go_wp2_with fail
            refine HFD.out.mono ?_
            rintro e w7 ⟨rfl, hb7⟩
            rw [HFR.out]
            have HM7 := Lib.hid (HM6.out.over hb7)
            have HOP7 := Lib.hid (HOP.out.keep hb7)
            have HMP7 := Lib.hid (HMP.out.below hb7)
            have HWN := Lib.hid (pwants_any mv ws P.length fr w7 HOP7.out.pgs hwl (by omega) ⟨hf1, hf2⟩ HWB.out)
            rw [HWA.out] at HWN
            clear hb7
            go_wp2_with fail
            refine HWN.out.mono ?_
            rintro e w8 ⟨rfl, hb8⟩
            have HM8 := Lib.hid (HM7.out.over hb8)
            have HOP8 := Lib.hid (HOP7.out.keep hb8)
            have HMP8 := Lib.hid ((HMP7.out.below hb8).less (T := T) (fun j _ ht => H5.out.disk.lt j ht))
            clear hb8
            have hz8 : (commitD D [102] ws).2 = 0 := HANS.out.trans HZ.out
            obtain ⟨f, d1, d3⟩ : ∃ f, freshN P.length ws = some f ∧ ∀ q ∈ ws, q.2.length ≤ 512 := by
              rcases HM8.out.roomy.commit HM8.out.bare ws with ⟨h1, _⟩ | ⟨f, h1, h2, _⟩
              · exact absurd hz8 h1
              · rw [HPP.out] at h2; exact ⟨f, h2, hasLong_none h1⟩
            have HZ8 := Lib.hid hz8
            have HLD := Lib.hid (plaid_any (.slice A8 P.length c8) mv P ws f w8 (by have := HM8.out.own.strs; rw [HPP.out] at this; exact this) HOP8.out.pgs d1 d3 hwl (by omega))
            clear d1 d3 hz8
            go_wp2_with fail
            refine HLD.out.mono ?_
            rintro e w9 ⟨v2, rfl, ho9, hb9⟩
            have HO9 := Lib.hid ho9
            have HM9 := Lib.hid (HM8.out.over hb9)
            have HT9 : Hid (∀ b, v2.ownBlock = some b → ¬ T b) := (fun b hb ht => by have h1 := (ho9.lt b hb).1; have h2 := HM8.out.disk.lt b ht; omega)
            have hz9 := HM8.out.below.size
            have HCM := Lib.hid (commit_p p g (2200 * k) (2200 * (k + 1)) mb [102] ws T D w9 HM9.out.pager HM9.out.disk (by simp) (HMP8.out.below hb9) (by omega) (by have := hrec.out; omega) (by omega))
            rw [HZ8.out] at HCM
            clear ho9 hb9
            go_wp2_with fail
            refine HCM.out.mono ?_
            intro e w10 hm10
            obtain rfl := hm10.1
            have HM10 := Lib.hid hm10
            clear hm10
            have HT := Lib.hid (HM9.out.done away_fg (ws := ws) (v' := v2) (by rw [HPP.out]; exact HO9.out.lower hz9) HT9.out HZ8.out HM10.out)
            skip
            clear HM10 HO9 HT9 HLD hz9
            go_wp2_with fail
          case' neg =>
            have hw0 : ((wa : Int) == 0) = false := by rw [beq_eq_false_iff_ne]; omega
            have HZ := Lib.hid hwz
            clear hwz
            go_wp2_with fail
            refine HW.out.mono ?_
            rintro e w6 ⟨mb, mv, rfl, hmp, hop, hb6⟩
            have HMP := Lib.hid hmp
            have HOP := Lib.hid hop
            have HM6 := Lib.hid (H5.out.over hb6)
            have HFD := Lib.hid (free_dks g (2200 * k) T D w6 HM6.out.disk)
            clear hmp hop hb6
            go_wp2_with fail
            refine HFD.out.mono ?_
            rintro e w7 ⟨rfl, hb7⟩
            rw [HFR.out]
            have HM7 := Lib.hid (HM6.out.over hb7)
            have HOP7 := Lib.hid (HOP.out.keep hb7)
            have HMP7 := Lib.hid (HMP.out.below hb7)
            have HWN := Lib.hid (pwants_any mv ws P.length fr w7 HOP7.out.pgs hwl (by omega) ⟨hf1, hf2⟩ HWB.out)
            rw [HWA.out] at HWN
            clear hb7
            go_wp2_with fail
            refine HWN.out.mono ?_
            rintro e w10 ⟨rfl, hb8⟩
            have HM8 := Lib.hid (HM7.out.over hb8)
            have HOP8 := Lib.hid (HOP7.out.keep hb8)
            have HMP8 := Lib.hid ((HMP7.out.below hb8).less (T := T) (fun j _ ht => H5.out.disk.lt j ht))
            clear hb8
            have HT := Lib.hid (HM8.out.step (by omega))
            go_wp2_with fail
        case' inr =>
          have hv0 : ((k : Int) % 2 == 0) = false := by rw [beq_eq_false_iff_ne]; omega
          clear hev
          have H5 := Lib.hid HM5.out.swap
          have hans := H5.out.roomy.answers H5.out.bare ws
          rw [HQQ.out, HFR.out] at hans
          obtain ⟨wa, hwa⟩ : ∃ x, wantsD Q.length fr ws = x := ⟨_, rfl⟩
          rw [hwa] at hans
          have HANS := Lib.hid hans
          have HWA := Lib.hid hwa
          clear hans hwa
          by_cases hwz : wa = 0
          case' pos =>
            have hw0 : ((wa : Int) == 0) = true := by rw [hwz]; rfl
            have HZ := Lib.hid hwz
            clear hwz
            go_wp2_with fail
            refine HW.out.mono ?_
            rintro e w6 ⟨mb, mv, rfl, hmp, hop, hb6⟩
            have HMP := Lib.hid hmp
            have HOP := Lib.hid hop
            have HM6 := Lib.hid (H5.out.over hb6)
            have HFD := Lib.hid (free_dks g (2200 * k) T D w6 HM6.out.disk)
            clear hmp hop hb6
            go_wp2_with fail
            refine HFD.out.mono ?_
            rintro e w7 ⟨rfl, hb7⟩
            rw [HFR.out]
            have HM7 := Lib.hid (HM6.out.over hb7)
            have HOP7 := Lib.hid (HOP.out.keep hb7)
            have HMP7 := Lib.hid (HMP.out.below hb7)
            have HWN := Lib.hid (pwants_any mv ws Q.length fr w7 HOP7.out.pgs hwl (by omega) ⟨hf1, hf2⟩ HWB.out)
            rw [HWA.out] at HWN
            clear hb7
            go_wp2_with fail
            refine HWN.out.mono ?_
            rintro e w8 ⟨rfl, hb8⟩
            have HM8 := Lib.hid (HM7.out.over hb8)
            have HOP8 := Lib.hid (HOP7.out.keep hb8)
            have HMP8 := Lib.hid ((HMP7.out.below hb8).less (T := T) (fun j _ ht => H5.out.disk.lt j ht))
            clear hb8
            have hz8 : (commitD D [103] ws).2 = 0 := HANS.out.trans HZ.out
            obtain ⟨f, d1, d3⟩ : ∃ f, freshN Q.length ws = some f ∧ ∀ q ∈ ws, q.2.length ≤ 512 := by
              rcases HM8.out.roomy.commit HM8.out.bare ws with ⟨h1, _⟩ | ⟨f, h1, h2, _⟩
              · exact absurd hz8 h1
              · rw [HQQ.out] at h2; exact ⟨f, h2, hasLong_none h1⟩
            have HZ8 := Lib.hid hz8
            have HLD := Lib.hid (plaid_any (.slice B8 Q.length d8) mv Q ws f w8 (by have := HM8.out.own.strs; rw [HQQ.out] at this; exact this) HOP8.out.pgs d1 d3 hwl (by omega))
            clear d1 d3 hz8
            go_wp2_with fail
            refine HLD.out.mono ?_
            rintro e w9 ⟨v2, rfl, ho9, hb9⟩
            have HO9 := Lib.hid ho9
            have HM9 := Lib.hid (HM8.out.over hb9)
            have HT9 : Hid (∀ b, v2.ownBlock = some b → ¬ T b) := (fun b hb ht => by have h1 := (ho9.lt b hb).1; have h2 := HM8.out.disk.lt b ht; omega)
            have hz9 := HM8.out.below.size
            have HCM := Lib.hid (commit_p q g (2200 * k) (2200 * (k + 1)) mb [103] ws T D w9 HM9.out.pager HM9.out.disk (by simp) (HMP8.out.below hb9) (by omega) (by have := hrec.out; omega) (by omega))
            rw [HZ8.out] at HCM
            clear ho9 hb9
            go_wp2_with fail
            refine HCM.out.mono ?_
            intro e w10 hm10
            obtain rfl := hm10.1
            have HM10 := Lib.hid hm10
            clear hm10
            have HT := Lib.hid (HM9.out.done away_gf (ws := ws) (v' := v2) (by rw [HQQ.out]; exact HO9.out.lower hz9) HT9.out HZ8.out HM10.out)
            replace HT := Lib.hid HT.out.swap
            clear HM10 HO9 HT9 HLD hz9
            go_wp2_with fail
          case' neg =>
            have hw0 : ((wa : Int) == 0) = false := by rw [beq_eq_false_iff_ne]; omega
            have HZ := Lib.hid hwz
            clear hwz
            go_wp2_with fail
            refine HW.out.mono ?_
            rintro e w6 ⟨mb, mv, rfl, hmp, hop, hb6⟩
            have HMP := Lib.hid hmp
            have HOP := Lib.hid hop
            have HM6 := Lib.hid (H5.out.over hb6)
            have HFD := Lib.hid (free_dks g (2200 * k) T D w6 HM6.out.disk)
            clear hmp hop hb6
            go_wp2_with fail
            refine HFD.out.mono ?_
            rintro e w7 ⟨rfl, hb7⟩
            rw [HFR.out]
            have HM7 := Lib.hid (HM6.out.over hb7)
            have HOP7 := Lib.hid (HOP.out.keep hb7)
            have HMP7 := Lib.hid (HMP.out.below hb7)
            have HWN := Lib.hid (pwants_any mv ws Q.length fr w7 HOP7.out.pgs hwl (by omega) ⟨hf1, hf2⟩ HWB.out)
            rw [HWA.out] at HWN
            clear hb7
            go_wp2_with fail
            refine HWN.out.mono ?_
            rintro e w10 ⟨rfl, hb8⟩
            have HM8 := Lib.hid (HM7.out.over hb8)
            have HOP8 := Lib.hid (HOP7.out.keep hb8)
            have HMP8 := Lib.hid ((HMP7.out.below hb8).less (T := T) (fun j _ ht => H5.out.disk.lt j ht))
            clear hb8
            have HT := Lib.hid (HM8.out.swap.step (by omega))
            go_wp2_with fail
        all_goals
          obtain ⟨D2, T2, HT⟩ := Duo.some HT.out
          obtain ⟨Pa, hPa⟩ : ∃ x, pagesF D2.now [102] = x := ⟨_, rfl⟩
          obtain ⟨Pb, hPb⟩ : ∃ x, pagesF D2.now [103] = x := ⟨_, rfl⟩
          have HPa := Lib.hid hPa
          have HPb := Lib.hid hPb
          clear hPa hPb
          have CO := Lib.hid (open_bare g (2200 * (k + 1)) [102] T2 D2 _ HT.out.disk HT.out.roomy.off (by simp) HT.out.bare)
          refine CO.out.mono ?_
          rintro e wu ⟨rfl, hp2, hbu⟩
          have HU := Lib.hid (HT.out.reopen hp2 hbu)
          clear hp2 hbu CO
          obtain ⟨p2, hp2⟩ : ∃ x, w10.heap.size = x := ⟨_, rfl⟩
          rw [hp2] at HU ⊢
          have HH1 := phas_any p2 g (2200 * (k + 1)) [102] _ Pa T2 D2 wu HU.out.pager HU.out.disk HU.out.roomy.off (by simp) (by have := HU.out.own.strs; rw [HPa.out] at this; exact this)
          rw [HPa.out, decide_eq_true rfl] at HH1
          have HH1 := Lib.hid HH1
          clear hp2
          go_wp2_with fail
          refine HH1.out.mono ?_
          rintro e wv ⟨rfl, hbv⟩
          have HV := Lib.hid (HU.out.over hbv)
          have HH2 := phas_any q g (2200 * (k + 1)) [103] _ Pb T2 D2 wv HV.out.other HV.out.disk HV.out.roomy.off (by simp) (by have := HV.out.own2.strs; rw [HPb.out] at this; exact this)
          rw [HPb.out, decide_eq_true rfl] at HH2
          have HH2 := Lib.hid HH2
          clear hbv HU HH1
          go_wp2_with fail
          refine HH2.out.mono ?_
          rintro e wx ⟨rfl, hbx⟩
          have HX := Lib.hid (HV.out.over hbx)
          clear hbx HH2 HV
          go_wp2_with fail
          go_roundw
          case rel => exact ⟨k + 1, D2, T2, _, rfl, rfl, by go_num, by omega, HX.out⟩
          case measure => simp [intOf]; omega
      · go_wp2_with fail
        go_ret
        exact ⟨rfl, hmid.out.below⟩
  · go_wp2_with fail
    go_ret
    exact ⟨rfl, HB2.out⟩

end Go.Proofs.YtkbmajgbhpecgaaGreatDoor.Cd

namespace Go.Proofs.YtkbmajgbhpecgaaGreatDoor.PagerAgain
open Go.RowKit Go.Proofs.YtkbmajgbhpecgaaGreatDoor.Cd

theorem walk (v : Value) (l : List Stp) (w : World) (h : Cd.Steps w w.heap.size v l ∧ ∀ p ∈ l, p.Ok) : Calls Tryz.prog 5 #[v] w (Gives (.bool true) w) :=
  pa_main v l w h.1 h.2

end Go.Proofs.YtkbmajgbhpecgaaGreatDoor.PagerAgain
