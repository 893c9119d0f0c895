/-
  Slices of things of n cells each, whatever things: how they read, how they grow. Conditions: none.
-/
import Derived.Test.YtabogconbjdcgaaApart
namespace Go.Proofs.Ytabogconbjdcgaa.Cd
open Go.RowKit Go.ChangeShapes Go.WideShapes Go.Deep

/-- Things of n cells each: their type T, that of slices of them S. -/
structure Kind {α : Type} (f : α → List Value) (n : Nat) (T S : TypeId) (bytes : Nat) (z : Value) : Prop where
  pos : 0 < n
  len : ∀ x, (f x).length = n
  one : ∀ x, ∀ u ∈ f x, u.oneCell' = true
  slice : Try.prog.underlying S = some (.slice T)
  info : (Try.prog.info? T).map (fun i => (i.zero, i.size, i.bytes)) = some (some z, n, bytes)
  zero : z.cells.size = n
  few : bytes ≤ 128

section
variable {α : Type} {f : α → List Value} {n : Nat} {T S : TypeId} {bytes : Nat} {z : Value}

/-- A slice value that reads as the things 'l'. -/
def RwIn (f : α → List Value) (n : Nat) (w : World) (B : Nat) (v : Value) (l : List α) : Prop :=
  ∃ A c, v = .slice A l.length c ∧ l.length ≤ c ∧ c ≤ maxLen ∧ (A = none → c = 0) ∧
    (0 < l.length → ∃ b off, A = some ⟨b, off, none⟩ ∧ b < B ∧ ∀ (i : Nat) p, l[i]? = some p → ∀ (j : Nat) x, (f p)[j]? = some x → w.cell? ⟨b, off + i * n + j, none⟩ = some x)

variable {w w' : World} {B B' : Nat} {v : Value} {l : List α}
theorem RwIn.below (h : RwIn f n w B v l) (hb : Below B w w') : RwIn f n w' B v l := by
  obtain ⟨A, c, h1, h2, h3, h4, h5⟩ := h
  refine ⟨A, c, h1, h2, h3, h4, fun hp => ?_⟩
  obtain ⟨b, off, e, hB, hc⟩ := h5 hp
  exact ⟨b, off, e, hB, fun i p hi j x hj => (hb.cell (p := ⟨b, off + i * n + j, none⟩) hB).trans (hc i p hi j x hj)⟩
theorem RwIn.more (h : RwIn f n w B v l) (hB : B ≤ B') : RwIn f n w B' v l := by
  obtain ⟨A, c, h1, h2, h3, h4, h5⟩ := h
  refine ⟨A, c, h1, h2, h3, h4, fun hp => ?_⟩
  obtain ⟨b, off, e, hb, hc⟩ := h5 hp
  exact ⟨b, off, e, Nat.lt_of_lt_of_le hb hB, hc⟩
theorem RwIn.on (h : RwIn f n w w.heap.size v l) (hb : Below w.heap.size w w') : RwIn f n w' w'.heap.size v l := (h.below hb).more hb.size
theorem RwIn.nil (w : World) (B : Nat) : RwIn f n w B (.slice none 0 0) ([] : List α) := ⟨none, 0, rfl, Nat.le_refl _, Nat.zero_le _, fun _ => rfl, fun h => by simp at h⟩
theorem RwIn.len (h : RwIn f n w B v l) : ∃ A c, v = .slice A l.length c ∧ l.length ≤ c ∧ c ≤ 9223372036854775807 := by
  obtain ⟨A, c, h1, h2, h3, _⟩ := h
  exact ⟨A, c, h1, h2, h3⟩
/-- The k-th thing's cells. -/
theorem RwIn.at {A : Option Addr} {m c : Nat} (h : RwIn f n w B (.slice A m c) l) {k : Nat} {p : α} (hk : l[k]? = some p) :
    ∃ b off, A = some ⟨b, off, none⟩ ∧ b < B ∧ ∀ (j : Nat) x, (f p)[j]? = some x → w.cell? ⟨b, off + k * n + j, none⟩ = some x := by
  obtain ⟨A0, c0, e, _, _, _, h5⟩ := h
  injection e with e1 e2 e3
  have hlt := (List.getElem?_eq_some_iff.1 hk).1
  obtain ⟨b, off, e, hB, hc⟩ := h5 (by omega)
  exact ⟨b, off, e1.trans e, hB, hc k p hk⟩

/-! ### Rows of the call's own -/

def rowC (f : α → List Value) (l : List α) : List Value := (l.map f).flatten
theorem rowC_append (a b : List α) : rowC f (a ++ b) = rowC f a ++ rowC f b := by simp [rowC]
theorem rowC_len (hf : ∀ x, (f x).length = n) (l : List α) : (rowC f l).length = l.length * n := by
  induction l with
  | nil => simp [rowC]
  | cons p r ih =>
    show (f p ++ rowC f r).length = _
    rw [List.length_append, ih, hf, List.length_cons, Nat.add_mul]
    omega
theorem rowC_at (hf : ∀ x, (f x).length = n) : ∀ (l : List α) (i : Nat) (p : α), l[i]? = some p → ∀ (j : Nat) x, (f p)[j]? = some x → (rowC f l)[i * n + j]? = some x
  | [], _, _, h, _, _, _ => by simp at h
  | q :: r, 0, p, h, j, x, hx => by
    have e : q = p := by simpa using h
    subst e
    have hj : j < (f q).length := (List.getElem?_eq_some_iff.1 hx).1
    show (f q ++ rowC f r)[0 * n + j]? = some x
    rw [Nat.zero_mul, Nat.zero_add, List.getElem?_append_left hj]
    exact hx
  | q :: r, i + 1, p, h, j, x, hx => by
    have := rowC_at hf r i p (by simpa using h) j x hx
    show (f q ++ rowC f r)[(i + 1) * n + j]? = some x
    have e : (i + 1) * n = n + i * n := by rw [Nat.add_mul, Nat.one_mul, Nat.add_comm]
    rw [List.getElem?_append_right (by rw [hf, e]; omega)]
    rw [show (i + 1) * n + j - (f q).length = i * n + j by rw [hf, e]; omega]
    exact this
theorem rowC_of (hf : ∀ x, (f x).length = n) : ∀ (l : List α) (j : Nat) x, (rowC f l)[j]? = some x → ∃ i p k, l[i]? = some p ∧ (f p)[k]? = some x ∧ j = i * n + k
  | [], _, _, h => by simp [rowC] at h
  | q :: r, j, x, h => by
    have h : (f q ++ rowC f r)[j]? = some x := h
    by_cases hj : j < n
    · rw [List.getElem?_append_left (by rw [hf]; exact hj)] at h
      exact ⟨0, q, j, rfl, h, by omega⟩
    · rw [List.getElem?_append_right (by rw [hf]; omega), hf] at h
      obtain ⟨i, p, k, h1, h2, h3⟩ := rowC_of hf r _ x h
      exact ⟨i + 1, p, k, by simpa using h1, h2, by rw [Nat.add_mul]; omega⟩
theorem rowC_one (h1 : ∀ x, ∀ u ∈ f x, u.oneCell' = true) (l : List α) : ∀ u ∈ rowC f l, u.oneCell' = true := by
  intro u hu
  simp only [rowC, List.mem_flatten, List.mem_map] at hu
  obtain ⟨_, ⟨p, _, rfl⟩, hu⟩ := hu
  exact h1 p u hu

/-- A row of things of the call's own. -/
def OwnRw (f : α → List Value) (n : Nat) (T : TypeId) (w : World) (B : Nat) (v : Value) (l : List α) : Prop := w.ownsRow B T n v l.length (rowC f l)

theorem OwnRw.nil (w : World) (B : Nat) : OwnRw f n T w B (.slice none 0 0) ([] : List α) := World.ownsRow_nil _ _ _ _
theorem OwnRw.keep (h : OwnRw f n T w B v l) (hb : Below w.heap.size w w') : OwnRw f n T w' B v l := by
  have hlt := World.ownsRow.lt h
  refine ⟨h.1, ?_⟩
  rcases h.2 with h4 | ⟨g, cap, cur, rfl, hg, hh, r⟩
  · exact .inl h4
  · exact .inr ⟨g, cap, cur, rfl, hg, (hb.block g (hlt g rfl).2).trans hh, r⟩
theorem OwnRw.lower (h : OwnRw f n T w B v l) (hB : B' ≤ B) : OwnRw f n T w B' v l := by
  refine ⟨h.1, ?_⟩
  rcases h.2 with h2 | ⟨g, cap, cur, hv, hg, r⟩
  · exact .inl h2
  · exact .inr ⟨g, cap, cur, hv, Nat.le_trans hB hg, r⟩
theorem OwnRw.alloc (h : OwnRw f n T w B v l) (o : Obj) : OwnRw f n T (w.alloc o) B v l := World.ownsRow.alloc h o
theorem OwnRw.drew (h : OwnRw f n T w B v l) : OwnRw f n T w.drew B v l := h
/-- Where another block alone turned, one below the row's. -/
theorem OwnRw.far {g : Nat} (h : OwnRw f n T w B v l) (hg : w.grownBy w' (some g)) (hlt0 : g < B) : OwnRw f n T w' B v l := by
  have hlt := World.ownsRow.lt h
  refine ⟨h.1, ?_⟩
  rcases h.2 with h4 | ⟨g', cap, cur, rfl, hb, hh, r⟩
  · exact .inl h4
  · exact .inr ⟨g', cap, cur, rfl, hb, (hg.block g' (hlt g' rfl).2 (fun e => by injection e with e; omega)).trans hh, r⟩
theorem OwnRw.put (h : OwnRw f n T w B v l) (p : Addr) (u : Value) (hp : p.block < B) : OwnRw f n T (w.setCell p u) B v l :=
  h.far (g := p.block) ⟨rfl, rfl, rfl, by simp, fun k _ hk => heap_setCell_other _ _ _ _ (fun e => hk (by rw [e]))⟩ hp
theorem OwnRw.rwIn (K : Kind f n T S bytes z) (h : OwnRw f n T w B v l) : RwIn f n w w.heap.size v l := by
  have hlt := World.ownsRow.lt h
  have hc := fun g hg => World.ownsRow.cells h (g := g) hg
  rcases h.2 with ⟨rfl, h0⟩ | ⟨g, cap, cur, rfl, hBg, hg, hn, hm, _, _⟩
  · have : l = [] := List.eq_nil_of_length_eq_zero h0
    subst this
    exact RwIn.nil _ _
  · refine ⟨_, cap, rfl, hn, hm, (fun h => by cases h), fun _ => ⟨g, 0, rfl, (hlt g rfl).2, fun i p hi j x hj => ?_⟩⟩
    have := hc g rfl (i * n + j) _ (rowC_at K.len l i p hi j x hj)
    rw [Addr.add_lit] at this
    rwa [← Nat.add_assoc] at this

/-- append of things, onto a row of the call's own. -/
theorem run_append_rw (K : Kind f n T S bytes z) (ho : OwnRw f n T w B v l) (hB : B ≤ w.heap.size) (x : Value) (B' : Nat) (ns : List α) (hx : RwIn f n w B' x ns) (hm : l.length + ns.length ≤ 1099511627776) (ty : TypeId) :
    ∃ v' w', (Builtin.append_ #[S, S] ty #[v, x]).run Try.prog w = .ok v' w' ∧ OwnRw f n T w' B v' (l ++ ns) ∧ Below B w w' ∧ w.grownBy w' v.ownBlock := by
  obtain ⟨i0, hi, hz0, hz1, hz2⟩ := info_parts K.info
  have hmax : l.length + ns.length ≤ maxLen := by simp only [maxLen]; omega
  have hby : ∀ m, m ≤ l.length + ns.length → m * bytes ≤ 140737488355328 := fun m hmm => Nat.le_trans (Nat.mul_le_mul (Nat.le_trans hmm hm) K.few) (by omega)
  obtain ⟨A, c, rfl, _, _, h4, h6⟩ := hx
  by_cases h0 : 0 < ns.length
  · obtain ⟨b, off, rfl, _, hc⟩ := h6 h0
    obtain ⟨v', w', hr, h2, h3, _⟩ := run_append_own (P := Try.prog) w B S ty T i0 _ n bytes K.slice hi hz0 hz1 hz2 K.zero K.pos v l.length (rowC f l) ho ⟨b, off, none⟩ ns.length c (rowC f ns) (rowC_len K.len ns)
      (fun j u hu => by
        rw [Addr.add_lit]
        obtain ⟨i, p, k, h1, h2, rfl⟩ := rowC_of K.len ns j u hu
        rw [← Nat.add_assoc]
        exact hc i p h1 k u h2) (rowC_one K.one ns) hmax (hby _ (Nat.le_refl _)) hB
    refine ⟨v', w', hr, ?_, (Below.refl _ _).grown h3 hB (fun k hk => (World.ownsRow.lt ho k hk).1), h3⟩
    unfold OwnRw
    rw [rowC_append, List.length_append]
    exact h2
  · have hns : ns = [] := List.eq_nil_of_length_eq_zero (by omega)
    subst hns
    cases A with
    | some ad =>
      obtain ⟨v', w', hr, h2, h3, _⟩ := run_append_own (P := Try.prog) w B S ty T i0 _ n bytes K.slice hi hz0 hz1 hz2 K.zero K.pos v l.length (rowC f l) ho ad 0 c [] (by simp) (fun j u hu => by simp at hu) (by simp) hmax (hby _ (Nat.le_refl _)) hB
      refine ⟨v', w', hr, ?_, (Below.refl _ _).grown h3 hB (fun k hk => (World.ownsRow.lt ho k hk).1), h3⟩
      unfold OwnRw
      rw [rowC_append, List.length_append]
      exact h2
    | none =>
      have hc := h4 rfl
      subst hc
      refine ⟨v, w, ?_, by simpa using ho, Below.refl _ _, ⟨rfl, rfl, rfl, Nat.le_refl _, fun _ _ _ => rfl⟩⟩
      rcases ho.2 with ⟨rfl, h0⟩ | ⟨g, cap, cur, rfl, _, _, hnc, _⟩
      · simp [Builtin.append_, run_underlying K.slice, sizeOf, typeInfo, hi, Builtin.lenOf, Builtin.firstCells]
      · simp [Builtin.append_, run_underlying K.slice, sizeOf, typeInfo, hi, Builtin.lenOf, Builtin.firstCells, hnc, storeCells]

theorem wp_append_rw (K : Kind f n T S bytes z) {ops : Array Oper} {rest : List Oper} {o : Oper} {a : Act} {Q : Exit → Act → World → Prop} (hgd : o.guard = none) (s x : Operand)
    (hop : o.op = .call { callee := .builtin .append, args := #[s, x], argTypes := #[S, S] })
    (hs : a.eval s = v) (ho : OwnRw f n T w B v l) (hB : B ≤ w.heap.size) (y : Value) (B' : Nat) (ns : List α) (hx : a.eval x = y) (hy : RwIn f n w B' y ns)
    (hm : l.length + ns.length ≤ 1099511627776)
    (hK : ∀ v' w', OwnRw f n T w' B v' (l ++ ns) → Below B w w' → w.grownBy w' v.ownBlock → wpList Try.prog ops Q rest (a.put o.dst v') w') : wpList Try.prog ops Q (o :: rest) a w := by
  refine wpList_plain hgd fun K9 hK' => ?_
  obtain ⟨v', w', hrun, r1, r2, r3⟩ := run_append_rw K ho hB y B' ns hy hm o.type
  unfold Oper.wp
  simp [execOp, hop, resolve, invoke, builtin, hs, hx, hrun, Result.andThen]
  exact hK' _ _ (hK v' w' r1 r2 r3)
/-- The same, where the region takes one operation by itself. -/
theorem op_append_rw (K : Kind f n T S bytes z) {o : Oper} {a : Act} {K9 : Act → World → Prop} {Q : Exit → Act → World → Prop} (s x : Operand)
    (hop : o.op = .call { callee := .builtin .append, args := #[s, x], argTypes := #[S, S] })
    (hs : a.eval s = v) (ho : OwnRw f n T w B v l) (hB : B ≤ w.heap.size) (y : Value) (B' : Nat) (ns : List α) (hx : a.eval x = y) (hy : RwIn f n w B' y ns)
    (hm : l.length + ns.length ≤ 1099511627776)
    (hK : ∀ v' w', OwnRw f n T w' B v' (l ++ ns) → Below B w w' → w.grownBy w' v.ownBlock → K9 (a.put o.dst v') w') : o.wp Try.prog a w K9 Q := by
  obtain ⟨v', w', hrun, r1, r2, r3⟩ := run_append_rw K ho hB y B' ns hy hm o.type
  unfold Oper.wp
  simp [execOp, hop, resolve, invoke, builtin, hs, hx, hrun, Result.andThen]
  exact hK v' w' r1 r2 r3
theorem step_append_rw (K : Kind f n T S bytes z) {ops : Array Oper} {o : Oper} {a : Act} {K9 : Act → World → Prop} {Q : Exit → Act → World → Prop} {E : Prop} (hgd : o.guard = none) (s x : Operand)
    (hop : o.op = .call { callee := .builtin .append, args := #[s, x], argTypes := #[S, S] })
    (hs : a.eval s = v) (ho : OwnRw f n T w B v l) (hB : B ≤ w.heap.size) (y : Value) (B' : Nat) (ns : List α) (hx : a.eval x = y) (hy : RwIn f n w B' y ns)
    (hm : l.length + ns.length ≤ 1099511627776)
    (hK : ∀ v' w', OwnRw f n T w' B v' (l ++ ns) → Below B w w' → w.grownBy w' v.ownBlock → K9 (a.put o.dst v') w') : if Region.wanted o (yielded ops a.tmps) = true then Oper.wp Try.prog o a w K9 Q else E := by
  have hw : Region.wanted o (yielded ops a.tmps) = true := by simp [Region.wanted, hgd]
  rw [if_pos hw]
  exact op_append_rw K s x hop hs ho hB y B' ns hx hy hm hK

/-- One thing, laid out a moment ago. -/
theorem rw_one (K : Kind f n T S bytes z) (w : World) (p : α) (T' : TypeId) (X : Array Value) (hX : X = (f p).toArray) : RwIn f n (w.alloc (.cells X T')) (w.heap.size + 1) (.slice (some ⟨w.heap.size, 0, none⟩) 1 1) [p] := by
  subst hX
  exact ⟨_, 1, rfl, by simp, by simp [maxLen], (fun h => by cases h), fun _ => ⟨w.heap.size, 0, rfl, by omega, fun i q hi j x hx => by
    have hlt := (List.getElem?_eq_some_iff.1 hi).1
    obtain rfl : i = 0 := by simp at hlt; omega
    obtain rfl : p = q := by simpa using hi
    have hrow := heap_alloc_new w (.cells (f p).toArray T')
    rw [show 0 + 0 * n + j = j by omega]
    exact (cell_of_row _ _ j _ _ _ hrow).trans (by simpa using hx)⟩⟩
/-- The same of one that lies in a block. -/
theorem rw_block (w : World) (p : α) (b : Nat) (T' : TypeId) (fr : Nat × Nat) (h : w.heap[b]? = some (.cells (f p).toArray T' fr)) (hB : b < B) : RwIn f n w B (.slice (some ⟨b, 0, none⟩) 1 1) [p] :=
  ⟨_, 1, rfl, by simp, by simp [maxLen], (fun h => by cases h), fun _ => ⟨b, 0, rfl, hB, fun i q hi j x hx => by
    have hlt := (List.getElem?_eq_some_iff.1 hi).1
    obtain rfl : i = 0 := by simp at hlt; omega
    obtain rfl : p = q := by simpa using hi
    rw [show 0 + 0 * n + j = j by omega]
    exact (cell_of_row _ _ j _ _ _ h).trans (by simpa using hx)⟩⟩
/-- What is left of a slice behind its first k. -/
theorem rowC_cons (p : α) (l : List α) : rowC f (p :: l) = f p ++ rowC f l := rfl
end

end Go.Proofs.Ytabogconbjdcgaa.Cd
