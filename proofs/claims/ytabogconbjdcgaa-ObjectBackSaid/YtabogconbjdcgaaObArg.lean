/-
  Trees and commits as arguments: how they read, how large they can be. Conditions: none.
-/
import Derived.Test.YtabogconbjdcgaaObAlive
import Derived.Lib.SmallJoins
import Derived.SizedLaws
namespace Go.Proofs.Ytabogconbjdcgaa.Cd
open Go.RowKit Go.ChangeShapes Go.WideShapes Go.Deep Go.Joins

theorem weights_mem_all {H : Type} {e : TypeId} : ∀ {l : List (DataW H)} {d : DataW H}, d ∈ l → ∀ n ∈ d.weights Try.prog e, n ∈ DataW.weightsAll Try.prog e l
  | [], _, h, _, _ => by cases h
  | x :: r, d, h, n, hn => by
    unfold DataW.weightsAll
    rcases List.mem_cons.1 h with rfl | h
    · exact List.mem_append_left _ hn
    · exact List.mem_append_right _ (weights_mem_all h n hn)

theorem cells_s1 : Try.prog.cellsOf 9 = 1 := by kernel_rfl
theorem cells_b1 : Try.prog.cellsOf 5 = 1 := by kernel_rfl
theorem cells_sum : Try.prog.cellsOf 39 = 32 := by kernel_rfl
theorem cells_ps : Try.prog.cellsOf 56 = 2 := by kernel_rfl
theorem cells_ks : Try.prog.cellsOf 59 = 34 := by kernel_rfl
theorem cells_is : Try.prog.cellsOf 41 = 33 := by kernel_rfl
theorem cells_sis : Try.prog.cellsOf 42 = 1 := by kernel_rfl
theorem cells_cms : Try.prog.cellsOf 44 = 36 := by kernel_rfl
theorem cells_n1 : Try.prog.cellsOf 3 = 1 := by kernel_rfl

/-- A name's cells that are read. -/
theorem id_cells {H : Type} {enc : TypeId × Value → H} {w : World} {m : Nat} {cs : List Value} {x : DataW H × List MemPlace} (hlen : cs.length = 33)
    (h : DataW.trod enc Try.prog w 0 (fun _ => true) true m 41 cs = some x) : ∃ i : Idn, cs = vb i.1 := by
  obtain ⟨y0, y1, n, hx, hl, h0, h1⟩ := trod_struct2 Try.underlying41 h
  obtain ⟨xs, m, _, _, hl2, hl3, h2⟩ := DataW.trod_array Try.underlying39 h1
  have hcell : ∀ i, i < 33 → ∃ c : UInt8, cs[i]? = some (.int .u8 c.toNat) := by
    intro i hi
    cases i with
    | zero =>
      obtain ⟨c, hc⟩ := ione_byte h0
      refine ⟨c, ?_⟩
      have := congrArg (fun l => l[0]?) hc
      simpa [cells_b1, List.getElem?_take] using this
    | succ i =>
      have h3 := h2 i (by omega)
      rw [List.getElem?_eq_getElem (by omega)] at h3
      obtain ⟨c, hc⟩ := ione_byte h3
      refine ⟨c, ?_⟩
      have := congrArg (fun l => l[0]?) hc
      have hi2 : i < 32 := by omega
      simp [cells_b1, cells_sum, List.getElem?_drop, hi2] at this
      exact this
  obtain ⟨l, e1, e2⟩ := bytes_of_cells 33 cs hlen hcell
  exact ⟨⟨l, e1⟩, e2⟩

section
variable {α : Type} [Inhabited α] {f : α → List Value} {n : Nat} {T S : TypeId}

/-- Cells that are read as a slice of things, where each thing's cells are read as one. -/
theorem rw_of_cells {H : Type} {enc : TypeId × Value → H} {w : World} (hS : Try.prog.underlying S = some (.slice T)) (hn : Try.prog.cellsOf T = n) (hpos : 0 < n) (hlen : ∀ p, (f p).length = n) (Fit : α → Prop)
    (item : ∀ {m : Nat} {cs : List Value} {x : DataW H × List MemPlace}, cs.length = n → DataW.trod enc Try.prog w 0 (fun _ => true) true m T cs = some x → ∃ p, cs = f p ∧ ((∀ k ∈ x.1.weights Try.prog T, k ≤ reachBytes) → Fit p))
    {fuel : Nat} {cs : List Value} {x : DataW H × List MemPlace} (hf : DataW.trod enc Try.prog w 0 (fun _ => true) true fuel S cs = some x) :
    ∃ A k c ps, cs = [.slice A k c] ∧ RwIn f n w w.heap.size (.slice A k c) ps ∧ ((∀ m ∈ x.1.weights Try.prog S, m ≤ reachBytes) → ∀ p ∈ ps, Fit p) := by
  rcases open_slice hS hf with ⟨hcs, _⟩ | ⟨a, n0, c0, m, fl, D, Pl, hcs, _, hl, hm, hmm, hx, hi⟩
  · exact ⟨none, 0, 0, [], hcs, RwIn.nil _ _, fun _ p hp => by cases hp⟩
  · have hone : ∀ i, i < n0 → ∃ p : α, ((∀ k ∈ (D i).weights Try.prog T, k ≤ reachBytes) → Fit p) ∧ ∀ (j : Nat) v, (f p)[j]? = some v → w.cell? (a.add (i * n + j)) = some v := by
      intro i hin
      obtain ⟨cs', hcc, htt⟩ := hi i (by rw [hmm]; simp; omega)
      rw [hn] at hcc
      obtain ⟨_, hlen', hat⟩ := World.cells?_some hcc
      obtain ⟨p, hp, hfit⟩ := item hlen' htt
      refine ⟨p, hfit, fun j v hv => ?_⟩
      have hj : j < n := by
        have := (List.getElem?_eq_some_iff.1 hv).1
        rw [hlen] at this
        exact this
      rw [← Go.Deep.add_add, hat j hj, hp]
      exact hv
    obtain ⟨g, hg2⟩ := choose_lt hone
    have hget : ∀ (i : Nat) p, ((List.range n0).map g)[i]? = some p → i < n0 ∧ p = g i := by
      intro i p hip
      obtain ⟨hlt, rfl⟩ := List.getElem?_eq_some_iff.1 hip
      simp at hlt
      exact ⟨hlt, by simp⟩
    refine ⟨some a, n0, c0, (List.range n0).map g, hcs, ⟨some a, c0, by simp, by simpa using hl, hm, (fun h => by cases h), fun hp => ?_⟩, fun hw => ?_⟩
    · have hp0 : 0 < n0 := by simpa using hp
      obtain ⟨b, off, spot⟩ := a
      have hc := (hg2 0 hp0).2 0 ((f (g 0))[0]'(by rw [hlen]; exact hpos)) (List.getElem?_eq_getElem _)
      have hspot : spot = none := by simpa [Addr.add] using World.cell?_spot hc
      subst hspot
      refine ⟨b, off, rfl, ?_, ?_⟩
      · have := World.block_lt_of_cell? w _ hc
        rwa [block_of_add] at this
      · intro i p hip j x hj
        obtain ⟨hlt, rfl⟩ := hget i p hip
        have := (hg2 i hlt).2 j x hj
        rwa [Addr.add_lit, ← Nat.add_assoc] at this
    · intro p hp
      obtain ⟨i, hi2, rfl⟩ := List.mem_map.1 hp
      have hlt := List.mem_range.1 hi2
      refine (hg2 i hlt).1 fun k hk => hw k ?_
      have hd : x.1 = .slice ((List.range n0).map D) ((List.range (m - n0)).map fun j => D (n0 + j)) := by rw [hx]
      rw [hd]
      simp only [DataW.weights, hS]
      exact List.mem_cons_of_mem _ (List.mem_append_left _ (weights_mem_all (d := D i) (List.mem_map.2 ⟨i, hi2, rfl⟩) k hk))
end

/-- What a text can weigh. -/
def FitP (p : Bp) : Prop := p.1.length ≤ 140737488351232 ∧ p.2.length ≤ 140737488351232
def FitK (p : Kd) : Prop := p.1.length ≤ 140737488351232
theorem lit_weight {H : Type} {l : List UInt8} {T : TypeId} (h : ∀ n ∈ (DataW.lit (H := H) (.string l)).weights Try.prog T, n ≤ reachBytes) : l.length ≤ 140737488351232 := by
  have := h l.length (by simp [DataW.weights])
  simp only [reachBytes] at this
  omega
theorem list_bytes (x : ByteArray) : x = ⟨x.data.toList.toArray⟩ := by simp

set_option maxRecDepth 100000 in
theorem pair_cells {H : Type} {enc : TypeId × Value → H} {w : World} {m : Nat} {cs : List Value} {x : DataW H × List MemPlace} (hlen : cs.length = 2)
    (h : DataW.trod enc Try.prog w 0 (fun _ => true) true m 56 cs = some x) : ∃ p : Bp, cs = ppC p ∧ ((∀ k ∈ x.1.weights Try.prog 56, k ≤ reachBytes) → FitP p) := by
  obtain ⟨y0, y1, n, hx, hl, h0, h1⟩ := trod_struct2 Try.underlying56 h
  match cs, hlen with
  | [z0, z1], _ =>
    have f0 : DataW.trod enc Try.prog w 0 (fun _ => true) true n 9 (([z0, z1].drop 0).take (Try.prog.cellsOf 9)) = some y0 := h0
    have f1 : DataW.trod enc Try.prog w 0 (fun _ => true) true n 9 (([z0, z1].drop 1).take (Try.prog.cellsOf 9)) = some y1 := h1
    rw [cells_s1] at f0 f1
    obtain ⟨x0, q0, e0, _⟩ := DataW.trod_string (cs := [z0]) Try.underlying9 f0
    obtain ⟨x1, q1, e1, _⟩ := DataW.trod_string (cs := [z1]) Try.underlying9 f1
    simp only [List.cons.injEq, and_true] at q0 q1
    refine ⟨(x0.data.toList, x1.data.toList), by rw [q0, q1]; rfl, fun hw => ?_⟩
    have hxd : x.1 = .agg [y0.1, y1.1] := by rw [hx]
    have hw' : ∀ n ∈ DataW.weightsEach Try.prog [9, 9] [y0.1, y1.1], n ≤ reachBytes := by
      intro n hn
      refine hw n ?_
      rw [hxd]
      simpa [DataW.weights, Try.underlying56] using hn
    have w0 := fun n hn => hw' n (DataW.weights_mem_each (j := 0) (t := 9) (d := y0.1) rfl rfl n hn)
    have w1 := fun n hn => hw' n (DataW.weights_mem_each (j := 1) (t := 9) (d := y1.1) rfl rfl n hn)
    rw [e0] at w0
    rw [e1] at w1
    exact ⟨lit_weight w0, lit_weight w1⟩

set_option maxRecDepth 100000 in
theorem kid_cells {H : Type} {enc : TypeId × Value → H} {w : World} {m : Nat} {cs : List Value} {x : DataW H × List MemPlace} (hlen : cs.length = 34)
    (h : DataW.trod enc Try.prog w 0 (fun _ => true) true m 59 cs = some x) : ∃ p : Kd, cs = kkC p ∧ ((∀ k ∈ x.1.weights Try.prog 59, k ≤ reachBytes) → FitK p) := by
  obtain ⟨y0, y1, n, hx, hl, h0, h1⟩ := trod_struct2 Try.underlying59 h
  obtain ⟨z0, r, rfl⟩ := List.exists_cons_of_length_pos (l := cs) (by omega)
  have hr : r.length = 33 := by simpa using hlen
  have f0 : DataW.trod enc Try.prog w 0 (fun _ => true) true n 9 (((z0 :: r).drop 0).take (Try.prog.cellsOf 9)) = some y0 := h0
  have f1 : DataW.trod enc Try.prog w 0 (fun _ => true) true n 41 (((z0 :: r).drop 1).take (Try.prog.cellsOf 41)) = some y1 := h1
  rw [cells_s1] at f0
  rw [cells_is] at f1
  obtain ⟨x0, q0, e0, _⟩ := DataW.trod_string (cs := [z0]) Try.underlying9 f0
  have e33 : ((z0 :: r).drop 1).take 33 = r := by simp [List.take_of_length_le (Nat.le_of_eq hr)]
  rw [e33] at f1
  obtain ⟨i, hi⟩ := id_cells hr f1
  simp only [List.cons.injEq, and_true] at q0
  refine ⟨(x0.data.toList, i), by rw [q0, hi]; rfl, fun hw => ?_⟩
  have hxd : x.1 = .agg [y0.1, y1.1] := by rw [hx]
  have hw' : ∀ n ∈ DataW.weightsEach Try.prog [9, 41] [y0.1, y1.1], n ≤ reachBytes := by
    intro n hn
    refine hw n ?_
    rw [hxd]
    simpa [DataW.weights, Try.underlying59] using hn
  have w0 := fun n hn => hw' n (DataW.weights_mem_each (j := 0) (t := 9) (d := y0.1) rfl rfl n hn)
  rw [e0] at w0
  exact lit_weight w0

instance : Inhabited Bp := ⟨([], [])⟩
instance : Inhabited Idn := ⟨idZ⟩
instance : Inhabited Kd := ⟨([], idZ)⟩

theorem tree_of_trod {H : Type} {enc : TypeId × Value → H} {w : World} {r : Reach} {b0 : Nat} {v : Value} {d : DataW H} {ps : List MemPlace} (hv : Value.okWide Try.prog w r b0 25 v)
    (h : DataW.Trod enc Try.prog w 0 (fun _ => true) true 25 v d ps) (hw : ∀ n ∈ d.weights Try.prog 25, n ≤ reachBytes) :
    ∃ t : Tre, TreIn w w.heap.size v t ∧ FitT t := by
  obtain ⟨v0, v1, y0, y1, m, rfl, rfl, rfl, h0, h1⟩ := open_agg2 Try.underlying25 (by kernel_rfl) (by kernel_rfl) hv h
  have hw' : ∀ n ∈ DataW.weightsEach Try.prog [22, 23] [y0.1, y1.1], n ≤ reachBytes := by
    intro n hn
    refine hw n ?_
    simpa [DataW.weights, Try.underlying25] using hn
  have w0 := fun n hn => hw' n (DataW.weights_mem_each (j := 0) (t := 22) (d := y0.1) rfl rfl n hn)
  have w1 := fun n hn => hw' n (DataW.weights_mem_each (j := 1) (t := 23) (d := y1.1) rfl rfl n hn)
  obtain ⟨A1, k1, c1, l1, e1, i1, j1⟩ := rw_of_cells (f := ppC) Try.underlying22 cells_ps (by omega) kind_pp.len FitP pair_cells h0
  obtain ⟨A2, k2, c2, l2, e2, i2, j2⟩ := rw_of_cells (f := kkC) Try.underlying23 cells_ks (by omega) kind_kk.len FitK kid_cells h1
  simp only [List.cons.injEq, and_true] at e1 e2
  subst e1 e2
  exact ⟨⟨l1, l2⟩, ⟨_, _, rfl, i1, i2⟩, fun p hp => (j1 w0 p hp).1, fun p hp => (j1 w0 p hp).2, fun p hp => j2 w1 p hp⟩

structure FitC (c : Cmt) : Prop where
  note : c.note.length ≤ 140737488351232
  low : -9223372036854775808 ≤ c.num
  high : c.num ≤ 9223372036854775807

theorem list_four {α : Type} {l : List α} (h : l.length = 4) : ∃ a b c d, l = [a, b, c, d] := by
  match l, h with
  | [a, b, c, d], _ => exact ⟨a, b, c, d, rfl⟩
theorem list_three {α : Type} {l : List α} (h : l.length = 3) : ∃ a b c, l = [a, b, c] := by
  match l, h with
  | [a, b, c], _ => exact ⟨a, b, c, rfl⟩
theorem drop_past {α : Type} (a b : List α) (k : Nat) : (a ++ b).drop (a.length + k) = b.drop k := by
  rw [← List.drop_drop, List.drop_left]

set_option maxRecDepth 100000 in
theorem com_of_trod {H : Type} {enc : TypeId × Value → H} {w : World} {r : Reach} {b0 : Nat} {v : Value} {d : DataW H} {ps : List MemPlace} (hv : Value.okWide Try.prog w r b0 44 v)
    (h : DataW.Trod enc Try.prog w 0 (fun _ => true) true 44 v d ps) (hw : ∀ n ∈ d.weights Try.prog 44, n ≤ reachBytes) :
    ∃ c : Cmt, CmtIn w w.heap.size v c ∧ FitC c := by
  obtain ⟨cs, rfl, hsz⟩ := okWide_struct Try.underlying44 hv
  have hsz2 : cs.toList.length = 36 := by rw [Array.length_toList]; exact hsz.trans cells_cms
  obtain ⟨fuel, hf⟩ := h
  have hf : DataW.trod enc Try.prog w 0 (fun _ => true) true fuel 44 cs.toList = some (d, ps) := by simpa [Value.cells] using hf
  obtain ⟨xs, m, _, hx, _, hxl, hfld⟩ := DataW.trod_struct Try.underlying44 hf
  have hxd : d = .agg (xs.map (·.1)) := congrArg Prod.fst hx
  generalize hL : cs.toList = L at *
  obtain ⟨l33, l3, e, h33⟩ : ∃ a b, L = a ++ b ∧ a.length = 33 := ⟨L.take 33, L.drop 33, (List.take_append_drop 33 L).symm, by rw [List.length_take]; omega⟩
  subst e
  have h3 : l3.length = 3 := by rw [List.length_append] at hsz2; omega
  obtain ⟨z1, z2, z3, rfl⟩ := list_three h3
  obtain ⟨y0, y1, y2, y3, rfl⟩ := list_four (hxl.trans rfl)
  have f0 : DataW.trod enc Try.prog w 0 (fun _ => true) true m 41 (((l33 ++ [z1, z2, z3]).drop 0).take (Try.prog.cellsOf 41)) = some y0 := hfld 0 _ rfl
  have f1 : DataW.trod enc Try.prog w 0 (fun _ => true) true m 42 (((l33 ++ [z1, z2, z3]).drop 33).take (Try.prog.cellsOf 42)) = some y1 := hfld 1 _ rfl
  have f2 : DataW.trod enc Try.prog w 0 (fun _ => true) true m 9 (((l33 ++ [z1, z2, z3]).drop 34).take (Try.prog.cellsOf 9)) = some y2 := hfld 2 _ rfl
  have f3 : DataW.trod enc Try.prog w 0 (fun _ => true) true m 3 (((l33 ++ [z1, z2, z3]).drop 35).take (Try.prog.cellsOf 3)) = some y3 := hfld 3 _ rfl
  rw [cells_is, List.drop_zero, ← h33, List.take_left] at f0
  rw [cells_sis, ← h33, List.drop_left] at f1
  rw [cells_s1, show 34 = l33.length + 1 by omega, drop_past] at f2
  rw [cells_n1, show 35 = l33.length + 2 by omega, drop_past] at f3
  have f2 : DataW.trod enc Try.prog w 0 (fun _ => true) true m 9 [z2] = some y2 := by simpa using f2
  have f3 : DataW.trod enc Try.prog w 0 (fun _ => true) true m 3 [z3] = some y3 := by simpa using f3
  obtain ⟨i, hi⟩ := id_cells h33 f0
  obtain ⟨A1, k1, c1, l1, e1, i1, _⟩ := rw_of_cells (f := iiC) Try.underlying42 cells_is (by omega) kind_ii.len (fun _ => True) (fun hl ht => by
    obtain ⟨i, hi⟩ := id_cells hl ht
    exact ⟨i, hi, fun _ => trivial⟩) f1
  obtain ⟨x2, q2, e2, _⟩ := DataW.trod_string Try.underlying9 f2
  obtain ⟨n3, q3, _, wf⟩ := DataW.trod_int Try.underlying3 f3
  simp only [List.take_succ_cons, List.take_zero, List.cons.injEq, and_true] at e1 q2 q3
  subst e1 q2 q3 hi
  have hb := bounds_i64 wf
  have hw' : ∀ n ∈ DataW.weightsEach Try.prog [41, 42, 9, 3] [y0.1, y1.1, y2.1, y3.1], n ≤ reachBytes := by
    intro n hn
    refine hw n ?_
    rw [hxd]
    simpa [DataW.weights, Try.underlying44] using hn
  have w2 := fun n hn => hw' n (DataW.weights_mem_each (j := 2) (t := 9) (d := y2.1) rfl rfl n hn)
  rw [e2] at w2
  refine ⟨⟨i, l1, x2.data.toList, n3⟩, ⟨_, ?_, i1⟩, lit_weight w2, hb.1, hb.2⟩
  rw [← Array.toArray_toList (xs := cs), hL]
  rfl

end Go.Proofs.Ytabogconbjdcgaa.Cd
