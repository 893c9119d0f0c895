/-
  The reading of an argument: a slice of parts, a slice of bytes. Conditions: none.
-/
import Derived.Test.YtcfcjknppeeadaaParts
import Derived.SizedLaws
namespace Go.Proofs.Ytcfcjknppeeadaa.Cd
open Go.RowKit Go.ChangeShapes Go.WideShapes Go.Deep

section
variable {H : Type} {enc : TypeId × Value → H} {P : Program} {w : World} {base : Nat} {spare : Nat → Bool} {held : Bool}
/-- A slice of structs of one-cell fields, element by element, field by field (after the guide's words for structs). -/
theorem open_slice_fields {t e : TypeId} {fs : Array Field} {fuel : Nat} {cs : List Value} {x : DataW H × List MemPlace} (ht : P.underlying t = some (.slice e)) (he : P.underlying e = some (.struct fs))
    (hone : oneCellFields P fs = true) (hC : P.cellsOf e = fs.size) (h : DataW.trod enc P w base spare held fuel t cs = some x) :
    (cs = [.slice none 0 0] ∧ x = (.nil, [])) ∨
    ∃ (a : Addr) (len cap m : Nat) (D : Nat → DataW H) (Pl : Nat → List MemPlace), cs = [.slice (some a) len cap] ∧ base ≤ a.block ∧ len ≤ cap ∧ cap ≤ maxLen ∧ m = (if spare a.block then cap else len) ∧
      x = (.slice ((List.range len).map D) ((List.range (m - len)).map fun j => D (len + j)), MemPlace.row a (m * fs.size) ++ (List.range m).flatMap Pl) ∧
      ∀ i, i < m → ∃ (ys : List (DataW H × List MemPlace)) (n : Nat), D i = .agg (ys.map (·.1)) ∧ Pl i = ys.flatMap (·.2) ∧ ys.length = fs.size ∧
        ∀ (j : Nat) (f : Field), fs[j]? = some f → ∃ (v : Value) (y : DataW H × List MemPlace), w.cell? (a.add (i * fs.size + j)) = some v ∧ ys[j]? = some y ∧ DataW.trod enc P w base spare held n f.type [v] = some y := by
  rcases open_slice ht h with h0 | ⟨a, len, cap, m, n, D, Pl, hcs, hb, hl, hm, hmm, hx, hi⟩
  · exact .inl h0
  · refine .inr ⟨a, len, cap, m, D, Pl, hcs, hb, hl, hm, hmm, by rw [hC] at hx; exact hx, fun i him => ?_⟩
    obtain ⟨cs', hc, ht'⟩ := hi i him
    rw [hC] at hc
    obtain ⟨ys, n', hn', hy, hlen, hyl, hf⟩ := DataW.trod_struct he ht'
    obtain ⟨_, hcl, hat⟩ := World.cells?_some hc
    simp only [Prod.mk.injEq] at hy
    refine ⟨ys, n', hy.1, hy.2, hyl, fun j f hj => ?_⟩
    obtain ⟨ho, hk⟩ := hone_of hone j f hj
    have hjl : j < fs.size := (Array.getElem?_eq_some_iff.1 hj).1
    have hcell := hat j hjl
    have hv : cs'[j]? = some (cs'[j]'(by omega)) := List.getElem?_eq_getElem (by omega)
    have h1 := hf j f hj
    rw [ho, hk] at h1
    have hone' : (cs'.drop j).take 1 = [cs'[j]'(by omega)] := by
      rw [List.drop_eq_getElem_cons (by omega)]
      rfl
    rw [hone'] at h1
    have hys : ys[j]? = some (ys[j]'(by omega)) := List.getElem?_eq_getElem (by omega)
    refine ⟨_, _, ?_, hys, h1.trans hys⟩
    rw [← Go.Deep.add_add, hcell, hv]
end

theorem weightsAll_mem {H : Type} {P : Program} {e : TypeId} {d : DataW H} {l : List (DataW H)} (hd : d ∈ l) {n : Nat} (hn : n ∈ d.weights P e) : n ∈ DataW.weightsAll P e l := by
  induction l with
  | nil => cases hd
  | cons x r ih =>
    simp only [DataW.weightsAll, List.mem_append]
    rcases List.mem_cons.1 hd with rfl | h
    · exact .inl hn
    · exact .inr (ih h)

instance : Inhabited Prt := ⟨⟨0, 0, 0, [], 0, 0⟩⟩

/-- What the reading says of one part. -/
def PartAt {H : Type} (w : World) (a : Addr) (i : Nat) (D : DataW H) (p : Prt) : Prop :=
  p.Ok ∧ (∀ j u, p.cells[j]? = some u → w.cell? (a.add (i * 6 + j)) = some u) ∧
    D = .agg [.lit (.int .i64 p.kind), .lit (.int .u64 p.u), .lit (.int .i64 p.n), .lit (.string p.s), .lit (.int .i64 p.lo), .lit (.int .i64 p.hi)]

theorem parts_of_trod {H : Type} {enc : TypeId × Value → H} {w : World} {v : Value} {d : DataW H} {ps : List MemPlace} (hv : ∃ A n c, v = .slice A n c)
    (h : DataW.Trod enc Try.prog w 0 (fun _ => true) true 22 v d ps) (hw : ∀ n ∈ d.weights Try.prog 22, n ≤ reachBytes) :
    ∃ l, Parts w w.heap.size v l ∧ ∀ p ∈ l, p.s.length ≤ 140737488351232 := by
  obtain ⟨A0, n0, c0, rfl⟩ := hv
  obtain ⟨fuel, hf⟩ := h
  rcases open_slice_fields Try.underlying22 Try.underlying39 (by kernel_rfl) (by kernel_rfl) hf with ⟨hcs, _⟩ | ⟨a, len, cap, m, D, Pl, hcs, _, hl, hm, hmm, hx, hi⟩
  · simp [Value.cells] at hcs
    obtain ⟨rfl, rfl, rfl⟩ := hcs
    exact ⟨[], ⟨none, 0, rfl, by simp, by simp, fun h => by simp at h⟩, by simp⟩
  · simp [Value.cells] at hcs
    obtain ⟨rfl, rfl, rfl⟩ := hcs
    have hone : ∀ i, i < n0 → ∃ p : Prt, PartAt w a i (D i) p := by
      intro i hin
      obtain ⟨ys, n, hD, _, hlen, hfld⟩ := hi i (by rw [hmm]; simp; omega)
      obtain ⟨v0, y0, e0, g0, t0⟩ := hfld 0 _ rfl
      obtain ⟨v1, y1, e1, g1, t1⟩ := hfld 1 _ rfl
      obtain ⟨v2, y2, e2, g2, t2⟩ := hfld 2 _ rfl
      obtain ⟨v3, y3, e3, g3, t3⟩ := hfld 3 _ rfl
      obtain ⟨v4, y4, e4, g4, t4⟩ := hfld 4 _ rfl
      obtain ⟨v5, y5, e5, g5, t5⟩ := hfld 5 _ rfl
      obtain ⟨x0, q0, rfl, wf0⟩ := DataW.trod_int Try.underlying3 t0
      obtain ⟨x1, q1, rfl, wf1⟩ := DataW.trod_int Try.underlying23 t1
      obtain ⟨x2, q2, rfl, wf2⟩ := DataW.trod_int Try.underlying3 t2
      obtain ⟨x3, q3, rfl, wf3⟩ := DataW.trod_string Try.underlying9 t3
      obtain ⟨x4, q4, rfl, wf4⟩ := DataW.trod_int Try.underlying3 t4
      obtain ⟨x5, q5, rfl, wf5⟩ := DataW.trod_int Try.underlying3 t5
      simp only [List.cons.injEq, and_true] at q0 q1 q2 q3 q4 q5
      subst q0 q1 q2 q3 q4 q5
      have b1 := bounds_u64 wf1
      have hys : ys = [(.lit (.int .i64 x0), []), (.lit (.int .u64 x1), []), (.lit (.int .i64 x2), []), (.lit (.string x3.data.toList), []), (.lit (.int .i64 x4), []), (.lit (.int .i64 x5), [])] := by
        match ys, hlen with
        | [z0, z1, z2, z3, z4, z5], _ =>
          simp only [List.getElem?_cons_zero, List.getElem?_cons_succ, Option.some.injEq] at g0 g1 g2 g3 g4 g5
          rw [g0, g1, g2, g3, g4, g5]
      obtain ⟨u, rfl⟩ := Int.eq_ofNat_of_zero_le b1.1
      refine ⟨⟨x0, u, x2, x3.data.toList, x4, x5⟩, ⟨bounds_i64 wf0, (by have := b1.2; show u < 18446744073709551616; omega), bounds_i64 wf2, wf3, bounds_i64 wf4, bounds_i64 wf5⟩, ?_, by rw [hD, hys]; rfl⟩
      intro j u' hu
      match j with
      | 0 => simp [Prt.cells] at hu; subst hu; exact e0
      | 1 => simp [Prt.cells] at hu; subst hu; exact e1
      | 2 => simp [Prt.cells] at hu; subst hu; exact e2
      | 3 => simp [Prt.cells] at hu; subst hu; exact e3
      | 4 => simp [Prt.cells] at hu; subst hu; exact e4
      | 5 => simp [Prt.cells] at hu; subst hu; exact e5
      | j + 6 => simp [Prt.cells] at hu
    obtain ⟨f, hf⟩ := choose_lt hone
    have hget : ∀ i p, ((List.range n0).map f)[i]? = some p → i < n0 ∧ p = f i := by
      intro i p hip
      obtain ⟨hlt, rfl⟩ := List.getElem?_eq_some_iff.1 hip
      simp at hlt
      exact ⟨hlt, by simp⟩
    refine ⟨(List.range n0).map f, ⟨some a, c0, by simp, by simp; omega, ?_, fun hp => ?_⟩, ?_⟩
    · intro p hp
      obtain ⟨i, hi2, rfl⟩ := List.mem_map.1 hp
      exact (hf i (List.mem_range.1 hi2)).1
    · have hp0 : 0 < n0 := by simpa using hp
      obtain ⟨b, off, spot⟩ := a
      have hc := (hf 0 hp0).2.1 0 _ rfl
      have hspot : spot = none := by simpa [Addr.add] using World.cell?_spot hc
      subst hspot
      refine ⟨b, off, rfl, ?_, ?_⟩
      · have := World.block_lt_of_cell? w _ hc
        rwa [block_of_add] at this
      · intro i p hip j u hu
        obtain ⟨hlt, rfl⟩ := hget i p hip
        have := (hf i hlt).2.1 j u hu
        rwa [Addr.add_lit, ← Nat.add_assoc] at this
    · intro p hp
      obtain ⟨i, hi2, rfl⟩ := List.mem_map.1 hp
      have hlt := List.mem_range.1 hi2
      have hD := (hf i hlt).2.2
      have hd : d = .slice ((List.range n0).map D) ((List.range (m - n0)).map fun j => D (n0 + j)) := by
        simp only [Prod.mk.injEq] at hx
        exact hx.1
      refine hw _ ?_
      rw [hd]
      simp only [DataW.weights, Try.underlying22]
      refine List.mem_cons_of_mem _ (List.mem_append_left _ (weightsAll_mem (d := D i) (List.mem_map.2 ⟨i, hi2, rfl⟩) ?_))
      rw [hD]
      simp [DataW.weights, DataW.weightsEach, Try.underlying39]

theorem sl_of_trod {H : Type} {enc : TypeId × Value → H} {w : World} {v : Value} {d : DataW H} {ps : List MemPlace} (hv : ∃ A n c, v = .slice A n c)
    (h : DataW.Trod enc Try.prog w 0 (fun _ => true) true 26 v d ps) : ∃ bs, Sl w w.heap.size v bs := by
  obtain ⟨A0, n0, c0, rfl⟩ := hv
  obtain ⟨fuel, hf⟩ := h
  rcases open_ints Try.underlying26 Try.underlying5 (by kernel_rfl) hf with ⟨hcs, _⟩ | ⟨x, l, c, zs, hcs, _, hl, hm, hz, _, hcell, hwz⟩
  · simp [Value.cells] at hcs
    obtain ⟨rfl, rfl, rfl⟩ := hcs
    exact ⟨[], Sl.nil _ _⟩
  · simp [Value.cells] at hcs
    obtain ⟨rfl, rfl, rfl⟩ := hcs
    have hzl : zs.length = c0 := by simpa using hz
    have hlen : ((zs.take n0).map fun z => UInt8.ofNat z.toNat).length = n0 := by rw [List.length_map, List.length_take]; omega
    have hcells : ∀ j u, (vb ((zs.take n0).map fun z => UInt8.ofNat z.toNat))[j]? = some u → w.cell? (x.add j) = some u := by
      intro j u hu
      have hj := (List.getElem?_eq_some_iff.1 hu).1
      rw [vb_length, hlen] at hj
      have hjz : j < zs.length := by omega
      have hr := range_u8 hwz j
      rw [hcell j hjz]
      rw [← hu]
      simp only [vb, List.map_map, List.getElem?_map, List.getElem?_take, if_pos hj, List.getElem?_eq_getElem hjz, Option.map_some, Function.comp]
      rw [List.getElem?_eq_getElem hjz] at hr
      simp only [Option.getD_some] at hr
      congr 2
      rw [List.getD_eq_getElem?_getD, List.getElem?_eq_getElem hjz, Option.getD_some, UInt8.toNat_ofNat']
      omega
    refine ⟨(zs.take n0).map fun z => UInt8.ofNat z.toNat, some x, c0, by rw [hlen], by rw [hlen]; exact hl, hm, (fun h => by cases h), ?_, ?_⟩
    · intro ad e h0
      injection e with e
      subst e
      rw [hlen] at h0
      have := World.block_lt_of_cell? w _ (hcell 0 (by omega))
      rwa [block_of_add] at this
    · intro ad e
      injection e with e
      subst e
      exact hcells

end Go.Proofs.Ytcfcjknppeeadaa.Cd
