/-
  The reading of an argument: a slice of parts, a slice of bytes. Conditions: none.
-/
import Derived.Test.YtcfcjknppeeadaaParts
import Derived.SizedLaws
namespace Go.Proofs.Ytcfcjknppeeadaa.Cd
open Go.RowKit Go.ChangeShapes Go.WideShapes Go.Deep

theorem weightsAll_mem {H : Type} {P : Program} {e : TypeId} {d : DataW H} {l : List (DataW H)} (hd : d ∈ l) {n : Nat} (hn : n ∈ d.weights P e) : n ∈ DataW.weightsAll P e l := by
  induction l with
  | nil => cases hd
  | cons x r ih =>
    simp only [DataW.weightsAll, List.mem_append]
    rcases List.mem_cons.1 hd with rfl | h
    · exact .inl hn
    · exact .inr (ih h)

instance : Inhabited Prt := ⟨⟨0, 0, 0, [], 0, 0⟩⟩

/-- What the reading says of one part. -/
def PartAt {H : Type} (w : World) (a : Addr) (i : Nat) (D : DataW H) (p : Prt) : Prop :=
  p.Ok ∧ (∀ j u, p.cells[j]? = some u → w.cell? (a.add (i * 6 + j)) = some u) ∧
    D = .agg [.lit (.int .i64 p.kind), .lit (.int .u64 p.u), .lit (.int .i64 p.n), .lit (.string p.s), .lit (.int .i64 p.lo), .lit (.int .i64 p.hi)]

theorem cells_int : Try.prog.cellsOf 3 = 1 := by kernel_rfl
theorem cells_uint64 : Try.prog.cellsOf 23 = 1 := by kernel_rfl
theorem cells_string : Try.prog.cellsOf 9 = 1 := by kernel_rfl
theorem cells_part : Try.prog.cellsOf 39 = 6 := by kernel_rfl

/-- Six cells that read as a part. -/
theorem part_of {H : Type} {enc : TypeId × Value → H} {w : World} {a : Addr} {i n : Nat} {cs : List Value} {x : DataW H × List MemPlace} (hc : w.cells? 0 (a.add (i * 6)) 6 = some cs)
    (ht : DataW.trod enc Try.prog w 0 (fun _ => true) true n 39 cs = some x) : ∃ p, PartAt w a i x.1 p := by
  obtain ⟨_, hlen, hat⟩ := World.cells?_some hc
  obtain ⟨xs, m, _, hx, _, hxl, hfld⟩ := DataW.trod_struct Try.underlying39 ht
  match cs, hlen, xs, hxl with
  | [z0, z1, z2, z3, z4, z5], _, [y0, y1, y2, y3, y4, y5], _ =>
    have f0 : DataW.trod enc Try.prog w 0 (fun _ => true) true m 3 (([z0, z1, z2, z3, z4, z5].drop 0).take (Try.prog.cellsOf 3)) = some y0 := hfld 0 _ rfl
    rw [cells_int] at f0
    have f1 : DataW.trod enc Try.prog w 0 (fun _ => true) true m 23 (([z0, z1, z2, z3, z4, z5].drop 1).take (Try.prog.cellsOf 23)) = some y1 := hfld 1 _ rfl
    rw [cells_uint64] at f1
    have f2 : DataW.trod enc Try.prog w 0 (fun _ => true) true m 3 (([z0, z1, z2, z3, z4, z5].drop 2).take (Try.prog.cellsOf 3)) = some y2 := hfld 2 _ rfl
    rw [cells_int] at f2
    have f3 : DataW.trod enc Try.prog w 0 (fun _ => true) true m 9 (([z0, z1, z2, z3, z4, z5].drop 3).take (Try.prog.cellsOf 9)) = some y3 := hfld 3 _ rfl
    rw [cells_string] at f3
    have f4 : DataW.trod enc Try.prog w 0 (fun _ => true) true m 3 (([z0, z1, z2, z3, z4, z5].drop 4).take (Try.prog.cellsOf 3)) = some y4 := hfld 4 _ rfl
    rw [cells_int] at f4
    have f5 : DataW.trod enc Try.prog w 0 (fun _ => true) true m 3 (([z0, z1, z2, z3, z4, z5].drop 5).take (Try.prog.cellsOf 3)) = some y5 := hfld 5 _ rfl
    rw [cells_int] at f5
    obtain ⟨x0, q0, rfl, wf0⟩ := DataW.trod_int (cs := [z0]) Try.underlying3 f0
    obtain ⟨x1, q1, rfl, wf1⟩ := DataW.trod_int (cs := [z1]) Try.underlying23 f1
    obtain ⟨x2, q2, rfl, wf2⟩ := DataW.trod_int (cs := [z2]) Try.underlying3 f2
    obtain ⟨x3, q3, rfl, wf3⟩ := DataW.trod_string (cs := [z3]) Try.underlying9 f3
    obtain ⟨x4, q4, rfl, wf4⟩ := DataW.trod_int (cs := [z4]) Try.underlying3 f4
    obtain ⟨x5, q5, rfl, wf5⟩ := DataW.trod_int (cs := [z5]) Try.underlying3 f5
    simp only [List.cons.injEq, and_true] at q0 q1 q2 q3 q4 q5
    subst q0 q1 q2 q3 q4 q5
    have b1 := bounds_u64 wf1
    obtain ⟨u, rfl⟩ := Int.eq_ofNat_of_zero_le b1.1
    refine ⟨⟨x0, u, x2, x3.data.toList, x4, x5⟩, ⟨bounds_i64 wf0, (by have := b1.2; show u < 18446744073709551616; omega), bounds_i64 wf2, wf3, bounds_i64 wf4, bounds_i64 wf5⟩, fun j v hv => ?_, by rw [hx]; rfl⟩
    have hj : j < 6 := (List.getElem?_eq_some_iff.1 hv).1
    rw [← Go.Deep.add_add, hat j hj]
    exact hv

theorem parts_of_trod {H : Type} {enc : TypeId × Value → H} {w : World} {v : Value} {d : DataW H} {ps : List MemPlace} (hv : ∃ A n c, v = .slice A n c)
    (h : DataW.Trod enc Try.prog w 0 (fun _ => true) true 22 v d ps) (hw : ∀ n ∈ d.weights Try.prog 22, n ≤ reachBytes) :
    ∃ l, Parts w w.heap.size v l ∧ ∀ p ∈ l, p.s.length ≤ 140737488351232 := by
  obtain ⟨A0, n0, c0, rfl⟩ := hv
  obtain ⟨fuel, hf⟩ := h
  rcases open_slice Try.underlying22 hf with ⟨hcs, _⟩ | ⟨a, len, cap, m, n, D, Pl, hcs, _, hl, hm, hmm, hx, hi⟩
  · simp [Value.cells] at hcs
    obtain ⟨rfl, rfl, rfl⟩ := hcs
    exact ⟨[], ⟨none, 0, rfl, by simp, by simp, fun h => by simp at h⟩, by simp⟩
  · simp [Value.cells] at hcs
    obtain ⟨rfl, rfl, rfl⟩ := hcs
    have hone : ∀ i, i < n0 → ∃ p : Prt, PartAt w a i (D i) p := by
      intro i hin
      obtain ⟨cs', hcc, htt⟩ := hi i (by rw [hmm]; simp; omega)
      rw [cells_part] at hcc
      exact part_of hcc htt
    obtain ⟨f, hf⟩ := choose_lt hone
    have hget : ∀ i p, ((List.range n0).map f)[i]? = some p → i < n0 ∧ p = f i := by
      intro i p hip
      obtain ⟨hlt, rfl⟩ := List.getElem?_eq_some_iff.1 hip
      simp at hlt
      exact ⟨hlt, by simp⟩
    refine ⟨(List.range n0).map f, ⟨some a, c0, by simp, by simp; omega, ?_, fun hp => ?_⟩, ?_⟩
    · intro p hp
      obtain ⟨i, hi2, rfl⟩ := List.mem_map.1 hp
      exact (hf i (List.mem_range.1 hi2)).1
    · have hp0 : 0 < n0 := by simpa using hp
      obtain ⟨b, off, spot⟩ := a
      have hc := (hf 0 hp0).2.1 0 _ rfl
      have hspot : spot = none := by simpa [Addr.add] using World.cell?_spot hc
      subst hspot
      refine ⟨b, off, rfl, ?_, ?_⟩
      · have := World.block_lt_of_cell? w _ hc
        rwa [block_of_add] at this
      · intro i p hip j u hu
        obtain ⟨hlt, rfl⟩ := hget i p hip
        have := (hf i hlt).2.1 j u hu
        rwa [Addr.add_lit, ← Nat.add_assoc] at this
    · intro p hp
      obtain ⟨i, hi2, rfl⟩ := List.mem_map.1 hp
      have hlt := List.mem_range.1 hi2
      have hD := (hf i hlt).2.2
      have hd : d = .slice ((List.range n0).map D) ((List.range (m - n0)).map fun j => D (n0 + j)) := by
        simp only [Prod.mk.injEq] at hx
        exact hx.1
      refine hw _ ?_
      rw [hd]
      simp only [DataW.weights, Try.underlying22]
      refine List.mem_cons_of_mem _ (List.mem_append_left _ (weightsAll_mem (d := D i) (List.mem_map.2 ⟨i, hi2, rfl⟩) ?_))
      rw [hD]
      simp [DataW.weights, DataW.weightsEach, Try.underlying39]

theorem sl_of_trod {H : Type} {enc : TypeId × Value → H} {w : World} {v : Value} {d : DataW H} {ps : List MemPlace} (hv : ∃ A n c, v = .slice A n c)
    (h : DataW.Trod enc Try.prog w 0 (fun _ => true) true 26 v d ps) : ∃ bs, Sl w w.heap.size v bs := by
  obtain ⟨A0, n0, c0, rfl⟩ := hv
  obtain ⟨fuel, hf⟩ := h
  rcases open_ints Try.underlying26 Try.underlying5 (by kernel_rfl) hf with ⟨hcs, _⟩ | ⟨x, l, c, zs, hcs, _, hl, hm, hz, _, hcell, hwz⟩
  · simp [Value.cells] at hcs
    obtain ⟨rfl, rfl, rfl⟩ := hcs
    exact ⟨[], Sl.nil _ _⟩
  · simp [Value.cells] at hcs
    obtain ⟨rfl, rfl, rfl⟩ := hcs
    have hzl : zs.length = c0 := by simpa using hz
    have hlen : ((zs.take n0).map fun z => UInt8.ofNat z.toNat).length = n0 := by rw [List.length_map, List.length_take]; omega
    have hcells : ∀ j u, (vb ((zs.take n0).map fun z => UInt8.ofNat z.toNat))[j]? = some u → w.cell? (x.add j) = some u := by
      intro j u hu
      have hj := (List.getElem?_eq_some_iff.1 hu).1
      rw [vb_length, hlen] at hj
      have hjz : j < zs.length := by omega
      have hr := range_u8 hwz j
      rw [hcell j hjz]
      rw [← hu]
      simp only [vb, List.map_map, List.getElem?_map, List.getElem?_take, if_pos hj, List.getElem?_eq_getElem hjz, Option.map_some, Function.comp]
      rw [List.getElem?_eq_getElem hjz] at hr
      simp only [Option.getD_some] at hr
      congr 2
      rw [List.getD_eq_getElem?_getD, List.getElem?_eq_getElem hjz, Option.getD_some, UInt8.toNat_ofNat']
      omega
    refine ⟨(zs.take n0).map fun z => UInt8.ofNat z.toNat, some x, c0, by rw [hlen], by rw [hlen]; exact hl, hm, (fun h => by cases h), ?_, ?_⟩
    · intro ad e h0
      injection e with e
      subst e
      rw [hlen] at h0
      have := World.block_lt_of_cell? w _ (hcell 0 (by omega))
      rwa [block_of_add] at this
    · intro ad e
      injection e with e
      subst e
      exact hcells

end Go.Proofs.Ytcfcjknppeeadaa.Cd
