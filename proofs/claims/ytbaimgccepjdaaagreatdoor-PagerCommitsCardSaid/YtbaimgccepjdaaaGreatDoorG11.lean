/-
  has: a pager has just these pages. Conditions: the power is on.
-/
import Derived.Test.YtbaimgccepjdaaaGreatDoorG8
import Derived.ChangeSame
import Derived.OpenShut
import Derived.Laws.Rows
import Derived.SizedLaws
import Derived.LoopTactic
import Derived.Test.YtbaimgccepjdaaaGreatDoorG9
import Derived.Test.YtbaimgccepjdaaaGreatDoorG1
import Derived.Deep.QuietTactic
import Derived.BigQuiet
import Derived.Deep.Strs
import Derived.Test.YtbaimgccepjdaaaGreatDoorG10
/-
  PgsIn and steps, as the law's text has them: slices of structs that read. Conditions: none.
-/
namespace Go.Proofs.YtbaimgccepjdaaaGreatDoor.Cd
open Go.RowKit Go.ChangeShapes Go.WideShapes Go.Deep

/-- A page's cells. -/
def pgC (p : Int × List UInt8) : List Value := [.int .i64 p.1, .string ⟨p.2.toArray⟩]
def wfP (ps : Pgs) : Prop := ∀ p ∈ ps, (Lit.int .i64 p.1).wf = true
def fitP (ps : Pgs) : Prop := ∀ p ∈ ps, p.2.length ≤ 140737488351232

/-- A slice value that reads as the pages 'ps'. -/
def PgsIn (w : World) (B : Nat) (v : Value) (ps : Pgs) : Prop :=
  ∃ A c, v = .slice A ps.length c ∧ ps.length ≤ c ∧ c ≤ maxLen ∧ wfP ps ∧
    (0 < ps.length → ∃ b off, A = some ⟨b, off, none⟩ ∧ b < B ∧ ∀ (i : Nat) p, ps[i]? = some p → ∀ (j : Nat) x, (pgC p)[j]? = some x → w.cell? ⟨b, off + i * 2 + j, none⟩ = some x)

theorem PgsIn.below {w w' : World} {B : Nat} {v : Value} {ps : Pgs} (h : PgsIn w B v ps) (hb : Below B w w') : PgsIn w' B v ps := by
  obtain ⟨A, c, h1, h2, h3, h4, h5⟩ := h
  refine ⟨A, c, h1, h2, h3, h4, fun hp => ?_⟩
  obtain ⟨b, off, e, hB, hc⟩ := h5 hp
  exact ⟨b, off, e, hB, fun i p hi j x hj => (hb.cell (p := ⟨b, off + i * 2 + j, none⟩) hB).trans (hc i p hi j x hj)⟩
theorem PgsIn.more {w : World} {B B' : Nat} {v : Value} {ps : Pgs} (h : PgsIn w B v ps) (hB : B ≤ B') : PgsIn w B' v ps := by
  obtain ⟨A, c, h1, h2, h3, h4, h5⟩ := h
  refine ⟨A, c, h1, h2, h3, h4, fun hp => ?_⟩
  obtain ⟨b, off, e, hb, hc⟩ := h5 hp
  exact ⟨b, off, e, Nat.lt_of_lt_of_le hb hB, hc⟩
theorem PgsIn.nil (w : World) (B : Nat) : PgsIn w B (.slice none 0 0) [] := ⟨none, 0, rfl, Nat.le_refl _, Nat.zero_le _, (fun _ h => by cases h), fun h => by simp at h⟩

theorem cells_page : Tryz.prog.cellsOf 54 = 2 := by kernel_rfl
theorem cells_int6 : Tryz.prog.cellsOf 3 = 1 := by kernel_rfl
theorem cells_string6 : Tryz.prog.cellsOf 9 = 1 := by kernel_rfl
theorem cells_uint6 : Tryz.prog.cellsOf 33 = 1 := by kernel_rfl

def PageAt {H : Type} (w : World) (a : Addr) (i : Nat) (d : DataW H) (p : Int × List UInt8) : Prop :=
  ((∀ n ∈ d.weights Tryz.prog 54, n ≤ reachBytes) → p.2.length ≤ 140737488351232) ∧ (Lit.int .i64 p.1).wf = true ∧ ∀ (j : Nat) v, (pgC p)[j]? = some v → w.cell? (a.add (i * 2 + j)) = some v

set_option maxRecDepth 100000 in
theorem page_of {H : Type} {enc : TypeId × Value → H} {w : World} {a : Addr} {i n : Nat} {cs : List Value} {x : DataW H × List MemPlace} (hc : w.cells? 0 (a.add (i * 2)) 2 = some cs)
    (ht : DataW.trod enc Tryz.prog w 0 (fun _ => true) true n 54 cs = some x) : ∃ p, PageAt w a i x.1 p := by
  obtain ⟨_, hlen, hat⟩ := World.cells?_some hc
  obtain ⟨xs, m, _, hx, _, hxl, hfld⟩ := DataW.trod_struct Tryz.underlying54 ht
  match cs, hlen, xs, hxl with
  | [z0, z1], _, [y0, y1], _ =>
    have f0 : DataW.trod enc Tryz.prog w 0 (fun _ => true) true m 3 (([z0, z1].drop 0).take (Tryz.prog.cellsOf 3)) = some y0 := hfld 0 _ rfl
    rw [cells_int6] at f0
    have f1 : DataW.trod enc Tryz.prog w 0 (fun _ => true) true m 9 (([z0, z1].drop 1).take (Tryz.prog.cellsOf 9)) = some y1 := hfld 1 _ rfl
    rw [cells_string6] at f1
    obtain ⟨x0, q0, e0, wf0⟩ := DataW.trod_int (cs := [z0]) Tryz.underlying3 f0
    obtain ⟨x1, q1, e1, wf1⟩ := DataW.trod_string (cs := [z1]) Tryz.underlying9 f1
    simp only [List.cons.injEq, and_true] at q0 q1
    have hxd : x.1 = .agg [y0.1, y1.1] := by rw [hx]; rfl
    refine ⟨⟨x0, x1.data.toList⟩, fun hw => ?_, wf0, fun j v hv => ?_⟩
    · have hw' : ∀ n ∈ DataW.weightsEach Tryz.prog [3, 9] [y0.1, y1.1], n ≤ reachBytes := by
        intro n hn
        refine hw n ?_
        rw [hxd]
        simpa [DataW.weights, Tryz.underlying54] using hn
      have w1 := fun n hn => hw' n (DataW.weights_mem_each (j := 1) (t := 9) (d := y1.1) rfl rfl n hn)
      have l1 := w1 x1.data.toList.length (by rw [e1]; simp [DataW.weights])
      simp only [reachBytes] at l1
      show x1.data.toList.length ≤ _
      omega
    · have hj : j < 2 := (List.getElem?_eq_some_iff.1 hv).1
      rw [← Go.Deep.add_add, hat j hj]
      rw [q0, q1]
      exact hv

instance : Inhabited (Int × List UInt8) := ⟨(0, [])⟩

/-- Cells that are read as a slice of pages. -/
theorem pgs_of_cells {H : Type} {enc : TypeId × Value → H} {w : World} {fuel : Nat} {cs : List Value} {x : DataW H × List MemPlace} (hf : DataW.trod enc Tryz.prog w 0 (fun _ => true) true fuel 32 cs = some x) :
    ∃ A n c ps, cs = [.slice A n c] ∧ PgsIn w w.heap.size (.slice A n c) ps ∧ ((∀ m ∈ x.1.weights Tryz.prog 32, m ≤ reachBytes) → fitP ps) := by
  rcases open_slice Tryz.underlying32 hf with ⟨hcs, _⟩ | ⟨a, n0, c0, m, n, D, Pl, hcs, _, hl, hm, hmm, hx, hi⟩
  · exact ⟨none, 0, 0, [], hcs, PgsIn.nil _ _, fun _ p hp => by cases hp⟩
  · have hone : ∀ i, i < n0 → ∃ p : Int × List UInt8, PageAt w a i (D i) p := by
      intro i hin
      obtain ⟨cs', hcc, htt⟩ := hi i (by rw [hmm]; simp; omega)
      rw [cells_page] at hcc
      exact page_of hcc htt
    obtain ⟨f, hf2⟩ := choose_lt hone
    have hget : ∀ (i : Nat) p, ((List.range n0).map f)[i]? = some p → i < n0 ∧ p = f i := by
      intro i p hip
      obtain ⟨hlt, rfl⟩ := List.getElem?_eq_some_iff.1 hip
      simp at hlt
      exact ⟨hlt, by simp⟩
    refine ⟨some a, n0, c0, (List.range n0).map f, hcs, ⟨some a, c0, by simp, by simpa using hl, hm, ?_, fun hp => ?_⟩, fun hw => ?_⟩
    · intro p hp
      obtain ⟨i, hi2, rfl⟩ := List.mem_map.1 hp
      exact (hf2 i (List.mem_range.1 hi2)).2.1
    · have hp0 : 0 < n0 := by simpa using hp
      obtain ⟨b, off, spot⟩ := a
      have hc := (hf2 0 hp0).2.2 0 _ rfl
      have hspot : spot = none := by simpa [Addr.add] using World.cell?_spot hc
      subst hspot
      refine ⟨b, off, rfl, ?_, ?_⟩
      · have := World.block_lt_of_cell? w _ hc
        rwa [block_of_add] at this
      · intro i p hip j x hj
        obtain ⟨hlt, rfl⟩ := hget i p hip
        have := (hf2 i hlt).2.2 j x hj
        rwa [Addr.add_lit, ← Nat.add_assoc] at this
    · intro p hp
      obtain ⟨i, hi2, rfl⟩ := List.mem_map.1 hp
      have hlt := List.mem_range.1 hi2
      refine (hf2 i hlt).1 fun n hn => hw n ?_
      have hd : x.1 = .slice ((List.range n0).map D) ((List.range (m - n0)).map fun j => D (n0 + j)) := by rw [hx]
      rw [hd]
      simp only [DataW.weights, Tryz.underlying32]
      exact List.mem_cons_of_mem _ (List.mem_append_left _ (weightsAll_mem (d := D i) (List.mem_map.2 ⟨i, hi2, rfl⟩) hn))

theorem pgs_of_trod {H : Type} {enc : TypeId × Value → H} {w : World} {v : Value} {d : DataW H} {ps : List MemPlace} (hv : ∃ A n c, v = .slice A n c)
    (h : DataW.Trod enc Tryz.prog w 0 (fun _ => true) true 32 v d ps) (hw : ∀ n ∈ d.weights Tryz.prog 32, n ≤ reachBytes) : ∃ l, PgsIn w w.heap.size v l ∧ fitP l := by
  obtain ⟨A0, n0, c0, rfl⟩ := hv
  obtain ⟨fuel, hf⟩ := h
  obtain ⟨A, n, c, l, e, h1, h2⟩ := pgs_of_cells hf
  simp [Value.cells] at e
  obtain ⟨rfl, rfl, rfl⟩ := e
  exact ⟨l, h1, h2 hw⟩

/-! ### Steps -/

structure Stp where
  pages : Pgs
  fuse : Int
  keep : Nat
def Stp.Ok (p : Stp) : Prop := fitP p.pages
def Stp.cells (p : Stp) (u : Value) : List Value := [u, .int .i64 p.fuse, .int .u64 p.keep]
def Stp.Num (p : Stp) : Prop := (Lit.int .i64 p.fuse).wf = true ∧ p.keep < 18446744073709551616

/-- A slice value that reads as the steps 'ps'. -/
def Steps (w : World) (B : Nat) (v : Value) (ps : List Stp) : Prop :=
  ∃ A c, v = .slice A ps.length c ∧ ps.length ≤ c ∧ c ≤ maxLen ∧ (∀ p ∈ ps, p.Num) ∧
    (0 < ps.length → ∃ b off, A = some ⟨b, off, none⟩ ∧ b < B ∧ ∀ (i : Nat) p, ps[i]? = some p → ∃ u, PgsIn w B u p.pages ∧ ∀ (j : Nat) x, (p.cells u)[j]? = some x → w.cell? ⟨b, off + i * 3 + j, none⟩ = some x)

theorem Steps.below {w w' : World} {B : Nat} {v : Value} {ps : List Stp} (h : Steps w B v ps) (hb : Below B w w') : Steps w' B v ps := by
  obtain ⟨A, c, h1, h2, h3, h4, h5⟩ := h
  refine ⟨A, c, h1, h2, h3, h4, fun hp => ?_⟩
  obtain ⟨b, off, e, hB, hc⟩ := h5 hp
  refine ⟨b, off, e, hB, fun i p hi => ?_⟩
  obtain ⟨u, hs, hx⟩ := hc i p hi
  exact ⟨u, hs.below hb, fun j x hj => (hb.cell (p := ⟨b, off + i * 3 + j, none⟩) hB).trans (hx j x hj)⟩

theorem cells_step : Tryz.prog.cellsOf 35 = 3 := by kernel_rfl
theorem cells_pages : Tryz.prog.cellsOf 32 = 1 := by kernel_rfl

def StepAt {H : Type} (w : World) (a : Addr) (i : Nat) (d : DataW H) (p : Stp) : Prop :=
  ((∀ n ∈ d.weights Tryz.prog 35, n ≤ reachBytes) → p.Ok) ∧ p.Num ∧ ∃ u, PgsIn w w.heap.size u p.pages ∧ ∀ (j : Nat) v, (p.cells u)[j]? = some v → w.cell? (a.add (i * 3 + j)) = some v

set_option maxRecDepth 100000 in
theorem step_of {H : Type} {enc : TypeId × Value → H} {w : World} {a : Addr} {i n : Nat} {cs : List Value} {x : DataW H × List MemPlace} (hc : w.cells? 0 (a.add (i * 3)) 3 = some cs)
    (ht : DataW.trod enc Tryz.prog w 0 (fun _ => true) true n 35 cs = some x) : ∃ p, StepAt w a i x.1 p := by
  obtain ⟨_, hlen, hat⟩ := World.cells?_some hc
  obtain ⟨xs, m, _, hx, _, hxl, hfld⟩ := DataW.trod_struct Tryz.underlying35 ht
  match cs, hlen, xs, hxl with
  | [z0, z1, z2], _, [y0, y1, y2], _ =>
    have f0 : DataW.trod enc Tryz.prog w 0 (fun _ => true) true m 32 (([z0, z1, z2].drop 0).take (Tryz.prog.cellsOf 32)) = some y0 := hfld 0 _ rfl
    rw [cells_pages] at f0
    have f1 : DataW.trod enc Tryz.prog w 0 (fun _ => true) true m 3 (([z0, z1, z2].drop 1).take (Tryz.prog.cellsOf 3)) = some y1 := hfld 1 _ rfl
    rw [cells_int6] at f1
    have f2 : DataW.trod enc Tryz.prog w 0 (fun _ => true) true m 33 (([z0, z1, z2].drop 2).take (Tryz.prog.cellsOf 33)) = some y2 := hfld 2 _ rfl
    rw [cells_uint6] at f2
    obtain ⟨A, n4, c4, pg, q0, hs, hsw⟩ := pgs_of_cells (cs := [z0]) f0
    obtain ⟨x1, q1, e1, wf1⟩ := DataW.trod_int (cs := [z1]) Tryz.underlying3 f1
    obtain ⟨x2, q2, e2, wf2⟩ := DataW.trod_int (cs := [z2]) Tryz.underlying33 f2
    simp only [List.cons.injEq, and_true] at q0 q1 q2
    have b2 := bounds_u64 wf2
    obtain ⟨u, rfl⟩ := Int.eq_ofNat_of_zero_le b2.1
    have hxd : x.1 = .agg [y0.1, y1.1, y2.1] := by rw [hx]; rfl
    refine ⟨⟨pg, x1, u⟩, fun hw => ?_, ⟨wf1, by have := b2.2; show u < 18446744073709551616; omega⟩, .slice A n4 c4, hs, fun j v hv => ?_⟩
    · have hw' : ∀ n ∈ DataW.weightsEach Tryz.prog [32, 3, 33] [y0.1, y1.1, y2.1], n ≤ reachBytes := by
        intro n hn
        refine hw n ?_
        rw [hxd]
        simpa [DataW.weights, Tryz.underlying35] using hn
      exact hsw fun n hn => hw' n (DataW.weights_mem_each (j := 0) (t := 32) (d := y0.1) rfl rfl n hn)
    · have hj : j < 3 := (List.getElem?_eq_some_iff.1 hv).1
      rw [← Go.Deep.add_add, hat j hj]
      rw [q0, q1, q2]
      exact hv

instance : Inhabited Stp := ⟨⟨[], 0, 0⟩⟩

theorem steps_of_trod {H : Type} {enc : TypeId × Value → H} {w : World} {v : Value} {d : DataW H} {ps : List MemPlace} (hv : ∃ A n c, v = .slice A n c)
    (h : DataW.Trod enc Tryz.prog w 0 (fun _ => true) true 22 v d ps) (hw : ∀ n ∈ d.weights Tryz.prog 22, n ≤ reachBytes) :
    ∃ l, Steps w w.heap.size v l ∧ ∀ p ∈ l, p.Ok := by
  obtain ⟨A0, n0, c0, rfl⟩ := hv
  obtain ⟨fuel, hf⟩ := h
  rcases open_slice Tryz.underlying22 hf with ⟨hcs, _⟩ | ⟨a, len, cap, m, n, D, Pl, hcs, _, hl, hm, hmm, hx, hi⟩
  · simp [Value.cells] at hcs
    obtain ⟨rfl, rfl, rfl⟩ := hcs
    exact ⟨[], ⟨none, 0, rfl, by simp, by simp, (fun _ h => by cases h), fun h => by simp at h⟩, fun _ h => by cases h⟩
  · simp [Value.cells] at hcs
    obtain ⟨rfl, rfl, rfl⟩ := hcs
    have hone : ∀ i, i < n0 → ∃ p : Stp, StepAt w a i (D i) p := by
      intro i hin
      obtain ⟨cs', hcc, htt⟩ := hi i (by rw [hmm]; simp; omega)
      rw [cells_step] at hcc
      exact step_of hcc htt
    obtain ⟨f, hf⟩ := choose_lt hone
    have hget : ∀ (i : Nat) p, ((List.range n0).map f)[i]? = some p → i < n0 ∧ p = f i := by
      intro i p hip
      obtain ⟨hlt, rfl⟩ := List.getElem?_eq_some_iff.1 hip
      simp at hlt
      exact ⟨hlt, by simp⟩
    refine ⟨(List.range n0).map f, ⟨some a, c0, by simp, by simpa using hl, hm, ?_, fun hp => ?_⟩, ?_⟩
    · intro p hp
      obtain ⟨i, hi2, rfl⟩ := List.mem_map.1 hp
      exact (hf i (List.mem_range.1 hi2)).2.1
    · have hp0 : 0 < n0 := by simpa using hp
      obtain ⟨b, off, spot⟩ := a
      obtain ⟨u0, _, hc0⟩ := (hf 0 hp0).2.2
      have hc := hc0 0 _ rfl
      have hspot : spot = none := by simpa [Addr.add] using World.cell?_spot hc
      subst hspot
      refine ⟨b, off, rfl, ?_, ?_⟩
      · have := World.block_lt_of_cell? w _ hc
        rwa [block_of_add] at this
      · intro i p hip
        obtain ⟨hlt, rfl⟩ := hget i p hip
        obtain ⟨u, h1, h2⟩ := (hf i hlt).2.2
        refine ⟨u, h1, fun j x hj => ?_⟩
        have := h2 j x hj
        rwa [Addr.add_lit, ← Nat.add_assoc] at this
    · intro p hp
      obtain ⟨i, hi2, rfl⟩ := List.mem_map.1 hp
      have hlt := List.mem_range.1 hi2
      refine (hf i hlt).1 fun n hn => hw n ?_
      have hd : d = .slice ((List.range n0).map D) ((List.range (m - n0)).map fun j => D (n0 + j)) := by
        simp only [Prod.mk.injEq] at hx
        exact hx.1
      rw [hd]
      simp only [DataW.weights, Tryz.underlying22]
      exact List.mem_cons_of_mem _ (List.mem_append_left _ (weightsAll_mem (d := D i) (List.mem_map.2 ⟨i, hi2, rfl⟩) hn))

end Go.Proofs.YtbaimgccepjdaaaGreatDoor.Cd

/-
  More than is played? Conditions: none.
-/
namespace Go.Proofs.YtbaimgccepjdaaaGreatDoor.Cd
open Go.RowKit

/-- How many bytes the pages have. -/
def bytesP (ps : Pgs) : Nat := (ps.map fun p => p.2.length).sum
theorem bytesP_snoc {ps : Pgs} {k : Nat} {p : Int × List UInt8} (h : ps[k]? = some p) : bytesP (ps.take (k + 1)) = bytesP (ps.take k) + p.2.length := by
  obtain ⟨hk, rfl⟩ := List.getElem?_eq_some_iff.1 h
  unfold bytesP
  rw [List.take_succ_eq_append_getElem hk, List.map_append, List.sum_append]
  simp
theorem bytesP_mem {ps : Pgs} {p : Int × List UInt8} (h : p ∈ ps) : p.2.length ≤ bytesP ps := by
  induction ps with
  | nil => cases h
  | cons q r ih =>
    unfold bytesP at ih ⊢
    rcases List.mem_cons.1 h with rfl | h
    · simp
    · have := ih h
      simp
      omega

/-- A step that is played. -/
def Stp.Small (p : Stp) : Prop := p.pages.length ≤ 8 ∧ bytesP p.pages ≤ 32768
def Small (l : List Stp) : Prop := l.length ≤ 12 ∧ ∀ p ∈ l, p.Small
def SmallTo (l : List Stp) (k : Nat) : Prop := ∀ (j : Nat) p, j < k → l[j]? = some p → p.Small

theorem PgsIn.at {w : World} {B : Nat} {v : Value} {ps : Pgs} (h : PgsIn w B v ps) (h0 : 0 < ps.length) :
    ∃ b off c, v = .slice (some ⟨b, off, none⟩) ps.length c ∧ ps.length ≤ c ∧ c ≤ maxLen ∧ b < B ∧ ∀ (i : Nat) p, ps[i]? = some p → w.cell? ⟨b, off + i * 2, none⟩ = some (.int .i64 p.1) ∧ w.cell? ⟨b, off + i * 2 + 1, none⟩ = some (.string ⟨p.2.toArray⟩) := by
  obtain ⟨A, c, rfl, h2, h3, h4, h5⟩ := h
  obtain ⟨b, off, rfl, hB, hc⟩ := h5 h0
  exact ⟨b, off, c, rfl, h2, h3, hB, fun i p hp => ⟨hc i p hp 0 _ rfl, hc i p hp 1 _ rfl⟩⟩
theorem PgsIn.len {w : World} {B : Nat} {v : Value} {ps : Pgs} (h : PgsIn w B v ps) : ∃ A c, v = .slice A ps.length c ∧ ps.length ≤ c ∧ c ≤ 9223372036854775807 := by
  obtain ⟨A, c, h1, h2, h3, _⟩ := h
  exact ⟨A, c, h1, h2, h3⟩

set_option maxRecDepth 100000 in
set_option maxHeartbeats 1600000 in
theorem great6_any (v : Value) (l : List Stp) (w : World) (h : Steps w w.heap.size v l) (hok : ∀ p ∈ l, p.Ok) :
    Calls Tryz.prog 10 #[v] w fun e w' => ∃ g : Bool, e = .returned (.bool g) ∧ Below w.heap.size w w' ∧ (g = false → Small l) := by
  obtain ⟨A, c, rfl, hm1, hm, _, hp⟩ := h
  have HP := Lib.hid hp
  have HO := Lib.hid hok
  clear hp hok
  have hm2 : l.length ≤ 9223372036854775807 := by unfold maxLen at hm; omega
  clear hm
  go_enter Tryz.func10, Tryz.ntmps10
  go_wp2
  go_loopw [3, 10] (fun n i wr => ∃ (k m : Nat), i = .int .i64 k ∧ k ≤ l.length ∧ n = .int .i64 m ∧ m ≤ 32768 ∧ Hid (SmallTo l k) ∧ Below w.heap.size w wr) (fun _ i _ => l.length - (intOf i).toNat)
  case atStart => exact ⟨0, 0, rfl, by omega, rfl, by omega, (fun j p hj => by omega), Below.refl _ _⟩
  case round =>
    obtain ⟨k, m, rfl, hk, rfl, hm, hst, hb⟩ := hrel
    by_cases hlt : k < l.length
    · obtain ⟨b, off, rfl, hB, hc⟩ := HP.out (by omega)
      obtain ⟨p, hpk⟩ : ∃ p, l[k]? = some p := ⟨l[k], List.getElem?_eq_getElem hlt⟩
      obtain ⟨u, hsl, hcu⟩ := hc k p hpk
      have hpg := hsl.below hb
      obtain ⟨Au, cu, rfl, hcu1, hcu2⟩ := hsl.len
      have hcell : ∀ (j : Nat) x, (p.cells (.slice Au p.pages.length cu))[j]? = some x → wr.cell? ⟨b, off + k * 3 + j, none⟩ = some x := fun j x hx => (hb.cell (p := ⟨b, off + k * 3 + j, none⟩) hB).trans (hcu j x hx)
      have c0 : wr.cell? ⟨b, off + k * 3, none⟩ = some (.slice Au p.pages.length cu) := hcell 0 _ rfl
      have c1 := hcell 1 _ rfl
      have c2 := hcell 2 _ rfl
      clear hc hcell hcu
      have ok := Lib.hid (HO.out p (List.mem_of_getElem? hpk))
      have HPG := Lib.hid hpg
      have hwz := hb.size
      have HPK := Lib.hid hpk
      have HSL := Lib.hid (show PgsIn w w.heap.size _ p.pages from hsl)
      clear hsl hpg hpk
      by_cases h8 : 8 < p.pages.length
      · go_wp2
        go_ret
        exact ⟨true, rfl, hb.alloc hb.size _, fun h => by cases h⟩
      · have h8' : (p.pages.length : Int) ≤ 8 := by omega
        have hb1 : Below w.heap.size w (wr.alloc (.cells #[.slice Au p.pages.length cu, .int .i64 p.fuse, .int .u64 p.keep] 35)) := hb.alloc hb.size _
        go_wp2
        obtain ⟨w1, hw1⟩ : ∃ x, wr.alloc (.cells #[.slice Au p.pages.length cu, .int .i64 p.fuse, .int .u64 p.keep] 35) = x := ⟨_, rfl⟩
        rw [hw1] at hb1 ⊢
        clear hw1
        go_loopw [3, 21] (fun n i wr => ∃ (j t : Nat), i = .int .i64 j ∧ j ≤ p.pages.length ∧ n = .int .i64 t ∧ t ≤ 32768 ∧ Hid (bytesP (p.pages.take j) ≤ t) ∧ Below w.heap.size w wr) (fun _ i _ => p.pages.length - (intOf i).toNat)
        case atStart => exact ⟨0, m, rfl, by omega, rfl, hm, (by simp [Hid, bytesP]), hb1⟩
        case round =>
          obtain ⟨j, t, rfl, hj, rfl, ht, hbt, hb2⟩ := hrel
          by_cases hjl : j < p.pages.length
          · obtain ⟨q, hqk⟩ : ∃ q, p.pages[j]? = some q := ⟨p.pages[j], List.getElem?_eq_getElem hjl⟩
            obtain ⟨b2, off2, c2', e2, _, _, hB2, hat⟩ := (HSL.out.below hb2).at (by omega)
            injection e2 with e2 _ e3
            subst e2 e3
            obtain ⟨d0, d1⟩ := hat j q hqk
            have hql : q.2.length ≤ 140737488351232 := ok.out q (List.mem_of_getElem? hqk)
            have hsn := Lib.hid (bytesP_snoc hqk)
            clear hat hqk
            have hz2 := hb2.size
            by_cases hov : 32768 < t + q.2.length
            · go_wp2
              go_ret
              exact .inr ⟨rfl, hb2.alloc hb2.size _⟩
            · go_wp2
              go_roundw
              case rel => exact ⟨j + 1, t + q.2.length, by go_num, by omega, by go_num, by omega, by have := hbt.out; unfold Hid; rw [hsn.out]; omega, hb2.alloc hb2.size _⟩
              case measure => simp [intOf]; omega
          · have hbl : Hid (p.Small) := ⟨by omega, by have := hbt.out; rw [List.take_of_length_le (by omega)] at this; omega⟩
            clear hbt
            go_wp2
            go_roundw
            case rel =>
              refine ⟨k + 1, t, by go_num, by omega, rfl, ht, fun i q hi hq => ?_, hb2⟩
              by_cases e : i = k
              · subst e
                rw [HPK.out] at hq
                injection hq with hq
                rw [← hq]
                exact hbl.out
              · exact hst.out i q (by omega) hq
            case measure => simp [intOf]; omega
    · have hall : Hid (∀ p ∈ l, p.Small) := fun p hp => by
        obtain ⟨i, hi, rfl⟩ := List.getElem_of_mem hp
        exact hst.out i _ (by omega) (List.getElem?_eq_getElem hi)
      clear hst
      go_wp2
      go_ret
      refine ⟨_, rfl, hb, fun h => ⟨?_, hall.out⟩⟩
      have := of_decide_eq_false h
      omega

end Go.Proofs.YtbaimgccepjdaaaGreatDoor.Cd

/-
  A row of pages of the call's own: one page more. Conditions: not too many.
-/
namespace Go.Proofs.YtbaimgccepjdaaaGreatDoor.Cd
open Go.RowKit

/-- Pages' cells, one page behind the other. -/
def pgCs (l : Pgs) : List Value := (l.map pgC).flatten
theorem pgCs_append (l : Pgs) (p : Int × List UInt8) : pgCs (l ++ [p]) = pgCs l ++ pgC p := by simp [pgCs]
theorem pgCs_at : ∀ (l : Pgs) (i : Nat) (p : Int × List UInt8), l[i]? = some p → ∀ (j : Nat) x, (pgC p)[j]? = some x → (pgCs l)[i * 2 + j]? = some x
  | [], _, _, h, _, _, _ => by simp at h
  | q :: r, 0, p, h, j, x, hx => by
    have e : q = p := by simpa using h
    subst e
    have hj : j < (pgC q).length := (List.getElem?_eq_some_iff.1 hx).1
    show (pgC q ++ pgCs r)[0 * 2 + j]? = some x
    rw [Nat.zero_mul, Nat.zero_add, List.getElem?_append_left hj]
    exact hx
  | q :: r, i + 1, p, h, j, x, hx => by
    have := pgCs_at r i p (by simpa using h) j x hx
    show (pgC q ++ pgCs r)[(i + 1) * 2 + j]? = some x
    rw [List.getElem?_append_right (by simp [pgC]; omega)]
    rw [show (i + 1) * 2 + j - (pgC q).length = i * 2 + j by simp [pgC]; omega]
    exact this
theorem pgCs_one (l : Pgs) : ∀ u ∈ pgCs l, u.oneCell' = true := by
  intro u hu
  simp only [pgCs, List.mem_flatten, List.mem_map] at hu
  obtain ⟨_, ⟨p, _, rfl⟩, hu⟩ := hu
  simp only [pgC, List.mem_cons, List.not_mem_nil, or_false] at hu
  rcases hu with rfl | rfl <;> rfl

theorem info_page : (Tryz.prog.info? 54).map (fun i => (i.zero, i.size, i.bytes)) = some (some (.agg #[.int .i64 0, .string ByteArray.empty]), 2, 24) := by kernel_rfl

/-- A row of pages of the call's own. -/
def OwnPg (w : World) (B : Nat) (v : Value) (l : Pgs) : Prop := wfP l ∧ w.ownsRow B 54 2 v l.length (pgCs l)

section
variable {w w' : World} {B : Nat} {v : Value} {l : Pgs}
theorem OwnPg.nil (w : World) (B : Nat) : OwnPg w B (.slice none 0 0) [] := ⟨(fun _ h => by cases h), World.ownsRow_nil _ _ _ _⟩
theorem OwnPg.keep (h : OwnPg w B v l) (hb : Below w.heap.size w w') : OwnPg w' B v l := by
  obtain ⟨h0, h2⟩ := h
  have hlt := h2.lt
  refine ⟨h0, ⟨h2.1, ?_⟩⟩
  rcases h2.2 with h4 | ⟨g, cap, cur, rfl, hg, hh, r⟩
  · exact .inl h4
  · exact .inr ⟨g, cap, cur, rfl, hg, (hb.block g (hlt g rfl).2).trans hh, r⟩
theorem OwnPg.lower {B' : Nat} (h : OwnPg w B v l) (hB : B' ≤ B) : OwnPg w B' v l := by
  refine ⟨h.1, h.2.1, ?_⟩
  rcases h.2.2 with h2 | ⟨g, cap, cur, hv, hg, r⟩
  · exact .inl h2
  · exact .inr ⟨g, cap, cur, hv, Nat.le_trans hB hg, r⟩
/-- Blocks that are none of the row's are written. -/
theorem OwnPg.off {T : Nat → Prop} (h : OwnPg w B v l) (ha : Apart T w w') (hT : ∀ k, T k → k < B) : OwnPg w' B v l := by
  obtain ⟨h0, h2⟩ := h
  have hlt := h2.lt
  refine ⟨h0, ⟨h2.1, ?_⟩⟩
  rcases h2.2 with h4 | ⟨g, cap, cur, rfl, hg, hh, r⟩
  · exact .inl h4
  · exact .inr ⟨g, cap, cur, rfl, hg, (ha.block g (hlt g rfl).2 (fun e => by have := hT g e; omega)).trans hh, r⟩
theorem OwnPg.pgs (h : OwnPg w B v l) : PgsIn w w.heap.size v l := by
  obtain ⟨h0, h2⟩ := h
  have hlt := h2.lt
  have hc := fun g hg => h2.cells (g := g) hg
  rcases h2.2 with ⟨rfl, h0⟩ | ⟨g, cap, cur, rfl, hBg, hg, hn, hm, _, _⟩
  · have : l = [] := List.eq_nil_of_length_eq_zero h0
    subst this
    exact PgsIn.nil _ _
  · refine ⟨_, cap, rfl, hn, hm, h0, fun _ => ⟨g, 0, rfl, (hlt g rfl).2, fun i p hi j x hj => ?_⟩⟩
    have := hc g rfl (i * 2 + j) _ (pgCs_at l i p hi j x hj)
    rw [Addr.add_lit] at this
    rwa [← Nat.add_assoc] at this

/-- append of one page. -/
theorem run_append_page (ho : OwnPg w B v l) (hB : B ≤ w.heap.size) (p : Int × List UInt8) (hp : (Lit.int .i64 p.1).wf = true) (b off c0 : Nat) (hn : w.cell? ⟨b, off, none⟩ = some (.int .i64 p.1)) (hy : w.cell? ⟨b, off + 1, none⟩ = some (.string ⟨p.2.toArray⟩))
    (hm : l.length ≤ 8388608) (ty : TypeId) :
    ∃ v' w', (Builtin.append_ #[32, 32] ty #[v, .slice (some ⟨b, off, none⟩) 1 c0]).run Tryz.prog w = .ok v' w' ∧ OwnPg w' B v' (l ++ [p]) ∧ Below B w w' ∧ w.grownBy w' v.ownBlock := by
  obtain ⟨i0, hi, hz0, hz1, hz2⟩ := info_parts info_page
  obtain ⟨h1, h2⟩ := ho
  obtain ⟨v', w', hr, r2, r3, _⟩ := run_append_own (P := Tryz.prog) w B 32 ty 54 i0 _ 2 24 Tryz.underlying32 hi hz0 hz1 hz2 rfl (by omega) v l.length (pgCs l) h2 ⟨b, off, none⟩ 1 c0 (pgC p) rfl
    (fun j u hu => by
      rw [Addr.add_lit]
      match j with
      | 0 => rw [← Option.some.inj (show some (Value.int .i64 p.1) = some u from hu)]; exact hn
      | 1 => rw [← Option.some.inj (show some (Value.string ⟨p.2.toArray⟩) = some u from hu)]; exact hy
      | j + 2 => simp [pgC] at hu)
    (fun u hu => by
      simp only [pgC, List.mem_cons, List.not_mem_nil, or_false] at hu
      rcases hu with rfl | rfl <;> rfl) (by simp only [maxLen]; omega) (by omega) hB
  refine ⟨v', w', hr, ⟨fun q hq => ?_, ?_⟩, (Below.refl _ _).grown r3 hB (fun k hk => (h2.lt k hk).1), r3⟩
  · rcases List.mem_append.1 hq with h | h
    · exact h1 q h
    · obtain rfl := List.mem_singleton.1 h; exact hp
  · rw [pgCs_append, List.length_append]
    exact r2

theorem wp_append_page {ops : Array Oper} {rest : List Oper} {o : Oper} {a : Act} {Q : Exit → Act → World → Prop} (hgd : o.guard = none) (s x : Operand)
    (hop : o.op = .call { callee := .builtin .append, args := #[s, x], argTypes := #[32, 32] })
    (hs : a.eval s = v) (ho : OwnPg w B v l) (hB : B ≤ w.heap.size) (p : Int × List UInt8) (hp : (Lit.int .i64 p.1).wf = true) (b off c0 : Nat) (hx : a.eval x = .slice (some ⟨b, off, none⟩) 1 c0) (hn : w.cell? ⟨b, off, none⟩ = some (.int .i64 p.1)) (hy : w.cell? ⟨b, off + 1, none⟩ = some (.string ⟨p.2.toArray⟩))
    (hm : l.length ≤ 8388608)
    (hK : ∀ v' w', OwnPg w' B v' (l ++ [p]) → Below B w w' → w.grownBy w' v.ownBlock → wpList Tryz.prog ops Q rest (a.put o.dst v') w') : wpList Tryz.prog ops Q (o :: rest) a w := by
  refine wpList_plain hgd fun K hK' => ?_
  obtain ⟨v', w', hrun, r1, r2, r3⟩ := run_append_page ho hB p hp b off c0 hn hy hm o.type
  unfold Oper.wp
  simp [execOp, hop, resolve, invoke, builtin, hs, hx, hrun, Result.andThen]
  exact hK' _ _ (hK v' w' r1 r2 r3)
end

/-! ### What a step writes: each page once, the last one of a number, by rising numbers -/

def wsOf (ps : Pgs) : Pgs := ps.foldl (fun ws p => insP ws p.1 p.2) []
theorem wsOf_snoc {ps : Pgs} {k : Nat} {p : Int × List UInt8} (h : ps[k]? = some p) : wsOf (ps.take (k + 1)) = insP (wsOf (ps.take k)) p.1 p.2 := by
  obtain ⟨hk, rfl⟩ := List.getElem?_eq_some_iff.1 h
  unfold wsOf
  rw [List.take_succ_eq_append_getElem hk, List.foldl_append]
  rfl
theorem foldl_up (ps : Pgs) : ∀ ws : Pgs, (ws.Pairwise fun a b => a.1 < b.1) → ((ps.foldl (fun ws p => insP ws p.1 p.2) ws).Pairwise fun a b => a.1 < b.1) ∧ (ps.foldl (fun ws p => insP ws p.1 p.2) ws).length ≤ ws.length + ps.length := by
  induction ps with
  | nil => exact fun ws h => ⟨h, by simp⟩
  | cons p r ih =>
    intro ws h
    have := ih (insP ws p.1 p.2) (ins_up h)
    refine ⟨this.1, ?_⟩
    have h2 := ins_len (x := p.1) (b := p.2) h
    have h3 := this.2
    simp only [List.foldl_cons, List.length_cons]
    split at h2 <;> omega
theorem wsOf_up (ps : Pgs) : (wsOf ps).Pairwise fun a b => a.1 < b.1 := (foldl_up ps [] List.Pairwise.nil).1
theorem wsOf_len (ps : Pgs) : (wsOf ps).length ≤ ps.length := by
  have := (foldl_up ps [] List.Pairwise.nil).2
  simp only [List.length_nil, Nat.zero_add] at this
  exact this
/-- The last page of its number, and no other. -/
def Last (ps : Pgs) (p : Int × List UInt8) : Prop := ∃ i : Nat, ps[i]? = some p ∧ ∀ (j : Nat) q, i < j → ps[j]? = some q → q.1 ≠ p.1
theorem last_take {ps : Pgs} {k : Nat} {x p : Int × List UInt8} (h : ps[k]? = some x) : Last (ps.take (k + 1)) p ↔ p = x ∨ (Last (ps.take k) p ∧ p.1 ≠ x.1) := by
  have hk := (List.getElem?_eq_some_iff.1 h).1
  constructor
  · rintro ⟨i, h1, h2⟩
    rw [List.getElem?_take] at h1
    split at h1
    · rename_i hi
      by_cases e : i = k
      · subst e
        rw [h] at h1
        injection h1 with h1
        exact .inl h1.symm
      · refine .inr ⟨⟨i, by rw [List.getElem?_take, if_pos (by omega)]; exact h1, fun j q hj hq => ?_⟩, fun e2 => ?_⟩
        · rw [List.getElem?_take] at hq
          split at hq
          · exact h2 j q hj (by rw [List.getElem?_take, if_pos (by omega)]; exact hq)
          · cases hq
        · exact h2 k x (by omega) (by rw [List.getElem?_take, if_pos (by omega)]; exact h) e2.symm
    · cases h1
  · rintro (rfl | ⟨⟨i, h1, h2⟩, hne⟩)
    · refine ⟨k, by rw [List.getElem?_take, if_pos (by omega)]; exact h, fun j q hj hq => ?_⟩
      rw [List.getElem?_take, if_neg (by omega)] at hq
      cases hq
    · rw [List.getElem?_take] at h1
      split at h1
      · rename_i hi
        refine ⟨i, by rw [List.getElem?_take, if_pos (by omega)]; exact h1, fun j q hj hq => ?_⟩
        rw [List.getElem?_take] at hq
        split at hq
        · by_cases e : j = k
          · subst e
            rw [h] at hq
            injection hq with hq
            subst hq
            exact fun e2 => hne e2.symm
          · exact h2 j q hj (by rw [List.getElem?_take, if_pos (by omega)]; exact hq)
        · cases hq
      · cases h1
theorem wsOf_mem (ps : Pgs) (p : Int × List UInt8) : p ∈ wsOf ps ↔ Last ps p := by
  have : ∀ k, k ≤ ps.length → (p ∈ wsOf (ps.take k) ↔ Last (ps.take k) p) := by
    intro k
    induction k with
    | zero =>
      intro _
      simp only [List.take_zero]
      exact ⟨(fun h => by cases h), fun ⟨i, h, _⟩ => by simp at h⟩
    | succ k ih =>
      intro hk
      have h : ps[k]? = some ps[k] := List.getElem?_eq_getElem (by omega)
      rw [wsOf_snoc h, ins_mem (wsOf_up _), last_take h, ih (by omega)]
  have h := this ps.length (Nat.le_refl _)
  rwa [List.take_of_length_le (Nat.le_refl _)] at h
theorem wsOf_wf {ps : Pgs} (h : wfP ps) : wfP (wsOf ps) := fun p hp => by
  obtain ⟨i, h1, _⟩ := (wsOf_mem ps p).1 hp
  exact h p (List.mem_of_getElem? h1)
theorem wsOf_sub {ps : Pgs} : ∀ p ∈ wsOf ps, p ∈ ps := fun p hp => by
  obtain ⟨i, h1, _⟩ := (wsOf_mem ps p).1 hp
  exact List.mem_of_getElem? h1

end Go.Proofs.YtbaimgccepjdaaaGreatDoor.Cd

/-
  How the law's text sorts a step's pages: the least number above the last one, the last page of it. Conditions: none.
-/
namespace Go.Proofs.YtbaimgccepjdaaaGreatDoor.Cd
open Go.RowKit

/-- How many of the pages are still to come. -/
def lf (ws : Pgs) (left : Lit → Bool) : Nat := ws.countP fun p => left (.int .i64 p.1)
theorem lf_all {ws : Pgs} {left : Lit → Bool} (h : ∀ p ∈ ws, left (.int .i64 p.1) = true) : lf ws left = ws.length := List.countP_eq_length.2 h
theorem lf_none {ws : Pgs} {left : Lit → Bool} (h : ∀ kl, left kl = false) : lf ws left = 0 := List.countP_eq_zero.2 fun p _ => by rw [h]; simp
theorem same_int (a b : Int) : (Lit.int .i64 a).sameKey (.int .i64 b) = decide (a = b) := by
  by_cases e : a = b
  · subst e; simp [Lit.sameKey]
  · simp [Lit.sameKey, e]
theorem lf_other {ws : Pgs} {left : Lit → Bool} {x : Int} (h : ∀ p ∈ ws, p.1 ≠ x) : lf ws (fun z => left z && !z.sameKey (.int .i64 x)) = lf ws left := by
  unfold lf
  refine List.countP_congr fun p hp => ?_
  dsimp only
  rw [same_int, decide_eq_false (h p hp)]
  simp
theorem lf_next {left : Lit → Bool} {x : Int} : ∀ {ws : Pgs}, (ws.Pairwise fun a b => a.1 < b.1) → (∃ p ∈ ws, p.1 = x) → left (.int .i64 x) = true → lf ws (fun z => left z && !z.sameKey (.int .i64 x)) + 1 = lf ws left
  | [], _, h, _ => by obtain ⟨_, h, _⟩ := h; cases h
  | p :: r, hp, hx, hl => by
    obtain ⟨h1, h2⟩ := List.pairwise_cons.1 hp
    by_cases e : p.1 = x
    · have ho := lf_other (left := left) (x := x) (ws := r) (fun q hq => by have := h1 q hq; omega)
      unfold lf at ho ⊢
      rw [List.countP_cons, List.countP_cons, ho]
      have hs : (Lit.int .i64 x).sameKey (.int .i64 x) = true := by rw [same_int]; simp
      simp [e, hs, hl]
    · have ih := lf_next (left := left) (x := x) h2 (by
        obtain ⟨q, hq, e2⟩ := hx
        rcases List.mem_cons.1 hq with rfl | hq
        · exact absurd e2 e
        · exact ⟨q, hq, e2⟩) hl
      unfold lf at ih ⊢
      rw [List.countP_cons, List.countP_cons]
      have hs : (Lit.int .i64 p.1).sameKey (.int .i64 x) = false := by rw [same_int, decide_eq_false e]
      simp only [hs, Bool.not_false, Bool.and_true]
      dsimp only at ih
      omega

/-- Above the last one that is there? -/
def cd (m : Option Int) (x : Int) : Prop := ∀ y, m = some y → y < x
def lastI (ws : Pgs) (j : Nat) : Option Int := if j = 0 then none else (ws[j - 1]?).map (·.1)

/-- The best one of the first k. -/
def Best (ps : Pgs) (m : Option Int) (k : Nat) (best : Int) : Prop :=
  (best = -1 ∧ ∀ (i : Nat) p, i < k → ps[i]? = some p → ¬ cd m p.1) ∨
  ∃ (bi : Nat) (p : Int × List UInt8), best = bi ∧ bi < k ∧ ps[bi]? = some p ∧ cd m p.1 ∧ (∀ (i : Nat) q, i < k → ps[i]? = some q → cd m q.1 → p.1 ≤ q.1) ∧ ∀ (i : Nat) q, bi < i → i < k → ps[i]? = some q → q.1 ≠ p.1

section
variable {ps ws : Pgs} {m : Option Int} {k : Nat} {best : Int} {x : Int × List UInt8}
theorem best_zero : Best ps m 0 (-1) := .inl ⟨rfl, fun _ _ h => by omega⟩
/-- Not above the last one. -/
theorem Best.low (h : Best ps m k best) (hx : ps[k]? = some x) (hc : ¬ cd m x.1) : Best ps m (k + 1) best := by
  have old : ∀ i p, i < k + 1 → ps[i]? = some p → cd m p.1 → i < k := fun i p hi hp h2 => by
    by_cases e : i = k
    · subst e
      rw [hx] at hp
      injection hp with hp
      rw [← hp] at h2
      exact absurd h2 hc
    · omega
  rcases h with ⟨h1, h2⟩ | ⟨bi, p, h1, h2, h3, h4, h5, h6⟩
  · exact .inl ⟨h1, fun i p hi hp h => h2 i p (old i p hi hp h) hp h⟩
  · refine .inr ⟨bi, p, h1, by omega, h3, h4, fun i q hi hq h => h5 i q (old i q hi hq h) hq h, fun i q hb hi hq => ?_⟩
    by_cases e : i = k
    · subst e
      rw [hx] at hq
      injection hq with hq
      subst hq
      intro e2
      rw [e2] at hc
      exact hc h4
    · exact h6 i q hb (by omega) hq
/-- A better one. -/
theorem Best.up (h : Best ps m k best) (hx : ps[k]? = some x) (hc : cd m x.1) (hb : ∀ (bi : Nat) (p : Int × List UInt8), best = bi → ps[bi]? = some p → x.1 ≤ p.1) : Best ps m (k + 1) k := by
  refine .inr ⟨k, x, rfl, by omega, hx, hc, fun i q hi hq hcq => ?_, fun i q h1 h2 => by omega⟩
  by_cases e : i = k
  · subst e
    rw [hx] at hq
    injection hq with hq
    subst hq
    omega
  · rcases h with ⟨h1, h2⟩ | ⟨bi, p, h1, h2, h3, h4, h5, h6⟩
    · exact absurd hcq (h2 i q (by omega) hq)
    · have := h5 i q (by omega) hq hcq
      have := hb bi p h1 h3
      omega
theorem Best.up2 (h : Best ps m k best) (hx : ps[k]? = some x) (hc : cd m x.1) {bi : Nat} {p : Int × List UInt8} (he : best = bi) (hp : ps[bi]? = some p) (hle : x.1 ≤ p.1) : Best ps m (k + 1) k :=
  h.up hx hc fun bi' p' he' hp' => by
    obtain rfl : bi = bi' := by omega
    rw [hp] at hp'
    injection hp' with hp'
    rw [← hp']
    exact hle
/-- A worse one. -/
theorem Best.stay (h : Best ps m k best) (hx : ps[k]? = some x) {bi : Nat} {p : Int × List UInt8} (he : best = bi) (hp : ps[bi]? = some p) (hb : p.1 < x.1) : Best ps m (k + 1) best := by
  rcases h with ⟨h1, h2⟩ | ⟨bi', p', h1, h2, h3, h4, h5, h6⟩
  · omega
  · obtain rfl : bi' = bi := by omega
    rw [hp] at h3
    injection h3 with h3
    subst h3
    refine .inr ⟨bi', p, h1, by omega, hp, h4, fun i q hi hq hcq => ?_, fun i q h7 hi hq => ?_⟩
    · by_cases e : i = k
      · subst e
        rw [hx] at hq
        injection hq with hq
        subst hq
        omega
      · exact h5 i q (by omega) hq hcq
    · by_cases e : i = k
      · subst e
        rw [hx] at hq
        injection hq with hq
        subst hq
        omega
      · exact h6 i q h7 (by omega) hq
theorem Best.is (h : Best ps m k best) : best = -1 ∨ ∃ (bi : Nat) (p : Int × List UInt8), best = bi ∧ bi < k ∧ ps[bi]? = some p := by
  rcases h with ⟨h1, h2⟩ | ⟨bi, p, h1, h2, h3, _⟩
  · exact .inl h1
  · exact .inr ⟨bi, p, h1, h2, h3⟩
/-- What is found. -/
theorem Best.found {j : Nat} (h : Best ps (lastI (wsOf ps) j) ps.length best) (hj : j < (wsOf ps).length) : ∃ bi : Nat, best = bi ∧ bi < ps.length ∧ ps[bi]? = some (wsOf ps)[j] := by
  have hup := List.pairwise_iff_getElem.1 (wsOf_up ps)
  have hcj : cd (lastI (wsOf ps) j) (wsOf ps)[j].1 := by
    intro y hy
    unfold lastI at hy
    split at hy
    · cases hy
    · rename_i h0
      rw [List.getElem?_eq_getElem (by omega)] at hy
      have hy : (wsOf ps)[j - 1].1 = y := by simpa using hy
      have := hup (j - 1) j (by omega) hj (by omega)
      omega
  have hin := wsOf_sub _ (List.getElem_mem hj)
  obtain ⟨i0, hi0, he0⟩ := List.getElem_of_mem hin
  have hs0 : ps[i0]? = some (wsOf ps)[j] := by rw [← he0]; exact List.getElem?_eq_getElem hi0
  rcases h with ⟨h1, h2⟩ | ⟨bi, p, h1, h2, h3, h4, h5, h6⟩
  · exact absurd hcj (h2 i0 _ hi0 hs0)
  · have hp : p ∈ wsOf ps := (wsOf_mem ps p).2 ⟨bi, h3, fun i q hb hq => h6 i q hb (List.getElem?_eq_some_iff.1 hq).1 hq⟩
    obtain ⟨i, hi, hei⟩ := List.getElem_of_mem hp
    have hle := h5 i0 _ hi0 hs0 hcj
    have hij : i = j := by
      rcases Nat.lt_trichotomy i j with hlt | he | hgt
      · exfalso
        have h7 := h4 (wsOf ps)[j - 1].1 (by unfold lastI; rw [if_neg (by omega), List.getElem?_eq_getElem (by omega)]; rfl)
        rw [← hei] at h7
        by_cases e : i = j - 1
        · subst e; omega
        · have := hup i (j - 1) hi (by omega) (by omega)
          omega
      · exact he
      · exfalso
        have := hup j i hj hi hgt
        rw [hei] at this
        omega
    subst hij
    exact ⟨bi, h1, h2, by rw [h3, hei]⟩
end

end Go.Proofs.YtbaimgccepjdaaaGreatDoor.Cd

/-
  writes: a step's pages as a map, and as a row by rising numbers. Conditions: a step that is played.
-/
namespace Go.Proofs.YtbaimgccepjdaaaGreatDoor.Cd
open Go.RowKit Go.Maps

theorem far_row {w' : World} {B g c : Nat} {bs : List UInt8} (h : Row w' g c bs) (hg : B ≤ g) : Far w' (fun k => k < B) (SlV.val ⟨some (g, 0), bs.length, c⟩) bs := by
  refine ⟨h.sl, fun _ A n c' e hs => ?_⟩
  have e : Value.slice (some ⟨g, 0, none⟩) bs.length c = Value.slice (some A) n c' := e
  injection e with e
  injection e with e
  rw [← e] at hs
  have hs : g < B := hs
  omega

theorem index_page (a : Addr) (n c i : Nat) (h : i < n) (W : World) : (Instr.indexAt 32 (.slice (some a) n c) (.int .i64 (i : Int))).run Tryz.prog W = .ok (.pointer (some (a.add (i * 2)))) W := by
  have hs : (sizeOf (Tryz.prog.elem 32)).run Tryz.prog W = .ok 2 W := by
    have he : Tryz.prog.elem 32 = 54 := by kernel_rfl
    obtain ⟨i0, hi, _, hz1, _⟩ := info_parts info_page
    rw [he]
    simp [sizeOf, typeInfo, hi, hz1]
  have h1 := run_indexAt_slice (P := Tryz.prog) (w := W) 32 a n c .i64 (i : Int) (by kernel_rfl)
  rw [if_pos (by omega), hs] at h1
  rw [h1]
  simp [Result.andThen]
theorem index_page2 (b o n c i : Nat) (h : i < n) (W : World) : (Instr.indexAt 32 (.slice (some ⟨b, o, none⟩) n c) (.int .i64 (i : Int))).run Tryz.prog W = .ok (.pointer (some ⟨b, o + i * 2, none⟩)) W := by
  rw [index_page _ n c i h W, Addr.add_lit]

theorem ranges_heap {w w' : World} {b r n : Nat} {D : DataW Unit} {left : Lit → Bool} {cnt : Nat} (h : w.ranges Tryz.prog 3 bytK.R b r n D left cnt) (hb : w'.heap[b]? = w.heap[b]?) (hr : w'.heap[r]? = w.heap[r]?) :
    w'.ranges Tryz.prog 3 bytK.R b r n D left cnt := by
  obtain ⟨es, cl, si, se, c0, h1, h2, h3, h4, h5, h6⟩ := h
  exact ⟨es, cl, si, se, c0, hb.trans h1, h2, h3, h4, hr.trans h5, h6⟩

theorem OwnPg.other {w w' : World} {B : Nat} {v : Value} {l : Pgs} {r : Nat} (h : OwnPg w B v l) (hg : w.grownBy w' (some r)) (hr : r < B) : OwnPg w' B v l :=
  ⟨h.1, World.ownsRow.kept h.2 hg (by
    cases hv : v.ownBlock with
    | none => exact .inl rfl
    | some k => exact .inr fun e => by injection e with e; have h1 := (World.ownsRow.lt h.2 k hv).1; omega)⟩

set_option maxRecDepth 100000 in
set_option maxHeartbeats 6400000 in
theorem writes_any (s : Stp) (u : Value) (w : World) (h : PgsIn w w.heap.size u s.pages) (hsm : s.Small) :
    Calls Tryz.prog 13 #[.agg #[u, .int .i64 s.fuse, .int .u64 s.keep]] w (fun e w' => ∃ b v, e = .returned (.tuple #[.map (some b), v]) ∧ PgMap w' (fun k => k < w.heap.size) b (wsOf s.pages) ∧ OwnPg w' w.heap.size v (wsOf s.pages) ∧ Below w.heap.size w w') := by
  obtain ⟨ps, fu, ke⟩ := s
  obtain ⟨hl8, hby⟩ := hsm
  have hl8 : ps.length ≤ 8 := hl8
  have hby := Lib.hid hby
  have h : PgsIn w w.heap.size u ps := h
  obtain ⟨A, c, rfl, hc1, hc2⟩ := h.len
  have H := Lib.hid h
  have hwf : Hid (wfP ps) := by obtain ⟨_, _, _, _, _, h4, _⟩ := h; exact h4
  clear h
  show Calls Tryz.prog 13 #[.agg #[.slice A ps.length c, .int .i64 fu, .int .u64 ke]] w _
  have hmm := @run_makeMap Tryz.prog
  have hl8' : (ps.length : Int) ≤ 8 := by omega
  have hm0 := PgMap.made (w.alloc (.cells #[.slice A ps.length c, .int .i64 fu, .int .u64 ke] 35)) (fun k => k < w.heap.size) (by simp)
  have hb0 : Below w.heap.size w ((w.alloc (.cells #[.slice A ps.length c, .int .i64 fu, .int .u64 ke] 35)).alloc (.map #[] 0)) := ((Below.refl _ _).alloc (Nat.le_refl _) _).alloc (by simp) _
  have hr0 : ((w.alloc (.cells #[.slice A ps.length c, .int .i64 fu, .int .u64 ke] 35)).alloc (.map #[] 0)).heap[w.heap.size]? = some (.cells #[.slice A ps.length c, .int .i64 fu, .int .u64 ke] 35) := by
    have := (Below.refl (w.heap.size + 1) (w.alloc (.cells #[.slice A ps.length c, .int .i64 fu, .int .u64 ke] 35))).alloc (by simp) (.map #[] 0)
    rw [this.block _ (Nat.lt_succ_self _)]
    exact heap_alloc_new _ _
  have hz0 : (w.alloc (.cells #[.slice A ps.length c, .int .i64 fu, .int .u64 ke] 35)).heap.size = w.heap.size + 1 := by simp
  rw [hz0] at hm0
  have hz1 : ((w.alloc (.cells #[.slice A ps.length c, .int .i64 fu, .int .u64 ke] 35)).alloc (.map #[] 0)).heap.size = w.heap.size + 2 := by simp
  have HM0 := Lib.hid hm0
  have HB0 := Lib.hid hb0
  have HR0 := Lib.hid hr0
  clear hm0 hb0 hr0
  go_enter Tryz.func13, Tryz.ntmps13
  go_wp2_with fail
  generalize (w.alloc (.cells #[.slice A ps.length c, .int .i64 fu, .int .u64 ke] 35)).alloc (.map #[] 0) = w0 at *
  go_loopw [15] (fun i wr => ∃ k : Nat, i = .int .i64 k ∧ k ≤ ps.length ∧ Hid (PgMap wr (fun k => k < w.heap.size) (w.heap.size + 1) (wsOf (ps.take k))) ∧ Hid (Below w.heap.size w wr) ∧ Hid (wr.heap[w.heap.size]? = some (.cells #[.slice A ps.length c, .int .i64 fu, .int .u64 ke] 35)) ∧ w.heap.size + 2 ≤ wr.heap.size) (fun i _ => ps.length - (intOf i).toNat)
  case atStart => exact ⟨0, rfl, by omega, HM0.out, HB0.out, HR0.out, by omega⟩
  case round =>
    obtain ⟨k, rfl, hk, hmp, hbl, hrw, hsz⟩ := hrel
    by_cases hlt : k < ps.length
    · obtain ⟨q, hqk⟩ : ∃ q, ps[k]? = some q := ⟨ps[k], List.getElem?_eq_getElem hlt⟩
      obtain ⟨b2, off2, c2', e2, _, _, hB2, hat⟩ := (H.out.below hbl.out).at (by omega)
      injection e2 with e2 _ e3
      subst e2 e3
      obtain ⟨d0, d1⟩ := hat k q hqk
      have hql : q.2.length ≤ 32768 := Nat.le_trans (bytesP_mem (List.mem_of_getElem? hqk)) hby.out
      have hqw := hwf.out q (List.mem_of_getElem? hqk)
      have HQ := Lib.hid hqk
      clear hat hqk
      have hb1 : Below wr.heap.size wr (wr.alloc (.cells #[.int .i64 q.1, .string ⟨q.2.toArray⟩] 54)) := (Below.refl _ _).alloc (Nat.le_refl _) _
      have HM1 := Lib.hid (hmp.out.below hb1)
      have HB1 := Lib.hid (hbl.out.trans (hb1.mono (by omega)))
      have HR1 := Lib.hid ((hb1.block w.heap.size (by omega)).trans hrw.out)
      clear hb1
      go_wp2_with (refine wp_bytes_of rfl _ rfl q.2 rfl (by omega) ?_)
      intro g cc w2 hrow hg hb2
      have hg : wr.heap.size + 1 ≤ g := by simpa using hg
      have hb2 := Lib.hid hb2
      have hf2 := Lib.hid (far_row (B := w.heap.size) hrow (by omega))
      have HM2 := Lib.hid (HM1.out.below (w' := w2) (by rw [asz]; exact hb2.out))
      have hz2 : wr.heap.size + 1 ≤ w2.heap.size := by have := hb2.out.size; rwa [asz] at this
      have HB2 := Lib.hid (HB1.out.trans (hb2.out.mono (by omega)))
      have HR2 := Lib.hid ((hb2.out.block w.heap.size (by omega)).trans HR1.out)
      have hnl : (wsOf (ps.take k)).length < maxLen := by have := wsOf_len (ps.take k); simp only [maxLen]; rw [List.length_take] at this; omega
      clear hrow HM1 HB1 HR1 hb2
      go_wp2_with (refine wp_put rfl _ _ _ (.inl rfl) (w.heap.size + 1) _ _ rfl HM2.out hnl q.1 rfl hqw ⟨some (g, 0), q.2.length, cc⟩ rfl q.2 hf2.out ?_)
      intro w3 hm3 hg3
      have HM3 := Lib.hid hm3
      have HG3 := Lib.hid hg3
      have hz3 := hg3.size
      clear hm3 hg3
      go_wp2_with fail
      go_roundw
      case rel => exact ⟨k + 1, by go_num, by omega, (by rw [wsOf_snoc HQ.out]; exact HM3.out), HB2.out.grown HG3.out (by omega) (fun k e => by injection e with e; omega), (HG3.out.block w.heap.size (by omega) (fun e => by injection e with e; omega)).trans HR2.out, by omega⟩
      case measure => simp [intOf]; omega
    · have hm1 : Hid (PgMap wr (fun k => k < w.heap.size) (w.heap.size + 1) (wsOf ps)) := by
        have := hmp.out
        rw [List.take_of_length_le (by omega)] at this
        exact this
      have HX1 := Lib.hid hbl.out
      have HY1 := Lib.hid hrw.out
      clear hmp HM0 HB0 HR0 hz1 hbl hrw
      obtain ⟨w1, hw1⟩ : ∃ x, x = wr := ⟨_, rfl⟩
      subst hw1
      obtain ⟨_, hris, q, ⟨D, hown, hsz2, hat⟩, h4, h5⟩ := hm1.out
      have HO := Lib.hid hown
      have HAT := Lib.hid hat
      have H4 := Lib.hid h4
      have H5 := Lib.hid h5
      have HRI := Lib.hid hris
      clear hat h4 h5 hris
      go_wp2_with (at_range; refine wpList_range_own _ rfl _ 36 rfl 3 44 bytK.law bytK.under bytK.R (w.heap.size + 1) (wsOf ps).length D rfl hown ?_; intro w2 hrg2 hg2 hs2)
      have hz1 := HX1.out.size
      have HX2 := Lib.hid ((Below.refl _ _).grown hg2 (Nat.le_refl w1.heap.size) (fun k e => by cases e))
      obtain ⟨ri, hri⟩ : ∃ x, w1.heap.size = x := ⟨_, rfl⟩
      rw [hri] at hrg2 hs2 HX2 ⊢
      have hlf : Hid (lf (wsOf ps) (Maps.has D) = (wsOf ps).length) := lf_all (fun p hp => by
        obtain ⟨s, hs, _⟩ := H5.out p hp
        have := MapF.has (M := bytK) (HAT.out p.1 (HRI.out.wf p hp))
        rw [hs] at this
        exact this)
      have hz1 : w.heap.size + 2 ≤ ri := by rw [← hri]; exact hsz
      clear hg2 HO hown hsz2
      have hwl := wsOf_len ps
      go_loopw [7] (fun v wr => ∃ (left : Lit → Bool) (cnt j : Nat), wr.ranges Tryz.prog 3 bytK.R (w.heap.size + 1) ri (wsOf ps).length D left cnt ∧ Hid (lf (wsOf ps) left + j = (wsOf ps).length) ∧ Hid (∀ x : Int, (Lit.int .i64 x).wf = true → left (.int .i64 x) = true → ∃ p ∈ wsOf ps, p.1 = x) ∧
        Hid (OwnPg wr (ri + 1) v ((wsOf ps).take j)) ∧ Hid (Below ri w1 wr) ∧ ri + 1 ≤ wr.heap.size) (fun _ wr => wr.rangeLeft (w.heap.size + 1) ri)
      case atStart => exact ⟨_, _, 0, hrg2, by have := hlf.out; unfold Hid; omega, (fun x hx hl => H4.out x hx (by have := MapF.has (M := bytK) (HAT.out x hx); exact this.symm.trans hl)), OwnPg.nil _ _, HX2.out, by omega⟩
      case round =>
        obtain ⟨left, cnt, j, hrg, hcn, hin, hown, hbl, hsz3⟩ := hrel
        clear HX2 hlf
        go_wp2_with (at_next; refine wpList_next_ranges _ rfl _ rfl 3 bytK.law bytK.R (fun x : Int => .int .i64 x) SlV.val (fun key kl hkey => by obtain ⟨x, rfl, _⟩ := Maps.keyOf_int_inv Tryz.underlying3 hkey; exact ⟨x, rfl⟩) (fun v y hv => by obtain ⟨c, rfl, _⟩ := slR_inv hv; exact ⟨c, rfl⟩) (w.heap.size + 1) ri (wsOf ps).length _ _ _ rfl hrg ?_ ?_)
        · intro hc0 hl0
          have hj : Hid (j = (wsOf ps).length) := by have := hcn.out; rw [lf_none hl0] at this; unfold Hid; omega
          go_wp2_with fail
          go_ret2
          have ho := hown.out
          rw [hj.out, List.take_of_length_le (Nat.le_refl _)] at ho
          exact ⟨_, _, rfl, hm1.out.below (by rw [hri]; exact hbl.out), ho.lower (by omega), HX1.out.trans (hbl.out.mono (by omega))⟩
        · intro x cc kl yd yp w3 cnt2 hkey hlk hv hat2 hrg3 hlt3 hg3 hs3 hen
          obtain ⟨x', ex, rfl, hwx⟩ := Maps.keyOf_int_inv Tryz.underlying3 hkey
          injection ex with _ ex
          subst ex
          have hnx := lf_next (wsOf_up ps) (hin.out x hwx hlk) hlk
          have hjl : j < (wsOf ps).length := by have := hcn.out; omega
          have HCN : Hid (lf (wsOf ps) (fun z => left z && !z.sameKey (.int .i64 x)) + (j + 1) = (wsOf ps).length) := by have := hcn.out; unfold Hid; omega
          have HIN : Hid (∀ y : Int, (Lit.int .i64 y).wf = true → (left (.int .i64 y) && !(Lit.int .i64 y).sameKey (.int .i64 x)) = true → ∃ p ∈ wsOf ps, p.1 = y) := fun y hy hl => hin.out y hy (by
            cases hly : left (.int .i64 y)
            · rw [hly] at hl; cases hl
            · rfl)
          have HO3 := Lib.hid (hown.out.other hg3 (Nat.lt_succ_self _))
          have HB3 := Lib.hid (hbl.out.grown hg3 (by omega) (fun k e => by injection e with e; omega))
          have hms : Hid (w3.rangeLeft (w.heap.size + 1) ri < wr.rangeLeft (w.heap.size + 1) ri) := by unfold Hid; rw [hrg3.left_eq, hrg.left_eq]; omega
          have HRG := Lib.hid hrg3
          obtain ⟨A4, n4, c4⟩ := cc
          dsimp only [SlV.val] at hen ⊢
          generalize Option.map (fun p : Nat × Nat => ({ block := p.1, off := p.2, spot := none } : Addr)) A4 = A4' at hen ⊢
          clear hnx hcn hin hown hbl hrg hrg3 hlk hv hat2 hkey hlt3 hg3
          obtain ⟨A3, c3, rfl, hc31, hc32⟩ := HO3.out.pgs.len
          have hlj : ((wsOf ps).take j).length = j := by rw [List.length_take]; omega
          rw [hlj] at HO3 hc31 ⊢
          have hbx : Hid (∀ W, Below w3.heap.size w3 W → W.cell? ⟨w.heap.size, 0, none⟩ = some (.slice A ps.length c)) := fun W hW => by
            have h1 : W.heap[w.heap.size]? = w1.heap[w.heap.size]? := (hW.block w.heap.size (by omega)).trans (HB3.out.block w.heap.size (by omega))
            exact cell_of_row _ _ 0 _ _ _ (h1.trans HY1.out)
          have cbox := hbx.out w3 (Below.refl _ _)
          have hsz4 : ri + 1 ≤ w3.heap.size := by rw [hs3]; exact hsz3
          have HBX := hbx
          clear hbx
          go_wp2_with fail
          go_loopw [8, 34] (fun be i wr => ∃ (k : Nat) (best : Int), i = .int .i64 k ∧ be = .int .i64 best ∧ k ≤ ps.length ∧ Hid (Best ps (lastI (wsOf ps) j) k best) ∧ Hid (Below w3.heap.size w3 wr)) (fun _ i _ => ps.length - (intOf i).toNat)
          case atStart => exact ⟨0, -1, rfl, rfl, by omega, best_zero, Below.refl _ _⟩
          case round =>
            obtain ⟨k, best, rfl, rfl, hk, hbest, hbl⟩ := hrel
            have hbz := hbl.out.size
            have cb := HBX.out wr hbl.out
            clear cbox
            by_cases hlt : k < ps.length
            · obtain ⟨q, hqk⟩ : ∃ q, ps[k]? = some q := ⟨ps[k], List.getElem?_eq_getElem hlt⟩
              have hbw : Below w.heap.size w wr := (HX1.out.trans (HB3.out.mono (by omega))).trans (hbl.out.mono (by omega))
              obtain ⟨b2, off2, c2', e2, _, _, hB2, hat⟩ := (H.out.below hbw).at (by omega)
              injection e2 with e2 _ e3
              subst e2 e3
              obtain ⟨d0, d1⟩ := hat k q hqk
              have HQ := Lib.hid hqk
              have hup : Hid (Below w3.heap.size w3 (wr.alloc (.cells #[.int .i64 q.1, .string ⟨q.2.toArray⟩] 54))) := hbl.out.trans (((Below.refl _ _).alloc (Nat.le_refl _) _).mono hbz)
              have HAT := Lib.hid hat
              clear hat hbw
              have hba : ∀ (o : Obj) (p : Addr), p.block < wr.heap.size → (wr.alloc o).cell? p = wr.cell? p := fun o p hp => ((Below.refl wr.heap.size wr).alloc (Nat.le_refl _) o).cell hp
              have HBA := Lib.hid hba
              clear hba
              have hb2w : b2 < wr.heap.size := by omega
              have cbw : ∀ o : Obj, (wr.alloc o).cell? ⟨w.heap.size, 0, none⟩ = some (.slice (some ⟨b2, off2, none⟩) ps.length c) := fun o => (HBA.out o ⟨w.heap.size, 0, none⟩ (by show w.heap.size < _; omega)).trans cb
              have hbest0 := hbest.out.is
              have hend : Hid (∀ n, Below w3.heap.size w3 ((wr.alloc (.cells #[.int .i64 q.1, .string ⟨q.2.toArray⟩] 54)).drewN n)) := fun n => hup.out.trans ⟨rfl, rfl, rfl, Nat.le_refl _, fun _ _ => rfl⟩
              by_cases hj0 : j = 0
              · have hcd : Hid (cd (lastI (wsOf ps) j) q.1) := fun y hy => by rw [hj0] at hy; cases hy
                have hq0 : ((j : Int) == 0) = true := by rw [hj0]; rfl
                clear hj0
                rcases hbest0 with rfl | ⟨bi, pb, rfl, hbk, hpb⟩
                · have hnb := Lib.hid (hbest.out.up HQ.out hcd.out (fun bi p he _ => by omega))
                  go_wp2_with fail
                  go_quiet (fail)
                  all_goals go_wp2_with fail
                  all_goals refine ⟨⟨k + 1, _, by go_num, rfl, by omega, hnb.out, hend.out _⟩, ?_⟩
                  all_goals simp [intOf]
                  all_goals omega
                · have d2 := (HAT.out bi pb hpb).1
                  have hbps : bi < ps.length := by omega
                  have HPB := Lib.hid hpb
                  have hix := index_page2 b2 off2 ps.length c bi hbps
                  have hbd : decide ((bi : Int) < 0) = false := decide_eq_false (by omega)
                  have d2w : ∀ o : Obj, (wr.alloc o).cell? ⟨b2, off2 + bi * 2, none⟩ = some (.int .i64 pb.1) := fun o => (HBA.out o ⟨b2, off2 + bi * 2, none⟩ hb2w).trans d2
                  clear d2
                  clear hpb
                  by_cases hle : q.1 ≤ pb.1
                  · have hnb := Lib.hid (hbest.out.up2 HQ.out hcd.out rfl HPB.out hle)
                    go_wp2_with fail
                    go_quiet (fail)
                    all_goals go_wp2_with fail
                    all_goals refine ⟨⟨k + 1, _, by go_num, rfl, by omega, hnb.out, hend.out _⟩, ?_⟩
                    all_goals simp [intOf]
                    all_goals omega
                  · have hle' : pb.1 < q.1 := by omega
                    have hnb := Lib.hid (hbest.out.stay HQ.out rfl HPB.out hle')
                    go_wp2_with fail
                    go_quiet (fail)
                    all_goals go_wp2_with fail
                    all_goals refine ⟨⟨k + 1, _, by go_num, rfl, by omega, hnb.out, hend.out _⟩, ?_⟩
                    all_goals simp [intOf]
                    all_goals omega
              · obtain ⟨j', rfl⟩ : ∃ j', j = j' + 1 := ⟨j - 1, by omega⟩
                obtain ⟨b3, off3, c3', e3, _, _, hB3, hat3⟩ := HO3.out.pgs.at (by rw [hlj]; omega)
                rw [hlj] at e3
                injection e3 with e3 _ e4
                subst e3 e4
                have d3' := (hat3 j' (wsOf ps)[j'] (by rw [List.getElem?_take, if_pos (by omega)]; exact List.getElem?_eq_getElem (by omega))).1
                obtain ⟨la, hla⟩ : ∃ la, (wsOf ps)[j'].1 = la := ⟨_, rfl⟩
                have hli : Hid (lastI (wsOf ps) (j' + 1) = some la) := by
                  unfold Hid lastI
                  rw [if_neg (by omega), Nat.add_sub_cancel, List.getElem?_eq_getElem (by omega)]
                  show some ((wsOf ps)[j'].1) = _
                  rw [hla]
                rw [hla] at d3'
                have d3 : wr.cell? ⟨b3, off3 + j' * 2, none⟩ = some (.int .i64 la) := (hbl.out.cell (p := ⟨b3, off3 + j' * 2, none⟩) hB3).trans d3'
                clear hat3 hla d3' hj0
                have hj2 : j' < c3 := by omega
                have hjx := index_page2 b3 off3 (j' + 1) c3 j' (Nat.lt_succ_self _)
                have hb3w : b3 < wr.heap.size := by omega
                have d3w : ∀ o : Obj, (wr.alloc o).cell? ⟨b3, off3 + j' * 2, none⟩ = some (.int .i64 la) := fun o => (HBA.out o ⟨b3, off3 + j' * 2, none⟩ hb3w).trans d3
                clear d3
                have hq0 : ((j' : Int) + 1 == 0) = false := by rw [beq_eq_false_iff_ne]; omega
                have hwj : IntKind.i64.wrap (j' : Int) = (j' : Int) := wrap_small _ (by omega) (by omega)
                have hjs : (j' : Int) + 1 - 1 = (j' : Int) := by omega
                by_cases hgt : la < q.1
                · have hcd : Hid (cd (lastI (wsOf ps) (j' + 1)) q.1) := fun y hy => by rw [hli.out] at hy; injection hy with hy; omega
                  rcases hbest0 with rfl | ⟨bi, pb, rfl, hbk, hpb⟩
                  · have hnb := Lib.hid (hbest.out.up HQ.out hcd.out (fun bi p he _ => by omega))
                    go_wp2_with fail
                    go_quiet (fail)
                    all_goals go_wp2_with fail
                    all_goals refine ⟨⟨k + 1, _, by go_num, rfl, by omega, hnb.out, hend.out _⟩, ?_⟩
                    all_goals simp [intOf]
                    all_goals omega
                  · have d2 := (HAT.out bi pb hpb).1
                    have hbps : bi < ps.length := by omega
                    have HPB := Lib.hid hpb
                    have hix := index_page2 b2 off2 ps.length c bi hbps
                    have hbd : decide ((bi : Int) < 0) = false := decide_eq_false (by omega)
                    have d2w : ∀ o : Obj, (wr.alloc o).cell? ⟨b2, off2 + bi * 2, none⟩ = some (.int .i64 pb.1) := fun o => (HBA.out o ⟨b2, off2 + bi * 2, none⟩ hb2w).trans d2
                    clear d2
                    clear hpb
                    by_cases hle : q.1 ≤ pb.1
                    · have hnb := Lib.hid (hbest.out.up2 HQ.out hcd.out rfl HPB.out hle)
                      go_wp2_with fail
                      go_quiet (fail)
                      all_goals go_wp2_with fail
                      all_goals refine ⟨⟨k + 1, _, by go_num, rfl, by omega, hnb.out, hend.out _⟩, ?_⟩
                      all_goals simp [intOf]
                      all_goals omega
                    · have hle' : pb.1 < q.1 := by omega
                      have hnb := Lib.hid (hbest.out.stay HQ.out rfl HPB.out hle')
                      go_wp2_with fail
                      go_quiet (fail)
                      all_goals go_wp2_with fail
                      all_goals refine ⟨⟨k + 1, _, by go_num, rfl, by omega, hnb.out, hend.out _⟩, ?_⟩
                      all_goals simp [intOf]
                      all_goals omega
                · have hgt' : q.1 ≤ la := by omega
                  have hdec : decide (la < q.1) = false := decide_eq_false hgt
                  have hncd : Hid (¬ cd (lastI (wsOf ps) (j' + 1)) q.1) := fun h => by have := h la hli.out; omega
                  have hnb := Lib.hid (hbest.out.low HQ.out hncd.out)
                  go_wp2_with fail
                  go_quiet (fail)
                  all_goals go_wp2_with fail
                  all_goals refine ⟨⟨k + 1, _, by go_num, rfl, by omega, hnb.out, hend.out _⟩, ?_⟩
                  all_goals simp [intOf]
                  all_goals omega
            · have hfd := Best.found (j := j) (by have := hbest.out; rwa [show k = ps.length by omega] at this) hjl
              obtain ⟨bi, rfl, hbps, hpb⟩ := hfd
              have hbw : Below w.heap.size w wr := (HX1.out.trans (HB3.out.mono (by omega))).trans (hbl.out.mono (by omega))
              obtain ⟨b2, off2, c2', e2, _, _, hB2, hat⟩ := (H.out.below hbw).at (by omega)
              injection e2 with e2 _ e3
              subst e2 e3
              obtain ⟨d0, d1⟩ := hat bi _ hpb
              obtain ⟨q, hq⟩ : ∃ x, (wsOf ps)[j] = x := ⟨_, rfl⟩
              rw [hq] at d0 d1 hpb
              have hqw := hwf.out q (List.mem_of_getElem? hpb)
              have HO4 := Lib.hid (HO3.out.keep hbl.out)
              have HQJ := Lib.hid hq
              clear hat hbw hbest hpb hq
              have hlj8 : ((wsOf ps).take j).length ≤ 8388608 := by omega
              have hrow : (wr.alloc (.cells #[.int .i64 q.1, .string ⟨q.2.toArray⟩] 54)).heap[wr.heap.size]? = some (.cells #[.int .i64 q.1, .string ⟨q.2.toArray⟩] 54) := heap_alloc_new _ _
              have HROW := Lib.hid hrow
              clear hrow
              go_wp2_with (at_builtin; refine wp_append_page rfl _ _ rfl rfl (HO4.out.keep ((Below.refl _ _).alloc (Nat.le_refl _) _)) (by simp; omega) q hqw wr.heap.size 0 _ rfl (cell_of_row _ _ 0 _ _ _ HROW.out) (cell_of_row _ _ 1 _ _ _ HROW.out) hlj8 ?_)
              intro v5 w5 hov hbv _
              have HOV := Lib.hid hov
              have hb5 : Below (ri + 1) w3 w5 := (hbl.out.mono hsz4).trans (((Below.refl _ _).alloc (by omega) _).trans hbv)
              have HB5 := Lib.hid hb5
              have hz5 := hb5.size
              clear hov hbv hb5 cb
              go_wp2_with fail
              go_roundw
              case rel =>
                refine ⟨_, cnt2, j + 1, ranges_heap HRG.out (HB5.out.block _ (by omega)) (HB5.out.block _ (by omega)), HCN.out, HIN.out, ?_, HB3.out.trans (HB5.out.mono (by omega)), by omega⟩
                rw [List.take_succ_eq_append_getElem hjl, HQJ.out]
                exact HOV.out
              case measure =>
                have h1 := (ranges_heap HRG.out (HB5.out.block (w.heap.size + 1) (by omega)) (HB5.out.block ri (by omega))).left_eq
                have h2 := HRG.out.left_eq
                have h3 := hms.out
                omega

end Go.Proofs.YtbaimgccepjdaaaGreatDoor.Cd

/-
  Slices of strings: how they read, how they grow. Conditions: none.
-/
namespace Go.Proofs.YtbaimgccepjdaaaGreatDoor.Cd
open Go.RowKit Go.ChangeShapes Go.WideShapes Go.Deep

/-- Texts as cells. -/
def vs (l : List (List UInt8)) : List Value := l.map fun s => Value.string ⟨s.toArray⟩
theorem vs_length (l : List (List UInt8)) : (vs l).length = l.length := by simp [vs]
theorem vs_append (a b : List (List UInt8)) : vs (a ++ b) = vs a ++ vs b := by simp [vs]
theorem vs_at (l : List (List UInt8)) (j : Nat) (hj : j < l.length) : (vs l)[j]? = some (.string ⟨l[j].toArray⟩) := by simp [vs, hj]
theorem vs_one (l : List (List UInt8)) : ∀ u ∈ vs l, u.oneCell' = true := by
  intro u hu
  simp only [vs, List.mem_map] at hu
  obtain ⟨b, _, rfl⟩ := hu
  rfl

/-- A slice value that reads as the texts 'l'. -/
def Strs (w : World) (B : Nat) (v : Value) (l : List (List UInt8)) : Prop :=
  ∃ A c, v = .slice A l.length c ∧ l.length ≤ c ∧ c ≤ maxLen ∧ (A = none → c = 0) ∧
    (0 < l.length → ∃ b off, A = some ⟨b, off, none⟩ ∧ b < B ∧ ∀ j u, (vs l)[j]? = some u → w.cell? ⟨b, off + j, none⟩ = some u)

theorem Strs.below {w w' : World} {B : Nat} {v : Value} {l : List (List UInt8)} (h : Strs w B v l) (hb : Below B w w') : Strs w' B v l := by
  obtain ⟨A, c, h1, h2, h3, h4, h5⟩ := h
  refine ⟨A, c, h1, h2, h3, h4, fun h0 => ?_⟩
  obtain ⟨b, off, e, hB, hc⟩ := h5 h0
  exact ⟨b, off, e, hB, fun j u hu => (hb.cell (p := ⟨b, off + j, none⟩) hB).trans (hc j u hu)⟩

theorem Strs.more {w : World} {B B' : Nat} {v : Value} {l : List (List UInt8)} (h : Strs w B v l) (hB : B ≤ B') : Strs w B' v l := by
  obtain ⟨A, c, h1, h2, h3, h4, h5⟩ := h
  refine ⟨A, c, h1, h2, h3, h4, fun h0 => ?_⟩
  obtain ⟨b, off, e, hB', hc⟩ := h5 h0
  exact ⟨b, off, e, Nat.lt_of_lt_of_le hB' hB, hc⟩

theorem Strs.len {w : World} {B : Nat} {v : Value} {l : List (List UInt8)} (h : Strs w B v l) : ∃ A c, v = .slice A l.length c ∧ l.length ≤ c ∧ c ≤ maxLen := by
  obtain ⟨A, c, h1, h2, h3, _⟩ := h
  exact ⟨A, c, h1, h2, h3⟩

theorem Strs.at {w : World} {B : Nat} {v : Value} {l : List (List UInt8)} (h : Strs w B v l) (h0 : 0 < l.length) :
    ∃ b off c, v = .slice (some ⟨b, off, none⟩) l.length c ∧ l.length ≤ c ∧ c ≤ maxLen ∧ b < B ∧ ∀ j (hj : j < l.length), w.cell? ⟨b, off + j, none⟩ = some (.string ⟨l[j].toArray⟩) := by
  obtain ⟨A, c, rfl, h2, h3, h4, h5⟩ := h
  obtain ⟨b, off, rfl, hB, hc⟩ := h5 h0
  exact ⟨b, off, c, rfl, h2, h3, hB, fun j hj => hc j _ (vs_at l j hj)⟩

theorem Strs.take {w : World} {B : Nat} {A : Option Addr} {L c : Nat} {l : List (List UInt8)} (h : Strs w B (.slice A L c) l) (k : Nat) (hk : k ≤ l.length) : Strs w B (.slice A k c) (l.take k) := by
  obtain ⟨A', c', e, h2, h3, h4, h5⟩ := h
  injection e with e1 e2 e3
  subst e1 e2 e3
  have hl : (l.take k).length = k := by rw [List.length_take]; omega
  refine ⟨A, c, by rw [hl], by rw [hl]; omega, h3, h4, fun h0 => ?_⟩
  rw [hl] at h0
  obtain ⟨b, off, e, hB, hc⟩ := h5 (by omega)
  refine ⟨b, off, e, hB, fun j u hu => hc j u ?_⟩
  have hj := (List.getElem?_eq_some_iff.1 hu).1
  rw [vs_length, hl] at hj
  rw [← hu]
  simp only [vs, List.map_take]
  rw [List.getElem?_take, if_pos hj]

/-- A row of texts of the call's own. -/
def OwnS (w : World) (B : Nat) (v : Value) (l : List (List UInt8)) : Prop := w.ownsRow B 9 1 v l.length (vs l)

theorem OwnS.nil (w : World) (B : Nat) : OwnS w B (.slice none 0 0) [] := World.ownsRow_nil _ _ _ _
theorem OwnS.alloc {w : World} {B : Nat} {v : Value} {l : List (List UInt8)} (h : OwnS w B v l) (o : Obj) : OwnS (w.alloc o) B v l := World.ownsRow.alloc h o
theorem OwnS.lower {w : World} {B B' : Nat} {v : Value} {l : List (List UInt8)} (h : OwnS w B v l) (hB : B' ≤ B) : OwnS w B' v l := by
  refine ⟨h.1, ?_⟩
  rcases h.2 with h2 | ⟨g, cap, cur, hv, hg, r⟩
  · exact .inl h2
  · exact .inr ⟨g, cap, cur, hv, Nat.le_trans hB hg, r⟩
theorem OwnS.keep {w w' : World} {B : Nat} {v : Value} {l : List (List UInt8)} (h : OwnS w B v l) (hb : Below w.heap.size w w') : OwnS w' B v l := by
  have hlt := h.lt
  refine ⟨h.1, ?_⟩
  rcases h.2 with h2 | ⟨g, cap, cur, rfl, hg, hh, r⟩
  · exact .inl h2
  · exact .inr ⟨g, cap, cur, rfl, hg, (hb.block g (hlt g rfl).2).trans hh, r⟩
/-- A block below the row's is written. -/
theorem OwnS.far {w w' : World} {B g : Nat} {v : Value} {l : List (List UInt8)} (h : OwnS w B v l) (hg : w.grownBy w' (some g)) (hlt0 : g < B) : OwnS w' B v l := by
  have hlt := h.lt
  refine ⟨h.1, ?_⟩
  rcases h.2 with h2 | ⟨g', cap, cur, rfl, hb, hh, r⟩
  · exact .inl h2
  · exact .inr ⟨g', cap, cur, rfl, hb, (hg.block g' (hlt g' rfl).2 (fun e => by injection e with e; omega)).trans hh, r⟩

theorem OwnS.strs {w : World} {B : Nat} {v : Value} {l : List (List UInt8)} (h : OwnS w B v l) : Strs w w.heap.size v l := by
  have hlt := h.lt
  have hc := fun g hg => h.cells (g := g) hg
  rcases h.2 with ⟨rfl, h0⟩ | ⟨g, cap, cur, rfl, _, hg, hn, hm, _, _⟩
  · have : l = [] := List.eq_nil_of_length_eq_zero h0
    subst this
    exact ⟨none, 0, rfl, by simp, by simp, fun _ => rfl, fun h => by simp at h⟩
  · refine ⟨_, cap, rfl, hn, hm, (fun h => by cases h), fun _ => ⟨g, 0, rfl, (hlt g rfl).2, fun j u hu => ?_⟩⟩
    have := hc g rfl j u hu
    rwa [Addr.add_lit] at this

theorem info_str : (Tryz.prog.info? 9).map (fun i => (i.zero, i.size, i.bytes)) = some (some (.string ByteArray.empty), 1, 16) := by kernel_rfl

/-- append of texts, onto a row of the call's own. -/
theorem run_append_strs (w : World) (B : Nat) (v : Value) (l : List (List UInt8)) (ho : OwnS w B v l) (hB : B ≤ w.heap.size) (x : Value) (B' : Nat) (ns : List (List UInt8)) (hx : Strs w B' x ns)
    (hm : l.length + ns.length ≤ 8796093022208) (ty : TypeId) :
    ∃ v' w', (Builtin.append_ #[31, 31] ty #[v, x]).run Tryz.prog w = .ok v' w' ∧ OwnS w' B v' (l ++ ns) ∧ Below B w w' := by
  obtain ⟨i0, hi, hz0, hz1, hz2⟩ := info_parts info_str
  have hmax : l.length + ns.length ≤ maxLen := by simp only [maxLen]; omega
  obtain ⟨A, c, rfl, _, _, h4, h6⟩ := hx
  by_cases h0 : 0 < ns.length
  · obtain ⟨b, off, rfl, _, hc⟩ := h6 h0
    obtain ⟨v', w', hr, h2, h3, _⟩ := run_append_own (P := Tryz.prog) w B 31 ty 9 i0 _ 1 16 Tryz.underlying31 hi hz0 hz1 hz2 rfl (by omega) v l.length (vs l) ho ⟨b, off, none⟩ ns.length c (vs ns) (by simp [vs]) (fun j u hu => by rw [Addr.add_lit]; exact hc j u hu) (vs_one ns) hmax (by omega) hB
    refine ⟨v', w', hr, ?_, (Below.refl _ _).grown h3 hB (fun k hk => (ho.lt k hk).1)⟩
    unfold OwnS
    rw [vs_append, List.length_append]
    exact h2
  · have hns : ns = [] := List.eq_nil_of_length_eq_zero (by omega)
    subst hns
    cases A with
    | some ad =>
      obtain ⟨v', w', hr, h2, h3, _⟩ := run_append_own (P := Tryz.prog) w B 31 ty 9 i0 _ 1 16 Tryz.underlying31 hi hz0 hz1 hz2 rfl (by omega) v l.length (vs l) ho ad 0 c [] rfl (fun j u hu => by simp at hu) (by simp) hmax (by simpa using by omega) hB
      refine ⟨v', w', hr, ?_, (Below.refl _ _).grown h3 hB (fun k hk => (ho.lt k hk).1)⟩
      unfold OwnS
      rw [vs_append, List.length_append]
      exact h2
    | none =>
      have hc := h4 rfl
      subst hc
      refine ⟨v, w, ?_, by simpa using ho, Below.refl _ _⟩
      rcases ho.2 with ⟨rfl, h0⟩ | ⟨g, cap, cur, rfl, _, _, hnc, _⟩
      · simp [Builtin.append_, run_underlying Tryz.underlying31, sizeOf, typeInfo, hi, Builtin.lenOf, Builtin.firstCells]
      · simp [Builtin.append_, run_underlying Tryz.underlying31, sizeOf, typeInfo, hi, Builtin.lenOf, Builtin.firstCells, hnc, storeCells]

/-- append of texts, for the walk. -/
theorem wp_append_strs {w : World} {ops : Array Oper} {rest : List Oper} {o : Oper} {a : Act} {Q : Exit → Act → World → Prop} (hgd : o.guard = none) (s x : Operand)
    (hop : o.op = .call { callee := .builtin .append, args := #[s, x], argTypes := #[31, 31] })
    (B : Nat) (v : Value) (l : List (List UInt8)) (hs : a.eval s = v) (ho : OwnS w B v l) (hB : B ≤ w.heap.size) (y : Value) (B' : Nat) (ns : List (List UInt8)) (hx : a.eval x = y) (hy : Strs w B' y ns)
    (hm : l.length + ns.length ≤ 8796093022208)
    (hK : ∀ v' w', OwnS w' B v' (l ++ ns) → Below B w w' → wpList Tryz.prog ops Q rest (a.put o.dst v') w') : wpList Tryz.prog ops Q (o :: rest) a w := by
  refine wpList_plain hgd fun K hK' => ?_
  obtain ⟨v', w', hrun, r1, r2⟩ := run_append_strs w B v l ho hB y B' ns hy hm o.type
  unfold Oper.wp
  simp [execOp, hop, resolve, invoke, builtin, hs, hx, hrun, Result.andThen]
  exact hK' _ _ (hK v' w' r1 r2)

/-- A row stays while another, older one grows. -/
theorem OwnS.apart {w w' : World} {B : Nat} {v : Value} {l : List (List UInt8)} {r : Option Nat} (h : OwnS w B v l) (hg : w.grownBy w' r) (hr : ∀ k, r = some k → k < B) : OwnS w' B v l :=
  World.ownsRow.kept h hg (by
    cases hv : v.ownBlock with
    | none => exact .inl rfl
    | some k => exact .inr fun e => by have h1 := (World.ownsRow.lt h k hv).1; have h2 := hr k e.symm; omega)

/-- append of bytes, for the walk: what else lies there stays. -/
theorem wp_append_far {w : World} {ops : Array Oper} {rest : List Oper} {o : Oper} {a : Act} {Q : Exit → Act → World → Prop} (hgd : o.guard = none) (s x : Operand)
    (hop : o.op = .call { callee := .builtin .append, args := #[s, x], argTypes := #[44, 44] })
    (B : Nat) (v : Value) (bs : List UInt8) (hs : a.eval s = v) (ho : Own w B v bs) (hB : B ≤ w.heap.size) (y : Value) (B' : Nat) (ns : List UInt8) (hx : a.eval x = y) (hy : Sl w B' y ns)
    (hm : bs.length + ns.length ≤ 140737488355328)
    (hK : ∀ v' w', Own w' B v' (bs ++ ns) → Below B w w' → w.grownBy w' v.ownBlock → wpList Tryz.prog ops Q rest (a.put o.dst v') w') : wpList Tryz.prog ops Q (o :: rest) a w := by
  refine wpList_plain hgd fun K hK' => ?_
  obtain ⟨i0, hi, hz0, hz1, hz2⟩ := info_parts info5
  have hmax : bs.length + ns.length ≤ maxLen := by simp only [maxLen]; omega
  obtain ⟨v', w', hrun, r1, r2, r3⟩ : ∃ v' w', (Builtin.append_ #[44, 44] o.type #[v, y]).run Tryz.prog w = .ok v' w' ∧ Own w' B v' (bs ++ ns) ∧ Below B w w' ∧ w.grownBy w' v.ownBlock := by
    obtain ⟨A, c, rfl, _, _, h4, _, h6⟩ := hy
    cases A with
    | some ad =>
      obtain ⟨v', w', hr, h2, h3, _⟩ := run_append_own (P := Tryz.prog) w B 44 o.type 5 i0 _ 1 1 Tryz.underlying44 hi hz0 hz1 hz2 rfl (by omega) v bs.length (vb bs) ho ad ns.length c (vb ns) (by simp [vb]) (h6 ad rfl) (vb_one ns) hmax (by omega) hB
      refine ⟨v', w', hr, ?_, (Below.refl _ _).grown h3 hB (fun k hk => (ho.lt k hk).1), h3⟩
      unfold Own
      rw [vb_append, List.length_append]
      exact h2
    | none =>
      have hc := h4 rfl
      subst hc
      have : ns = [] := List.eq_nil_of_length_eq_zero (by omega)
      subst this
      refine ⟨v, w, ?_, by simpa using ho, Below.refl _ _, ⟨rfl, rfl, rfl, Nat.le_refl _, fun _ _ _ => rfl⟩⟩
      rcases ho.2 with ⟨rfl, h0⟩ | ⟨g, cap, cur, rfl, _, _, hnc, _⟩
      · simp [Builtin.append_, run_underlying Tryz.underlying44, sizeOf, typeInfo, hi, Builtin.lenOf, Builtin.firstCells]
      · simp [Builtin.append_, run_underlying Tryz.underlying44, sizeOf, typeInfo, hi, Builtin.lenOf, Builtin.firstCells, hnc, storeCells]
  unfold Oper.wp
  simp [execOp, hop, resolve, invoke, builtin, hs, hx, hrun, Result.andThen]
  exact hK' _ _ (hK v' w' r1 r2 r3)

/-- One text, laid out a moment ago. -/
theorem strs_one (w : World) (s : List UInt8) (T : TypeId) : Strs (w.alloc (.cells #[.string ⟨s.toArray⟩] T)) (w.heap.size + 1) (.slice (some ⟨w.heap.size, 0, none⟩) 1 1) [s] :=
  ⟨_, 1, rfl, by simp, by simp [maxLen], (fun h => by cases h), fun _ => ⟨w.heap.size, 0, rfl, by omega, fun j u hu => by
    have hj := (List.getElem?_eq_some_iff.1 hu).1
    rw [vs_length] at hj
    obtain rfl : j = 0 := by simp at hj; omega
    have := cell_of_row (w.alloc (.cells #[.string ⟨s.toArray⟩] T)) w.heap.size 0 #[.string ⟨s.toArray⟩] T (0, 0) (heap_alloc_new w _)
    rw [this]
    simpa [vs] using hu⟩⟩

theorem owns_new (w : World) (B : Nat) (hB : B ≤ w.heap.size) : OwnS (w.alloc (.cells #[] 9)) B (.slice (some ⟨w.heap.size, 0, none⟩) 0 0) [] :=
  World.ownsRow_made (base := B) (e := 9) (size := 1) w #[] 0 hB (by simp) rfl

theorem cells_str : Tryz.prog.cellsOf 9 = 1 := by kernel_rfl
theorem bytes_str : Tryz.prog.bytesOf 9 = 16 := by kernel_rfl

theorem strs_of_trod {H : Type} {enc : TypeId × Value → H} {w : World} {v : Value} {d : DataW H} {ps : List MemPlace} (hv : ∃ A n c, v = .slice A n c)
    (h : DataW.Trod enc Tryz.prog w 0 (fun _ => true) true 31 v d ps) (hw : ∀ n ∈ d.weights Tryz.prog 31, n ≤ reachBytes) :
    ∃ l, Strs w w.heap.size v l ∧ ∀ p ∈ l, p.length ≤ 140737488351232 := by
  obtain ⟨A0, n0, c0, rfl⟩ := hv
  obtain ⟨fuel, hf⟩ := h
  rcases open_strs Tryz.underlying31 Tryz.underlying9 cells_str hf with ⟨hcs, _⟩ | ⟨a, len, cap, m, Sx, hcs, _, hl, hm, hmm, hx, hi⟩
  · simp [Value.cells] at hcs
    obtain ⟨rfl, rfl, rfl⟩ := hcs
    exact ⟨[], ⟨none, 0, rfl, by simp, by simp, fun _ => rfl, fun h => by simp at h⟩, by simp⟩
  · simp [Value.cells] at hcs
    obtain ⟨rfl, rfl, rfl⟩ := hcs
    have hmc : m = c0 := by rw [hmm]; simp
    have hlen : ((List.range n0).map fun i => (Sx i).data.toList).length = n0 := by simp
    refine ⟨(List.range n0).map fun i => (Sx i).data.toList, ⟨some a, c0, by rw [hlen], by rw [hlen]; exact hl, hm, (fun h => by cases h), fun hp => ?_⟩, ?_⟩
    · rw [hlen] at hp
      obtain ⟨b, off, spot⟩ := a
      have hc := (hi 0 (by omega)).1
      have hspot : spot = none := by simpa [Addr.add] using World.cell?_spot hc
      subst hspot
      refine ⟨b, off, rfl, ?_, fun j u hu => ?_⟩
      · have := World.block_lt_of_cell? w _ hc
        rwa [block_of_add] at this
      · have hj := (List.getElem?_eq_some_iff.1 hu).1
        rw [vs_length, hlen] at hj
        have := (hi j (by omega)).1
        rw [Addr.add_lit] at this
        rw [this, ← hu]
        simp [vs, hj]
    · intro p hp
      obtain ⟨i, hi2, rfl⟩ := List.mem_map.1 hp
      have hlt := List.mem_range.1 hi2
      have hd : d = .slice ((List.range n0).map fun i => .lit (.string (Sx i).data.toList)) ((List.range (m - n0)).map fun j => .lit (.string (Sx (n0 + j)).data.toList)) := by
        simp only [Prod.mk.injEq] at hx
        exact hx.1
      refine hw _ ?_
      rw [hd]
      simp only [DataW.weights, Tryz.underlying31]
      refine List.mem_cons_of_mem _ (List.mem_append_left _ (weightsAll_mem (d := .lit (.string (Sx i).data.toList)) (List.mem_map.2 ⟨i, hi2, rfl⟩) ?_))
      simp [DataW.weights]

end Go.Proofs.YtbaimgccepjdaaaGreatDoor.Cd

/-
  has: a pager has just these pages. Conditions: the power is on.
-/
namespace Go.Proofs.YtbaimgccepjdaaaGreatDoor.Cd
open Go.RowKit

theorem reads_got {D : Dsk} {n q : List UInt8} {i : Int} {w w' : World} {e : Ending} (hq : readD D n i = (q, 0)) (h : ReadsP D n i w e w') :
    e = .returned (.tuple #[.slice (some ⟨w.heap.size, 0, none⟩) 512 512, .int .i64 0]) ∧ Below w.heap.size w w' ∧ q.length = 512 ∧ w'.heap.size = w.heap.size + 1 ∧ w'.heap[w.heap.size]? = some (.cells (vb q).toArray 153) := by
  obtain ⟨hb, ⟨q', h1, h2, h3, h4, h5⟩ | ⟨m, h1, h2, _⟩⟩ := h
  · rw [hq] at h1
    injection h1 with h1
    subst h1
    exact ⟨h3, hb, h2, h4, h5⟩
  · rw [hq] at h2
    injection h2 with _ h2
    exact absurd h2.symm h1

theorem reads_none {D : Dsk} {n : List UInt8} {i : Int} {m : Nat} {w w' : World} {e : Ending} (hm : m ≠ 0) (hq : readD D n i = ([], m)) (h : ReadsP D n i w e w') :
    e = .returned (.tuple #[.slice none 0 0, .int .i64 m]) ∧ Below w.heap.size w w' := by
  obtain ⟨hb, ⟨q', h1, _⟩ | ⟨m', h1, h2, h3⟩⟩ := h
  · rw [hq] at h1
    injection h1 with _ h1
    exact absurd h1 hm
  · rw [hq] at h2
    injection h2 with _ h2
    subst h2
    exact ⟨h3, hb⟩

theorem readD_in {D : Dsk} {n : List UInt8} {k : Nat} (ho : D.off = false) (hk : k < (pagesF D.now n).length) : readD D n (k : Int) = ((pagesF D.now n)[k], 0) := by
  unfold readD
  rw [if_neg (by rw [ho]; simp), if_neg (by omega)]
  simp [hk]
theorem readD_out {D : Dsk} {n : List UInt8} {k : Nat} (ho : D.off = false) (hk : (pagesF D.now n).length ≤ k) : readD D n (k : Int) = ([], 5) := by
  unfold readD
  rw [if_neg (by rw [ho]; simp), if_pos (by omega)]

set_option maxRecDepth 100000 in
set_option maxHeartbeats 1600000 in
theorem phas_any (p g N : Nat) (n : List UInt8) (v : Value) (l : List (List UInt8)) (S : Nat → Prop) (D : Dsk) (w : World) (h : PgrAt w S p g n) (hd : DkS w g N S D) (ho : D.off = false) (hn : n.length ≤ 140737488355000) (hs : Strs w w.heap.size v l) :
    Calls Tryz.prog 18 #[.pointer (some ⟨p, 0, none⟩), v] w (Gives (.bool (decide (pagesF D.now n = l))) w) := by
  obtain ⟨A, c, rfl, hc1, hc2⟩ := hs.len
  have hc2 : c ≤ 9223372036854775807 := hc2
  have HS := Lib.hid hs
  have HP := Lib.hid h
  have HD := Lib.hid hd
  have HK := Lib.hid (count_p p g N n S D w h hd ho hn)
  obtain ⟨P, hP⟩ : ∃ x, pagesF D.now n = x := ⟨_, rfl⟩
  have HPP := Lib.hid hP
  rw [hP] at HK ⊢
  clear h hd hs hP
  by_cases hlen : P.length = l.length
  · go_enter Tryz.func18, Tryz.ntmps18
    go_wp2_with (go_at_call 20; refine HK.out.mono ?_; rintro e w1 ⟨rfl, hb1⟩; have HB1 := Lib.hid hb1; rw [hlen]; clear hb1)
    go_loopw [18] (fun i wr => ∃ k : Nat, i = .int .i64 k ∧ k ≤ l.length ∧ Hid (P.take k = l.take k) ∧ Hid (Below w.heap.size w wr)) (fun i _ => l.length - (intOf i).toNat)
    case atStart => exact ⟨0, rfl, by omega, rfl, HB1.out⟩
    case round =>
      obtain ⟨k, rfl, hk, htk, hbl⟩ := hrel
      by_cases hlt : k < l.length
      · obtain ⟨b2, off2, c2', e2, _, _, hB2, hat⟩ := (HS.out.below hbl.out).at (by omega)
        injection e2 with e2 _ e3
        subst e2 e3
        have d0 := hat k hlt
        obtain ⟨s, hs⟩ : ∃ x, l[k] = x := ⟨_, rfl⟩
        rw [hs] at d0
        have HSK := Lib.hid hs
        have hkP : k < P.length := by omega
        have HRD : Hid (readD D n (k : Int) = (P[k], 0)) := by
          have := readD_in (D := D) (n := n) (k := k) ho (by rw [HPP.out]; exact hkP)
          unfold Hid
          rw [this]
          congr 1
          simp only [HPP.out]
        obtain ⟨q, hq⟩ : ∃ x, P[k] = x := ⟨_, rfl⟩
        rw [hq] at HRD
        have HQK := Lib.hid hq
        have hwf : (Lit.int .i64 (k : Int)).wf = true := WalkArith.wf_i64 (by omega)
        have HR := Lib.hid (read_p p g N n (k : Int) S D wr (HP.out.below hbl.out) (HD.out.below hbl.out) hn hwf)
        clear hat hs hq hwf
        by_cases he : q = s
        · have hqs : (q == s) = true := by rw [he]; simp
          clear he
          go_wp2_with (go_at_call 19; refine HR.out.mono ?_; intro e w2 hr; obtain ⟨rfl, hb2, hql, _, hh2⟩ := reads_got HRD.out hr; have HSL := Lib.hid (sl_page hql _ hh2); have HB2 := Lib.hid (hbl.out.trans (hb2.mono hbl.out.size)); have hcv := run_text_of w2 _ _ _ HSL.out; clear hr hb2 hh2)
          go_roundw
          case rel =>
            refine ⟨k + 1, by go_num, by omega, ?_, HB2.out⟩
            have := htk.out
            unfold Hid
            rw [List.take_succ_eq_append_getElem hkP, List.take_succ_eq_append_getElem hlt, this, HQK.out, HSK.out, eq_of_beq hqs]
          case measure => simp [intOf]; omega
        · have hqs : (q == s) = false := beq_eq_false_iff_ne.2 he
          have hdc : Hid (decide (P = l) = false) := decide_eq_false (fun e => he (by rw [← HQK.out, ← HSK.out]; simp only [e]))
          clear he
          go_wp2_with (go_at_call 19; refine HR.out.mono ?_; intro e w2 hr; obtain ⟨rfl, hb2, hql, _, hh2⟩ := reads_got HRD.out hr; have HSL := Lib.hid (sl_page hql _ hh2); have HB2 := Lib.hid (hbl.out.trans (hb2.mono hbl.out.size)); have hcv := run_text_of w2 _ _ _ HSL.out; clear hr hb2 hh2)
          go_ret
          rw [hdc.out]
          exact ⟨rfl, HB2.out⟩
      · have hPl : Hid (decide (P = l) = true) := by
          have := htk.out
          rw [List.take_of_length_le (by omega), List.take_of_length_le (by omega)] at this
          exact decide_eq_true this
        have HRD : Hid (readD D n (l.length : Int) = ([], 5)) := readD_out ho (by rw [HPP.out]; omega)
        have hwf : (Lit.int .i64 (l.length : Int)).wf = true := WalkArith.wf_i64 (by omega)
        have HR := Lib.hid (read_p p g N n (l.length : Int) S D wr (HP.out.below hbl.out) (HD.out.below hbl.out) hn hwf)
        clear hwf htk
        go_wp2_with (go_at_call 19; refine HR.out.mono ?_; intro e w2 hr; obtain ⟨rfl, hb2⟩ := reads_none (by decide) HRD.out hr; have HB2 := Lib.hid (hbl.out.trans (hb2.mono hbl.out.size)); clear hr hb2)
        go_ret
        rw [hPl.out]
        exact ⟨rfl, HB2.out⟩
  · have hne : (P.length : Int) ≠ l.length := by omega
    have hdc : decide (P = l) = false := decide_eq_false (fun e => hlen (by rw [e]))
    rw [hdc]
    go_enter Tryz.func18, Tryz.ntmps18
    go_wp2_with (go_at_call 20; refine HK.out.mono ?_; rintro e w1 ⟨rfl, hb1⟩)
    go_ret
    exact ⟨rfl, hb1⟩

end Go.Proofs.YtbaimgccepjdaaaGreatDoor.Cd
