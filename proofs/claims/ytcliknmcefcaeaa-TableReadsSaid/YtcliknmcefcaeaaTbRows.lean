/-
  Slices of writes: how they read, how they grow. Conditions: none.
-/
import Derived.Test.YtcliknmcefcaeaaTbModel
import Derived.Test.YtcliknmcefcaeaaApart
import Derived.ChangeSame
import Derived.OpenShut
import Derived.Laws.Rows
import Derived.SizedLaws
import Derived.LoopTactic
namespace Go.Proofs.Ytcliknmcefcaeaa.Cd
open Go.RowKit Go.ChangeShapes Go.WideShapes Go.Deep

/-- A write's cells. -/
def wrC (p : Wr) : List Value := [.string ⟨p.1.toArray⟩, .string ⟨p.2.1.toArray⟩, .bool p.2.2]
/-- A write as a value. -/
def wrV (p : Wr) : Value := .agg #[.string ⟨p.1.toArray⟩, .string ⟨p.2.1.toArray⟩, .bool p.2.2]
theorem wrC_len (p : Wr) : (wrC p).length = 3 := rfl
theorem wrC_one (p : Wr) : ∀ u ∈ wrC p, u.oneCell' = true := by
  intro u hu
  simp only [wrC, List.mem_cons, List.not_mem_nil, or_false] at hu
  rcases hu with rfl | rfl | rfl <;> rfl
def Fit (p : Wr) : Prop := p.1.length ≤ 140737488351232 ∧ p.2.1.length ≤ 140737488351232
def FitW (l : List Wr) : Prop := ∀ p ∈ l, Fit p
theorem Fit.flat {p : Wr} (h : Fit p) : Fit (flatG p) := by
  unfold Cd.flatG
  split
  · exact ⟨h.1, Nat.zero_le _⟩
  · exact h
theorem FitW.ins {t : List Wr} (h : FitW t) {p : Wr} (hp : Fit p) : FitW (insW t p) := fun q hq => by
  rcases mem_ins hq with rfl | hq
  · exact hp
  · exact h q hq
theorem FitW.of {l : List Wr} (h : FitW l) : FitW (ofW l) := by
  have : ∀ (t : List Wr), FitW t → FitW (ofFrom t l) := by
    induction l with
    | nil => exact fun t ht => ht
    | cons w r ih => exact fun t ht => ih (fun p hp => h p (List.mem_cons_of_mem _ hp)) _ (ht.ins (h w List.mem_cons_self).flat)
  exact this [] (fun _ h => by cases h)

/-- A slice value that reads as the writes 'l'. -/
def TbIn (w : World) (B : Nat) (v : Value) (l : List Wr) : Prop :=
  ∃ A c, v = .slice A l.length c ∧ l.length ≤ c ∧ c ≤ maxLen ∧ (A = none → c = 0) ∧
    (0 < l.length → ∃ b off, A = some ⟨b, off, none⟩ ∧ b < B ∧ ∀ (i : Nat) p, l[i]? = some p → ∀ (j : Nat) x, (wrC p)[j]? = some x → w.cell? ⟨b, off + i * 3 + j, none⟩ = some x)

section
variable {w w' : World} {B B' : Nat} {v : Value} {l : List Wr}
theorem TbIn.below (h : TbIn w B v l) (hb : Below B w w') : TbIn w' B v l := by
  obtain ⟨A, c, h1, h2, h3, h4, h5⟩ := h
  refine ⟨A, c, h1, h2, h3, h4, fun hp => ?_⟩
  obtain ⟨b, off, e, hB, hc⟩ := h5 hp
  exact ⟨b, off, e, hB, fun i p hi j x hj => (hb.cell (p := ⟨b, off + i * 3 + j, none⟩) hB).trans (hc i p hi j x hj)⟩
theorem TbIn.more (h : TbIn w B v l) (hB : B ≤ B') : TbIn w B' v l := by
  obtain ⟨A, c, h1, h2, h3, h4, h5⟩ := h
  refine ⟨A, c, h1, h2, h3, h4, fun hp => ?_⟩
  obtain ⟨b, off, e, hb, hc⟩ := h5 hp
  exact ⟨b, off, e, Nat.lt_of_lt_of_le hb hB, hc⟩
theorem TbIn.nil (w : World) (B : Nat) : TbIn w B (.slice none 0 0) [] := ⟨none, 0, rfl, Nat.le_refl _, Nat.zero_le _, fun _ => rfl, fun h => by simp at h⟩
theorem TbIn.len (h : TbIn w B v l) : ∃ A c, v = .slice A l.length c ∧ l.length ≤ c ∧ c ≤ 9223372036854775807 := by
  obtain ⟨A, c, h1, h2, h3, _⟩ := h
  exact ⟨A, c, h1, h2, h3⟩
/-- The k-th write's cells. -/
theorem TbIn.at {A : Option Addr} {n c : Nat} (h : TbIn w B (.slice A n c) l) {k : Nat} {p : Wr} (hk : l[k]? = some p) :
    ∃ b off, A = some ⟨b, off, none⟩ ∧ b < B ∧ w.cell? ⟨b, off + k * 3, none⟩ = some (.string ⟨p.1.toArray⟩) ∧ w.cell? ⟨b, off + k * 3 + 1, none⟩ = some (.string ⟨p.2.1.toArray⟩) ∧ w.cell? ⟨b, off + k * 3 + 2, none⟩ = some (.bool p.2.2) := by
  obtain ⟨A0, c0, e, _, _, _, h5⟩ := h
  injection e with e1 e2 e3
  have hlt := (List.getElem?_eq_some_iff.1 hk).1
  obtain ⟨b, off, e, hB, hc⟩ := h5 (by omega)
  exact ⟨b, off, e1.trans e, hB, hc k p hk 0 _ rfl, hc k p hk 1 _ rfl, hc k p hk 2 _ rfl⟩
end

theorem cells_wr : Try.prog.cellsOf 29 = 3 := by kernel_rfl
theorem cells_strw : Try.prog.cellsOf 9 = 1 := by kernel_rfl
theorem cells_boolw : Try.prog.cellsOf 4 = 1 := by kernel_rfl
theorem cells_wrs : Try.prog.cellsOf 22 = 1 := by kernel_rfl

def WrAt {H : Type} (w : World) (a : Addr) (i : Nat) (d : DataW H) (p : Wr) : Prop :=
  ((∀ n ∈ d.weights Try.prog 29, n ≤ reachBytes) → Fit p) ∧ ∀ (j : Nat) v, (wrC p)[j]? = some v → w.cell? (a.add (i * 3 + j)) = some v

set_option maxRecDepth 100000 in
theorem wr_of {H : Type} {enc : TypeId × Value → H} {w : World} {a : Addr} {i n : Nat} {cs : List Value} {x : DataW H × List MemPlace} (hc : w.cells? 0 (a.add (i * 3)) 3 = some cs)
    (ht : DataW.trod enc Try.prog w 0 (fun _ => true) true n 29 cs = some x) : ∃ p, WrAt w a i x.1 p := by
  obtain ⟨_, hlen, hat⟩ := World.cells?_some hc
  obtain ⟨xs, m, _, hx, _, hxl, hfld⟩ := DataW.trod_struct Try.underlying29 ht
  match cs, hlen, xs, hxl with
  | [z0, z1, z2], _, [y0, y1, y2], _ =>
    have f0 : DataW.trod enc Try.prog w 0 (fun _ => true) true m 9 (([z0, z1, z2].drop 0).take (Try.prog.cellsOf 9)) = some y0 := hfld 0 _ rfl
    have f1 : DataW.trod enc Try.prog w 0 (fun _ => true) true m 9 (([z0, z1, z2].drop 1).take (Try.prog.cellsOf 9)) = some y1 := hfld 1 _ rfl
    rw [cells_strw] at f0 f1
    have f2 : DataW.trod enc Try.prog w 0 (fun _ => true) true m 4 (([z0, z1, z2].drop 2).take (Try.prog.cellsOf 4)) = some y2 := hfld 2 _ rfl
    rw [cells_boolw] at f2
    obtain ⟨x0, q0, e0, _⟩ := DataW.trod_string (cs := [z0]) Try.underlying9 f0
    obtain ⟨x1, q1, e1, _⟩ := DataW.trod_string (cs := [z1]) Try.underlying9 f1
    obtain ⟨x2, q2, e2⟩ := DataW.trod_bool (cs := [z2]) Try.underlying4 f2
    simp only [List.cons.injEq, and_true] at q0 q1 q2
    have hxd : x.1 = .agg [y0.1, y1.1, y2.1] := by rw [hx]; rfl
    refine ⟨⟨x0.data.toList, x1.data.toList, x2⟩, fun hw => ?_, fun j v hv => ?_⟩
    · have hw' : ∀ n ∈ DataW.weightsEach Try.prog [9, 9, 4] [y0.1, y1.1, y2.1], n ≤ reachBytes := by
        intro n hn
        refine hw n ?_
        rw [hxd]
        simpa [DataW.weights, Try.underlying29] using hn
      have w0 := fun n hn => hw' n (DataW.weights_mem_each (j := 0) (t := 9) (d := y0.1) rfl rfl n hn)
      have w1 := fun n hn => hw' n (DataW.weights_mem_each (j := 1) (t := 9) (d := y1.1) rfl rfl n hn)
      have l0 := w0 x0.data.toList.length (by rw [e0]; simp [DataW.weights])
      have l1 := w1 x1.data.toList.length (by rw [e1]; simp [DataW.weights])
      simp only [reachBytes] at l0 l1
      exact ⟨by show x0.data.toList.length ≤ _; omega, by show x1.data.toList.length ≤ _; omega⟩
    · have hj : j < 3 := (List.getElem?_eq_some_iff.1 hv).1
      rw [← Go.Deep.add_add, hat j hj]
      rw [q0, q1, q2]
      exact hv

instance : Inhabited Wr := ⟨⟨[], [], false⟩⟩

/-- Cells that are read as a slice of writes. -/
theorem wrs_of_cells {H : Type} {enc : TypeId × Value → H} {w : World} {fuel : Nat} {cs : List Value} {x : DataW H × List MemPlace} (hf : DataW.trod enc Try.prog w 0 (fun _ => true) true fuel 22 cs = some x) :
    ∃ A n c ps, cs = [.slice A n c] ∧ TbIn w w.heap.size (.slice A n c) ps ∧ ((∀ m ∈ x.1.weights Try.prog 22, m ≤ reachBytes) → FitW ps) := by
  rcases open_slice Try.underlying22 hf with ⟨hcs, _⟩ | ⟨a, n0, c0, m, n, D, Pl, hcs, _, hl, hm, hmm, hx, hi⟩
  · exact ⟨none, 0, 0, [], hcs, TbIn.nil _ _, fun _ p hp => by cases hp⟩
  · have hone : ∀ i, i < n0 → ∃ p : Wr, WrAt w a i (D i) p := by
      intro i hin
      obtain ⟨cs', hcc, htt⟩ := hi i (by rw [hmm]; simp; omega)
      rw [cells_wr] at hcc
      exact wr_of hcc htt
    obtain ⟨f, hf2⟩ := choose_lt hone
    have hget : ∀ (i : Nat) p, ((List.range n0).map f)[i]? = some p → i < n0 ∧ p = f i := by
      intro i p hip
      obtain ⟨hlt, rfl⟩ := List.getElem?_eq_some_iff.1 hip
      simp at hlt
      exact ⟨hlt, by simp⟩
    refine ⟨some a, n0, c0, (List.range n0).map f, hcs, ⟨some a, c0, by simp, by simpa using hl, hm, (fun h => by cases h), fun hp => ?_⟩, fun hw => ?_⟩
    · have hp0 : 0 < n0 := by simpa using hp
      obtain ⟨b, off, spot⟩ := a
      have hc := (hf2 0 hp0).2 0 _ rfl
      have hspot : spot = none := by simpa [Addr.add] using World.cell?_spot hc
      subst hspot
      refine ⟨b, off, rfl, ?_, ?_⟩
      · have := World.block_lt_of_cell? w _ hc
        rwa [block_of_add] at this
      · intro i p hip j x hj
        obtain ⟨hlt, rfl⟩ := hget i p hip
        have := (hf2 i hlt).2 j x hj
        rwa [Addr.add_lit, ← Nat.add_assoc] at this
    · intro p hp
      obtain ⟨i, hi2, rfl⟩ := List.mem_map.1 hp
      have hlt := List.mem_range.1 hi2
      refine (hf2 i hlt).1 fun n hn => hw n ?_
      have hd : x.1 = .slice ((List.range n0).map D) ((List.range (m - n0)).map fun j => D (n0 + j)) := by rw [hx]
      rw [hd]
      simp only [DataW.weights, Try.underlying22]
      exact List.mem_cons_of_mem _ (List.mem_append_left _ (weightsAll_mem (d := D i) (List.mem_map.2 ⟨i, hi2, rfl⟩) hn))

theorem wrs_of_trod {H : Type} {enc : TypeId × Value → H} {w : World} {v : Value} {d : DataW H} {ps : List MemPlace} (hv : ∃ A n c, v = .slice A n c)
    (h : DataW.Trod enc Try.prog w 0 (fun _ => true) true 22 v d ps) (hw : ∀ n ∈ d.weights Try.prog 22, n ≤ reachBytes) : ∃ l, TbIn w w.heap.size v l ∧ FitW l := by
  obtain ⟨A0, n0, c0, rfl⟩ := hv
  obtain ⟨fuel, hf⟩ := h
  obtain ⟨A, n, c, l, e, h1, h2⟩ := wrs_of_cells hf
  simp [Value.cells] at e
  obtain ⟨rfl, rfl, rfl⟩ := e
  exact ⟨l, h1, h2 hw⟩

/-- A slice value that reads as lists of writes. -/
def TbsIn (w : World) (B : Nat) (v : Value) (ls : List (List Wr)) : Prop :=
  ∃ A c, v = .slice A ls.length c ∧ ls.length ≤ c ∧ c ≤ maxLen ∧
    (0 < ls.length → ∃ b off, A = some ⟨b, off, none⟩ ∧ b < B ∧ ∀ (i : Nat) l, ls[i]? = some l → ∃ u, TbIn w B u l ∧ w.cell? ⟨b, off + i, none⟩ = some u)

section
variable {w w' : World} {B B' : Nat} {v : Value} {ls : List (List Wr)}
theorem TbsIn.below (h : TbsIn w B v ls) (hb : Below B w w') : TbsIn w' B v ls := by
  obtain ⟨A, c, h1, h2, h3, h5⟩ := h
  refine ⟨A, c, h1, h2, h3, fun hp => ?_⟩
  obtain ⟨b, off, e, hB, hc⟩ := h5 hp
  refine ⟨b, off, e, hB, fun i l hi => ?_⟩
  obtain ⟨u, h6, h7⟩ := hc i l hi
  exact ⟨u, h6.below hb, (hb.cell (p := ⟨b, off + i, none⟩) hB).trans h7⟩
theorem TbsIn.len (h : TbsIn w B v ls) : ∃ A c, v = .slice A ls.length c ∧ ls.length ≤ c ∧ c ≤ 9223372036854775807 := by
  obtain ⟨A, c, h1, h2, h3, _⟩ := h
  exact ⟨A, c, h1, h2, h3⟩
theorem TbsIn.at {A : Option Addr} {n c : Nat} (h : TbsIn w B (.slice A n c) ls) {k : Nat} {l : List Wr} (hk : ls[k]? = some l) :
    ∃ b off u, A = some ⟨b, off, none⟩ ∧ b < B ∧ TbIn w B u l ∧ w.cell? ⟨b, off + k, none⟩ = some u := by
  obtain ⟨A0, c0, e, _, _, h5⟩ := h
  injection e with e1 e2 e3
  have hlt := (List.getElem?_eq_some_iff.1 hk).1
  obtain ⟨b, off, e, hB, hc⟩ := h5 (by omega)
  obtain ⟨u, h6, h7⟩ := hc k l hk
  exact ⟨b, off, u, e1.trans e, hB, h6, h7⟩
end

theorem wrss_of_trod {H : Type} {enc : TypeId × Value → H} {w : World} {v : Value} {d : DataW H} {ps : List MemPlace} (hv : ∃ A n c, v = .slice A n c)
    (h : DataW.Trod enc Try.prog w 0 (fun _ => true) true 38 v d ps) (hw : ∀ n ∈ d.weights Try.prog 38, n ≤ reachBytes) :
    ∃ ls, TbsIn w w.heap.size v ls ∧ ∀ l ∈ ls, FitW l := by
  obtain ⟨A0, n0, c0, rfl⟩ := hv
  obtain ⟨fuel, hf⟩ := h
  rcases open_slice Try.underlying38 hf with ⟨hcs, _⟩ | ⟨a, len, cap, m, n, D, Pl, hcs, _, hl, hm, hmm, hx, hi⟩
  · simp [Value.cells] at hcs
    obtain ⟨rfl, rfl, rfl⟩ := hcs
    exact ⟨[], ⟨none, 0, rfl, by simp, by simp, fun h => by simp at h⟩, fun _ h => by cases h⟩
  · simp [Value.cells] at hcs
    obtain ⟨rfl, rfl, rfl⟩ := hcs
    have hone : ∀ i, i < n0 → ∃ l : List Wr, ((∀ n ∈ (D i).weights Try.prog 22, n ≤ reachBytes) → FitW l) ∧ ∃ u, TbIn w w.heap.size u l ∧ w.cell? (a.add i) = some u := by
      intro i hin
      obtain ⟨cs', hcc, htt⟩ := hi i (by rw [hmm]; simp; omega)
      rw [cells_wrs, Nat.mul_one] at hcc
      obtain ⟨A, n, c, l, e, h1, h2⟩ := wrs_of_cells htt
      obtain ⟨_, _, hat⟩ := World.cells?_some hcc
      refine ⟨l, h2, _, h1, ?_⟩
      have := hat 0 (by omega)
      rw [e] at this
      simpa [Addr.add] using this
    obtain ⟨f, hf⟩ := choose_lt hone
    have hget : ∀ (i : Nat) p, ((List.range n0).map f)[i]? = some p → i < n0 ∧ p = f i := by
      intro i p hip
      obtain ⟨hlt, rfl⟩ := List.getElem?_eq_some_iff.1 hip
      simp at hlt
      exact ⟨hlt, by simp⟩
    refine ⟨(List.range n0).map f, ⟨some a, c0, by simp, by simpa using hl, hm, fun hp => ?_⟩, ?_⟩
    · have hp0 : 0 < n0 := by simpa using hp
      obtain ⟨b, off, spot⟩ := a
      obtain ⟨u0, _, hc⟩ := (hf 0 hp0).2
      have hspot : spot = none := by simpa [Addr.add] using World.cell?_spot hc
      subst hspot
      refine ⟨b, off, rfl, ?_, ?_⟩
      · have := World.block_lt_of_cell? w _ hc
        rwa [block_of_add] at this
      · intro i p hip
        obtain ⟨hlt, rfl⟩ := hget i p hip
        obtain ⟨u, h1, h2⟩ := (hf i hlt).2
        exact ⟨u, h1, by rwa [Addr.add_lit] at h2⟩
    · intro p hp
      obtain ⟨i, hi2, rfl⟩ := List.mem_map.1 hp
      have hlt := List.mem_range.1 hi2
      refine (hf i hlt).1 fun n hn => hw n ?_
      have hd : d = .slice ((List.range n0).map D) ((List.range (m - n0)).map fun j => D (n0 + j)) := by
        simp only [Prod.mk.injEq] at hx
        exact hx.1
      rw [hd]
      simp only [DataW.weights, Try.underlying38]
      exact List.mem_cons_of_mem _ (List.mem_append_left _ (weightsAll_mem (d := D i) (List.mem_map.2 ⟨i, hi2, rfl⟩) hn))

/-! ### Rows of the call's own -/

/-- Writes' cells, one behind the other. -/
def wrCs (l : List Wr) : List Value := (l.map wrC).flatten
theorem wrCs_append (a b : List Wr) : wrCs (a ++ b) = wrCs a ++ wrCs b := by simp [wrCs]
theorem wrCs_len (l : List Wr) : (wrCs l).length = l.length * 3 := by
  induction l with
  | nil => rfl
  | cons p r ih =>
    show (wrC p ++ wrCs r).length = _
    rw [List.length_append, ih, wrC_len, List.length_cons]
    omega
theorem wrCs_at : ∀ (l : List Wr) (i : Nat) (p : Wr), l[i]? = some p → ∀ (j : Nat) x, (wrC p)[j]? = some x → (wrCs l)[i * 3 + j]? = some x
  | [], _, _, h, _, _, _ => by simp at h
  | q :: r, 0, p, h, j, x, hx => by
    have e : q = p := by simpa using h
    subst e
    have hj : j < (wrC q).length := (List.getElem?_eq_some_iff.1 hx).1
    show (wrC q ++ wrCs r)[0 * 3 + j]? = some x
    rw [Nat.zero_mul, Nat.zero_add, List.getElem?_append_left hj]
    exact hx
  | q :: r, i + 1, p, h, j, x, hx => by
    have := wrCs_at r i p (by simpa using h) j x hx
    show (wrC q ++ wrCs r)[(i + 1) * 3 + j]? = some x
    rw [List.getElem?_append_right (by simp [wrC]; omega)]
    rw [show (i + 1) * 3 + j - (wrC q).length = i * 3 + j by simp [wrC]; omega]
    exact this
/-- Each cell of a row is one of a write's. -/
theorem wrCs_of : ∀ (l : List Wr) (j : Nat) x, (wrCs l)[j]? = some x → ∃ i p k, l[i]? = some p ∧ (wrC p)[k]? = some x ∧ j = i * 3 + k
  | [], _, _, h => by simp [wrCs] at h
  | q :: r, j, x, h => by
    have h : (wrC q ++ wrCs r)[j]? = some x := h
    by_cases hj : j < 3
    · rw [List.getElem?_append_left (by rw [wrC_len]; exact hj)] at h
      exact ⟨0, q, j, rfl, h, by omega⟩
    · rw [List.getElem?_append_right (by rw [wrC_len]; omega), wrC_len] at h
      obtain ⟨i, p, k, h1, h2, h3⟩ := wrCs_of r _ x h
      exact ⟨i + 1, p, k, by simpa using h1, h2, by omega⟩
theorem wrCs_one (l : List Wr) : ∀ u ∈ wrCs l, u.oneCell' = true := by
  intro u hu
  simp only [wrCs, List.mem_flatten, List.mem_map] at hu
  obtain ⟨_, ⟨p, _, rfl⟩, hu⟩ := hu
  exact wrC_one p u hu

theorem info_wr : (Try.prog.info? 29).map (fun i => (i.zero, i.size, i.bytes)) = some (some (.agg #[.string ByteArray.empty, .string ByteArray.empty, .bool false]), 3, 40) := by kernel_rfl

/-- A row of writes of the call's own. -/
def OwnTb (w : World) (B : Nat) (v : Value) (l : List Wr) : Prop := w.ownsRow B 29 3 v l.length (wrCs l)

section
variable {w w' : World} {B : Nat} {v : Value} {l : List Wr}
theorem OwnTb.nil (w : World) (B : Nat) : OwnTb w B (.slice none 0 0) [] := World.ownsRow_nil _ _ _ _
theorem OwnTb.keep (h : OwnTb w B v l) (hb : Below w.heap.size w w') : OwnTb w' B v l := by
  have hlt := World.ownsRow.lt h
  refine ⟨h.1, ?_⟩
  rcases h.2 with h4 | ⟨g, cap, cur, rfl, hg, hh, r⟩
  · exact .inl h4
  · exact .inr ⟨g, cap, cur, rfl, hg, (hb.block g (hlt g rfl).2).trans hh, r⟩
theorem OwnTb.lower {B' : Nat} (h : OwnTb w B v l) (hB : B' ≤ B) : OwnTb w B' v l := by
  refine ⟨h.1, ?_⟩
  rcases h.2 with h2 | ⟨g, cap, cur, hv, hg, r⟩
  · exact .inl h2
  · exact .inr ⟨g, cap, cur, hv, Nat.le_trans hB hg, r⟩
theorem OwnTb.alloc (h : OwnTb w B v l) (o : Obj) : OwnTb (w.alloc o) B v l := World.ownsRow.alloc h o
/-- Blocks that are none of the row's are written. -/
theorem OwnTb.off {T : Nat → Prop} (h : OwnTb w B v l) (ha : Apart T w w') (hT : ∀ k, T k → k < B) : OwnTb w' B v l := by
  have hlt := World.ownsRow.lt h
  refine ⟨h.1, ?_⟩
  rcases h.2 with h4 | ⟨g, cap, cur, rfl, hg, hh, r⟩
  · exact .inl h4
  · exact .inr ⟨g, cap, cur, rfl, hg, (ha.block g (hlt g rfl).2 (fun e => by have := hT g e; omega)).trans hh, r⟩
theorem OwnTb.tbIn (h : OwnTb w B v l) : TbIn w w.heap.size v l := by
  have hlt := World.ownsRow.lt h
  have hc := fun g hg => World.ownsRow.cells h (g := g) hg
  rcases h.2 with ⟨rfl, h0⟩ | ⟨g, cap, cur, rfl, hBg, hg, hn, hm, _, _⟩
  · have : l = [] := List.eq_nil_of_length_eq_zero h0
    subst this
    exact TbIn.nil _ _
  · refine ⟨_, cap, rfl, hn, hm, (fun h => by cases h), fun _ => ⟨g, 0, rfl, (hlt g rfl).2, fun i p hi j x hj => ?_⟩⟩
    have := hc g rfl (i * 3 + j) _ (wrCs_at l i p hi j x hj)
    rw [Addr.add_lit] at this
    rwa [← Nat.add_assoc] at this

/-- append of writes, onto a row of the call's own. -/
theorem run_append_tbs (ho : OwnTb w B v l) (hB : B ≤ w.heap.size) (x : Value) (B' : Nat) (ns : List Wr) (hx : TbIn w B' x ns) (hm : l.length + ns.length ≤ 1099511627776) (ty : TypeId) :
    ∃ v' w', (Builtin.append_ #[22, 22] ty #[v, x]).run Try.prog w = .ok v' w' ∧ OwnTb w' B v' (l ++ ns) ∧ Below B w w' ∧ w.grownBy w' v.ownBlock := by
  obtain ⟨i0, hi, hz0, hz1, hz2⟩ := info_parts info_wr
  have hmax : l.length + ns.length ≤ maxLen := by simp only [maxLen]; omega
  obtain ⟨A, c, rfl, _, _, h4, h6⟩ := hx
  by_cases h0 : 0 < ns.length
  · obtain ⟨b, off, rfl, _, hc⟩ := h6 h0
    obtain ⟨v', w', hr, h2, h3, _⟩ := run_append_own (P := Try.prog) w B 22 ty 29 i0 _ 3 40 Try.underlying22 hi hz0 hz1 hz2 rfl (by omega) v l.length (wrCs l) ho ⟨b, off, none⟩ ns.length c (wrCs ns) (wrCs_len ns)
      (fun j u hu => by
        rw [Addr.add_lit]
        obtain ⟨i, p, k, h1, h2, rfl⟩ := wrCs_of ns j u hu
        rw [← Nat.add_assoc]
        exact hc i p h1 k u h2) (wrCs_one ns) hmax (by omega) hB
    refine ⟨v', w', hr, ?_, (Below.refl _ _).grown h3 hB (fun k hk => (World.ownsRow.lt ho k hk).1), h3⟩
    unfold OwnTb
    rw [wrCs_append, List.length_append]
    exact h2
  · have hns : ns = [] := List.eq_nil_of_length_eq_zero (by omega)
    subst hns
    cases A with
    | some ad =>
      obtain ⟨v', w', hr, h2, h3, _⟩ := run_append_own (P := Try.prog) w B 22 ty 29 i0 _ 3 40 Try.underlying22 hi hz0 hz1 hz2 rfl (by omega) v l.length (wrCs l) ho ad 0 c [] rfl (fun j u hu => by simp at hu) (by simp) hmax (by simpa using by omega) hB
      refine ⟨v', w', hr, ?_, (Below.refl _ _).grown h3 hB (fun k hk => (World.ownsRow.lt ho k hk).1), h3⟩
      unfold OwnTb
      rw [wrCs_append, List.length_append]
      exact h2
    | none =>
      have hc := h4 rfl
      subst hc
      refine ⟨v, w, ?_, by simpa using ho, Below.refl _ _, ⟨rfl, rfl, rfl, Nat.le_refl _, fun _ _ _ => rfl⟩⟩
      rcases ho.2 with ⟨rfl, h0⟩ | ⟨g, cap, cur, rfl, _, _, hnc, _⟩
      · simp [Builtin.append_, run_underlying Try.underlying22, sizeOf, typeInfo, hi, Builtin.lenOf, Builtin.firstCells]
      · simp [Builtin.append_, run_underlying Try.underlying22, sizeOf, typeInfo, hi, Builtin.lenOf, Builtin.firstCells, hnc, storeCells]

theorem wp_append_tbs {ops : Array Oper} {rest : List Oper} {o : Oper} {a : Act} {Q : Exit → Act → World → Prop} (hgd : o.guard = none) (s x : Operand)
    (hop : o.op = .call { callee := .builtin .append, args := #[s, x], argTypes := #[22, 22] })
    (hs : a.eval s = v) (ho : OwnTb w B v l) (hB : B ≤ w.heap.size) (y : Value) (B' : Nat) (ns : List Wr) (hx : a.eval x = y) (hy : TbIn w B' y ns)
    (hm : l.length + ns.length ≤ 1099511627776)
    (hK : ∀ v' w', OwnTb w' B v' (l ++ ns) → Below B w w' → w.grownBy w' v.ownBlock → wpList Try.prog ops Q rest (a.put o.dst v') w') : wpList Try.prog ops Q (o :: rest) a w := by
  refine wpList_plain hgd fun K hK' => ?_
  obtain ⟨v', w', hrun, r1, r2, r3⟩ := run_append_tbs ho hB y B' ns hy hm o.type
  unfold Oper.wp
  simp [execOp, hop, resolve, invoke, builtin, hs, hx, hrun, Result.andThen]
  exact hK' _ _ (hK v' w' r1 r2 r3)
end

/-- One write, laid out a moment ago. -/
theorem tb_one (w : World) (p : Wr) (T : TypeId) : TbIn (w.alloc (.cells #[.string ⟨p.1.toArray⟩, .string ⟨p.2.1.toArray⟩, .bool p.2.2] T)) (w.heap.size + 1) (.slice (some ⟨w.heap.size, 0, none⟩) 1 1) [p] :=
  ⟨_, 1, rfl, by simp, by simp [maxLen], (fun h => by cases h), fun _ => ⟨w.heap.size, 0, rfl, by omega, fun i q hi j x hx => by
    have hlt := (List.getElem?_eq_some_iff.1 hi).1
    obtain rfl : i = 0 := by simp at hlt; omega
    obtain rfl : p = q := by simpa using hi
    have hrow := heap_alloc_new w (.cells #[.string ⟨p.1.toArray⟩, .string ⟨p.2.1.toArray⟩, .bool p.2.2] T)
    match j with
    | 0 => exact (cell_of_row _ _ 0 _ _ _ hrow).trans hx
    | 1 => exact (cell_of_row _ _ 1 _ _ _ hrow).trans hx
    | 2 => exact (cell_of_row _ _ 2 _ _ _ hrow).trans hx
    | j + 3 => simp [wrC] at hx⟩⟩

theorem index_tb (b o n c i : Nat) (h : i < n) (W : World) : (Instr.indexAt 22 (.slice (some ⟨b, o, none⟩) n c) (.int .i64 (i : Int))).run Try.prog W = .ok (.pointer (some ⟨b, o + i * 3, none⟩)) W := by
  have hs : (sizeOf (Try.prog.elem 22)).run Try.prog W = .ok 3 W := by
    have he : Try.prog.elem 22 = 29 := by kernel_rfl
    obtain ⟨i0, hi, _, hz1, _⟩ := info_parts info_wr
    rw [he]
    simp [sizeOf, typeInfo, hi, hz1]
  have h1 := run_indexAt_slice (P := Try.prog) (w := W) 22 ⟨b, o, none⟩ n c .i64 (i : Int) (by kernel_rfl)
  rw [if_pos (by omega), hs] at h1
  rw [h1]
  simp [Result.andThen, Addr.add_lit]

end Go.Proofs.Ytcliknmcefcaeaa.Cd
