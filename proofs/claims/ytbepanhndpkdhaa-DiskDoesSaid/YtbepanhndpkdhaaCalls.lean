/-
  More than is played? Conditions: none.
-/
import Derived.Test.YtbepanhndpkdhaaBase
import Derived.ChangeSame
import Derived.OpenShut
import Derived.Laws.Rows
import Derived.SizedLaws
import Derived.LoopTactic
namespace Go.Proofs.Ytbepanhndpkdhaa.Cd
open Go.RowKit Go.ChangeShapes Go.WideShapes Go.Deep

/-- A call, as the law's text has it. -/
structure Cl where
  kind : Int
  a : List UInt8
  z : List UInt8
  i : Int
  b : List UInt8
  k : Nat

def I64 (n : Int) : Prop := -9223372036854775808 ≤ n ∧ n ≤ 9223372036854775807
structure Cl.Ok (p : Cl) : Prop where
  kind : I64 p.kind
  a : p.a.length ≤ 140737488351232
  z : p.z.length ≤ 140737488351232
  i : I64 p.i
  b : p.b.length ≤ 140737488351232
  k : p.k < 18446744073709551616
  wf : (Lit.int .i64 p.i).wf = true

/-- Its cells, the bytes' slice being u. -/
def Cl.cells (p : Cl) (u : Value) : List Value := [.int .i64 p.kind, .string ⟨p.a.toArray⟩, .string ⟨p.z.toArray⟩, .int .i64 p.i, u, .int .u64 p.k]

/-- A slice value that reads as the calls 'ps'. -/
def Clls (w : World) (B : Nat) (v : Value) (ps : List Cl) : Prop :=
  ∃ A c, v = .slice A ps.length c ∧ ps.length ≤ maxLen ∧ (∀ p ∈ ps, p.Ok) ∧
    (0 < ps.length → ∃ b off, A = some ⟨b, off, none⟩ ∧ b < B ∧ ∀ i p, ps[i]? = some p → ∃ u, Sl w B u p.b ∧ ∀ j x, (p.cells u)[j]? = some x → w.cell? ⟨b, off + i * 6 + j, none⟩ = some x)

theorem Clls.below {w w' : World} {B : Nat} {v : Value} {ps : List Cl} (h : Clls w B v ps) (hb : Below B w w') : Clls w' B v ps := by
  obtain ⟨A, c, h1, h2, h3, h4⟩ := h
  refine ⟨A, c, h1, h2, h3, fun hp => ?_⟩
  obtain ⟨b, off, e, hB, hc⟩ := h4 hp
  refine ⟨b, off, e, hB, fun i p hi => ?_⟩
  obtain ⟨u, hs, hx⟩ := hc i p hi
  exact ⟨u, hs.below hb, fun j x hj => (hb.cell (p := ⟨b, off + i * 6 + j, none⟩) hB).trans (hx j x hj)⟩

theorem cells_call : Try.prog.cellsOf 32 = 6 := by kernel_rfl
theorem cells_int5 : Try.prog.cellsOf 3 = 1 := by kernel_rfl
theorem cells_string5 : Try.prog.cellsOf 9 = 1 := by kernel_rfl
theorem cells_uint5 : Try.prog.cellsOf 30 = 1 := by kernel_rfl

def CallAt {H : Type} (w : World) (a : Addr) (i : Nat) (d : DataW H) (p : Cl) : Prop :=
  ((∀ n ∈ d.weights Try.prog 32, n ≤ reachBytes) → p.Ok) ∧ ∃ u, Sl w w.heap.size u p.b ∧ ∀ j v, (p.cells u)[j]? = some v → w.cell? (a.add (i * 6 + j)) = some v

set_option maxRecDepth 100000 in
theorem call_of {H : Type} {enc : TypeId × Value → H} {w : World} {a : Addr} {i n : Nat} {cs : List Value} {x : DataW H × List MemPlace} (hc : w.cells? 0 (a.add (i * 6)) 6 = some cs)
    (ht : DataW.trod enc Try.prog w 0 (fun _ => true) true n 32 cs = some x) : ∃ p, CallAt w a i x.1 p := by
  obtain ⟨_, hlen, hat⟩ := World.cells?_some hc
  obtain ⟨xs, m, _, hx, _, hxl, hfld⟩ := DataW.trod_struct Try.underlying32 ht
  match cs, hlen, xs, hxl with
  | [z0, z1, z2, z3, z4, z5], _, [y0, y1, y2, y3, y4, y5], _ =>
    have f0 : DataW.trod enc Try.prog w 0 (fun _ => true) true m 3 (([z0, z1, z2, z3, z4, z5].drop 0).take (Try.prog.cellsOf 3)) = some y0 := hfld 0 _ rfl
    rw [cells_int5] at f0
    have f1 : DataW.trod enc Try.prog w 0 (fun _ => true) true m 9 (([z0, z1, z2, z3, z4, z5].drop 1).take (Try.prog.cellsOf 9)) = some y1 := hfld 1 _ rfl
    rw [cells_string5] at f1
    have f2 : DataW.trod enc Try.prog w 0 (fun _ => true) true m 9 (([z0, z1, z2, z3, z4, z5].drop 2).take (Try.prog.cellsOf 9)) = some y2 := hfld 2 _ rfl
    rw [cells_string5] at f2
    have f3 : DataW.trod enc Try.prog w 0 (fun _ => true) true m 3 (([z0, z1, z2, z3, z4, z5].drop 3).take (Try.prog.cellsOf 3)) = some y3 := hfld 3 _ rfl
    rw [cells_int5] at f3
    have f4 : DataW.trod enc Try.prog w 0 (fun _ => true) true m 29 (([z0, z1, z2, z3, z4, z5].drop 4).take (Try.prog.cellsOf 29)) = some y4 := hfld 4 _ rfl
    rw [cells_sl] at f4
    have f5 : DataW.trod enc Try.prog w 0 (fun _ => true) true m 30 (([z0, z1, z2, z3, z4, z5].drop 5).take (Try.prog.cellsOf 30)) = some y5 := hfld 5 _ rfl
    rw [cells_uint5] at f5
    obtain ⟨x0, q0, e0, wf0⟩ := DataW.trod_int (cs := [z0]) Try.underlying3 f0
    obtain ⟨x1, q1, e1, wf1⟩ := DataW.trod_string (cs := [z1]) Try.underlying9 f1
    obtain ⟨x2, q2, e2, wf2⟩ := DataW.trod_string (cs := [z2]) Try.underlying9 f2
    obtain ⟨x3, q3, e3, wf3⟩ := DataW.trod_int (cs := [z3]) Try.underlying3 f3
    obtain ⟨A, n4, c4, bs, q4, hs, hsw⟩ := sl_of_cells (cs := [z4]) f4
    obtain ⟨x5, q5, e5, wf5⟩ := DataW.trod_int (cs := [z5]) Try.underlying30 f5
    simp only [List.cons.injEq, and_true] at q0 q1 q2 q3 q4 q5
    have b5 := bounds_u64 wf5
    obtain ⟨u, rfl⟩ := Int.eq_ofNat_of_zero_le b5.1
    have hxd : x.1 = .agg [y0.1, y1.1, y2.1, y3.1, y4.1, y5.1] := by rw [hx]; rfl
    refine ⟨⟨x0, x1.data.toList, x2.data.toList, x3, bs, u⟩, fun hw => ?_, .slice A n4 c4, hs, fun j v hv => ?_⟩
    · have hw' : ∀ n ∈ DataW.weightsEach Try.prog [3, 9, 9, 3, 29, 30] [y0.1, y1.1, y2.1, y3.1, y4.1, y5.1], n ≤ reachBytes := by
        intro n hn
        refine hw n ?_
        rw [hxd]
        simpa [DataW.weights, Try.underlying32] using hn
      have w1 := fun n hn => hw' n (DataW.weights_mem_each (j := 1) (t := 9) (d := y1.1) rfl rfl n hn)
      have w2 := fun n hn => hw' n (DataW.weights_mem_each (j := 2) (t := 9) (d := y2.1) rfl rfl n hn)
      have w4 := fun n hn => hw' n (DataW.weights_mem_each (j := 4) (t := 29) (d := y4.1) rfl rfl n hn)
      have l1 := w1 x1.data.toList.length (by rw [e1]; simp [DataW.weights])
      have l2 := w2 x2.data.toList.length (by rw [e2]; simp [DataW.weights])
      simp only [reachBytes] at l1 l2
      exact ⟨bounds_i64 wf0, by show x1.data.toList.length ≤ _; omega, by show x2.data.toList.length ≤ _; omega, bounds_i64 wf3, hsw w4, by have := b5.2; show u < 18446744073709551616; omega, wf3⟩
    · have hj : j < 6 := (List.getElem?_eq_some_iff.1 hv).1
      rw [← Go.Deep.add_add, hat j hj]
      rw [q0, q1, q2, q3, q4, q5]
      exact hv

instance : Inhabited Cl := ⟨⟨0, [], [], 0, [], 0⟩⟩

theorem calls_of_trod {H : Type} {enc : TypeId × Value → H} {w : World} {v : Value} {d : DataW H} {ps : List MemPlace} (hv : ∃ A n c, v = .slice A n c)
    (h : DataW.Trod enc Try.prog w 0 (fun _ => true) true 22 v d ps) (hw : ∀ n ∈ d.weights Try.prog 22, n ≤ reachBytes) :
    ∃ l, Clls w w.heap.size v l := by
  obtain ⟨A0, n0, c0, rfl⟩ := hv
  obtain ⟨fuel, hf⟩ := h
  rcases open_slice Try.underlying22 hf with ⟨hcs, _⟩ | ⟨a, len, cap, m, n, D, Pl, hcs, _, hl, hm, hmm, hx, hi⟩
  · simp [Value.cells] at hcs
    obtain ⟨rfl, rfl, rfl⟩ := hcs
    exact ⟨[], ⟨none, 0, rfl, by simp, by simp, fun h => by simp at h⟩⟩
  · simp [Value.cells] at hcs
    obtain ⟨rfl, rfl, rfl⟩ := hcs
    have hone : ∀ i, i < n0 → ∃ p : Cl, CallAt w a i (D i) p := by
      intro i hin
      obtain ⟨cs', hcc, htt⟩ := hi i (by rw [hmm]; simp; omega)
      rw [cells_call] at hcc
      exact call_of hcc htt
    obtain ⟨f, hf⟩ := choose_lt hone
    have hget : ∀ i p, ((List.range n0).map f)[i]? = some p → i < n0 ∧ p = f i := by
      intro i p hip
      obtain ⟨hlt, rfl⟩ := List.getElem?_eq_some_iff.1 hip
      simp at hlt
      exact ⟨hlt, by simp⟩
    refine ⟨(List.range n0).map f, ⟨some a, c0, by simp, by simp; omega, ?_, fun hp => ?_⟩⟩
    · intro p hp
      obtain ⟨i, hi2, rfl⟩ := List.mem_map.1 hp
      have hlt := List.mem_range.1 hi2
      refine (hf i hlt).1 fun n hn => hw n ?_
      have hd : d = .slice ((List.range n0).map D) ((List.range (m - n0)).map fun j => D (n0 + j)) := by
        simp only [Prod.mk.injEq] at hx
        exact hx.1
      rw [hd]
      simp only [DataW.weights, Try.underlying22]
      exact List.mem_cons_of_mem _ (List.mem_append_left _ (weightsAll_mem (d := D i) (List.mem_map.2 ⟨i, hi2, rfl⟩) hn))
    · have hp0 : 0 < n0 := by simpa using hp
      obtain ⟨b, off, spot⟩ := a
      obtain ⟨u0, _, hc0⟩ := (hf 0 hp0).2
      have hc := hc0 0 _ rfl
      have hspot : spot = none := by simpa [Addr.add] using World.cell?_spot hc
      subst hspot
      refine ⟨b, off, rfl, ?_, ?_⟩
      · have := World.block_lt_of_cell? w _ hc
        rwa [block_of_add] at this
      · intro i p hip
        obtain ⟨hlt, rfl⟩ := hget i p hip
        obtain ⟨u, h1, h2⟩ := (hf i hlt).2
        refine ⟨u, h1, fun j x hj => ?_⟩
        have := h2 j x hj
        rwa [Addr.add_lit, ← Nat.add_assoc] at this

end Go.Proofs.Ytbepanhndpkdhaa.Cd

namespace Go.Proofs.Ytbepanhndpkdhaa.Cd
open Go.RowKit

def one3 (p : Cl) : Nat := p.b.length + p.a.length + p.z.length
/-- How many bytes the calls have. -/
def totalC : List Cl → Nat
  | [] => 0
  | p :: r => one3 p + totalC r
theorem totalC_append (a b : List Cl) : totalC (a ++ b) = totalC a + totalC b := by
  induction a with
  | nil => simp [totalC]
  | cons p r ih => simp [totalC, ih]; omega
theorem totalC_snoc (l : List Cl) (k : Nat) (p : Cl) (h : l[k]? = some p) : totalC (l.take (k + 1)) = totalC (l.take k) + one3 p := by
  obtain ⟨hk, rfl⟩ := List.getElem?_eq_some_iff.1 h
  rw [List.take_succ_eq_append_getElem hk, totalC_append]
  simp [totalC]
theorem totalC_le (l : List Cl) (k : Nat) : totalC (l.take k) ≤ totalC l := by
  have h := totalC_append (l.take k) (l.drop k)
  rw [List.take_append_drop] at h
  omega
def bigC (ps : List Cl) : Bool := decide (32768 < totalC ps) || decide (80 < ps.length)
theorem totalC_mem {l : List Cl} {p : Cl} (h : p ∈ l) : one3 p ≤ totalC l := by
  induction l with
  | nil => cases h
  | cons q r ih =>
    rcases List.mem_cons.1 h with rfl | h
    · simp [totalC]
    · have := ih h
      simp only [totalC]
      omega

set_option maxRecDepth 100000 in
set_option maxHeartbeats 800000 in
theorem great5_any (v : Value) (ps : List Cl) (w : World) (h : Clls w w.heap.size v ps) :
    Calls Try.prog 11 #[v] w fun e w' => e = .returned (.bool (bigC ps)) ∧ Below w.heap.size w w' := by
  obtain ⟨A, c, rfl, hm, hok, hp⟩ := h
  have HP := Lib.hid hp
  have HO := Lib.hid hok
  clear hp hok
  have hm2 : ps.length ≤ 9223372036854775807 := by unfold maxLen at hm; omega
  clear hm
  go_enter Try.func11, Try.ntmps11
  go_wp2
  go_loopw [3, 8] (fun n i wr => ∃ (k : Nat), i = .int .i64 k ∧ k ≤ ps.length ∧ n = .int .i64 (totalC (ps.take k) : Nat) ∧ totalC (ps.take k) ≤ 32768 ∧ Below w.heap.size w wr) (fun _ i _ => ps.length - (intOf i).toNat)
  case atStart => exact ⟨0, rfl, by omega, rfl, by simp [totalC], Below.refl _ _⟩
  case round =>
    obtain ⟨k, rfl, hk, rfl, ht, hb⟩ := hrel
    by_cases hlt : k < ps.length
    · obtain ⟨b, off, rfl, hB, hc⟩ := HP.out (by omega)
      obtain ⟨p, hpk⟩ : ∃ p, ps[k]? = some p := ⟨ps[k], List.getElem?_eq_getElem hlt⟩
      obtain ⟨u, hsl, hcu⟩ := hc k p hpk
      obtain ⟨Au, cu, rfl, hcu1, hcu2, _⟩ := hsl
      have hcell : ∀ j x, (p.cells (.slice Au p.b.length cu))[j]? = some x → wr.cell? ⟨b, off + k * 6 + j, none⟩ = some x := fun j x hx => (hb.cell (p := ⟨b, off + k * 6 + j, none⟩) hB).trans (hcu j x hx)
      have c0 : wr.cell? ⟨b, off + k * 6, none⟩ = some (.int .i64 p.kind) := hcell 0 _ rfl
      have c1 := hcell 1 _ rfl
      have c2 := hcell 2 _ rfl
      have c3 := hcell 3 _ rfl
      have c4 := hcell 4 _ rfl
      have c5 := hcell 5 _ rfl
      clear hc hcell hcu
      have ok := HO.out p (List.mem_of_getElem? hpk)
      have hsa := ok.a
      have hsz := ok.z
      have hsb := ok.b
      clear ok
      have hsn := totalC_snoc ps k p hpk
      unfold one3 at hsn
      have htl := totalC_le ps (k + 1)
      have HSN := Lib.hid hsn
      by_cases hov : 32768 < totalC (ps.take k) + (p.b.length + p.a.length + p.z.length)
      · have hbig : Hid (bigC ps = true) := by unfold Hid bigC; rw [decide_eq_true (by omega : 32768 < totalC ps)]; rfl
        clear hsn htl
        go_wp2
        go_ret
        exact ⟨by rw [hbig.out]; rfl, hb.alloc hb.size _⟩
      · clear hsn htl
        go_wp2
        go_roundw
        case rel => exact ⟨k + 1, by go_num, by omega, by rw [HSN.out]; go_num, by rw [HSN.out]; omega, hb.alloc hb.size _⟩
        case measure => simp [intOf]; omega
    · have hkl : k = ps.length := by omega
      have htk : Hid (totalC (ps.take k) = totalC ps) := by unfold Hid; rw [hkl, List.take_of_length_le (Nat.le_refl _)]
      have hbig : Hid (bigC ps = decide (80 < ps.length)) := by
        have := htk.out
        unfold Hid bigC
        rw [decide_eq_false (by omega : ¬ 32768 < totalC ps)]
        simp
      clear hkl htk
      go_wp2
      go_ret
      refine ⟨?_, hb⟩
      rw [hbig.out]
      show Ending.returned (Value.bool (decide ((80 : Int) < (ps.length : Int)))) = _
      congr 2
      rw [decide_eq_decide]
      omega

end Go.Proofs.Ytbepanhndpkdhaa.Cd
