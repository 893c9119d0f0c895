/-
  A node as an argument: how it reads, and how large it can be. Conditions: none.
-/
import Derived.Test.YtjilkpgbojjnfaaNode
import Derived.Lib.SmallJoins
import Derived.SizedLaws
namespace Go.Proofs.Ytjilkpgbojjnfaa.Cd
open Go.RowKit Go.ChangeShapes Go.WideShapes Go.Deep Go.Joins

theorem slice_of_strs {H : Type} {enc : TypeId × Value → H} {w : World} {n : Nat} {v : Value} {x : DataW H × List MemPlace} (h : DataW.trod enc Try.prog w 0 (fun _ => true) true n 22 [v] = some x) : ∃ A k c, v = .slice A k c := by
  rcases open_strs Try.underlying22 Try.underlying9 cells_str h with ⟨hcs, _⟩ | ⟨a, len, cap, _, _, hcs, _⟩
  · exact ⟨none, 0, 0, (List.cons.inj hcs).1⟩
  · exact ⟨some a, len, cap, (List.cons.inj hcs).1⟩
theorem bytes_int : Try.prog.bytesOf 3 = 8 := by kernel_rfl
theorem slice_of_ints {H : Type} {enc : TypeId × Value → H} {w : World} {n : Nat} {v : Value} {x : DataW H × List MemPlace} (h : DataW.trod enc Try.prog w 0 (fun _ => true) true n 23 [v] = some x) (hw : ∀ n ∈ x.1.weights Try.prog 23, n ≤ reachBytes) :
    (∃ A k c, v = .slice A k c) ∧ ∀ A k c, v = .slice A k c → k ≤ 17592186044416 := by
  rcases open_ints Try.underlying23 Try.underlying3 cells_int h with ⟨hcs, _⟩ | ⟨a, len, cap, zs, hcs, _, hl, hm, hz, hx, _⟩
  · have e := (List.cons.inj hcs).1
    refine ⟨⟨none, 0, 0, e⟩, fun A k c e' => ?_⟩
    rw [e] at e'
    injection e' with _ e2
    omega
  · have e := (List.cons.inj hcs).1
    refine ⟨⟨some a, len, cap, e⟩, fun A k c e' => ?_⟩
    rw [e] at e'
    injection e' with _ e2
    have h2 := hw ((lits .i64 (zs.take len)).length * 8 + (lits .i64 (zs.drop len)).length * 8) (by
      rw [hx]
      simp only [DataW.weights, Try.underlying23, bytes_int, Nat.add_mul]
      exact List.mem_cons_self)
    have hz2 : zs.length = cap := by rw [hz]; simp
    simp only [lits, List.length_map, List.length_take, List.length_drop, reachBytes] at h2
    omega

theorem node_of_trod {H : Type} {enc : TypeId × Value → H} {w : World} {r : Reach} {b0 : Nat} {v : Value} {d : DataW H} {ps : List MemPlace} (hv : Value.okWide Try.prog w r b0 25 v)
    (h : DataW.Trod enc Try.prog w 0 (fun _ => true) true 25 v d ps) (hw : ∀ n ∈ d.weights Try.prog 25, n ≤ reachBytes) :
    ∃ n : Nd, Node w w.heap.size v n ∧ Fits n := by
  obtain ⟨v0, v1, v2, v3, y0, y1, y2, y3, m, rfl, rfl, rfl, h0, h1, h2, h3⟩ := open_agg4 Try.underlying25 (by kernel_rfl) (by kernel_rfl) hv h
  have hw' : ∀ n ∈ DataW.weightsEach Try.prog [4, 22, 22, 23] [y0.1, y1.1, y2.1, y3.1], n ≤ reachBytes := by
    intro n hn
    refine hw n ?_
    simpa [DataW.weights, Try.underlying25] using hn
  have w1 := fun n hn => hw' n (DataW.weights_mem_each (j := 1) (t := 22) (d := y1.1) rfl rfl n hn)
  have w2 := fun n hn => hw' n (DataW.weights_mem_each (j := 2) (t := 22) (d := y2.1) rfl rfl n hn)
  have w3 := fun n hn => hw' n (DataW.weights_mem_each (j := 3) (t := 23) (d := y3.1) rfl rfl n hn)
  obtain ⟨b, e0, _⟩ := DataW.trod_bool Try.underlying4 h0
  obtain rfl := (List.cons.inj e0).1
  have s1 := slice_of_strs h1
  have s2 := slice_of_strs h2
  obtain ⟨s3, b3⟩ := slice_of_ints h3 w3
  have t1 : DataW.Trod enc Try.prog w 0 (fun _ => true) true 22 v1 y1.1 y1.2 := by
    obtain ⟨A, k, c, rfl⟩ := s1
    exact ⟨m, by simpa [Value.cells] using h1⟩
  have t2 : DataW.Trod enc Try.prog w 0 (fun _ => true) true 22 v2 y2.1 y2.2 := by
    obtain ⟨A, k, c, rfl⟩ := s2
    exact ⟨m, by simpa [Value.cells] using h2⟩
  have t3 : DataW.Trod enc Try.prog w 0 (fun _ => true) true 23 v3 y3.1 y3.2 := by
    obtain ⟨A, k, c, rfl⟩ := s3
    exact ⟨m, by simpa [Value.cells] using h3⟩
  obtain ⟨ks, k1, k2⟩ := strs_of_trod s1 t1 w1
  obtain ⟨vs, l1, l2⟩ := strs_of_trod s2 t2 w2
  obtain ⟨is, m1, m2⟩ := ints_of_trod s3 t3 w3
  refine ⟨⟨b, ks, vs, is⟩, ⟨v1, v2, v3, rfl, k1, l1, m1⟩, k2, l2, fun p hp => bounds_i64 (m2 p hp), ?_⟩
  obtain ⟨A, c, e, _⟩ := m1
  exact b3 _ _ _ e

end Go.Proofs.Ytjilkpgbojjnfaa.Cd
