/-
  append of noughts: append(own, make([]byte, n)...). Conditions: none.
-/
import Derived.Test.YtcliknmcefcaeaaStrs
namespace Go.Proofs.Ytcliknmcefcaeaa.Cd
open Go.RowKit

theorem zero_cells (n : Nat) : Builtin.zeroCells (Value.int .u8 0).cells n = (vb (List.replicate n 0)).toArray := by
  apply Array.ext'
  simp [Builtin.zeroCells, Value.cells, vb, List.map_replicate, Nat.mod_one, List.map_const']

theorem vb_zeros (n : Nat) : (vb (List.replicate n 0)).length = n := by rw [vb_length, List.length_replicate]

set_option maxRecDepth 100000 in
/-- The room is enough: the noughts are stored. -/
theorem run_zeros_room (w : World) (ty : TypeId) (i : TypeInfo) (hi : Try.prog.info? 5 = some i) (hz0 : i.zero = some (.int .u8 0)) (hz1 : i.size = 1) (hz2 : i.bytes = 1)
    (g sLen sCap n : Nat) (cur : Array Value) (hg : w.heap[g]? = some (.cells cur 5 (0, 0))) (hroom : sLen + n ≤ sCap) (hcs : cur.size = sCap) (hn : n ≠ 0) (hm : n ≤ 140737488355328) :
    (Builtin.append_ #[34, 3] ty #[.slice (some ⟨g, 0, none⟩) sLen sCap, .int .i64 n]).run Try.prog w =
      .ok (.slice (some ⟨g, 0, none⟩) (sLen + n) sCap) (w.setRow g (cur.toList.take sLen ++ vb (List.replicate n 0) ++ cur.toList.drop (sLen + n)).toArray) := by
  have hst := run_storeCells_at Try.prog g sLen 5 (vb (List.replicate n 0)) 0 cur w hg (by rw [vb_zeros]; omega) (vb_one _)
  simp only [Nat.add_zero, vb_zeros] at hst
  have h1 : ¬ ((281474976710656 : Int) < n) := by omega
  have hzc := zero_cells n
  have hw : IntKind.i64.wrap (n : Int) = n := by rw [IntKind.wrap_i64]; omega
  have hneg : ¬ ((n : Int) < 0) := by omega
  have hai : (asInt (.int .i64 (n : Int))).run Try.prog w = .ok (n : Int) w := by simp [asInt, asIntOf]
  simp [Builtin.append_, run_underlying Try.underlying34, run_underlying Try.underlying3, sizeOf, typeInfo, zeroValue, hi, hz0, hz1, hz2, Builtin.lenOf, hroom, h1, hn, hw, hai, hneg, hst, hzc, Addr.add_lit]

set_option maxRecDepth 100000 in
/-- It isn't: a new row. -/
theorem run_zeros_grow (w : World) (ty : TypeId) (i : TypeInfo) (hi : Try.prog.info? 5 = some i) (hz0 : i.zero = some (.int .u8 0)) (hz1 : i.size = 1) (hz2 : i.bytes = 1)
    (b : Addr) (sLen sCap n : Nat) (olds : List Value) (hlo : olds.length = sLen) (holds : ∀ j v, olds[j]? = some v → w.cell? (b.add j) = some v) (hn : n ≠ 0) (hg : sCap < sLen + n) (hm : sLen + n ≤ 140737488355328) :
    (Builtin.append_ #[34, 3] ty #[.slice (some b) sLen sCap, .int .i64 n]).run Try.prog w =
      .ok (.slice (some ⟨w.heap.size, 0, none⟩) (sLen + n) (grownCap w (sLen + n) sCap 5))
        (w.drew.alloc (.cells (olds.toArray ++ (vb (List.replicate n 0)).toArray ++ Builtin.zeroCells (Value.int .u8 0).cells (grownCap w (sLen + n) sCap 5 - (sLen + n))) 5)) := by
  have hroom : ¬ (sLen + n ≤ sCap) := by omega
  have h1 : ¬ ((281474976710656 : Int) < n) := by omega
  have h63' : ¬ (9223372036854775807 < ((sLen : Int) + (n : Int))) := by omega
  have h48 := growslice_fits (bytes := 1) hg (by omega)
  rw [Nat.mul_one] at h48
  have h48' : ¬ (281474976710656 < Builtin.nextslicecap (sLen + n) sCap) := by omega
  have hzc := zero_cells n
  have hw : IntKind.i64.wrap (n : Int) = n := by rw [IntKind.wrap_i64]; omega
  have hneg : ¬ ((n : Int) < 0) := by omega
  have hai : (asInt (.int .i64 (n : Int))).run Try.prog w = .ok (n : Int) w := by simp [asInt, asIntOf]
  have hfo := run_firstCells_some (P := Try.prog) w.drew 1 sLen b sLen sCap olds (by omega) (by simpa using holds)
  simp [Builtin.append_, run_underlying Try.underlying34, run_underlying Try.underlying3, sizeOf, typeInfo, zeroValue, hi, hz0, hz1, hz2, Builtin.lenOf, hroom, h1, hn, hw, hai, hneg, h63', h48', Question.forced, hfo, hzc, newRow, grownCap]
  congr 2
  apply Array.ext'
  simp [List.append_assoc]

set_option maxRecDepth 100000 in
/-- Nothing was there: a new row. -/
theorem run_zeros_nil (w : World) (ty : TypeId) (i : TypeInfo) (hi : Try.prog.info? 5 = some i) (hz0 : i.zero = some (.int .u8 0)) (hz1 : i.size = 1) (hz2 : i.bytes = 1) (n : Nat) (hn : n ≠ 0) (hm : n ≤ 140737488355328) :
    (Builtin.append_ #[34, 3] ty #[.slice none 0 0, .int .i64 n]).run Try.prog w =
      .ok (.slice (some ⟨w.heap.size, 0, none⟩) n (grownCap w n 0 5))
        (w.drew.alloc (.cells ((vb (List.replicate n 0)).toArray ++ Builtin.zeroCells (Value.int .u8 0).cells (grownCap w n 0 5 - n)) 5)) := by
  have h1 : ¬ ((281474976710656 : Int) < n) := by omega
  have h63' : ¬ (9223372036854775807 < (n : Int)) := by omega
  have h48' : ¬ (281474976710656 < Builtin.nextslicecap n 0) := by rw [nextslicecap_zero (by omega)]; omega
  have hzc := zero_cells n
  have hw : IntKind.i64.wrap (n : Int) = n := by rw [IntKind.wrap_i64]; omega
  have hneg : ¬ ((n : Int) < 0) := by omega
  have hai : (asInt (.int .i64 (n : Int))).run Try.prog w = .ok (n : Int) w := by simp [asInt, asIntOf]
  simp [Builtin.append_, run_underlying Try.underlying34, run_underlying Try.underlying3, sizeOf, typeInfo, zeroValue, hi, hz0, hz1, hz2, Builtin.lenOf, h1, hn, hw, hai, hneg, h63', h48', Question.forced, run_firstCells_none, hzc, newRow, grownCap]

/-- append(own, make([]byte, n)...), n above nought. -/
theorem run_append_zeros (w : World) (B : Nat) (v : Value) (bs : List UInt8) (ho : Own w B v bs) (hB : B ≤ w.heap.size) (n : Nat) (hn : n ≠ 0) (hm : bs.length + n ≤ 140737488355328) (ty : TypeId) :
    ∃ v' w', (Builtin.append_ #[34, 3] ty #[v, .int .i64 n]).run Try.prog w = .ok v' w' ∧ Own w' B v' (bs ++ List.replicate n 0) ∧ Below B w w' := by
  obtain ⟨i0, hi, hz0, hz1, hz2⟩ := info_parts info5
  have hlen : (bs ++ List.replicate n 0).length = bs.length + n := by rw [List.length_append, List.length_replicate]
  have hlv : (vb (bs ++ List.replicate n 0)).length = bs.length + n := by rw [vb_length, hlen]
  rcases ho.2 with ⟨rfl, h0⟩ | ⟨g, cap, cur, rfl, hbg, hg, hnc, hcm, hcs, htake⟩
  · have hbs : bs = [] := List.eq_nil_of_length_eq_zero h0
    subst hbs
    have hr := run_zeros_nil w ty i0 hi hz0 hz1 hz2 n hn (by simpa using hm)
    have hge := grownCap_ge w n 0 5
    have hcm2 : grownCap w n 0 5 ≤ maxLen := grownCap_le_maxLen w n 0 5 (by simp only [maxLen]; simp at hm; omega)
    refine ⟨_, _, hr, ?_, ⟨rfl, rfl, rfl, by simp, fun k hk => heap_alloc_old w.drew _ (Nat.lt_of_lt_of_le hk hB)⟩⟩
    unfold Own
    rw [List.nil_append, List.length_replicate]
    refine ⟨by rw [vb_zeros]; simp, .inr ⟨w.heap.size, _, _, rfl, hB, heap_alloc_new w.drew _, hge, hcm2, ?_, ?_⟩⟩
    · simp only [Array.size_append, List.size_toArray, size_zeroCells, vb_length, List.length_replicate]
      simp [Value.cells]
      omega
    · simp only [Array.toList_append, Nat.mul_one]
      have := vb_zeros n
      exact List.take_left' this
  · have hcs : cur.size = cap := by simpa using hcs
    have htake : cur.toList.take bs.length = vb bs := by simpa using htake
    have hgl := (ho.lt g rfl).2
    by_cases hroom : bs.length + n ≤ cap
    · have hr := run_zeros_room w ty i0 hi hz0 hz1 hz2 g bs.length cap n cur hg hroom hcs hn (by omega)
      refine ⟨_, _, hr, ?_, (Below.refl _ _).grown (row := some g) ⟨rfl, rfl, rfl, by simp, fun k _ hk => setRow_other w g k _ (fun e => hk (by rw [e]))⟩ hB (fun k hk => by injection hk with hk; omega)⟩
      unfold Own
      rw [hlen]
      refine ⟨by rw [hlv]; simp, .inr ⟨g, cap, _, rfl, hbg, setRow_heap w g cur _ 5 _ hg, hroom, hcm, ?_, ?_⟩⟩
      · simp only [List.size_toArray, List.length_append, List.length_take, List.length_drop, Array.length_toList, vb_zeros]
        omega
      · rw [htake, Nat.mul_one]
        rw [← vb_append]
        rw [← hlv]
        exact List.take_left
    · have holds : ∀ j u, (vb bs)[j]? = some u → w.cell? ((⟨g, 0, none⟩ : Addr).add j) = some u := World.ownsRow.cells ho (g := g) rfl
      have hr := run_zeros_grow w ty i0 hi hz0 hz1 hz2 ⟨g, 0, none⟩ bs.length cap n (vb bs) (vb_length bs) holds hn (by omega) hm
      have hge := grownCap_ge w (bs.length + n) cap 5
      have hcm2 : grownCap w (bs.length + n) cap 5 ≤ maxLen := grownCap_le_maxLen w (bs.length + n) cap 5 (by simp only [maxLen]; omega)
      refine ⟨_, _, hr, ?_, ⟨rfl, rfl, rfl, by simp, fun k hk => heap_alloc_old w.drew _ (Nat.lt_of_lt_of_le hk hB)⟩⟩
      unfold Own
      rw [hlen]
      refine ⟨by rw [hlv]; simp, .inr ⟨w.heap.size, _, _, rfl, hB, heap_alloc_new w.drew _, hge, hcm2, ?_, ?_⟩⟩
      · simp only [Array.size_append, List.size_toArray, size_zeroCells, vb_length, List.length_replicate]
        simp [Value.cells]
        omega
      · simp only [Array.toList_append, Nat.mul_one]
        rw [← vb_append, ← hlv]
        exact List.take_left

/-- append of noughts, for the walk. -/
theorem wp_append_zeros {w : World} {ops : Array Oper} {rest : List Oper} {o : Oper} {a : Act} {Q : Exit → Act → World → Prop} (hgd : o.guard = none) (s x : Operand)
    (hop : o.op = .call { callee := .builtin .append, args := #[s, x], argTypes := #[34, 3] })
    (B : Nat) (v : Value) (bs : List UInt8) (hs : a.eval s = v) (ho : Own w B v bs) (hB : B ≤ w.heap.size) (n : Nat) (q : Int) (hq : q = n) (hx : a.eval x = .int .i64 q) (hn : n ≠ 0)
    (hm : bs.length + n ≤ 140737488355328)
    (hK : ∀ v' w', Own w' B v' (bs ++ List.replicate n 0) → Below B w w' → wpList Try.prog ops Q rest (a.put o.dst v') w') : wpList Try.prog ops Q (o :: rest) a w := by
  subst hq
  refine wpList_plain hgd fun K hK' => ?_
  obtain ⟨v', w', hrun, r1, r2⟩ := run_append_zeros w B v bs ho hB n hn hm o.type
  unfold Oper.wp
  simp [execOp, hop, resolve, invoke, builtin, hs, hx, hrun, Result.andThen]
  exact hK' _ _ (hK v' w' r1 r2)

end Go.Proofs.Ytcliknmcefcaeaa.Cd
