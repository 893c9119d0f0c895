/-
  sha.Of answers thirty-two bytes, of any pieces. Conditions: none.
-/
import Derived.Test.YthbahbcihaebeaaDoorG7
import Derived.Deep.Slices
import Derived.Test.YthbahbcihaebeaaDoorG1
import Derived.Test.YthbahbcihaebeaaDoorG6
/-
  A digest on its way: its cells; what take makes of a block. Conditions: none.
-/
namespace Go.Proofs.YthbahbcihaebeaaDoor.Cd
open Go.RowKit

/-- A digest's cells: its state, its block, how many bytes of it are used, how many there were. -/
def dgC (st : List Int) (blk : List UInt8) (u z : Int) : List Value := vw st ++ (vb blk ++ [.int .i64 u, .int .u64 z])
def DgAt (w : World) (g : Nat) (st : List Int) (blk : List UInt8) (u z : Int) : Prop := st.length = 8 ∧ blk.length = 64 ∧ w.heap[g]? = some (.cells (dgC st blk u z).toArray 108)
theorem dgC_length {st : List Int} {blk : List UInt8} (h1 : st.length = 8) (h2 : blk.length = 64) (u z : Int) : (dgC st blk u z).length = 74 := by simp [dgC, vw_length, vb_length, h1, h2]
theorem dgC_block {st : List Int} {blk : List UInt8} (h1 : st.length = 8) (u z : Int) (j : Nat) (hj : j < blk.length) : (dgC st blk u z)[8 + j]? = some (.int .u8 (blk[j]).toNat) := by
  unfold dgC
  rw [List.getElem?_append_right (by rw [vw_length]; omega), vw_length, h1, show 8 + j - 8 = j by omega, List.getElem?_append_left (by rw [vb_length]; exact hj)]
  exact vb_at blk j hj
theorem DgAt.used {w : World} {g : Nat} {st : List Int} {blk : List UInt8} {u z : Int} (h : DgAt w g st blk u z) : w.cell? ⟨g, 72, none⟩ = some (.int .i64 u) := by
  obtain ⟨h1, h2, h3⟩ := h
  rw [cell_of_row _ _ _ _ _ _ h3, List.getElem?_toArray]
  unfold dgC
  rw [List.getElem?_append_right (by rw [vw_length]; omega), List.getElem?_append_right (by rw [vw_length, vb_length]; omega), vw_length, vb_length, h1, h2]
  rfl
theorem DgAt.size {w : World} {g : Nat} {st : List Int} {blk : List UInt8} {u z : Int} (h : DgAt w g st blk u z) : w.cell? ⟨g, 73, none⟩ = some (.int .u64 z) := by
  obtain ⟨h1, h2, h3⟩ := h
  rw [cell_of_row _ _ _ _ _ _ h3, List.getElem?_toArray]
  unfold dgC
  rw [List.getElem?_append_right (by rw [vw_length]; omega), List.getElem?_append_right (by rw [vw_length, vb_length]; omega), vw_length, vb_length, h1, h2]
  rfl
theorem DgAt.frozen {w : World} {g : Nat} {st : List Int} {blk : List UInt8} {u z : Int} (h : DgAt w g st blk u z) (j : Nat) : w.frozen? ⟨g, j, none⟩ = false := frozen_of_row _ _ _ _ _ h.2.2
theorem DgAt.stRange {w : World} {g : Nat} {st : List Int} {blk : List UInt8} {u z : Int} (h : DgAt w g st blk u z) : w.rangeAt g 0 (vw st) := fun j v hv => by
  have hj := (List.getElem?_eq_some_iff.1 hv).1
  rw [Nat.zero_add, cell_of_row _ _ _ _ _ _ h.2.2, List.getElem?_toArray]
  unfold dgC
  rw [List.getElem?_append_left hj]
  exact hv
theorem DgAt.blkRange {w : World} {g : Nat} {st : List Int} {blk : List UInt8} {u z : Int} (h : DgAt w g st blk u z) : w.rangeAt g 8 (vb blk) := fun j v hv => by
  have hj := (List.getElem?_eq_some_iff.1 hv).1
  rw [vb_length] at hj
  rw [cell_of_row _ _ _ _ _ _ h.2.2, List.getElem?_toArray, dgC_block h.1 u z j hj, ← vb_at blk j hj]
  exact hv
theorem DgAt.heap {w w' : World} {g : Nat} {st : List Int} {blk : List UInt8} {u z : Int} (h : DgAt w g st blk u z) (e : w'.heap[g]? = w.heap[g]?) : DgAt w' g st blk u z := ⟨h.1, h.2.1, e.trans h.2.2⟩
theorem DgAt.setUsed {w : World} {g : Nat} {st : List Int} {blk : List UInt8} {u z : Int} (h : DgAt w g st blk u z) (x : Int) : DgAt (w.setCell ⟨g, 72, none⟩ (.int .i64 x)) g st blk x z := by
  obtain ⟨h1, h2, h3⟩ := h
  refine ⟨h1, h2, ?_⟩
  rw [heap_setCell_same _ _ _ _ _ _ h3, List.setIfInBounds_toArray]
  congr 3
  unfold dgC
  rw [List.set_append_right _ _ (by rw [vw_length]; omega), List.set_append_right _ _ (by rw [vw_length, vb_length]; omega), vw_length, vb_length, h1, h2]
  rfl
theorem DgAt.setSize {w : World} {g : Nat} {st : List Int} {blk : List UInt8} {u z : Int} (h : DgAt w g st blk u z) (x : Int) : DgAt (w.setCell ⟨g, 73, none⟩ (.int .u64 x)) g st blk u x := by
  obtain ⟨h1, h2, h3⟩ := h
  refine ⟨h1, h2, ?_⟩
  rw [heap_setCell_same _ _ _ _ _ _ h3, List.setIfInBounds_toArray]
  congr 3
  unfold dgC
  rw [List.set_append_right _ _ (by rw [vw_length]; omega), List.set_append_right _ _ (by rw [vw_length, vb_length]; omega), vw_length, vb_length, h1, h2]
  rfl
theorem DgAt.setByte {w : World} {g : Nat} {st : List Int} {blk : List UInt8} {u z : Int} (h : DgAt w g st blk u z) (j : Nat) (hj : j < 64) (c : UInt8) : DgAt (w.setCell ⟨g, 8 + j, none⟩ (.int .u8 c.toNat)) g st (blk.set j c) u z := by
  obtain ⟨h1, h2, h3⟩ := h
  refine ⟨h1, by rw [List.length_set]; exact h2, ?_⟩
  rw [heap_setCell_same _ _ _ _ _ _ h3, List.setIfInBounds_toArray]
  congr 3
  unfold dgC
  rw [List.set_append_right _ _ (by rw [vw_length]; omega), vw_length, h1, show 8 + j - 8 = j by omega, List.set_append_left _ _ (by rw [vb_length]; omega)]
  congr 2
  simp [vb, List.map_set]
/-- Cells in the midst: the state, or some of the block. -/
theorem DgAt.setState {w : World} {g : Nat} {st : List Int} {blk : List UInt8} {u z : Int} (h : DgAt w g st blk u z) (s' : List Int) (hs : s'.length = 8) : DgAt (w.setCells g 0 (vw s')) g s' blk u z := by
  obtain ⟨h1, h2, h3⟩ := h
  refine ⟨hs, h2, ?_⟩
  rw [setCells_row g _ (vw s') w _ 0 h3]
  congr 3
  have := laid_mid [] (vw st) (vb blk ++ [.int .i64 u, .int .u64 z]) (vw s') (by rw [vw_length, vw_length, hs, h1])
  simpa [dgC] using this
theorem dgC_laid {st : List Int} {blk : List UInt8} (h1 : st.length = 8) (h2 : blk.length = 64) (u z : Int) (n : Nat) (bs : List UInt8) (hn : n + bs.length ≤ 64) :
    laid (dgC st blk u z) (8 + n) (vb bs) = dgC st (blk.take n ++ bs ++ blk.drop (n + bs.length)) u z := by
  have e : blk = blk.take n ++ (blk.drop n).take bs.length ++ blk.drop (n + bs.length) := by
    rw [← List.drop_drop, List.append_assoc, List.take_append_drop, List.take_append_drop]
  have h4 := laid_mid (vw st ++ vb (blk.take n)) (vb ((blk.drop n).take bs.length)) (vb (blk.drop (n + bs.length)) ++ [.int .i64 u, .int .u64 z]) (vb bs) (by rw [vb_length, vb_length, List.length_take, List.length_drop]; omega)
  have hl : (vw st ++ vb (blk.take n)).length = 8 + n := by rw [List.length_append, vw_length, vb_length, List.length_take, h1]; omega
  rw [hl] at h4
  have e2 : dgC st blk u z = vw st ++ vb (blk.take n) ++ vb ((blk.drop n).take bs.length) ++ (vb (blk.drop (n + bs.length)) ++ [.int .i64 u, .int .u64 z]) := by
    unfold dgC
    conv => lhs; rw [e]
    simp [vb_append]
  rw [e2, h4]
  unfold dgC
  simp [vb_append]
theorem DgAt.setBytes {w : World} {g : Nat} {st : List Int} {blk : List UInt8} {u z : Int} (h : DgAt w g st blk u z) (n : Nat) (bs : List UInt8) (hn : n + bs.length ≤ 64) :
    DgAt (w.setCells g (8 + n) (vb bs)) g st (blk.take n ++ bs ++ blk.drop (n + bs.length)) u z := by
  obtain ⟨h1, h2, h3⟩ := h
  refine ⟨h1, by simp [h2]; omega, ?_⟩
  rw [setCells_row g _ (vb bs) w _ (8 + n) h3, dgC_laid h1 h2 u z n bs hn]

theorem exec_load_st {w : World} {g : Nat} {st : List Int} {blk : List UInt8} {u z : Int} (h : DgAt w g st blk u z) {op : Oper} {a : Act} (x : Operand) (ho : op.op = .load 105 x) (hx : a.eval x = .pointer (some ⟨g, 0, none⟩)) :
    (execOp a.eval op).run Tryd.prog w = .ok (.value (.agg (vw st).toArray)) w := by
  have hl := run_loadAt_mid (P := Tryd.prog) w g 0 105 (vw st) _ h.stRange Tryd.underlying105 rfl (by rw [vw_length, h.1]; exact cells_w8)
  unfold execOp
  simp only [ho, hx, Sem.run_bind, hl, Result.andThen_ok, Sem.run_pure]
theorem exec_load_blk {w : World} {g : Nat} {st : List Int} {blk : List UInt8} {u z : Int} (h : DgAt w g st blk u z) {op : Oper} {a : Act} (x : Operand) (ho : op.op = .load 106 x) (hx : a.eval x = .pointer (some ⟨g, 8, none⟩)) :
    (execOp a.eval op).run Tryd.prog w = .ok (.value (.agg (vb blk).toArray)) w := by
  have hl := run_loadAt_mid (P := Tryd.prog) w g 8 106 (vb blk) _ h.blkRange Tryd.underlying106 rfl (by rw [vb_length, h.2.1]; exact cells_b64)
  unfold execOp
  simp only [ho, hx, Sem.run_bind, hl, Result.andThen_ok, Sem.run_pure]
theorem DgAt.there {w : World} {g : Nat} {st : List Int} {blk : List UInt8} {u z : Int} (h : DgAt w g st blk u z) (o n : Nat) (hn : o + n ≤ 74) : w.there g o n := fun j hj => by
  have hl := dgC_length h.1 h.2.1 u z
  refine ⟨?_, h.frozen _⟩
  rw [cell_of_row _ _ _ _ _ _ h.2.2, List.getElem?_toArray, List.getElem?_eq_getElem (by omega)]
  rfl
theorem step_put_st {w : World} {ops : Array Oper} {o : Oper} {a : Act} {K : Act → World → Prop} {Q : Exit → Act → World → Prop} {E : Prop} (hgd : o.guard = none) (x y : Operand) (ho : o.op = .store 105 x y)
    {g : Nat} {st : List Int} {blk : List UInt8} {u z : Int} (hD : DgAt w g st blk u z) (hx : a.eval x = .pointer (some ⟨g, 0, none⟩)) (S : List Int) (hS : S.length = 8) (hy : a.eval y = .agg (vw S).toArray)
    (h : K (a.put o.dst undef) (w.setCells g 0 (vw S))) : if Region.wanted o (yielded ops a.tmps) = true then Oper.wp Tryd.prog o a w K Q else E := by
  have hw : Region.wanted o (yielded ops a.tmps) = true := by simp [Region.wanted, hgd]
  rw [if_pos hw]
  have hsz : (vw S).toArray.size = 8 := by simp [vw_length, hS]
  refine wp_store_mid _ x y ho g 0 (vw S).toArray hx hy (hD.there 0 _ (by rw [hsz]; omega)) (by rw [hsz]; exact cells_w8) (by have := all_oneCell_toArray (vw_one S); simpa using this) ?_
  simpa using h
theorem zero_u8 (W : World) : (zeroValue 5).run Tryd.prog W = .ok (.int .u8 0) W := by kernel_rfl
theorem clear_blk {w : World} {g : Nat} {st : List Int} {blk : List UInt8} {u z : Int} (hD : DgAt w g st blk u z) (ty : TypeId) : (Builtin.clear_ #[73] ty #[.slice (some ⟨g, 8, none⟩) 64 64]).run Tryd.prog w = .ok (.tuple #[]) (w.setCells g 8 (vb (zer 64))) := by
  have h := Lib.run_clear_slice (P := Tryd.prog) w 73 5 ty (.int .u8 0) Tryd.underlying73 zero_u8 rfl rfl g 8 64 64 (by omega) (fun j hj => (hD.there 8 64 (by omega) j hj).1) (fun j hj => (hD.there 8 64 (by omega) j hj).2)
  rw [h]
  rfl
/-- Of what was there nothing has turned but block g. -/
structure Only (g : Nat) (w w' : World) : Prop where
  os : w'.os = w.os
  tape : w'.tape = w.tape
  output : w'.output = w.output
  size : w.heap.size ≤ w'.heap.size
  block : ∀ k, k < w.heap.size → k ≠ g → w'.heap[k]? = w.heap[k]?
theorem Only.refl (g : Nat) (w : World) : Only g w w := ⟨rfl, rfl, rfl, Nat.le_refl _, fun _ _ _ => rfl⟩
theorem Only.trans {g : Nat} {a b c : World} (h : Only g a b) (k : Only g b c) : Only g a c :=
  ⟨k.os.trans h.os, k.tape.trans h.tape, k.output.trans h.output, Nat.le_trans h.size k.size, fun j hj hn => (k.block j (Nat.lt_of_lt_of_le hj h.size) hn).trans (h.block j hj hn)⟩
theorem Only.drew {g : Nat} {a w : World} (h : Only g a w) : Only g a w.drew := ⟨h.os, h.tape, h.output, h.size, h.block⟩
theorem Only.of {g : Nat} {w w' : World} (h : Below w.heap.size w w') : Only g w w' := ⟨h.os, h.tape, h.output, h.size, fun k hk _ => h.block k hk⟩
theorem Only.grown {g : Nat} {a w w' : World} (h : Only g a w) (hg : w.grownBy w' (some g)) : Only g a w' :=
  h.trans ⟨hg.os, hg.tape, hg.output, hg.size, fun k hk hn => hg.block k hk (fun e => by injection e with e; exact hn e)⟩
theorem Only.set {g : Nat} {a w : World} (h : Only g a w) (o : Nat) (v : Value) : Only g a (w.setCell ⟨g, o, none⟩ v) :=
  h.trans ⟨rfl, rfl, rfl, by simp, fun k _ hn => Below.heap_setCell w ⟨g, o, none⟩ v k hn⟩
theorem Only.low {g B : Nat} {w w' : World} (h : Only g w w') (hB : B ≤ w.heap.size) (hg : B ≤ g) : Below B w w' :=
  ⟨h.os, h.tape, h.output, h.size, fun k hk => h.block k (Nat.lt_of_lt_of_le hk hB) (by omega)⟩
theorem KeysAt.only {g : Nat} {w w' : World} (h : KeysAt w) (hb : Only g w w') (hg : 0 < g) : KeysAt w' := h.below (hb.low (B := 1) h.1 hg) (by omega)
theorem below_setCells {B g : Nat} {a w : World} (h : Below B a w) (hB : B ≤ g) (hs : B ≤ w.heap.size) (o : Nat) (vs : List Value) : Below B a (w.setCells g o vs) := h.grown (setCells_grown g vs w o) hs (fun k hk => by injection hk with hk; omega)

set_option maxRecDepth 100000 in
set_option maxHeartbeats 3200000 in
theorem shtake_any (g : Nat) (st : List Int) (blk : List UInt8) (u z : Int) (w : World) (hD : DgAt w g st blk u z) (hst : W32L st) (hk : KeysAt w) (hg : 0 < g) (hgs : g < w.heap.size) :
    Calls Tryd.prog 69 #[.pointer (some ⟨g, 0, none⟩)] w fun e w' => e = .returned (.tuple #[]) ∧ ∃ S : List Int, W32L S ∧ DgAt w' g S (zer 64) 0 z ∧ Only g w w' := by
  have HD := Lib.hid hD
  have HS := Lib.hid hst
  have HK := Lib.hid hk
  clear hD hst hk
  go_enter Tryd.func69, Tryd.ntmps69
  go_wp2_with fail
  obtain ⟨W0, hW0⟩ : ∃ v, w.drew = v := ⟨_, rfl⟩
  have HD0 : Hid (DgAt W0 g st blk u z) := by rw [← hW0]; exact HD.out
  have HB0 : Hid (Only g w W0) := by rw [← hW0]; exact (Only.refl _ _).drew
  have hgs0 : g < W0.heap.size := by rw [← hW0]; exact hgs
  refine region_begin hW0 (S := fun W => Only g w W) (by kernel_rfl) HB0.out (fun hHeld => ?_)
  clear hW0
  refine take_at (i := 0) (.pointer (some ⟨g, 0, none⟩)) (some 2) (by decide) (by rfl) (by kernel_rfl) (by kernel_rfl) (by kernel_rfl) (fun _ _ _ h => h) (by rfl) (fun W hW => by go_simp) (by assumption) ?_
  try simp only [Act.put, List.setIfInBounds_toArray, List.set_cons_zero, List.set_cons_succ]
  refine take_at (i := 1) (.pointer (some ⟨g, 0, none⟩)) (some 3) (by decide) (by rfl) (by kernel_rfl) (by kernel_rfl) (by kernel_rfl) (fun _ _ _ h => h) (by rfl) (fun W hW => by go_simp) (by assumption) ?_
  try simp only [Act.put, List.setIfInBounds_toArray, List.set_cons_zero, List.set_cons_succ]
  refine take_at (i := 2) (.pointer (some ⟨g, 0, none⟩)) (some 4) (by decide) (by rfl) (by kernel_rfl) (by kernel_rfl) (by kernel_rfl) (fun _ _ _ h => h) (by rfl) (fun W hW => by go_simp) (by assumption) ?_
  try simp only [Act.put, List.setIfInBounds_toArray, List.set_cons_zero, List.set_cons_succ]
  refine take_at (i := 3) (.pointer (some ⟨g, 0, none⟩)) (some 5) (by decide) (by rfl) (by kernel_rfl) (by kernel_rfl) (by kernel_rfl) (fun _ _ _ h => h) (by rfl) (fun W hW => by go_simp) (by assumption) ?_
  try simp only [Act.put, List.setIfInBounds_toArray, List.set_cons_zero, List.set_cons_succ]
  refine take_at (i := 5) (.pointer (some ⟨g, 0, none⟩)) (some 7) (by decide) (by rfl) (by kernel_rfl) (by kernel_rfl) (by kernel_rfl) (fun _ _ _ h => h) (by rfl) (fun W hW => by go_simp) (by assumption) ?_
  try simp only [Act.put, List.setIfInBounds_toArray, List.set_cons_zero, List.set_cons_succ]
  refine take_at (i := 6) (.pointer (some ⟨g, 0, none⟩)) (some 8) (by decide) (by rfl) (by kernel_rfl) (by kernel_rfl) (by kernel_rfl) (fun _ _ _ h => h) (by rfl) (fun W hW => by go_simp) (by assumption) ?_
  try simp only [Act.put, List.setIfInBounds_toArray, List.set_cons_zero, List.set_cons_succ]
  refine take_at (i := 7) (.pointer (some ⟨g, 8, none⟩)) (some 9) (by decide) (by rfl) (by kernel_rfl) (by kernel_rfl) (by kernel_rfl) (fun _ _ _ h => h) (by rfl) (fun W hW => by go_simp) (by assumption) ?_
  try simp only [Act.put, List.setIfInBounds_toArray, List.set_cons_zero, List.set_cons_succ]
  refine wpAnyH_ready (rs := [4, 8]) (by kernel_rfl) (by simp) ?_
  refine come (i := 4) (.agg (vw st).toArray) W0 (some 6) (by decide) (by rfl) (by rfl) (exec_load_st HD0.out _ rfl rfl) HB0.out ?_ (come (i := 8) (.agg (vb blk).toArray) W0 (some 10) (by decide) (by rfl) (by rfl) (exec_load_blk HD0.out _ rfl rfl) HB0.out ?_ AllReadyH.nil)
  · try simp only [Act.put, List.setIfInBounds_toArray, List.set_cons_zero, List.set_cons_succ]
    refine wpAnyH_ready (rs := [8]) (by kernel_rfl) (by simp) (come (i := 8) (.agg (vb blk).toArray) W0 (some 10) (by decide) (by rfl) (by rfl) (exec_load_blk HD0.out _ rfl rfl) HB0.out ?_ AllReadyH.nil)
    try simp only [Act.put, List.setIfInBounds_toArray, List.set_cons_zero, List.set_cons_succ]
    refine wpAnyH_ready (rs := [9]) (by kernel_rfl) (by simp) (AllReadyH.cons (Array.getElem?_eq_getElem (i := 9) (by decide)) (fun K9 hK => ?_) AllReadyH.nil)
    go_simp
    refine (mixed_any st blk W0 HD0.out.1 HS.out HD0.out.2.1 (HK.out.only HB0.out hg)).mono ?_
    rintro e w5 ⟨S, hS, hSw, rfl, hb5⟩
    have HD5 := Lib.hid (HD0.out.heap (hb5.block g hgs0))
    have HB5 := Lib.hid (HB0.out.trans (Only.of hb5))
    have hs5 := hb5.size
    clear hb5
    refine hK.out _ _ (HB5.out) (fun hHeld => ?_)
    clear hK K9
    try simp only [Act.put, List.setIfInBounds_toArray, List.set_cons_zero, List.set_cons_succ]
    refine take_at (i := 10) (.pointer (some ⟨g, 0, none⟩)) (some 12) (by decide) (by rfl) (by kernel_rfl) (by kernel_rfl) (by kernel_rfl) (fun _ _ _ h => h) (by rfl) (fun W hW => by go_simp) (by assumption) ?_
    try simp only [Act.put, List.setIfInBounds_toArray, List.set_cons_zero, List.set_cons_succ]
    refine take_at (i := 11) (.pointer (some ⟨g, 0, none⟩)) (some 13) (by decide) (by rfl) (by kernel_rfl) (by kernel_rfl) (by kernel_rfl) (fun _ _ _ h => h) (by rfl) (fun W hW => by go_simp) (by assumption) ?_
    try simp only [Act.put, List.setIfInBounds_toArray, List.set_cons_zero, List.set_cons_succ]
    refine wpAnyH_ready (rs := [12]) (by kernel_rfl) (by simp) (AllReadyH.cons (Array.getElem?_eq_getElem (i := 12) (by decide)) (fun K9 hK => ?_) AllReadyH.nil)
    refine step_put_st rfl _ _ rfl HD5.out rfl S hS rfl ?_
    have HD6 := Lib.hid (HD5.out.setState S hS)
    have HB6 := Lib.hid (HB5.out.grown (setCells_grown g (vw S) w5 0))
    have hs6 : g < (w5.setCells g 0 (vw S)).heap.size := by have := (setCells_grown g (vw S) w5 0).size; omega
    generalize w5.setCells g 0 (vw S) = w6 at HD6 HB6 hs6 ⊢
    clear HD5 HB5
    refine hK.out _ _ (HB6.out) (fun hHeld => ?_)
    clear hK K9
    try simp only [Act.put, List.setIfInBounds_toArray, List.set_cons_zero, List.set_cons_succ]
    refine wpAnyH_done (by kernel_rfl) ?_ _
    try simp only [Act.put, List.setIfInBounds_toArray, List.set_cons_zero, List.set_cons_succ]
    have hcl := clear_blk HD6.out 0
    have HD7 := Lib.hid (HD6.out.setBytes 0 (zer 64) (by simp [zer_length]))
    have HB7 := Lib.hid (HB6.out.grown (setCells_grown g (vb (zer 64)) w6 8))
    rw [show blk.take 0 ++ zer 64 ++ blk.drop (0 + (zer 64).length) = zer 64 by rw [List.take_zero, List.nil_append, List.drop_of_length_le (by rw [zer_length, HD6.out.2.1]; omega), List.append_nil]] at HD7
    have HD8 := Lib.hid (HD7.out.setUsed 0)
    have HB8 := Lib.hid (HB7.out.set 72 (.int .i64 0))
    have cu := HD7.out.used
    have fu := HD7.out.frozen 72
    generalize w6.setCells g 8 (vb (zer 64)) = w7 at hcl HD7 HB7 HD8 HB8 cu fu
    go_wp2_with fail
    go_end0
    exact ⟨rfl, S, hSw, HD8.out, HB8.out⟩
  · try simp only [Act.put, List.setIfInBounds_toArray, List.set_cons_zero, List.set_cons_succ]
    refine wpAnyH_ready (rs := [4]) (by kernel_rfl) (by simp) (come (i := 4) (.agg (vw st).toArray) W0 (some 6) (by decide) (by rfl) (by rfl) (exec_load_st HD0.out _ rfl rfl) HB0.out ?_ AllReadyH.nil)
    try simp only [Act.put, List.setIfInBounds_toArray, List.set_cons_zero, List.set_cons_succ]
    refine wpAnyH_ready (rs := [9]) (by kernel_rfl) (by simp) (AllReadyH.cons (Array.getElem?_eq_getElem (i := 9) (by decide)) (fun K9 hK => ?_) AllReadyH.nil)
    go_simp
    refine (mixed_any st blk W0 HD0.out.1 HS.out HD0.out.2.1 (HK.out.only HB0.out hg)).mono ?_
    rintro e w5 ⟨S, hS, hSw, rfl, hb5⟩
    have HD5 := Lib.hid (HD0.out.heap (hb5.block g hgs0))
    have HB5 := Lib.hid (HB0.out.trans (Only.of hb5))
    have hs5 := hb5.size
    clear hb5
    refine hK.out _ _ (HB5.out) (fun hHeld => ?_)
    clear hK K9
    try simp only [Act.put, List.setIfInBounds_toArray, List.set_cons_zero, List.set_cons_succ]
    refine take_at (i := 10) (.pointer (some ⟨g, 0, none⟩)) (some 12) (by decide) (by rfl) (by kernel_rfl) (by kernel_rfl) (by kernel_rfl) (fun _ _ _ h => h) (by rfl) (fun W hW => by go_simp) (by assumption) ?_
    try simp only [Act.put, List.setIfInBounds_toArray, List.set_cons_zero, List.set_cons_succ]
    refine take_at (i := 11) (.pointer (some ⟨g, 0, none⟩)) (some 13) (by decide) (by rfl) (by kernel_rfl) (by kernel_rfl) (by kernel_rfl) (fun _ _ _ h => h) (by rfl) (fun W hW => by go_simp) (by assumption) ?_
    try simp only [Act.put, List.setIfInBounds_toArray, List.set_cons_zero, List.set_cons_succ]
    refine wpAnyH_ready (rs := [12]) (by kernel_rfl) (by simp) (AllReadyH.cons (Array.getElem?_eq_getElem (i := 12) (by decide)) (fun K9 hK => ?_) AllReadyH.nil)
    refine step_put_st rfl _ _ rfl HD5.out rfl S hS rfl ?_
    have HD6 := Lib.hid (HD5.out.setState S hS)
    have HB6 := Lib.hid (HB5.out.grown (setCells_grown g (vw S) w5 0))
    have hs6 : g < (w5.setCells g 0 (vw S)).heap.size := by have := (setCells_grown g (vw S) w5 0).size; omega
    generalize w5.setCells g 0 (vw S) = w6 at HD6 HB6 hs6 ⊢
    clear HD5 HB5
    refine hK.out _ _ (HB6.out) (fun hHeld => ?_)
    clear hK K9
    try simp only [Act.put, List.setIfInBounds_toArray, List.set_cons_zero, List.set_cons_succ]
    refine wpAnyH_done (by kernel_rfl) ?_ _
    try simp only [Act.put, List.setIfInBounds_toArray, List.set_cons_zero, List.set_cons_succ]
    have hcl := clear_blk HD6.out 0
    have HD7 := Lib.hid (HD6.out.setBytes 0 (zer 64) (by simp [zer_length]))
    have HB7 := Lib.hid (HB6.out.grown (setCells_grown g (vb (zer 64)) w6 8))
    rw [show blk.take 0 ++ zer 64 ++ blk.drop (0 + (zer 64).length) = zer 64 by rw [List.take_zero, List.nil_append, List.drop_of_length_le (by rw [zer_length, HD6.out.2.1]; omega), List.append_nil]] at HD7
    have HD8 := Lib.hid (HD7.out.setUsed 0)
    have HB8 := Lib.hid (HB7.out.set 72 (.int .i64 0))
    have cu := HD7.out.used
    have fu := HD7.out.frozen 72
    generalize w6.setCells g 8 (vb (zer 64)) = w7 at hcl HD7 HB7 HD8 HB8 cu fu
    go_wp2_with fail
    go_end0
    exact ⟨rfl, S, hSw, HD8.out, HB8.out⟩

end Go.Proofs.YthbahbcihaebeaaDoor.Cd

/-
  What take makes of a block, told exactly. Conditions: none.
-/
namespace Go.Proofs.YthbahbcihaebeaaDoor.Cd
open Go.RowKit

theorem KeysIs.below {Ks : List Int} {w w' : World} {B : Nat} (h : KeysIs Ks w) (hb : Below B w w') (hB : 0 < B) : KeysIs Ks w' :=
  ⟨Nat.lt_of_lt_of_le h.1 hb.size, h.2.1, fun j hj => (hb.cell (p := ⟨0, j, none⟩) hB).trans (h.2.2 j hj)⟩
theorem KeysIs.only {Ks : List Int} {g : Nat} {w w' : World} (h : KeysIs Ks w) (hb : Only g w w') (hg : 0 < g) : KeysIs Ks w' := h.below (hb.low (B := 1) h.1 hg) (by omega)

set_option maxRecDepth 100000 in
set_option maxHeartbeats 3200000 in
theorem take_x (Ks S : List Int) (g : Nat) (st : List Int) (blk : List UInt8) (u z : Int) (w : World) (hSe : mixP Ks st blk = S) (hD : DgAt w g st blk u z) (hst : W32L st) (hk : KeysIs Ks w) (hg : 0 < g) (hgs : g < w.heap.size) :
    Calls Tryd.prog 69 #[.pointer (some ⟨g, 0, none⟩)] w fun e w' => e = .returned (.tuple #[]) ∧ W32L S ∧ DgAt w' g S (zer 64) 0 z ∧ Only g w w' := by
  have HSE := Lib.hid hSe
  have HD := Lib.hid hD
  have HS := Lib.hid hst
  have HK := Lib.hid hk
  clear hD hst hk hSe
  go_enter Tryd.func69, Tryd.ntmps69
  go_wp2_with fail
  obtain ⟨W0, hW0⟩ : ∃ v, w.drew = v := ⟨_, rfl⟩
  have HD0 : Hid (DgAt W0 g st blk u z) := by rw [← hW0]; exact HD.out
  have HB0 : Hid (Only g w W0) := by rw [← hW0]; exact (Only.refl _ _).drew
  have hgs0 : g < W0.heap.size := by rw [← hW0]; exact hgs
  refine region_begin hW0 (S := fun W => Only g w W) (by kernel_rfl) HB0.out (fun hHeld => ?_)
  clear hW0
  refine take_at (i := 0) (.pointer (some ⟨g, 0, none⟩)) (some 2) (by decide) (by rfl) (by kernel_rfl) (by kernel_rfl) (by kernel_rfl) (fun _ _ _ h => h) (by rfl) (fun W hW => by go_simp) (by assumption) ?_
  try simp only [Act.put, List.setIfInBounds_toArray, List.set_cons_zero, List.set_cons_succ]
  refine take_at (i := 1) (.pointer (some ⟨g, 0, none⟩)) (some 3) (by decide) (by rfl) (by kernel_rfl) (by kernel_rfl) (by kernel_rfl) (fun _ _ _ h => h) (by rfl) (fun W hW => by go_simp) (by assumption) ?_
  try simp only [Act.put, List.setIfInBounds_toArray, List.set_cons_zero, List.set_cons_succ]
  refine take_at (i := 2) (.pointer (some ⟨g, 0, none⟩)) (some 4) (by decide) (by rfl) (by kernel_rfl) (by kernel_rfl) (by kernel_rfl) (fun _ _ _ h => h) (by rfl) (fun W hW => by go_simp) (by assumption) ?_
  try simp only [Act.put, List.setIfInBounds_toArray, List.set_cons_zero, List.set_cons_succ]
  refine take_at (i := 3) (.pointer (some ⟨g, 0, none⟩)) (some 5) (by decide) (by rfl) (by kernel_rfl) (by kernel_rfl) (by kernel_rfl) (fun _ _ _ h => h) (by rfl) (fun W hW => by go_simp) (by assumption) ?_
  try simp only [Act.put, List.setIfInBounds_toArray, List.set_cons_zero, List.set_cons_succ]
  refine take_at (i := 5) (.pointer (some ⟨g, 0, none⟩)) (some 7) (by decide) (by rfl) (by kernel_rfl) (by kernel_rfl) (by kernel_rfl) (fun _ _ _ h => h) (by rfl) (fun W hW => by go_simp) (by assumption) ?_
  try simp only [Act.put, List.setIfInBounds_toArray, List.set_cons_zero, List.set_cons_succ]
  refine take_at (i := 6) (.pointer (some ⟨g, 0, none⟩)) (some 8) (by decide) (by rfl) (by kernel_rfl) (by kernel_rfl) (by kernel_rfl) (fun _ _ _ h => h) (by rfl) (fun W hW => by go_simp) (by assumption) ?_
  try simp only [Act.put, List.setIfInBounds_toArray, List.set_cons_zero, List.set_cons_succ]
  refine take_at (i := 7) (.pointer (some ⟨g, 8, none⟩)) (some 9) (by decide) (by rfl) (by kernel_rfl) (by kernel_rfl) (by kernel_rfl) (fun _ _ _ h => h) (by rfl) (fun W hW => by go_simp) (by assumption) ?_
  try simp only [Act.put, List.setIfInBounds_toArray, List.set_cons_zero, List.set_cons_succ]
  refine wpAnyH_ready (rs := [4, 8]) (by kernel_rfl) (by simp) ?_
  refine come (i := 4) (.agg (vw st).toArray) W0 (some 6) (by decide) (by rfl) (by rfl) (exec_load_st HD0.out _ rfl rfl) HB0.out ?_ (come (i := 8) (.agg (vb blk).toArray) W0 (some 10) (by decide) (by rfl) (by rfl) (exec_load_blk HD0.out _ rfl rfl) HB0.out ?_ AllReadyH.nil)
  · try simp only [Act.put, List.setIfInBounds_toArray, List.set_cons_zero, List.set_cons_succ]
    refine wpAnyH_ready (rs := [8]) (by kernel_rfl) (by simp) (come (i := 8) (.agg (vb blk).toArray) W0 (some 10) (by decide) (by rfl) (by rfl) (exec_load_blk HD0.out _ rfl rfl) HB0.out ?_ AllReadyH.nil)
    try simp only [Act.put, List.setIfInBounds_toArray, List.set_cons_zero, List.set_cons_succ]
    refine wpAnyH_ready (rs := [9]) (by kernel_rfl) (by simp) (AllReadyH.cons (Array.getElem?_eq_getElem (i := 9) (by decide)) (fun K9 hK => ?_) AllReadyH.nil)
    go_simp
    refine (mixed_x Ks st blk W0 HD0.out.1 HS.out HD0.out.2.1 (HK.out.only HB0.out hg)).mono ?_
    rintro e w5 ⟨hS, hSw, rfl, hb5⟩
    rw [HSE.out] at hS hSw ⊢
    have HD5 := Lib.hid (HD0.out.heap (hb5.block g hgs0))
    have HB5 := Lib.hid (HB0.out.trans (Only.of hb5))
    have hs5 := hb5.size
    clear hb5
    refine hK.out _ _ (HB5.out) (fun hHeld => ?_)
    clear hK K9
    try simp only [Act.put, List.setIfInBounds_toArray, List.set_cons_zero, List.set_cons_succ]
    refine take_at (i := 10) (.pointer (some ⟨g, 0, none⟩)) (some 12) (by decide) (by rfl) (by kernel_rfl) (by kernel_rfl) (by kernel_rfl) (fun _ _ _ h => h) (by rfl) (fun W hW => by go_simp) (by assumption) ?_
    try simp only [Act.put, List.setIfInBounds_toArray, List.set_cons_zero, List.set_cons_succ]
    refine take_at (i := 11) (.pointer (some ⟨g, 0, none⟩)) (some 13) (by decide) (by rfl) (by kernel_rfl) (by kernel_rfl) (by kernel_rfl) (fun _ _ _ h => h) (by rfl) (fun W hW => by go_simp) (by assumption) ?_
    try simp only [Act.put, List.setIfInBounds_toArray, List.set_cons_zero, List.set_cons_succ]
    refine wpAnyH_ready (rs := [12]) (by kernel_rfl) (by simp) (AllReadyH.cons (Array.getElem?_eq_getElem (i := 12) (by decide)) (fun K9 hK => ?_) AllReadyH.nil)
    refine step_put_st rfl _ _ rfl HD5.out rfl S hS rfl ?_
    have HD6 := Lib.hid (HD5.out.setState S hS)
    have HB6 := Lib.hid (HB5.out.grown (setCells_grown g (vw S) w5 0))
    have hs6 : g < (w5.setCells g 0 (vw S)).heap.size := by have := (setCells_grown g (vw S) w5 0).size; omega
    generalize w5.setCells g 0 (vw S) = w6 at HD6 HB6 hs6 ⊢
    clear HD5 HB5
    refine hK.out _ _ (HB6.out) (fun hHeld => ?_)
    clear hK K9
    try simp only [Act.put, List.setIfInBounds_toArray, List.set_cons_zero, List.set_cons_succ]
    refine wpAnyH_done (by kernel_rfl) ?_ _
    try simp only [Act.put, List.setIfInBounds_toArray, List.set_cons_zero, List.set_cons_succ]
    have hcl := clear_blk HD6.out 0
    have HD7 := Lib.hid (HD6.out.setBytes 0 (zer 64) (by simp [zer_length]))
    have HB7 := Lib.hid (HB6.out.grown (setCells_grown g (vb (zer 64)) w6 8))
    rw [show blk.take 0 ++ zer 64 ++ blk.drop (0 + (zer 64).length) = zer 64 by rw [List.take_zero, List.nil_append, List.drop_of_length_le (by rw [zer_length, HD6.out.2.1]; omega), List.append_nil]] at HD7
    have HD8 := Lib.hid (HD7.out.setUsed 0)
    have HB8 := Lib.hid (HB7.out.set 72 (.int .i64 0))
    have cu := HD7.out.used
    have fu := HD7.out.frozen 72
    generalize w6.setCells g 8 (vb (zer 64)) = w7 at hcl HD7 HB7 HD8 HB8 cu fu
    go_wp2_with fail
    go_end0
    exact ⟨rfl, hSw, HD8.out, HB8.out⟩
  · try simp only [Act.put, List.setIfInBounds_toArray, List.set_cons_zero, List.set_cons_succ]
    refine wpAnyH_ready (rs := [4]) (by kernel_rfl) (by simp) (come (i := 4) (.agg (vw st).toArray) W0 (some 6) (by decide) (by rfl) (by rfl) (exec_load_st HD0.out _ rfl rfl) HB0.out ?_ AllReadyH.nil)
    try simp only [Act.put, List.setIfInBounds_toArray, List.set_cons_zero, List.set_cons_succ]
    refine wpAnyH_ready (rs := [9]) (by kernel_rfl) (by simp) (AllReadyH.cons (Array.getElem?_eq_getElem (i := 9) (by decide)) (fun K9 hK => ?_) AllReadyH.nil)
    go_simp
    refine (mixed_x Ks st blk W0 HD0.out.1 HS.out HD0.out.2.1 (HK.out.only HB0.out hg)).mono ?_
    rintro e w5 ⟨hS, hSw, rfl, hb5⟩
    rw [HSE.out] at hS hSw ⊢
    have HD5 := Lib.hid (HD0.out.heap (hb5.block g hgs0))
    have HB5 := Lib.hid (HB0.out.trans (Only.of hb5))
    have hs5 := hb5.size
    clear hb5
    refine hK.out _ _ (HB5.out) (fun hHeld => ?_)
    clear hK K9
    try simp only [Act.put, List.setIfInBounds_toArray, List.set_cons_zero, List.set_cons_succ]
    refine take_at (i := 10) (.pointer (some ⟨g, 0, none⟩)) (some 12) (by decide) (by rfl) (by kernel_rfl) (by kernel_rfl) (by kernel_rfl) (fun _ _ _ h => h) (by rfl) (fun W hW => by go_simp) (by assumption) ?_
    try simp only [Act.put, List.setIfInBounds_toArray, List.set_cons_zero, List.set_cons_succ]
    refine take_at (i := 11) (.pointer (some ⟨g, 0, none⟩)) (some 13) (by decide) (by rfl) (by kernel_rfl) (by kernel_rfl) (by kernel_rfl) (fun _ _ _ h => h) (by rfl) (fun W hW => by go_simp) (by assumption) ?_
    try simp only [Act.put, List.setIfInBounds_toArray, List.set_cons_zero, List.set_cons_succ]
    refine wpAnyH_ready (rs := [12]) (by kernel_rfl) (by simp) (AllReadyH.cons (Array.getElem?_eq_getElem (i := 12) (by decide)) (fun K9 hK => ?_) AllReadyH.nil)
    refine step_put_st rfl _ _ rfl HD5.out rfl S hS rfl ?_
    have HD6 := Lib.hid (HD5.out.setState S hS)
    have HB6 := Lib.hid (HB5.out.grown (setCells_grown g (vw S) w5 0))
    have hs6 : g < (w5.setCells g 0 (vw S)).heap.size := by have := (setCells_grown g (vw S) w5 0).size; omega
    generalize w5.setCells g 0 (vw S) = w6 at HD6 HB6 hs6 ⊢
    clear HD5 HB5
    refine hK.out _ _ (HB6.out) (fun hHeld => ?_)
    clear hK K9
    try simp only [Act.put, List.setIfInBounds_toArray, List.set_cons_zero, List.set_cons_succ]
    refine wpAnyH_done (by kernel_rfl) ?_ _
    try simp only [Act.put, List.setIfInBounds_toArray, List.set_cons_zero, List.set_cons_succ]
    have hcl := clear_blk HD6.out 0
    have HD7 := Lib.hid (HD6.out.setBytes 0 (zer 64) (by simp [zer_length]))
    have HB7 := Lib.hid (HB6.out.grown (setCells_grown g (vb (zer 64)) w6 8))
    rw [show blk.take 0 ++ zer 64 ++ blk.drop (0 + (zer 64).length) = zer 64 by rw [List.take_zero, List.nil_append, List.drop_of_length_le (by rw [zer_length, HD6.out.2.1]; omega), List.append_nil]] at HD7
    have HD8 := Lib.hid (HD7.out.setUsed 0)
    have HB8 := Lib.hid (HB7.out.set 72 (.int .i64 0))
    have cu := HD7.out.used
    have fu := HD7.out.frozen 72
    generalize w6.setCells g 8 (vb (zer 64)) = w7 at hcl HD7 HB7 HD8 HB8 cu fu
    go_wp2_with fail
    go_end0
    exact ⟨rfl, hSw, HD8.out, HB8.out⟩

end Go.Proofs.YthbahbcihaebeaaDoor.Cd

/-
  Bytes that are put behind those that are there: the digest's add. Conditions: none.
-/
namespace Go.Proofs.YthbahbcihaebeaaDoor.Cd
open Go.RowKit

def st0 : List Int := [1779033703, 3144134277, 1013904242, 2773480762, 1359893119, 2600822924, 528734635, 1541459225]
theorem st0_w : W32L st0 := fun x hx => by
  unfold st0 at hx
  simp only [List.mem_cons, List.not_mem_nil, or_false] at hx
  unfold W32
  omega

theorem sl_rest {w : World} {B : Nat} {A : Option Addr} {c : Nat} {bs : List UInt8} (h : Sl w B (.slice A bs.length c) bs) (n : Nat) (hn : n ≤ bs.length) (C : Option Addr) (hC : c ≠ n → C = A.map (·.add n)) (hC2 : c = n → C = A) :
    Sl w B (.slice C (bs.length - n) (c - n)) (bs.drop n) := by
  obtain ⟨A', c', e, h2, h3, h4, h5, h6⟩ := h
  injection e with e1 _ e3
  subst e1 e3
  refine ⟨C, c - n, by rw [List.length_drop], by rw [List.length_drop]; omega, by omega, fun hnone => ?_, fun ad e h0 => ?_, fun ad e j u hu => ?_⟩
  · by_cases hcn : c = n
    · omega
    · have := hC hcn
      rw [hnone] at this
      have hA : A = none := by cases A with
        | none => rfl
        | some _ => cases this
      have := h4 hA
      omega
  · rw [List.length_drop] at h0
    have hcn : c ≠ n := by omega
    have := hC hcn
    rw [e] at this
    cases A with
    | none => cases this
    | some a =>
      injection this with this
      rw [this, block_of_add]
      exact h5 a rfl (by omega)
  · have hj := (List.getElem?_eq_some_iff.1 hu).1
    rw [vb_length, List.length_drop] at hj
    have hcn : c ≠ n := by omega
    have := hC hcn
    rw [e] at this
    cases A with
    | none => cases this
    | some a =>
      injection this with this
      have hu2 : (vb bs)[n + j]? = some u := by
        rw [← hu]
        simp only [vb, List.map_drop, List.getElem?_drop]
      have h7 := h6 a rfl (n + j) u hu2
      rw [this, Go.Deep.add_add]
      exact h7

/-- A slice that reads as bytes, and doesn't lie in block g. -/
def SlNot (w : World) (g : Nat) (v : Value) (bs : List UInt8) : Prop := Sl w w.heap.size v bs ∧ ∀ A n c, v = .slice (some A) n c → 0 < bs.length → A.block ≠ g
theorem SlNot.only {w w' : World} {g : Nat} {v : Value} {bs : List UInt8} (h : SlNot w g v bs) (hb : Only g w w') : SlNot w' g v bs := by
  obtain ⟨⟨A, c, rfl, h2, h3, h4, h5, h6⟩, h7⟩ := h
  refine ⟨⟨A, c, rfl, h2, h3, h4, fun ad e h0 => Nat.lt_of_lt_of_le (h5 ad e h0) hb.size, fun ad e j u hu => ?_⟩, h7⟩
  have h0 : 0 < bs.length := by
    have hj := (List.getElem?_eq_some_iff.1 hu).1
    rw [vb_length] at hj
    omega
  subst e
  have hbl := hb.block ad.block (h5 ad rfl h0) (h7 ad _ _ rfl h0)
  rw [World.cell?_of_block (w := w) (by rw [block_of_add]; exact hbl)]
  exact h6 ad rfl j u hu
theorem SlNot.rest {w : World} {g : Nat} {A : Option Addr} {c : Nat} {bs : List UInt8} (h : SlNot w g (.slice A bs.length c) bs) (n : Nat) (hn : n ≤ bs.length) :
    SlNot w g (.slice (if c = n then A else A.map (·.add n)) (bs.length - n) (c - n)) (bs.drop n) := by
  refine ⟨sl_rest h.1 n hn _ (fun e => by rw [if_neg e]) (fun e => by rw [if_pos e]), fun B m d e h0 => ?_⟩
  injection e with e1
  rw [List.length_drop] at h0
  have hc : c ≠ n := by
    obtain ⟨_, _, e2, h2, _⟩ := h.1
    injection e2 with _ _ e3
    omega
  rw [if_neg hc] at e1
  cases A with
  | none => cases e1
  | some a =>
    injection e1 with e1
    rw [← e1, block_of_add]
    exact h.2 a _ _ rfl (by omega)
set_option maxRecDepth 100000 in
theorem slice_from (A : Option Addr) (len cap n : Nat) (h1 : n ≤ len) (h2 : len ≤ cap) (W : World) : (Instr.sliceAt 73 (.slice A len cap) (some (.int .i64 n)) none none).run Tryd.prog W = .ok (.slice (if cap = n then A else A.map (·.add n)) (len - n) (cap - n)) W := by
  have h0 : (0 : Int) ≤ (n : Int) := by omega
  have h3 : (n : Int) ≤ (len : Int) := by omega
  go_simp
set_option maxRecDepth 100000 in
theorem slice_blk (g u : Nat) (hu : u < 64) (W : World) : (Instr.sliceAt 106 (.pointer (some ⟨g, 8, none⟩)) (some (.int .i64 u)) none none).run Tryd.prog W = .ok (.slice (some ⟨g, 8 + u, none⟩) (64 - u) (64 - u)) W := by
  have hu2 : (u : Int) ≤ (Tryd.prog.arrayLen 106 : Nat) := by
    show (u : Int) ≤ 64
    omega
  have h := run_sliceAt_array_l (P := Tryd.prog) W 106 ⟨g, 8, none⟩ Tryd.underlying106 .i64 u (by omega) hu2
  rw [h]
  go_simp
  have hne : ¬ (64 = u) := by omega
  simp [slicedAt, hne, Addr.add]
def lenV : Value → Nat | .slice _ n _ => n | _ => 0

theorem step_copy_blk {w : World} {ops : Array Oper} {op : Oper} {a : Act} {K : Act → World → Prop} {Q : Exit → Act → World → Prop} {E : Prop} (hgd : op.guard = none) (d x : Operand)
    (hop : op.op = Op.call { callee := Callee.builtin Builtin.copy, args := #[d, x], argTypes := #[73, 73] }) {g : Nat} {st : List Int} {blk : List UInt8} {uu z : Int} (hD : DgAt w g st blk uu z) (u : Nat) (hu : u < 64)
    (hd : a.eval d = .slice (some ⟨g, 8 + u, none⟩) (64 - u) (64 - u)) (y : Value) (B : Nat) (bs : List UInt8) (hx : a.eval x = y) (hy : Sl w B y bs)
    (hK : ∀ w', DgAt w' g st (blk.take u ++ bs.take (64 - u) ++ blk.drop (u + (bs.take (64 - u)).length)) uu z → w.grownBy w' (some g) → K (a.put op.dst (.int .i64 (Nat.min bs.length (64 - u) : Nat))) w') : if Region.wanted op (yielded ops a.tmps) = true then Oper.wp Tryd.prog op a w K Q else E := by
  have hw : Region.wanted op (yielded ops a.tmps) = true := by simp [Region.wanted, hgd]
  rw [if_pos hw]
  obtain ⟨h1, h2, h3⟩ := hD
  have hlen : (bs.take (64 - u)).length ≤ 64 - u := by rw [List.length_take]; omega
  obtain ⟨w', hrun, r1, r2⟩ := run_copy_in (c := 64 - u) h3 (by rw [dgC_length h1 h2]; omega : 8 + u + (64 - u) ≤ _) hy op.type
  rw [dgC_laid h1 h2 _ _ u _ (by omega)] at r1
  unfold Oper.wp
  simp [execOp, hop, resolve, invoke, builtin, hd, hx, hrun, Result.andThen]
  exact hK w' ⟨h1, by simp [h2]; omega, r1⟩ r2

set_option maxRecDepth 100000 in
set_option maxHeartbeats 3200000 in
theorem shadd_any (g : Nat) (st : List Int) (blk : List UInt8) (u : Nat) (z : Int) (v : Value) (bs : List UInt8) (w : World) (hD : DgAt w g st blk u z) (hu : u < 64) (hst : W32L st) (hk : KeysAt w) (hg : 0 < g) (hgs : g < w.heap.size) (hv : SlNot w g v bs) :
    Calls Tryd.prog 55 #[.pointer (some ⟨g, 0, none⟩), v] w fun e w' => e = .returned (.tuple #[]) ∧ ∃ (S : List Int) (B : List UInt8) (n : Nat), n < 64 ∧ W32L S ∧ (∃ x : Int, DgAt w' g S B n x) ∧ Only g w w' := by
  have HK := Lib.hid hk
  have HV := Lib.hid hv
  obtain ⟨A, c, rfl, hbc, hcm⟩ := hv.1.len
  have cz := hD.size
  have fz := hD.frozen 73
  have HDS : Hid (∀ x, DgAt (w.setCell ⟨g, 73, none⟩ (.int .u64 x)) g st blk u x) := fun x => hD.setSize x
  have HOS : Hid (∀ x, Only g w (w.setCell ⟨g, 73, none⟩ (.int .u64 x))) := fun x => (Only.refl g w).set 73 _
  have HST := Lib.hid hst
  clear hD hst hk hv
  go_enter Tryd.func55, Tryd.ntmps55
  go_wp2_with fail
  go_loopw [1] (fun vv wr => ∃ (r : List UInt8) (S : List Int) (B : List UInt8) (n : Nat) (x : Int), n < 64 ∧ lenV vv = r.length ∧ Hid (SlNot wr g vv r) ∧ Hid (W32L S) ∧ Hid (DgAt wr g S B n x) ∧ Hid (Only g w wr)) (fun vv _ => lenV vv)
  case atStart => exact ⟨bs, st, blk, u, _, hu, rfl, HV.out.only (HOS.out _), HST, HDS.out _, HOS.out _⟩
  case round =>
    obtain ⟨r, S, B, n, x, hn, hlen, HR, HS, HD, HO⟩ := hrel
    clear HDS HOS cz fz HV HST hbc hcm
    obtain ⟨A1, c1, rfl, hrc, hcm⟩ := HR.out.1.len
    have hm2 : r.length ≤ 9223372036854775807 := by unfold maxLen at hcm; omega
    have hgs1 : g < wr.heap.size := by have := HO.out.size; omega
    clear hlen
    by_cases h0 : r.length = 0
    · have hq : ¬ (0 : Int) < (r.length : Int) := by omega
      go_wp2_with fail
      go_end0
      exact ⟨rfl, S, B, n, hn, HS.out, ⟨x, HD.out⟩, HO.out⟩
    · have hq : (0 : Int) < (r.length : Int) := by omega
      go_wp2_with fail
      obtain ⟨W0, hW0⟩ : ∃ v, wr.drew = v := ⟨_, rfl⟩
      have HD0 : Hid (DgAt W0 g S B n x) := by rw [← hW0]; exact HD.out
      have HO0 : Hid (Only g w W0) := by rw [← hW0]; exact HO.out.drew
      have HR0 : Hid (SlNot W0 g (.slice A1 r.length c1) r) := by rw [← hW0]; exact HR.out.only ((Only.refl g wr).drew)
      have hgs0 : g < W0.heap.size := by rw [← hW0]; exact hgs1
      have hsb := fun W => slice_blk g n hn W
      clear HD HO HR
      refine region_begin hW0 (S := fun W => Only g w W ∧ W.cell? ⟨g, 72, none⟩ = some (.int .i64 n)) (by kernel_rfl) ⟨HO0.out, HD0.out.used⟩ (fun hHeld => ?_)
      clear hW0
      refine take_at (i := 0) (.pointer (some ⟨g, 0, none⟩)) (some 18) (by decide) (by rfl) (by kernel_rfl) (by kernel_rfl) (by kernel_rfl) (fun _ _ _ h => h) (by rfl) (fun W hW => by go_simp) (by assumption) ?_
      try simp only [Act.put, List.setIfInBounds_toArray, List.set_cons_zero, List.set_cons_succ]
      refine take_at (i := 1) (.pointer (some ⟨g, 0, none⟩)) (some 19) (by decide) (by rfl) (by kernel_rfl) (by kernel_rfl) (by kernel_rfl) (fun _ _ _ h => h) (by rfl) (fun W hW => by go_simp) (by assumption) ?_
      try simp only [Act.put, List.setIfInBounds_toArray, List.set_cons_zero, List.set_cons_succ]
      refine take_at (i := 2) (.pointer (some ⟨g, 8, none⟩)) (some 20) (by decide) (by rfl) (by kernel_rfl) (by kernel_rfl) (by kernel_rfl) (fun _ _ _ h => h) (by rfl) (fun W hW => by go_simp) (by assumption) ?_
      try simp only [Act.put, List.setIfInBounds_toArray, List.set_cons_zero, List.set_cons_succ]
      refine take_at (i := 3) (.pointer (some ⟨g, 0, none⟩)) (some 21) (by decide) (by rfl) (by kernel_rfl) (by kernel_rfl) (by kernel_rfl) (fun _ _ _ h => h) (by rfl) (fun W hW => by go_simp) (by assumption) ?_
      try simp only [Act.put, List.setIfInBounds_toArray, List.set_cons_zero, List.set_cons_succ]
      refine take_at (i := 4) (.pointer (some ⟨g, 0, none⟩)) (some 22) (by decide) (by rfl) (by kernel_rfl) (by kernel_rfl) (by kernel_rfl) (fun _ _ _ h => h) (by rfl) (fun W hW => by go_simp) (by assumption) ?_
      try simp only [Act.put, List.setIfInBounds_toArray, List.set_cons_zero, List.set_cons_succ]
      refine take_at (i := 5) (.pointer (some ⟨g, 72, none⟩)) (some 23) (by decide) (by rfl) (by kernel_rfl) (by kernel_rfl) (by kernel_rfl) (fun _ _ _ h => h) (by rfl) (fun W hW => by go_simp) (by assumption) ?_
      try simp only [Act.put, List.setIfInBounds_toArray, List.set_cons_zero, List.set_cons_succ]
      refine take_at (i := 6) (.int .i64 (n : Int)) (some 24) (by decide) (by rfl) (by kernel_rfl) (by kernel_rfl) (by kernel_rfl) (fun _ _ _ h => h) (by rfl) (fun W hW => by have h9 := hW.2; go_simp) (by assumption) ?_
      try simp only [Act.put, List.setIfInBounds_toArray, List.set_cons_zero, List.set_cons_succ]
      refine take_at (i := 7) (.slice (some ⟨g, 8 + n, none⟩) (64 - n) (64 - n)) (some 25) (by decide) (by rfl) (by kernel_rfl) (by kernel_rfl) (by kernel_rfl) (fun _ _ _ h => h) (by rfl) (fun W hW => by go_simp) (by assumption) ?_
      try simp only [Act.put, List.setIfInBounds_toArray, List.set_cons_zero, List.set_cons_succ]
      refine take_at (i := 8) (.slice A1 r.length c1) (some 26) (by decide) (by rfl) (by kernel_rfl) (by kernel_rfl) (by kernel_rfl) (fun _ _ _ h => h) (by rfl) (fun W hW => by go_simp) (by assumption) ?_
      try simp only [Act.put, List.setIfInBounds_toArray, List.set_cons_zero, List.set_cons_succ]
      refine wpAnyH_ready (rs := [9]) (by kernel_rfl) (by simp) (AllReadyH.cons (Array.getElem?_eq_getElem (i := 9) (by decide)) (fun K9 hK => ?_) AllReadyH.nil)
      refine step_copy_blk rfl _ _ rfl HD0.out n hn rfl _ W0.heap.size r rfl HR0.out.1 ?_
      intro w5 hd5 hg5
      have HD5 := Lib.hid hd5
      have HO5 := Lib.hid (HO0.out.grown hg5)
      have HR5 := Lib.hid (HR0.out.only ((Only.refl g W0).grown hg5))
      have hgs5 : g < w5.heap.size := by have := hg5.size; omega
      clear hd5 hg5 HD0 HO0 HR0
      refine hK.out _ _ (⟨HO5.out, HD5.out.used⟩) (fun hHeld => ?_)
      clear hK K9
      try simp only [Act.put, List.setIfInBounds_toArray, List.set_cons_zero, List.set_cons_succ]
      obtain ⟨m, hm⟩ : ∃ m, Nat.min r.length (64 - n) = m := ⟨_, rfl⟩
      have hm1 : m ≤ r.length := by rw [← hm]; exact Nat.min_le_left _ _
      have hm3 : m ≤ 64 - n := by rw [← hm]; exact Nat.min_le_right _ _
      have hm4 : 0 < m := by rw [← hm]; exact Nat.lt_min.2 ⟨by omega, by omega⟩
      rw [hm]
      refine take_at (i := 10) (.int .i64 (m : Int)) (some 4) (by decide) (by rfl) (by kernel_rfl) (by kernel_rfl) (by kernel_rfl) (fun _ _ _ h => h) (by rfl) (fun W hW => by go_simp) (by assumption) ?_
      try simp only [Act.put, List.setIfInBounds_toArray, List.set_cons_zero, List.set_cons_succ]
      refine wpAnyH_done (by kernel_rfl) ?_ _
      try simp only [Act.put, List.setIfInBounds_toArray, List.set_cons_zero, List.set_cons_succ]
      generalize B.take n ++ r.take (64 - n) ++ B.drop (n + (r.take (64 - n)).length) = B5 at HD5
      have hsf := fun W => slice_from A1 r.length c1 m hm1 hrc W
      have HR6 := Lib.hid (HR5.out.rest m hm1)
      have cu := HD5.out.used
      have fu := HD5.out.frozen 72
      have HD6 := Lib.hid (HD5.out.setUsed ((n : Int) + m))
      have HO6 := Lib.hid ((Only.refl g w5).set 72 (.int .i64 ((n : Int) + m)))
      clear hsb hm HR5
      generalize (if c1 = m then A1 else A1.map (·.add m)) = A6 at hsf HR6
      by_cases hfull : n + m = 64
      · have hq64 : ((n : Int) + (m : Int) == 64) = true := by rw [beq_iff_eq]; omega
        rw [show (n : Int) + (m : Int) = 64 by omega] at HD6 HO6
        have hk6 := HK.out.only (HO5.out.trans HO6.out) hg
        have hgs6 : g < (w5.setCell ⟨g, 72, none⟩ (.int .i64 64)).heap.size := by simp; omega
        have HTK := Lib.hid (shtake_any g S B5 64 x _ HD6.out HS.out hk6 hg hgs6)
        have e64 : (n : Int) + (m : Int) = 64 := by omega
        clear hk6 hgs6
        go_wp2_with fail
        refine HTK.out.mono ?_
        rintro q7 w7 ⟨rfl, S7, hS7, hd7, ho7⟩
        have HD7 := Lib.hid hd7
        have HS7 := Lib.hid hS7
        have HO7 := Lib.hid ho7
        clear hd7 hS7 ho7
        go_wp2_with fail
        go_roundw
        case rel => exact ⟨r.drop m, S7, zer 64, 0, x, by omega, by simp [lenV], (HR6.out.only HO6.out).only HO7.out, HS7, HD7, (HO5.out.trans HO6.out).trans HO7.out⟩
        case measure => simp [lenV]; omega
      · have hq64 : ((n : Int) + (m : Int) == 64) = false := by rw [beq_eq_false_iff_ne]; omega
        have hnm : n + m < 64 := by omega
        go_wp2_with fail
        go_roundw
        case rel => exact ⟨r.drop m, S, B5, n + m, x, hnm, by simp [lenV], HR6.out.only HO6.out, HS, by unfold Hid; rw [Int.natCast_add]; exact HD6.out, HO5.out.trans HO6.out⟩
        case measure => simp [lenV]; omega

end Go.Proofs.YthbahbcihaebeaaDoor.Cd

/-
  Bytes that are put behind those that are there, told exactly: the digest's add. Conditions: none.
-/
namespace Go.Proofs.YthbahbcihaebeaaDoor.Cd
open Go.RowKit

theorem wrap_few64 (x : Int) (h0 : 0 ≤ x) (h1 : x < 18446744073709551616) : IntKind.u64.wrap x = x := by
  simp [IntKind.wrap, IntKind.bits, IntKind.signed]
  omega

set_option maxRecDepth 100000 in
set_option maxHeartbeats 3200000 in
theorem add_x (Ks : List Int) (P bs : List UInt8) (g : Nat) (z : Int) (v : Value) (w : World) (hst : W32L (stF (mixP Ks) st0 P)) (hD : DgAt w g (stF (mixP Ks) st0 P) (blkF P) (P.length % 64 : Nat) z) (hz0 : 0 ≤ z) (hz : z + bs.length < 18446744073709551616) (hk : KeysIs Ks w) (hg : 0 < g) (hgs : g < w.heap.size) (hv : SlNot w g v bs) :
    Calls Tryd.prog 55 #[.pointer (some ⟨g, 0, none⟩), v] w fun e w' => e = .returned (.tuple #[]) ∧ W32L (stF (mixP Ks) st0 (P ++ bs)) ∧ DgAt w' g (stF (mixP Ks) st0 (P ++ bs)) (blkF (P ++ bs)) ((P ++ bs).length % 64 : Nat) (z + bs.length) ∧ Only g w w' := by
  have HF0 := Lib.hid (FedTo.start (mixP Ks) st0 P bs)
  have hu : P.length % 64 < 64 := Nat.mod_lt _ (by omega)
  generalize stF (mixP Ks) st0 P = st at hst hD HF0
  generalize blkF P = blk at hD HF0
  generalize P.length % 64 = u at hD HF0 hu
  have hbl : (bs.length : Int) < 18446744073709551616 := by omega
  have hw1 : IntKind.u64.wrap (bs.length : Int) = (bs.length : Int) := wrap_few64 _ (by omega) (by omega)
  have hw2 : IntKind.u64.wrap (z + (bs.length : Int)) = z + (bs.length : Int) := wrap_few64 _ (by omega) (by omega)
  obtain ⟨un, hun⟩ : ∃ n, (P ++ bs).length % 64 = n := ⟨_, rfl⟩
  rw [hun]
  have HUN := Lib.hid hun
  clear hun
  have HK := Lib.hid hk
  have HV := Lib.hid hv
  obtain ⟨A, c, rfl, hbc, hcm⟩ := hv.1.len
  have cz := hD.size
  have fz := hD.frozen 73
  have HDS : Hid (∀ x, DgAt (w.setCell ⟨g, 73, none⟩ (.int .u64 x)) g st blk u x) := fun x => hD.setSize x
  have HOS : Hid (∀ x, Only g w (w.setCell ⟨g, 73, none⟩ (.int .u64 x))) := fun x => (Only.refl g w).set 73 _
  have HST := Lib.hid hst
  clear hD hst hk hv
  go_enter Tryd.func55, Tryd.ntmps55
  go_wp2_with fail
  go_loopw [1] (fun vv wr => ∃ (r : List UInt8) (S : List Int) (B : List UInt8) (n : Nat) (x : Int), Hid (FedTo (mixP Ks) st0 P bs r S B n) ∧ n < 64 ∧ lenV vv = r.length ∧ Hid (SlNot wr g vv r) ∧ Hid (W32L S) ∧ Hid (DgAt wr g S B n x) ∧ Hid (Only g w wr) ∧ Hid (x = z + (bs.length : Int))) (fun vv _ => lenV vv)
  case atStart => exact ⟨bs, st, blk, u, _, HF0, hu, rfl, HV.out.only (HOS.out _), HST, HDS.out _, HOS.out _, (by first | rfl | (unfold Hid; omega))⟩
  case round =>
    obtain ⟨r, S, B, n, x, HF, hn, hlen, HR, HS, HD, HO, HX⟩ := hrel
    clear HF0 hw1 hw2 hbl
    clear HDS HOS cz fz HV HST hbc hcm
    obtain ⟨A1, c1, rfl, hrc, hcm⟩ := HR.out.1.len
    have hm2 : r.length ≤ 9223372036854775807 := by unfold maxLen at hcm; omega
    have hgs1 : g < wr.heap.size := by have := HO.out.size; omega
    clear hlen
    by_cases h0 : r.length = 0
    · have hq : ¬ (0 : Int) < (r.length : Int) := by omega
      go_wp2_with fail
      go_end0
      obtain ⟨hS9, hB9, hn9⟩ := HF.out.done h0
      rw [HUN.out] at hn9
      rw [← hS9, ← hB9, ← hn9, ← HX.out]
      exact ⟨rfl, HS.out, HD.out, HO.out⟩
    · have hq : (0 : Int) < (r.length : Int) := by omega
      go_wp2_with fail
      obtain ⟨W0, hW0⟩ : ∃ v, wr.drew = v := ⟨_, rfl⟩
      have HD0 : Hid (DgAt W0 g S B n x) := by rw [← hW0]; exact HD.out
      have HO0 : Hid (Only g w W0) := by rw [← hW0]; exact HO.out.drew
      have HR0 : Hid (SlNot W0 g (.slice A1 r.length c1) r) := by rw [← hW0]; exact HR.out.only ((Only.refl g wr).drew)
      have hgs0 : g < W0.heap.size := by rw [← hW0]; exact hgs1
      have hsb := fun W => slice_blk g n hn W
      clear HD HO HR
      refine region_begin hW0 (S := fun W => Only g w W ∧ W.cell? ⟨g, 72, none⟩ = some (.int .i64 n)) (by kernel_rfl) ⟨HO0.out, HD0.out.used⟩ (fun hHeld => ?_)
      clear hW0
      refine take_at (i := 0) (.pointer (some ⟨g, 0, none⟩)) (some 18) (by decide) (by rfl) (by kernel_rfl) (by kernel_rfl) (by kernel_rfl) (fun _ _ _ h => h) (by rfl) (fun W hW => by go_simp) (by assumption) ?_
      try simp only [Act.put, List.setIfInBounds_toArray, List.set_cons_zero, List.set_cons_succ]
      refine take_at (i := 1) (.pointer (some ⟨g, 0, none⟩)) (some 19) (by decide) (by rfl) (by kernel_rfl) (by kernel_rfl) (by kernel_rfl) (fun _ _ _ h => h) (by rfl) (fun W hW => by go_simp) (by assumption) ?_
      try simp only [Act.put, List.setIfInBounds_toArray, List.set_cons_zero, List.set_cons_succ]
      refine take_at (i := 2) (.pointer (some ⟨g, 8, none⟩)) (some 20) (by decide) (by rfl) (by kernel_rfl) (by kernel_rfl) (by kernel_rfl) (fun _ _ _ h => h) (by rfl) (fun W hW => by go_simp) (by assumption) ?_
      try simp only [Act.put, List.setIfInBounds_toArray, List.set_cons_zero, List.set_cons_succ]
      refine take_at (i := 3) (.pointer (some ⟨g, 0, none⟩)) (some 21) (by decide) (by rfl) (by kernel_rfl) (by kernel_rfl) (by kernel_rfl) (fun _ _ _ h => h) (by rfl) (fun W hW => by go_simp) (by assumption) ?_
      try simp only [Act.put, List.setIfInBounds_toArray, List.set_cons_zero, List.set_cons_succ]
      refine take_at (i := 4) (.pointer (some ⟨g, 0, none⟩)) (some 22) (by decide) (by rfl) (by kernel_rfl) (by kernel_rfl) (by kernel_rfl) (fun _ _ _ h => h) (by rfl) (fun W hW => by go_simp) (by assumption) ?_
      try simp only [Act.put, List.setIfInBounds_toArray, List.set_cons_zero, List.set_cons_succ]
      refine take_at (i := 5) (.pointer (some ⟨g, 72, none⟩)) (some 23) (by decide) (by rfl) (by kernel_rfl) (by kernel_rfl) (by kernel_rfl) (fun _ _ _ h => h) (by rfl) (fun W hW => by go_simp) (by assumption) ?_
      try simp only [Act.put, List.setIfInBounds_toArray, List.set_cons_zero, List.set_cons_succ]
      refine take_at (i := 6) (.int .i64 (n : Int)) (some 24) (by decide) (by rfl) (by kernel_rfl) (by kernel_rfl) (by kernel_rfl) (fun _ _ _ h => h) (by rfl) (fun W hW => by have h9 := hW.2; go_simp) (by assumption) ?_
      try simp only [Act.put, List.setIfInBounds_toArray, List.set_cons_zero, List.set_cons_succ]
      refine take_at (i := 7) (.slice (some ⟨g, 8 + n, none⟩) (64 - n) (64 - n)) (some 25) (by decide) (by rfl) (by kernel_rfl) (by kernel_rfl) (by kernel_rfl) (fun _ _ _ h => h) (by rfl) (fun W hW => by go_simp) (by assumption) ?_
      try simp only [Act.put, List.setIfInBounds_toArray, List.set_cons_zero, List.set_cons_succ]
      refine take_at (i := 8) (.slice A1 r.length c1) (some 26) (by decide) (by rfl) (by kernel_rfl) (by kernel_rfl) (by kernel_rfl) (fun _ _ _ h => h) (by rfl) (fun W hW => by go_simp) (by assumption) ?_
      try simp only [Act.put, List.setIfInBounds_toArray, List.set_cons_zero, List.set_cons_succ]
      refine wpAnyH_ready (rs := [9]) (by kernel_rfl) (by simp) (AllReadyH.cons (Array.getElem?_eq_getElem (i := 9) (by decide)) (fun K9 hK => ?_) AllReadyH.nil)
      refine step_copy_blk rfl _ _ rfl HD0.out n hn rfl _ W0.heap.size r rfl HR0.out.1 ?_
      intro w5 hd5 hg5
      have HD5 := Lib.hid hd5
      have HO5 := Lib.hid (HO0.out.grown hg5)
      have HR5 := Lib.hid (HR0.out.only ((Only.refl g W0).grown hg5))
      have hgs5 : g < w5.heap.size := by have := hg5.size; omega
      clear hd5 hg5 HD0 HO0 HR0
      refine hK.out _ _ (⟨HO5.out, HD5.out.used⟩) (fun hHeld => ?_)
      clear hK K9
      try simp only [Act.put, List.setIfInBounds_toArray, List.set_cons_zero, List.set_cons_succ]
      obtain ⟨m, hm⟩ : ∃ m, Nat.min r.length (64 - n) = m := ⟨_, rfl⟩
      have hm1 : m ≤ r.length := by rw [← hm]; exact Nat.min_le_left _ _
      have hm3 : m ≤ 64 - n := by rw [← hm]; exact Nat.min_le_right _ _
      have hm4 : 0 < m := by rw [← hm]; exact Nat.lt_min.2 ⟨by omega, by omega⟩
      rw [hm]
      refine take_at (i := 10) (.int .i64 (m : Int)) (some 4) (by decide) (by rfl) (by kernel_rfl) (by kernel_rfl) (by kernel_rfl) (fun _ _ _ h => h) (by rfl) (fun W hW => by go_simp) (by assumption) ?_
      try simp only [Act.put, List.setIfInBounds_toArray, List.set_cons_zero, List.set_cons_succ]
      refine wpAnyH_done (by kernel_rfl) ?_ _
      try simp only [Act.put, List.setIfInBounds_toArray, List.set_cons_zero, List.set_cons_succ]
      have HFM := Lib.hid (fun h => HF.out.more hm h)
      have HFF := Lib.hid (fun h => HF.out.full hm h)
      generalize B.take n ++ r.take (64 - n) ++ B.drop (n + (r.take (64 - n)).length) = B5 at HD5 HFM HFF
      have hsf := fun W => slice_from A1 r.length c1 m hm1 hrc W
      have HR6 := Lib.hid (HR5.out.rest m hm1)
      have cu := HD5.out.used
      have fu := HD5.out.frozen 72
      have HD6 := Lib.hid (HD5.out.setUsed ((n : Int) + m))
      have HO6 := Lib.hid ((Only.refl g w5).set 72 (.int .i64 ((n : Int) + m)))
      clear hsb hm HR5
      generalize (if c1 = m then A1 else A1.map (·.add m)) = A6 at hsf HR6
      by_cases hfull : n + m = 64
      · have hq64 : ((n : Int) + (m : Int) == 64) = true := by rw [beq_iff_eq]; omega
        rw [show (n : Int) + (m : Int) = 64 by omega] at HD6 HO6
        have hk6 := HK.out.only (HO5.out.trans HO6.out) hg
        have hgs6 : g < (w5.setCell ⟨g, 72, none⟩ (.int .i64 64)).heap.size := by simp; omega
        obtain ⟨S7, hS7e⟩ : ∃ S7, mixP Ks S B5 = S7 := ⟨_, rfl⟩
        have HF7 := Lib.hid (HFF.out hfull)
        rw [hS7e] at HF7
        have HTK := Lib.hid (take_x Ks S7 g S B5 64 x _ hS7e HD6.out HS.out hk6 hg hgs6)
        clear hS7e HFM HFF HF
        have e64 : (n : Int) + (m : Int) = 64 := by omega
        clear hk6 hgs6
        go_wp2_with fail
        refine HTK.out.mono ?_
        rintro q7 w7 ⟨rfl, hS7, hd7, ho7⟩
        have HD7 := Lib.hid hd7
        have HS7 := Lib.hid hS7
        have HO7 := Lib.hid ho7
        clear hd7 hS7 ho7
        go_wp2_with fail
        go_roundw
        case rel => exact ⟨r.drop m, S7, zer 64, 0, x, HF7, by omega, by simp [lenV], (HR6.out.only HO6.out).only HO7.out, HS7, HD7, (HO5.out.trans HO6.out).trans HO7.out, HX⟩
        case measure => simp [lenV]; omega
      · have hq64 : ((n : Int) + (m : Int) == 64) = false := by rw [beq_eq_false_iff_ne]; omega
        have hnm : n + m < 64 := by omega
        have HF7 := Lib.hid (HFM.out hnm)
        clear HFM HFF HF
        go_wp2_with fail
        go_roundw
        case rel => exact ⟨r.drop m, S, B5, n + m, x, HF7, hnm, by simp [lenV], HR6.out.only HO6.out, HS, by unfold Hid; rw [Int.natCast_add]; exact HD6.out, HO5.out.trans HO6.out, HX⟩
        case measure => simp [lenV]; omega

end Go.Proofs.YthbahbcihaebeaaDoor.Cd

/-
  What stands behind all bytes: the digest's end. Conditions: none.
-/
namespace Go.Proofs.YthbahbcihaebeaaDoor.Cd
open Go.RowKit

set_option maxRecDepth 100000 in
set_option maxHeartbeats 3200000 in
theorem shend_any (g : Nat) (st : List Int) (blk : List UInt8) (u : Nat) (z : Int) (w : World) (hD : DgAt w g st blk u z) (hu : u < 64) (hst : W32L st) (hk : KeysAt w) (hg : 0 < g) (hgs : g < w.heap.size) :
    Calls Tryd.prog 56 #[.pointer (some ⟨g, 0, none⟩)] w fun e w' => e = .returned (.tuple #[]) ∧ ∃ S : List Int, W32L S ∧ (∃ (B : List UInt8) (n x : Int), DgAt w' g S B n x) ∧ Only g w w' := by
  have cz := hD.size
  have hone : Own (w.alloc (.cells #[.int .u8 128] 5)) (w.heap.size) (.slice (some ⟨w.heap.size, 0, none⟩) 1 1) [128] := own_byte w w.heap.size (Nat.le_refl _) 128
  have hO1 : Only g w (w.alloc (.cells #[.int .u8 128] 5)) := Only.of ((Below.refl _ _).alloc (Nat.le_refl _) _)
  have hV1 : SlNot (w.alloc (.cells #[.int .u8 128] 5)) g (.slice (some ⟨w.heap.size, 0, none⟩) 1 1) [128] := ⟨hone.sl, fun A n c e _ => by injection e with e; injection e with e; subst e; show w.heap.size ≠ g; omega⟩
  have hD1 : DgAt (w.alloc (.cells #[.int .u8 128] 5)) g st blk u z := hD.heap (Below.heap_alloc _ _ _ hgs)
  have HKW := Lib.hid hk
  have HADD := Lib.hid (shadd_any g st blk u z _ [128] _ hD1 hu hst (hk.only hO1 hg) hg (by simp; omega) hV1)
  have HK1 := Lib.hid (hk.only hO1 hg)
  have HO1 := Lib.hid hO1
  clear hone hV1 hD1 hO1 hD hst hk
  go_enter Tryd.func56, Tryd.ntmps56
  go_wp2_with fail
  refine HADD.out.mono ?_
  rintro q2 w2 ⟨rfl, S2, B2, n2, hn2, hS2, ⟨x2, hd2⟩, ho2⟩
  have hgs2 : g < w2.heap.size := by have := ho2.size; simp at this; omega
  have HD2 := Lib.hid hd2
  have HS2 := Lib.hid hS2
  have HO2 := Lib.hid (HO1.out.trans ho2)
  have HK2 := Lib.hid (HK1.out.only ho2 hg)
  have cu := hd2.used
  clear hd2 hS2 ho2 HADD HO1 HK1
  by_cases h56 : 56 < n2
  · have hq : (56 : Int) < (n2 : Int) := by omega
    have HTK := Lib.hid (shtake_any g S2 B2 n2 x2 w2 HD2.out HS2.out HK2.out hg hgs2)
    go_wp2_with fail
    refine HTK.out.mono ?_
    rintro q3 w3 ⟨rfl, S3, hS3, hd3, ho3⟩
    have HD3 := Lib.hid hd3
    have HS3 := Lib.hid hS3
    have HO3 := Lib.hid (HO2.out.trans ho3)
    clear hd3 hS3 ho3 HTK HD2 HO2 cu
    go_wp2_with fail
    go_loopw [19] (fun i wr => ∃ (k : Nat) (S : List Int) (B : List UInt8) (n : Int) (x : Int), k ≤ 8 ∧ i = .int .i64 k ∧ Hid (W32L S) ∧ Hid (DgAt wr g S B n x) ∧ Hid (Only g w wr)) (fun i _ => 8 - (intOf i).toNat)
    case atStart => exact ⟨0, S3, zer 64, 0, x2, by omega, rfl, HS3, HD3, HO3⟩
    case round =>
      clear HD3 HO3
      obtain ⟨k, S, B, n, x, hk, rfl, HS, HD, HO⟩ := hrel
      have hgs3 : g < wr.heap.size := by have := HO.out.size; omega
      by_cases hlt : k < 8
      · obtain ⟨s, hs⟩ : ∃ s : Nat, s = 56 - 8 * k := ⟨_, rfl⟩
        have s64 : (s : Int) ≤ 64 := by omega
        have s64n : s ≤ 64 := by omega
        have w1 : IntKind.i64.wrap (8 * (k : Int)) = 8 * (k : Int) := Go.wrap_small _ (by omega) (by omega)
        have w2' : IntKind.i64.wrap (56 - 8 * (k : Int)) = (s : Int) := by rw [show (56 : Int) - 8 * (k : Int) = (s : Int) by omega]; exact Go.wrap_small _ (by omega) (by omega)
        have w3 : IntKind.i64.wrap (56 + (k : Int)) = 56 + (k : Int) := Go.wrap_small _ (by omega) (by omega)
        have f1 : (0 : Int) ≤ 56 + (k : Int) := by omega
        have f2 : 56 + (k : Int) < 64 := by omega
        have f3 : (56 + (k : Int)).toNat = 56 + k := by omega
        go_wp2_with fail
        obtain ⟨W0, hW0⟩ : ∃ v, wr.drew = v := ⟨_, rfl⟩
        have HD0 : Hid (DgAt W0 g S B n x) := by rw [← hW0]; exact HD.out
        have HO0 : Hid (Only g w W0) := by rw [← hW0]; exact HO.out.drew
        obtain ⟨y, hy⟩ : ∃ y, y = IntKind.u64.wrap (z * 8) / 2 ^ s := ⟨_, rfl⟩
        have hyb := bounds_u8 (Go.wf_wrap .u8 y)
        obtain ⟨cb, hcb⟩ := byte_of (IntKind.u8.wrap y) hyb.1 hyb.2
        have HSB := Lib.hid (HD0.out.setByte (56 + k) (by omega) cb)
        have HOB := Lib.hid (HO0.out.set (8 + (56 + k)) (.int .u8 cb.toNat))
        have cs : W0.cell? ⟨g, 8 + (56 + k), none⟩ = some (.int .u8 (B[56 + k]'(by rw [HD0.out.2.1]; omega)).toNat) := by rw [cell_of_row _ _ _ _ _ _ HD0.out.2.2, List.getElem?_toArray]; exact dgC_block HD0.out.1 _ _ _ _
        have fs := HD0.out.frozen (8 + (56 + k))
        clear hyb HD HO
        refine region_begin hW0 (S := fun W => Only g w W) (by kernel_rfl) HO0.out (fun hHeld => ?_)
        clear hW0
        refine take_at (i := 0) (.pointer (some ⟨g, 0, none⟩)) (some 22) (by decide) (by rfl) (by kernel_rfl) (by kernel_rfl) (by kernel_rfl) (fun _ _ _ h => h) (by rfl) (fun W hW => by go_simp) (by assumption) ?_
        try simp only [Act.put, List.setIfInBounds_toArray, List.set_cons_zero, List.set_cons_succ]
        refine take_at (i := 1) (.int .i64 (k : Int)) (some 23) (by decide) (by rfl) (by kernel_rfl) (by kernel_rfl) (by kernel_rfl) (fun _ _ _ h => h) (by rfl) (fun W hW => by go_simp) (by assumption) ?_
        try simp only [Act.put, List.setIfInBounds_toArray, List.set_cons_zero, List.set_cons_succ]
        refine take_at (i := 2) (.int .i64 (56 + (k : Int))) (some 24) (by decide) (by rfl) (by kernel_rfl) (by kernel_rfl) (by kernel_rfl) (fun _ _ _ h => h) (by rfl) (fun W hW => by go_simp) (by assumption) ?_
        try simp only [Act.put, List.setIfInBounds_toArray, List.set_cons_zero, List.set_cons_succ]
        refine take_at (i := 3) (.int .u64 (IntKind.u64.wrap (z * 8))) (some 25) (by decide) (by rfl) (by kernel_rfl) (by kernel_rfl) (by kernel_rfl) (fun _ _ _ h => h) (by rfl) (fun W hW => by go_simp) (by assumption) ?_
        try simp only [Act.put, List.setIfInBounds_toArray, List.set_cons_zero, List.set_cons_succ]
        refine take_at (i := 4) (.int .i64 (k : Int)) (some 26) (by decide) (by rfl) (by kernel_rfl) (by kernel_rfl) (by kernel_rfl) (fun _ _ _ h => h) (by rfl) (fun W hW => by go_simp) (by assumption) ?_
        try simp only [Act.put, List.setIfInBounds_toArray, List.set_cons_zero, List.set_cons_succ]
        refine take_at (i := 5) (.int .i64 (8 * (k : Int))) (some 27) (by decide) (by rfl) (by kernel_rfl) (by kernel_rfl) (by kernel_rfl) (fun _ _ _ h => h) (by rfl) (fun W hW => by go_simp) (by assumption) ?_
        try simp only [Act.put, List.setIfInBounds_toArray, List.set_cons_zero, List.set_cons_succ]
        refine take_at (i := 6) (.int .i64 (s : Int)) (some 28) (by decide) (by rfl) (by kernel_rfl) (by kernel_rfl) (by kernel_rfl) (fun _ _ _ h => h) (by rfl) (fun W hW => by go_simp) (by assumption) ?_
        try simp only [Act.put, List.setIfInBounds_toArray, List.set_cons_zero, List.set_cons_succ]
        refine take_at (i := 7) (.int .u64 y) (some 29) (by decide) (by rfl) (by kernel_rfl) (by kernel_rfl) (by kernel_rfl) (fun _ _ _ h => h) (by rfl) (fun W hW => by rw [hy]; go_simp) (by assumption) ?_
        try simp only [Act.put, List.setIfInBounds_toArray, List.set_cons_zero, List.set_cons_succ]
        refine take_at (i := 8) (.int .u8 (cb.toNat : Int)) (some 30) (by decide) (by rfl) (by kernel_rfl) (by kernel_rfl) (by kernel_rfl) (fun _ _ _ h => h) (by rfl) (fun W hW => by rw [← hcb]; go_simp) (by assumption) ?_
        try simp only [Act.put, List.setIfInBounds_toArray, List.set_cons_zero, List.set_cons_succ]
        refine take_at (i := 9) (.pointer (some ⟨g, 0, none⟩)) (some 31) (by decide) (by rfl) (by kernel_rfl) (by kernel_rfl) (by kernel_rfl) (fun _ _ _ h => h) (by rfl) (fun W hW => by go_simp) (by assumption) ?_
        try simp only [Act.put, List.setIfInBounds_toArray, List.set_cons_zero, List.set_cons_succ]
        refine take_at (i := 10) (.pointer (some ⟨g, 8, none⟩)) (some 32) (by decide) (by rfl) (by kernel_rfl) (by kernel_rfl) (by kernel_rfl) (fun _ _ _ h => h) (by rfl) (fun W hW => by go_simp) (by assumption) ?_
        try simp only [Act.put, List.setIfInBounds_toArray, List.set_cons_zero, List.set_cons_succ]
        refine take_at (i := 11) (.pointer (some ⟨g, 8 + (56 + k), none⟩)) (some 33) (by decide) (by rfl) (by kernel_rfl) (by kernel_rfl) (by kernel_rfl) (fun _ _ _ h => h) (by rfl) (fun W hW => by first | (go_simp; done) | (go_simp; omega)) (by assumption) ?_
        try simp only [Act.put, List.setIfInBounds_toArray, List.set_cons_zero, List.set_cons_succ]
        clear hHeld
        refine wpAnyH_ready (rs := [12]) (by kernel_rfl) (by simp) (AllReadyH.cons (Array.getElem?_eq_getElem (i := 12) (by decide)) (fun K9 hK => ?_) AllReadyH.nil)
        rw [if_pos (by rfl)]
        unfold Oper.wp
        go_simp
        refine hK.out _ _ (HOB.out) (fun hHeld => ?_)
        clear hK K9
        try simp only [Act.put, List.setIfInBounds_toArray, List.set_cons_zero, List.set_cons_succ]
        refine wpAnyH_done (by kernel_rfl) ?_ _
        try simp only [Act.put, List.setIfInBounds_toArray, List.set_cons_zero, List.set_cons_succ]
        go_wp2_with fail
        go_roundw
        case rel => exact ⟨k + 1, S, B.set (56 + k) cb, n, x, by omega, by go_num, HS, HSB, HOB⟩
        case measure => simp [intOf]; omega
      · have HTE := Lib.hid (shtake_any g S B n x wr HD.out HS.out (HKW.out.only HO.out hg) hg hgs3)
        go_wp2_with fail
        refine HTE.out.mono ?_
        rintro q9 w9 ⟨rfl, S9, hS9, hd9, ho9⟩
        go_wp2_with fail
        go_end0
        exact ⟨rfl, S9, hS9, ⟨zer 64, 0, x, hd9⟩, HO.out.trans ho9⟩
  · have hq : ¬ (56 : Int) < (n2 : Int) := by omega
    go_wp2_with fail
    go_loopw [19] (fun i wr => ∃ (k : Nat) (S : List Int) (B : List UInt8) (n : Int) (x : Int), k ≤ 8 ∧ i = .int .i64 k ∧ Hid (W32L S) ∧ Hid (DgAt wr g S B n x) ∧ Hid (Only g w wr)) (fun i _ => 8 - (intOf i).toNat)
    case atStart => exact ⟨0, S2, B2, n2, x2, by omega, rfl, HS2, HD2, HO2⟩
    case round =>
      clear HD2 HO2
      obtain ⟨k, S, B, n, x, hk, rfl, HS, HD, HO⟩ := hrel
      have hgs3 : g < wr.heap.size := by have := HO.out.size; omega
      by_cases hlt : k < 8
      · obtain ⟨s, hs⟩ : ∃ s : Nat, s = 56 - 8 * k := ⟨_, rfl⟩
        have s64 : (s : Int) ≤ 64 := by omega
        have s64n : s ≤ 64 := by omega
        have w1 : IntKind.i64.wrap (8 * (k : Int)) = 8 * (k : Int) := Go.wrap_small _ (by omega) (by omega)
        have w2' : IntKind.i64.wrap (56 - 8 * (k : Int)) = (s : Int) := by rw [show (56 : Int) - 8 * (k : Int) = (s : Int) by omega]; exact Go.wrap_small _ (by omega) (by omega)
        have w3 : IntKind.i64.wrap (56 + (k : Int)) = 56 + (k : Int) := Go.wrap_small _ (by omega) (by omega)
        have f1 : (0 : Int) ≤ 56 + (k : Int) := by omega
        have f2 : 56 + (k : Int) < 64 := by omega
        have f3 : (56 + (k : Int)).toNat = 56 + k := by omega
        go_wp2_with fail
        obtain ⟨W0, hW0⟩ : ∃ v, wr.drew = v := ⟨_, rfl⟩
        have HD0 : Hid (DgAt W0 g S B n x) := by rw [← hW0]; exact HD.out
        have HO0 : Hid (Only g w W0) := by rw [← hW0]; exact HO.out.drew
        obtain ⟨y, hy⟩ : ∃ y, y = IntKind.u64.wrap (z * 8) / 2 ^ s := ⟨_, rfl⟩
        have hyb := bounds_u8 (Go.wf_wrap .u8 y)
        obtain ⟨cb, hcb⟩ := byte_of (IntKind.u8.wrap y) hyb.1 hyb.2
        have HSB := Lib.hid (HD0.out.setByte (56 + k) (by omega) cb)
        have HOB := Lib.hid (HO0.out.set (8 + (56 + k)) (.int .u8 cb.toNat))
        have cs : W0.cell? ⟨g, 8 + (56 + k), none⟩ = some (.int .u8 (B[56 + k]'(by rw [HD0.out.2.1]; omega)).toNat) := by rw [cell_of_row _ _ _ _ _ _ HD0.out.2.2, List.getElem?_toArray]; exact dgC_block HD0.out.1 _ _ _ _
        have fs := HD0.out.frozen (8 + (56 + k))
        clear hyb HD HO
        refine region_begin hW0 (S := fun W => Only g w W) (by kernel_rfl) HO0.out (fun hHeld => ?_)
        clear hW0
        refine take_at (i := 0) (.pointer (some ⟨g, 0, none⟩)) (some 22) (by decide) (by rfl) (by kernel_rfl) (by kernel_rfl) (by kernel_rfl) (fun _ _ _ h => h) (by rfl) (fun W hW => by go_simp) (by assumption) ?_
        try simp only [Act.put, List.setIfInBounds_toArray, List.set_cons_zero, List.set_cons_succ]
        refine take_at (i := 1) (.int .i64 (k : Int)) (some 23) (by decide) (by rfl) (by kernel_rfl) (by kernel_rfl) (by kernel_rfl) (fun _ _ _ h => h) (by rfl) (fun W hW => by go_simp) (by assumption) ?_
        try simp only [Act.put, List.setIfInBounds_toArray, List.set_cons_zero, List.set_cons_succ]
        refine take_at (i := 2) (.int .i64 (56 + (k : Int))) (some 24) (by decide) (by rfl) (by kernel_rfl) (by kernel_rfl) (by kernel_rfl) (fun _ _ _ h => h) (by rfl) (fun W hW => by go_simp) (by assumption) ?_
        try simp only [Act.put, List.setIfInBounds_toArray, List.set_cons_zero, List.set_cons_succ]
        refine take_at (i := 3) (.int .u64 (IntKind.u64.wrap (z * 8))) (some 25) (by decide) (by rfl) (by kernel_rfl) (by kernel_rfl) (by kernel_rfl) (fun _ _ _ h => h) (by rfl) (fun W hW => by go_simp) (by assumption) ?_
        try simp only [Act.put, List.setIfInBounds_toArray, List.set_cons_zero, List.set_cons_succ]
        refine take_at (i := 4) (.int .i64 (k : Int)) (some 26) (by decide) (by rfl) (by kernel_rfl) (by kernel_rfl) (by kernel_rfl) (fun _ _ _ h => h) (by rfl) (fun W hW => by go_simp) (by assumption) ?_
        try simp only [Act.put, List.setIfInBounds_toArray, List.set_cons_zero, List.set_cons_succ]
        refine take_at (i := 5) (.int .i64 (8 * (k : Int))) (some 27) (by decide) (by rfl) (by kernel_rfl) (by kernel_rfl) (by kernel_rfl) (fun _ _ _ h => h) (by rfl) (fun W hW => by go_simp) (by assumption) ?_
        try simp only [Act.put, List.setIfInBounds_toArray, List.set_cons_zero, List.set_cons_succ]
        refine take_at (i := 6) (.int .i64 (s : Int)) (some 28) (by decide) (by rfl) (by kernel_rfl) (by kernel_rfl) (by kernel_rfl) (fun _ _ _ h => h) (by rfl) (fun W hW => by go_simp) (by assumption) ?_
        try simp only [Act.put, List.setIfInBounds_toArray, List.set_cons_zero, List.set_cons_succ]
        refine take_at (i := 7) (.int .u64 y) (some 29) (by decide) (by rfl) (by kernel_rfl) (by kernel_rfl) (by kernel_rfl) (fun _ _ _ h => h) (by rfl) (fun W hW => by rw [hy]; go_simp) (by assumption) ?_
        try simp only [Act.put, List.setIfInBounds_toArray, List.set_cons_zero, List.set_cons_succ]
        refine take_at (i := 8) (.int .u8 (cb.toNat : Int)) (some 30) (by decide) (by rfl) (by kernel_rfl) (by kernel_rfl) (by kernel_rfl) (fun _ _ _ h => h) (by rfl) (fun W hW => by rw [← hcb]; go_simp) (by assumption) ?_
        try simp only [Act.put, List.setIfInBounds_toArray, List.set_cons_zero, List.set_cons_succ]
        refine take_at (i := 9) (.pointer (some ⟨g, 0, none⟩)) (some 31) (by decide) (by rfl) (by kernel_rfl) (by kernel_rfl) (by kernel_rfl) (fun _ _ _ h => h) (by rfl) (fun W hW => by go_simp) (by assumption) ?_
        try simp only [Act.put, List.setIfInBounds_toArray, List.set_cons_zero, List.set_cons_succ]
        refine take_at (i := 10) (.pointer (some ⟨g, 8, none⟩)) (some 32) (by decide) (by rfl) (by kernel_rfl) (by kernel_rfl) (by kernel_rfl) (fun _ _ _ h => h) (by rfl) (fun W hW => by go_simp) (by assumption) ?_
        try simp only [Act.put, List.setIfInBounds_toArray, List.set_cons_zero, List.set_cons_succ]
        refine take_at (i := 11) (.pointer (some ⟨g, 8 + (56 + k), none⟩)) (some 33) (by decide) (by rfl) (by kernel_rfl) (by kernel_rfl) (by kernel_rfl) (fun _ _ _ h => h) (by rfl) (fun W hW => by first | (go_simp; done) | (go_simp; omega)) (by assumption) ?_
        try simp only [Act.put, List.setIfInBounds_toArray, List.set_cons_zero, List.set_cons_succ]
        clear hHeld
        refine wpAnyH_ready (rs := [12]) (by kernel_rfl) (by simp) (AllReadyH.cons (Array.getElem?_eq_getElem (i := 12) (by decide)) (fun K9 hK => ?_) AllReadyH.nil)
        rw [if_pos (by rfl)]
        unfold Oper.wp
        go_simp
        refine hK.out _ _ (HOB.out) (fun hHeld => ?_)
        clear hK K9
        try simp only [Act.put, List.setIfInBounds_toArray, List.set_cons_zero, List.set_cons_succ]
        refine wpAnyH_done (by kernel_rfl) ?_ _
        try simp only [Act.put, List.setIfInBounds_toArray, List.set_cons_zero, List.set_cons_succ]
        go_wp2_with fail
        go_roundw
        case rel => exact ⟨k + 1, S, B.set (56 + k) cb, n, x, by omega, by go_num, HS, HSB, HOB⟩
        case measure => simp [intOf]; omega
      · have HTE := Lib.hid (shtake_any g S B n x wr HD.out HS.out (HKW.out.only HO.out hg) hg hgs3)
        go_wp2_with fail
        refine HTE.out.mono ?_
        rintro q9 w9 ⟨rfl, S9, hS9, hd9, ho9⟩
        go_wp2_with fail
        go_end0
        exact ⟨rfl, S9, hS9, ⟨zer 64, 0, x, hd9⟩, HO.out.trans ho9⟩

end Go.Proofs.YthbahbcihaebeaaDoor.Cd

/-
  What stands behind all bytes, told exactly: the digest's end. Conditions: none.
-/
namespace Go.Proofs.YthbahbcihaebeaaDoor.Cd
open Go.RowKit

theorem tail_byte (n s : Nat) (cb : UInt8) (hn : 8 * n < 18446744073709551616) (h : IntKind.u8.wrap (IntKind.u64.wrap ((n : Int) * 8) / 2 ^ s) = (cb.toNat : Int)) : cb = UInt8.ofNat (8 * n / 2 ^ s) := by
  rw [wrap_few64 _ (by omega) (by omega), show ((n : Int) * 8) = ((8 * n : Nat) : Int) by omega, show ((2 : Int) ^ s) = ((2 ^ s : Nat) : Int) by simp, ← Int.natCast_ediv, IntKind.wrap_u8'] at h
  apply UInt8.toNat_inj.1
  rw [UInt8.toNat_ofNat']
  omega

set_option maxRecDepth 100000 in
set_option maxHeartbeats 3200000 in
theorem end_x (Ks : List Int) (P : List UInt8) (g : Nat) (w : World) (hD : DgAt w g (stF (mixP Ks) st0 P) (blkF P) (P.length % 64 : Nat) P.length) (hP : 8 * P.length + 8 < 18446744073709551616) (hst : W32L (stF (mixP Ks) st0 P)) (hk : KeysIs Ks w) (hg : 0 < g) (hgs : g < w.heap.size) :
    Calls Tryd.prog 56 #[.pointer (some ⟨g, 0, none⟩)] w fun e w' => e = .returned (.tuple #[]) ∧ W32L (endF (mixP Ks) st0 P) ∧ (∃ (B : List UInt8) (n x : Int), DgAt w' g (endF (mixP Ks) st0 P) B n x) ∧ Only g w w' := by
  obtain ⟨z, hz⟩ : ∃ z : Int, z = (P.length : Int) := ⟨_, rfl⟩
  rw [← hz] at hD
  have HZ := Lib.hid hz
  have HZ8 : Hid (8 * P.length < 18446744073709551616) := by unfold Hid; omega
  have cz := hD.size
  have hone : Own (w.alloc (.cells #[.int .u8 128] 5)) (w.heap.size) (.slice (some ⟨w.heap.size, 0, none⟩) 1 1) [128] := own_byte w w.heap.size (Nat.le_refl _) 128
  have hO1 : Only g w (w.alloc (.cells #[.int .u8 128] 5)) := Only.of ((Below.refl _ _).alloc (Nat.le_refl _) _)
  have hV1 : SlNot (w.alloc (.cells #[.int .u8 128] 5)) g (.slice (some ⟨w.heap.size, 0, none⟩) 1 1) [128] := ⟨hone.sl, fun A n c e _ => by injection e with e; injection e with e; subst e; show w.heap.size ≠ g; omega⟩
  have hD1 : DgAt (w.alloc (.cells #[.int .u8 128] 5)) g (stF (mixP Ks) st0 P) (blkF P) (P.length % 64 : Nat) z := hD.heap (Below.heap_alloc _ _ _ hgs)
  have HKW := Lib.hid hk
  have HADD := Lib.hid (add_x Ks P [128] g z _ _ hst hD1 (by omega) (by simp; omega) (hk.only hO1 hg) hg (by simp; omega) hV1)
  have HK1 := Lib.hid (hk.only hO1 hg)
  have HO1 := Lib.hid hO1
  have HFW := Lib.hid (endF_few (mixP Ks) st0 P)
  have HMN := Lib.hid (endF_many (mixP Ks) st0 P)
  have HN : Hid ((P ++ [128]).length % 64 < 64) := Nat.mod_lt _ (by omega)
  obtain ⟨E, hE⟩ : ∃ E, endF (mixP Ks) st0 P = E := ⟨_, rfl⟩
  rw [hE] at HFW HMN ⊢
  clear hone hV1 hD1 hO1 hD hst hk hz hE
  generalize stF (mixP Ks) st0 (P ++ [128]) = S2 at HADD HFW HMN
  generalize blkF (P ++ [128]) = B2 at HADD HFW HMN
  generalize (P ++ [128]).length % 64 = n2 at HADD HFW HMN HN
  go_enter Tryd.func56, Tryd.ntmps56
  go_wp2_with fail
  refine HADD.out.mono ?_
  rintro q2 w2 ⟨rfl, hS2, hd2, ho2⟩
  have hgs2 : g < w2.heap.size := by have := ho2.size; simp at this; omega
  generalize z + (([128] : List UInt8).length : Int) = x2 at hd2
  have HD2 := Lib.hid hd2
  have HS2 := Lib.hid hS2
  have HO2 := Lib.hid (HO1.out.trans ho2)
  have HK2 := Lib.hid (HK1.out.only ho2 hg)
  have cu := hd2.used
  clear hd2 hS2 ho2 HADD HO1 HK1
  by_cases h56 : 56 < n2
  · have hq : (56 : Int) < (n2 : Int) := by omega
    obtain ⟨S, hSe⟩ : ∃ S, mixP Ks S2 B2 = S := ⟨_, rfl⟩
    have HFIN := Lib.hid (HMN.out h56).symm
    rw [hSe] at HFIN
    have HTK := Lib.hid (take_x Ks S g S2 B2 n2 x2 w2 hSe HD2.out HS2.out HK2.out hg hgs2)
    clear hSe HFW HMN HN
    obtain ⟨B0, hB0⟩ : ∃ B0 : List UInt8, zer 64 = B0 := ⟨_, rfl⟩
    obtain ⟨n, hn⟩ : ∃ n : Int, n = 0 := ⟨_, rfl⟩
    obtain ⟨x, hx⟩ : ∃ x : Int, x = x2 := ⟨_, rfl⟩
    rw [hB0] at HFIN
    go_wp2_with fail
    refine HTK.out.mono ?_
    rintro q3 w3 ⟨rfl, hS3, hd3, ho3⟩
    rw [hB0, ← hn, ← hx] at hd3
    have HD1 := Lib.hid hd3
    have HS := Lib.hid hS3
    have HO1 := Lib.hid (HO2.out.trans ho3)
    clear hd3 hS3 ho3 HTK HD2 HO2 cu hB0 hn hx
    go_wp2_with fail
    go_loopw [19] (fun i wr => ∃ (k : Nat) (B : List UInt8), k ≤ 8 ∧ i = .int .i64 k ∧ Hid (B.take (56 + k) = B0.take 56 ++ (tail8 P.length).take k) ∧ Hid (DgAt wr g S B n x) ∧ Hid (Only g w wr)) (fun i _ => 8 - (intOf i).toNat)
    case atStart => exact ⟨0, B0, by omega, rfl, by unfold Hid; simp, HD1, HO1⟩
    case round =>
      clear HD1 HO1
      obtain ⟨k, B, hk, rfl, HT, HD, HO⟩ := hrel
      have hgs3 : g < wr.heap.size := by have := HO.out.size; omega
      by_cases hlt : k < 8
      · obtain ⟨s, hs⟩ : ∃ s : Nat, s = 56 - 8 * k := ⟨_, rfl⟩
        have s64 : (s : Int) ≤ 64 := by omega
        have s64n : s ≤ 64 := by omega
        have w1 : IntKind.i64.wrap (8 * (k : Int)) = 8 * (k : Int) := Go.wrap_small _ (by omega) (by omega)
        have w2' : IntKind.i64.wrap (56 - 8 * (k : Int)) = (s : Int) := by rw [show (56 : Int) - 8 * (k : Int) = (s : Int) by omega]; exact Go.wrap_small _ (by omega) (by omega)
        have w3 : IntKind.i64.wrap (56 + (k : Int)) = 56 + (k : Int) := Go.wrap_small _ (by omega) (by omega)
        have f1 : (0 : Int) ≤ 56 + (k : Int) := by omega
        have f2 : 56 + (k : Int) < 64 := by omega
        have f3 : (56 + (k : Int)).toNat = 56 + k := by omega
        go_wp2_with fail
        obtain ⟨W0, hW0⟩ : ∃ v, wr.drew = v := ⟨_, rfl⟩
        have HD0 : Hid (DgAt W0 g S B n x) := by rw [← hW0]; exact HD.out
        have HO0 : Hid (Only g w W0) := by rw [← hW0]; exact HO.out.drew
        obtain ⟨y, hy⟩ : ∃ y, y = IntKind.u64.wrap (z * 8) / 2 ^ s := ⟨_, rfl⟩
        have hyb := bounds_u8 (Go.wf_wrap .u8 y)
        obtain ⟨cb, hcb⟩ := byte_of (IntKind.u8.wrap y) hyb.1 hyb.2
        have HCB : Hid (cb = UInt8.ofNat (8 * P.length / 2 ^ (56 - 8 * k))) := by
          unfold Hid
          rw [hy, HZ.out] at hcb
          rw [← hs]
          exact tail_byte P.length s cb HZ8.out hcb
        have HSB := Lib.hid (HD0.out.setByte (56 + k) (by omega) cb)
        have HOB := Lib.hid (HO0.out.set (8 + (56 + k)) (.int .u8 cb.toNat))
        have hB64 := HD0.out.2.1
        have HT2 : Hid ((B.set (56 + k) cb).take (56 + (k + 1)) = B0.take 56 ++ (tail8 P.length).take (k + 1)) := by
          unfold Hid
          rw [show 56 + (k + 1) = 56 + k + 1 by omega, put_tail B (56 + k) (by omega) cb, HT.out, tail8_at _ k hlt, HCB.out, List.append_assoc]
        clear hB64
        have cs : W0.cell? ⟨g, 8 + (56 + k), none⟩ = some (.int .u8 (B[56 + k]'(by rw [HD0.out.2.1]; omega)).toNat) := by rw [cell_of_row _ _ _ _ _ _ HD0.out.2.2, List.getElem?_toArray]; exact dgC_block HD0.out.1 _ _ _ _
        have fs := HD0.out.frozen (8 + (56 + k))
        clear hyb HD HO
        refine region_begin hW0 (S := fun W => Only g w W) (by kernel_rfl) HO0.out (fun hHeld => ?_)
        clear hW0
        refine take_at (i := 0) (.pointer (some ⟨g, 0, none⟩)) (some 22) (by decide) (by rfl) (by kernel_rfl) (by kernel_rfl) (by kernel_rfl) (fun _ _ _ h => h) (by rfl) (fun W hW => by go_simp) (by assumption) ?_
        try simp only [Act.put, List.setIfInBounds_toArray, List.set_cons_zero, List.set_cons_succ]
        refine take_at (i := 1) (.int .i64 (k : Int)) (some 23) (by decide) (by rfl) (by kernel_rfl) (by kernel_rfl) (by kernel_rfl) (fun _ _ _ h => h) (by rfl) (fun W hW => by go_simp) (by assumption) ?_
        try simp only [Act.put, List.setIfInBounds_toArray, List.set_cons_zero, List.set_cons_succ]
        refine take_at (i := 2) (.int .i64 (56 + (k : Int))) (some 24) (by decide) (by rfl) (by kernel_rfl) (by kernel_rfl) (by kernel_rfl) (fun _ _ _ h => h) (by rfl) (fun W hW => by go_simp) (by assumption) ?_
        try simp only [Act.put, List.setIfInBounds_toArray, List.set_cons_zero, List.set_cons_succ]
        refine take_at (i := 3) (.int .u64 (IntKind.u64.wrap (z * 8))) (some 25) (by decide) (by rfl) (by kernel_rfl) (by kernel_rfl) (by kernel_rfl) (fun _ _ _ h => h) (by rfl) (fun W hW => by go_simp) (by assumption) ?_
        try simp only [Act.put, List.setIfInBounds_toArray, List.set_cons_zero, List.set_cons_succ]
        refine take_at (i := 4) (.int .i64 (k : Int)) (some 26) (by decide) (by rfl) (by kernel_rfl) (by kernel_rfl) (by kernel_rfl) (fun _ _ _ h => h) (by rfl) (fun W hW => by go_simp) (by assumption) ?_
        try simp only [Act.put, List.setIfInBounds_toArray, List.set_cons_zero, List.set_cons_succ]
        refine take_at (i := 5) (.int .i64 (8 * (k : Int))) (some 27) (by decide) (by rfl) (by kernel_rfl) (by kernel_rfl) (by kernel_rfl) (fun _ _ _ h => h) (by rfl) (fun W hW => by go_simp) (by assumption) ?_
        try simp only [Act.put, List.setIfInBounds_toArray, List.set_cons_zero, List.set_cons_succ]
        refine take_at (i := 6) (.int .i64 (s : Int)) (some 28) (by decide) (by rfl) (by kernel_rfl) (by kernel_rfl) (by kernel_rfl) (fun _ _ _ h => h) (by rfl) (fun W hW => by go_simp) (by assumption) ?_
        try simp only [Act.put, List.setIfInBounds_toArray, List.set_cons_zero, List.set_cons_succ]
        refine take_at (i := 7) (.int .u64 y) (some 29) (by decide) (by rfl) (by kernel_rfl) (by kernel_rfl) (by kernel_rfl) (fun _ _ _ h => h) (by rfl) (fun W hW => by rw [hy]; go_simp) (by assumption) ?_
        try simp only [Act.put, List.setIfInBounds_toArray, List.set_cons_zero, List.set_cons_succ]
        refine take_at (i := 8) (.int .u8 (cb.toNat : Int)) (some 30) (by decide) (by rfl) (by kernel_rfl) (by kernel_rfl) (by kernel_rfl) (fun _ _ _ h => h) (by rfl) (fun W hW => by rw [← hcb]; go_simp) (by assumption) ?_
        try simp only [Act.put, List.setIfInBounds_toArray, List.set_cons_zero, List.set_cons_succ]
        refine take_at (i := 9) (.pointer (some ⟨g, 0, none⟩)) (some 31) (by decide) (by rfl) (by kernel_rfl) (by kernel_rfl) (by kernel_rfl) (fun _ _ _ h => h) (by rfl) (fun W hW => by go_simp) (by assumption) ?_
        try simp only [Act.put, List.setIfInBounds_toArray, List.set_cons_zero, List.set_cons_succ]
        refine take_at (i := 10) (.pointer (some ⟨g, 8, none⟩)) (some 32) (by decide) (by rfl) (by kernel_rfl) (by kernel_rfl) (by kernel_rfl) (fun _ _ _ h => h) (by rfl) (fun W hW => by go_simp) (by assumption) ?_
        try simp only [Act.put, List.setIfInBounds_toArray, List.set_cons_zero, List.set_cons_succ]
        refine take_at (i := 11) (.pointer (some ⟨g, 8 + (56 + k), none⟩)) (some 33) (by decide) (by rfl) (by kernel_rfl) (by kernel_rfl) (by kernel_rfl) (fun _ _ _ h => h) (by rfl) (fun W hW => by first | (go_simp; done) | (go_simp; omega)) (by assumption) ?_
        try simp only [Act.put, List.setIfInBounds_toArray, List.set_cons_zero, List.set_cons_succ]
        clear hHeld
        refine wpAnyH_ready (rs := [12]) (by kernel_rfl) (by simp) (AllReadyH.cons (Array.getElem?_eq_getElem (i := 12) (by decide)) (fun K9 hK => ?_) AllReadyH.nil)
        rw [if_pos (by rfl)]
        unfold Oper.wp
        go_simp
        refine hK.out _ _ (HOB.out) (fun hHeld => ?_)
        clear hK K9
        try simp only [Act.put, List.setIfInBounds_toArray, List.set_cons_zero, List.set_cons_succ]
        refine wpAnyH_done (by kernel_rfl) ?_ _
        try simp only [Act.put, List.setIfInBounds_toArray, List.set_cons_zero, List.set_cons_succ]
        go_wp2_with fail
        go_roundw
        case rel => exact ⟨k + 1, B.set (56 + k) cb, by omega, by go_num, HT2, HSB, HOB⟩
        case measure => simp [intOf]; omega
      · obtain rfl : k = 8 := by omega
        have hB8 : B = B0.take 56 ++ tail8 P.length := by
          have h1 := HT.out
          have h2 := HD.out.2.1
          have h3 := tail8_length P.length
          rw [List.take_of_length_le (by omega), List.take_of_length_le (l := tail8 P.length) (by omega)] at h1
          exact h1
        rw [← hB8] at HFIN
        have HTE := Lib.hid (take_x Ks _ g S B n x wr HFIN.out HD.out HS.out (HKW.out.only HO.out hg) hg hgs3)
        clear hB8 HFIN HT
        go_wp2_with fail
        refine HTE.out.mono ?_
        rintro q9 w9 ⟨rfl, hS9, hd9, ho9⟩
        go_wp2_with fail
        go_end0
        exact ⟨rfl, hS9, ⟨zer 64, 0, x, hd9⟩, HO.out.trans ho9⟩
  · have hq : ¬ (56 : Int) < (n2 : Int) := by omega
    obtain ⟨B0, hB0⟩ : ∃ B0 : List UInt8, B2 = B0 := ⟨_, rfl⟩
    obtain ⟨n, hn⟩ : ∃ n : Int, (n2 : Int) = n := ⟨_, rfl⟩
    obtain ⟨x, hx⟩ : ∃ x : Int, x2 = x := ⟨_, rfl⟩
    obtain ⟨S, hSe⟩ : ∃ S, S2 = S := ⟨_, rfl⟩
    have HFIN := Lib.hid (HFW.out (by omega)).symm
    rw [hB0, hSe] at HFIN
    rw [hSe] at HS2
    have HS := HS2
    go_wp2_with fail
    rw [hB0, hSe, hn, hx] at HD2
    have HD1 := HD2
    have HO1 := HO2
    clear HD2 HO2 HS2 hB0 hSe hn hx
    go_loopw [19] (fun i wr => ∃ (k : Nat) (B : List UInt8), k ≤ 8 ∧ i = .int .i64 k ∧ Hid (B.take (56 + k) = B0.take 56 ++ (tail8 P.length).take k) ∧ Hid (DgAt wr g S B n x) ∧ Hid (Only g w wr)) (fun i _ => 8 - (intOf i).toNat)
    case atStart => exact ⟨0, B0, by omega, rfl, by unfold Hid; simp, HD1, HO1⟩
    case round =>
      clear HD1 HO1
      obtain ⟨k, B, hk, rfl, HT, HD, HO⟩ := hrel
      have hgs3 : g < wr.heap.size := by have := HO.out.size; omega
      by_cases hlt : k < 8
      · obtain ⟨s, hs⟩ : ∃ s : Nat, s = 56 - 8 * k := ⟨_, rfl⟩
        have s64 : (s : Int) ≤ 64 := by omega
        have s64n : s ≤ 64 := by omega
        have w1 : IntKind.i64.wrap (8 * (k : Int)) = 8 * (k : Int) := Go.wrap_small _ (by omega) (by omega)
        have w2' : IntKind.i64.wrap (56 - 8 * (k : Int)) = (s : Int) := by rw [show (56 : Int) - 8 * (k : Int) = (s : Int) by omega]; exact Go.wrap_small _ (by omega) (by omega)
        have w3 : IntKind.i64.wrap (56 + (k : Int)) = 56 + (k : Int) := Go.wrap_small _ (by omega) (by omega)
        have f1 : (0 : Int) ≤ 56 + (k : Int) := by omega
        have f2 : 56 + (k : Int) < 64 := by omega
        have f3 : (56 + (k : Int)).toNat = 56 + k := by omega
        go_wp2_with fail
        obtain ⟨W0, hW0⟩ : ∃ v, wr.drew = v := ⟨_, rfl⟩
        have HD0 : Hid (DgAt W0 g S B n x) := by rw [← hW0]; exact HD.out
        have HO0 : Hid (Only g w W0) := by rw [← hW0]; exact HO.out.drew
        obtain ⟨y, hy⟩ : ∃ y, y = IntKind.u64.wrap (z * 8) / 2 ^ s := ⟨_, rfl⟩
        have hyb := bounds_u8 (Go.wf_wrap .u8 y)
        obtain ⟨cb, hcb⟩ := byte_of (IntKind.u8.wrap y) hyb.1 hyb.2
        have HCB : Hid (cb = UInt8.ofNat (8 * P.length / 2 ^ (56 - 8 * k))) := by
          unfold Hid
          rw [hy, HZ.out] at hcb
          rw [← hs]
          exact tail_byte P.length s cb HZ8.out hcb
        have HSB := Lib.hid (HD0.out.setByte (56 + k) (by omega) cb)
        have HOB := Lib.hid (HO0.out.set (8 + (56 + k)) (.int .u8 cb.toNat))
        have hB64 := HD0.out.2.1
        have HT2 : Hid ((B.set (56 + k) cb).take (56 + (k + 1)) = B0.take 56 ++ (tail8 P.length).take (k + 1)) := by
          unfold Hid
          rw [show 56 + (k + 1) = 56 + k + 1 by omega, put_tail B (56 + k) (by omega) cb, HT.out, tail8_at _ k hlt, HCB.out, List.append_assoc]
        clear hB64
        have cs : W0.cell? ⟨g, 8 + (56 + k), none⟩ = some (.int .u8 (B[56 + k]'(by rw [HD0.out.2.1]; omega)).toNat) := by rw [cell_of_row _ _ _ _ _ _ HD0.out.2.2, List.getElem?_toArray]; exact dgC_block HD0.out.1 _ _ _ _
        have fs := HD0.out.frozen (8 + (56 + k))
        clear hyb HD HO
        refine region_begin hW0 (S := fun W => Only g w W) (by kernel_rfl) HO0.out (fun hHeld => ?_)
        clear hW0
        refine take_at (i := 0) (.pointer (some ⟨g, 0, none⟩)) (some 22) (by decide) (by rfl) (by kernel_rfl) (by kernel_rfl) (by kernel_rfl) (fun _ _ _ h => h) (by rfl) (fun W hW => by go_simp) (by assumption) ?_
        try simp only [Act.put, List.setIfInBounds_toArray, List.set_cons_zero, List.set_cons_succ]
        refine take_at (i := 1) (.int .i64 (k : Int)) (some 23) (by decide) (by rfl) (by kernel_rfl) (by kernel_rfl) (by kernel_rfl) (fun _ _ _ h => h) (by rfl) (fun W hW => by go_simp) (by assumption) ?_
        try simp only [Act.put, List.setIfInBounds_toArray, List.set_cons_zero, List.set_cons_succ]
        refine take_at (i := 2) (.int .i64 (56 + (k : Int))) (some 24) (by decide) (by rfl) (by kernel_rfl) (by kernel_rfl) (by kernel_rfl) (fun _ _ _ h => h) (by rfl) (fun W hW => by go_simp) (by assumption) ?_
        try simp only [Act.put, List.setIfInBounds_toArray, List.set_cons_zero, List.set_cons_succ]
        refine take_at (i := 3) (.int .u64 (IntKind.u64.wrap (z * 8))) (some 25) (by decide) (by rfl) (by kernel_rfl) (by kernel_rfl) (by kernel_rfl) (fun _ _ _ h => h) (by rfl) (fun W hW => by go_simp) (by assumption) ?_
        try simp only [Act.put, List.setIfInBounds_toArray, List.set_cons_zero, List.set_cons_succ]
        refine take_at (i := 4) (.int .i64 (k : Int)) (some 26) (by decide) (by rfl) (by kernel_rfl) (by kernel_rfl) (by kernel_rfl) (fun _ _ _ h => h) (by rfl) (fun W hW => by go_simp) (by assumption) ?_
        try simp only [Act.put, List.setIfInBounds_toArray, List.set_cons_zero, List.set_cons_succ]
        refine take_at (i := 5) (.int .i64 (8 * (k : Int))) (some 27) (by decide) (by rfl) (by kernel_rfl) (by kernel_rfl) (by kernel_rfl) (fun _ _ _ h => h) (by rfl) (fun W hW => by go_simp) (by assumption) ?_
        try simp only [Act.put, List.setIfInBounds_toArray, List.set_cons_zero, List.set_cons_succ]
        refine take_at (i := 6) (.int .i64 (s : Int)) (some 28) (by decide) (by rfl) (by kernel_rfl) (by kernel_rfl) (by kernel_rfl) (fun _ _ _ h => h) (by rfl) (fun W hW => by go_simp) (by assumption) ?_
        try simp only [Act.put, List.setIfInBounds_toArray, List.set_cons_zero, List.set_cons_succ]
        refine take_at (i := 7) (.int .u64 y) (some 29) (by decide) (by rfl) (by kernel_rfl) (by kernel_rfl) (by kernel_rfl) (fun _ _ _ h => h) (by rfl) (fun W hW => by rw [hy]; go_simp) (by assumption) ?_
        try simp only [Act.put, List.setIfInBounds_toArray, List.set_cons_zero, List.set_cons_succ]
        refine take_at (i := 8) (.int .u8 (cb.toNat : Int)) (some 30) (by decide) (by rfl) (by kernel_rfl) (by kernel_rfl) (by kernel_rfl) (fun _ _ _ h => h) (by rfl) (fun W hW => by rw [← hcb]; go_simp) (by assumption) ?_
        try simp only [Act.put, List.setIfInBounds_toArray, List.set_cons_zero, List.set_cons_succ]
        refine take_at (i := 9) (.pointer (some ⟨g, 0, none⟩)) (some 31) (by decide) (by rfl) (by kernel_rfl) (by kernel_rfl) (by kernel_rfl) (fun _ _ _ h => h) (by rfl) (fun W hW => by go_simp) (by assumption) ?_
        try simp only [Act.put, List.setIfInBounds_toArray, List.set_cons_zero, List.set_cons_succ]
        refine take_at (i := 10) (.pointer (some ⟨g, 8, none⟩)) (some 32) (by decide) (by rfl) (by kernel_rfl) (by kernel_rfl) (by kernel_rfl) (fun _ _ _ h => h) (by rfl) (fun W hW => by go_simp) (by assumption) ?_
        try simp only [Act.put, List.setIfInBounds_toArray, List.set_cons_zero, List.set_cons_succ]
        refine take_at (i := 11) (.pointer (some ⟨g, 8 + (56 + k), none⟩)) (some 33) (by decide) (by rfl) (by kernel_rfl) (by kernel_rfl) (by kernel_rfl) (fun _ _ _ h => h) (by rfl) (fun W hW => by first | (go_simp; done) | (go_simp; omega)) (by assumption) ?_
        try simp only [Act.put, List.setIfInBounds_toArray, List.set_cons_zero, List.set_cons_succ]
        clear hHeld
        refine wpAnyH_ready (rs := [12]) (by kernel_rfl) (by simp) (AllReadyH.cons (Array.getElem?_eq_getElem (i := 12) (by decide)) (fun K9 hK => ?_) AllReadyH.nil)
        rw [if_pos (by rfl)]
        unfold Oper.wp
        go_simp
        refine hK.out _ _ (HOB.out) (fun hHeld => ?_)
        clear hK K9
        try simp only [Act.put, List.setIfInBounds_toArray, List.set_cons_zero, List.set_cons_succ]
        refine wpAnyH_done (by kernel_rfl) ?_ _
        try simp only [Act.put, List.setIfInBounds_toArray, List.set_cons_zero, List.set_cons_succ]
        go_wp2_with fail
        go_roundw
        case rel => exact ⟨k + 1, B.set (56 + k) cb, by omega, by go_num, HT2, HSB, HOB⟩
        case measure => simp [intOf]; omega
      · obtain rfl : k = 8 := by omega
        have hB8 : B = B0.take 56 ++ tail8 P.length := by
          have h1 := HT.out
          have h2 := HD.out.2.1
          have h3 := tail8_length P.length
          rw [List.take_of_length_le (by omega), List.take_of_length_le (l := tail8 P.length) (by omega)] at h1
          exact h1
        rw [← hB8] at HFIN
        have HTE := Lib.hid (take_x Ks _ g S B n x wr HFIN.out HD.out HS.out (HKW.out.only HO.out hg) hg hgs3)
        clear hB8 HFIN HT
        go_wp2_with fail
        refine HTE.out.mono ?_
        rintro q9 w9 ⟨rfl, hS9, hd9, ho9⟩
        go_wp2_with fail
        go_end0
        exact ⟨rfl, hS9, ⟨zer 64, 0, x, hd9⟩, HO.out.trans ho9⟩

end Go.Proofs.YthbahbcihaebeaaDoor.Cd

/-
  A state's bytes: the digest's sum. Conditions: none.
-/
namespace Go.Proofs.YthbahbcihaebeaaDoor.Cd
open Go.RowKit

set_option maxRecDepth 100000 in
set_option maxHeartbeats 3200000 in
theorem dsum_any (g : Nat) (st : List Int) (blk : List UInt8) (u z : Int) (w : World) (hD : DgAt w g st blk u z) (hgs : g < w.heap.size) :
    Calls Tryd.prog 57 #[.pointer (some ⟨g, 0, none⟩)] w fun e w' => ∃ D : List UInt8, D.length = 32 ∧ e = .returned (.agg (vb D).toArray) ∧ Below w.heap.size w w' := by
  have hD1 : DgAt ((w.alloc (.cells (vb (zer 32)).toArray 25)).alloc (.cells (vb (zer 32)).toArray 25)) g st blk u z := hD.heap ((Below.heap_alloc _ _ _ (by simp; omega)).trans (Below.heap_alloc _ _ _ hgs))
  have hb1 : Below w.heap.size w ((w.alloc (.cells (vb (zer 32)).toArray 25)).alloc (.cells (vb (zer 32)).toArray 25)) := ((Below.refl _ _).alloc (Nat.le_refl _) _).alloc (by simp) _
  have ho1 : ((w.alloc (.cells (vb (zer 32)).toArray 25)).alloc (.cells (vb (zer 32)).toArray 25)).heap[w.heap.size + 1]? = some (.cells (vb (zer 32)).toArray 25) := by
    have h := heap_alloc_new (w.alloc (.cells (vb (zer 32)).toArray 25)) (.cells (vb (zer 32)).toArray 25)
    rwa [asz] at h
  have hr1 : ((w.alloc (.cells (vb (zer 32)).toArray 25)).alloc (.cells (vb (zer 32)).toArray 25)).heap[w.heap.size]? = some (.cells (vb (zer 32)).toArray 25) := (Below.heap_alloc _ _ _ (by simp)).trans (heap_alloc_new _ _)
  have HD1 := Lib.hid hD1
  have HB1 := Lib.hid hb1
  have HO1 := Lib.hid ho1
  have HR1 := Lib.hid hr1
  clear hD hD1 hb1 ho1 hr1
  go_enter Tryd.func57, Tryd.ntmps57
  go_wp2_with (refine wp_alloc_row zero_32 rfl rfl ?_)
  go_loopw [5] (fun i wr => ∃ (k : Nat) (D : List UInt8), k ≤ 32 ∧ i = .int .i64 k ∧ D.length = 32 ∧ Hid (wr.heap[w.heap.size + 1]? = some (.cells (vb D).toArray 25)) ∧ Hid (wr.heap[w.heap.size]? = some (.cells (vb (zer 32)).toArray 25)) ∧ Hid (DgAt wr g st blk u z) ∧ Hid (Below w.heap.size w wr)) (fun i _ => 32 - (intOf i).toNat)
  case atStart => exact ⟨0, zer 32, by omega, rfl, zer_length 32, HO1, HR1, HD1, HB1⟩
  case round =>
    clear HO1 HR1 HD1 HB1
    obtain ⟨k, D, hk, rfl, hD, HO, HR, HD, HB⟩ := hrel
    by_cases hlt : k < 32
    · obtain ⟨q, hq⟩ : ∃ q : Nat, q = k / 4 := ⟨_, rfl⟩
      obtain ⟨m, hm⟩ : ∃ m : Nat, m = k % 4 := ⟨_, rfl⟩
      obtain ⟨s, hs⟩ : ∃ s : Nat, s = 24 - 8 * m := ⟨_, rfl⟩
      have q1 : (k : Int) / 4 = (q : Int) := by omega
      have q2 : (k : Int).tdiv 4 = (q : Int) := by rw [Int.tdiv_eq_ediv_of_nonneg (by omega)]; exact q1
      have m1 : (k : Int) % 4 = (m : Int) := by omega
      have m2 : (k : Int).tmod 4 = (m : Int) := by rw [Int.tmod_eq_emod_of_nonneg (by omega)]; exact m1
      have q3 : (q : Int) < 8 := by omega
      have w1 : IntKind.i64.wrap (8 * (m : Int)) = 8 * (m : Int) := Go.wrap_small _ (by omega) (by omega)
      have w2' : IntKind.i64.wrap (24 - 8 * (m : Int)) = (s : Int) := by rw [show (24 : Int) - 8 * (m : Int) = (s : Int) by omega]; exact Go.wrap_small _ (by omega) (by omega)
      have w3 : (24 : Int) - 8 * (m : Int) = (s : Int) := by omega
      have s32 : (s : Int) ≤ 32 := by omega
      have s32n : s ≤ 32 := by omega
      have k32 : (k : Int) < 32 := by omega
      have hst8 := HD.out.1
      have hqs : q < st.length := by omega
      have cS : wr.cell? ⟨g, q, none⟩ = some (.int .u32 st[q]) := by
        have := HD.out.stRange q _ (vw_at st q hqs)
        rwa [Nat.zero_add] at this
      generalize st[q] = x at cS
      obtain ⟨y, hy⟩ : ∃ y, x / 2 ^ s = y := ⟨_, rfl⟩
      have hyb := bounds_u8 (Go.wf_wrap .u8 y)
      obtain ⟨cb, hcb⟩ := byte_of (IntKind.u8.wrap y) hyb.1 hyb.2
      have hkD : k < D.length := by omega
      have cO : wr.cell? ⟨w.heap.size + 1, k, none⟩ = some (.int .u8 (D[k]).toNat) := by
        rw [cell_of_row _ _ _ _ _ _ HO.out, List.getElem?_toArray]
        exact vb_at D k hkD
      generalize D[k] = b9 at cO
      have fO : wr.frozen? ⟨w.heap.size + 1, k, none⟩ = false := frozen_of_row _ _ _ _ _ HO.out
      have HO2 : Hid ((wr.setCell ⟨w.heap.size + 1, k, none⟩ (.int .u8 cb.toNat)).heap[w.heap.size + 1]? = some (.cells (vb (D.set k cb)).toArray 25)) := by
        have h := heap_setCell_same wr (w.heap.size + 1) k _ _ (.int .u8 cb.toNat) HO.out
        rw [List.setIfInBounds_toArray] at h
        rw [show vb (D.set k cb) = (vb D).set k (.int .u8 cb.toNat) by simp [vb, List.map_set]]
        exact h
      have HR2 : Hid ((wr.setCell ⟨w.heap.size + 1, k, none⟩ (.int .u8 cb.toNat)).heap[w.heap.size]? = some (.cells (vb (zer 32)).toArray 25)) := (Below.heap_setCell wr ⟨w.heap.size + 1, k, none⟩ _ _ (by show w.heap.size ≠ w.heap.size + 1; omega)).trans HR.out
      have HD2 : Hid (DgAt (wr.setCell ⟨w.heap.size + 1, k, none⟩ (.int .u8 cb.toNat)) g st blk u z) := HD.out.heap (Below.heap_setCell wr ⟨w.heap.size + 1, k, none⟩ _ _ (by show g ≠ w.heap.size + 1; omega))
      have HB2 : Hid (Below w.heap.size w (wr.setCell ⟨w.heap.size + 1, k, none⟩ (.int .u8 cb.toNat))) := HB.out.setCell (by show w.heap.size ≤ w.heap.size + 1; omega) _
      clear hq hm hs hyb HO HR HD HB hst8
      go_wp2_with fail
      go_roundw
      case rel => exact ⟨k + 1, D.set k cb, by omega, by go_num, by simp [hD], HO2, HR2, HD2, HB2⟩
      case measure => simp [intOf]; omega
    · obtain rfl : k = 32 := by omega
      clear hlt hk
      go_wp2_with (first
        | (refine wpList_load_row rfl 25 _ rfl (w.heap.size + 1) rfl 25 (vb D).toArray (0, 0) _ HO.out Tryd.underlying25 rfl (by rw [vb_size, hD]; exact cells_32) ?_)
        | (refine wp_put_row cells_32 rfl _ _ rfl w.heap.size rfl rfl (by rw [vb_size, hD]) (id_one D) (vb (zer 32)).toArray (by rw [vb_size, zer_length]) 25 HR.out ?hK9))
      intro w9 h9 hg9
      have hb9 : Below w.heap.size w w9 := HB.out.grown hg9 (by have := HB.out.size; omega) (fun k hk => by injection hk with hk; omega)
      go_wp2_with fail
      exact bodyPost_ret (v := .agg (vb D).toArray) (results_cell_row Tryd.results57 _ w9 w.heap.size 25 (vb D).toArray (0, 0) _ rfl h9 Tryd.underlying25 rfl (by rw [vb_size, hD]; exact cells_32)) rfl ⟨D, hD, rfl, hb9⟩

end Go.Proofs.YthbahbcihaebeaaDoor.Cd

/-
  A state's bytes, told exactly: the digest's sum. Conditions: none.
-/
namespace Go.Proofs.YthbahbcihaebeaaDoor.Cd
open Go.RowKit

/-- The bytes of a state. -/
def sumS (st : List Int) : List UInt8 := (List.range 32).map fun i => UInt8.ofNat ((st.getD (i / 4) 0).toNat / 2 ^ (24 - 8 * (i % 4)))
theorem sumS_length (st : List Int) : (sumS st).length = 32 := by simp [sumS]
theorem sumS_at (st : List Int) (k : Nat) (hk : k < 32) : (sumS st).take (k + 1) = (sumS st).take k ++ [UInt8.ofNat ((st.getD (k / 4) 0).toNat / 2 ^ (24 - 8 * (k % 4)))] := by
  rw [List.take_add_one]
  congr 1
  unfold sumS
  rw [List.getElem?_map, List.getElem?_range hk]
  rfl
theorem sum_byte (x : Int) (s : Nat) (cb : UInt8) (hx : 0 ≤ x) (h : IntKind.u8.wrap (x / 2 ^ s) = (cb.toNat : Int)) : UInt8.ofNat (x.toNat / 2 ^ s) = cb := by
  obtain ⟨n, rfl⟩ : ∃ n : Nat, x = n := ⟨x.toNat, by omega⟩
  rw [show ((2 : Int) ^ s) = ((2 ^ s : Nat) : Int) by simp, ← Int.natCast_ediv, IntKind.wrap_u8'] at h
  apply UInt8.toNat_inj.1
  rw [UInt8.toNat_ofNat', Int.toNat_natCast]
  omega

set_option maxRecDepth 100000 in
set_option maxHeartbeats 3200000 in
theorem dsum_x (g : Nat) (st : List Int) (blk : List UInt8) (u z : Int) (w : World) (hD : DgAt w g st blk u z) (hsw : W32L st) (hgs : g < w.heap.size) :
    Calls Tryd.prog 57 #[.pointer (some ⟨g, 0, none⟩)] w fun e w' => e = .returned (.agg (vb (sumS st)).toArray) ∧ Below w.heap.size w w' := by
  have hD1 : DgAt ((w.alloc (.cells (vb (zer 32)).toArray 25)).alloc (.cells (vb (zer 32)).toArray 25)) g st blk u z := hD.heap ((Below.heap_alloc _ _ _ (by simp; omega)).trans (Below.heap_alloc _ _ _ hgs))
  have hb1 : Below w.heap.size w ((w.alloc (.cells (vb (zer 32)).toArray 25)).alloc (.cells (vb (zer 32)).toArray 25)) := ((Below.refl _ _).alloc (Nat.le_refl _) _).alloc (by simp) _
  have ho1 : ((w.alloc (.cells (vb (zer 32)).toArray 25)).alloc (.cells (vb (zer 32)).toArray 25)).heap[w.heap.size + 1]? = some (.cells (vb (zer 32)).toArray 25) := by
    have h := heap_alloc_new (w.alloc (.cells (vb (zer 32)).toArray 25)) (.cells (vb (zer 32)).toArray 25)
    rwa [asz] at h
  have hr1 : ((w.alloc (.cells (vb (zer 32)).toArray 25)).alloc (.cells (vb (zer 32)).toArray 25)).heap[w.heap.size]? = some (.cells (vb (zer 32)).toArray 25) := (Below.heap_alloc _ _ _ (by simp)).trans (heap_alloc_new _ _)
  have HSW := Lib.hid hsw
  have HD1 := Lib.hid hD1
  have HB1 := Lib.hid hb1
  have HO1 := Lib.hid ho1
  have HR1 := Lib.hid hr1
  clear hD hD1 hb1 ho1 hr1 hsw
  go_enter Tryd.func57, Tryd.ntmps57
  go_wp2_with (refine wp_alloc_row zero_32 rfl rfl ?_)
  go_loopw [5] (fun i wr => ∃ (k : Nat) (D : List UInt8), k ≤ 32 ∧ i = .int .i64 k ∧ D.length = 32 ∧ Hid (D.take k = (sumS st).take k) ∧ Hid (wr.heap[w.heap.size + 1]? = some (.cells (vb D).toArray 25)) ∧ Hid (wr.heap[w.heap.size]? = some (.cells (vb (zer 32)).toArray 25)) ∧ Hid (DgAt wr g st blk u z) ∧ Hid (Below w.heap.size w wr)) (fun i _ => 32 - (intOf i).toNat)
  case atStart => exact ⟨0, zer 32, by omega, rfl, zer_length 32, rfl, HO1, HR1, HD1, HB1⟩
  case round =>
    clear HO1 HR1 HD1 HB1
    obtain ⟨k, D, hk, rfl, hD, HT, HO, HR, HD, HB⟩ := hrel
    by_cases hlt : k < 32
    · obtain ⟨q, hq⟩ : ∃ q : Nat, q = k / 4 := ⟨_, rfl⟩
      obtain ⟨m, hm⟩ : ∃ m : Nat, m = k % 4 := ⟨_, rfl⟩
      obtain ⟨s, hs⟩ : ∃ s : Nat, s = 24 - 8 * m := ⟨_, rfl⟩
      have q1 : (k : Int) / 4 = (q : Int) := by omega
      have q2 : (k : Int).tdiv 4 = (q : Int) := by rw [Int.tdiv_eq_ediv_of_nonneg (by omega)]; exact q1
      have m1 : (k : Int) % 4 = (m : Int) := by omega
      have m2 : (k : Int).tmod 4 = (m : Int) := by rw [Int.tmod_eq_emod_of_nonneg (by omega)]; exact m1
      have q3 : (q : Int) < 8 := by omega
      have w1 : IntKind.i64.wrap (8 * (m : Int)) = 8 * (m : Int) := Go.wrap_small _ (by omega) (by omega)
      have w2' : IntKind.i64.wrap (24 - 8 * (m : Int)) = (s : Int) := by rw [show (24 : Int) - 8 * (m : Int) = (s : Int) by omega]; exact Go.wrap_small _ (by omega) (by omega)
      have w3 : (24 : Int) - 8 * (m : Int) = (s : Int) := by omega
      have s32 : (s : Int) ≤ 32 := by omega
      have s32n : s ≤ 32 := by omega
      have k32 : (k : Int) < 32 := by omega
      have hst8 := HD.out.1
      have hqs : q < st.length := by omega
      have cS : wr.cell? ⟨g, q, none⟩ = some (.int .u32 st[q]) := by
        have := HD.out.stRange q _ (vw_at st q hqs)
        rwa [Nat.zero_add] at this
      have gq : st.getD (k / 4) 0 = st[q] := by rw [← hq, List.getD_eq_getElem?_getD, List.getElem?_eq_getElem hqs]; rfl
      have hx0 := (HSW.out st[q] (List.getElem_mem hqs)).1
      generalize st[q] = x at cS gq hx0
      obtain ⟨y, hy⟩ : ∃ y, x / 2 ^ s = y := ⟨_, rfl⟩
      have hyb := bounds_u8 (Go.wf_wrap .u8 y)
      obtain ⟨cb, hcb⟩ := byte_of (IntKind.u8.wrap y) hyb.1 hyb.2
      have hkD : k < D.length := by omega
      have HT2 : Hid ((D.set k cb).take (k + 1) = (sumS st).take (k + 1)) := by
        unfold Hid
        rw [put_tail D k hkD cb, HT.out, sumS_at st k hlt, gq, ← hm, ← hs, sum_byte x s cb hx0 (by rw [hy]; exact hcb)]
      clear gq hx0
      have cO : wr.cell? ⟨w.heap.size + 1, k, none⟩ = some (.int .u8 (D[k]).toNat) := by
        rw [cell_of_row _ _ _ _ _ _ HO.out, List.getElem?_toArray]
        exact vb_at D k hkD
      generalize D[k] = b9 at cO
      have fO : wr.frozen? ⟨w.heap.size + 1, k, none⟩ = false := frozen_of_row _ _ _ _ _ HO.out
      have HO2 : Hid ((wr.setCell ⟨w.heap.size + 1, k, none⟩ (.int .u8 cb.toNat)).heap[w.heap.size + 1]? = some (.cells (vb (D.set k cb)).toArray 25)) := by
        have h := heap_setCell_same wr (w.heap.size + 1) k _ _ (.int .u8 cb.toNat) HO.out
        rw [List.setIfInBounds_toArray] at h
        rw [show vb (D.set k cb) = (vb D).set k (.int .u8 cb.toNat) by simp [vb, List.map_set]]
        exact h
      have HR2 : Hid ((wr.setCell ⟨w.heap.size + 1, k, none⟩ (.int .u8 cb.toNat)).heap[w.heap.size]? = some (.cells (vb (zer 32)).toArray 25)) := (Below.heap_setCell wr ⟨w.heap.size + 1, k, none⟩ _ _ (by show w.heap.size ≠ w.heap.size + 1; omega)).trans HR.out
      have HD2 : Hid (DgAt (wr.setCell ⟨w.heap.size + 1, k, none⟩ (.int .u8 cb.toNat)) g st blk u z) := HD.out.heap (Below.heap_setCell wr ⟨w.heap.size + 1, k, none⟩ _ _ (by show g ≠ w.heap.size + 1; omega))
      have HB2 : Hid (Below w.heap.size w (wr.setCell ⟨w.heap.size + 1, k, none⟩ (.int .u8 cb.toNat))) := HB.out.setCell (by show w.heap.size ≤ w.heap.size + 1; omega) _
      clear hq hm hs hyb HO HR HD HB hst8
      go_wp2_with fail
      go_roundw
      case rel => exact ⟨k + 1, D.set k cb, by omega, by go_num, by simp [hD], HT2, HO2, HR2, HD2, HB2⟩
      case measure => simp [intOf]; omega
    · obtain rfl : k = 32 := by omega
      have hDe : D = sumS st := by
        have h1 := HT.out
        have h2 := sumS_length st
        rwa [List.take_of_length_le (by omega), List.take_of_length_le (by omega)] at h1
      have HDE := Lib.hid hDe
      clear hlt hk hDe HT
      go_wp2_with (first
        | (refine wpList_load_row rfl 25 _ rfl (w.heap.size + 1) rfl 25 (vb D).toArray (0, 0) _ HO.out Tryd.underlying25 rfl (by rw [vb_size, hD]; exact cells_32) ?_)
        | (refine wp_put_row cells_32 rfl _ _ rfl w.heap.size rfl rfl (by rw [vb_size, hD]) (id_one D) (vb (zer 32)).toArray (by rw [vb_size, zer_length]) 25 HR.out ?hK9))
      intro w9 h9 hg9
      have hb9 : Below w.heap.size w w9 := HB.out.grown hg9 (by have := HB.out.size; omega) (fun k hk => by injection hk with hk; omega)
      go_wp2_with fail
      exact bodyPost_ret (v := .agg (vb D).toArray) (results_cell_row Tryd.results57 _ w9 w.heap.size 25 (vb D).toArray (0, 0) _ rfl h9 Tryd.underlying25 rfl (by rw [vb_size, hD]; exact cells_32)) rfl ⟨by rw [HDE.out], hb9⟩

end Go.Proofs.YthbahbcihaebeaaDoor.Cd

/-
  sha.Of answers thirty-two bytes, of any pieces. Conditions: none.
-/
namespace Go.Proofs.YthbahbcihaebeaaDoor.Cd
open Go.RowKit

theorem zero_dg (W : World) : (zeroValue 108).run Tryd.prog W = .ok (.agg (dgC (zerw 8) (zer 64) 0 0).toArray) W := by kernel_rfl
theorem cells_dg : (Tryd.prog.info? 108).map (·.size) = some 74 := by kernel_rfl
theorem built_dg : Tryd.prog.built 108 [(0, .agg #[.int .u32 1779033703, .int .u32 3144134277, .int .u32 1013904242, .int .u32 2773480762, .int .u32 1359893119, .int .u32 2600822924, .int .u32 528734635, .int .u32 1541459225])] = some (dgC st0 (zer 64) 0 0).toArray := by kernel_rfl
theorem dg_one (st : List Int) (blk : List UInt8) (u z : Int) : ∀ v ∈ (dgC st blk u z).toArray.toList, v.oneCell' = true := fun v hv => by
  simp only [dgC, List.mem_append] at hv
  rcases hv with hv | hv | hv
  · exact vw_one st v (by simpa using hv)
  · exact vb_one blk v hv
  · simp only [List.mem_cons, List.not_mem_nil, or_false] at hv
    rcases hv with rfl | rfl <;> rfl

set_option maxRecDepth 100000 in
set_option maxHeartbeats 3200000 in
theorem shof_any (v : Value) (l : List (List UInt8)) (w : World) (h : Sls w w.heap.size v l) (hk : KeysAt w) :
    Calls Tryd.prog 40 #[v] w fun e w' => ∃ D : List UInt8, D.length = 32 ∧ e = .returned (.agg (vb D).toArray) ∧ Below w.heap.size w w' := by
  obtain ⟨A, c, rfl, h2, h3, h4⟩ := h
  have HAT := Lib.hid h4
  have HK := Lib.hid hk
  have hm2 : l.length ≤ 9223372036854775807 := by unfold maxLen at h3; omega
  have hw0 := hk.1
  clear h4 h3 hk
  have hd2 : DgAt ((w.alloc (.cells (vb (zer 32)).toArray 25)).alloc (.cells (dgC st0 (zer 64) 0 0).toArray 108)) (w.heap.size + 1) st0 (zer 64) 0 0 := by
    have h := heap_alloc_new (w.alloc (.cells (vb (zer 32)).toArray 25)) (.cells (dgC st0 (zer 64) 0 0).toArray 108)
    rw [asz] at h
    exact ⟨rfl, zer_length 64, h⟩
  have hr2 : ((w.alloc (.cells (vb (zer 32)).toArray 25)).alloc (.cells (dgC st0 (zer 64) 0 0).toArray 108)).heap[w.heap.size]? = some (.cells (vb (zer 32)).toArray 25) := (Below.heap_alloc _ _ _ (by simp)).trans (heap_alloc_new _ _)
  have hb2 : Below w.heap.size w ((w.alloc (.cells (vb (zer 32)).toArray 25)).alloc (.cells (dgC st0 (zer 64) 0 0).toArray 108)) := ((Below.refl _ _).alloc (Nat.le_refl _) _).alloc (by simp) _
  have hs2 : w.heap.size + 2 ≤ ((w.alloc (.cells (vb (zer 32)).toArray 25)).alloc (.cells (dgC st0 (zer 64) 0 0).toArray 108)).heap.size := by simp
  have HD2 := Lib.hid hd2
  have HR2 := Lib.hid hr2
  have HB2 := Lib.hid hb2
  clear hd2 hr2 hb2
  go_enter Tryd.func40, Tryd.ntmps40
  iterate 16 (try first | go_values | go_skip | go_guarded | (refine wp_alloc_row zero_32 rfl rfl ?_; try simp only [Act.put, List.setIfInBounds_toArray, List.set_cons_zero, List.set_cons_succ]) | (refine wp_alloc_row zero_dg rfl rfl ?_; try simp only [Act.put, List.setIfInBounds_toArray, List.set_cons_zero, List.set_cons_succ]) | (refine wp_build_row rfl _ rfl _ built_dg (by first | rfl | simp [Act.eval]) ?_; try simp only [Act.put, List.setIfInBounds_toArray, List.set_cons_zero, List.set_cons_succ]) | (refine wp_fill_row cells_dg rfl _ _ rfl (dgC (zerw 8) (zer 64) 0 0).toArray rfl 108 (by first | rfl | simp [Act.eval, Act.put]) rfl rfl (dg_one _ _ _ _) ?_; try simp only [Act.put, List.setIfInBounds_toArray, List.set_cons_zero, List.set_cons_succ]) | go_step | go_upon)
  simp only [asz]
  generalize (w.alloc (.cells (vb (zer 32)).toArray 25)).alloc (.cells (dgC st0 (zer 64) 0 0).toArray 108) = w2 at HD2 HR2 HB2 hs2 ⊢
  go_wp2_with fail
  go_loopw [10] (fun i wr => ∃ (k : Nat) (S : List Int) (B : List UInt8) (n : Nat) (x : Int), k ≤ l.length ∧ i = .int .i64 k ∧ n < 64 ∧ Hid (W32L S) ∧ Hid (DgAt wr (w.heap.size + 1) S B n x) ∧ Hid (wr.heap[w.heap.size]? = some (.cells (vb (zer 32)).toArray 25)) ∧ Hid (Below w.heap.size w wr) ∧ w.heap.size + 2 ≤ wr.heap.size) (fun i _ => l.length - (intOf i).toNat)
  case atStart => exact ⟨0, st0, zer 64, 0, 0, by omega, rfl, by omega, st0_w, HD2, HR2, HB2, hs2⟩
  case round =>
    clear HD2 HR2 HB2 hs2
    obtain ⟨k, S, B, n, x, hk, rfl, hn, HS, HD, HR, HB, hsr⟩ := hrel
    by_cases hlt : k < l.length
    · obtain ⟨b, off, rfl, hbB, hc⟩ := HAT.out (by omega)
      obtain ⟨y, hcell0, hy⟩ := hc k hlt
      have hcell : wr.cell? ⟨b, off + k, none⟩ = some y := (HB.out.cell (p := ⟨b, off + k, none⟩) hbB).trans hcell0
      have hyv : SlNot wr (w.heap.size + 1) y l[k] := by
        have h9 := hy.below HB.out
        refine ⟨h9.more HB.out.size, fun A9 n9 c9 e h0 => ?_⟩
        obtain ⟨A8, c8, e8, _, _, _, h5, _⟩ := h9
        rw [e8] at e
        injection e with e
        have := h5 A9 e h0
        omega
      have HADD := Lib.hid (shadd_any (w.heap.size + 1) S B n x y l[k] wr HD.out hn HS.out (HK.out.below HB.out hw0) (by omega) (by omega) hyv)
      obtain ⟨A8, c8, e8, _, _⟩ := hyv.1.len
      clear hc hcell0 hy hyv HD HS
      generalize l[k] = pc at HADD e8
      subst e8
      go_wp2_with fail
      refine HADD.out.mono ?_
      rintro q3 w3 ⟨rfl, S3, B3, n3, hn3, hS3, ⟨x3, hd3⟩, ho3⟩
      have HR3 : Hid (w3.heap[w.heap.size]? = some (.cells (vb (zer 32)).toArray 25)) := (ho3.block _ (by omega) (by omega)).trans HR.out
      have HB3 : Hid (Below w.heap.size w w3) := HB.out.trans (ho3.low (by omega) (by omega))
      have hs3 : w.heap.size + 2 ≤ w3.heap.size := by have := ho3.size; omega
      have HD3 := Lib.hid hd3
      have HS3 := Lib.hid hS3
      clear hd3 hS3 ho3 HR HB HADD
      go_wp2_with fail
      go_roundw
      case rel => exact ⟨k + 1, S3, B3, n3, x3, by omega, by go_num, hn3, HS3, HD3, HR3, HB3, hs3⟩
      case measure => simp [intOf]; omega
    · have HEN := Lib.hid (shend_any (w.heap.size + 1) S B n x wr HD.out hn HS.out (HK.out.below HB.out hw0) (by omega) (by omega))
      clear HD HS
      go_wp2_with fail
      refine HEN.out.mono ?_
      rintro q3 w3 ⟨rfl, S3, hS3, ⟨B3, n3, x3, hd3⟩, ho3⟩
      have HR3 : Hid (w3.heap[w.heap.size]? = some (.cells (vb (zer 32)).toArray 25)) := (ho3.block _ (by omega) (by omega)).trans HR.out
      have HB3 : Hid (Below w.heap.size w w3) := HB.out.trans (ho3.low (by omega) (by omega))
      have hs3 : w.heap.size + 2 ≤ w3.heap.size := by have := ho3.size; omega
      have HSM := Lib.hid (dsum_any (w.heap.size + 1) S3 B3 n3 x3 w3 hd3 (by omega))
      clear hd3 hS3 ho3 HR HB HEN
      go_wp2_with fail
      refine HSM.out.mono ?_
      rintro q4 w4 ⟨D, hD, rfl, hb4⟩
      have HR4 : Hid (w4.heap[w.heap.size]? = some (.cells (vb (zer 32)).toArray 25)) := (hb4.block _ (by omega)).trans HR3.out
      have HB4 : Hid (Below w.heap.size w w4) := HB3.out.trans (hb4.mono (by omega))
      have hs4 : w.heap.size + 2 ≤ w4.heap.size := by have := hb4.size; omega
      clear hb4 HR3 HB3 HSM
      try dsimp only
      iterate 6 (try first | go_values | go_skip | go_guarded | (refine wp_put_row cells_32 rfl _ _ rfl w.heap.size rfl rfl (by rw [vb_size, hD]) (id_one D) (vb (zer 32)).toArray (by rw [vb_size, zer_length]) 25 HR4.out ?hK9) | go_step | go_upon)
      case hK9 =>
        intro w9 h9 hg9
        have hb9 : Below w.heap.size w w9 := HB4.out.grown hg9 (by omega) (fun k hk => by injection hk with hk; omega)
        go_wp2_with fail
        exact bodyPost_ret (v := .agg (vb D).toArray) (results_cell_row Tryd.results40 _ w9 w.heap.size 25 (vb D).toArray (0, 0) _ rfl h9 Tryd.underlying25 rfl (by rw [vb_size, hD]; exact cells_32)) rfl ⟨D, hD, rfl, hb9⟩

end Go.Proofs.YthbahbcihaebeaaDoor.Cd
