/-
  A digest on its way: its cells; what take makes of a block. Conditions: none.
-/
import Derived.Test.YtflgokbkkoobkaaDoorShaMixed
namespace Go.Proofs.YtflgokbkkoobkaaDoor.Cd
open Go.RowKit

/-- A digest's cells: its state, its block, how many bytes of it are used, how many there were. -/
def dgC (st : List Int) (blk : List UInt8) (u z : Int) : List Value := vw st ++ (vb blk ++ [.int .i64 u, .int .u64 z])
def DgAt (w : World) (g : Nat) (st : List Int) (blk : List UInt8) (u z : Int) : Prop := st.length = 8 ∧ blk.length = 64 ∧ w.heap[g]? = some (.cells (dgC st blk u z).toArray 77)
theorem dgC_length {st : List Int} {blk : List UInt8} (h1 : st.length = 8) (h2 : blk.length = 64) (u z : Int) : (dgC st blk u z).length = 74 := by simp [dgC, vw_length, vb_length, h1, h2]
theorem dgC_block {st : List Int} {blk : List UInt8} (h1 : st.length = 8) (u z : Int) (j : Nat) (hj : j < blk.length) : (dgC st blk u z)[8 + j]? = some (.int .u8 (blk[j]).toNat) := by
  unfold dgC
  rw [List.getElem?_append_right (by rw [vw_length]; omega), vw_length, h1, show 8 + j - 8 = j by omega, List.getElem?_append_left (by rw [vb_length]; exact hj)]
  exact vb_at blk j hj
theorem DgAt.used {w : World} {g : Nat} {st : List Int} {blk : List UInt8} {u z : Int} (h : DgAt w g st blk u z) : w.cell? ⟨g, 72, none⟩ = some (.int .i64 u) := by
  obtain ⟨h1, h2, h3⟩ := h
  rw [cell_of_row _ _ _ _ _ _ h3, List.getElem?_toArray]
  unfold dgC
  rw [List.getElem?_append_right (by rw [vw_length]; omega), List.getElem?_append_right (by rw [vw_length, vb_length]; omega), vw_length, vb_length, h1, h2]
  rfl
theorem DgAt.size {w : World} {g : Nat} {st : List Int} {blk : List UInt8} {u z : Int} (h : DgAt w g st blk u z) : w.cell? ⟨g, 73, none⟩ = some (.int .u64 z) := by
  obtain ⟨h1, h2, h3⟩ := h
  rw [cell_of_row _ _ _ _ _ _ h3, List.getElem?_toArray]
  unfold dgC
  rw [List.getElem?_append_right (by rw [vw_length]; omega), List.getElem?_append_right (by rw [vw_length, vb_length]; omega), vw_length, vb_length, h1, h2]
  rfl
theorem DgAt.frozen {w : World} {g : Nat} {st : List Int} {blk : List UInt8} {u z : Int} (h : DgAt w g st blk u z) (j : Nat) : w.frozen? ⟨g, j, none⟩ = false := frozen_of_row _ _ _ _ _ h.2.2
theorem DgAt.stRange {w : World} {g : Nat} {st : List Int} {blk : List UInt8} {u z : Int} (h : DgAt w g st blk u z) : w.rangeAt g 0 (vw st) := fun j v hv => by
  have hj := (List.getElem?_eq_some_iff.1 hv).1
  rw [Nat.zero_add, cell_of_row _ _ _ _ _ _ h.2.2, List.getElem?_toArray]
  unfold dgC
  rw [List.getElem?_append_left hj]
  exact hv
theorem DgAt.blkRange {w : World} {g : Nat} {st : List Int} {blk : List UInt8} {u z : Int} (h : DgAt w g st blk u z) : w.rangeAt g 8 (vb blk) := fun j v hv => by
  have hj := (List.getElem?_eq_some_iff.1 hv).1
  rw [vb_length] at hj
  rw [cell_of_row _ _ _ _ _ _ h.2.2, List.getElem?_toArray, dgC_block h.1 u z j hj, ← vb_at blk j hj]
  exact hv
theorem DgAt.heap {w w' : World} {g : Nat} {st : List Int} {blk : List UInt8} {u z : Int} (h : DgAt w g st blk u z) (e : w'.heap[g]? = w.heap[g]?) : DgAt w' g st blk u z := ⟨h.1, h.2.1, e.trans h.2.2⟩
theorem DgAt.setUsed {w : World} {g : Nat} {st : List Int} {blk : List UInt8} {u z : Int} (h : DgAt w g st blk u z) (x : Int) : DgAt (w.setCell ⟨g, 72, none⟩ (.int .i64 x)) g st blk x z := by
  obtain ⟨h1, h2, h3⟩ := h
  refine ⟨h1, h2, ?_⟩
  rw [heap_setCell_same _ _ _ _ _ _ h3, List.setIfInBounds_toArray]
  congr 3
  unfold dgC
  rw [List.set_append_right _ _ (by rw [vw_length]; omega), List.set_append_right _ _ (by rw [vw_length, vb_length]; omega), vw_length, vb_length, h1, h2]
  rfl
theorem DgAt.setSize {w : World} {g : Nat} {st : List Int} {blk : List UInt8} {u z : Int} (h : DgAt w g st blk u z) (x : Int) : DgAt (w.setCell ⟨g, 73, none⟩ (.int .u64 x)) g st blk u x := by
  obtain ⟨h1, h2, h3⟩ := h
  refine ⟨h1, h2, ?_⟩
  rw [heap_setCell_same _ _ _ _ _ _ h3, List.setIfInBounds_toArray]
  congr 3
  unfold dgC
  rw [List.set_append_right _ _ (by rw [vw_length]; omega), List.set_append_right _ _ (by rw [vw_length, vb_length]; omega), vw_length, vb_length, h1, h2]
  rfl
theorem DgAt.setByte {w : World} {g : Nat} {st : List Int} {blk : List UInt8} {u z : Int} (h : DgAt w g st blk u z) (j : Nat) (hj : j < 64) (c : UInt8) : DgAt (w.setCell ⟨g, 8 + j, none⟩ (.int .u8 c.toNat)) g st (blk.set j c) u z := by
  obtain ⟨h1, h2, h3⟩ := h
  refine ⟨h1, by rw [List.length_set]; exact h2, ?_⟩
  rw [heap_setCell_same _ _ _ _ _ _ h3, List.setIfInBounds_toArray]
  congr 3
  unfold dgC
  rw [List.set_append_right _ _ (by rw [vw_length]; omega), vw_length, h1, show 8 + j - 8 = j by omega, List.set_append_left _ _ (by rw [vb_length]; omega)]
  congr 2
  simp [vb, List.map_set]
/-- Cells in the midst: the state, or some of the block. -/
theorem DgAt.setState {w : World} {g : Nat} {st : List Int} {blk : List UInt8} {u z : Int} (h : DgAt w g st blk u z) (s' : List Int) (hs : s'.length = 8) : DgAt (w.setCells g 0 (vw s')) g s' blk u z := by
  obtain ⟨h1, h2, h3⟩ := h
  refine ⟨hs, h2, ?_⟩
  rw [setCells_row g _ (vw s') w _ 0 h3]
  congr 3
  have := laid_mid [] (vw st) (vb blk ++ [.int .i64 u, .int .u64 z]) (vw s') (by rw [vw_length, vw_length, hs, h1])
  simpa [dgC] using this
theorem dgC_laid {st : List Int} {blk : List UInt8} (h1 : st.length = 8) (h2 : blk.length = 64) (u z : Int) (n : Nat) (bs : List UInt8) (hn : n + bs.length ≤ 64) :
    laid (dgC st blk u z) (8 + n) (vb bs) = dgC st (blk.take n ++ bs ++ blk.drop (n + bs.length)) u z := by
  have e : blk = blk.take n ++ (blk.drop n).take bs.length ++ blk.drop (n + bs.length) := by
    rw [← List.drop_drop, List.append_assoc, List.take_append_drop, List.take_append_drop]
  have h4 := laid_mid (vw st ++ vb (blk.take n)) (vb ((blk.drop n).take bs.length)) (vb (blk.drop (n + bs.length)) ++ [.int .i64 u, .int .u64 z]) (vb bs) (by rw [vb_length, vb_length, List.length_take, List.length_drop]; omega)
  have hl : (vw st ++ vb (blk.take n)).length = 8 + n := by rw [List.length_append, vw_length, vb_length, List.length_take, h1]; omega
  rw [hl] at h4
  have e2 : dgC st blk u z = vw st ++ vb (blk.take n) ++ vb ((blk.drop n).take bs.length) ++ (vb (blk.drop (n + bs.length)) ++ [.int .i64 u, .int .u64 z]) := by
    unfold dgC
    conv => lhs; rw [e]
    simp [vb_append]
  rw [e2, h4]
  unfold dgC
  simp [vb_append]
theorem DgAt.setBytes {w : World} {g : Nat} {st : List Int} {blk : List UInt8} {u z : Int} (h : DgAt w g st blk u z) (n : Nat) (bs : List UInt8) (hn : n + bs.length ≤ 64) :
    DgAt (w.setCells g (8 + n) (vb bs)) g st (blk.take n ++ bs ++ blk.drop (n + bs.length)) u z := by
  obtain ⟨h1, h2, h3⟩ := h
  refine ⟨h1, by simp [h2]; omega, ?_⟩
  rw [setCells_row g _ (vb bs) w _ (8 + n) h3, dgC_laid h1 h2 u z n bs hn]

theorem exec_load_st {w : World} {g : Nat} {st : List Int} {blk : List UInt8} {u z : Int} (h : DgAt w g st blk u z) {op : Oper} {a : Act} (x : Operand) (ho : op.op = .load 74 x) (hx : a.eval x = .pointer (some ⟨g, 0, none⟩)) :
    (execOp a.eval op).run Tryd.prog w = .ok (.value (.agg (vw st).toArray)) w := by
  have hl := run_loadAt_mid (P := Tryd.prog) w g 0 74 (vw st) _ h.stRange Tryd.underlying74 rfl (by rw [vw_length, h.1]; exact cells_w8)
  unfold execOp
  simp only [ho, hx, Sem.run_bind, hl, Result.andThen_ok, Sem.run_pure]
theorem exec_load_blk {w : World} {g : Nat} {st : List Int} {blk : List UInt8} {u z : Int} (h : DgAt w g st blk u z) {op : Oper} {a : Act} (x : Operand) (ho : op.op = .load 75 x) (hx : a.eval x = .pointer (some ⟨g, 8, none⟩)) :
    (execOp a.eval op).run Tryd.prog w = .ok (.value (.agg (vb blk).toArray)) w := by
  have hl := run_loadAt_mid (P := Tryd.prog) w g 8 75 (vb blk) _ h.blkRange Tryd.underlying75 rfl (by rw [vb_length, h.2.1]; exact cells_b64)
  unfold execOp
  simp only [ho, hx, Sem.run_bind, hl, Result.andThen_ok, Sem.run_pure]
theorem DgAt.there {w : World} {g : Nat} {st : List Int} {blk : List UInt8} {u z : Int} (h : DgAt w g st blk u z) (o n : Nat) (hn : o + n ≤ 74) : w.there g o n := fun j hj => by
  have hl := dgC_length h.1 h.2.1 u z
  refine ⟨?_, h.frozen _⟩
  rw [cell_of_row _ _ _ _ _ _ h.2.2, List.getElem?_toArray, List.getElem?_eq_getElem (by omega)]
  rfl
theorem step_put_st {w : World} {ops : Array Oper} {o : Oper} {a : Act} {K : Act → World → Prop} {Q : Exit → Act → World → Prop} {E : Prop} (hgd : o.guard = none) (x y : Operand) (ho : o.op = .store 74 x y)
    {g : Nat} {st : List Int} {blk : List UInt8} {u z : Int} (hD : DgAt w g st blk u z) (hx : a.eval x = .pointer (some ⟨g, 0, none⟩)) (S : List Int) (hS : S.length = 8) (hy : a.eval y = .agg (vw S).toArray)
    (h : K (a.put o.dst undef) (w.setCells g 0 (vw S))) : if Region.wanted o (yielded ops a.tmps) = true then Oper.wp Tryd.prog o a w K Q else E := by
  have hw : Region.wanted o (yielded ops a.tmps) = true := by simp [Region.wanted, hgd]
  rw [if_pos hw]
  have hsz : (vw S).toArray.size = 8 := by simp [vw_length, hS]
  refine wp_store_mid _ x y ho g 0 (vw S).toArray hx hy (hD.there 0 _ (by rw [hsz]; omega)) (by rw [hsz]; exact cells_w8) (by have := all_oneCell_toArray (vw_one S); simpa using this) ?_
  simpa using h
theorem zero_u8 (W : World) : (zeroValue 5).run Tryd.prog W = .ok (.int .u8 0) W := by kernel_rfl
theorem clear_blk {w : World} {g : Nat} {st : List Int} {blk : List UInt8} {u z : Int} (hD : DgAt w g st blk u z) (ty : TypeId) : (Builtin.clear_ #[22] ty #[.slice (some ⟨g, 8, none⟩) 64 64]).run Tryd.prog w = .ok (.tuple #[]) (w.setCells g 8 (vb (zer 64))) := by
  have h := Lib.run_clear_slice (P := Tryd.prog) w 22 5 ty (.int .u8 0) Tryd.underlying22 zero_u8 rfl rfl g 8 64 64 (by omega) (fun j hj => (hD.there 8 64 (by omega) j hj).1) (fun j hj => (hD.there 8 64 (by omega) j hj).2)
  rw [h]
  rfl
/-- Of what was there nothing has turned but block g. -/
structure Only (g : Nat) (w w' : World) : Prop where
  os : w'.os = w.os
  tape : w'.tape = w.tape
  output : w'.output = w.output
  size : w.heap.size ≤ w'.heap.size
  block : ∀ k, k < w.heap.size → k ≠ g → w'.heap[k]? = w.heap[k]?
theorem Only.refl (g : Nat) (w : World) : Only g w w := ⟨rfl, rfl, rfl, Nat.le_refl _, fun _ _ _ => rfl⟩
theorem Only.trans {g : Nat} {a b c : World} (h : Only g a b) (k : Only g b c) : Only g a c :=
  ⟨k.os.trans h.os, k.tape.trans h.tape, k.output.trans h.output, Nat.le_trans h.size k.size, fun j hj hn => (k.block j (Nat.lt_of_lt_of_le hj h.size) hn).trans (h.block j hj hn)⟩
theorem Only.drew {g : Nat} {a w : World} (h : Only g a w) : Only g a w.drew := ⟨h.os, h.tape, h.output, h.size, h.block⟩
theorem Only.of {g : Nat} {w w' : World} (h : Below w.heap.size w w') : Only g w w' := ⟨h.os, h.tape, h.output, h.size, fun k hk _ => h.block k hk⟩
theorem Only.grown {g : Nat} {a w w' : World} (h : Only g a w) (hg : w.grownBy w' (some g)) : Only g a w' :=
  h.trans ⟨hg.os, hg.tape, hg.output, hg.size, fun k hk hn => hg.block k hk (fun e => by injection e with e; exact hn e)⟩
theorem Only.set {g : Nat} {a w : World} (h : Only g a w) (o : Nat) (v : Value) : Only g a (w.setCell ⟨g, o, none⟩ v) :=
  h.trans ⟨rfl, rfl, rfl, by simp, fun k _ hn => Below.heap_setCell w ⟨g, o, none⟩ v k hn⟩
theorem Only.low {g B : Nat} {w w' : World} (h : Only g w w') (hB : B ≤ w.heap.size) (hg : B ≤ g) : Below B w w' :=
  ⟨h.os, h.tape, h.output, h.size, fun k hk => h.block k (Nat.lt_of_lt_of_le hk hB) (by omega)⟩
theorem KeysAt.only {g : Nat} {w w' : World} (h : KeysAt w) (hb : Only g w w') (hg : 0 < g) : KeysAt w' := h.below (hb.low (B := 1) h.1 hg) (by omega)
theorem below_setCells {B g : Nat} {a w : World} (h : Below B a w) (hB : B ≤ g) (hs : B ≤ w.heap.size) (o : Nat) (vs : List Value) : Below B a (w.setCells g o vs) := h.grown (setCells_grown g vs w o) hs (fun k hk => by injection hk with hk; omega)

set_option maxRecDepth 100000 in
set_option maxHeartbeats 3200000 in
theorem take_any (g : Nat) (st : List Int) (blk : List UInt8) (u z : Int) (w : World) (hD : DgAt w g st blk u z) (hst : W32L st) (hk : KeysAt w) (hg : 0 < g) (hgs : g < w.heap.size) :
    Calls Tryd.prog 48 #[.pointer (some ⟨g, 0, none⟩)] w fun e w' => e = .returned (.tuple #[]) ∧ ∃ S : List Int, W32L S ∧ DgAt w' g S (zer 64) 0 z ∧ Only g w w' := by
  have HD := Lib.hid hD
  have HS := Lib.hid hst
  have HK := Lib.hid hk
  clear hD hst hk
  go_enter Tryd.func48, Tryd.ntmps48
  go_wp2_with fail
  obtain ⟨W0, hW0⟩ : ∃ v, w.drew = v := ⟨_, rfl⟩
  have HD0 : Hid (DgAt W0 g st blk u z) := by rw [← hW0]; exact HD.out
  have HB0 : Hid (Only g w W0) := by rw [← hW0]; exact (Only.refl _ _).drew
  have hgs0 : g < W0.heap.size := by rw [← hW0]; exact hgs
  refine region_begin hW0 (S := fun W => Only g w W) (by kernel_rfl) HB0.out (fun hHeld => ?_)
  clear hW0
  refine take_at (i := 0) (.pointer (some ⟨g, 0, none⟩)) (some 2) (by decide) (by rfl) (by kernel_rfl) (by kernel_rfl) (by kernel_rfl) (fun _ _ _ h => h) (by rfl) (fun W hW => by go_simp) (by assumption) ?_
  try simp only [Act.put, List.setIfInBounds_toArray, List.set_cons_zero, List.set_cons_succ]
  refine take_at (i := 1) (.pointer (some ⟨g, 0, none⟩)) (some 3) (by decide) (by rfl) (by kernel_rfl) (by kernel_rfl) (by kernel_rfl) (fun _ _ _ h => h) (by rfl) (fun W hW => by go_simp) (by assumption) ?_
  try simp only [Act.put, List.setIfInBounds_toArray, List.set_cons_zero, List.set_cons_succ]
  refine take_at (i := 2) (.pointer (some ⟨g, 0, none⟩)) (some 4) (by decide) (by rfl) (by kernel_rfl) (by kernel_rfl) (by kernel_rfl) (fun _ _ _ h => h) (by rfl) (fun W hW => by go_simp) (by assumption) ?_
  try simp only [Act.put, List.setIfInBounds_toArray, List.set_cons_zero, List.set_cons_succ]
  refine take_at (i := 3) (.pointer (some ⟨g, 0, none⟩)) (some 5) (by decide) (by rfl) (by kernel_rfl) (by kernel_rfl) (by kernel_rfl) (fun _ _ _ h => h) (by rfl) (fun W hW => by go_simp) (by assumption) ?_
  try simp only [Act.put, List.setIfInBounds_toArray, List.set_cons_zero, List.set_cons_succ]
  refine take_at (i := 5) (.pointer (some ⟨g, 0, none⟩)) (some 7) (by decide) (by rfl) (by kernel_rfl) (by kernel_rfl) (by kernel_rfl) (fun _ _ _ h => h) (by rfl) (fun W hW => by go_simp) (by assumption) ?_
  try simp only [Act.put, List.setIfInBounds_toArray, List.set_cons_zero, List.set_cons_succ]
  refine take_at (i := 6) (.pointer (some ⟨g, 0, none⟩)) (some 8) (by decide) (by rfl) (by kernel_rfl) (by kernel_rfl) (by kernel_rfl) (fun _ _ _ h => h) (by rfl) (fun W hW => by go_simp) (by assumption) ?_
  try simp only [Act.put, List.setIfInBounds_toArray, List.set_cons_zero, List.set_cons_succ]
  refine take_at (i := 7) (.pointer (some ⟨g, 8, none⟩)) (some 9) (by decide) (by rfl) (by kernel_rfl) (by kernel_rfl) (by kernel_rfl) (fun _ _ _ h => h) (by rfl) (fun W hW => by go_simp) (by assumption) ?_
  try simp only [Act.put, List.setIfInBounds_toArray, List.set_cons_zero, List.set_cons_succ]
  refine wpAnyH_ready (rs := [4, 8]) (by kernel_rfl) (by simp) ?_
  refine come (i := 4) (.agg (vw st).toArray) W0 (some 6) (by decide) (by rfl) (by rfl) (exec_load_st HD0.out _ rfl rfl) HB0.out ?_ (come (i := 8) (.agg (vb blk).toArray) W0 (some 10) (by decide) (by rfl) (by rfl) (exec_load_blk HD0.out _ rfl rfl) HB0.out ?_ AllReadyH.nil)
  · try simp only [Act.put, List.setIfInBounds_toArray, List.set_cons_zero, List.set_cons_succ]
    refine wpAnyH_ready (rs := [8]) (by kernel_rfl) (by simp) (come (i := 8) (.agg (vb blk).toArray) W0 (some 10) (by decide) (by rfl) (by rfl) (exec_load_blk HD0.out _ rfl rfl) HB0.out ?_ AllReadyH.nil)
    try simp only [Act.put, List.setIfInBounds_toArray, List.set_cons_zero, List.set_cons_succ]
    refine wpAnyH_ready (rs := [9]) (by kernel_rfl) (by simp) (AllReadyH.cons (Array.getElem?_eq_getElem (i := 9) (by decide)) (fun K9 hK => ?_) AllReadyH.nil)
    go_simp
    refine (mixed_any st blk W0 HD0.out.1 HS.out HD0.out.2.1 (HK.out.only HB0.out hg)).mono ?_
    rintro e w5 ⟨S, hS, hSw, rfl, hb5⟩
    have HD5 := Lib.hid (HD0.out.heap (hb5.block g hgs0))
    have HB5 := Lib.hid (HB0.out.trans (Only.of hb5))
    have hs5 := hb5.size
    clear hb5
    refine hK.out _ _ (HB5.out) (fun hHeld => ?_)
    clear hK K9
    try simp only [Act.put, List.setIfInBounds_toArray, List.set_cons_zero, List.set_cons_succ]
    refine take_at (i := 10) (.pointer (some ⟨g, 0, none⟩)) (some 12) (by decide) (by rfl) (by kernel_rfl) (by kernel_rfl) (by kernel_rfl) (fun _ _ _ h => h) (by rfl) (fun W hW => by go_simp) (by assumption) ?_
    try simp only [Act.put, List.setIfInBounds_toArray, List.set_cons_zero, List.set_cons_succ]
    refine take_at (i := 11) (.pointer (some ⟨g, 0, none⟩)) (some 13) (by decide) (by rfl) (by kernel_rfl) (by kernel_rfl) (by kernel_rfl) (fun _ _ _ h => h) (by rfl) (fun W hW => by go_simp) (by assumption) ?_
    try simp only [Act.put, List.setIfInBounds_toArray, List.set_cons_zero, List.set_cons_succ]
    refine wpAnyH_ready (rs := [12]) (by kernel_rfl) (by simp) (AllReadyH.cons (Array.getElem?_eq_getElem (i := 12) (by decide)) (fun K9 hK => ?_) AllReadyH.nil)
    refine step_put_st rfl _ _ rfl HD5.out rfl S hS rfl ?_
    have HD6 := Lib.hid (HD5.out.setState S hS)
    have HB6 := Lib.hid (HB5.out.grown (setCells_grown g (vw S) w5 0))
    have hs6 : g < (w5.setCells g 0 (vw S)).heap.size := by have := (setCells_grown g (vw S) w5 0).size; omega
    generalize w5.setCells g 0 (vw S) = w6 at HD6 HB6 hs6 ⊢
    clear HD5 HB5
    refine hK.out _ _ (HB6.out) (fun hHeld => ?_)
    clear hK K9
    try simp only [Act.put, List.setIfInBounds_toArray, List.set_cons_zero, List.set_cons_succ]
    refine wpAnyH_done (by kernel_rfl) ?_ _
    try simp only [Act.put, List.setIfInBounds_toArray, List.set_cons_zero, List.set_cons_succ]
    have hcl := clear_blk HD6.out 0
    have HD7 := Lib.hid (HD6.out.setBytes 0 (zer 64) (by simp [zer_length]))
    have HB7 := Lib.hid (HB6.out.grown (setCells_grown g (vb (zer 64)) w6 8))
    rw [show blk.take 0 ++ zer 64 ++ blk.drop (0 + (zer 64).length) = zer 64 by rw [List.take_zero, List.nil_append, List.drop_of_length_le (by rw [zer_length, HD6.out.2.1]; omega), List.append_nil]] at HD7
    have HD8 := Lib.hid (HD7.out.setUsed 0)
    have HB8 := Lib.hid (HB7.out.set 72 (.int .i64 0))
    have cu := HD7.out.used
    have fu := HD7.out.frozen 72
    generalize w6.setCells g 8 (vb (zer 64)) = w7 at hcl HD7 HB7 HD8 HB8 cu fu
    go_wp2_with fail
    go_end0
    exact ⟨rfl, S, hSw, HD8.out, HB8.out⟩
  · try simp only [Act.put, List.setIfInBounds_toArray, List.set_cons_zero, List.set_cons_succ]
    refine wpAnyH_ready (rs := [4]) (by kernel_rfl) (by simp) (come (i := 4) (.agg (vw st).toArray) W0 (some 6) (by decide) (by rfl) (by rfl) (exec_load_st HD0.out _ rfl rfl) HB0.out ?_ AllReadyH.nil)
    try simp only [Act.put, List.setIfInBounds_toArray, List.set_cons_zero, List.set_cons_succ]
    refine wpAnyH_ready (rs := [9]) (by kernel_rfl) (by simp) (AllReadyH.cons (Array.getElem?_eq_getElem (i := 9) (by decide)) (fun K9 hK => ?_) AllReadyH.nil)
    go_simp
    refine (mixed_any st blk W0 HD0.out.1 HS.out HD0.out.2.1 (HK.out.only HB0.out hg)).mono ?_
    rintro e w5 ⟨S, hS, hSw, rfl, hb5⟩
    have HD5 := Lib.hid (HD0.out.heap (hb5.block g hgs0))
    have HB5 := Lib.hid (HB0.out.trans (Only.of hb5))
    have hs5 := hb5.size
    clear hb5
    refine hK.out _ _ (HB5.out) (fun hHeld => ?_)
    clear hK K9
    try simp only [Act.put, List.setIfInBounds_toArray, List.set_cons_zero, List.set_cons_succ]
    refine take_at (i := 10) (.pointer (some ⟨g, 0, none⟩)) (some 12) (by decide) (by rfl) (by kernel_rfl) (by kernel_rfl) (by kernel_rfl) (fun _ _ _ h => h) (by rfl) (fun W hW => by go_simp) (by assumption) ?_
    try simp only [Act.put, List.setIfInBounds_toArray, List.set_cons_zero, List.set_cons_succ]
    refine take_at (i := 11) (.pointer (some ⟨g, 0, none⟩)) (some 13) (by decide) (by rfl) (by kernel_rfl) (by kernel_rfl) (by kernel_rfl) (fun _ _ _ h => h) (by rfl) (fun W hW => by go_simp) (by assumption) ?_
    try simp only [Act.put, List.setIfInBounds_toArray, List.set_cons_zero, List.set_cons_succ]
    refine wpAnyH_ready (rs := [12]) (by kernel_rfl) (by simp) (AllReadyH.cons (Array.getElem?_eq_getElem (i := 12) (by decide)) (fun K9 hK => ?_) AllReadyH.nil)
    refine step_put_st rfl _ _ rfl HD5.out rfl S hS rfl ?_
    have HD6 := Lib.hid (HD5.out.setState S hS)
    have HB6 := Lib.hid (HB5.out.grown (setCells_grown g (vw S) w5 0))
    have hs6 : g < (w5.setCells g 0 (vw S)).heap.size := by have := (setCells_grown g (vw S) w5 0).size; omega
    generalize w5.setCells g 0 (vw S) = w6 at HD6 HB6 hs6 ⊢
    clear HD5 HB5
    refine hK.out _ _ (HB6.out) (fun hHeld => ?_)
    clear hK K9
    try simp only [Act.put, List.setIfInBounds_toArray, List.set_cons_zero, List.set_cons_succ]
    refine wpAnyH_done (by kernel_rfl) ?_ _
    try simp only [Act.put, List.setIfInBounds_toArray, List.set_cons_zero, List.set_cons_succ]
    have hcl := clear_blk HD6.out 0
    have HD7 := Lib.hid (HD6.out.setBytes 0 (zer 64) (by simp [zer_length]))
    have HB7 := Lib.hid (HB6.out.grown (setCells_grown g (vb (zer 64)) w6 8))
    rw [show blk.take 0 ++ zer 64 ++ blk.drop (0 + (zer 64).length) = zer 64 by rw [List.take_zero, List.nil_append, List.drop_of_length_le (by rw [zer_length, HD6.out.2.1]; omega), List.append_nil]] at HD7
    have HD8 := Lib.hid (HD7.out.setUsed 0)
    have HB8 := Lib.hid (HB7.out.set 72 (.int .i64 0))
    have cu := HD7.out.used
    have fu := HD7.out.frozen 72
    generalize w6.setCells g 8 (vb (zer 64)) = w7 at hcl HD7 HB7 HD8 HB8 cu fu
    go_wp2_with fail
    go_end0
    exact ⟨rfl, S, hSw, HD8.out, HB8.out⟩

end Go.Proofs.YtflgokbkkoobkaaDoor.Cd
