/-
  ident.Good, ident.Text. Conditions: none.
-/
import Derived.Test.YtflgokbkkoobkaaDoorIdEq
import Derived.Deep.RegionWith
import Derived.Deep.RegionHeld3
import Derived.BigQuiet
import Derived.Test.YtflgokbkkoobkaaDoorByHand
namespace Go.Proofs.YtflgokbkkoobkaaDoor.Cd
open Go.RowKit

/-- Whether a name can be. -/
def goodI : List UInt8 → Bool
  | [] => false
  | k :: s => decide (0 < sizeI k) && (k :: s == k :: pad32 (s.take (sizeI k)))

/-- A name that lies in a block of its own. -/
def IdAt (w : World) (b : Nat) (l : List UInt8) : Prop := w.heap[b]? = some (.cells (vb l).toArray 26)
theorem IdAt.load {w : World} {b : Nat} {l : List UInt8} (h : IdAt w b l) (hl : l.length = 33) : (Instr.loadAt 26 (.pointer (some ⟨b, 0, none⟩))).run Tryd.prog w = .ok (idV l) w := by
  simp only [Instr.loadAt, Instr.sureAddr, Sem.run_bind, Sem.run_pure, Result.andThen]
  exact run_loadVar_row (P := Tryd.prog) w b _ 26 _ _ _ h Tryd.underlying26 rfl (by rw [vb_size, hl]; exact cells_id)
theorem exec_load_id {w : World} {b : Nat} {l : List UInt8} (h : IdAt w b l) (hl : l.length = 33) {op : Oper} {a : Act} (x : Operand) (ho : op.op = .load 26 x) (hx : a.eval x = .pointer (some ⟨b, 0, none⟩)) :
    (execOp a.eval op).run Tryd.prog w = .ok (.value (idV l)) w := by
  have := h.load hl
  unfold execOp
  simp only [ho, hx, Sem.run_bind, this, Result.andThen_ok, Sem.run_pure]
theorem IdAt.kind {w : World} {b : Nat} {k : UInt8} {s : List UInt8} (h : IdAt w b (k :: s)) : w.cell? ⟨b, 0, none⟩ = some (.int .u8 k.toNat) := cell_of_row _ _ _ _ _ _ h
theorem IdAt.below {w w' : World} {b B : Nat} {l : List UInt8} (h : IdAt w b l) (hb : Below B w w') (hB : b < B) : IdAt w' b l := (hb.block b hB).trans h
theorem IdAt.drew {w : World} {b : Nat} {l : List UInt8} (h : IdAt w b l) : IdAt w.drew b l := h
theorem IdAt.new (w : World) (l : List UInt8) : IdAt (w.alloc (.cells (vb l).toArray 26)) w.heap.size l := heap_alloc_new _ _
/-- The first n bytes of a name's sum, as a slice. -/
theorem IdAt.sl {w : World} {b : Nat} {k : UInt8} {s : List UInt8} (h : IdAt w b (k :: s)) (hs : s.length = 32) (n : Nat) (hn : n ≤ 32) {B : Nat} (hB : b < B) : Sl w B (.slice (some ⟨b, 1, none⟩) n 32) (s.take n) := by
  have hl : (s.take n).length = n := by rw [List.length_take]; omega
  refine ⟨some ⟨b, 1, none⟩, 32, by rw [hl], by omega, by simp [maxLen], (fun e => by cases e), (fun ad e _ => by injection e with e; subst e; exact hB), fun ad e j u hu => ?_⟩
  injection e with e
  subst e
  have hj := (List.getElem?_eq_some_iff.1 hu).1
  rw [vb_length, hl] at hj
  rw [Addr.add_lit, cell_of_row _ _ _ _ _ _ h, List.getElem?_toArray, show 1 + j = j + 1 by omega]
  show (vb s)[j]? = some u
  rw [← hu, vb_at _ j (by omega), vb_at _ j (by omega), List.getElem_take]

set_option maxRecDepth 100000 in
theorem slice_sum (b n : Nat) (hn : n ≤ 32) (W : World) : (Instr.sliceAt 24 (.pointer (some ⟨b, 1, none⟩)) none (some (.int .i64 n)) none).run Tryd.prog W = .ok (.slice (some ⟨b, 1, none⟩) n 32) W := by
  have hn2 : (n : Int) ≤ (Tryd.prog.arrayLen 24 : Nat) := by
    show (n : Int) ≤ 32
    omega
  have h := run_sliceAt_array_h (P := Tryd.prog) W 24 ⟨b, 1, none⟩ Tryd.underlying24 .i64 n (by omega) hn2
  rw [h]
  go_simp

theorem sizeI_le (k : UInt8) : sizeI k ≤ 32 := by
  unfold sizeI
  split
  · omega
  · split <;> omega

set_option maxRecDepth 100000 in
set_option maxHeartbeats 1600000 in
theorem igood_any (k : UInt8) (s : List UInt8) (w : World) (hs : s.length = 32) : Calls Tryd.prog 32 #[idV (k :: s)] w (Gives (.bool (goodI (k :: s))) w) := by
  have hsz := sizeI_le k
  have hg : goodI (k :: s) = (decide (0 < sizeI k) && (k :: s == k :: pad32 (s.take (sizeI k)))) := rfl
  have hsize := fun W => size_any k W
  have h0 := IdAt.new w (k :: s)
  generalize sizeI k = n at hsz hg hsize
  have HG := Lib.hid hg
  have HSZ := Lib.hid hsize
  have HSZ0 := hsz
  have H0 := Lib.hid h0
  clear hg hsize h0
  have hb0 : Below w.heap.size w (w.alloc (.cells (vb (k :: s)).toArray 26)) := (Below.refl _ _).alloc (Nat.le_refl _) _
  have HB0 := Lib.hid hb0
  clear hb0
  have d0 := H0.out.kind
  go_enter Tryd.func32, Tryd.ntmps32
  by_cases hn : n = 0
  · subst hn
    go_wp2_with (refine wp_box_row rfl _ rfl rfl ?_)
    go_wp2_with fail
    refine (HSZ.out _).mono ?_
    rintro e w1 ⟨rfl, rfl⟩
    go_wp2_with fail
    go_quiet (fail)
    go_wp2_with fail
    go_ret
    exact ⟨by rw [HG.out]; rfl, ⟨HB0.out.os, HB0.out.tape, HB0.out.output, HB0.out.size, HB0.out.block⟩⟩
  · have hpos : decide (0 < n) = true := by simp; omega
    have hx : (k :: s).length = 33 := by simp [hs]
    have hy : (k :: pad32 (s.take n)).length = 33 := by simp [pad32_length]
    have heg := fun p q W => eqGuard_id .eql p q (k :: s) (k :: pad32 (s.take n)) W
    have heq := fun W => eql_id (k :: s) (k :: pad32 (s.take n)) hx hy W
    have HX := Lib.hid hx
    have HS : Hid (s.length = 32) := hs
    obtain ⟨V1, hV1⟩ : ∃ V, idV (k :: s) = V := ⟨_, rfl⟩
    obtain ⟨V2, hV2⟩ : ∃ V, idV (k :: pad32 (s.take n)) = V := ⟨_, rfl⟩
    have hnm : ∀ (v : Value) (W : World), Sl W W.heap.size v (s.take n) → Calls Tryd.prog 21 #[.int .u8 k.toNat, v] W (Gives V2 W) := fun v W h => by rw [← hV2]; exact named_any k v (s.take n) W h
    have HNM := Lib.hid hnm
    rw [hV1, hV2] at heg heq
    clear hnm hx hy hs hV2
    go_wp2_with (refine wp_box_row rfl _ rfl rfl ?_)
    go_wp2_with fail
    refine (HSZ.out _).mono ?_
    rintro e w1 ⟨rfl, rfl⟩
    go_wp2_with fail
    have hS0 : IdAt ((w.alloc (.cells (vb (k :: s)).toArray 26)).drew) w.heap.size (k :: s) := H0.out.drew
    have HBD : Hid (Below w.heap.size w ((w.alloc (.cells (vb (k :: s)).toArray 26)).drew)) := HB0.out.drew
    obtain ⟨W0, hW0⟩ : ∃ x, (w.alloc (.cells (vb (k :: s)).toArray 26)).drew = x := ⟨_, rfl⟩
    have hs0 : W0.heap.size = w.heap.size + 1 := by rw [← hW0]; simp
    rw [hW0] at hS0 HBD
    clear d0
    refine region_begin hW0 (S := fun W => IdAt W w.heap.size (k :: s)) (by kernel_rfl) hS0 (fun hHeld => ?_)
    clear hW0
    refine take_at (i := 0) (.int .i64 (n : Int)) (some 7) (by decide) (by rfl) (by kernel_rfl) (by kernel_rfl) (by kernel_rfl) (fun _ _ _ h => h) (by rfl) (fun W hW => by go_simp) (by assumption) ?_
    try simp only [Act.put, List.setIfInBounds_toArray, List.set_cons_zero, List.set_cons_succ]
    refine take_at (i := 1) (.bool (decide (0 < n))) (some 8) (by decide) (by rfl) (by kernel_rfl) (by kernel_rfl) (by kernel_rfl) (fun _ _ _ h => h) (by rfl) (fun W hW => by go_simp) (by assumption) ?_
    try simp only [Act.put, List.setIfInBounds_toArray, List.set_cons_zero, List.set_cons_succ]
    refine take_at (i := 2) (.bool (decide (0 < n))) (some 9) (by decide) (by rfl) (by kernel_rfl) (by kernel_rfl) (by kernel_rfl) (fun _ _ _ h => h) (by rfl) (fun W hW => by go_simp) (by assumption) ?_
    try simp only [Act.put, List.setIfInBounds_toArray, List.set_cons_zero, List.set_cons_succ]
    rw [hpos]
    refine take_at (i := 3) (V1) (some 10) (by decide) (by rfl) (by kernel_rfl) (by kernel_rfl) (by kernel_rfl) (fun _ _ _ h => h) (by rfl) (fun W hW => by rw [← hV1]; exact exec_load_id hW HX.out _ rfl rfl) (by assumption) ?_
    try simp only [Act.put, List.setIfInBounds_toArray, List.set_cons_zero, List.set_cons_succ]
    refine take_at (i := 4) (.pointer (some ⟨w.heap.size, 0, none⟩)) (some 11) (by decide) (by rfl) (by kernel_rfl) (by kernel_rfl) (by kernel_rfl) (fun _ _ _ h => h) (by rfl) (fun W hW => by go_simp) (by assumption) ?_
    try simp only [Act.put, List.setIfInBounds_toArray, List.set_cons_zero, List.set_cons_succ]
    refine take_at (i := 5) (.int .u8 k.toNat) (some 12) (by decide) (by rfl) (by kernel_rfl) (by kernel_rfl) (by kernel_rfl) (fun _ _ _ h => h) (by rfl) (fun W hW => by have := hW.kind; go_simp) (by assumption) ?_
    try simp only [Act.put, List.setIfInBounds_toArray, List.set_cons_zero, List.set_cons_succ]
    refine take_at (i := 6) (.pointer (some ⟨w.heap.size, 1, none⟩)) (some 13) (by decide) (by rfl) (by kernel_rfl) (by kernel_rfl) (by kernel_rfl) (fun _ _ _ h => h) (by rfl) (fun W hW => by go_simp) (by assumption) ?_
    try simp only [Act.put, List.setIfInBounds_toArray, List.set_cons_zero, List.set_cons_succ]
    refine take_at (i := 7) (.int .i64 (n : Int)) (some 14) (by decide) (by rfl) (by kernel_rfl) (by kernel_rfl) (by kernel_rfl) (fun _ _ _ h => h) (by rfl) (fun W hW => by go_simp) (by assumption) ?_
    try simp only [Act.put, List.setIfInBounds_toArray, List.set_cons_zero, List.set_cons_succ]
    refine take_at (i := 8) (.slice (some ⟨w.heap.size, 1, none⟩) n 32) (some 15) (by decide) (by rfl) (by kernel_rfl) (by kernel_rfl) (by kernel_rfl) (fun _ _ _ h => h) (by rfl) (fun W hW => by have := slice_sum w.heap.size n HSZ0 W; go_simp) (by assumption) ?_
    try simp only [Act.put, List.setIfInBounds_toArray, List.set_cons_zero, List.set_cons_succ]
    refine wpAnyH_ready (rs := [9]) (by kernel_rfl) (by simp) (AllReadyH.cons (Array.getElem?_eq_getElem (i := 9) (by decide)) (fun K9 hK => ?_) AllReadyH.nil)
    go_simp
    refine (HNM.out _ _ (hHeld.sl HS.out n HSZ0 (by omega))).mono ?_
    rintro e w3 ⟨rfl, hb3⟩
    have HB3 := Lib.hid (HBD.out.trans (hb3.mono (by omega)))
    refine hK.out _ _ (hHeld.below hb3 (by omega)) (fun hHeld => ?_)
    clear hK K9
    try simp only [Act.put, List.setIfInBounds_toArray, List.set_cons_zero, List.set_cons_succ]
    refine take_at (i := 10) (.bool (k :: s == k :: pad32 (s.take n))) (some 17) (by decide) (by rfl) (by kernel_rfl) (by kernel_rfl) (by kernel_rfl) (fun _ _ _ h => h) (by rfl) (fun W hW => by go_simp) (by assumption) ?_
    try simp only [Act.put, List.setIfInBounds_toArray, List.set_cons_zero, List.set_cons_succ]
    refine take_at (i := 11) (.bool (k :: s == k :: pad32 (s.take n))) (some 18) (by decide) (by rfl) (by kernel_rfl) (by kernel_rfl) (by kernel_rfl) (fun _ _ _ h => h) (by rfl) (fun W hW => by go_simp) (by assumption) ?_
    try simp only [Act.put, List.setIfInBounds_toArray, List.set_cons_zero, List.set_cons_succ]
    refine take_at (i := 12) (.bool (k :: s == k :: pad32 (s.take n))) (some 2) (by decide) (by rfl) (by kernel_rfl) (by kernel_rfl) (by kernel_rfl) (fun _ _ _ h => h) (by rfl) (fun W hW => by go_simp) (by assumption) ?_
    try simp only [Act.put, List.setIfInBounds_toArray, List.set_cons_zero, List.set_cons_succ]
    refine wpAnyH_done (by kernel_rfl) ?_ _
    try simp only [Act.put, List.setIfInBounds_toArray, List.set_cons_zero, List.set_cons_succ]
    go_wp2_with fail
    go_ret
    exact ⟨by rw [HG.out, hpos, Bool.true_and]; rfl, HB3.out⟩

end Go.Proofs.YtflgokbkkoobkaaDoor.Cd
