/-
  A block's words: sha.schedule. Conditions: none.
-/
import Derived.Test.YthbahbcihaebeaaDoorG4
import Derived.Deep.RegionWith
import Derived.Deep.RegionHeld3
import Derived.BigQuiet
import Derived.Test.YthbahbcihaebeaaDoorG5
import Derived.Test.YthbahbcihaebeaaDoorG3
/-
  ident.Good, ident.Text. Conditions: none.
-/
namespace Go.Proofs.YthbahbcihaebeaaDoor.Cd
open Go.RowKit

/-- Whether a name can be. -/
def goodI : List UInt8 → Bool
  | [] => false
  | k :: s => decide (0 < sizeI k) && (k :: s == k :: pad32 (s.take (sizeI k)))

/-- A name that lies in a block of its own. -/
def IdAt (w : World) (b : Nat) (l : List UInt8) : Prop := w.heap[b]? = some (.cells (vb l).toArray 27)
theorem IdAt.load {w : World} {b : Nat} {l : List UInt8} (h : IdAt w b l) (hl : l.length = 33) : (Instr.loadAt 27 (.pointer (some ⟨b, 0, none⟩))).run Tryd.prog w = .ok (idV l) w := by
  simp only [Instr.loadAt, Instr.sureAddr, Sem.run_bind, Sem.run_pure, Result.andThen]
  exact run_loadVar_row (P := Tryd.prog) w b _ 27 _ _ _ h Tryd.underlying27 rfl (by rw [vb_size, hl]; exact cells_id)
theorem exec_load_id {w : World} {b : Nat} {l : List UInt8} (h : IdAt w b l) (hl : l.length = 33) {op : Oper} {a : Act} (x : Operand) (ho : op.op = .load 27 x) (hx : a.eval x = .pointer (some ⟨b, 0, none⟩)) :
    (execOp a.eval op).run Tryd.prog w = .ok (.value (idV l)) w := by
  have := h.load hl
  unfold execOp
  simp only [ho, hx, Sem.run_bind, this, Result.andThen_ok, Sem.run_pure]
theorem IdAt.kind {w : World} {b : Nat} {k : UInt8} {s : List UInt8} (h : IdAt w b (k :: s)) : w.cell? ⟨b, 0, none⟩ = some (.int .u8 k.toNat) := cell_of_row _ _ _ _ _ _ h
theorem IdAt.below {w w' : World} {b B : Nat} {l : List UInt8} (h : IdAt w b l) (hb : Below B w w') (hB : b < B) : IdAt w' b l := (hb.block b hB).trans h
theorem IdAt.drew {w : World} {b : Nat} {l : List UInt8} (h : IdAt w b l) : IdAt w.drew b l := h
theorem IdAt.new (w : World) (l : List UInt8) : IdAt (w.alloc (.cells (vb l).toArray 27)) w.heap.size l := heap_alloc_new _ _
/-- The first n bytes of a name's sum, as a slice. -/
theorem IdAt.sl {w : World} {b : Nat} {k : UInt8} {s : List UInt8} (h : IdAt w b (k :: s)) (hs : s.length = 32) (n : Nat) (hn : n ≤ 32) {B : Nat} (hB : b < B) : Sl w B (.slice (some ⟨b, 1, none⟩) n 32) (s.take n) := by
  have hl : (s.take n).length = n := by rw [List.length_take]; omega
  refine ⟨some ⟨b, 1, none⟩, 32, by rw [hl], by omega, by simp [maxLen], (fun e => by cases e), (fun ad e _ => by injection e with e; subst e; exact hB), fun ad e j u hu => ?_⟩
  injection e with e
  subst e
  have hj := (List.getElem?_eq_some_iff.1 hu).1
  rw [vb_length, hl] at hj
  rw [Addr.add_lit, cell_of_row _ _ _ _ _ _ h, List.getElem?_toArray, show 1 + j = j + 1 by omega]
  show (vb s)[j]? = some u
  rw [← hu, vb_at _ j (by omega), vb_at _ j (by omega), List.getElem_take]

set_option maxRecDepth 100000 in
theorem slice_sum (b n : Nat) (hn : n ≤ 32) (W : World) : (Instr.sliceAt 25 (.pointer (some ⟨b, 1, none⟩)) none (some (.int .i64 n)) none).run Tryd.prog W = .ok (.slice (some ⟨b, 1, none⟩) n 32) W := by
  have hn2 : (n : Int) ≤ (Tryd.prog.arrayLen 25 : Nat) := by
    show (n : Int) ≤ 32
    omega
  have h := run_sliceAt_array_h (P := Tryd.prog) W 25 ⟨b, 1, none⟩ Tryd.underlying25 .i64 n (by omega) hn2
  rw [h]
  go_simp

theorem sizeI_le (k : UInt8) : sizeI k ≤ 32 := by
  unfold sizeI
  split
  · omega
  · split <;> omega

set_option maxRecDepth 100000 in
set_option maxHeartbeats 1600000 in
theorem igood_any (k : UInt8) (s : List UInt8) (w : World) (hs : s.length = 32) : Calls Tryd.prog 62 #[idV (k :: s)] w (Gives (.bool (goodI (k :: s))) w) := by
  have hsz := sizeI_le k
  have hg : goodI (k :: s) = (decide (0 < sizeI k) && (k :: s == k :: pad32 (s.take (sizeI k)))) := rfl
  have hsize := fun W => size_any k W
  have h0 := IdAt.new w (k :: s)
  generalize sizeI k = n at hsz hg hsize
  have HG := Lib.hid hg
  have HSZ := Lib.hid hsize
  have HSZ0 := hsz
  have H0 := Lib.hid h0
  clear hg hsize h0
  have hb0 : Below w.heap.size w (w.alloc (.cells (vb (k :: s)).toArray 27)) := (Below.refl _ _).alloc (Nat.le_refl _) _
  have HB0 := Lib.hid hb0
  clear hb0
  have d0 := H0.out.kind
  go_enter Tryd.func62, Tryd.ntmps62
  by_cases hn : n = 0
  · subst hn
    go_wp2_with (refine wp_box_row rfl _ rfl rfl ?_)
    go_wp2_with fail
    refine (HSZ.out _).mono ?_
    rintro e w1 ⟨rfl, rfl⟩
    go_wp2_with fail
    go_quiet (fail)
    go_wp2_with fail
    go_ret
    exact ⟨by rw [HG.out]; rfl, ⟨HB0.out.os, HB0.out.tape, HB0.out.output, HB0.out.size, HB0.out.block⟩⟩
  · have hpos : decide (0 < n) = true := by simp; omega
    have hx : (k :: s).length = 33 := by simp [hs]
    have hy : (k :: pad32 (s.take n)).length = 33 := by simp [pad32_length]
    have heg := fun p q W => eqGuard_id .eql p q (k :: s) (k :: pad32 (s.take n)) W
    have heq := fun W => eql_id (k :: s) (k :: pad32 (s.take n)) hx hy W
    have HX := Lib.hid hx
    have HS : Hid (s.length = 32) := hs
    obtain ⟨V1, hV1⟩ : ∃ V, idV (k :: s) = V := ⟨_, rfl⟩
    obtain ⟨V2, hV2⟩ : ∃ V, idV (k :: pad32 (s.take n)) = V := ⟨_, rfl⟩
    have hnm : ∀ (v : Value) (W : World), Sl W W.heap.size v (s.take n) → Calls Tryd.prog 39 #[.int .u8 k.toNat, v] W (Gives V2 W) := fun v W h => by rw [← hV2]; exact named_any k v (s.take n) W h
    have HNM := Lib.hid hnm
    rw [hV1, hV2] at heg heq
    clear hnm hx hy hs hV2
    go_wp2_with (refine wp_box_row rfl _ rfl rfl ?_)
    go_wp2_with fail
    refine (HSZ.out _).mono ?_
    rintro e w1 ⟨rfl, rfl⟩
    go_wp2_with fail
    have hS0 : IdAt ((w.alloc (.cells (vb (k :: s)).toArray 27)).drew) w.heap.size (k :: s) := H0.out.drew
    have HBD : Hid (Below w.heap.size w ((w.alloc (.cells (vb (k :: s)).toArray 27)).drew)) := HB0.out.drew
    obtain ⟨W0, hW0⟩ : ∃ x, (w.alloc (.cells (vb (k :: s)).toArray 27)).drew = x := ⟨_, rfl⟩
    have hs0 : W0.heap.size = w.heap.size + 1 := by rw [← hW0]; simp
    rw [hW0] at hS0 HBD
    clear d0
    refine region_begin hW0 (S := fun W => IdAt W w.heap.size (k :: s)) (by kernel_rfl) hS0 (fun hHeld => ?_)
    clear hW0
    refine take_at (i := 0) (.int .i64 (n : Int)) (some 7) (by decide) (by rfl) (by kernel_rfl) (by kernel_rfl) (by kernel_rfl) (fun _ _ _ h => h) (by rfl) (fun W hW => by go_simp) (by assumption) ?_
    try simp only [Act.put, List.setIfInBounds_toArray, List.set_cons_zero, List.set_cons_succ]
    refine take_at (i := 1) (.bool (decide (0 < n))) (some 8) (by decide) (by rfl) (by kernel_rfl) (by kernel_rfl) (by kernel_rfl) (fun _ _ _ h => h) (by rfl) (fun W hW => by go_simp) (by assumption) ?_
    try simp only [Act.put, List.setIfInBounds_toArray, List.set_cons_zero, List.set_cons_succ]
    refine take_at (i := 2) (.bool (decide (0 < n))) (some 9) (by decide) (by rfl) (by kernel_rfl) (by kernel_rfl) (by kernel_rfl) (fun _ _ _ h => h) (by rfl) (fun W hW => by go_simp) (by assumption) ?_
    try simp only [Act.put, List.setIfInBounds_toArray, List.set_cons_zero, List.set_cons_succ]
    rw [hpos]
    refine take_at (i := 3) (V1) (some 10) (by decide) (by rfl) (by kernel_rfl) (by kernel_rfl) (by kernel_rfl) (fun _ _ _ h => h) (by rfl) (fun W hW => by rw [← hV1]; exact exec_load_id hW HX.out _ rfl rfl) (by assumption) ?_
    try simp only [Act.put, List.setIfInBounds_toArray, List.set_cons_zero, List.set_cons_succ]
    refine take_at (i := 4) (.pointer (some ⟨w.heap.size, 0, none⟩)) (some 11) (by decide) (by rfl) (by kernel_rfl) (by kernel_rfl) (by kernel_rfl) (fun _ _ _ h => h) (by rfl) (fun W hW => by go_simp) (by assumption) ?_
    try simp only [Act.put, List.setIfInBounds_toArray, List.set_cons_zero, List.set_cons_succ]
    refine take_at (i := 5) (.int .u8 k.toNat) (some 12) (by decide) (by rfl) (by kernel_rfl) (by kernel_rfl) (by kernel_rfl) (fun _ _ _ h => h) (by rfl) (fun W hW => by have := hW.kind; go_simp) (by assumption) ?_
    try simp only [Act.put, List.setIfInBounds_toArray, List.set_cons_zero, List.set_cons_succ]
    refine take_at (i := 6) (.pointer (some ⟨w.heap.size, 1, none⟩)) (some 13) (by decide) (by rfl) (by kernel_rfl) (by kernel_rfl) (by kernel_rfl) (fun _ _ _ h => h) (by rfl) (fun W hW => by go_simp) (by assumption) ?_
    try simp only [Act.put, List.setIfInBounds_toArray, List.set_cons_zero, List.set_cons_succ]
    refine take_at (i := 7) (.int .i64 (n : Int)) (some 14) (by decide) (by rfl) (by kernel_rfl) (by kernel_rfl) (by kernel_rfl) (fun _ _ _ h => h) (by rfl) (fun W hW => by go_simp) (by assumption) ?_
    try simp only [Act.put, List.setIfInBounds_toArray, List.set_cons_zero, List.set_cons_succ]
    refine take_at (i := 8) (.slice (some ⟨w.heap.size, 1, none⟩) n 32) (some 15) (by decide) (by rfl) (by kernel_rfl) (by kernel_rfl) (by kernel_rfl) (fun _ _ _ h => h) (by rfl) (fun W hW => by have := slice_sum w.heap.size n HSZ0 W; go_simp) (by assumption) ?_
    try simp only [Act.put, List.setIfInBounds_toArray, List.set_cons_zero, List.set_cons_succ]
    refine wpAnyH_ready (rs := [9]) (by kernel_rfl) (by simp) (AllReadyH.cons (Array.getElem?_eq_getElem (i := 9) (by decide)) (fun K9 hK => ?_) AllReadyH.nil)
    go_simp
    refine (HNM.out _ _ (hHeld.sl HS.out n HSZ0 (by omega))).mono ?_
    rintro e w3 ⟨rfl, hb3⟩
    have HB3 := Lib.hid (HBD.out.trans (hb3.mono (by omega)))
    refine hK.out _ _ (hHeld.below hb3 (by omega)) (fun hHeld => ?_)
    clear hK K9
    try simp only [Act.put, List.setIfInBounds_toArray, List.set_cons_zero, List.set_cons_succ]
    refine take_at (i := 10) (.bool (k :: s == k :: pad32 (s.take n))) (some 17) (by decide) (by rfl) (by kernel_rfl) (by kernel_rfl) (by kernel_rfl) (fun _ _ _ h => h) (by rfl) (fun W hW => by go_simp) (by assumption) ?_
    try simp only [Act.put, List.setIfInBounds_toArray, List.set_cons_zero, List.set_cons_succ]
    refine take_at (i := 11) (.bool (k :: s == k :: pad32 (s.take n))) (some 18) (by decide) (by rfl) (by kernel_rfl) (by kernel_rfl) (by kernel_rfl) (fun _ _ _ h => h) (by rfl) (fun W hW => by go_simp) (by assumption) ?_
    try simp only [Act.put, List.setIfInBounds_toArray, List.set_cons_zero, List.set_cons_succ]
    refine take_at (i := 12) (.bool (k :: s == k :: pad32 (s.take n))) (some 2) (by decide) (by rfl) (by kernel_rfl) (by kernel_rfl) (by kernel_rfl) (fun _ _ _ h => h) (by rfl) (fun W hW => by go_simp) (by assumption) ?_
    try simp only [Act.put, List.setIfInBounds_toArray, List.set_cons_zero, List.set_cons_succ]
    refine wpAnyH_done (by kernel_rfl) ?_ _
    try simp only [Act.put, List.setIfInBounds_toArray, List.set_cons_zero, List.set_cons_succ]
    go_wp2_with fail
    go_ret
    exact ⟨by rw [HG.out, hpos, Bool.true_and]; rfl, HB3.out⟩

end Go.Proofs.YthbahbcihaebeaaDoor.Cd

/-
  ident.Text. Conditions: none.
-/
namespace Go.Proofs.YthbahbcihaebeaaDoor.Cd
open Go.RowKit

/-- A name as bytes; those of one that can't be are none. -/
def textI : List UInt8 → List UInt8
  | [] => []
  | k :: s => if goodI (k :: s) = true then k :: s.take (sizeI k) else []

theorem textI_cons (k : UInt8) (s : List UInt8) : textI (k :: s) = if goodI (k :: s) = true then k :: s.take (sizeI k) else [] := rfl

theorem own_byte (w : World) (B : Nat) (hB : B ≤ w.heap.size) (k : UInt8) : Own (w.alloc (.cells #[.int .u8 k.toNat] 5)) B (.slice (some ⟨w.heap.size, 0, none⟩) 1 1) [k] :=
  ⟨by simp [vb_length], .inr ⟨w.heap.size, 1, _, rfl, hB, heap_alloc_new w _, Nat.le_refl _, by simp [maxLen], rfl, rfl⟩⟩

set_option maxRecDepth 100000 in
set_option maxHeartbeats 1600000 in
theorem itext_any (k : UInt8) (s : List UInt8) (w : World) (hs : s.length = 32) : Calls Tryd.prog 64 #[idV (k :: s)] w (Gives (.string ⟨(textI (k :: s)).toArray⟩) w) := by
  have hx : (k :: s).length = 33 := by simp [hs]
  have h0 := IdAt.new w (k :: s)
  have hb0 : Below w.heap.size w (w.alloc (.cells (vb (k :: s)).toArray 27)) := (Below.refl _ _).alloc (Nat.le_refl _) _
  have hs0 : (w.alloc (.cells (vb (k :: s)).toArray 27)).heap.size = w.heap.size + 1 := asz _ _
  have HS := Lib.hid hs
  have HX := Lib.hid hx
  clear hs hx
  go_enter Tryd.func64, Tryd.ntmps64
  go_wp2_with (first
    | (refine wp_box_row rfl _ rfl rfl ?_)
    | (refine wp_load_id rfl _ rfl w.heap.size rfl (k :: s) HX.out (IdAt.new w (k :: s)) ?_))
  generalize w.alloc (.cells (vb (k :: s)).toArray 27) = w1 at h0 hb0 hs0 ⊢
  have HI := Lib.hid h0
  have HB := Lib.hid hb0
  clear h0 hb0
  refine (igood_any k s w1 HS.out).mono ?_
  rintro e w2 ⟨rfl, hb2⟩
  have hs2 := hb2.size
  have HI2 := Lib.hid (HI.out.below hb2 (by omega))
  have HB2 := Lib.hid (HB.out.trans (hb2.mono (by omega)))
  clear hb2 HB HI
  cases hg : goodI (k :: s) with
  | false =>
    have HG := Lib.hid hg
    clear hg
    go_wp2_with fail
    go_ret
    exact ⟨by rw [textI_cons, HG.out]; rfl, HB2.out⟩
  | true =>
    have ht : textI (k :: s) = k :: s.take (sizeI k) := by rw [textI_cons, hg]; rfl
    have hz := sizeI_le k
    have hsize := fun W => size_any k W
    generalize sizeI k = n at ht hz hsize
    have HT := Lib.hid ht
    have HSZ := Lib.hid hsize
    have HZ := hz
    clear ht hsize hg
    go_wp2_with fail
    obtain ⟨W0, hW0⟩ : ∃ x, w2.drew = x := ⟨_, rfl⟩
    have hS0 : IdAt W0 w.heap.size (k :: s) := by rw [← hW0]; exact HI2.out.drew
    have HBD : Hid (Below w.heap.size w W0) := by rw [← hW0]; exact HB2.out.drew
    have hsz0 : w.heap.size + 1 ≤ W0.heap.size := by rw [← hW0]; simp; omega
    clear HI2 HB2 hs2 hs0
    refine region_begin hW0 (S := fun W => IdAt W w.heap.size (k :: s)) (by kernel_rfl) hS0 (fun hHeld => ?_)
    clear hW0 hS0
    refine take_at (i := 0) (.pointer (some ⟨w.heap.size, 0, none⟩)) (some 7) (by decide) (by rfl) (by kernel_rfl) (by kernel_rfl) (by kernel_rfl) (fun _ _ _ h => h) (by rfl) (fun W hW => by go_simp) (by assumption) ?_
    try simp only [Act.put, List.setIfInBounds_toArray, List.set_cons_zero, List.set_cons_succ]
    refine take_at (i := 1) (.int .u8 k.toNat) (some 8) (by decide) (by rfl) (by kernel_rfl) (by kernel_rfl) (by kernel_rfl) (fun _ _ _ h => h) (by rfl) (fun W hW => by have := hW.kind; go_simp) (by assumption) ?_
    try simp only [Act.put, List.setIfInBounds_toArray, List.set_cons_zero, List.set_cons_succ]
    refine take_at (i := 3) (.pointer (some ⟨w.heap.size, 1, none⟩)) (some 10) (by decide) (by rfl) (by kernel_rfl) (by kernel_rfl) (by kernel_rfl) (fun _ _ _ h => h) (by rfl) (fun W hW => by go_simp) (by assumption) ?_
    try simp only [Act.put, List.setIfInBounds_toArray, List.set_cons_zero, List.set_cons_succ]
    refine take_at (i := 4) (.pointer (some ⟨w.heap.size, 0, none⟩)) (some 11) (by decide) (by rfl) (by kernel_rfl) (by kernel_rfl) (by kernel_rfl) (fun _ _ _ h => h) (by rfl) (fun W hW => by go_simp) (by assumption) ?_
    try simp only [Act.put, List.setIfInBounds_toArray, List.set_cons_zero, List.set_cons_succ]
    refine take_at (i := 5) (.int .u8 k.toNat) (some 12) (by decide) (by rfl) (by kernel_rfl) (by kernel_rfl) (by kernel_rfl) (fun _ _ _ h => h) (by rfl) (fun W hW => by have := hW.kind; go_simp) (by assumption) ?_
    try simp only [Act.put, List.setIfInBounds_toArray, List.set_cons_zero, List.set_cons_succ]
    refine wpAnyH_ready (rs := [2, 6]) (by kernel_rfl) (by simp) ?_
    refine come (i := 2) (.slice (some ⟨W0.heap.size, 0, none⟩) 1 1) (W0.alloc (.cells #[.int .u8 k.toNat] 5)) (some 9) (by decide) (by rfl) (by rfl) (by go_simp) (hHeld.below ((Below.refl _ _).alloc (Nat.le_refl _) _) (by omega)) ?_ (AllReadyH.cons (Array.getElem?_eq_getElem (i := 6) (by decide)) (fun K9 hK => ?_) AllReadyH.nil)
    case refine_1 =>
      replace hHeld : IdAt (W0.alloc (.cells #[.int .u8 k.toNat] 5)) w.heap.size (k :: s) := hHeld.below ((Below.refl _ _).alloc (Nat.le_refl _) _) (by omega)
      try simp only [Act.put, List.setIfInBounds_toArray, List.set_cons_zero, List.set_cons_succ]
      refine wpAnyH_ready (rs := [6]) (by kernel_rfl) (by simp) (AllReadyH.cons (Array.getElem?_eq_getElem (i := 6) (by decide)) (fun K9 hK => ?_) AllReadyH.nil)
      go_simp
      refine (HSZ.out _).mono ?_
      rintro e w3 ⟨rfl, rfl⟩
      refine hK.out _ _ (hHeld) (fun hHeld => ?_)
      clear hK K9
      try simp only [Act.put, List.setIfInBounds_toArray, List.set_cons_zero, List.set_cons_succ]
      refine take_at (i := 7) (.slice (some ⟨w.heap.size, 1, none⟩) n 32) (some 14) (by decide) (by rfl) (by kernel_rfl) (by kernel_rfl) (by kernel_rfl) (fun _ _ _ h => h) (by rfl) (fun W hW => by have := slice_sum w.heap.size n HZ W; go_simp) (by assumption) ?_
      try simp only [Act.put, List.setIfInBounds_toArray, List.set_cons_zero, List.set_cons_succ]
      have ho := own_byte W0 W0.heap.size (Nat.le_refl _) k
      have hbo : Below w.heap.size w (W0.alloc (.cells #[.int .u8 k.toNat] 5)) := HBD.out.alloc (by omega) _
      have hso : (W0.alloc (.cells #[.int .u8 k.toNat] 5)).heap.size = W0.heap.size + 1 := asz _ _
      generalize W0.alloc (.cells #[.int .u8 k.toNat] 5) = W1 at ho hbo hso hHeld ⊢
      refine wpAnyH_ready (rs := [8]) (by kernel_rfl) (by simp) (AllReadyH.cons (Array.getElem?_eq_getElem (i := 8) (by decide)) (fun K9 hK => ?_) AllReadyH.nil)
      refine step_append_sl rfl _ _ rfl W0.heap.size _ [k] rfl ho (by omega) _ W1.heap.size (s.take n) rfl (hHeld.sl HS.out n HZ (by omega)) (by simp; omega) ?_
      intro v4 w4 ho4 hb4
      have HH := hHeld.below hb4 (by omega)
      have HB4 := Lib.hid (hbo.trans (hb4.mono (by omega)))
      have hcv := run_text_of _ _ _ _ ho4.sl
      clear ho hbo hso hb4
      refine hK.out _ _ (HH) (fun hHeld => ?_)
      clear hK K9
      try simp only [Act.put, List.setIfInBounds_toArray, List.set_cons_zero, List.set_cons_succ]
      refine take_at (i := 9) (v4) (some 3) (by decide) (by rfl) (by kernel_rfl) (by kernel_rfl) (by kernel_rfl) (fun _ _ _ h => h) (by rfl) (fun W hW => by go_simp) (by assumption) ?_
      try simp only [Act.put, List.setIfInBounds_toArray, List.set_cons_zero, List.set_cons_succ]
      refine wpAnyH_done (by kernel_rfl) ?_ _
      try simp only [Act.put, List.setIfInBounds_toArray, List.set_cons_zero, List.set_cons_succ]
      go_wp2_with fail
      go_ret
      exact ⟨by rw [HT.out]; rfl, HB4.out⟩
    case refine_2 =>
      go_simp
      refine (HSZ.out _).mono ?_
      rintro e w3 ⟨rfl, rfl⟩
      refine hK.out _ _ hHeld (fun hHeld => ?_)
      clear hK K9
      try simp only [Act.put, List.setIfInBounds_toArray, List.set_cons_zero, List.set_cons_succ]
      refine take_at (i := 7) (.slice (some ⟨w.heap.size, 1, none⟩) n 32) (some 14) (by decide) (by rfl) (by kernel_rfl) (by kernel_rfl) (by kernel_rfl) (fun _ _ _ h => h) (by rfl) (fun W hW => by have := slice_sum w.heap.size n HZ W; go_simp) (by assumption) ?_
      try simp only [Act.put, List.setIfInBounds_toArray, List.set_cons_zero, List.set_cons_succ]
      refine wpAnyH_ready (rs := [2]) (by kernel_rfl) (by simp) (come (i := 2) (.slice (some ⟨W0.heap.size, 0, none⟩) 1 1) (W0.alloc (.cells #[.int .u8 k.toNat] 5)) (some 9) (by decide) (by rfl) (by rfl) (by go_simp) (hHeld.below ((Below.refl _ _).alloc (Nat.le_refl _) _) (by omega)) ?_ AllReadyH.nil)
      try simp only [Act.put, List.setIfInBounds_toArray, List.set_cons_zero, List.set_cons_succ]
      replace hHeld : IdAt (W0.alloc (.cells #[.int .u8 k.toNat] 5)) w.heap.size (k :: s) := hHeld.below ((Below.refl _ _).alloc (Nat.le_refl _) _) (by omega)
      have ho := own_byte W0 W0.heap.size (Nat.le_refl _) k
      have hbo : Below w.heap.size w (W0.alloc (.cells #[.int .u8 k.toNat] 5)) := HBD.out.alloc (by omega) _
      have hso : (W0.alloc (.cells #[.int .u8 k.toNat] 5)).heap.size = W0.heap.size + 1 := asz _ _
      generalize W0.alloc (.cells #[.int .u8 k.toNat] 5) = W1 at ho hbo hso hHeld ⊢
      refine wpAnyH_ready (rs := [8]) (by kernel_rfl) (by simp) (AllReadyH.cons (Array.getElem?_eq_getElem (i := 8) (by decide)) (fun K9 hK => ?_) AllReadyH.nil)
      refine step_append_sl rfl _ _ rfl W0.heap.size _ [k] rfl ho (by omega) _ W1.heap.size (s.take n) rfl (hHeld.sl HS.out n HZ (by omega)) (by simp; omega) ?_
      intro v4 w4 ho4 hb4
      have HH := hHeld.below hb4 (by omega)
      have HB4 := Lib.hid (hbo.trans (hb4.mono (by omega)))
      have hcv := run_text_of _ _ _ _ ho4.sl
      clear ho hbo hso hb4
      refine hK.out _ _ (HH) (fun hHeld => ?_)
      clear hK K9
      try simp only [Act.put, List.setIfInBounds_toArray, List.set_cons_zero, List.set_cons_succ]
      refine take_at (i := 9) (v4) (some 3) (by decide) (by rfl) (by kernel_rfl) (by kernel_rfl) (by kernel_rfl) (fun _ _ _ h => h) (by rfl) (fun W hW => by go_simp) (by assumption) ?_
      try simp only [Act.put, List.setIfInBounds_toArray, List.set_cons_zero, List.set_cons_succ]
      refine wpAnyH_done (by kernel_rfl) ?_ _
      try simp only [Act.put, List.setIfInBounds_toArray, List.set_cons_zero, List.set_cons_succ]
      go_wp2_with fail
      go_ret
      exact ⟨by rw [HT.out]; rfl, HB4.out⟩

end Go.Proofs.YthbahbcihaebeaaDoor.Cd

/-
  ident.Parse. Conditions: none.
-/
namespace Go.Proofs.YthbahbcihaebeaaDoor.Cd
open Go.RowKit

/-- The name of bytes, and whether they are one's. -/
def parseI : List UInt8 → List UInt8 × Bool
  | [] => (zer 33, false)
  | c :: r => if 0 < sizeI c ∧ r.length = sizeI c then (c :: pad32 r, true) else (zer 33, false)

theorem slice_rest (c : UInt8) (r : List UInt8) (W : World) : (Instr.sliceAt 9 (.string ⟨(c :: r).toArray⟩) (some (.int .i64 1)) none none).run Tryd.prog W = .ok (.string ⟨r.toArray⟩) W := by
  have hs : (ByteArray.mk (c :: r).toArray).size = r.length + 1 := rfl
  rw [run_sliceAt_string (P := Tryd.prog) W 9 _ _ _ _ Tryd.underlying9, run_slice_string_l (P := Tryd.prog) W 9 _ Tryd.underlying9 .i64 1 (by omega) (by rw [hs]; omega)]
  have he : (ByteArray.mk (c :: r).toArray).extract (1 : Int).toNat (ByteArray.mk (c :: r).toArray).size = ⟨r.toArray⟩ := by
    rw [hs]
    apply ByteArray.ext
    simp [ByteArray.data_extract, List.extract_eq_take_drop]
  rw [he]

theorem step_bytes_of {w : World} {ops : Array Oper} {o : Oper} {a : Act} {K : Act → World → Prop} {Q : Exit → Act → World → Prop} {E : Prop} (hgd : o.guard = none) (x : Operand)
    (hop : o.op = .convert 9 73 x) (s : List UInt8) (hx : a.eval x = .string ⟨s.toArray⟩) (hs : s.length ≤ 140737488355328)
    (hK : ∀ g c w', Row w' g c s → w.heap.size ≤ g → Below w.heap.size w w' → K (a.put o.dst (.slice (some ⟨g, 0, none⟩) s.length c)) w') : if Region.wanted o (yielded ops a.tmps) = true then Oper.wp Tryd.prog o a w K Q else E := by
  have hw : Region.wanted o (yielded ops a.tmps) = true := by simp [Region.wanted, hgd]
  rw [if_pos hw]
  have hrun := Lib.run_convert_string_bytes (P := Tryd.prog) w 9 73 5 ⟨s.toArray⟩ Tryd.underlying9 Tryd.underlying73 Tryd.underlying5
  have hsz : (ByteArray.mk s.toArray).size = s.length := rfl
  rw [hsz] at hrun
  unfold Oper.wp
  simp [execOp, hop, hx, hrun, Result.andThen]
  refine hK _ _ _ ⟨grownCap_ge w s.length 0 5, grownCap_le_maxLen w s.length 0 5 (by simp only [maxLen]; omega), by rw [Lib.bytesWorld_size]; omega, fun j u hu => ?_⟩ (Nat.le_refl _) ⟨rfl, rfl, rfl, by rw [Lib.bytesWorld_size]; omega, fun k hk => Lib.bytesWorld_at_old w _ _ k hk⟩
  have hj := (List.getElem?_eq_some_iff.1 hu).1
  rw [vb_length] at hj
  rw [Lib.bytesWorld_cell w 5 ⟨s.toArray⟩ j hj]
  rw [vb_at s j hj] at hu
  rw [← hu]
  simp [List.getD, hj]

theorem step_put_id {w : World} {ops : Array Oper} {o : Oper} {a : Act} {K : Act → World → Prop} {Q : Exit → Act → World → Prop} {E : Prop} (hgd : o.guard = none) (x y : Operand) (ho : o.op = .store 27 x y)
    (g : Nat) (hx : a.eval x = .pointer (some ⟨g, 0, none⟩)) (l : List UInt8) (hl : l.length = 33) (hy : a.eval y = idV l) (old : List UInt8) (hold : old.length = 33) (hg : IdAt w g old)
    (h : ∀ w', IdAt w' g l → w.grownBy w' (some g) → K (a.put o.dst undef) w') : if Region.wanted o (yielded ops a.tmps) = true then Oper.wp Tryd.prog o a w K Q else E := by
  have hw : Region.wanted o (yielded ops a.tmps) = true := by simp [Region.wanted, hgd]
  rw [if_pos hw]
  exact wp_store_row _ x y ho g (vb l).toArray hx hy _ (vb old).toArray hg (by rw [vb_size, hl]; exact cells_id) (by rw [vb_size, vb_size, hl, hold]) (all_oneCell_toArray (vb_one l)) (h _ (setRow_heap w g _ _ _ _ hg) (setRow_grown w g _))

/-- Two answers: a name out of a block of its own, and whether it is one. -/
theorem ret_id2 {fn : Func} {p q : Tmp} (hf : fn.results = #[.cell p 27, .tmp q]) (tmps : Array Value) (w : World) (g : Nat) (l : List UInt8) (hl : l.length = 33) (b : Bool)
    (hp : tmps.getD p undef = .pointer (some ⟨g, 0, none⟩)) (hg : IdAt w g l) (hq : tmps.getD q undef = .bool b) : (results fn tmps).run Tryd.prog w = .ok (.tuple #[idV l, .bool b]) w := by
  have hp' : tmps[p]?.getD undef = .pointer (some ⟨g, 0, none⟩) := by simpa using hp
  have hq' : tmps[q]?.getD undef = .bool b := by simpa using hq
  have hld := run_loadVar_row (P := Tryd.prog) w g _ 27 _ _ _ hg Tryd.underlying27 rfl (by rw [vb_size, hl]; exact cells_id)
  simp [results, hf, hp', hq', asAddr, hld, idV]

theorem parse_no (l : List UInt8) (h : ∀ c r, l = c :: r → ¬ (0 < sizeI c ∧ r.length = sizeI c)) : parseI l = (zer 33, false) := by
  cases l with
  | nil => rfl
  | cons c r => exact if_neg (h c r rfl)

set_option maxRecDepth 100000 in
set_option maxHeartbeats 1600000 in
theorem parse_nil (w : World) : Calls Tryd.prog 72 #[.string ⟨([] : List UInt8).toArray⟩] w (Gives (.tuple #[idV (zer 33), .bool false]) w) := by
  go_enter Tryd.func72, Tryd.ntmps72
  go_wp2_with (first
    | (refine wp_alloc_row zero_id rfl rfl ?_)
    | (refine wp_build_row rfl _ rfl _ built_id0 (by simp) ?_)
    | (refine wp_put_id rfl _ _ rfl w.heap.size rfl (zer 33) (zer_length _) rfl (zer 33) (zer_length _) (IdAt.new w (zer 33)) ?hK))
  intro w3 h3 hg3
  have hb3 : Below w.heap.size w w3 := ((Below.refl _ _).alloc (Nat.le_refl _) _).grown hg3 (by rw [asz]; omega) (fun k hk => by injection hk with hk; omega)
  go_wp2_with fail
  exact bodyPost_ret (v := .tuple #[idV (zer 33), .bool false]) (ret_id2 Tryd.results72 _ _ w.heap.size (zer 33) (zer_length _) false rfl h3 rfl) rfl ⟨rfl, hb3⟩

set_option maxRecDepth 100000 in
set_option maxHeartbeats 1600000 in
theorem parse_none (c : UInt8) (r : List UInt8) (w : World) (hr : r.length ≤ 1099511627776) (h : ¬ (0 < sizeI c ∧ r.length = sizeI c)) : Calls Tryd.prog 72 #[.string ⟨(c :: r).toArray⟩] w (Gives (.tuple #[idV (zer 33), .bool false]) w) := by
  have hsize := fun W => size_any c W
  have hz := sizeI_le c
  generalize sizeI c = n at hsize h hz
  have HSZ := Lib.hid hsize
  clear hsize
  by_cases hn : n = 0
  · subst hn
    go_enter Tryd.func72, Tryd.ntmps72
    go_wp2_with (first
      | (refine wp_alloc_row zero_id rfl rfl ?_)
      | (refine wp_build_row rfl _ rfl _ built_id0 (by simp) ?_)
      | (go_at_call 15; refine (HSZ.out _).mono ?_; rintro e w1 ⟨rfl, rfl⟩)
      | (refine wp_put_id rfl _ _ rfl w.heap.size rfl (zer 33) (zer_length _) rfl (zer 33) (zer_length _) (IdAt.new w (zer 33)) ?hK))
    intro w3 h3 hg3
    have hb3 : Below w.heap.size w w3 := ((Below.refl _ _).alloc (Nat.le_refl _) _).grown hg3 (by rw [asz]; omega) (fun k hk => by injection hk with hk; omega)
    go_wp2_with fail
    exact bodyPost_ret (v := .tuple #[idV (zer 33), .bool false]) (ret_id2 Tryd.results72 _ _ w.heap.size (zer 33) (zer_length _) false rfl h3 rfl) rfl ⟨rfl, hb3⟩
  · have hne : r.length ≠ n := by omega
    have hq0 : ((n : Int) == 0) = false := by simp; omega
    have hq1 : ((r.length : Int) + 1 != 1 + (n : Int)) = true := by simp; omega
    have hq2 : ¬ ((r.length : Int) + 1 = 1 + (n : Int)) := by omega
    have hq3 : ((r.length : Int) + 1 == 1 + (n : Int)) = false := by rw [beq_eq_false_iff_ne]; exact hq2
    have hix : ∀ h, (ByteArray.mk (c :: r).toArray)[0]'h = c := fun _ => rfl
    have hsz : (ByteArray.mk (c :: r).toArray).size = r.length + 1 := rfl
    go_enter Tryd.func72, Tryd.ntmps72
    go_wp2_with (first
      | (refine wp_alloc_row zero_id rfl rfl ?_)
      | (refine wp_build_row rfl _ rfl _ built_id0 (by simp) ?_)
      | (go_at_call 15; refine (HSZ.out _).mono ?_; rintro e w1 ⟨rfl, rfl⟩)
      | (refine wp_put_id rfl _ _ rfl w.heap.size rfl (zer 33) (zer_length _) rfl (zer 33) (zer_length _) (IdAt.new w (zer 33)) ?hK2))
    intro w3 h3 hg3
    have hb3 : Below w.heap.size w w3 := ((Below.refl _ _).alloc (Nat.le_refl _) _).grown hg3 (by rw [asz]; omega) (fun k hk => by injection hk with hk; omega)
    go_wp2_with fail
    exact bodyPost_ret (v := .tuple #[idV (zer 33), .bool false]) (ret_id2 Tryd.results72 _ _ w.heap.size (zer 33) (zer_length _) false rfl h3 rfl) rfl ⟨rfl, hb3⟩

set_option maxRecDepth 100000 in
set_option maxHeartbeats 1600000 in
theorem parse_some (c : UInt8) (r : List UInt8) (w : World) (h0 : 0 < sizeI c) (h1 : r.length = sizeI c) : Calls Tryd.prog 72 #[.string ⟨(c :: r).toArray⟩] w (Gives (.tuple #[idV (c :: pad32 r), .bool true]) w) := by
  have hsize := fun W => size_any c W
  have hz := sizeI_le c
  rw [← h1] at hsize hz h0
  have HSZ := Lib.hid hsize
  clear hsize h1
  have hsz : (ByteArray.mk (c :: r).toArray).size = r.length + 1 := rfl
  have hl : (c :: pad32 r).length = 33 := by simp [pad32_length]
  have HL := Lib.hid hl
  have HZ := Lib.hid hz
  clear hl
  have hq0 : ((r.length : Int) == 0) = false := by
    rw [beq_eq_false_iff_ne]
    omega
  have hq1 : ((r.length : Int) + 1 != 1 + (r.length : Int)) = false := by
    rw [bne_eq_false_iff_eq]
    omega
  have hix : ∀ h, (ByteArray.mk (c :: r).toArray)[0]'h = c := fun _ => rfl
  go_enter Tryd.func72, Tryd.ntmps72
  go_wp2_with (first
    | (refine wp_alloc_row zero_id rfl rfl ?_)
    | (go_at_call 15; refine (HSZ.out _).mono ?_; rintro e w1 ⟨rfl, rfl⟩))
  have hS0 : IdAt (w.alloc (.cells (vb (zer 33)).toArray 27)).drew w.heap.size (zer 33) := (IdAt.new w (zer 33)).drew
  have hB0 : Below w.heap.size w (w.alloc (.cells (vb (zer 33)).toArray 27)).drew := ((Below.refl _ _).alloc (Nat.le_refl _) _).drew
  obtain ⟨W0, hW0⟩ : ∃ x, (w.alloc (.cells (vb (zer 33)).toArray 27)).drew = x := ⟨_, rfl⟩
  have hs0 : W0.heap.size = w.heap.size + 1 := by rw [← hW0]; simp
  rw [hW0] at hS0 hB0
  have HB0 := Lib.hid hB0
  clear hB0
  refine region_begin hW0 (S := fun W => Below w.heap.size w W) (by kernel_rfl) HB0.out (fun hHeld => ?_)
  clear hW0
  refine take_at (i := 0) (.string ⟨(c :: r).toArray⟩) (some 22) (by decide) (by rfl) (by kernel_rfl) (by kernel_rfl) (by kernel_rfl) (fun _ _ _ h => h) (by rfl) (fun W hW => by go_simp) (by assumption) ?_
  try simp only [Act.put, List.setIfInBounds_toArray, List.set_cons_zero, List.set_cons_succ]
  refine take_at (i := 1) (.int .u8 c.toNat) (some 23) (by decide) (by rfl) (by kernel_rfl) (by kernel_rfl) (by kernel_rfl) (fun _ _ _ h => h) (by rfl) (fun W hW => by go_simp) (by assumption) ?_
  try simp only [Act.put, List.setIfInBounds_toArray, List.set_cons_zero, List.set_cons_succ]
  refine take_at (i := 2) (.string ⟨(c :: r).toArray⟩) (some 24) (by decide) (by rfl) (by kernel_rfl) (by kernel_rfl) (by kernel_rfl) (fun _ _ _ h => h) (by rfl) (fun W hW => by go_simp) (by assumption) ?_
  try simp only [Act.put, List.setIfInBounds_toArray, List.set_cons_zero, List.set_cons_succ]
  refine take_at (i := 3) (.string ⟨r.toArray⟩) (some 25) (by decide) (by rfl) (by kernel_rfl) (by kernel_rfl) (by kernel_rfl) (fun _ _ _ h => h) (by rfl) (fun W hW => by have := slice_rest c r W; go_simp) (by assumption) ?_
  try simp only [Act.put, List.setIfInBounds_toArray, List.set_cons_zero, List.set_cons_succ]
  refine wpAnyH_ready (rs := [4]) (by kernel_rfl) (by simp) (AllReadyH.cons (Array.getElem?_eq_getElem (i := 4) (by decide)) (fun K9 hK => ?_) AllReadyH.nil)
  refine step_bytes_of rfl _ rfl r rfl (by have := HZ.out; omega) ?_
  intro g cc w3 hr3 hg3 hb3
  have HB3 := Lib.hid (HB0.out.trans (hb3.mono (by omega)))
  have hI3 : IdAt w3 w.heap.size (zer 33) := hS0.below hb3 (by omega)
  have hs3 := hb3.size
  clear hb3
  refine hK.out _ _ (HB3.out) (fun hHeld => ?_)
  clear hK K9
  try simp only [Act.put, List.setIfInBounds_toArray, List.set_cons_zero, List.set_cons_succ]
  refine wpAnyH_ready (rs := [5]) (by kernel_rfl) (by simp) (AllReadyH.cons (Array.getElem?_eq_getElem (i := 5) (by decide)) (fun K9 hK => ?_) AllReadyH.nil)
  go_simp
  refine (named_any c _ r _ hr3.sl).mono ?_
  rintro e w4 ⟨rfl, hb4⟩
  have HB4 := Lib.hid (HB3.out.trans (hb4.mono (by omega)))
  have hI4 : IdAt w4 w.heap.size (zer 33) := hI3.below hb4 (by omega)
  have hs4 := hb4.size
  clear hb4 hr3
  refine hK.out _ _ (HB4.out) (fun hHeld => ?_)
  clear hK K9
  try simp only [Act.put, List.setIfInBounds_toArray, List.set_cons_zero, List.set_cons_succ]
  refine wpAnyH_ready (rs := [6]) (by kernel_rfl) (by simp) (AllReadyH.cons (Array.getElem?_eq_getElem (i := 6) (by decide)) (fun K9 hK => ?_) AllReadyH.nil)
  refine step_put_id rfl _ _ rfl w.heap.size rfl (c :: pad32 r) HL.out rfl (zer 33) (zer_length _) hI4 ?_
  intro w5 hI5 hg5
  have HB5 := Lib.hid (HB4.out.grown hg5 (by omega) (fun k hk => by injection hk with hk; omega))
  clear hg5 hI4
  refine hK.out _ _ (HB5.out) (fun hHeld => ?_)
  clear hK K9
  try simp only [Act.put, List.setIfInBounds_toArray, List.set_cons_zero, List.set_cons_succ]
  refine take_at (i := 7) (.bool true) (some 3) (by decide) (by rfl) (by kernel_rfl) (by kernel_rfl) (by kernel_rfl) (fun _ _ _ h => h) (by rfl) (fun W hW => by go_simp) (by assumption) ?_
  try simp only [Act.put, List.setIfInBounds_toArray, List.set_cons_zero, List.set_cons_succ]
  refine wpAnyH_done (by kernel_rfl) ?_ _
  try simp only [Act.put, List.setIfInBounds_toArray, List.set_cons_zero, List.set_cons_succ]
  go_wp2_with fail
  exact bodyPost_ret (v := .tuple #[idV (c :: pad32 r), .bool true]) (ret_id2 Tryd.results72 _ _ w.heap.size (c :: pad32 r) HL.out true rfl hI5 rfl) rfl ⟨rfl, HB5.out⟩

theorem parse_any (l : List UInt8) (w : World) (hl : l.length ≤ 1099511627776) : Calls Tryd.prog 72 #[.string ⟨l.toArray⟩] w (Gives (.tuple #[idV (parseI l).1, .bool (parseI l).2]) w) := by
  cases l with
  | nil => exact parse_nil w
  | cons c r =>
    by_cases h : 0 < sizeI c ∧ r.length = sizeI c
    · rw [show parseI (c :: r) = (c :: pad32 r, true) from if_pos h]
      exact parse_some c r w h.1 h.2
    · rw [show parseI (c :: r) = (zer 33, false) from if_neg h]
      exact parse_none c r w (by simp at hl; omega) h

end Go.Proofs.YthbahbcihaebeaaDoor.Cd

/-
  ident.Of by Fnv, and of no hash; by Sha, where sha.Of answers. Conditions: none.
-/
namespace Go.Proofs.YthbahbcihaebeaaDoor.Cd
open Go.RowKit

theorem zero_8 (W : World) : (zeroValue 86).run Tryd.prog W = .ok (.agg (vb (zer 8)).toArray) W := by kernel_rfl

theorem zero_32 (W : World) : (zeroValue 25).run Tryd.prog W = .ok (.agg (vb (zer 32)).toArray) W := by kernel_rfl

theorem cells_8 : (Tryd.prog.info? 86).map (·.size) = some 8 := by kernel_rfl

theorem cells_32 : (Tryd.prog.info? 25).map (·.size) = some 32 := by kernel_rfl

theorem be8_length (n : Nat) : (be8 n).length = 8 := rfl

/-- Bytes that were laid out a moment ago, as a slice. -/
theorem sl_row (w : World) (l : List UInt8) (T : TypeId) (n : Nat) (hn : n = l.length) (hm : n ≤ maxLen) : Sl (w.alloc (.cells (vb l).toArray T)) (w.heap.size + 1) (.slice (some ⟨w.heap.size, 0, none⟩) n n) l := by
  subst hn
  refine ⟨_, l.length, rfl, Nat.le_refl _, hm, (fun h => by cases h), (fun ad e _ => by injection e with e; subst e; simp), fun ad e j u hu => ?_⟩
  injection e with e
  subst e
  rw [Addr.add_lit, Nat.zero_add, cell_of_row _ _ _ _ _ _ (heap_alloc_new w _), List.getElem?_toArray]
  exact hu

theorem wp_fill_8 {ops : Array Oper} {rest : List Oper} {o : Oper} {a : Act} {W w : World} {Q : Exit → Act → World → Prop} (hgd : o.guard = none) (x y : Operand) (ho : o.op = .store 86 x y)
    (hW : W = w.alloc (.cells (vb (zer 8)).toArray 86))
    (hx : a.eval x = .pointer (some ⟨w.heap.size, 0, none⟩)) (l : List UInt8) (hl : l.length = 8) (hy : a.eval y = .agg (vb l).toArray)
    (h : wpList Tryd.prog ops Q rest (a.put o.dst undef) (w.alloc (.cells (vb l).toArray 86))) : wpList Tryd.prog ops Q (o :: rest) a W := by
  subst hW
  exact wp_fill_row cells_8 hgd x y ho _ (by rw [vb_size, zer_length]) _ hx hy (by rw [vb_size, hl]) (id_one l) h
theorem wp_fill_32 {ops : Array Oper} {rest : List Oper} {o : Oper} {a : Act} {W w : World} {Q : Exit → Act → World → Prop} (hgd : o.guard = none) (x y : Operand) (ho : o.op = .store 25 x y)
    (hW : W = w.alloc (.cells (vb (zer 32)).toArray 25))
    (hx : a.eval x = .pointer (some ⟨w.heap.size, 0, none⟩)) (l : List UInt8) (hl : l.length = 32) (hy : a.eval y = .agg (vb l).toArray)
    (h : wpList Tryd.prog ops Q rest (a.put o.dst undef) (w.alloc (.cells (vb l).toArray 25))) : wpList Tryd.prog ops Q (o :: rest) a W := by
  subst hW
  exact wp_fill_row cells_32 hgd x y ho _ (by rw [vb_size, zer_length]) _ hx hy (by rw [vb_size, hl]) (id_one l) h

/-- A name by Fnv. -/
def ofF (a : List UInt8) : List UInt8 := 1 :: pad32 (be8 (mor fnv0 a))
theorem ofF_length (a : List UInt8) : (ofF a).length = 33 := by simp [ofF, pad32_length]
/-- A name by Sha, of a digest. -/
def ofS (d : List UInt8) : List UInt8 := 2 :: pad32 d
theorem ofS_length (d : List UInt8) : (ofS d).length = 33 := by simp [ofS, pad32_length]

set_option maxRecDepth 100000 in
set_option maxHeartbeats 1600000 in
theorem of_fnv (v : Value) (bs : List UInt8) (w : World) (h : Sl w w.heap.size v bs) : Calls Tryd.prog 29 #[.int .u8 1, v] w (Gives (idV (ofF bs)) w) := by
  have H := Lib.hid h
  obtain ⟨A, cc, rfl, _, _⟩ := h.len
  clear h
  have hb0 : Below w.heap.size w (w.alloc (.cells (vb (zer 33)).toArray 27)) := (Below.refl _ _).alloc (Nat.le_refl _) _
  have hi0 := IdAt.new w (zer 33)
  have hs0 : (w.alloc (.cells (vb (zer 33)).toArray 27)).heap.size = w.heap.size + 1 := asz _ _
  go_enter Tryd.func29, Tryd.ntmps29
  go_wp2_with (refine wp_alloc_row zero_id rfl rfl ?_)
  generalize w.alloc (.cells (vb (zer 33)).toArray 27) = w1 at hb0 hi0 hs0 ⊢
  have hs1 : w.heap.size + 1 ≤ w1.heap.size := by omega
  have HS0 := Lib.hid hs0
  clear hs0
  have H1 := Lib.hid (H.out.below hb0)
  have HI := Lib.hid hi0
  have HB := Lib.hid hb0
  clear H hi0 hb0
  have hsum := sum_any _ [bs] _ (Sls.one _ bs H1.out (by omega) 73)
  rw [show [bs].flatten = bs by simp] at hsum
  have hlt : mor fnv0 bs < 18446744073709551616 := mor_lt _ _ (by unfold fnv0; omega)
  have ho : ofF bs = 1 :: pad32 (be8 (mor fnv0 bs)) := rfl
  generalize mor fnv0 bs = m at hsum hlt ho
  have HO := Lib.hid ho
  rw [HS0.out] at hsum
  have HSU := Lib.hid hsum
  clear ho hsum
  go_wp2_with fail
  refine HSU.out.mono ?_
  rintro e w2 ⟨rfl, rfl⟩
  go_wp2_with fail
  refine (bytes_any m _ hlt).mono ?_
  rintro e w3 ⟨rfl, hb3⟩
  have HB3 := Lib.hid (HB.out.trans (((Below.refl w1.heap.size w1).alloc (Nat.le_refl _) (.cells #[Value.slice A bs.length cc] 73) |>.trans (hb3.mono (by simp))).mono (by omega)))
  have hs3 : w1.heap.size + 1 ≤ w3.heap.size := by have := hb3.size; rw [asz] at this; exact this
  have HI3 : Hid (IdAt w3 w.heap.size (zer 33)) := (HI.out.below ((Below.refl w1.heap.size w1).alloc (Nat.le_refl _) (.cells #[Value.slice A bs.length cc] 73)) (by omega)).below hb3 (by simp; omega)
  clear hb3
  rw [arr_all]
  obtain ⟨D, hD⟩ : ∃ D, be8 m = D := ⟨_, rfl⟩
  have hDl : D.length = 8 := by rw [← hD]; rfl
  rw [hD]
  have HD := Lib.hid hD
  have HDL := Lib.hid hDl
  clear hD hDl
  have hsl : Sl (w3.alloc (.cells (vb D).toArray 86)) (w3.heap.size + 1) (.slice (some ⟨w3.heap.size, 0, none⟩) 8 8) D := sl_row w3 D 86 8 HDL.out.symm (by simp [maxLen])
  have HSL := Lib.hid hsl
  clear hsl
  go_wp2_with (first
    | (refine wp_alloc_row zero_8 rfl rfl ?_)
    | (refine wp_fill_8 rfl _ _ rfl rfl (by simp [Act.eval, Act.put]) D HDL.out rfl ?_)
    | (go_at_call 39; refine (named_any 1 _ D _ (by rw [asz]; exact HSL.out)).mono ?_; rintro e w4 ⟨rfl, hb4⟩; have hb5 := ((Below.refl w3.heap.size w3).alloc (Nat.le_refl _) (.cells (vb D).toArray 86)).trans (hb4.mono (by simp)); have HB5 := Lib.hid hb5; have HI5 := Lib.hid (HI3.out.below hb5 (by omega)); have hs5 := hb5.size; clear hb4 hb5)
    | (refine wp_put_id rfl _ _ rfl w.heap.size rfl (1 :: pad32 D) (by rw [List.length_cons, pad32_length]) rfl (zer 33) (zer_length _) HI5.out ?hK))
  intro w6 h6 hg6
  have hb6 : Below w.heap.size w w6 := (HB3.out.trans (HB5.out.mono (by omega))).grown hg6 (by omega) (fun k hk => by injection hk with hk; omega)
  have hol : (ofF bs).length = 33 := ofF_length bs
  rw [HO.out, HD.out] at hol
  have HOL := Lib.hid hol
  clear hol
  go_wp2_with fail
  exact bodyPost_ret (v := idV (1 :: pad32 D)) (ret_id Tryd.results29 _ _ w.heap.size (1 :: pad32 D) HOL.out rfl h6) rfl ⟨by rw [HO.out, HD.out], hb6⟩

set_option maxRecDepth 100000 in
set_option maxHeartbeats 1600000 in
theorem of_other (k : UInt8) (v : Value) (w : World) (hk : sizeI k = 0) : Calls Tryd.prog 29 #[.int .u8 k.toNat, v] w (Gives (idV (zer 33)) w) := by
  have h1 : k.toNat ≠ 1 := fun e => by simp [sizeI, e] at hk
  have h2 : k.toNat ≠ 2 := fun e => by simp [sizeI, e] at hk
  clear hk
  generalize k.toNat = n at h1 h2
  have e1 : ((n : Int) == 1) = false := by rw [beq_eq_false_iff_ne]; omega
  have e2 : ((n : Int) == 2) = false := by rw [beq_eq_false_iff_ne]; omega
  go_enter Tryd.func29, Tryd.ntmps29
  go_wp2_with (first
    | (refine wp_alloc_row zero_id rfl rfl ?_)
    | (refine wp_build_row rfl _ rfl _ built_id0 (by simp) ?_)
    | (refine wp_put_id rfl _ _ rfl w.heap.size rfl (zer 33) (zer_length _) rfl (zer 33) (zer_length _) (IdAt.new w (zer 33)) ?hK))
  intro w3 h3 hg3
  have hb3 : Below w.heap.size w w3 := ((Below.refl _ _).alloc (Nat.le_refl _) _).grown hg3 (by rw [asz]; omega) (fun k hk => by injection hk with hk; omega)
  go_wp2_with fail
  exact bodyPost_ret (v := idV (zer 33)) (ret_id Tryd.results29 _ _ w.heap.size (zer 33) (zer_length _) rfl h3) rfl ⟨rfl, hb3⟩

set_option maxRecDepth 100000 in
set_option maxHeartbeats 1600000 in
theorem of_sha (v : Value) (bs D : List UInt8) (w : World) (h : Sl w w.heap.size v bs) (hDl : D.length = 32)
    (hsha : ∀ (W : World) (u : Value), Below w.heap.size w W → Sls W W.heap.size u [bs] → Calls Tryd.prog 40 #[u] W (Gives (.agg (vb D).toArray) W)) : Calls Tryd.prog 29 #[.int .u8 2, v] w (Gives (idV (ofS D)) w) := by
  have H := Lib.hid h
  obtain ⟨A, cc, rfl, _, _⟩ := h.len
  clear h
  have hb0 : Below w.heap.size w (w.alloc (.cells (vb (zer 33)).toArray 27)) := (Below.refl _ _).alloc (Nat.le_refl _) _
  have hi0 := IdAt.new w (zer 33)
  have hs0 : (w.alloc (.cells (vb (zer 33)).toArray 27)).heap.size = w.heap.size + 1 := asz _ _
  have HSH := Lib.hid hsha
  have HDL := Lib.hid hDl
  clear hsha hDl
  go_enter Tryd.func29, Tryd.ntmps29
  go_wp2_with (refine wp_alloc_row zero_id rfl rfl ?_)
  generalize w.alloc (.cells (vb (zer 33)).toArray 27) = w1 at hb0 hi0 hs0 ⊢
  have hs1 : w.heap.size + 1 ≤ w1.heap.size := by omega
  have HS0 := Lib.hid hs0
  clear hs0
  have H1 := Lib.hid (H.out.below hb0)
  have HI := Lib.hid hi0
  have HB := Lib.hid hb0
  clear H hi0 hb0
  have hsum := HSH.out _ _ (HB.out.alloc (by omega) _) ((Sls.one _ bs H1.out (by omega) 73).more (by simp))
  rw [HS0.out] at hsum
  have HSU := Lib.hid hsum
  clear hsum
  go_wp2_with fail
  refine HSU.out.mono ?_
  rintro e w3 ⟨rfl, hb3⟩
  have HB3 := Lib.hid (HB.out.trans (((Below.refl w1.heap.size w1).alloc (Nat.le_refl _) (.cells #[Value.slice A bs.length cc] 73) |>.trans (hb3.mono (by simp))).mono (by omega)))
  have hs3 : w1.heap.size + 1 ≤ w3.heap.size := by have := hb3.size; rw [asz] at this; exact this
  have HI3 : Hid (IdAt w3 w.heap.size (zer 33)) := (HI.out.below ((Below.refl w1.heap.size w1).alloc (Nat.le_refl _) (.cells #[Value.slice A bs.length cc] 73)) (by omega)).below hb3 (by simp; omega)
  clear hb3
  have hsl : Sl (w3.alloc (.cells (vb D).toArray 25)) (w3.heap.size + 1) (.slice (some ⟨w3.heap.size, 0, none⟩) 32 32) D := sl_row w3 D 25 32 HDL.out.symm (by simp [maxLen])
  have HSL := Lib.hid hsl
  clear hsl
  go_wp2_with (first
    | (refine wp_alloc_row zero_32 rfl rfl ?_)
    | (refine wp_fill_32 rfl _ _ rfl rfl (by simp [Act.eval, Act.put]) D HDL.out rfl ?_)
    | (go_at_call 39; refine (named_any 2 _ D _ (by rw [asz]; exact HSL.out)).mono ?_; rintro e w4 ⟨rfl, hb4⟩; have hb5 := ((Below.refl w3.heap.size w3).alloc (Nat.le_refl _) (.cells (vb D).toArray 25)).trans (hb4.mono (by simp)); have HB5 := Lib.hid hb5; have HI5 := Lib.hid (HI3.out.below hb5 (by omega)); have hs5 := hb5.size; clear hb4 hb5)
    | (refine wp_put_id rfl _ _ rfl w.heap.size rfl (2 :: pad32 D) (by rw [List.length_cons, pad32_length]) rfl (zer 33) (zer_length _) HI5.out ?hK))
  intro w6 h6 hg6
  have hb6 : Below w.heap.size w w6 := (HB3.out.trans (HB5.out.mono (by omega))).grown hg6 (by omega) (fun k hk => by injection hk with hk; omega)
  have HOL : Hid ((2 :: pad32 D).length = 33) := ofS_length D
  go_wp2_with fail
  exact bodyPost_ret (v := idV (2 :: pad32 D)) (ret_id Tryd.results29 _ _ w.heap.size (2 :: pad32 D) HOL.out rfl h6) rfl ⟨rfl, hb6⟩

end Go.Proofs.YthbahbcihaebeaaDoor.Cd

/-
  The document's Id, Name. Conditions: none.
-/
namespace Go.Proofs.YthbahbcihaebeaaDoor.Cd
open Go.RowKit

/-- The cells of a name of which k bytes are laid. -/
def idr (c : UInt8) (r : List UInt8) (k : Nat) : Array Value := (vb (c :: (r.take k ++ zer (32 - k)))).toArray
theorem idr_at (c : UInt8) (r : List UInt8) (k : Nat) (hk : k < r.length) (hr : r.length ≤ 32) : (idr c r k)[1 + k]? = some (.int .u8 0) := by
  unfold idr
  rw [List.getElem?_toArray, show 1 + k = k + 1 by omega]
  show (vb (r.take k ++ zer (32 - k)))[k]? = _
  rw [vb_at _ k (by simp [zer_length]; omega)]
  congr 2
  rw [List.getElem_append_right (by simp; omega)]
  simp [zer]
theorem idr_set (c : UInt8) (r : List UInt8) (k : Nat) (hk : k < r.length) (hr : r.length ≤ 32) : (idr c r k).setIfInBounds (1 + k) (.int .u8 (r[k]).toNat) = idr c r (k + 1) := by
  unfold idr
  rw [List.setIfInBounds_toArray, show 1 + k = k + 1 by omega]
  congr 1
  show Value.int .u8 c.toNat :: (vb (r.take k ++ zer (32 - k))).set k _ = Value.int .u8 c.toNat :: vb (r.take (k + 1) ++ zer (32 - (k + 1)))
  congr 1
  have e : (vb (r.take k ++ zer (32 - k))).set k (.int .u8 (r[k]).toNat) = vb ((r.take k ++ zer (32 - k)).set k r[k]) := by simp [vb, List.map_set]
  rw [e]
  congr 1
  rw [List.take_succ_eq_append_getElem hk, List.append_assoc, show 32 - k = (32 - (k + 1)) + 1 by omega]
  have hz : zer ((32 - (k + 1)) + 1) = 0 :: zer (32 - (k + 1)) := rfl
  rw [hz, List.set_append_right _ _ (by simp; omega)]
  simp [Nat.min_eq_left (Nat.le_of_lt hk)]
theorem idr_all (c : UInt8) (r : List UInt8) (hr : r.length ≤ 32) : idr c r r.length = (vb (c :: pad32 r)).toArray := by
  unfold idr pad32
  rw [List.take_of_length_le (Nat.le_refl _), List.take_of_length_le hr]
theorem idr_none (c : UInt8) (r : List UInt8) : idr c r 0 = (vb (c :: zer 32)).toArray := rfl

set_option maxRecDepth 100000 in
set_option maxHeartbeats 1600000 in
theorem rid_nil (w : World) : Calls Tryd.prog 33 #[.string ⟨([] : List UInt8).toArray⟩] w (Gives (idV (zer 33)) w) := by
  have hi0 : IdAt ((w.alloc (.cells (vb (zer 33)).toArray 27)).alloc (.cells (vb (zer 33)).toArray 27)) (w.heap.size + 1) (zer 33) := by
    have := IdAt.new (w.alloc (.cells (vb (zer 33)).toArray 27)) (zer 33)
    rwa [asz] at this
  have hi1 : IdAt ((w.alloc (.cells (vb (zer 33)).toArray 27)).alloc (.cells (vb (zer 33)).toArray 27)) w.heap.size (zer 33) := (heap_alloc_old _ _ (by simp)).trans (heap_alloc_new _ _)
  have HI0 := Lib.hid hi0
  have HI1 := Lib.hid hi1
  clear hi0 hi1
  go_enter Tryd.func33, Tryd.ntmps33
  go_wp2_with (first
    | (refine wp_alloc_row zero_id rfl rfl ?_)
    | (refine wp_load_id rfl _ rfl (w.heap.size + 1) rfl (zer 33) (zer_length _) HI0.out ?_)
    | (refine wp_put_id rfl _ _ rfl w.heap.size rfl (zer 33) (zer_length _) rfl (zer 33) (zer_length _) HI1.out ?hK))
  intro w3 h3 hg3
  have hb3 : Below w.heap.size w w3 := (((Below.refl _ _).alloc (Nat.le_refl _) _).alloc (by simp) _).grown hg3 (by rw [asz, asz]; omega) (fun k hk => by injection hk with hk; omega)
  go_wp2_with fail
  exact bodyPost_ret (v := idV (zer 33)) (ret_id Tryd.results33 _ _ w.heap.size (zer 33) (zer_length _) rfl h3) rfl ⟨rfl, hb3⟩

set_option maxRecDepth 100000 in
set_option maxHeartbeats 1600000 in
theorem rid_cons (c : UInt8) (r : List UInt8) (w : World) (hr : r.length ≤ 32) : Calls Tryd.prog 33 #[.string ⟨(c :: r).toArray⟩] w (Gives (idV (c :: pad32 r)) w) := by
  have hix : ∀ h, (ByteArray.mk (c :: r).toArray)[0]'h = c := fun _ => rfl
  have hsz : (ByteArray.mk (c :: r).toArray).size = r.length + 1 := rfl
  have hz0 : (vb (zer 33)).toArray[0]? = some (.int .u8 0) := rfl
  have hz1 : (vb (zer 33)).toArray.setIfInBounds 0 (.int .u8 c.toNat) = idr c r 0 := rfl
  obtain ⟨Z, hZ⟩ : ∃ Z, (vb (zer 33)).toArray = Z := ⟨_, rfl⟩
  have hza : ∀ W, (zeroValue 27).run Tryd.prog W = .ok (.agg Z) W := fun W => by rw [← hZ]; exact zero_id W
  rw [hZ] at hz0 hz1
  have HZ := Lib.hid hZ
  have HR := Lib.hid hr
  clear hZ
  go_enter Tryd.func33, Tryd.ntmps33
  go_wp2_with (refine wp_alloc_row hza rfl rfl ?_)
  go_loopw [4] (fun i wr => ∃ k : Nat, k ≤ r.length ∧ i = .int .i64 ((k : Int) + 1) ∧ Hid (wr = (w.alloc (.cells Z 27)).alloc (.cells (idr c r k) 27))) (fun i _ => r.length + 1 - (intOf i).toNat)
  case atStart => exact ⟨0, Nat.zero_le _, rfl, rfl⟩
  case round =>
    obtain ⟨k, hk, rfl, hw⟩ := hrel
    obtain rfl := hw.out
    clear hw
    by_cases hlt : k < r.length
    · have hg := idr_at c r k hlt hr
      have hst := idr_set c r k hlt hr
      have hiy : ∀ h, (ByteArray.mk (c :: r).toArray)[k + 1]'h = r[k] := fun _ => rfl
      have HST := Lib.hid hst
      clear hst
      go_wp2
      go_roundw
      case rel => exact ⟨k + 1, by omega, by go_num, by unfold Hid; rw [HST.out]⟩
      case measure => simp [intOf]; omega
    · obtain rfl : k = r.length := by omega
      clear hlt hk
      have hi0 : IdAt ((w.alloc (.cells Z 27)).alloc (.cells (idr c r r.length) 27)) (w.heap.size + 1) (c :: pad32 r) := by
        have := heap_alloc_new (w.alloc (.cells Z 27)) (.cells (idr c r r.length) 27)
        rw [asz, idr_all c r hr] at this
        rw [idr_all c r hr]
        exact this
      have hi1 : IdAt ((w.alloc (.cells Z 27)).alloc (.cells (idr c r r.length) 27)) w.heap.size (zer 33) := by
        rw [← HZ.out]
        exact (heap_alloc_old _ _ (by simp)).trans (heap_alloc_new _ _)
      have hb : Below w.heap.size w ((w.alloc (.cells Z 27)).alloc (.cells (idr c r r.length) 27)) := ((Below.refl _ _).alloc (Nat.le_refl _) _).alloc (by simp) _
      have hsz2 : w.heap.size + 2 ≤ ((w.alloc (.cells Z 27)).alloc (.cells (idr c r r.length) 27)).heap.size := by simp
      generalize (w.alloc (.cells Z 27)).alloc (.cells (idr c r r.length) 27) = w2 at hi0 hi1 hb hsz2 ⊢
      have HI0 := Lib.hid hi0
      have HI1 := Lib.hid hi1
      have HB := Lib.hid hb
      have HL : Hid ((c :: pad32 r).length = 33) := by unfold Hid; simp [pad32_length]
      clear hi0 hi1 hb hz0 hz1 hza
      go_wp2_with (first
        | (refine wp_load_id rfl _ rfl (w.heap.size + 1) rfl (c :: pad32 r) HL.out HI0.out ?_)
        | (refine wp_put_id rfl _ _ rfl w.heap.size rfl (c :: pad32 r) HL.out rfl (zer 33) (zer_length _) HI1.out ?hK))
      intro w3 h3 hg3
      have hb3 : Below w.heap.size w w3 := HB.out.grown hg3 (by omega) (fun k hk => by injection hk with hk; omega)
      go_wp2_with fail
      exact bodyPost_ret (v := idV (c :: pad32 r)) (ret_id Tryd.results33 _ _ w.heap.size (c :: pad32 r) HL.out rfl h3) rfl ⟨rfl, hb3⟩

end Go.Proofs.YthbahbcihaebeaaDoor.Cd

/-
  The document's Name of a name. Conditions: none.
-/
namespace Go.Proofs.YthbahbcihaebeaaDoor.Cd
open Go.RowKit

theorem pad_take (s : List UInt8) (n : Nat) (hs : s.length = 32) (hn : n ≤ 32) : (s = pad32 (s.take n)) ↔ ∀ j (hj : j < s.length), n ≤ j → s[j] = 0 := by
  have hl : (s.take n).length = n := by rw [List.length_take]; omega
  have hp : pad32 (s.take n) = s.take n ++ zer (32 - n) := by
    unfold pad32
    rw [hl, List.take_of_length_le (by omega)]
  rw [hp]
  constructor
  · intro h j hj hnj
    have e := congrArg (fun l => l[j]?) h
    replace e : s[j]? = (s.take n ++ zer (32 - n))[j]? := e
    rw [List.getElem?_eq_getElem hj, List.getElem?_append_right (by omega), hl] at e
    have h2 : j - n < 32 - n := by omega
    simpa [zer, h2] using e
  · intro h
    apply List.ext_getElem
    · simp [zer_length]; omega
    · intro j h1 h2
      by_cases hj : j < n
      · rw [List.getElem_append_left (by omega), List.getElem_take]
      · rw [List.getElem_append_right (by omega), h j h1 (by omega)]
        simp [zer]

theorem good_iff (k : UInt8) (s : List UInt8) (hs : s.length = 32) : goodI (k :: s) = true ↔ 0 < sizeI k ∧ ∀ j (hj : j < s.length), sizeI k ≤ j → s[j] = 0 := by
  rw [← pad_take s (sizeI k) hs (sizeI_le k)]
  unfold goodI
  simp

theorem text_add (W : World) (a b : List UInt8) (h : a.length + b.length ≤ 9223372036854775807) :
    (Op.stringOp .add ⟨a.toArray⟩ ⟨b.toArray⟩).run Tryd.prog W = .ok (.string ⟨(a ++ b).toArray⟩) W := by
  rw [run_string_add_sum _ _ _ (by simpa [ByteArray.size] using h)]
  rw [ByteArray.mk_append_mk]

theorem index_sum (X : Array Value) (j : Nat) (u : UInt8) (h : X[j]? = some (.int .u8 u.toNat)) (hj : j < 32) (W : World) : (Instr.index 25 (.agg X) (.int .i64 j)).run Tryd.prog W = .ok (.int .u8 u.toNat) W := by
  have hs : (Tryd.prog.info? 5).map (·.size) = some 1 := by kernel_rfl
  cases hq : Tryd.prog.info? 5 with
  | none => simp [hq] at hs
  | some i =>
    have hs2 : i.size = 1 := by simpa [hq] using hs
    simp [Instr.index, asIntOf, run_underlying Tryd.underlying25, sizeOf, typeInfo, hq, hs2, hj, part, isAgg, run_underlying Tryd.underlying5, h]

theorem load_sum (w : World) (b : Nat) (k : UInt8) (s : List UInt8) (hs : s.length = 32) (h : IdAt w b (k :: s)) : w.rangeAt b 1 (vb s) := fun j v hv => by
  rw [cell_of_row _ _ _ _ _ _ h, List.getElem?_toArray, show 1 + j = j + 1 by omega]
  exact hv

set_option maxRecDepth 100000 in
set_option maxHeartbeats 1600000 in
theorem name_any (k : UInt8) (s : List UInt8) (w : World) (hs : s.length = 32) : Calls Tryd.prog 28 #[idV (k :: s)] w (Gives (.string ⟨(textI (k :: s)).toArray⟩) w) := by
  have hgd := good_iff k s hs
  have htx := textI_cons k s
  have hz := sizeI_le k
  have hsize := fun W => rsize_any k W
  generalize sizeI k = n at hgd htx hz hsize
  have h0 := IdAt.new w (k :: s)
  have hb0 : Below w.heap.size w (w.alloc (.cells (vb (k :: s)).toArray 27)) := (Below.refl _ _).alloc (Nat.le_refl _) _
  have hcv := run_text_one ((w.alloc (.cells (vb (k :: s)).toArray 27)).alloc (.cells #[.int .u8 k.toNat] 5)) (w.heap.size + 1) 1 _ k rfl (by
    have := cell_of_row ((w.alloc (.cells (vb (k :: s)).toArray 27)).alloc (.cells #[.int .u8 k.toNat] 5)) (w.heap.size + 1) 0 _ _ _ (by
      have := heap_alloc_new (w.alloc (.cells (vb (k :: s)).toArray 27)) (.cells #[.int .u8 k.toNat] 5)
      rwa [asz] at this)
    rw [this]
    rfl)
  have hld := load_sum _ _ k s hs h0
  have d0 := h0.kind
  have hb1 := hb0.alloc (by simp) (.cells #[.int .u8 k.toNat] 5)
  have hi1 : IdAt ((w.alloc (.cells (vb (k :: s)).toArray 27)).alloc (.cells #[.int .u8 k.toNat] 5)) w.heap.size (k :: s) := h0.below ((Below.refl _ _).alloc (Nat.le_refl _) _) (by simp)
  have HGD := Lib.hid hgd
  have HTX := Lib.hid htx
  have HSZ := Lib.hid hsize
  have HB1 := Lib.hid hb1
  have HI1 := Lib.hid hi1
  have HS := Lib.hid hs
  clear hgd htx hsize hb1 hi1 h0 hb0
  go_enter Tryd.func28, Tryd.ntmps28
  go_wp2_with (refine wp_box_row rfl _ rfl rfl ?_)
  refine (HSZ.out _).mono ?_
  rintro e w1 ⟨rfl, rfl⟩
  go_wp2_with (first
    | (refine wpList_load_mid rfl 25 _ rfl w.heap.size 1 rfl (vb s) _ (load_sum _ _ k s HS.out HI1.out) Tryd.underlying25 rfl (by rw [vb_length, HS.out]; exact cells_32) ?_))
  generalize (w.alloc (.cells (vb (k :: s)).toArray 27)).alloc (.cells #[.int .u8 k.toNat] 5) = w1 at HB1 HI1 ⊢
  clear hcv hld d0
  go_loopw [4, 16] (fun s1 i wr => ∃ j : Nat, j ≤ 32 ∧ i = .int .i64 j ∧ s1 = .string ⟨(k :: s.take (min j n)).toArray⟩ ∧ Hid (∀ x (hx : x < s.length), n ≤ x → x < j → s[x] = 0) ∧ Hid (Below w.heap.size w wr)) (fun _ i _ => 32 - (intOf i).toNat)
  case atStart => exact ⟨0, by omega, rfl, by simp, fun x _ _ h => by omega, HB1.out⟩
  case round =>
    obtain ⟨j, hj, rfl, rfl, HJ, HW⟩ := hrel
    by_cases hlt : j < 32
    · have hjs : j < s.length := by have := HS.out; omega
      have hcell : (vb s).toArray[j]? = some (.int .u8 (s[j]).toNat) := by
        rw [List.getElem?_toArray]
        exact vb_at s j hjs
      have hsw := HW.out.size
      have hidx := index_sum _ j s[j] hcell hlt
      clear hcell
      by_cases hjn : j < n
      · have hmin : min j n = j := by omega
        have hsn : Hid (s.take (min (j + 1) n) = s.take j ++ [s[j]]) := by unfold Hid; rw [show min (j + 1) n = j + 1 by omega, List.take_succ_eq_append_getElem hjs]
        rw [hmin]
        generalize s[j] = b at hidx hsn
        have hcv := run_text_one (wr.alloc (.cells #[.int .u8 b.toNat] 5)) wr.heap.size 1 _ b rfl (by
          rw [cell_of_row _ _ _ _ _ _ (heap_alloc_new _ _)]
          rfl)
        have hadd := fun W => text_add W (k :: s.take j) [b] (by simp only [List.length_cons, List.length_take, List.length_nil]; omega)
        generalize (vb s).toArray = X at hidx ⊢
        go_wp2
        go_roundw
        case rel => exact ⟨j + 1, by omega, by go_num, by rw [hsn.out], fun x hx h1 h2 => by omega, HW.out.alloc hsw _⟩
        case measure => simp [intOf]; omega
      · have hmin : min j n = n := by omega
        have hmin2 : min (j + 1) n = n := by omega
        by_cases hb : s[j] = 0
        · have hsn : Hid (∀ x (hx : x < s.length), n ≤ x → x < j + 1 → s[x] = 0) := fun x hx h1 h2 => by
            by_cases e : x = j
            · subst e; exact hb
            · exact HJ.out x hx h1 (by omega)
          rw [hb] at hidx
          rw [hmin]
          generalize (vb s).toArray = X at hidx ⊢
          go_wp2
          go_roundw
          case rel => exact ⟨j + 1, by omega, by go_num, by rw [hmin2], hsn, HW⟩
          case measure => simp [intOf]; omega
        · have hg : goodI (k :: s) = false := by
            rw [Bool.eq_false_iff]
            intro h
            exact hb ((HGD.out.1 h).2 j hjs (by omega))
          have hq : (((s[j]).toNat : Int) != 0) = true := by
            rw [bne_iff_ne]
            intro h
            apply hb
            apply UInt8.toNat_inj.1
            show _ = 0
            omega
          have HG := Lib.hid hg
          clear hb hg
          rw [hmin]
          generalize s[j] = b at hidx hq
          generalize (vb s).toArray = X at hidx ⊢
          go_wp2
          go_ret
          exact ⟨by rw [HTX.out, HG.out]; rfl, HW.out⟩
    · obtain rfl : j = 32 := by omega
      have hmin : min 32 n = n := by omega
      rw [hmin]
      have HZ : Hid (∀ x (hx : x < s.length), n ≤ x → s[x] = 0) := fun x hx h1 => HJ.out x hx h1 (by have := HS.out; omega)
      generalize (vb s).toArray = X
      by_cases hn : n = 0
      · have hg : goodI (k :: s) = false := by
          rw [Bool.eq_false_iff]
          intro h
          have := (HGD.out.1 h).1
          omega
        have HG := Lib.hid hg
        clear hg
        subst hn
        go_wp2
        go_ret
        exact ⟨by rw [HTX.out, HG.out]; rfl, HW.out⟩
      · have hq : ((n : Int) == 0) = false := by rw [beq_eq_false_iff_ne]; omega
        have hg : goodI (k :: s) = true := HGD.out.2 ⟨by omega, HZ.out⟩
        have HG := Lib.hid hg
        clear hg
        go_wp2
        go_ret
        exact ⟨by rw [HTX.out, HG.out]; rfl, HW.out⟩

end Go.Proofs.YthbahbcihaebeaaDoor.Cd

/-
  A block's words: sha.schedule. Conditions: none.
-/
namespace Go.Proofs.YthbahbcihaebeaaDoor.Cd
open Go.RowKit

/-- Words as cells. -/
def vw (l : List Int) : List Value := l.map fun x => .int .u32 x
theorem vw_length (l : List Int) : (vw l).length = l.length := by simp [vw]
theorem vw_at (l : List Int) (j : Nat) (h : j < l.length) : (vw l)[j]? = some (.int .u32 l[j]) := by simp [vw, h]
theorem vw_set (l : List Int) (j : Nat) (x : Int) : (vw l).set j (.int .u32 x) = vw (l.set j x) := by simp [vw, List.map_set]
def zerw (n : Nat) : List Int := List.replicate n 0
theorem zerw_length (n : Nat) : (zerw n).length = n := by simp [zerw]
theorem vw_one (l : List Int) : ∀ u ∈ (vw l).toArray.toList, u.oneCell' = true := fun u hu => by
  simp [vw] at hu
  obtain ⟨x, _, rfl⟩ := hu
  rfl
theorem zero_w64 (W : World) : (zeroValue 119).run Tryd.prog W = .ok (.agg (vw (zerw 64)).toArray) W := by kernel_rfl
theorem cells_w64 : (Tryd.prog.info? 119).map (·.size) = some 64 := by kernel_rfl
theorem cells_b64 : (Tryd.prog.info? 106).map (·.size) = some 64 := by kernel_rfl

theorem wrap_byte32 (c : UInt8) : IntKind.u32.wrap (c.toNat : Int) = (c.toNat : Int) := by
  have := c.toNat_lt
  rw [IntKind.wrap_u32']
  omega

def W32L (L : List Int) : Prop := ∀ x ∈ L, W32 x
theorem W32L.set {L : List Int} (h : W32L L) (k : Nat) (x : Int) (hx : W32 x) : W32L (L.set k x) := fun y hy => by
  rcases List.mem_or_eq_of_mem_set hy with hy | rfl
  · exact h y hy
  · exact hx
theorem W32L.zero (n : Nat) : W32L (zerw n) := fun x hx => by
  rw [List.eq_of_mem_replicate hx]
  exact ⟨by omega, by omega⟩

/-- Four bytes as a word, the highest first. -/
def word4 (a b c d : UInt8) : Int := bits .or .u32 (bits .or .u32 (bits .or .u32 (IntKind.u32.wrap ((a.toNat : Int) * 16777216)) (IntKind.u32.wrap ((b.toNat : Int) * 65536))) (IntKind.u32.wrap ((c.toNat : Int) * 256))) (d.toNat : Int)

set_option maxRecDepth 100000 in
set_option maxHeartbeats 3200000 in
theorem sched_any (blk : List UInt8) (w : World) (hb : blk.length = 64) : Calls Tryd.prog 78 #[.agg (vb blk).toArray] w fun e w' => ∃ L : List Int, L.length = 64 ∧ W32L L ∧ e = .returned (.agg (vw L).toArray) ∧ Below w.heap.size w w' := by
  have h0 : w.heap.size < w.heap.size + 3 := by omega
  go_enter Tryd.func78, Tryd.ntmps78
  go_wp2_with (first
    | (refine wp_box_row rfl _ rfl rfl ?_)
    | (refine wp_alloc_row zero_w64 rfl rfl ?_))
  generalize hbw : w.heap.size + 1 + 1 = bw
  go_loopw [11] (fun i wr => ∃ k : Nat, k ≤ 16 ∧ i = .int .i64 k ∧ Hid (wr.heap[w.heap.size]? = some (.cells (vb blk).toArray 106)) ∧ (∃ L : List Int, L.length = 64 ∧ W32L L ∧ Hid (wr.heap[bw]? = some (.cells (vw L).toArray 119)) ∧ Hid (wr.heap[w.heap.size + 1]? = some (.cells (vw (zerw 64)).toArray 119)) ∧ Hid (Below w.heap.size w wr))) (fun i _ => 16 - (intOf i).toNat)
  case atStart =>
    refine ⟨0, by omega, rfl, ?_, zerw 64, zerw_length 64, W32L.zero 64, ?_, ?_, ?_⟩
    · exact (Below.heap_alloc _ _ _ (by simp; omega)).trans ((Below.heap_alloc _ _ _ (by simp)).trans (heap_alloc_new _ _))
    · subst hbw
      have h := heap_alloc_new ((w.alloc (.cells (vb blk).toArray 106)).alloc (.cells (vw (zerw 64)).toArray 119)) (.cells (vw (zerw 64)).toArray 119)
      rw [asz, asz] at h
      exact h
    · have h := heap_alloc_new (w.alloc (.cells (vb blk).toArray 106)) (.cells (vw (zerw 64)).toArray 119)
      rw [asz] at h
      exact (Below.heap_alloc _ _ _ (by simp)).trans h
    · exact (((Below.refl _ _).alloc (Nat.le_refl _) _).alloc (by simp) _).alloc (by simp; omega) _
  case round =>
    obtain ⟨k, hk, rfl, HB, L, hL, hLw, HL, HR, HBB⟩ := hrel
    by_cases hlt : k < 16
    · obtain ⟨n, hn⟩ : ∃ n : Nat, (4 : Int) * (k : Int) = (n : Int) := ⟨4 * k, by omega⟩
      have hn2 : n + 3 < blk.length := by omega
      have hcs : Hid (∀ W : World, W.heap[w.heap.size]? = some (.cells (vb blk).toArray 106) → W.cell? ⟨w.heap.size, n, none⟩ = some (.int .u8 (blk[n]).toNat) ∧ W.cell? ⟨w.heap.size, n + 1, none⟩ = some (.int .u8 (blk[n + 1]).toNat) ∧ W.cell? ⟨w.heap.size, n + 2, none⟩ = some (.int .u8 (blk[n + 2]).toNat) ∧ W.cell? ⟨w.heap.size, n + 3, none⟩ = some (.int .u8 (blk[n + 3]).toNat)) := fun W h =>
        ⟨by rw [cell_of_row _ _ _ _ _ _ h, List.getElem?_toArray]; exact vb_at blk n (by omega), by rw [cell_of_row _ _ _ _ _ _ h, List.getElem?_toArray]; exact vb_at blk (n + 1) (by omega),
          by rw [cell_of_row _ _ _ _ _ _ h, List.getElem?_toArray]; exact vb_at blk (n + 2) (by omega), by rw [cell_of_row _ _ _ _ _ _ h, List.getElem?_toArray]; exact vb_at blk (n + 3) (by omega)⟩
      have cw : wr.cell? ⟨bw, k, none⟩ = some (.int .u32 L[k]) := by rw [cell_of_row _ _ _ _ _ _ HL.out, List.getElem?_toArray]; exact vw_at L k (by omega)
      have fw : wr.frozen? ⟨bw, k, none⟩ = false := frozen_of_row _ _ _ _ _ HL.out
      have hnb : n ≤ 60 := by omega
      generalize blk[n] = b0 at hcs
      generalize blk[n + 1] = b1 at hcs
      generalize blk[n + 2] = b2 at hcs
      generalize blk[n + 3] = b3 at hcs
      have q0 := wrap_byte32 b0
      have q1 := wrap_byte32 b1
      have q2 := wrap_byte32 b2
      have q3 := wrap_byte32 b3
      have f1a : (0 : Int) ≤ (n : Int) + 1 := by omega
      have f1b : (n : Int) + 1 < 64 := by omega
      have f1t : ((n : Int) + 1).toNat = n + 1 := by omega
      have f1w : IntKind.i64.wrap ((n : Int) + 1) = (n : Int) + 1 := Go.wrap_small _ (by omega) (by omega)
      have f2a : (0 : Int) ≤ (n : Int) + 2 := by omega
      have f2b : (n : Int) + 2 < 64 := by omega
      have f2t : ((n : Int) + 2).toNat = n + 2 := by omega
      have f2w : IntKind.i64.wrap ((n : Int) + 2) = (n : Int) + 2 := Go.wrap_small _ (by omega) (by omega)
      have f3a : (0 : Int) ≤ (n : Int) + 3 := by omega
      have f3b : (n : Int) + 3 < 64 := by omega
      have f3t : ((n : Int) + 3).toNat = n + 3 := by omega
      have f3w : IntKind.i64.wrap ((n : Int) + 3) = (n : Int) + 3 := Go.wrap_small _ (by omega) (by omega)
      have f0a : (0 : Int) ≤ (n : Int) := by omega
      have f0b : (n : Int) < 64 := by omega
      go_wp2_with fail
      refine wp_region_held_drew (S := fun W => W.heap[w.heap.size]? = some (.cells (vb blk).toArray 106)) (by kernel_rfl) HB.out (fun hHeld => ?_)
      refine take_at (i := 0) (.int .i64 (k : Int)) (some 16) (by decide) (by rfl) (by kernel_rfl) (by kernel_rfl) (by kernel_rfl) (fun _ _ _ h => h) (by rfl) (fun W hW => by go_simp) (by assumption) ?_
      try simp only [Act.put, List.setIfInBounds_toArray, List.set_cons_zero, List.set_cons_succ]
      refine take_at (i := 1) (.int .i64 (n : Int)) (some 17) (by decide) (by rfl) (by kernel_rfl) (by kernel_rfl) (by kernel_rfl) (fun _ _ _ h => h) (by rfl) (fun W hW => by go_simp) (by assumption) ?_
      try simp only [Act.put, List.setIfInBounds_toArray, List.set_cons_zero, List.set_cons_succ]
      refine take_at (i := 2) (.pointer (some ⟨w.heap.size, n, none⟩)) (some 18) (by decide) (by rfl) (by kernel_rfl) (by kernel_rfl) (by kernel_rfl) (fun _ _ _ h => h) (by rfl) (fun W hW => by first | (go_simp; done) | (go_simp; intro h9; omega) | (go_simp; omega)) (by assumption) ?_
      try simp only [Act.put, List.setIfInBounds_toArray, List.set_cons_zero, List.set_cons_succ]
      refine take_at (i := 3) (.int .u8 (b0.toNat : Int)) (some 19) (by decide) (by rfl) (by kernel_rfl) (by kernel_rfl) (by kernel_rfl) (fun _ _ _ h => h) (by rfl) (fun W hW => by obtain ⟨s0, s1, s2, s3⟩ := hcs.out W hW; go_simp) (by assumption) ?_
      try simp only [Act.put, List.setIfInBounds_toArray, List.set_cons_zero, List.set_cons_succ]
      refine take_at (i := 4) (.int .u32 (b0.toNat : Int)) (some 20) (by decide) (by rfl) (by kernel_rfl) (by kernel_rfl) (by kernel_rfl) (fun _ _ _ h => h) (by rfl) (fun W hW => by go_simp) (by assumption) ?_
      try simp only [Act.put, List.setIfInBounds_toArray, List.set_cons_zero, List.set_cons_succ]
      refine take_at (i := 5) (.int .u32 (IntKind.u32.wrap ((b0.toNat : Int) * 16777216))) (some 21) (by decide) (by rfl) (by kernel_rfl) (by kernel_rfl) (by kernel_rfl) (fun _ _ _ h => h) (by rfl) (fun W hW => by go_simp) (by assumption) ?_
      try simp only [Act.put, List.setIfInBounds_toArray, List.set_cons_zero, List.set_cons_succ]
      refine take_at (i := 6) (.int .i64 (n : Int)) (some 22) (by decide) (by rfl) (by kernel_rfl) (by kernel_rfl) (by kernel_rfl) (fun _ _ _ h => h) (by rfl) (fun W hW => by go_simp) (by assumption) ?_
      try simp only [Act.put, List.setIfInBounds_toArray, List.set_cons_zero, List.set_cons_succ]
      refine take_at (i := 7) (.int .i64 ((n : Int) + 1)) (some 23) (by decide) (by rfl) (by kernel_rfl) (by kernel_rfl) (by kernel_rfl) (fun _ _ _ h => h) (by rfl) (fun W hW => by go_simp) (by assumption) ?_
      try simp only [Act.put, List.setIfInBounds_toArray, List.set_cons_zero, List.set_cons_succ]
      refine take_at (i := 8) (.pointer (some ⟨w.heap.size, n + 1, none⟩)) (some 24) (by decide) (by rfl) (by kernel_rfl) (by kernel_rfl) (by kernel_rfl) (fun _ _ _ h => h) (by rfl) (fun W hW => by first | (go_simp; done) | (go_simp; intro h9; omega) | (go_simp; omega)) (by assumption) ?_
      try simp only [Act.put, List.setIfInBounds_toArray, List.set_cons_zero, List.set_cons_succ]
      refine take_at (i := 9) (.int .u8 (b1.toNat : Int)) (some 25) (by decide) (by rfl) (by kernel_rfl) (by kernel_rfl) (by kernel_rfl) (fun _ _ _ h => h) (by rfl) (fun W hW => by obtain ⟨s0, s1, s2, s3⟩ := hcs.out W hW; go_simp) (by assumption) ?_
      try simp only [Act.put, List.setIfInBounds_toArray, List.set_cons_zero, List.set_cons_succ]
      refine take_at (i := 10) (.int .u32 (b1.toNat : Int)) (some 26) (by decide) (by rfl) (by kernel_rfl) (by kernel_rfl) (by kernel_rfl) (fun _ _ _ h => h) (by rfl) (fun W hW => by go_simp) (by assumption) ?_
      try simp only [Act.put, List.setIfInBounds_toArray, List.set_cons_zero, List.set_cons_succ]
      refine take_at (i := 11) (.int .u32 (IntKind.u32.wrap ((b1.toNat : Int) * 65536))) (some 27) (by decide) (by rfl) (by kernel_rfl) (by kernel_rfl) (by kernel_rfl) (fun _ _ _ h => h) (by rfl) (fun W hW => by go_simp) (by assumption) ?_
      try simp only [Act.put, List.setIfInBounds_toArray, List.set_cons_zero, List.set_cons_succ]
      refine take_at (i := 12) (.int .u32 (bits .or .u32 (IntKind.u32.wrap ((b0.toNat : Int) * 16777216)) (IntKind.u32.wrap ((b1.toNat : Int) * 65536)))) (some 28) (by decide) (by rfl) (by kernel_rfl) (by kernel_rfl) (by kernel_rfl) (fun _ _ _ h => h) (by rfl) (fun W hW => by go_simp) (by assumption) ?_
      try simp only [Act.put, List.setIfInBounds_toArray, List.set_cons_zero, List.set_cons_succ]
      refine take_at (i := 13) (.int .i64 (n : Int)) (some 29) (by decide) (by rfl) (by kernel_rfl) (by kernel_rfl) (by kernel_rfl) (fun _ _ _ h => h) (by rfl) (fun W hW => by go_simp) (by assumption) ?_
      try simp only [Act.put, List.setIfInBounds_toArray, List.set_cons_zero, List.set_cons_succ]
      refine take_at (i := 14) (.int .i64 ((n : Int) + 2)) (some 30) (by decide) (by rfl) (by kernel_rfl) (by kernel_rfl) (by kernel_rfl) (fun _ _ _ h => h) (by rfl) (fun W hW => by go_simp) (by assumption) ?_
      try simp only [Act.put, List.setIfInBounds_toArray, List.set_cons_zero, List.set_cons_succ]
      refine take_at (i := 15) (.pointer (some ⟨w.heap.size, n + 2, none⟩)) (some 31) (by decide) (by rfl) (by kernel_rfl) (by kernel_rfl) (by kernel_rfl) (fun _ _ _ h => h) (by rfl) (fun W hW => by first | (go_simp; done) | (go_simp; intro h9; omega) | (go_simp; omega)) (by assumption) ?_
      try simp only [Act.put, List.setIfInBounds_toArray, List.set_cons_zero, List.set_cons_succ]
      refine take_at (i := 16) (.int .u8 (b2.toNat : Int)) (some 32) (by decide) (by rfl) (by kernel_rfl) (by kernel_rfl) (by kernel_rfl) (fun _ _ _ h => h) (by rfl) (fun W hW => by obtain ⟨s0, s1, s2, s3⟩ := hcs.out W hW; go_simp) (by assumption) ?_
      try simp only [Act.put, List.setIfInBounds_toArray, List.set_cons_zero, List.set_cons_succ]
      refine take_at (i := 17) (.int .u32 (b2.toNat : Int)) (some 33) (by decide) (by rfl) (by kernel_rfl) (by kernel_rfl) (by kernel_rfl) (fun _ _ _ h => h) (by rfl) (fun W hW => by go_simp) (by assumption) ?_
      try simp only [Act.put, List.setIfInBounds_toArray, List.set_cons_zero, List.set_cons_succ]
      refine take_at (i := 18) (.int .u32 (IntKind.u32.wrap ((b2.toNat : Int) * 256))) (some 34) (by decide) (by rfl) (by kernel_rfl) (by kernel_rfl) (by kernel_rfl) (fun _ _ _ h => h) (by rfl) (fun W hW => by go_simp) (by assumption) ?_
      try simp only [Act.put, List.setIfInBounds_toArray, List.set_cons_zero, List.set_cons_succ]
      refine take_at (i := 19) (.int .u32 (bits .or .u32 (bits .or .u32 (IntKind.u32.wrap ((b0.toNat : Int) * 16777216)) (IntKind.u32.wrap ((b1.toNat : Int) * 65536))) (IntKind.u32.wrap ((b2.toNat : Int) * 256)))) (some 35) (by decide) (by rfl) (by kernel_rfl) (by kernel_rfl) (by kernel_rfl) (fun _ _ _ h => h) (by rfl) (fun W hW => by go_simp) (by assumption) ?_
      try simp only [Act.put, List.setIfInBounds_toArray, List.set_cons_zero, List.set_cons_succ]
      refine take_at (i := 20) (.int .i64 (n : Int)) (some 36) (by decide) (by rfl) (by kernel_rfl) (by kernel_rfl) (by kernel_rfl) (fun _ _ _ h => h) (by rfl) (fun W hW => by go_simp) (by assumption) ?_
      try simp only [Act.put, List.setIfInBounds_toArray, List.set_cons_zero, List.set_cons_succ]
      refine take_at (i := 21) (.int .i64 ((n : Int) + 3)) (some 37) (by decide) (by rfl) (by kernel_rfl) (by kernel_rfl) (by kernel_rfl) (fun _ _ _ h => h) (by rfl) (fun W hW => by go_simp) (by assumption) ?_
      try simp only [Act.put, List.setIfInBounds_toArray, List.set_cons_zero, List.set_cons_succ]
      refine take_at (i := 22) (.pointer (some ⟨w.heap.size, n + 3, none⟩)) (some 38) (by decide) (by rfl) (by kernel_rfl) (by kernel_rfl) (by kernel_rfl) (fun _ _ _ h => h) (by rfl) (fun W hW => by first | (go_simp; done) | (go_simp; intro h9; omega) | (go_simp; omega)) (by assumption) ?_
      try simp only [Act.put, List.setIfInBounds_toArray, List.set_cons_zero, List.set_cons_succ]
      refine take_at (i := 23) (.int .u8 (b3.toNat : Int)) (some 39) (by decide) (by rfl) (by kernel_rfl) (by kernel_rfl) (by kernel_rfl) (fun _ _ _ h => h) (by rfl) (fun W hW => by obtain ⟨s0, s1, s2, s3⟩ := hcs.out W hW; go_simp) (by assumption) ?_
      try simp only [Act.put, List.setIfInBounds_toArray, List.set_cons_zero, List.set_cons_succ]
      refine take_at (i := 24) (.int .u32 (b3.toNat : Int)) (some 40) (by decide) (by rfl) (by kernel_rfl) (by kernel_rfl) (by kernel_rfl) (fun _ _ _ h => h) (by rfl) (fun W hW => by go_simp) (by assumption) ?_
      try simp only [Act.put, List.setIfInBounds_toArray, List.set_cons_zero, List.set_cons_succ]
      refine take_at (i := 25) (.int .u32 (bits .or .u32 (bits .or .u32 (bits .or .u32 (IntKind.u32.wrap ((b0.toNat : Int) * 16777216)) (IntKind.u32.wrap ((b1.toNat : Int) * 65536))) (IntKind.u32.wrap ((b2.toNat : Int) * 256))) ((b3.toNat : Int)))) (some 41) (by decide) (by rfl) (by kernel_rfl) (by kernel_rfl) (by kernel_rfl) (fun _ _ _ h => h) (by rfl) (fun W hW => by go_simp) (by assumption) ?_
      try simp only [Act.put, List.setIfInBounds_toArray, List.set_cons_zero, List.set_cons_succ]
      refine take_at (i := 26) (.pointer (some ⟨bw, k, none⟩)) (some 42) (by decide) (by rfl) (by kernel_rfl) (by kernel_rfl) (by kernel_rfl) (fun _ _ _ h => h) (by rfl) (fun W hW => by first | (go_simp; done) | (go_simp; intro h9; omega)) (by assumption) ?_
      try simp only [Act.put, List.setIfInBounds_toArray, List.set_cons_zero, List.set_cons_succ]
      have HS1 : Hid (∀ {W : World}, W.heap[w.heap.size]? = some (.cells (vb blk).toArray 106) → Hid (W.heap[w.heap.size]? = some (.cells (vb blk).toArray 106))) := fun h => h
      have HS2 : Hid (Hid ((wr.drew.setCell ⟨bw, k, none⟩ (.int .u32 (word4 b0 b1 b2 b3))).heap[bw]? = some (.cells (vw (L.set k (word4 b0 b1 b2 b3))).toArray 119))) := by
        have h := heap_setCell_same wr.drew bw k _ _ (.int .u32 (word4 b0 b1 b2 b3)) HL.out
        rw [List.setIfInBounds_toArray, vw_set] at h
        exact h
      have HS3 : Hid (Hid ((wr.drew.setCell ⟨bw, k, none⟩ (.int .u32 (word4 b0 b1 b2 b3))).heap[w.heap.size + 1]? = some (.cells (vw (zerw 64)).toArray 119))) := (Below.heap_setCell wr.drew ⟨bw, k, none⟩ _ _ (by show w.heap.size + 1 ≠ bw; omega)).trans HR.out
      refine wpAnyH_ready (rs := [27]) (by kernel_rfl) (by simp) (AllReadyH.cons (Array.getElem?_eq_getElem (i := 27) (by decide)) (fun K9 hK => ?_) AllReadyH.nil)
      rw [if_pos (by rfl)]
      unfold Oper.wp
      go_simp
      refine hK.out _ _ ((Below.heap_setCell wr.drew ⟨bw, k, none⟩ _ _ (by show w.heap.size ≠ bw; omega)).trans hHeld) (fun hHeld => ?_)
      clear hK K9
      try simp only [Act.put, List.setIfInBounds_toArray, List.set_cons_zero, List.set_cons_succ]
      refine wpAnyH_done (by kernel_rfl) ?_ _
      try simp only [Act.put, List.setIfInBounds_toArray, List.set_cons_zero, List.set_cons_succ]
      go_wp2_with fail
      go_roundw
      case rel => exact ⟨k + 1, by omega, by go_num, HS1.out hHeld, L.set k (word4 b0 b1 b2 b3), by simp [hL], W32L.set hLw k _ (W32.bits _ _ _), HS2.out, HS3.out, HBB.out.drew.setCell (by show w.heap.size ≤ bw; omega) _⟩
      case measure => simp [intOf]; omega
    · clear HB
      go_wp2_with fail
      go_loopw [6] (fun i wr => ∃ k : Nat, 16 ≤ k ∧ k ≤ 64 ∧ i = .int .i64 k ∧ (∃ L : List Int, L.length = 64 ∧ W32L L ∧ Hid (wr.heap[bw]? = some (.cells (vw L).toArray 119)) ∧ Hid (wr.heap[w.heap.size + 1]? = some (.cells (vw (zerw 64)).toArray 119)) ∧ Hid (Below w.heap.size w wr))) (fun i _ => 64 - (intOf i).toNat)
      case atStart => exact ⟨16, by omega, by omega, rfl, L, hL, hLw, HL, HR, HBB⟩
      case round =>
        clear HL HR HBB hL hLw hlt hk
        obtain ⟨k, hk0, hk, rfl, L, hL, hLw, HL, HR, HBB⟩ := hrel
        by_cases hlt : k < 64
        · obtain ⟨k15, h15⟩ : ∃ j : Nat, j = k - 15 := ⟨_, rfl⟩
          obtain ⟨k2, h2⟩ : ∃ j : Nat, j = k - 2 := ⟨_, rfl⟩
          obtain ⟨k16, h16⟩ : ∃ j : Nat, j = k - 16 := ⟨_, rfl⟩
          obtain ⟨k7, h7⟩ : ∃ j : Nat, j = k - 7 := ⟨_, rfl⟩
          have e15 : IntKind.i64.wrap ((k : Int) - 15) = (k15 : Int) := by rw [show (k : Int) - 15 = (k15 : Int) by omega]; exact Go.wrap_small _ (by omega) (by omega)
          have g15 : (k15 : Int) < 64 := by omega
          have m15 : k15 < L.length := by omega
          have e2 : IntKind.i64.wrap ((k : Int) - 2) = (k2 : Int) := by rw [show (k : Int) - 2 = (k2 : Int) by omega]; exact Go.wrap_small _ (by omega) (by omega)
          have g2 : (k2 : Int) < 64 := by omega
          have m2 : k2 < L.length := by omega
          have e16 : IntKind.i64.wrap ((k : Int) - 16) = (k16 : Int) := by rw [show (k : Int) - 16 = (k16 : Int) by omega]; exact Go.wrap_small _ (by omega) (by omega)
          have g16 : (k16 : Int) < 64 := by omega
          have m16 : k16 < L.length := by omega
          have e7 : IntKind.i64.wrap ((k : Int) - 7) = (k7 : Int) := by rw [show (k : Int) - 7 = (k7 : Int) by omega]; exact Go.wrap_small _ (by omega) (by omega)
          have g7 : (k7 : Int) < 64 := by omega
          have m7 : k7 < L.length := by omega
          have gk : (k : Int) < 64 := by omega
          have hcell : Hid (∀ (W : World) (j : Nat) (hj : j < L.length), W.heap[bw]? = some (.cells (vw L).toArray 119) → W.cell? ⟨bw, j, none⟩ = some (.int .u32 L[j])) := fun W j hj h => by rw [cell_of_row _ _ _ _ _ _ h, List.getElem?_toArray]; exact vw_at L j hj
          have c15 : Hid (∀ W : World, W.heap[bw]? = some (.cells (vw L).toArray 119) → W.cell? ⟨bw, k15, none⟩ = some (.int .u32 L[k15])) := fun W h => hcell.out W k15 m15 h
          have c2 : Hid (∀ W : World, W.heap[bw]? = some (.cells (vw L).toArray 119) → W.cell? ⟨bw, k2, none⟩ = some (.int .u32 L[k2])) := fun W h => hcell.out W k2 m2 h
          have c16 : Hid (∀ W : World, W.heap[bw]? = some (.cells (vw L).toArray 119) → W.cell? ⟨bw, k16, none⟩ = some (.int .u32 L[k16])) := fun W h => hcell.out W k16 m16 h
          have c7 : Hid (∀ W : World, W.heap[bw]? = some (.cells (vw L).toArray 119) → W.cell? ⟨bw, k7, none⟩ = some (.int .u32 L[k7])) := fun W h => hcell.out W k7 m7 h
          have hx := hLw _ (List.getElem_mem m15)
          have hy := hLw _ (List.getElem_mem m2)
          have cw : wr.cell? ⟨bw, k, none⟩ = some (.int .u32 L[k]) := hcell.out wr k (by omega) HL.out
          have fw : wr.frozen? ⟨bw, k, none⟩ = false := frozen_of_row _ _ _ _ _ HL.out
          generalize L[k15] = x at c15 hx
          generalize L[k2] = y at c2 hy
          generalize L[k16] = a at c16
          generalize L[k7] = b at c7
          have HX := Lib.hid hx
          have HY := Lib.hid hy
          have hx0 := hx.1
          have hy0 := hy.1
          have n16 : ¬ k = k16 := by omega
          have n7 : ¬ k = k7 := by omega
          have n16b : ¬ k16 = k := by omega
          have n7b : ¬ k7 = k := by omega
          clear hx hy h15 h2 h16 h7 m15 m2 m16 m7 hcell
          go_wp2_with fail
          refine wp_region_held_drew (S := fun W => W.heap[bw]? = some (.cells (vw L).toArray 119)) (by kernel_rfl) HL.out (fun hHeld => ?_)
          refine take_at (i := 0) (.int .i64 (k : Int)) (some 48) (by decide) (by rfl) (by kernel_rfl) (by kernel_rfl) (by kernel_rfl) (fun _ _ _ h => h) (by rfl) (fun W hW => by go_simp) (by assumption) ?_
          try simp only [Act.put, List.setIfInBounds_toArray, List.set_cons_zero, List.set_cons_succ]
          refine take_at (i := 1) (.int .i64 (k15 : Int)) (some 49) (by decide) (by rfl) (by kernel_rfl) (by kernel_rfl) (by kernel_rfl) (fun _ _ _ h => h) (by rfl) (fun W hW => by go_simp) (by assumption) ?_
          try simp only [Act.put, List.setIfInBounds_toArray, List.set_cons_zero, List.set_cons_succ]
          refine take_at (i := 2) (.pointer (some ⟨bw, k15, none⟩)) (some 50) (by decide) (by rfl) (by kernel_rfl) (by kernel_rfl) (by kernel_rfl) (fun _ _ _ h => h) (by rfl) (fun W hW => by first | (go_simp; done) | (go_simp; intro h9; omega)) (by assumption) ?_
          try simp only [Act.put, List.setIfInBounds_toArray, List.set_cons_zero, List.set_cons_succ]
          refine take_at (i := 3) (.int .u32 x) (some 51) (by decide) (by rfl) (by kernel_rfl) (by kernel_rfl) (by kernel_rfl) (fun _ _ _ h => h) (by rfl) (fun W hW => by have := c15.out W hW; go_simp) (by assumption) ?_
          try simp only [Act.put, List.setIfInBounds_toArray, List.set_cons_zero, List.set_cons_succ]
          refine take_at (i := 4) (.int .i64 (k : Int)) (some 52) (by decide) (by rfl) (by kernel_rfl) (by kernel_rfl) (by kernel_rfl) (fun _ _ _ h => h) (by rfl) (fun W hW => by go_simp) (by assumption) ?_
          try simp only [Act.put, List.setIfInBounds_toArray, List.set_cons_zero, List.set_cons_succ]
          refine take_at (i := 5) (.int .i64 (k2 : Int)) (some 53) (by decide) (by rfl) (by kernel_rfl) (by kernel_rfl) (by kernel_rfl) (fun _ _ _ h => h) (by rfl) (fun W hW => by go_simp) (by assumption) ?_
          try simp only [Act.put, List.setIfInBounds_toArray, List.set_cons_zero, List.set_cons_succ]
          refine take_at (i := 6) (.pointer (some ⟨bw, k2, none⟩)) (some 54) (by decide) (by rfl) (by kernel_rfl) (by kernel_rfl) (by kernel_rfl) (fun _ _ _ h => h) (by rfl) (fun W hW => by first | (go_simp; done) | (go_simp; intro h9; omega)) (by assumption) ?_
          try simp only [Act.put, List.setIfInBounds_toArray, List.set_cons_zero, List.set_cons_succ]
          refine take_at (i := 7) (.int .u32 y) (some 55) (by decide) (by rfl) (by kernel_rfl) (by kernel_rfl) (by kernel_rfl) (fun _ _ _ h => h) (by rfl) (fun W hW => by have := c2.out W hW; go_simp) (by assumption) ?_
          try simp only [Act.put, List.setIfInBounds_toArray, List.set_cons_zero, List.set_cons_succ]
          refine take_at (i := 8) (.int .u32 x) (some 7) (by decide) (by rfl) (by kernel_rfl) (by kernel_rfl) (by kernel_rfl) (fun _ _ _ h => h) (by rfl) (fun W hW => by go_simp) (by assumption) ?_
          try simp only [Act.put, List.setIfInBounds_toArray, List.set_cons_zero, List.set_cons_succ]
          refine take_at (i := 9) (.int .u32 y) (some 8) (by decide) (by rfl) (by kernel_rfl) (by kernel_rfl) (by kernel_rfl) (fun _ _ _ h => h) (by rfl) (fun W hW => by go_simp) (by assumption) ?_
          try simp only [Act.put, List.setIfInBounds_toArray, List.set_cons_zero, List.set_cons_succ]
          refine wpAnyH_done (by kernel_rfl) ?_ _
          try simp only [Act.put, List.setIfInBounds_toArray, List.set_cons_zero, List.set_cons_succ]
          obtain ⟨w1, hw1⟩ : ∃ v, wr.drew = v := ⟨_, rfl⟩
          have HL1 : Hid (w1.heap[bw]? = some (.cells (vw L).toArray 119)) := by rw [← hw1]; exact HL.out
          have HR1 : Hid (w1.heap[w.heap.size + 1]? = some (.cells (vw (zerw 64)).toArray 119)) := by rw [← hw1]; exact HR.out
          have HB1 : Hid (Below w.heap.size w w1) := by rw [← hw1]; exact HBB.out.drew
          have cw1 : w1.cell? ⟨bw, k, none⟩ = some (.int .u32 L[k]) := by rw [← hw1]; exact cw
          have fw1 : w1.frozen? ⟨bw, k, none⟩ = false := by rw [← hw1]; exact fw
          rw [hw1]
          clear hw1 HL HR HBB cw fw c15 c2 hHeld
          go_wp2_with (first
            | (refine (turned_7 x _ HX.out).mono ?_; rintro e wt ⟨rfl, rfl⟩)
            | (refine (turned_18 x _ HX.out).mono ?_; rintro e wt ⟨rfl, rfl⟩)
            | (refine (turned_17 y _ HY.out).mono ?_; rintro e wt ⟨rfl, rfl⟩)
            | (refine (turned_19 y _ HY.out).mono ?_; rintro e wt ⟨rfl, rfl⟩))
          generalize bits .xor .u32 (bits .xor .u32 (rot x 33554432 128) (rot x 16384 262144)) (x / 8) = s
          generalize bits .xor .u32 (bits .xor .u32 (rot y 32768 131072) (rot y 8192 524288)) (y / 1024) = t
          have d16 := c16.out w1 HL1.out
          have d7 := c7.out w1 HL1.out
          clear c16 c7
          refine wp_region_held_drew (S := fun W => W.cell? ⟨bw, k16, none⟩ = some (.int .u32 a) ∧ W.cell? ⟨bw, k7, none⟩ = some (.int .u32 b)) (by kernel_rfl) ⟨d16, d7⟩ (fun hHeld => ?_)
          refine take_at (i := 0) (.int .i64 (k : Int)) (some 72) (by decide) (by rfl) (by kernel_rfl) (by kernel_rfl) (by kernel_rfl) (fun _ _ _ h => h) (by rfl) (fun W hW => by go_simp) (by assumption) ?_
          try simp only [Act.put, List.setIfInBounds_toArray, List.set_cons_zero, List.set_cons_succ]
          refine take_at (i := 1) (.int .i64 (k : Int)) (some 73) (by decide) (by rfl) (by kernel_rfl) (by kernel_rfl) (by kernel_rfl) (fun _ _ _ h => h) (by rfl) (fun W hW => by go_simp) (by assumption) ?_
          try simp only [Act.put, List.setIfInBounds_toArray, List.set_cons_zero, List.set_cons_succ]
          refine take_at (i := 2) (.int .i64 (k16 : Int)) (some 74) (by decide) (by rfl) (by kernel_rfl) (by kernel_rfl) (by kernel_rfl) (fun _ _ _ h => h) (by rfl) (fun W hW => by go_simp) (by assumption) ?_
          try simp only [Act.put, List.setIfInBounds_toArray, List.set_cons_zero, List.set_cons_succ]
          refine take_at (i := 3) (.pointer (some ⟨bw, k16, none⟩)) (some 75) (by decide) (by rfl) (by kernel_rfl) (by kernel_rfl) (by kernel_rfl) (fun _ _ _ h => h) (by rfl) (fun W hW => by first | (go_simp; done) | (go_simp; intro h9; omega)) (by assumption) ?_
          try simp only [Act.put, List.setIfInBounds_toArray, List.set_cons_zero, List.set_cons_succ]
          refine take_at (i := 4) (.int .u32 a) (some 76) (by decide) (by rfl) (by kernel_rfl) (by kernel_rfl) (by kernel_rfl) (fun _ _ _ h => h) (by rfl) (fun W hW => by have h9 := hW.1; go_simp) (by assumption) ?_
          try simp only [Act.put, List.setIfInBounds_toArray, List.set_cons_zero, List.set_cons_succ]
          refine take_at (i := 5) (.int .u32 s) (some 77) (by decide) (by rfl) (by kernel_rfl) (by kernel_rfl) (by kernel_rfl) (fun _ _ _ h => h) (by rfl) (fun W hW => by go_simp) (by assumption) ?_
          try simp only [Act.put, List.setIfInBounds_toArray, List.set_cons_zero, List.set_cons_succ]
          refine take_at (i := 6) (.int .u32 (IntKind.u32.wrap (a + s))) (some 78) (by decide) (by rfl) (by kernel_rfl) (by kernel_rfl) (by kernel_rfl) (fun _ _ _ h => h) (by rfl) (fun W hW => by go_simp) (by assumption) ?_
          try simp only [Act.put, List.setIfInBounds_toArray, List.set_cons_zero, List.set_cons_succ]
          refine take_at (i := 7) (.int .i64 (k : Int)) (some 79) (by decide) (by rfl) (by kernel_rfl) (by kernel_rfl) (by kernel_rfl) (fun _ _ _ h => h) (by rfl) (fun W hW => by go_simp) (by assumption) ?_
          try simp only [Act.put, List.setIfInBounds_toArray, List.set_cons_zero, List.set_cons_succ]
          refine take_at (i := 8) (.int .i64 (k7 : Int)) (some 80) (by decide) (by rfl) (by kernel_rfl) (by kernel_rfl) (by kernel_rfl) (fun _ _ _ h => h) (by rfl) (fun W hW => by go_simp) (by assumption) ?_
          try simp only [Act.put, List.setIfInBounds_toArray, List.set_cons_zero, List.set_cons_succ]
          refine take_at (i := 9) (.pointer (some ⟨bw, k7, none⟩)) (some 81) (by decide) (by rfl) (by kernel_rfl) (by kernel_rfl) (by kernel_rfl) (fun _ _ _ h => h) (by rfl) (fun W hW => by first | (go_simp; done) | (go_simp; intro h9; omega)) (by assumption) ?_
          try simp only [Act.put, List.setIfInBounds_toArray, List.set_cons_zero, List.set_cons_succ]
          refine take_at (i := 10) (.int .u32 b) (some 82) (by decide) (by rfl) (by kernel_rfl) (by kernel_rfl) (by kernel_rfl) (fun _ _ _ h => h) (by rfl) (fun W hW => by have h9 := hW.2; go_simp) (by assumption) ?_
          try simp only [Act.put, List.setIfInBounds_toArray, List.set_cons_zero, List.set_cons_succ]
          refine take_at (i := 11) (.int .u32 (IntKind.u32.wrap (IntKind.u32.wrap (a + s) + b))) (some 83) (by decide) (by rfl) (by kernel_rfl) (by kernel_rfl) (by kernel_rfl) (fun _ _ _ h => h) (by rfl) (fun W hW => by go_simp) (by assumption) ?_
          try simp only [Act.put, List.setIfInBounds_toArray, List.set_cons_zero, List.set_cons_succ]
          refine take_at (i := 12) (.int .u32 t) (some 84) (by decide) (by rfl) (by kernel_rfl) (by kernel_rfl) (by kernel_rfl) (fun _ _ _ h => h) (by rfl) (fun W hW => by go_simp) (by assumption) ?_
          try simp only [Act.put, List.setIfInBounds_toArray, List.set_cons_zero, List.set_cons_succ]
          refine take_at (i := 13) (.int .u32 (IntKind.u32.wrap (IntKind.u32.wrap (IntKind.u32.wrap (a + s) + b) + t))) (some 85) (by decide) (by rfl) (by kernel_rfl) (by kernel_rfl) (by kernel_rfl) (fun _ _ _ h => h) (by rfl) (fun W hW => by go_simp) (by assumption) ?_
          try simp only [Act.put, List.setIfInBounds_toArray, List.set_cons_zero, List.set_cons_succ]
          refine take_at (i := 14) (.pointer (some ⟨bw, k, none⟩)) (some 86) (by decide) (by rfl) (by kernel_rfl) (by kernel_rfl) (by kernel_rfl) (fun _ _ _ h => h) (by rfl) (fun W hW => by first | (go_simp; done) | (go_simp; intro h9; omega)) (by assumption) ?_
          try simp only [Act.put, List.setIfInBounds_toArray, List.set_cons_zero, List.set_cons_succ]
          have hV : W32 (IntKind.u32.wrap (IntKind.u32.wrap (IntKind.u32.wrap (a + s) + b) + t)) := by rw [IntKind.wrap_u32']; exact W32.mod _
          generalize IntKind.u32.wrap (IntKind.u32.wrap (IntKind.u32.wrap (a + s) + b) + t) = v9 at hV ⊢
          have HS2 : Hid ((w1.drew.setCell ⟨bw, k, none⟩ (.int .u32 v9)).heap[bw]? = some (.cells (vw (L.set k v9)).toArray 119)) := by
            have h := heap_setCell_same w1.drew bw k _ _ (.int .u32 v9) HL1.out
            rw [List.setIfInBounds_toArray, vw_set] at h
            exact h
          have HS3 : Hid ((w1.drew.setCell ⟨bw, k, none⟩ (.int .u32 v9)).heap[w.heap.size + 1]? = some (.cells (vw (zerw 64)).toArray 119)) := (Below.heap_setCell w1.drew ⟨bw, k, none⟩ _ _ (by show w.heap.size + 1 ≠ bw; omega)).trans HR1.out
          clear hHeld
          refine wpAnyH_ready (rs := [15]) (by kernel_rfl) (by simp) (AllReadyH.cons (Array.getElem?_eq_getElem (i := 15) (by decide)) (fun K9 hK => ?_) AllReadyH.nil)
          rw [if_pos (by rfl)]
          unfold Oper.wp
          go_simp
          refine hK.out _ _ ⟨(World.cell?_setCell_other _ _ _ _ (by simp [n16, n16b])).trans d16, (World.cell?_setCell_other _ _ _ _ (by simp [n7, n7b])).trans d7⟩ (fun hHeld => ?_)
          clear hK K9
          try simp only [Act.put, List.setIfInBounds_toArray, List.set_cons_zero, List.set_cons_succ]
          refine wpAnyH_done (by kernel_rfl) ?_ _
          try simp only [Act.put, List.setIfInBounds_toArray, List.set_cons_zero, List.set_cons_succ]
          go_wp2_with fail
          go_roundw
          case rel => exact ⟨k + 1, by omega, by omega, by go_num, L.set k v9, by simp [hL], W32L.set hLw k _ hV, HS2, HS3, HB1.out.drew.setCell (by show w.heap.size ≤ bw; omega) _⟩
          case measure => simp [intOf]; omega
        · obtain rfl : k = 64 := by omega
          clear hlt hk hk0
          go_wp2_with (first
            | (refine wpList_load_row rfl 119 _ rfl bw rfl 119 (vw L).toArray (0, 0) _ HL.out Tryd.underlying119 rfl (by rw [show (vw L).toArray.size = 64 by simp [vw_length, hL]]; exact cells_w64) ?_)
            | (refine wp_put_row cells_w64 rfl _ _ rfl (w.heap.size + 1) rfl rfl (by simp [vw_length, hL]) (vw_one L) (vw (zerw 64)).toArray (by simp [vw_length, zerw_length]) 119 HR.out ?hK9))
          intro w9 h9 hg9
          have hb9 : Below w.heap.size w w9 := HBB.out.grown hg9 (by have := HBB.out.size; omega) (fun k hk => by injection hk with hk; omega)
          go_wp2_with fail
          exact bodyPost_ret (v := .agg (vw L).toArray) (results_cell_row Tryd.results78 _ w9 (w.heap.size + 1) 119 (vw L).toArray (0, 0) _ rfl h9 Tryd.underlying119 rfl (by rw [show (vw L).toArray.size = 64 by simp [vw_length, hL]]; exact cells_w64)) rfl ⟨L, hL, hLw, rfl, hb9⟩

end Go.Proofs.YthbahbcihaebeaaDoor.Cd
