/-
  The document's Name of a name. Conditions: none.
-/
import Derived.Test.YtflgokbkkoobkaaG4
import Derived.Deep.RegionWith
import Derived.Deep.RegionHeld3
import Derived.BigQuiet
import Derived.Test.YtflgokbkkoobkaaG5
/-
  ident.Good, ident.Text. Conditions: none.
-/
namespace Go.Proofs.Ytflgokbkkoobkaa.Cd
open Go.RowKit

/-- Whether a name can be. -/
def goodI : List UInt8 → Bool
  | [] => false
  | k :: s => decide (0 < sizeI k) && (k :: s == k :: pad32 (s.take (sizeI k)))

/-- A name that lies in a block of its own. -/
def IdAt (w : World) (b : Nat) (l : List UInt8) : Prop := w.heap[b]? = some (.cells (vb l).toArray 28)
theorem IdAt.load {w : World} {b : Nat} {l : List UInt8} (h : IdAt w b l) (hl : l.length = 33) : (Instr.loadAt 28 (.pointer (some ⟨b, 0, none⟩))).run Try.prog w = .ok (idV l) w := by
  simp only [Instr.loadAt, Instr.sureAddr, Sem.run_bind, Sem.run_pure, Result.andThen]
  exact run_loadVar_row (P := Try.prog) w b _ 28 _ _ _ h Try.underlying28 rfl (by rw [vb_size, hl]; exact cells_id)
theorem exec_load_id {w : World} {b : Nat} {l : List UInt8} (h : IdAt w b l) (hl : l.length = 33) {op : Oper} {a : Act} (x : Operand) (ho : op.op = .load 28 x) (hx : a.eval x = .pointer (some ⟨b, 0, none⟩)) :
    (execOp a.eval op).run Try.prog w = .ok (.value (idV l)) w := by
  have := h.load hl
  unfold execOp
  simp only [ho, hx, Sem.run_bind, this, Result.andThen_ok, Sem.run_pure]
theorem IdAt.kind {w : World} {b : Nat} {k : UInt8} {s : List UInt8} (h : IdAt w b (k :: s)) : w.cell? ⟨b, 0, none⟩ = some (.int .u8 k.toNat) := cell_of_row _ _ _ _ _ _ h
theorem IdAt.below {w w' : World} {b B : Nat} {l : List UInt8} (h : IdAt w b l) (hb : Below B w w') (hB : b < B) : IdAt w' b l := (hb.block b hB).trans h
theorem IdAt.drew {w : World} {b : Nat} {l : List UInt8} (h : IdAt w b l) : IdAt w.drew b l := h
theorem IdAt.new (w : World) (l : List UInt8) : IdAt (w.alloc (.cells (vb l).toArray 28)) w.heap.size l := heap_alloc_new _ _
/-- The first n bytes of a name's sum, as a slice. -/
theorem IdAt.sl {w : World} {b : Nat} {k : UInt8} {s : List UInt8} (h : IdAt w b (k :: s)) (hs : s.length = 32) (n : Nat) (hn : n ≤ 32) {B : Nat} (hB : b < B) : Sl w B (.slice (some ⟨b, 1, none⟩) n 32) (s.take n) := by
  have hl : (s.take n).length = n := by rw [List.length_take]; omega
  refine ⟨some ⟨b, 1, none⟩, 32, by rw [hl], by omega, by simp [maxLen], (fun e => by cases e), (fun ad e _ => by injection e with e; subst e; exact hB), fun ad e j u hu => ?_⟩
  injection e with e
  subst e
  have hj := (List.getElem?_eq_some_iff.1 hu).1
  rw [vb_length, hl] at hj
  rw [Addr.add_lit, cell_of_row _ _ _ _ _ _ h, List.getElem?_toArray, show 1 + j = j + 1 by omega]
  show (vb s)[j]? = some u
  rw [← hu, vb_at _ j (by omega), vb_at _ j (by omega), List.getElem_take]

set_option maxRecDepth 100000 in
theorem slice_sum (b n : Nat) (hn : n ≤ 32) (W : World) : (Instr.sliceAt 26 (.pointer (some ⟨b, 1, none⟩)) none (some (.int .i64 n)) none).run Try.prog W = .ok (.slice (some ⟨b, 1, none⟩) n 32) W := by
  have hn2 : (n : Int) ≤ (Try.prog.arrayLen 26 : Nat) := by
    show (n : Int) ≤ 32
    omega
  have h := run_sliceAt_array_h (P := Try.prog) W 26 ⟨b, 1, none⟩ Try.underlying26 .i64 n (by omega) hn2
  rw [h]
  go_simp

theorem sizeI_le (k : UInt8) : sizeI k ≤ 32 := by
  unfold sizeI
  split
  · omega
  · split <;> omega

set_option maxRecDepth 100000 in
set_option maxHeartbeats 1600000 in
theorem igood_any (k : UInt8) (s : List UInt8) (w : World) (hs : s.length = 32) : Calls Try.prog 26 #[idV (k :: s)] w (Gives (.bool (goodI (k :: s))) w) := by
  have hsz := sizeI_le k
  have hg : goodI (k :: s) = (decide (0 < sizeI k) && (k :: s == k :: pad32 (s.take (sizeI k)))) := rfl
  have hsize := fun W => size_any k W
  have h0 := IdAt.new w (k :: s)
  generalize sizeI k = n at hsz hg hsize
  have HG := Lib.hid hg
  have HSZ := Lib.hid hsize
  have HSZ0 := hsz
  have H0 := Lib.hid h0
  clear hg hsize h0
  have hb0 : Below w.heap.size w (w.alloc (.cells (vb (k :: s)).toArray 28)) := (Below.refl _ _).alloc (Nat.le_refl _) _
  have HB0 := Lib.hid hb0
  clear hb0
  have d0 := H0.out.kind
  go_enter Try.func26, Try.ntmps26
  by_cases hn : n = 0
  · subst hn
    go_wp2_with (refine wp_box_row rfl _ rfl rfl ?_)
    go_wp2_with fail
    refine (HSZ.out _).mono ?_
    rintro e w1 ⟨rfl, rfl⟩
    go_wp2_with fail
    go_quiet (fail)
    go_wp2_with fail
    go_ret
    exact ⟨by rw [HG.out]; rfl, ⟨HB0.out.os, HB0.out.tape, HB0.out.output, HB0.out.size, HB0.out.block⟩⟩
  · have hpos : decide (0 < n) = true := by simp; omega
    have hx : (k :: s).length = 33 := by simp [hs]
    have hy : (k :: pad32 (s.take n)).length = 33 := by simp [pad32_length]
    have heg := fun p q W => eqGuard_id .eql p q (k :: s) (k :: pad32 (s.take n)) W
    have heq := fun W => eql_id (k :: s) (k :: pad32 (s.take n)) hx hy W
    have HX := Lib.hid hx
    have HS : Hid (s.length = 32) := hs
    obtain ⟨V1, hV1⟩ : ∃ V, idV (k :: s) = V := ⟨_, rfl⟩
    obtain ⟨V2, hV2⟩ : ∃ V, idV (k :: pad32 (s.take n)) = V := ⟨_, rfl⟩
    have hnm : ∀ (v : Value) (W : World), Sl W W.heap.size v (s.take n) → Calls Try.prog 32 #[.int .u8 k.toNat, v] W (Gives V2 W) := fun v W h => by rw [← hV2]; exact named_any k v (s.take n) W h
    have HNM := Lib.hid hnm
    rw [hV1, hV2] at heg heq
    clear hnm hx hy hs hV2
    go_wp2_with (refine wp_box_row rfl _ rfl rfl ?_)
    go_wp2_with fail
    refine (HSZ.out _).mono ?_
    rintro e w1 ⟨rfl, rfl⟩
    go_wp2_with fail
    have hS0 : IdAt ((w.alloc (.cells (vb (k :: s)).toArray 28)).drew) w.heap.size (k :: s) := H0.out.drew
    have HBD : Hid (Below w.heap.size w ((w.alloc (.cells (vb (k :: s)).toArray 28)).drew)) := HB0.out.drew
    obtain ⟨W0, hW0⟩ : ∃ x, (w.alloc (.cells (vb (k :: s)).toArray 28)).drew = x := ⟨_, rfl⟩
    have hs0 : W0.heap.size = w.heap.size + 1 := by rw [← hW0]; simp
    rw [hW0] at hS0 HBD
    clear d0
    refine region_begin hW0 (S := fun W => IdAt W w.heap.size (k :: s)) (by kernel_rfl) hS0 (fun hHeld => ?_)
    clear hW0
    refine take_at (i := 0) (.int .i64 (n : Int)) (some 7) (by decide) (by rfl) (by kernel_rfl) (by kernel_rfl) (by kernel_rfl) (fun _ _ _ h => h) (by rfl) (fun W hW => by go_simp) (by assumption) ?_
    try simp only [Act.put, List.setIfInBounds_toArray, List.set_cons_zero, List.set_cons_succ]
    refine take_at (i := 1) (.bool (decide (0 < n))) (some 8) (by decide) (by rfl) (by kernel_rfl) (by kernel_rfl) (by kernel_rfl) (fun _ _ _ h => h) (by rfl) (fun W hW => by go_simp) (by assumption) ?_
    try simp only [Act.put, List.setIfInBounds_toArray, List.set_cons_zero, List.set_cons_succ]
    refine take_at (i := 2) (.bool (decide (0 < n))) (some 9) (by decide) (by rfl) (by kernel_rfl) (by kernel_rfl) (by kernel_rfl) (fun _ _ _ h => h) (by rfl) (fun W hW => by go_simp) (by assumption) ?_
    try simp only [Act.put, List.setIfInBounds_toArray, List.set_cons_zero, List.set_cons_succ]
    rw [hpos]
    refine take_at (i := 3) (V1) (some 10) (by decide) (by rfl) (by kernel_rfl) (by kernel_rfl) (by kernel_rfl) (fun _ _ _ h => h) (by rfl) (fun W hW => by rw [← hV1]; exact exec_load_id hW HX.out _ rfl rfl) (by assumption) ?_
    try simp only [Act.put, List.setIfInBounds_toArray, List.set_cons_zero, List.set_cons_succ]
    refine take_at (i := 4) (.pointer (some ⟨w.heap.size, 0, none⟩)) (some 11) (by decide) (by rfl) (by kernel_rfl) (by kernel_rfl) (by kernel_rfl) (fun _ _ _ h => h) (by rfl) (fun W hW => by go_simp) (by assumption) ?_
    try simp only [Act.put, List.setIfInBounds_toArray, List.set_cons_zero, List.set_cons_succ]
    refine take_at (i := 5) (.int .u8 k.toNat) (some 12) (by decide) (by rfl) (by kernel_rfl) (by kernel_rfl) (by kernel_rfl) (fun _ _ _ h => h) (by rfl) (fun W hW => by have := hW.kind; go_simp) (by assumption) ?_
    try simp only [Act.put, List.setIfInBounds_toArray, List.set_cons_zero, List.set_cons_succ]
    refine take_at (i := 6) (.pointer (some ⟨w.heap.size, 1, none⟩)) (some 13) (by decide) (by rfl) (by kernel_rfl) (by kernel_rfl) (by kernel_rfl) (fun _ _ _ h => h) (by rfl) (fun W hW => by go_simp) (by assumption) ?_
    try simp only [Act.put, List.setIfInBounds_toArray, List.set_cons_zero, List.set_cons_succ]
    refine take_at (i := 7) (.int .i64 (n : Int)) (some 14) (by decide) (by rfl) (by kernel_rfl) (by kernel_rfl) (by kernel_rfl) (fun _ _ _ h => h) (by rfl) (fun W hW => by go_simp) (by assumption) ?_
    try simp only [Act.put, List.setIfInBounds_toArray, List.set_cons_zero, List.set_cons_succ]
    refine take_at (i := 8) (.slice (some ⟨w.heap.size, 1, none⟩) n 32) (some 15) (by decide) (by rfl) (by kernel_rfl) (by kernel_rfl) (by kernel_rfl) (fun _ _ _ h => h) (by rfl) (fun W hW => by have := slice_sum w.heap.size n HSZ0 W; go_simp) (by assumption) ?_
    try simp only [Act.put, List.setIfInBounds_toArray, List.set_cons_zero, List.set_cons_succ]
    refine wpAnyH_ready (rs := [9]) (by kernel_rfl) (by simp) (AllReadyH.cons (Array.getElem?_eq_getElem (i := 9) (by decide)) (fun K9 hK => ?_) AllReadyH.nil)
    go_simp
    refine (HNM.out _ _ (hHeld.sl HS.out n HSZ0 (by omega))).mono ?_
    rintro e w3 ⟨rfl, hb3⟩
    have HB3 := Lib.hid (HBD.out.trans (hb3.mono (by omega)))
    refine hK.out _ _ (hHeld.below hb3 (by omega)) (fun hHeld => ?_)
    clear hK K9
    try simp only [Act.put, List.setIfInBounds_toArray, List.set_cons_zero, List.set_cons_succ]
    refine take_at (i := 10) (.bool (k :: s == k :: pad32 (s.take n))) (some 17) (by decide) (by rfl) (by kernel_rfl) (by kernel_rfl) (by kernel_rfl) (fun _ _ _ h => h) (by rfl) (fun W hW => by go_simp) (by assumption) ?_
    try simp only [Act.put, List.setIfInBounds_toArray, List.set_cons_zero, List.set_cons_succ]
    refine take_at (i := 11) (.bool (k :: s == k :: pad32 (s.take n))) (some 18) (by decide) (by rfl) (by kernel_rfl) (by kernel_rfl) (by kernel_rfl) (fun _ _ _ h => h) (by rfl) (fun W hW => by go_simp) (by assumption) ?_
    try simp only [Act.put, List.setIfInBounds_toArray, List.set_cons_zero, List.set_cons_succ]
    refine take_at (i := 12) (.bool (k :: s == k :: pad32 (s.take n))) (some 2) (by decide) (by rfl) (by kernel_rfl) (by kernel_rfl) (by kernel_rfl) (fun _ _ _ h => h) (by rfl) (fun W hW => by go_simp) (by assumption) ?_
    try simp only [Act.put, List.setIfInBounds_toArray, List.set_cons_zero, List.set_cons_succ]
    refine wpAnyH_done (by kernel_rfl) ?_ _
    try simp only [Act.put, List.setIfInBounds_toArray, List.set_cons_zero, List.set_cons_succ]
    go_wp2_with fail
    go_ret
    exact ⟨by rw [HG.out, hpos, Bool.true_and]; rfl, HB3.out⟩

end Go.Proofs.Ytflgokbkkoobkaa.Cd

/-
  ident.Text. Conditions: none.
-/
namespace Go.Proofs.Ytflgokbkkoobkaa.Cd
open Go.RowKit

/-- A name as bytes; those of one that can't be are none. -/
def textI : List UInt8 → List UInt8
  | [] => []
  | k :: s => if goodI (k :: s) = true then k :: s.take (sizeI k) else []

theorem textI_cons (k : UInt8) (s : List UInt8) : textI (k :: s) = if goodI (k :: s) = true then k :: s.take (sizeI k) else [] := rfl

theorem own_byte (w : World) (B : Nat) (hB : B ≤ w.heap.size) (k : UInt8) : Own (w.alloc (.cells #[.int .u8 k.toNat] 5)) B (.slice (some ⟨w.heap.size, 0, none⟩) 1 1) [k] :=
  ⟨by simp [vb_length], .inr ⟨w.heap.size, 1, _, rfl, hB, heap_alloc_new w _, Nat.le_refl _, by simp [maxLen], rfl, rfl⟩⟩

set_option maxRecDepth 100000 in
set_option maxHeartbeats 1600000 in
theorem itext_any (k : UInt8) (s : List UInt8) (w : World) (hs : s.length = 32) : Calls Try.prog 17 #[idV (k :: s)] w (Gives (.string ⟨(textI (k :: s)).toArray⟩) w) := by
  have hx : (k :: s).length = 33 := by simp [hs]
  have h0 := IdAt.new w (k :: s)
  have hb0 : Below w.heap.size w (w.alloc (.cells (vb (k :: s)).toArray 28)) := (Below.refl _ _).alloc (Nat.le_refl _) _
  have hs0 : (w.alloc (.cells (vb (k :: s)).toArray 28)).heap.size = w.heap.size + 1 := asz _ _
  have HS := Lib.hid hs
  have HX := Lib.hid hx
  clear hs hx
  go_enter Try.func17, Try.ntmps17
  go_wp2_with (first
    | (refine wp_box_row rfl _ rfl rfl ?_)
    | (refine wp_load_id rfl _ rfl w.heap.size rfl (k :: s) HX.out (IdAt.new w (k :: s)) ?_))
  generalize w.alloc (.cells (vb (k :: s)).toArray 28) = w1 at h0 hb0 hs0 ⊢
  have HI := Lib.hid h0
  have HB := Lib.hid hb0
  clear h0 hb0
  refine (igood_any k s w1 HS.out).mono ?_
  rintro e w2 ⟨rfl, hb2⟩
  have hs2 := hb2.size
  have HI2 := Lib.hid (HI.out.below hb2 (by omega))
  have HB2 := Lib.hid (HB.out.trans (hb2.mono (by omega)))
  clear hb2 HB HI
  cases hg : goodI (k :: s) with
  | false =>
    have HG := Lib.hid hg
    clear hg
    go_wp2_with fail
    go_ret
    exact ⟨by rw [textI_cons, HG.out]; rfl, HB2.out⟩
  | true =>
    have ht : textI (k :: s) = k :: s.take (sizeI k) := by rw [textI_cons, hg]; rfl
    have hz := sizeI_le k
    have hsize := fun W => size_any k W
    generalize sizeI k = n at ht hz hsize
    have HT := Lib.hid ht
    have HSZ := Lib.hid hsize
    have HZ := hz
    clear ht hsize hg
    go_wp2_with fail
    obtain ⟨W0, hW0⟩ : ∃ x, w2.drew = x := ⟨_, rfl⟩
    have hS0 : IdAt W0 w.heap.size (k :: s) := by rw [← hW0]; exact HI2.out.drew
    have HBD : Hid (Below w.heap.size w W0) := by rw [← hW0]; exact HB2.out.drew
    have hsz0 : w.heap.size + 1 ≤ W0.heap.size := by rw [← hW0]; simp; omega
    clear HI2 HB2 hs2 hs0
    refine region_begin hW0 (S := fun W => IdAt W w.heap.size (k :: s)) (by kernel_rfl) hS0 (fun hHeld => ?_)
    clear hW0 hS0
    refine take_at (i := 0) (.pointer (some ⟨w.heap.size, 0, none⟩)) (some 7) (by decide) (by rfl) (by kernel_rfl) (by kernel_rfl) (by kernel_rfl) (fun _ _ _ h => h) (by rfl) (fun W hW => by go_simp) (by assumption) ?_
    try simp only [Act.put, List.setIfInBounds_toArray, List.set_cons_zero, List.set_cons_succ]
    refine take_at (i := 1) (.int .u8 k.toNat) (some 8) (by decide) (by rfl) (by kernel_rfl) (by kernel_rfl) (by kernel_rfl) (fun _ _ _ h => h) (by rfl) (fun W hW => by have := hW.kind; go_simp) (by assumption) ?_
    try simp only [Act.put, List.setIfInBounds_toArray, List.set_cons_zero, List.set_cons_succ]
    refine take_at (i := 3) (.pointer (some ⟨w.heap.size, 1, none⟩)) (some 10) (by decide) (by rfl) (by kernel_rfl) (by kernel_rfl) (by kernel_rfl) (fun _ _ _ h => h) (by rfl) (fun W hW => by go_simp) (by assumption) ?_
    try simp only [Act.put, List.setIfInBounds_toArray, List.set_cons_zero, List.set_cons_succ]
    refine take_at (i := 4) (.pointer (some ⟨w.heap.size, 0, none⟩)) (some 11) (by decide) (by rfl) (by kernel_rfl) (by kernel_rfl) (by kernel_rfl) (fun _ _ _ h => h) (by rfl) (fun W hW => by go_simp) (by assumption) ?_
    try simp only [Act.put, List.setIfInBounds_toArray, List.set_cons_zero, List.set_cons_succ]
    refine take_at (i := 5) (.int .u8 k.toNat) (some 12) (by decide) (by rfl) (by kernel_rfl) (by kernel_rfl) (by kernel_rfl) (fun _ _ _ h => h) (by rfl) (fun W hW => by have := hW.kind; go_simp) (by assumption) ?_
    try simp only [Act.put, List.setIfInBounds_toArray, List.set_cons_zero, List.set_cons_succ]
    refine wpAnyH_ready (rs := [2, 6]) (by kernel_rfl) (by simp) ?_
    refine come (i := 2) (.slice (some ⟨W0.heap.size, 0, none⟩) 1 1) (W0.alloc (.cells #[.int .u8 k.toNat] 5)) (some 9) (by decide) (by rfl) (by rfl) (by go_simp) (hHeld.below ((Below.refl _ _).alloc (Nat.le_refl _) _) (by omega)) ?_ (AllReadyH.cons (Array.getElem?_eq_getElem (i := 6) (by decide)) (fun K9 hK => ?_) AllReadyH.nil)
    case refine_1 =>
      replace hHeld : IdAt (W0.alloc (.cells #[.int .u8 k.toNat] 5)) w.heap.size (k :: s) := hHeld.below ((Below.refl _ _).alloc (Nat.le_refl _) _) (by omega)
      try simp only [Act.put, List.setIfInBounds_toArray, List.set_cons_zero, List.set_cons_succ]
      refine wpAnyH_ready (rs := [6]) (by kernel_rfl) (by simp) (AllReadyH.cons (Array.getElem?_eq_getElem (i := 6) (by decide)) (fun K9 hK => ?_) AllReadyH.nil)
      go_simp
      refine (HSZ.out _).mono ?_
      rintro e w3 ⟨rfl, rfl⟩
      refine hK.out _ _ (hHeld) (fun hHeld => ?_)
      clear hK K9
      try simp only [Act.put, List.setIfInBounds_toArray, List.set_cons_zero, List.set_cons_succ]
      refine take_at (i := 7) (.slice (some ⟨w.heap.size, 1, none⟩) n 32) (some 14) (by decide) (by rfl) (by kernel_rfl) (by kernel_rfl) (by kernel_rfl) (fun _ _ _ h => h) (by rfl) (fun W hW => by have := slice_sum w.heap.size n HZ W; go_simp) (by assumption) ?_
      try simp only [Act.put, List.setIfInBounds_toArray, List.set_cons_zero, List.set_cons_succ]
      have ho := own_byte W0 W0.heap.size (Nat.le_refl _) k
      have hbo : Below w.heap.size w (W0.alloc (.cells #[.int .u8 k.toNat] 5)) := HBD.out.alloc (by omega) _
      have hso : (W0.alloc (.cells #[.int .u8 k.toNat] 5)).heap.size = W0.heap.size + 1 := asz _ _
      generalize W0.alloc (.cells #[.int .u8 k.toNat] 5) = W1 at ho hbo hso hHeld ⊢
      refine wpAnyH_ready (rs := [8]) (by kernel_rfl) (by simp) (AllReadyH.cons (Array.getElem?_eq_getElem (i := 8) (by decide)) (fun K9 hK => ?_) AllReadyH.nil)
      refine step_append_sl rfl _ _ rfl W0.heap.size _ [k] rfl ho (by omega) _ W1.heap.size (s.take n) rfl (hHeld.sl HS.out n HZ (by omega)) (by simp; omega) ?_
      intro v4 w4 ho4 hb4
      have HH := hHeld.below hb4 (by omega)
      have HB4 := Lib.hid (hbo.trans (hb4.mono (by omega)))
      have hcv := run_text_of _ _ _ _ ho4.sl
      clear ho hbo hso hb4
      refine hK.out _ _ (HH) (fun hHeld => ?_)
      clear hK K9
      try simp only [Act.put, List.setIfInBounds_toArray, List.set_cons_zero, List.set_cons_succ]
      refine take_at (i := 9) (v4) (some 3) (by decide) (by rfl) (by kernel_rfl) (by kernel_rfl) (by kernel_rfl) (fun _ _ _ h => h) (by rfl) (fun W hW => by go_simp) (by assumption) ?_
      try simp only [Act.put, List.setIfInBounds_toArray, List.set_cons_zero, List.set_cons_succ]
      refine wpAnyH_done (by kernel_rfl) ?_ _
      try simp only [Act.put, List.setIfInBounds_toArray, List.set_cons_zero, List.set_cons_succ]
      go_wp2_with fail
      go_ret
      exact ⟨by rw [HT.out]; rfl, HB4.out⟩
    case refine_2 =>
      go_simp
      refine (HSZ.out _).mono ?_
      rintro e w3 ⟨rfl, rfl⟩
      refine hK.out _ _ hHeld (fun hHeld => ?_)
      clear hK K9
      try simp only [Act.put, List.setIfInBounds_toArray, List.set_cons_zero, List.set_cons_succ]
      refine take_at (i := 7) (.slice (some ⟨w.heap.size, 1, none⟩) n 32) (some 14) (by decide) (by rfl) (by kernel_rfl) (by kernel_rfl) (by kernel_rfl) (fun _ _ _ h => h) (by rfl) (fun W hW => by have := slice_sum w.heap.size n HZ W; go_simp) (by assumption) ?_
      try simp only [Act.put, List.setIfInBounds_toArray, List.set_cons_zero, List.set_cons_succ]
      refine wpAnyH_ready (rs := [2]) (by kernel_rfl) (by simp) (come (i := 2) (.slice (some ⟨W0.heap.size, 0, none⟩) 1 1) (W0.alloc (.cells #[.int .u8 k.toNat] 5)) (some 9) (by decide) (by rfl) (by rfl) (by go_simp) (hHeld.below ((Below.refl _ _).alloc (Nat.le_refl _) _) (by omega)) ?_ AllReadyH.nil)
      try simp only [Act.put, List.setIfInBounds_toArray, List.set_cons_zero, List.set_cons_succ]
      replace hHeld : IdAt (W0.alloc (.cells #[.int .u8 k.toNat] 5)) w.heap.size (k :: s) := hHeld.below ((Below.refl _ _).alloc (Nat.le_refl _) _) (by omega)
      have ho := own_byte W0 W0.heap.size (Nat.le_refl _) k
      have hbo : Below w.heap.size w (W0.alloc (.cells #[.int .u8 k.toNat] 5)) := HBD.out.alloc (by omega) _
      have hso : (W0.alloc (.cells #[.int .u8 k.toNat] 5)).heap.size = W0.heap.size + 1 := asz _ _
      generalize W0.alloc (.cells #[.int .u8 k.toNat] 5) = W1 at ho hbo hso hHeld ⊢
      refine wpAnyH_ready (rs := [8]) (by kernel_rfl) (by simp) (AllReadyH.cons (Array.getElem?_eq_getElem (i := 8) (by decide)) (fun K9 hK => ?_) AllReadyH.nil)
      refine step_append_sl rfl _ _ rfl W0.heap.size _ [k] rfl ho (by omega) _ W1.heap.size (s.take n) rfl (hHeld.sl HS.out n HZ (by omega)) (by simp; omega) ?_
      intro v4 w4 ho4 hb4
      have HH := hHeld.below hb4 (by omega)
      have HB4 := Lib.hid (hbo.trans (hb4.mono (by omega)))
      have hcv := run_text_of _ _ _ _ ho4.sl
      clear ho hbo hso hb4
      refine hK.out _ _ (HH) (fun hHeld => ?_)
      clear hK K9
      try simp only [Act.put, List.setIfInBounds_toArray, List.set_cons_zero, List.set_cons_succ]
      refine take_at (i := 9) (v4) (some 3) (by decide) (by rfl) (by kernel_rfl) (by kernel_rfl) (by kernel_rfl) (fun _ _ _ h => h) (by rfl) (fun W hW => by go_simp) (by assumption) ?_
      try simp only [Act.put, List.setIfInBounds_toArray, List.set_cons_zero, List.set_cons_succ]
      refine wpAnyH_done (by kernel_rfl) ?_ _
      try simp only [Act.put, List.setIfInBounds_toArray, List.set_cons_zero, List.set_cons_succ]
      go_wp2_with fail
      go_ret
      exact ⟨by rw [HT.out]; rfl, HB4.out⟩

end Go.Proofs.Ytflgokbkkoobkaa.Cd

/-
  ident.Parse. Conditions: none.
-/
namespace Go.Proofs.Ytflgokbkkoobkaa.Cd
open Go.RowKit

/-- The name of bytes, and whether they are one's. -/
def parseI : List UInt8 → List UInt8 × Bool
  | [] => (zer 33, false)
  | c :: r => if 0 < sizeI c ∧ r.length = sizeI c then (c :: pad32 r, true) else (zer 33, false)

theorem slice_rest (c : UInt8) (r : List UInt8) (W : World) : (Instr.sliceAt 9 (.string ⟨(c :: r).toArray⟩) (some (.int .i64 1)) none none).run Try.prog W = .ok (.string ⟨r.toArray⟩) W := by
  have hs : (ByteArray.mk (c :: r).toArray).size = r.length + 1 := rfl
  rw [run_sliceAt_string (P := Try.prog) W 9 _ _ _ _ Try.underlying9, run_slice_string_l (P := Try.prog) W 9 _ Try.underlying9 .i64 1 (by omega) (by rw [hs]; omega)]
  have he : (ByteArray.mk (c :: r).toArray).extract (1 : Int).toNat (ByteArray.mk (c :: r).toArray).size = ⟨r.toArray⟩ := by
    rw [hs]
    apply ByteArray.ext
    simp [ByteArray.data_extract, List.extract_eq_take_drop]
  rw [he]

theorem step_bytes_of {w : World} {ops : Array Oper} {o : Oper} {a : Act} {K : Act → World → Prop} {Q : Exit → Act → World → Prop} {E : Prop} (hgd : o.guard = none) (x : Operand)
    (hop : o.op = .convert 9 35 x) (s : List UInt8) (hx : a.eval x = .string ⟨s.toArray⟩) (hs : s.length ≤ 140737488355328)
    (hK : ∀ g c w', Row w' g c s → w.heap.size ≤ g → Below w.heap.size w w' → K (a.put o.dst (.slice (some ⟨g, 0, none⟩) s.length c)) w') : if Region.wanted o (yielded ops a.tmps) = true then Oper.wp Try.prog o a w K Q else E := by
  have hw : Region.wanted o (yielded ops a.tmps) = true := by simp [Region.wanted, hgd]
  rw [if_pos hw]
  have hrun := Lib.run_convert_string_bytes (P := Try.prog) w 9 35 5 ⟨s.toArray⟩ Try.underlying9 Try.underlying35 Try.underlying5
  have hsz : (ByteArray.mk s.toArray).size = s.length := rfl
  rw [hsz] at hrun
  unfold Oper.wp
  simp [execOp, hop, hx, hrun, Result.andThen]
  refine hK _ _ _ ⟨grownCap_ge w s.length 0 5, grownCap_le_maxLen w s.length 0 5 (by simp only [maxLen]; omega), by rw [Lib.bytesWorld_size]; omega, fun j u hu => ?_⟩ (Nat.le_refl _) ⟨rfl, rfl, rfl, by rw [Lib.bytesWorld_size]; omega, fun k hk => Lib.bytesWorld_at_old w _ _ k hk⟩
  have hj := (List.getElem?_eq_some_iff.1 hu).1
  rw [vb_length] at hj
  rw [Lib.bytesWorld_cell w 5 ⟨s.toArray⟩ j hj]
  rw [vb_at s j hj] at hu
  rw [← hu]
  simp [List.getD, hj]

theorem step_put_id {w : World} {ops : Array Oper} {o : Oper} {a : Act} {K : Act → World → Prop} {Q : Exit → Act → World → Prop} {E : Prop} (hgd : o.guard = none) (x y : Operand) (ho : o.op = .store 28 x y)
    (g : Nat) (hx : a.eval x = .pointer (some ⟨g, 0, none⟩)) (l : List UInt8) (hl : l.length = 33) (hy : a.eval y = idV l) (old : List UInt8) (hold : old.length = 33) (hg : IdAt w g old)
    (h : ∀ w', IdAt w' g l → w.grownBy w' (some g) → K (a.put o.dst undef) w') : if Region.wanted o (yielded ops a.tmps) = true then Oper.wp Try.prog o a w K Q else E := by
  have hw : Region.wanted o (yielded ops a.tmps) = true := by simp [Region.wanted, hgd]
  rw [if_pos hw]
  exact wp_store_row _ x y ho g (vb l).toArray hx hy _ (vb old).toArray hg (by rw [vb_size, hl]; exact cells_id) (by rw [vb_size, vb_size, hl, hold]) (all_oneCell_toArray (vb_one l)) (h _ (setRow_heap w g _ _ _ _ hg) (setRow_grown w g _))

/-- Two answers: a name out of a block of its own, and whether it is one. -/
theorem ret_id2 {fn : Func} {p q : Tmp} (hf : fn.results = #[.cell p 28, .tmp q]) (tmps : Array Value) (w : World) (g : Nat) (l : List UInt8) (hl : l.length = 33) (b : Bool)
    (hp : tmps.getD p undef = .pointer (some ⟨g, 0, none⟩)) (hg : IdAt w g l) (hq : tmps.getD q undef = .bool b) : (results fn tmps).run Try.prog w = .ok (.tuple #[idV l, .bool b]) w := by
  have hp' : tmps[p]?.getD undef = .pointer (some ⟨g, 0, none⟩) := by simpa using hp
  have hq' : tmps[q]?.getD undef = .bool b := by simpa using hq
  have hld := run_loadVar_row (P := Try.prog) w g _ 28 _ _ _ hg Try.underlying28 rfl (by rw [vb_size, hl]; exact cells_id)
  simp [results, hf, hp', hq', asAddr, hld, idV]

theorem parse_no (l : List UInt8) (h : ∀ c r, l = c :: r → ¬ (0 < sizeI c ∧ r.length = sizeI c)) : parseI l = (zer 33, false) := by
  cases l with
  | nil => rfl
  | cons c r => exact if_neg (h c r rfl)

end Go.Proofs.Ytflgokbkkoobkaa.Cd

/-
  Noughts, and how many cells they have: what the document's Id leans on. Conditions: none.
-/
namespace Go.Proofs.Ytflgokbkkoobkaa.Cd
open Go.RowKit

theorem zero_32 (W : World) : (zeroValue 26).run Try.prog W = .ok (.agg (vb (zer 32)).toArray) W := by kernel_rfl

theorem cells_32 : (Try.prog.info? 26).map (·.size) = some 32 := by kernel_rfl

end Go.Proofs.Ytflgokbkkoobkaa.Cd

/-
  The document's Id, Name. Conditions: none.
-/
namespace Go.Proofs.Ytflgokbkkoobkaa.Cd
open Go.RowKit

/-- The cells of a name of which k bytes are laid. -/
def idr (c : UInt8) (r : List UInt8) (k : Nat) : Array Value := (vb (c :: (r.take k ++ zer (32 - k)))).toArray
theorem idr_at (c : UInt8) (r : List UInt8) (k : Nat) (hk : k < r.length) (hr : r.length ≤ 32) : (idr c r k)[1 + k]? = some (.int .u8 0) := by
  unfold idr
  rw [List.getElem?_toArray, show 1 + k = k + 1 by omega]
  show (vb (r.take k ++ zer (32 - k)))[k]? = _
  rw [vb_at _ k (by simp [zer_length]; omega)]
  congr 2
  rw [List.getElem_append_right (by simp; omega)]
  simp [zer]
theorem idr_set (c : UInt8) (r : List UInt8) (k : Nat) (hk : k < r.length) (hr : r.length ≤ 32) : (idr c r k).setIfInBounds (1 + k) (.int .u8 (r[k]).toNat) = idr c r (k + 1) := by
  unfold idr
  rw [List.setIfInBounds_toArray, show 1 + k = k + 1 by omega]
  congr 1
  show Value.int .u8 c.toNat :: (vb (r.take k ++ zer (32 - k))).set k _ = Value.int .u8 c.toNat :: vb (r.take (k + 1) ++ zer (32 - (k + 1)))
  congr 1
  have e : (vb (r.take k ++ zer (32 - k))).set k (.int .u8 (r[k]).toNat) = vb ((r.take k ++ zer (32 - k)).set k r[k]) := by simp [vb, List.map_set]
  rw [e]
  congr 1
  rw [List.take_succ_eq_append_getElem hk, List.append_assoc, show 32 - k = (32 - (k + 1)) + 1 by omega]
  have hz : zer ((32 - (k + 1)) + 1) = 0 :: zer (32 - (k + 1)) := rfl
  rw [hz, List.set_append_right _ _ (by simp; omega)]
  simp [Nat.min_eq_left (Nat.le_of_lt hk)]
theorem idr_all (c : UInt8) (r : List UInt8) (hr : r.length ≤ 32) : idr c r r.length = (vb (c :: pad32 r)).toArray := by
  unfold idr pad32
  rw [List.take_of_length_le (Nat.le_refl _), List.take_of_length_le hr]
theorem idr_none (c : UInt8) (r : List UInt8) : idr c r 0 = (vb (c :: zer 32)).toArray := rfl

end Go.Proofs.Ytflgokbkkoobkaa.Cd

/-
  The document's Name of a name. Conditions: none.
-/
namespace Go.Proofs.Ytflgokbkkoobkaa.Cd
open Go.RowKit

theorem pad_take (s : List UInt8) (n : Nat) (hs : s.length = 32) (hn : n ≤ 32) : (s = pad32 (s.take n)) ↔ ∀ j (hj : j < s.length), n ≤ j → s[j] = 0 := by
  have hl : (s.take n).length = n := by rw [List.length_take]; omega
  have hp : pad32 (s.take n) = s.take n ++ zer (32 - n) := by
    unfold pad32
    rw [hl, List.take_of_length_le (by omega)]
  rw [hp]
  constructor
  · intro h j hj hnj
    have e := congrArg (fun l => l[j]?) h
    replace e : s[j]? = (s.take n ++ zer (32 - n))[j]? := e
    rw [List.getElem?_eq_getElem hj, List.getElem?_append_right (by omega), hl] at e
    have h2 : j - n < 32 - n := by omega
    simpa [zer, h2] using e
  · intro h
    apply List.ext_getElem
    · simp [zer_length]; omega
    · intro j h1 h2
      by_cases hj : j < n
      · rw [List.getElem_append_left (by omega), List.getElem_take]
      · rw [List.getElem_append_right (by omega), h j h1 (by omega)]
        simp [zer]

theorem good_iff (k : UInt8) (s : List UInt8) (hs : s.length = 32) : goodI (k :: s) = true ↔ 0 < sizeI k ∧ ∀ j (hj : j < s.length), sizeI k ≤ j → s[j] = 0 := by
  rw [← pad_take s (sizeI k) hs (sizeI_le k)]
  unfold goodI
  simp

theorem text_add (W : World) (a b : List UInt8) (h : a.length + b.length ≤ 9223372036854775807) :
    (Op.stringOp .add ⟨a.toArray⟩ ⟨b.toArray⟩).run Try.prog W = .ok (.string ⟨(a ++ b).toArray⟩) W := by
  rw [run_string_add_sum _ _ _ (by simpa [ByteArray.size] using h)]
  rw [ByteArray.mk_append_mk]

theorem index_sum (X : Array Value) (j : Nat) (u : UInt8) (h : X[j]? = some (.int .u8 u.toNat)) (hj : j < 32) (W : World) : (Instr.index 26 (.agg X) (.int .i64 j)).run Try.prog W = .ok (.int .u8 u.toNat) W := by
  have hs : (Try.prog.info? 5).map (·.size) = some 1 := by kernel_rfl
  cases hq : Try.prog.info? 5 with
  | none => simp [hq] at hs
  | some i =>
    have hs2 : i.size = 1 := by simpa [hq] using hs
    simp [Instr.index, asIntOf, run_underlying Try.underlying26, sizeOf, typeInfo, hq, hs2, hj, part, isAgg, run_underlying Try.underlying5, h]

theorem load_sum (w : World) (b : Nat) (k : UInt8) (s : List UInt8) (hs : s.length = 32) (h : IdAt w b (k :: s)) : w.rangeAt b 1 (vb s) := fun j v hv => by
  rw [cell_of_row _ _ _ _ _ _ h, List.getElem?_toArray, show 1 + j = j + 1 by omega]
  exact hv

set_option maxRecDepth 100000 in
set_option maxHeartbeats 1600000 in
theorem name_any (k : UInt8) (s : List UInt8) (w : World) (hs : s.length = 32) : Calls Try.prog 22 #[idV (k :: s)] w (Gives (.string ⟨(textI (k :: s)).toArray⟩) w) := by
  have hgd := good_iff k s hs
  have htx := textI_cons k s
  have hz := sizeI_le k
  have hsize := fun W => rsize_any k W
  generalize sizeI k = n at hgd htx hz hsize
  have h0 := IdAt.new w (k :: s)
  have hb0 : Below w.heap.size w (w.alloc (.cells (vb (k :: s)).toArray 28)) := (Below.refl _ _).alloc (Nat.le_refl _) _
  have hcv := run_text_one ((w.alloc (.cells (vb (k :: s)).toArray 28)).alloc (.cells #[.int .u8 k.toNat] 5)) (w.heap.size + 1) 1 _ k rfl (by
    have := cell_of_row ((w.alloc (.cells (vb (k :: s)).toArray 28)).alloc (.cells #[.int .u8 k.toNat] 5)) (w.heap.size + 1) 0 _ _ _ (by
      have := heap_alloc_new (w.alloc (.cells (vb (k :: s)).toArray 28)) (.cells #[.int .u8 k.toNat] 5)
      rwa [asz] at this)
    rw [this]
    rfl)
  have hld := load_sum _ _ k s hs h0
  have d0 := h0.kind
  have hb1 := hb0.alloc (by simp) (.cells #[.int .u8 k.toNat] 5)
  have hi1 : IdAt ((w.alloc (.cells (vb (k :: s)).toArray 28)).alloc (.cells #[.int .u8 k.toNat] 5)) w.heap.size (k :: s) := h0.below ((Below.refl _ _).alloc (Nat.le_refl _) _) (by simp)
  have HGD := Lib.hid hgd
  have HTX := Lib.hid htx
  have HSZ := Lib.hid hsize
  have HB1 := Lib.hid hb1
  have HI1 := Lib.hid hi1
  have HS := Lib.hid hs
  clear hgd htx hsize hb1 hi1 h0 hb0
  go_enter Try.func22, Try.ntmps22
  go_wp2_with (refine wp_box_row rfl _ rfl rfl ?_)
  refine (HSZ.out _).mono ?_
  rintro e w1 ⟨rfl, rfl⟩
  go_wp2_with (first
    | (refine wpList_load_mid rfl 26 _ rfl w.heap.size 1 rfl (vb s) _ (load_sum _ _ k s HS.out HI1.out) Try.underlying26 rfl (by rw [vb_length, HS.out]; exact cells_32) ?_))
  generalize (w.alloc (.cells (vb (k :: s)).toArray 28)).alloc (.cells #[.int .u8 k.toNat] 5) = w1 at HB1 HI1 ⊢
  clear hcv hld d0
  go_loopw [4, 16] (fun s1 i wr => ∃ j : Nat, j ≤ 32 ∧ i = .int .i64 j ∧ s1 = .string ⟨(k :: s.take (min j n)).toArray⟩ ∧ Hid (∀ x (hx : x < s.length), n ≤ x → x < j → s[x] = 0) ∧ Hid (Below w.heap.size w wr)) (fun _ i _ => 32 - (intOf i).toNat)
  case atStart => exact ⟨0, by omega, rfl, by simp, fun x _ _ h => by omega, HB1.out⟩
  case round =>
    obtain ⟨j, hj, rfl, rfl, HJ, HW⟩ := hrel
    by_cases hlt : j < 32
    · have hjs : j < s.length := by have := HS.out; omega
      have hcell : (vb s).toArray[j]? = some (.int .u8 (s[j]).toNat) := by
        rw [List.getElem?_toArray]
        exact vb_at s j hjs
      have hsw := HW.out.size
      have hidx := index_sum _ j s[j] hcell hlt
      clear hcell
      by_cases hjn : j < n
      · have hmin : min j n = j := by omega
        have hsn : Hid (s.take (min (j + 1) n) = s.take j ++ [s[j]]) := by unfold Hid; rw [show min (j + 1) n = j + 1 by omega, List.take_succ_eq_append_getElem hjs]
        rw [hmin]
        generalize s[j] = b at hidx hsn
        have hcv := run_text_one (wr.alloc (.cells #[.int .u8 b.toNat] 5)) wr.heap.size 1 _ b rfl (by
          rw [cell_of_row _ _ _ _ _ _ (heap_alloc_new _ _)]
          rfl)
        have hadd := fun W => text_add W (k :: s.take j) [b] (by simp only [List.length_cons, List.length_take, List.length_nil]; omega)
        generalize (vb s).toArray = X at hidx ⊢
        go_wp2
        go_roundw
        case rel => exact ⟨j + 1, by omega, by go_num, by rw [hsn.out], fun x hx h1 h2 => by omega, HW.out.alloc hsw _⟩
        case measure => simp [intOf]; omega
      · have hmin : min j n = n := by omega
        have hmin2 : min (j + 1) n = n := by omega
        by_cases hb : s[j] = 0
        · have hsn : Hid (∀ x (hx : x < s.length), n ≤ x → x < j + 1 → s[x] = 0) := fun x hx h1 h2 => by
            by_cases e : x = j
            · subst e; exact hb
            · exact HJ.out x hx h1 (by omega)
          rw [hb] at hidx
          rw [hmin]
          generalize (vb s).toArray = X at hidx ⊢
          go_wp2
          go_roundw
          case rel => exact ⟨j + 1, by omega, by go_num, by rw [hmin2], hsn, HW⟩
          case measure => simp [intOf]; omega
        · have hg : goodI (k :: s) = false := by
            rw [Bool.eq_false_iff]
            intro h
            exact hb ((HGD.out.1 h).2 j hjs (by omega))
          have hq : (((s[j]).toNat : Int) != 0) = true := by
            rw [bne_iff_ne]
            intro h
            apply hb
            apply UInt8.toNat_inj.1
            show _ = 0
            omega
          have HG := Lib.hid hg
          clear hb hg
          rw [hmin]
          generalize s[j] = b at hidx hq
          generalize (vb s).toArray = X at hidx ⊢
          go_wp2
          go_ret
          exact ⟨by rw [HTX.out, HG.out]; rfl, HW.out⟩
    · obtain rfl : j = 32 := by omega
      have hmin : min 32 n = n := by omega
      rw [hmin]
      have HZ : Hid (∀ x (hx : x < s.length), n ≤ x → s[x] = 0) := fun x hx h1 => HJ.out x hx h1 (by have := HS.out; omega)
      generalize (vb s).toArray = X
      by_cases hn : n = 0
      · have hg : goodI (k :: s) = false := by
          rw [Bool.eq_false_iff]
          intro h
          have := (HGD.out.1 h).1
          omega
        have HG := Lib.hid hg
        clear hg
        subst hn
        go_wp2
        go_ret
        exact ⟨by rw [HTX.out, HG.out]; rfl, HW.out⟩
      · have hq : ((n : Int) == 0) = false := by rw [beq_eq_false_iff_ne]; omega
        have hg : goodI (k :: s) = true := HGD.out.2 ⟨by omega, HZ.out⟩
        have HG := Lib.hid hg
        clear hg
        go_wp2
        go_ret
        exact ⟨by rw [HTX.out, HG.out]; rfl, HW.out⟩

end Go.Proofs.Ytflgokbkkoobkaa.Cd
