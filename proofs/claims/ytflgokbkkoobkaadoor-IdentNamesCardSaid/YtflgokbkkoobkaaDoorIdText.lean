/-
  ident.Text. Conditions: none.
-/
import Derived.Test.YtflgokbkkoobkaaDoorIdGood
namespace Go.Proofs.YtflgokbkkoobkaaDoor.Cd
open Go.RowKit

/-- A name as bytes; those of one that can't be are none. -/
def textI : List UInt8 → List UInt8
  | [] => []
  | k :: s => if goodI (k :: s) = true then k :: s.take (sizeI k) else []

theorem textI_cons (k : UInt8) (s : List UInt8) : textI (k :: s) = if goodI (k :: s) = true then k :: s.take (sizeI k) else [] := rfl

theorem own_byte (w : World) (B : Nat) (hB : B ≤ w.heap.size) (k : UInt8) : Own (w.alloc (.cells #[.int .u8 k.toNat] 5)) B (.slice (some ⟨w.heap.size, 0, none⟩) 1 1) [k] :=
  ⟨by simp [vb_length], .inr ⟨w.heap.size, 1, _, rfl, hB, heap_alloc_new w _, Nat.le_refl _, by simp [maxLen], rfl, rfl⟩⟩

set_option maxRecDepth 100000 in
set_option maxHeartbeats 1600000 in
theorem itext_any (k : UInt8) (s : List UInt8) (w : World) (hs : s.length = 32) : Calls Tryd.prog 18 #[idV (k :: s)] w (Gives (.string ⟨(textI (k :: s)).toArray⟩) w) := by
  have hx : (k :: s).length = 33 := by simp [hs]
  have h0 := IdAt.new w (k :: s)
  have hb0 : Below w.heap.size w (w.alloc (.cells (vb (k :: s)).toArray 26)) := (Below.refl _ _).alloc (Nat.le_refl _) _
  have hs0 : (w.alloc (.cells (vb (k :: s)).toArray 26)).heap.size = w.heap.size + 1 := asz _ _
  have HS := Lib.hid hs
  have HX := Lib.hid hx
  clear hs hx
  go_enter Tryd.func18, Tryd.ntmps18
  go_wp2_with (first
    | (refine wp_box_row rfl _ rfl rfl ?_)
    | (refine wp_load_id rfl _ rfl w.heap.size rfl (k :: s) HX.out (IdAt.new w (k :: s)) ?_))
  generalize w.alloc (.cells (vb (k :: s)).toArray 26) = w1 at h0 hb0 hs0 ⊢
  have HI := Lib.hid h0
  have HB := Lib.hid hb0
  clear h0 hb0
  refine (igood_any k s w1 HS.out).mono ?_
  rintro e w2 ⟨rfl, hb2⟩
  have hs2 := hb2.size
  have HI2 := Lib.hid (HI.out.below hb2 (by omega))
  have HB2 := Lib.hid (HB.out.trans (hb2.mono (by omega)))
  clear hb2 HB HI
  cases hg : goodI (k :: s) with
  | false =>
    have HG := Lib.hid hg
    clear hg
    go_wp2_with fail
    go_ret
    exact ⟨by rw [textI_cons, HG.out]; rfl, HB2.out⟩
  | true =>
    have ht : textI (k :: s) = k :: s.take (sizeI k) := by rw [textI_cons, hg]; rfl
    have hz := sizeI_le k
    have hsize := fun W => size_any k W
    generalize sizeI k = n at ht hz hsize
    have HT := Lib.hid ht
    have HSZ := Lib.hid hsize
    have HZ := hz
    clear ht hsize hg
    go_wp2_with fail
    obtain ⟨W0, hW0⟩ : ∃ x, w2.drew = x := ⟨_, rfl⟩
    have hS0 : IdAt W0 w.heap.size (k :: s) := by rw [← hW0]; exact HI2.out.drew
    have HBD : Hid (Below w.heap.size w W0) := by rw [← hW0]; exact HB2.out.drew
    have hsz0 : w.heap.size + 1 ≤ W0.heap.size := by rw [← hW0]; simp; omega
    clear HI2 HB2 hs2 hs0
    refine region_begin hW0 (S := fun W => IdAt W w.heap.size (k :: s)) (by kernel_rfl) hS0 (fun hHeld => ?_)
    clear hW0 hS0
    refine take_at (i := 0) (.pointer (some ⟨w.heap.size, 0, none⟩)) (some 7) (by decide) (by rfl) (by kernel_rfl) (by kernel_rfl) (by kernel_rfl) (fun _ _ _ h => h) (by rfl) (fun W hW => by go_simp) (by assumption) ?_
    try simp only [Act.put, List.setIfInBounds_toArray, List.set_cons_zero, List.set_cons_succ]
    refine take_at (i := 1) (.int .u8 k.toNat) (some 8) (by decide) (by rfl) (by kernel_rfl) (by kernel_rfl) (by kernel_rfl) (fun _ _ _ h => h) (by rfl) (fun W hW => by have := hW.kind; go_simp) (by assumption) ?_
    try simp only [Act.put, List.setIfInBounds_toArray, List.set_cons_zero, List.set_cons_succ]
    refine take_at (i := 3) (.pointer (some ⟨w.heap.size, 1, none⟩)) (some 10) (by decide) (by rfl) (by kernel_rfl) (by kernel_rfl) (by kernel_rfl) (fun _ _ _ h => h) (by rfl) (fun W hW => by go_simp) (by assumption) ?_
    try simp only [Act.put, List.setIfInBounds_toArray, List.set_cons_zero, List.set_cons_succ]
    refine take_at (i := 4) (.pointer (some ⟨w.heap.size, 0, none⟩)) (some 11) (by decide) (by rfl) (by kernel_rfl) (by kernel_rfl) (by kernel_rfl) (fun _ _ _ h => h) (by rfl) (fun W hW => by go_simp) (by assumption) ?_
    try simp only [Act.put, List.setIfInBounds_toArray, List.set_cons_zero, List.set_cons_succ]
    refine take_at (i := 5) (.int .u8 k.toNat) (some 12) (by decide) (by rfl) (by kernel_rfl) (by kernel_rfl) (by kernel_rfl) (fun _ _ _ h => h) (by rfl) (fun W hW => by have := hW.kind; go_simp) (by assumption) ?_
    try simp only [Act.put, List.setIfInBounds_toArray, List.set_cons_zero, List.set_cons_succ]
    refine wpAnyH_ready (rs := [2, 6]) (by kernel_rfl) (by simp) ?_
    refine come (i := 2) (.slice (some ⟨W0.heap.size, 0, none⟩) 1 1) (W0.alloc (.cells #[.int .u8 k.toNat] 5)) (some 9) (by decide) (by rfl) (by rfl) (by go_simp) (hHeld.below ((Below.refl _ _).alloc (Nat.le_refl _) _) (by omega)) ?_ (AllReadyH.cons (Array.getElem?_eq_getElem (i := 6) (by decide)) (fun K9 hK => ?_) AllReadyH.nil)
    case refine_1 =>
      replace hHeld : IdAt (W0.alloc (.cells #[.int .u8 k.toNat] 5)) w.heap.size (k :: s) := hHeld.below ((Below.refl _ _).alloc (Nat.le_refl _) _) (by omega)
      try simp only [Act.put, List.setIfInBounds_toArray, List.set_cons_zero, List.set_cons_succ]
      refine wpAnyH_ready (rs := [6]) (by kernel_rfl) (by simp) (AllReadyH.cons (Array.getElem?_eq_getElem (i := 6) (by decide)) (fun K9 hK => ?_) AllReadyH.nil)
      go_simp
      refine (HSZ.out _).mono ?_
      rintro e w3 ⟨rfl, rfl⟩
      refine hK.out _ _ (hHeld) (fun hHeld => ?_)
      clear hK K9
      try simp only [Act.put, List.setIfInBounds_toArray, List.set_cons_zero, List.set_cons_succ]
      refine take_at (i := 7) (.slice (some ⟨w.heap.size, 1, none⟩) n 32) (some 14) (by decide) (by rfl) (by kernel_rfl) (by kernel_rfl) (by kernel_rfl) (fun _ _ _ h => h) (by rfl) (fun W hW => by have := slice_sum w.heap.size n HZ W; go_simp) (by assumption) ?_
      try simp only [Act.put, List.setIfInBounds_toArray, List.set_cons_zero, List.set_cons_succ]
      have ho := own_byte W0 W0.heap.size (Nat.le_refl _) k
      have hbo : Below w.heap.size w (W0.alloc (.cells #[.int .u8 k.toNat] 5)) := HBD.out.alloc (by omega) _
      have hso : (W0.alloc (.cells #[.int .u8 k.toNat] 5)).heap.size = W0.heap.size + 1 := asz _ _
      generalize W0.alloc (.cells #[.int .u8 k.toNat] 5) = W1 at ho hbo hso hHeld ⊢
      refine wpAnyH_ready (rs := [8]) (by kernel_rfl) (by simp) (AllReadyH.cons (Array.getElem?_eq_getElem (i := 8) (by decide)) (fun K9 hK => ?_) AllReadyH.nil)
      refine step_append_sl rfl _ _ rfl W0.heap.size _ [k] rfl ho (by omega) _ W1.heap.size (s.take n) rfl (hHeld.sl HS.out n HZ (by omega)) (by simp; omega) ?_
      intro v4 w4 ho4 hb4
      have HH := hHeld.below hb4 (by omega)
      have HB4 := Lib.hid (hbo.trans (hb4.mono (by omega)))
      have hcv := run_text_of _ _ _ _ ho4.sl
      clear ho hbo hso hb4
      refine hK.out _ _ (HH) (fun hHeld => ?_)
      clear hK K9
      try simp only [Act.put, List.setIfInBounds_toArray, List.set_cons_zero, List.set_cons_succ]
      refine take_at (i := 9) (v4) (some 3) (by decide) (by rfl) (by kernel_rfl) (by kernel_rfl) (by kernel_rfl) (fun _ _ _ h => h) (by rfl) (fun W hW => by go_simp) (by assumption) ?_
      try simp only [Act.put, List.setIfInBounds_toArray, List.set_cons_zero, List.set_cons_succ]
      refine wpAnyH_done (by kernel_rfl) ?_ _
      try simp only [Act.put, List.setIfInBounds_toArray, List.set_cons_zero, List.set_cons_succ]
      go_wp2_with fail
      go_ret
      exact ⟨by rw [HT.out]; rfl, HB4.out⟩
    case refine_2 =>
      go_simp
      refine (HSZ.out _).mono ?_
      rintro e w3 ⟨rfl, rfl⟩
      refine hK.out _ _ hHeld (fun hHeld => ?_)
      clear hK K9
      try simp only [Act.put, List.setIfInBounds_toArray, List.set_cons_zero, List.set_cons_succ]
      refine take_at (i := 7) (.slice (some ⟨w.heap.size, 1, none⟩) n 32) (some 14) (by decide) (by rfl) (by kernel_rfl) (by kernel_rfl) (by kernel_rfl) (fun _ _ _ h => h) (by rfl) (fun W hW => by have := slice_sum w.heap.size n HZ W; go_simp) (by assumption) ?_
      try simp only [Act.put, List.setIfInBounds_toArray, List.set_cons_zero, List.set_cons_succ]
      refine wpAnyH_ready (rs := [2]) (by kernel_rfl) (by simp) (come (i := 2) (.slice (some ⟨W0.heap.size, 0, none⟩) 1 1) (W0.alloc (.cells #[.int .u8 k.toNat] 5)) (some 9) (by decide) (by rfl) (by rfl) (by go_simp) (hHeld.below ((Below.refl _ _).alloc (Nat.le_refl _) _) (by omega)) ?_ AllReadyH.nil)
      try simp only [Act.put, List.setIfInBounds_toArray, List.set_cons_zero, List.set_cons_succ]
      replace hHeld : IdAt (W0.alloc (.cells #[.int .u8 k.toNat] 5)) w.heap.size (k :: s) := hHeld.below ((Below.refl _ _).alloc (Nat.le_refl _) _) (by omega)
      have ho := own_byte W0 W0.heap.size (Nat.le_refl _) k
      have hbo : Below w.heap.size w (W0.alloc (.cells #[.int .u8 k.toNat] 5)) := HBD.out.alloc (by omega) _
      have hso : (W0.alloc (.cells #[.int .u8 k.toNat] 5)).heap.size = W0.heap.size + 1 := asz _ _
      generalize W0.alloc (.cells #[.int .u8 k.toNat] 5) = W1 at ho hbo hso hHeld ⊢
      refine wpAnyH_ready (rs := [8]) (by kernel_rfl) (by simp) (AllReadyH.cons (Array.getElem?_eq_getElem (i := 8) (by decide)) (fun K9 hK => ?_) AllReadyH.nil)
      refine step_append_sl rfl _ _ rfl W0.heap.size _ [k] rfl ho (by omega) _ W1.heap.size (s.take n) rfl (hHeld.sl HS.out n HZ (by omega)) (by simp; omega) ?_
      intro v4 w4 ho4 hb4
      have HH := hHeld.below hb4 (by omega)
      have HB4 := Lib.hid (hbo.trans (hb4.mono (by omega)))
      have hcv := run_text_of _ _ _ _ ho4.sl
      clear ho hbo hso hb4
      refine hK.out _ _ (HH) (fun hHeld => ?_)
      clear hK K9
      try simp only [Act.put, List.setIfInBounds_toArray, List.set_cons_zero, List.set_cons_succ]
      refine take_at (i := 9) (v4) (some 3) (by decide) (by rfl) (by kernel_rfl) (by kernel_rfl) (by kernel_rfl) (fun _ _ _ h => h) (by rfl) (fun W hW => by go_simp) (by assumption) ?_
      try simp only [Act.put, List.setIfInBounds_toArray, List.set_cons_zero, List.set_cons_succ]
      refine wpAnyH_done (by kernel_rfl) ?_ _
      try simp only [Act.put, List.setIfInBounds_toArray, List.set_cons_zero, List.set_cons_succ]
      go_wp2_with fail
      go_ret
      exact ⟨by rw [HT.out]; rfl, HB4.out⟩

end Go.Proofs.YtflgokbkkoobkaaDoor.Cd
