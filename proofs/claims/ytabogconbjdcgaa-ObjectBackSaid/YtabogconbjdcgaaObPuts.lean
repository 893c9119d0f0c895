/-
  object.putPairs. Conditions: not too many bytes.
-/
import Derived.Test.YtabogconbjdcgaaObKids
import Derived.Test.YtabogconbjdcgaaWriters
namespace Go.Proofs.Ytabogconbjdcgaa.Cd
open Go.RowKit

/-- Two bytes that were laid out a moment ago, a row of the call's own. -/
theorem own_two (w : World) (B : Nat) (hB : B ≤ w.heap.size) (a b : UInt8) (x y : Int) (hx : x = a.toNat) (hy : y = b.toNat) : Own (w.alloc (.cells #[.int .u8 x, .int .u8 y] 5)) B (.slice (some ⟨w.heap.size, 0, none⟩) 2 2) [a, b] := by
  subst hx hy
  exact ⟨by simp [vb_length], .inr ⟨w.heap.size, 2, _, rfl, hB, heap_alloc_new w _, Nat.le_refl _, by simp [maxLen], rfl, rfl⟩⟩
theorem own_sl {w : World} {B : Nat} {v : Value} {bs : List UInt8} (h : Own w B v bs) : Sl w w.heap.size v bs := h.sl
theorem wrap_len (n : Nat) : IntKind.u8.wrap (n : Int) = ((UInt8.ofNat n).toNat : Int) := by
  rw [UInt8.toNat_ofNat', IntKind.wrap_u8']
  omega
theorem psB_len {l : List Bp} {m : Nat} (h : (psB l).length ≤ m) {k : Nat} : (psB (l.take k)).length ≤ m := by
  refine Nat.le_trans ?_ h
  conv => rhs; rw [← List.take_append_drop k l]
  unfold psB
  rw [List.map_append, List.flatten_append, List.length_append]
  omega
theorem psB_take {l : List Bp} {k : Nat} {p : Bp} (h : l[k]? = some p) : psB (l.take (k + 1)) = psB (l.take k) ++ (txt p.1 ++ txt p.2) := by
  obtain ⟨hk, rfl⟩ := List.getElem?_eq_some_iff.1 h
  rw [List.take_succ_eq_append_getElem hk, psB_snoc]

/-- Block g is a pair. -/
def PairAt (w : World) (g : Nat) (p : Bp) : Prop := w.heap[g]? = some (.cells (ppC p).toArray 56)
theorem PairAt.key {w : World} {g : Nat} {p : Bp} (h : PairAt w g p) : w.cell? ⟨g, 0, none⟩ = some (.string ⟨p.1.toArray⟩) := cell_of_row _ _ _ _ _ _ h
theorem PairAt.val {w : World} {g : Nat} {p : Bp} (h : PairAt w g p) : w.cell? ⟨g, 1, none⟩ = some (.string ⟨p.2.toArray⟩) := cell_of_row _ _ _ _ _ _ h

theorem text_l2 (v : Value) (bs s : List UInt8) (w : World) (hs : Sl w w.heap.size v bs) (hb : bs.length + s.length ≤ 100000000) :
    Calls Try.prog 44 #[v, .string ⟨s.toArray⟩] w (Wrote w (bs ++ txt s)) := by
  have := text_any v bs ⟨s.toArray⟩ w hs (by have : (ByteArray.mk s.toArray).size = s.length := rfl; omega)
  exact this

set_option maxRecDepth 100000 in
set_option maxHeartbeats 3200000 in
theorem putps_any (v : Value) (l : List Bp) (w : World) (h : PsIn w w.heap.size v l) (hl : (psB l).length ≤ 1000000) : Calls Try.prog 26 #[v] w (Wrote w (1 :: UInt8.ofNat l.length :: psB l)) := by
  obtain ⟨A, c, rfl, hm1, hm2⟩ := h.len
  have H := Lib.hid h
  clear h
  have hwl := wrap_len l.length
  have hfin : Hid (psB (l.take l.length) = psB l) := by unfold Hid; rw [List.take_length]
  generalize UInt8.ofNat l.length = n8 at *
  have hO : Own (w.alloc (.cells #[.int .u8 1, .int .u8 n8.toNat] 5)) w.heap.size (.slice (some ⟨w.heap.size, 0, none⟩) 2 2) [1, n8] := own_two w _ (Nat.le_refl _) 1 n8 _ _ rfl rfl
  have HO := Lib.hid hO
  clear hO
  go_enter Try.func26, Try.ntmps26
  go_wp2_with fail
  go_loopw [3, 12] (fun u i wr => ∃ k : Nat, i = .int .i64 k ∧ k ≤ l.length ∧ Hid (Own wr w.heap.size u (1 :: n8 :: psB (l.take k))) ∧ Hid (Below w.heap.size w wr)) (fun _ i _ => l.length - (intOf i).toNat)
  case atStart => exact ⟨0, rfl, by omega, HO.out, new_below _ _⟩
  case round =>
    obtain ⟨k, rfl, hk, ho, hbl⟩ := hrel
    by_cases hlt : k < l.length
    · obtain ⟨x, hxk⟩ : ∃ x, l[k]? = some x := ⟨l[k], List.getElem?_eq_getElem hlt⟩
      obtain ⟨b2, off2, e2, hB2, d0, d1⟩ := PsIn.at2 (H.out.below hbl.out) hxk
      subst e2
      have hnx := psB_take hxk
      have hlk1 := psB_len hl (k := k + 1)
      rw [hnx] at hlk1
      have HNX := Lib.hid hnx
      clear hnx hxk
      generalize psB (l.take k) = R at *
      have hlk : R.length + ((enc x.1.length).length + x.1.length + ((enc x.2.length).length + x.2.length)) ≤ 1000000 := by simpa [txt_len] using hlk1
      clear hlk1
      have HP : Hid (PairAt (wr.alloc (.cells #[.string ⟨x.1.toArray⟩, .string ⟨x.2.toArray⟩] 56)) wr.heap.size x) := heap_alloc_new _ _
      have hz1 : (wr.alloc (.cells #[.string ⟨x.1.toArray⟩, .string ⟨x.2.toArray⟩] 56)).heap.size = wr.heap.size + 1 := asz _ _
      have HB1 : Hid (Below w.heap.size w (wr.alloc (.cells #[.string ⟨x.1.toArray⟩, .string ⟨x.2.toArray⟩] 56))) := hbl.out.alloc hbl.out.size _
      have HO1 : Hid (Own (wr.alloc (.cells #[.string ⟨x.1.toArray⟩, .string ⟨x.2.toArray⟩] 56)) w.heap.size u3 (1 :: n8 :: R)) := ho.out.alloc _
      have hzr := hbl.out.size
      go_wp2_with fail
      generalize wr.alloc (.cells #[.string ⟨x.1.toArray⟩, .string ⟨x.2.toArray⟩] 56) = W1 at *
      obtain ⟨W0, hW0⟩ : ∃ x, W1.drew = x := ⟨_, rfl⟩
      have hS0 : PairAt W0 wr.heap.size x := by rw [← hW0]; exact HP.out
      have HBD : Hid (Below w.heap.size w W0) := by rw [← hW0]; exact HB1.out.drew
      have HOD : Hid (Own W0 w.heap.size u3 (1 :: n8 :: R)) := by rw [← hW0]; exact HO1.out.drew
      have hs0 : W0.heap.size = wr.heap.size + 1 := by rw [← hW0]; exact hz1
      clear HP HB1 HO1 hz1
      refine region_begin hW0 (S := fun W => PairAt W wr.heap.size x) (by kernel_rfl) hS0 (fun hHeld => ?_)
      clear hW0 hS0
      refine take_at (i := 0) (u3) (some 16) (by decide) (by rfl) (by kernel_rfl) (by kernel_rfl) (by kernel_rfl) (fun _ _ _ h => h) (by rfl) (fun W hW => by go_simp) (by assumption) ?_
      try simp only [Act.put, List.setIfInBounds_toArray, List.set_cons_zero, List.set_cons_succ]
      refine take_at (i := 1) (.pointer (some ⟨wr.heap.size, 0, none⟩)) (some 17) (by decide) (by rfl) (by kernel_rfl) (by kernel_rfl) (by kernel_rfl) (fun _ _ _ h => h) (by rfl) (fun W hW => by go_simp) (by assumption) ?_
      try simp only [Act.put, List.setIfInBounds_toArray, List.set_cons_zero, List.set_cons_succ]
      refine take_at (i := 2) (.string ⟨x.1.toArray⟩) (some 18) (by decide) (by rfl) (by kernel_rfl) (by kernel_rfl) (by kernel_rfl) (fun _ _ _ h => h) (by rfl) (fun W hW => by have := hW.key; go_simp) (by assumption) ?_
      try simp only [Act.put, List.setIfInBounds_toArray, List.set_cons_zero, List.set_cons_succ]
      refine take_at (i := 4) (.pointer (some ⟨wr.heap.size, 1, none⟩)) (some 20) (by decide) (by rfl) (by kernel_rfl) (by kernel_rfl) (by kernel_rfl) (fun _ _ _ h => h) (by rfl) (fun W hW => by go_simp) (by assumption) ?_
      try simp only [Act.put, List.setIfInBounds_toArray, List.set_cons_zero, List.set_cons_succ]
      refine take_at (i := 5) (.string ⟨x.2.toArray⟩) (some 21) (by decide) (by rfl) (by kernel_rfl) (by kernel_rfl) (by kernel_rfl) (fun _ _ _ h => h) (by rfl) (fun W hW => by have := hW.val; go_simp) (by assumption) ?_
      try simp only [Act.put, List.setIfInBounds_toArray, List.set_cons_zero, List.set_cons_succ]
      refine wpAnyH_ready (rs := [3]) (by kernel_rfl) (by simp) (AllReadyH.cons (Array.getElem?_eq_getElem (i := 3) (by decide)) (fun K9 hK => ?_) AllReadyH.nil)
      go_simp
      refine (text_l2 u3 (1 :: n8 :: R) x.1 _ (HOD.out.sl) (by simp only [List.length_cons]; omega)).mono ?_
      rintro e w3 ⟨v3, rfl, ho3, hb3⟩
      have HB3 := Lib.hid (HBD.out.trans (hb3.mono (by omega)))
      have HO3 := Lib.hid (ho3.lower (by omega : w.heap.size ≤ W0.heap.size))
      have hs3 := hb3.size
      refine hK.out _ _ (hb3.block _ (by omega) |>.trans hHeld) (fun hHeld => ?_)
      clear hK K9
      try simp only [Act.put, List.setIfInBounds_toArray, List.set_cons_zero, List.set_cons_succ]
      clear hb3 ho3
      refine wpAnyH_ready (rs := [6]) (by kernel_rfl) (by simp) (AllReadyH.cons (Array.getElem?_eq_getElem (i := 6) (by decide)) (fun K9 hK => ?_) AllReadyH.nil)
      go_simp
      refine (text_l2 v3 ((1 :: n8 :: R) ++ txt x.1) x.2 _ (HO3.out.sl) (by simp only [List.length_cons, List.length_append, txt_len]; omega)).mono ?_
      rintro e w5 ⟨v5, rfl, ho5, hb5⟩
      have HB5 := Lib.hid (HB3.out.trans (hb5.mono (by omega)))
      have HO5 := Lib.hid (ho5.lower (by omega : w.heap.size ≤ w3.heap.size))
      refine hK.out _ _ (hb5.block _ (by omega) |>.trans hHeld) (fun hHeld => ?_)
      clear hK K9
      try simp only [Act.put, List.setIfInBounds_toArray, List.set_cons_zero, List.set_cons_succ]
      clear hb5 ho5
      refine take_at (i := 7) (v5) (some 3) (by decide) (by rfl) (by kernel_rfl) (by kernel_rfl) (by kernel_rfl) (fun _ _ _ h => h) (by rfl) (fun W hW => by go_simp) (by assumption) ?_
      try simp only [Act.put, List.setIfInBounds_toArray, List.set_cons_zero, List.set_cons_succ]
      refine wpAnyH_done (by kernel_rfl) ?_ _
      try simp only [Act.put, List.setIfInBounds_toArray, List.set_cons_zero, List.set_cons_succ]
      go_wp2_with fail
      go_roundw
      case rel => exact ⟨k + 1, by go_num, by omega, by rw [HNX.out]; show Own w5 w.heap.size v5 _; have := HO5.out; simpa using this, HB5.out⟩
      case measure => simp [intOf]; omega
    · have hkk : k = l.length := by omega
      subst hkk
      go_wp2_with fail
      go_ret
      have h1 := ho.out
      rw [hfin.out] at h1
      exact ⟨_, rfl, h1, hbl.out⟩

end Go.Proofs.Ytabogconbjdcgaa.Cd
