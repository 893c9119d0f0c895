/-
  object.putKids. Conditions: not too many bytes.
-/
import Derived.Test.YtabogconbjdcgaaObPuts
namespace Go.Proofs.Ytabogconbjdcgaa.Cd
open Go.RowKit

theorem ksB_len {l : List Kd} {m : Nat} (h : (ksB l).length ≤ m) {k : Nat} : (ksB (l.take k)).length ≤ m := by
  refine Nat.le_trans ?_ h
  conv => rhs; rw [← List.take_append_drop k l]
  unfold ksB
  rw [List.map_append, List.flatten_append, List.length_append]
  omega
theorem ksB_take {l : List Kd} {k : Nat} {p : Kd} (h : l[k]? = some p) : ksB (l.take (k + 1)) = ksB (l.take k) ++ (txt p.1 ++ textI p.2.1) := by
  obtain ⟨hk, rfl⟩ := List.getElem?_eq_some_iff.1 h
  rw [List.take_succ_eq_append_getElem hk, ksB_snoc]

set_option maxRecDepth 100000 in
set_option maxHeartbeats 3200000 in
theorem putks_any (v : Value) (l : List Kd) (w : World) (h : KsIn w w.heap.size v l) (hl : (ksB l).length ≤ 1000000) : Calls Try.prog 25 #[v] w (Wrote w (2 :: UInt8.ofNat l.length :: ksB l)) := by
  obtain ⟨A, c, rfl, hm1, hm2⟩ := h.len
  have H := Lib.hid h
  clear h
  have hwl := wrap_len l.length
  have hfin : Hid (ksB (l.take l.length) = ksB l) := by unfold Hid; rw [List.take_length]
  generalize UInt8.ofNat l.length = n8 at *
  have hO : Own (w.alloc (.cells #[.int .u8 2, .int .u8 n8.toNat] 5)) w.heap.size (.slice (some ⟨w.heap.size, 0, none⟩) 2 2) [2, n8] := own_two w _ (Nat.le_refl _) 2 n8 _ _ rfl rfl
  have HO := Lib.hid hO
  clear hO
  go_enter Try.func25, Try.ntmps25
  go_wp2_with fail
  go_loopw [3, 12] (fun u i wr => ∃ k : Nat, i = .int .i64 k ∧ k ≤ l.length ∧ Hid (Own wr w.heap.size u (2 :: n8 :: ksB (l.take k))) ∧ Hid (Below w.heap.size w wr)) (fun _ i _ => l.length - (intOf i).toNat)
  case atStart => exact ⟨0, rfl, by omega, HO.out, new_below _ _⟩
  case round =>
    obtain ⟨k, rfl, hk, ho, hbl⟩ := hrel
    by_cases hlt : k < l.length
    · obtain ⟨x, hxk⟩ : ∃ x, l[k]? = some x := ⟨l[k], List.getElem?_eq_getElem hlt⟩
      obtain ⟨b2, off2, e2, hB2, rx⟩ := KsIn.range (H.out.below hbl.out) hxk
      subst e2
      have RX := Lib.hid rx
      clear rx
      have hnx := ksB_take hxk
      have hlk1 := ksB_len hl (k := k + 1)
      rw [hnx] at hlk1
      have HNX := Lib.hid hnx
      clear hnx hxk
      generalize ksB (l.take k) = R at *
      have hlk : R.length + ((enc x.1.length).length + x.1.length + (textI x.2.1).length) ≤ 1000000 := by simpa [txt_len] using hlk1
      clear hlk1
      have HK : Hid (KidAt (wr.alloc (.cells (kkC x).toArray 59)) wr.heap.size x) := KidAt.new _ _
      have hz1 : (wr.alloc (.cells (kkC x).toArray 59)).heap.size = wr.heap.size + 1 := asz _ _
      have HB1 : Hid (Below w.heap.size w (wr.alloc (.cells (kkC x).toArray 59))) := hbl.out.alloc hbl.out.size _
      have HO1 : Hid (Own (wr.alloc (.cells (kkC x).toArray 59)) w.heap.size u3 (2 :: n8 :: R)) := ho.out.alloc _
      have hzr := hbl.out.size
      go_wp2_with (first
        | (refine wpList_load_mid rfl 59 _ rfl b2 (off2 + k * 34) rfl (kkC x) _ RX.out Try.underlying59 rfl (cells_kk x) ?_)
        | (refine wp_alloc_row zero_kk rfl rfl ?_)
        | (refine wp_fill_kk rfl _ _ rfl rfl (by simp [Act.eval, Act.put]) x rfl ?_))
      generalize wr.alloc (.cells (kkC x).toArray 59) = W1 at *
      obtain ⟨W0, hW0⟩ : ∃ x, W1.drew = x := ⟨_, rfl⟩
      have hS0 : KidAt W0 wr.heap.size x := by rw [← hW0]; exact HK.out
      have HBD : Hid (Below w.heap.size w W0) := by rw [← hW0]; exact HB1.out.drew
      have HOD : Hid (Own W0 w.heap.size u3 (2 :: n8 :: R)) := by rw [← hW0]; exact HO1.out.drew
      have hs0 : W0.heap.size = wr.heap.size + 1 := by rw [← hW0]; exact hz1
      clear HK HB1 HO1 hz1
      refine region_begin hW0 (S := fun W => KidAt W wr.heap.size x) (by kernel_rfl) hS0 (fun hHeld => ?_)
      clear hW0 hS0
      refine take_at (i := 0) (u3) (some 16) (by decide) (by rfl) (by kernel_rfl) (by kernel_rfl) (by kernel_rfl) (fun _ _ _ h => h) (by rfl) (fun W hW => by go_simp) (by assumption) ?_
      try simp only [Act.put, List.setIfInBounds_toArray, List.set_cons_zero, List.set_cons_succ]
      refine take_at (i := 1) (.pointer (some ⟨wr.heap.size, 0, none⟩)) (some 17) (by decide) (by rfl) (by kernel_rfl) (by kernel_rfl) (by kernel_rfl) (fun _ _ _ h => h) (by rfl) (fun W hW => by go_simp) (by assumption) ?_
      try simp only [Act.put, List.setIfInBounds_toArray, List.set_cons_zero, List.set_cons_succ]
      refine take_at (i := 2) (.string ⟨x.1.toArray⟩) (some 18) (by decide) (by rfl) (by kernel_rfl) (by kernel_rfl) (by kernel_rfl) (fun _ _ _ h => h) (by rfl) (fun W hW => by have := hW.key; go_simp) (by assumption) ?_
      try simp only [Act.put, List.setIfInBounds_toArray, List.set_cons_zero, List.set_cons_succ]
      refine take_at (i := 4) (.pointer (some ⟨wr.heap.size, 1, none⟩)) (some 20) (by decide) (by rfl) (by kernel_rfl) (by kernel_rfl) (by kernel_rfl) (fun _ _ _ h => h) (by rfl) (fun W hW => by go_simp) (by assumption) ?_
      try simp only [Act.put, List.setIfInBounds_toArray, List.set_cons_zero, List.set_cons_succ]
      refine take_at (i := 5) (idV x.2.1) (some 21) (by decide) (by rfl) (by kernel_rfl) (by kernel_rfl) (by kernel_rfl) (fun _ _ _ h => h) (by rfl) (fun W hW => by exact exec_load_mid _ _ rfl wr.heap.size 1 rfl (vb x.2.1) _ hW.id Try.underlying41 rfl (cells_ii x.2)) (by assumption) ?_
      try simp only [Act.put, List.setIfInBounds_toArray, List.set_cons_zero, List.set_cons_succ]
      refine wpAnyH_ready (rs := [3]) (by kernel_rfl) (by simp) (AllReadyH.cons (Array.getElem?_eq_getElem (i := 3) (by decide)) (fun K9 hK => ?_) AllReadyH.nil)
      go_simp
      refine (text_l2 u3 (2 :: n8 :: R) x.1 _ (HOD.out.sl) (by simp only [List.length_cons]; omega)).mono ?_
      rintro e w3 ⟨v3, rfl, ho3, hb3⟩
      have HB3 := Lib.hid (HBD.out.trans (hb3.mono (by omega)))
      have HO3 := Lib.hid ho3
      have hs3 := hb3.size
      refine hK.out _ _ (hb3.block _ (by omega) |>.trans hHeld) (fun hHeld => ?_)
      clear hK K9
      try simp only [Act.put, List.setIfInBounds_toArray, List.set_cons_zero, List.set_cons_succ]
      clear hb3 ho3
      refine wpAnyH_ready (rs := [6]) (by kernel_rfl) (by simp) (AllReadyH.cons (Array.getElem?_eq_getElem (i := 6) (by decide)) (fun K9 hK => ?_) AllReadyH.nil)
      go_simp
      refine (text_l x.2.1 _ x.2.2).mono ?_
      rintro e w4 ⟨rfl, hb4⟩
      have HB4 := Lib.hid (HB3.out.trans (hb4.mono (by omega)))
      have HO4 := Lib.hid (HO3.out.keep hb4)
      have hs4 := hb4.size
      refine hK.out _ _ (hb4.block _ (by omega) |>.trans hHeld) (fun hHeld => ?_)
      clear hK K9
      try simp only [Act.put, List.setIfInBounds_toArray, List.set_cons_zero, List.set_cons_succ]
      clear hb4
      refine wpAnyH_ready (rs := [7]) (by kernel_rfl) (by simp) (AllReadyH.cons (Array.getElem?_eq_getElem (i := 7) (by decide)) (fun K9 hK => ?_) AllReadyH.nil)
      refine step_append_text rfl (.tmp 19) (.tmp 22) rfl W0.heap.size v3 ((2 :: n8 :: R) ++ txt x.1) rfl HO4.out (by omega) (textI x.2.1) rfl (by simp only [List.length_cons, List.length_append, txt_len]; omega) ?_
      intro v5 w5 ho5 hb5
      have HB5 := Lib.hid (HB4.out.trans (hb5.mono (by omega)))
      have HO5 := Lib.hid (ho5.lower (by omega : w.heap.size ≤ W0.heap.size))
      refine hK.out _ _ (hb5.block _ (by omega) |>.trans hHeld) (fun hHeld => ?_)
      clear hK K9
      try simp only [Act.put, List.setIfInBounds_toArray, List.set_cons_zero, List.set_cons_succ]
      refine take_at (i := 8) (v5) (some 3) (by decide) (by rfl) (by kernel_rfl) (by kernel_rfl) (by kernel_rfl) (fun _ _ _ h => h) (by rfl) (fun W hW => by go_simp) (by assumption) ?_
      try simp only [Act.put, List.setIfInBounds_toArray, List.set_cons_zero, List.set_cons_succ]
      refine wpAnyH_done (by kernel_rfl) ?_ _
      try simp only [Act.put, List.setIfInBounds_toArray, List.set_cons_zero, List.set_cons_succ]
      go_wp2_with fail
      go_roundw
      case rel => exact ⟨k + 1, by go_num, by omega, by rw [HNX.out]; show Own w5 w.heap.size v5 _; have := HO5.out; simpa using this, HB5.out⟩
      case measure => simp [intOf]; omega
    · have hkk : k = l.length := by omega
      subst hkk
      go_wp2_with fail
      go_ret
      have h1 := ho.out
      rw [hfin.out] at h1
      exact ⟨_, rfl, h1, hbl.out⟩

end Go.Proofs.Ytabogconbjdcgaa.Cd
