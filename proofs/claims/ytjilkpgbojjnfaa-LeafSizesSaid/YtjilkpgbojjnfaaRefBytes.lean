/-
  The document's Bytes of a node that can be. Conditions: none.
-/
import Derived.Test.YtjilkpgbojjnfaaLeafGood
import Derived.Test.YtjilkpgbojjnfaaLeafDec
import Derived.Test.YtjilkpgbojjnfaaRefWriters
import Derived.Deep.DeepMust
namespace Go.Proofs.Ytjilkpgbojjnfaa.Cd
open Go.RowKit

theorem said_txt (p : List UInt8) (w : World) (h : p.length ≤ 1000000) : Calls Try.prog 27 #[.string ⟨p.toArray⟩] w (Said w (txt p)) :=
  ref_text_any ⟨p.toArray⟩ w (by have : (ByteArray.mk p.toArray).size = p.length := rfl; omega)

set_option maxRecDepth 100000 in
set_option maxHeartbeats 1600000 in
theorem refbytes_any (v : Value) (n : Nd) (w : World) (h : Node w w.heap.size v n) (hs : Small n 8192) (hg : Good n) :
    Calls Try.prog 14 #[v] w (Said w (encN n)) := by
  have HS := Lib.hid hs
  have HG := Lib.hid hg
  obtain ⟨b, ks, vs, is⟩ := n
  obtain ⟨vk, vv, vi, rfl, h1, h2, h3⟩ := h
  obtain ⟨A, c, rfl, _, _⟩ := h1.len
  obtain ⟨A2, c2, rfl, _, _⟩ := h2.len
  obtain ⟨A3, c3, rfl, _, m3⟩ := h3.len
  have KAT := Lib.hid (fun h0 => h1.at h0)
  have VAT := Lib.hid (fun h0 => h2.at h0)
  have HAT := Lib.hid (fun k => @Flat.at _ _ _ _ _ A3 is.length c3 h3 k)
  have hks : ks.length ≤ 8192 := hs.keys
  have his : is.length ≤ 8192 := hs.kids
  have hhd := head_lt hs (by omega)
  obtain ⟨hd, hHD⟩ : ∃ hd, head ⟨b, ks, vs, is⟩ = hd := ⟨_, rfl⟩
  have HHD := Lib.hid hHD
  have HDV : Hid (hd = 2 * ks.length + (if b then 1 else 0)) := hHD.symm
  rw [hHD] at hhd
  clear hHD h1 h2 h3 hs hg
  have hel := enc_le10 (x := hd) (by omega)
  have HX0 : Hid (Bx (w.alloc (.cells #[.bool b, .slice A ks.length c, .slice A2 vs.length c2, .slice A3 is.length c3] 25)) w.heap.size b (.slice A ks.length c) (.slice A2 vs.length c2) (.slice A3 is.length c3)) := heap_alloc_new w _
  have HB0 := Lib.hid (new_below w (.cells #[.bool b, .slice A ks.length c, .slice A2 vs.length c2, .slice A3 is.length c3] 25))
  have KU := Lib.hid (fun (x : Int) W (e : x = (hd : Int)) => (e ▸ ref_uint_any hd W (by omega) : Calls Try.prog 26 #[.int .u64 x] W (Said W (enc hd))))
  cases b
  · have HD2 : Hid (hd = 2 * ks.length + 0) := HDV.out
    go_enter Try.func14, Try.ntmps14
    go_wp2_with (go_at_call 26; go_must (refine (KU.out _ _ (by have := HD2.out; omega)).mono ?_; rintro e w1 ⟨rfl, hb1⟩; have X1 := Lib.hid (HX0.out.on hb1); have B1 := Lib.hid (HB0.out.trans (hb1.mono HB0.out.size)); have x1 := X1.out.cell1; clear hb1))
    go_loopw [4, 23] (fun s i wr => ∃ (k : Nat) (cb : List UInt8), i = .int .i64 k ∧ k ≤ ks.length ∧ s = .string ⟨cb.toArray⟩ ∧ Hid (cb = enc hd ++ pre ⟨false, ks, vs, is⟩ k) ∧ Hid (Bx wr w.heap.size false (.slice A ks.length c) (.slice A2 vs.length c2) (.slice A3 is.length c3)) ∧ Hid (Below w.heap.size w wr)) (fun _ i _ => ks.length - (intOf i).toNat)
    case atStart => exact ⟨0, enc hd, rfl, by omega, rfl, by simp [pre, Hid], X1.out, B1.out⟩
    case round =>
      clear X1 B1 x1
      obtain ⟨k, cb, rfl, hk, rfl, hcb, hX, hB⟩ := hrel
      have x0 := hX.out.cell0
      have x2 := hX.out.cell2
      have x3 := hX.out.cell3
      have hbl : cb.length ≤ 134400000 := by
        rw [hcb.out, List.length_append]
        have := pre_le HS.out (by omega) k hk (fun h => (HG.out.leaf h).1)
        omega
      by_cases hlt : k < ks.length
      · obtain ⟨b0, off, c1, he1, _, _, hB0, hc⟩ := KAT.out (by omega)
        injection he1 with q1 _ q3
        subst q1 q3
        have hx := (hB.out.cell (p := ⟨b0, off + k, none⟩) hB0).trans (hc k hlt)
        clear hc
        have hp := HG.out.keys _ (List.getElem_mem hlt)
        have hent : Hid (pre ⟨false, ks, vs, is⟩ (k + 1) = pre ⟨false, ks, vs, is⟩ k ++ ent ⟨false, ks, vs, is⟩ k) := rfl
        have hkd : Hid (ks.getD k [] = ks[k]) := getD_at _ _ hlt
        generalize ks[k] = p at *
        have htl : (txt p).length ≤ 58 := by
          rw [txt_len]
          have := enc_le10 (x := p.length) (by omega)
          omega
        have hadd := fun W => add_text W cb (txt p) (by omega)
        have hnx : Hid (pre ⟨false, ks, vs, is⟩ (k + 1) = pre ⟨false, ks, vs, is⟩ k ++ txt p) := by
          have h1 := hent.out
          unfold ent at h1
          rw [hkd.out] at h1
          unfold Hid
          simpa using h1
        go_wp2_with (go_at_call 27; go_must (refine (said_txt p _ (by omega)).mono ?_; rintro e w2 ⟨rfl, hb2⟩; have X2 := Lib.hid (hX.out.on hb2); have B2 := Lib.hid (hB.out.trans (hb2.mono hB.out.size)); have y0 := X2.out.cell0; clear hb2))
        go_roundw
        case rel => exact ⟨k + 1, _, by go_num, by omega, rfl, by unfold Hid; rw [hcb.out, hnx.out, List.append_assoc], X2.out, B2.out⟩
        case measure => simp [intOf]; omega
      · have hkk : k = ks.length := by omega
        have HC1 : Hid (cb = enc hd ++ pre ⟨false, ks, vs, is⟩ ks.length) := by have := hcb.out; rw [hkk] at this; exact this
        clear hkk hcb hbl
        have hbl : cb.length ≤ 134400000 := by
          rw [HC1.out, List.length_append]
          have := pre_le HS.out (by omega) ks.length (Nat.le_refl _) (fun h => (HG.out.leaf h).1)
          omega
        go_wp2_with fail
        go_loopw [4, 46] (fun s i wx => ∃ (j : Nat) (cx : List UInt8), i = .int .i64 j ∧ j ≤ is.length ∧ s = .string ⟨cx.toArray⟩ ∧ Hid (cx = cb ++ kidB is j) ∧ Hid (Below w.heap.size w wx)) (fun _ i _ => is.length - (intOf i).toNat)
        case atStart => exact ⟨0, cb, rfl, by omega, rfl, by simp [kidB, Hid], hB.out⟩
        case round =>
          clear x0 x2 x3 hX hB
          obtain ⟨j, cx, rfl, hj, rfl, hcx, hB⟩ := hrel
          have hxl : cx.length ≤ 134500000 := by
            rw [hcx.out, List.length_append, kidB_len]
            have := ksz_le is (fun p hp => by have := HG.out.kids p hp; omega) j hj
            omega
          by_cases hlt : j < is.length
          · obtain ⟨b0, off, rfl, hB0, hz⟩ := HAT.out j hlt
            have hz := (hB.out.cell (p := ⟨b0, off + j, none⟩) hB0).trans hz
            have hpk := HG.out.kids _ (List.getElem_mem hlt)
            have hnx : Hid (kidB is (j + 1) = kidB is j ++ enc is[j].toNat) := by
              unfold Hid
              rw [kidB, getD_at _ _ hlt]
            unfold vint at hz
            generalize is[j] = p at *
            obtain ⟨q, rfl⟩ := Int.eq_ofNat_of_zero_le (by omega : 0 ≤ p)
            rw [Int.toNat_natCast] at hnx
            have hq10 := enc_le10 (x := q) (by omega)
            have hadd := fun W => add_text W cx (enc q) (by omega)
            go_wp2_with (go_at_call 26; go_must (refine (ref_uint_any q _ (by omega)).mono ?_; rintro e w2 ⟨rfl, hb2⟩; have B2 := Lib.hid (hB.out.trans (hb2.mono hB.out.size)); clear hb2))
            go_roundw
            case rel => exact ⟨j + 1, _, by go_num, by omega, rfl, by unfold Hid; rw [hcx.out, hnx.out, List.append_assoc], B2.out⟩
            case measure => simp [intOf]; omega
          · have hjj : j = is.length := by omega
            have HBZ : Hid (cx = encN ⟨false, ks, vs, is⟩) := by
              have h1 := hcx.out
              rw [hjj, HC1.out] at h1
              unfold Hid encN
              rw [h1, HHD.out, List.append_assoc]
            clear hjj
            go_wp2_with fail
            go_ret
            rw [← HBZ.out]
            exact ⟨rfl, hB.out⟩
  · have HD2 : Hid (hd = 2 * ks.length + 1) := HDV.out
    go_enter Try.func14, Try.ntmps14
    go_wp2_with (go_at_call 26; go_must (refine (KU.out _ _ (by have := HD2.out; omega)).mono ?_; rintro e w1 ⟨rfl, hb1⟩; have X1 := Lib.hid (HX0.out.on hb1); have B1 := Lib.hid (HB0.out.trans (hb1.mono HB0.out.size)); have x1 := X1.out.cell1; clear hb1))
    go_loopw [4, 23] (fun s i wr => ∃ (k : Nat) (cb : List UInt8), i = .int .i64 k ∧ k ≤ ks.length ∧ s = .string ⟨cb.toArray⟩ ∧ Hid (cb = enc hd ++ pre ⟨true, ks, vs, is⟩ k) ∧ Hid (Bx wr w.heap.size true (.slice A ks.length c) (.slice A2 vs.length c2) (.slice A3 is.length c3)) ∧ Hid (Below w.heap.size w wr)) (fun _ i _ => ks.length - (intOf i).toNat)
    case atStart => exact ⟨0, enc hd, rfl, by omega, rfl, by simp [pre, Hid], X1.out, B1.out⟩
    case round =>
      clear X1 B1 x1
      obtain ⟨k, cb, rfl, hk, rfl, hcb, hX, hB⟩ := hrel
      have x0 := hX.out.cell0
      have x2 := hX.out.cell2
      have x3 := hX.out.cell3
      have hbl : cb.length ≤ 134400000 := by
        rw [hcb.out, List.length_append]
        have := pre_le HS.out (by omega) k hk (fun h => (HG.out.leaf h).1)
        omega
      by_cases hlt : k < ks.length
      · obtain ⟨b0, off, c1, he1, _, _, hB0, hc⟩ := KAT.out (by omega)
        injection he1 with q1 _ q3
        subst q1 q3
        have hx := (hB.out.cell (p := ⟨b0, off + k, none⟩) hB0).trans (hc k hlt)
        clear hc
        have hp := HG.out.keys _ (List.getElem_mem hlt)
        have hent : Hid (pre ⟨true, ks, vs, is⟩ (k + 1) = pre ⟨true, ks, vs, is⟩ k ++ ent ⟨true, ks, vs, is⟩ k) := rfl
        have hkd : Hid (ks.getD k [] = ks[k]) := getD_at _ _ hlt
        generalize ks[k] = p at *
        have htl : (txt p).length ≤ 58 := by
          rw [txt_len]
          have := enc_le10 (x := p.length) (by omega)
          omega
        have hadd := fun W => add_text W cb (txt p) (by omega)
        have hvl := (HG.out.leaf rfl).1
        simp only at hvl
        obtain ⟨b1, off1, c4, he2, _, _, hB1, hc1⟩ := VAT.out (by omega)
        injection he2 with q1 _ q3
        subst q1 q3
        have hltv : k < vs.length := by omega
        clear hvl
        have hyc := fun W (hW : Below w.heap.size w W) => (hW.cell (p := ⟨b1, off1 + k, none⟩) hB1).trans (hc1 k hltv)
        clear hc1
        have hq := HG.out.vals _ (List.getElem_mem hltv)
        have hvd : Hid (vs.getD k [] = vs[k]) := getD_at _ _ hltv
        generalize vs[k] = q at *
        have hql : (txt q).length ≤ 170 := by
          rw [txt_len]
          have := enc_le10 (x := q.length) (by omega)
          omega
        have hnx : Hid (pre ⟨true, ks, vs, is⟩ (k + 1) = pre ⟨true, ks, vs, is⟩ k ++ (txt p ++ txt q)) := by
          have h1 := hent.out
          unfold ent at h1
          rw [hkd.out, hvd.out] at h1
          unfold Hid
          simpa using h1
        have hadd2 := fun W => add_text W (cb ++ txt p) (txt q) (by rw [List.length_append]; omega)
        go_wp2_with (first
          | (go_at_call_of 27 (Value.string ⟨p.toArray⟩); go_must (refine (said_txt p _ (by omega)).mono ?_; rintro e w2 ⟨rfl, hb2⟩; have X2 := Lib.hid (hX.out.on hb2); have B2 := Lib.hid (hB.out.trans (hb2.mono hB.out.size)); have y0 := X2.out.cell0; have y2 := X2.out.cell2; have hy := hyc _ B2.out; clear hb2))
          | (go_at_call_of 27 (Value.string ⟨q.toArray⟩); go_must (refine (said_txt q _ (by omega)).mono ?_; rintro e w3 ⟨rfl, hb3⟩; have X3 := Lib.hid (X2.out.on hb3); have B3 := Lib.hid (B2.out.trans (hb3.mono B2.out.size)); have z0 := X3.out.cell0; clear hb3)))
        go_roundw
        case rel => exact ⟨k + 1, _, by go_num, by omega, rfl, by unfold Hid; rw [hcb.out, hnx.out]; simp only [List.append_assoc], X3.out, B3.out⟩
        case measure => simp [intOf]; omega
      · have hkk : k = ks.length := by omega
        have HC1 : Hid (cb = enc hd ++ pre ⟨true, ks, vs, is⟩ ks.length) := by have := hcb.out; rw [hkk] at this; exact this
        clear hkk hcb hbl
        have hbl : cb.length ≤ 134400000 := by
          rw [HC1.out, List.length_append]
          have := pre_le HS.out (by omega) ks.length (Nat.le_refl _) (fun h => (HG.out.leaf h).1)
          omega
        go_wp2_with fail
        go_loopw [4, 46] (fun s i wx => ∃ (j : Nat) (cx : List UInt8), i = .int .i64 j ∧ j ≤ is.length ∧ s = .string ⟨cx.toArray⟩ ∧ Hid (cx = cb ++ kidB is j) ∧ Hid (Below w.heap.size w wx)) (fun _ i _ => is.length - (intOf i).toNat)
        case atStart => exact ⟨0, cb, rfl, by omega, rfl, by simp [kidB, Hid], hB.out⟩
        case round =>
          clear x0 x2 x3 hX hB
          obtain ⟨j, cx, rfl, hj, rfl, hcx, hB⟩ := hrel
          have hxl : cx.length ≤ 134500000 := by
            rw [hcx.out, List.length_append, kidB_len]
            have := ksz_le is (fun p hp => by have := HG.out.kids p hp; omega) j hj
            omega
          by_cases hlt : j < is.length
          · obtain ⟨b0, off, rfl, hB0, hz⟩ := HAT.out j hlt
            have hz := (hB.out.cell (p := ⟨b0, off + j, none⟩) hB0).trans hz
            have hpk := HG.out.kids _ (List.getElem_mem hlt)
            have hnx : Hid (kidB is (j + 1) = kidB is j ++ enc is[j].toNat) := by
              unfold Hid
              rw [kidB, getD_at _ _ hlt]
            unfold vint at hz
            generalize is[j] = p at *
            obtain ⟨q, rfl⟩ := Int.eq_ofNat_of_zero_le (by omega : 0 ≤ p)
            rw [Int.toNat_natCast] at hnx
            have hq10 := enc_le10 (x := q) (by omega)
            have hadd := fun W => add_text W cx (enc q) (by omega)
            go_wp2_with (go_at_call 26; go_must (refine (ref_uint_any q _ (by omega)).mono ?_; rintro e w2 ⟨rfl, hb2⟩; have B2 := Lib.hid (hB.out.trans (hb2.mono hB.out.size)); clear hb2))
            go_roundw
            case rel => exact ⟨j + 1, _, by go_num, by omega, rfl, by unfold Hid; rw [hcx.out, hnx.out, List.append_assoc], B2.out⟩
            case measure => simp [intOf]; omega
          · have hjj : j = is.length := by omega
            have HBZ : Hid (cx = encN ⟨true, ks, vs, is⟩) := by
              have h1 := hcx.out
              rw [hjj, HC1.out] at h1
              unfold Hid encN
              rw [h1, HHD.out, List.append_assoc]
            clear hjj
            go_wp2_with fail
            go_ret
            rw [← HBZ.out]
            exact ⟨rfl, hB.out⟩

end Go.Proofs.Ytjilkpgbojjnfaa.Cd
