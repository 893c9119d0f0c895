/-
  leaf.Encode: a node's bytes. Conditions: none.
-/
import Derived.Test.YtjilkpgbojjnfaaLeafSize
import Derived.Test.YtjilkpgbojjnfaaLeafDec
import Derived.Test.YtjilkpgbojjnfaaNoughts
import Derived.Test.YtjilkpgbojjnfaaWriters
import Derived.Deep.RegionWith
namespace Go.Proofs.Ytjilkpgbojjnfaa.Cd
open Go.RowKit

theorem make_room (n : Nat) (h : n ≤ 140737488355328) (W : World) :
    (Instr.makeSlice 28 (.int .i64 0) (.int .i64 (n : Int))).run Try.prog W = .ok (.slice (some ⟨W.heap.size, 0, none⟩) 0 n) (W.alloc (.cells (madeCells #[.int .u8 0] n) 5)) := by
  obtain ⟨i0, hi, hz0, hz1, hz2⟩ := info_parts info5
  have := run_make (P := Try.prog) (w := W) 28 5 i0 _ Try.underlying28 hi hz0 .i64 .i64 0 (n : Int) (by omega) (by omega) (by rw [hz2]; omega) (by omega)
  rw [this, hz1, Int.toNat_natCast, Nat.mul_one]
  rfl
theorem own_room (W : World) (B n : Nat) (hB : B ≤ W.heap.size) (hn : n ≤ 140737488355328) : Own (W.alloc (.cells (madeCells #[.int .u8 0] n) 5)) B (.slice (some ⟨W.heap.size, 0, none⟩) 0 n) [] :=
  World.ownsRow_made (base := B) (e := 5) (size := 1) W _ n hB (by simp only [maxLen]; omega) (by simp [madeCells])

theorem text_new (s : List UInt8) (w : World) (h : s.length ≤ 100000000000) : Calls Try.prog 20 #[.slice none 0 0, .string ⟨s.toArray⟩] w (Wrote w (txt s)) :=
  text_any _ [] ⟨s.toArray⟩ w (Sl.nil _ _) (by have : (ByteArray.mk s.toArray).size = s.length := rfl; simp only [List.length_nil]; omega)
theorem uint_new (x : Nat) (w : World) (h : x < 18446744073709551616) : Calls Try.prog 18 #[.slice none 0 0, .int .u64 (x : Int)] w (Wrote w (enc x)) := by
  have := uint_int (.slice none 0 0) [] (x : Int) w (Sl.nil _ _) (by omega) (by omega) (by simp)
  rwa [Int.toNat_natCast, List.nil_append] at this

section
variable {W W' : World} {g B : Nat} {b : Bool} {vk vv vi : Value}
theorem four_low (hb : Below B W W') (hg : g < B) (h : Four W g b vk vv vi) : Four W' g b vk vv vi :=
  ⟨(hb.cell hg).trans h.1, (hb.cell hg).trans h.2.1, (hb.cell hg).trans h.2.2.1, (hb.cell hg).trans h.2.2.2⟩
theorem four_on (hb : Below W.heap.size W W') (h : Four W g b vk vv vi) : Four W' g b vk vv vi := four_low hb (World.block_lt_of_cell? W _ h.1) h
theorem four_alloc (o : Obj) (h : Four W g b vk vv vi) : Four (W.alloc o) g b vk vv vi := four_on (new_below W o) h
end

/-- What Encode leaves. -/
def Encs (w : World) (bs : List UInt8) (c : Int) (e : Ending) (w' : World) : Prop := ∃ v, e = .returned (.tuple #[v, .int .i64 c]) ∧ Own w' w.heap.size v bs ∧ Below w.heap.size w w'
def encB (n : Nd) : List UInt8 := if good n = true ∧ (encN n).length ≤ 512 then encN n else []
def encC (n : Nd) : Int := if good n = true then (if (encN n).length ≤ 512 then 0 else 3) else 1

theorem own_nil (w : World) (B : Nat) : Own w B (.slice none 0 0) [] := World.ownsRow_nil w B 5 1

set_option maxRecDepth 100000 in
set_option maxHeartbeats 1600000 in
theorem encode_any (v : Value) (n : Nd) (w : World) (h : Node w w.heap.size v n) (hs : Small n 8192) (hw : ∀ p ∈ n.kids, -9223372036854775808 ≤ p ∧ p ≤ 9223372036854775807) :
    Calls Try.prog 10 #[v] w (Encs w (encB n) (encC n)) := by
  have H := Lib.hid h
  have HS := Lib.hid hs
  obtain ⟨b, ks, vs, is⟩ := n
  obtain ⟨vk, vv, vi, rfl, h1, h2, h3⟩ := h
  obtain ⟨A, c, rfl, k2, k3⟩ := h1.len
  obtain ⟨A2, c2, rfl, l2, l3⟩ := h2.len
  obtain ⟨A3, c3, rfl, m2, m3⟩ := h3.len
  have KAT := Lib.hid (fun h0 => h1.at h0)
  have VAT := Lib.hid (fun h0 => h2.at h0)
  have HAT := Lib.hid (fun k => @Flat.at _ _ _ _ _ A3 is.length c3 h3 k)
  have hks : ks.length ≤ 8192 := hs.keys
  clear h1 h2 h3 hs
  have hnb := fun o => new_below w o
  have hsz := Lib.hid (fun o => lsize_any _ _ (w.alloc o) (H.out.over (hnb o)) HS.out hw)
  cases hg : good ⟨b, ks, vs, is⟩
  · have hz : sizeN ⟨b, ks, vs, is⟩ = -1 := by unfold sizeN; rw [hg]; rfl
    have hE : Hid (encB ⟨b, ks, vs, is⟩ = [] ∧ encC ⟨b, ks, vs, is⟩ = 1) := by unfold Hid encB encC; rw [hg]; simp
    rw [hz] at hsz
    clear hz
    go_enter Try.func10, Try.ntmps10
    go_wp2_with (go_at_call 13; refine (hsz.out _).mono ?_; rintro e w1 ⟨rfl, hb1⟩)
    go_ret2
    rw [hE.out.1, hE.out.2]
    exact ⟨_, rfl, own_nil _ _, (hnb _).trans (hb1.mono (by simp))⟩
  · have hG := (good_iff _).1 hg
    have hlen := encN_len hG
    have hzz := small_sz HS.out (by omega) (fun p hp => by have := hG.kids p hp; omega)
    have hhd := head_lt HS.out (by omega)
    have hel := enc_le10 (x := head ⟨b, ks, vs, is⟩) (by omega)
    have hz : sizeN ⟨b, ks, vs, is⟩ = ((encN ⟨b, ks, vs, is⟩).length : Nat) := by unfold sizeN; rw [hg]; rfl
    rw [hz] at hsz
    clear hz
    obtain ⟨S, hS⟩ : ∃ S, (encN ⟨b, ks, vs, is⟩).length = S := ⟨_, rfl⟩
    have hS2 : S ≤ 200000000 := by rw [← hS, hlen]; omega
    have HSZ := Lib.hid hS
    rw [hS] at hsz
    clear hS hlen hzz hel
    by_cases hov : 512 < S
    · have hE : Hid (encB ⟨b, ks, vs, is⟩ = [] ∧ encC ⟨b, ks, vs, is⟩ = 3) := by
        unfold Hid encB encC; rw [hg, HSZ.out, if_neg (by omega), if_pos rfl, if_neg (by omega)]; exact ⟨rfl, rfl⟩
      clear hG
      go_enter Try.func10, Try.ntmps10
      go_wp2_with (go_at_call 13; refine (hsz.out _).mono ?_; rintro e w1 ⟨rfl, hb1⟩)
      go_ret2
      rw [hE.out.1, hE.out.2]
      exact ⟨_, rfl, own_nil _ _, (hnb _).trans (hb1.mono (by simp))⟩
    · have hE : Hid (encB ⟨b, ks, vs, is⟩ = encN ⟨b, ks, vs, is⟩ ∧ encC ⟨b, ks, vs, is⟩ = 0) := by
        unfold Hid encB encC; rw [hg, HSZ.out, if_pos ⟨rfl, by omega⟩, if_pos rfl, if_pos (by omega)]; exact ⟨rfl, rfl⟩
      have HG := Lib.hid hG
      clear hG
      obtain ⟨hd, hHD⟩ : ∃ hd, head ⟨b, ks, vs, is⟩ = hd := ⟨_, rfl⟩
      have HHD := Lib.hid hHD
      rw [hHD] at hhd
      clear hHD
      have hel := enc_le10 (x := hd) (by omega)
      have hmk := fun W => make_room S (by omega) W
      go_enter Try.func10, Try.ntmps10
      go_wp2_with (go_at_call 13; refine (hsz.out _).mono ?_; rintro e w1 ⟨rfl, hb1⟩; have hx : Bx w1 _ _ _ _ _ := Bx.on (heap_alloc_new w _) hb1; have d0 := hx.cell0; have d1 := hx.cell1; have d2 := hx.cell2; have d3 := hx.cell3; have HX := Lib.hid hx; clear hx; have HW := Lib.hid ((hnb _).trans (hb1.mono (by simp))))
      have hlt := HW.out.size
      have hx0 := HX.out.lt
      go_region_held3 (fun W => W.cell? ⟨w.heap.size, 0, none⟩ = some (.bool b) ∧ W.cell? ⟨w.heap.size, 1, none⟩ = some (.slice A ks.length c) ∧ W.cell? ⟨w.heap.size, 2, none⟩ = some (.slice A2 vs.length c2) ∧ W.cell? ⟨w.heap.size, 3, none⟩ = some (.slice A3 is.length c3)) (first | assumption | exact ⟨d0, d1, d2, d3⟩ | exact four_alloc _ (by assumption) | exact four_low hb4 (Nat.lt_succ_self _) (by assumption) | exact four_on hb3 (by assumption) | exact four_on hb2 (by assumption)) (first
        | (go_at_call 19; refine (head_is _ ⟨b, ks, vs, is⟩ hd HHD.out _ (H.out.over (by first | exact HW.out.drew | exact HW.out.drew.alloc HW.out.size _)) (by simp only; omega)).mono ?_; rintro e w2 ⟨rfl, hb2⟩; have hlt2 := hb2.size; try simp at hlt2
           first | (have HB2 := Lib.hid (HW.out.drew.trans (hb2.mono HW.out.drew.size))) | (have HB2 := Lib.hid ((HW.out.drew.alloc HW.out.drew.size _).trans (hb2.mono (HW.out.drew.alloc HW.out.drew.size _).size))))
        | (go_at_call 18; refine (uint_new hd _ (by omega)).mono ?_; rintro e w3 ⟨v3, rfl, ho3, hb3⟩; have hlt3 := hb3.size; try simp at hlt3
           first | (have hoA := Lib.hid (((own_room w1.drew (w.heap.size + 1) S (by simp; omega) (by omega)).keep hb2).keep hb3)) | (have hoA := Lib.hid ((own_room w2 (w.heap.size + 1) S (by omega) (by omega)).keep hb3)) | skip
           first | (have HB3 := Lib.hid (HB2.out.trans (hb3.mono HB2.out.size))) | (have HB3 := Lib.hid ((HB2.out.alloc HB2.out.size _).trans (hb3.mono (HB2.out.alloc HB2.out.size _).size))))
        | (refine step_append_sl rfl (.tmp 19) (.tmp 22) rfl (w.heap.size + 1) _ [] (by simp [Act.eval]) hoA.out (by omega) _ _ (enc hd) (by simp [Act.eval]) ho3.sl (by simp; omega) ?_; intro v4 w4 ho4 hb4; have HB4 := Lib.hid (HB3.out.trans (hb4.mono (Nat.le_succ _))))
        | (refine step_append_sl rfl (.tmp 19) (.tmp 22) rfl (w.heap.size + 1) _ [] (by simp [Act.eval]) (own_room w3 (w.heap.size + 1) S (by omega) (by omega)) (by simp; omega) _ _ (enc hd) (by simp [Act.eval]) (ho3.alloc _).sl (by simp; omega) ?_; intro v4 w4 ho4 hb4; have HB4 := Lib.hid ((HB3.out.alloc HB3.out.size _).trans (hb4.mono (Nat.le_succ _)))))
      all_goals
        have hF : Four w4 w.heap.size b (.slice A ks.length c) (.slice A2 vs.length c2) (.slice A3 is.length c3) := by assumption
        have HF := Lib.hid hF
        have HO4 := Lib.hid ho4
        have e0 := hF.1
        have e1 := hF.2.1
        have e2 := hF.2.2.1
        have e3 := hF.2.2.2
        have hw4 : w.heap.size + 1 ≤ w4.heap.size := World.block_lt_of_cell? w4 ⟨w.heap.size, 0, none⟩ e0
        clear hF ho4
        go_wp2
        go_loopw [5, 27] (fun bv i wr => ∃ (k : Nat) (cb : List UInt8), i = .int .i64 k ∧ k ≤ ks.length ∧ Own wr (w.heap.size + 1) bv cb ∧ Hid (cb = enc hd ++ pre ⟨b, ks, vs, is⟩ k) ∧ Below (w.heap.size + 1) w4 wr) (fun _ i _ => ks.length - (intOf i).toNat)
        case atStart => exact ⟨0, enc hd, rfl, by omega, HO4.out, by unfold Hid; simp [pre], Below.refl _ _⟩
        case round =>
          obtain ⟨k, cb, rfl, hk, hob, hcb, hbel⟩ := hrel
          have hbl : cb.length ≤ 134400000 := by
            rw [hcb.out, List.length_append]
            have := pre_le HS.out (by omega) k hk (fun h => (HG.out.leaf h).1)
            omega
          have HBW := Lib.hid (HB4.out.trans (hbel.mono (Nat.le_succ _)))
          have hszr := hbel.size
          have f0 := (hbel.cell (p := ⟨w.heap.size, 0, none⟩) (Nat.lt_succ_self _)).trans e0
          have f2 := (hbel.cell (p := ⟨w.heap.size, 2, none⟩) (Nat.lt_succ_self _)).trans e2
          have f3 := (hbel.cell (p := ⟨w.heap.size, 3, none⟩) (Nat.lt_succ_self _)).trans e3
          have HL := Lib.hid hbel
          clear hbel
          by_cases hlt : k < ks.length
          · obtain ⟨b0, off, c1, he1, _, _, hB, hc⟩ := KAT.out (by omega)
            injection he1 with q1 _ q3
            subst q1 q3
            have hx := (HBW.out.cell (p := ⟨b0, off + k, none⟩) hB).trans (hc k hlt)
            clear hc
            have hp := HG.out.keys _ (List.getElem_mem hlt)
            have hent : Hid (pre ⟨b, ks, vs, is⟩ (k + 1) = pre ⟨b, ks, vs, is⟩ k ++ ent ⟨b, ks, vs, is⟩ k) := rfl
            have hkd : Hid (ks.getD k [] = ks[k]) := getD_at _ _ hlt
            generalize ks[k] = p at *
            have htl : (txt p).length ≤ 58 := by
              rw [txt_len]
              have := enc_le10 (x := p.length) (by omega)
              omega
            cases b
            · have hnx : Hid (pre ⟨false, ks, vs, is⟩ (k + 1) = pre ⟨false, ks, vs, is⟩ k ++ txt p) := by
                have h1 := hent.out
                unfold ent at h1
                rw [hkd.out] at h1
                unfold Hid
                simpa using h1
              go_wp2_with fail
              refine (text_new p _ (by omega)).mono ?_
              rintro e w5 ⟨v5, rfl, ho5, hb5⟩
              have hsz5 := hb5.size
              have g0 := cell_kept hb5 f0
              have hob2 := Lib.hid (hob.keep hb5)
              go_wp2_with (at_builtin; refine wp_append_sl rfl _ _ rfl (w.heap.size + 1) _ cb rfl ?ho ?hB _ w5.heap.size (txt p) rfl ?hy ?hm ?hK)
              case ho => exact hob2.out
              case hB => omega
              case hy => exact ho5.sl
              case hm => omega
              case hK =>
                intro v6 w6 ho6 hb6
                have h0 := (hb6.cell (p := ⟨w.heap.size, 0, none⟩) (Nat.lt_succ_self _)).trans g0
                have HO6 := Lib.hid ho6
                have HB6 := Lib.hid ((hb5.mono (Nat.le_trans hw4 hszr)).trans hb6)
                go_wp2
                go_roundw
                case rel => exact ⟨k + 1, _, by go_num, by omega, HO6.out, by unfold Hid; rw [hcb.out, hnx.out, List.append_assoc], HL.out.trans HB6.out⟩
                case measure => simp [intOf]; omega
            · have hvl := (HG.out.leaf rfl).1
              simp only at hvl
              obtain ⟨b1, off1, c4, he2, _, _, hB1, hc1⟩ := VAT.out (by omega)
              injection he2 with q1 _ q3
              subst q1 q3
              have hltv : k < vs.length := by omega
              clear hvl
              have hy := (HBW.out.cell (p := ⟨b1, off1 + k, none⟩) hB1).trans (hc1 k hltv)
              clear hc1
              have hq := HG.out.vals _ (List.getElem_mem hltv)
              have hvd : Hid (vs.getD k [] = vs[k]) := getD_at _ _ hltv
              generalize vs[k] = q at *
              have hql : (txt q).length ≤ 170 := by
                rw [txt_len]
                have := enc_le10 (x := q.length) (by omega)
                omega
              have hnx : Hid (pre ⟨true, ks, vs, is⟩ (k + 1) = pre ⟨true, ks, vs, is⟩ k ++ (txt p ++ txt q)) := by
                have h1 := hent.out
                unfold ent at h1
                rw [hkd.out, hvd.out] at h1
                unfold Hid
                simpa using h1
              go_wp2_with fail
              refine (text_new p _ (by omega)).mono ?_
              rintro e w5 ⟨v5, rfl, ho5, hb5⟩
              have hsz5 := hb5.size
              have g0 := cell_kept hb5 f0
              have g2 := cell_kept hb5 f2
              have gy := cell_kept hb5 hy
              have hob2 := Lib.hid (hob.keep hb5)
              go_wp2_with (at_builtin; refine wp_append_sl rfl _ _ rfl (w.heap.size + 1) _ cb rfl ?ho ?hB _ w5.heap.size (txt p) rfl ?hy ?hm ?hK)
              case ho => exact hob2.out
              case hB => omega
              case hy => exact ho5.sl
              case hm => omega
              case hK =>
                intro v6 w6 ho6 hb6
                have i0 := (hb6.cell (p := ⟨w.heap.size, 0, none⟩) (Nat.lt_succ_self _)).trans g0
                have i2 := (hb6.cell (p := ⟨w.heap.size, 2, none⟩) (Nat.lt_succ_self _)).trans g2
                have iy := (hb6.cell (p := ⟨b1, off1 + k, none⟩) (Nat.lt_succ_of_lt hB1)).trans gy
                have hsz6 := hb6.size
                obtain ⟨c6, hc6⟩ : ∃ c6, cb ++ txt p = c6 := ⟨_, rfl⟩
                have hl6 : c6.length ≤ 134400100 := by rw [← hc6, List.length_append]; omega
                have HC6 := Lib.hid hc6
                rw [hc6] at ho6
                clear hc6
                have HB6 := Lib.hid ((hb5.mono (Nat.le_trans hw4 hszr)).trans hb6)
                go_wp2_with fail
                refine (text_new q _ (by omega)).mono ?_
                rintro e w7 ⟨v7, rfl, ho7, hb7⟩
                have hsz7 := hb7.size
                have hob7 := Lib.hid (ho6.keep hb7)
                go_wp2_with (at_builtin; refine wp_append_sl rfl _ _ rfl (w.heap.size + 1) _ c6 rfl ?ho ?hB _ w7.heap.size (txt q) rfl ?hy ?hm ?hK)
                case ho => exact hob7.out
                case hB => omega
                case hy => exact ho7.sl
                case hm => omega
                case hK =>
                  intro v8 w8 ho8 hb8
                  have HO8 := Lib.hid ho8
                  have HB8 := Lib.hid (HB6.out.trans ((hb7.mono (by omega)).trans hb8))
                  clear ho8 hb8 ho6 hb6 hb5 hb7 ho5 ho7
                  go_wp2
                  go_roundw
                  case rel => exact ⟨k + 1, _, by go_num, by omega, HO8.out, by unfold Hid; rw [← HC6.out, hcb.out, hnx.out]; simp only [List.append_assoc], HL.out.trans HB8.out⟩
                  case measure => simp [intOf]; omega
          · have hkk : k = ks.length := by omega
            subst hkk
            have HC1 : Hid (cb = enc hd ++ pre ⟨b, ks, vs, is⟩ ks.length) := hcb
            clear hcb
            have HCO := Lib.hid hob
            clear hob hlt
            go_wp2
            go_loopw [5, 50] (fun bv i wx => ∃ (j : Nat) (cx : List UInt8), i = .int .i64 j ∧ j ≤ is.length ∧ Own wx (w.heap.size + 1) bv cx ∧ Hid (cx = cb ++ kidB is j) ∧ Below (w.heap.size + 1) wr wx) (fun _ i _ => is.length - (intOf i).toNat)
            case atStart => exact ⟨0, cb, rfl, by omega, HCO.out, by unfold Hid; simp [kidB], Below.refl _ _⟩
            case round =>
              obtain ⟨j, cx, rfl, hj, hox, hcx, hbx⟩ := hrel
              have hxl : cx.length ≤ 134500000 := by
                rw [hcx.out, List.length_append, kidB_len]
                have := ksz_le is (fun p hp => by have := HG.out.kids p hp; omega) j hj
                have := HS.out.kids
                simp only at this
                omega
              have hszx := hbx.size
              have HBX := Lib.hid hbx
              have HBW2 := Lib.hid (HBW.out.trans (hbx.mono (Nat.le_succ _)))
              clear hbx
              by_cases hlt : j < is.length
              · obtain ⟨b0, off, rfl, hB, hz⟩ := HAT.out j hlt
                have hz := (HBW2.out.cell (p := ⟨b0, off + j, none⟩) hB).trans hz
                have hpk := HG.out.kids _ (List.getElem_mem hlt)
                have hnx : Hid (kidB is (j + 1) = kidB is j ++ enc is[j].toNat) := by
                  unfold Hid
                  rw [kidB, getD_at _ _ hlt]
                unfold vint at hz
                generalize is[j] = p at *
                obtain ⟨q, rfl⟩ := Int.eq_ofNat_of_zero_le (by omega : 0 ≤ p)
                rw [Int.toNat_natCast] at hnx
                have hq10 := enc_le10 (x := q) (by omega)
                go_wp2_with fail
                refine (uint_new q _ (by omega)).mono ?_
                rintro e w5 ⟨v5, rfl, ho5, hb5⟩
                have hsz5 := hb5.size
                have hob2 := Lib.hid (hox.keep hb5)
                go_wp2_with (at_builtin; refine wp_append_sl rfl _ _ rfl (w.heap.size + 1) _ cx rfl ?ho ?hB _ w5.heap.size (enc q) rfl ?hy ?hm ?hK)
                case ho => exact hob2.out
                case hB => omega
                case hy => exact ho5.sl
                case hm => omega
                case hK =>
                  intro v6 w6 ho6 hb6
                  have HO6 := Lib.hid ho6
                  have HB6 := Lib.hid ((hb5.mono (by omega)).trans hb6)
                  clear ho6 hb6 hb5 ho5
                  go_wp2
                  go_roundw
                  case rel => exact ⟨j + 1, _, by go_num, by omega, HO6.out, by unfold Hid; rw [hcx.out, hnx.out, List.append_assoc], HBX.out.trans HB6.out⟩
                  case measure => simp [intOf]; omega
              · have hjj : j = is.length := by omega
                subst hjj
                have HOX := Lib.hid hox
                have HBZ : Hid (cx = encN ⟨b, ks, vs, is⟩) := by
                  have h1 := hcx.out
                  rw [HC1.out] at h1
                  unfold Hid encN
                  rw [h1, HHD.out, List.append_assoc]
                clear hox hcx
                go_wp2
                go_ret2
                rw [hE.out.1, hE.out.2, ← HBZ.out]
                exact ⟨_, rfl, HOX.out.lower (Nat.le_succ _), HBW2.out⟩

end Go.Proofs.Ytjilkpgbojjnfaa.Cd
