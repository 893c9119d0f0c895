/-
  LeafBack: what its text does, call by call. Conditions: none.
-/
import Derived.Test.YtjilkpgbojjnfaaAliveL
import Derived.Test.YtjilkpgbojjnfaaLeafDecode
import Derived.Test.YtjilkpgbojjnfaaRefSameN
namespace Go.Proofs.Ytjilkpgbojjnfaa.LeafBack
open Go.RowKit Go.Proofs.Ytjilkpgbojjnfaa.Cd

set_option maxRecDepth 100000 in
set_option maxHeartbeats 4000000 in
theorem walk (v : Value) (n : Nd) (u : Value) (z : List UInt8) (w : World) (h : Cd.Node w w.heap.size v n ∧ Fits n) (hs : Sl w w.heap.size u z) :
    Calls Try.prog 5 #[v, u] w (Gives (.bool true) w) := by
  obtain ⟨h, hf⟩ := h
  obtain ⟨D, e0, rfl, hle, hme⟩ := hs.len
  have HS2 := Lib.hid hs
  clear hs
  have H := Lib.hid h
  have HF := Lib.hid hf
  obtain ⟨vk, vv, vi, rfl, h1, h2, h3⟩ := h
  obtain ⟨A, c, rfl, _, _⟩ := h1.len
  obtain ⟨A2, c2, rfl, _, _⟩ := h2.len
  obtain ⟨A3, c3, rfl, _, m3⟩ := h3.len
  clear h1 h2 h3
  have HX : Hid (Bx (w.alloc (.cells #[.bool n.leaf, .slice A n.keys.length c, .slice A2 n.vals.length c2, .slice A3 n.kids.length c3] 25)) w.heap.size n.leaf (.slice A n.keys.length c) (.slice A2 n.vals.length c2) (.slice A3 n.kids.length c3)) := heap_alloc_new w _
  have HB := Lib.hid (new_below w (.cells #[.bool n.leaf, .slice A n.keys.length c, .slice A2 n.vals.length c2, .slice A3 n.kids.length c3] 25))
  cases hgr : great n 4096
  · have hs := small_of hgr
    have HS : Hid (Small n 8192) := ⟨by have := hs.kids; omega, by have := hs.keys; omega, by have := hs.vals; omega, fun s h => by have := hs.key s h; omega, fun s h => by have := hs.val s h; omega⟩
    have HGR := Lib.hid hgr
    clear hgr hs
    have KE := Lib.hid (fun W (hW : Cd.Node W W.heap.size (.agg #[.bool n.leaf, .slice A n.keys.length c, .slice A2 n.vals.length c2, .slice A3 n.kids.length c3]) n) => encode_any _ n W hW HS.out HF.out.kid)
    by_cases hz : 1024 < z.length
    · skip
      go_enter Try.func5, Try.ntmps5
      go_wp2_with (first
        | (go_at_call 8
           go_must (
           refine (aliveL_any _).mono ?_
           rintro e w1 ⟨rfl, hb⟩
           have HX := Lib.hid (HX.out.on hb); have HB := Lib.hid (HB.out.trans (hb.mono HB.out.size)); have x0 := HX.out.cell0; have x1 := HX.out.cell1; have x2 := HX.out.cell2; have x3 := HX.out.cell3
           clear hb))
        | (go_at_call 9
           go_must (
           refine (great_is _ n 4096 _ HGR.out _ (H.out.over HB.out) HF.out (by omega)).mono ?_
           rintro e w1 ⟨rfl, hb⟩
           have HX := Lib.hid (HX.out.on hb); have HB := Lib.hid (HB.out.trans (hb.mono HB.out.size)); have x0 := HX.out.cell0; have x1 := HX.out.cell1; have x2 := HX.out.cell2; have x3 := HX.out.cell3
           clear hb)))
      go_ret
      exact ⟨rfl, HB.out⟩
    · have hways : (encC n = 1 ∧ encB n = []) ∨ (encC n = 3 ∧ encB n = []) ∨ (encC n = 0 ∧ encB n = encN n ∧ good n = true ∧ ¬ 512 < (encN n).length) := by
        cases hg : good n
        · exact .inl ⟨(encB_bad hg).2, (encB_bad hg).1⟩
        · by_cases hl : 512 < (encN n).length
          · exact .inr (.inl ⟨(encB_long hg hl).2, (encB_long hg hl).1⟩)
          · exact .inr (.inr ⟨(encB_good hg hl).2, (encB_good hg hl).1, rfl, hl⟩)
      rcases hways with ⟨q1, q2⟩ | ⟨q1, q2⟩ | ⟨q1, q2, hg, hl⟩
      · rw [q1, q2] at KE
        clear q1 q2
        go_enter Try.func5, Try.ntmps5
        go_wp2_with (first
          | (go_at_call 8
             go_must (
             refine (aliveL_any _).mono ?_
             rintro e w1 ⟨rfl, hb⟩
             have HX := Lib.hid (HX.out.on hb); have HB := Lib.hid (HB.out.trans (hb.mono HB.out.size)); have x0 := HX.out.cell0; have x1 := HX.out.cell1; have x2 := HX.out.cell2; have x3 := HX.out.cell3
             clear hb))
          | (go_at_call 9
             go_must (
             refine (great_is _ n 4096 _ HGR.out _ (H.out.over HB.out) HF.out (by omega)).mono ?_
             rintro e w1 ⟨rfl, hb⟩
             have HX := Lib.hid (HX.out.on hb); have HB := Lib.hid (HB.out.trans (hb.mono HB.out.size)); have x0 := HX.out.cell0; have x1 := HX.out.cell1; have x2 := HX.out.cell2; have x3 := HX.out.cell3
             clear hb))
          | (go_at_call 10
             go_must (
             refine (KE.out _ (H.out.over HB.out)).mono ?_
             rintro e w1 ⟨v1, rfl, ho1, hb⟩
             obtain ⟨B1, d1, rfl, _, _⟩ := ho1.sl.len
             have HO := Lib.hid ho1
             have HX := Lib.hid (HX.out.on hb); have HB := Lib.hid (HB.out.trans (hb.mono HB.out.size)); have x0 := HX.out.cell0; have x1 := HX.out.cell1; have x2 := HX.out.cell2; have x3 := HX.out.cell3
             clear hb ho1)))
        go_ret
        exact ⟨rfl, HB.out⟩
      · rw [q1, q2] at KE
        clear q1 q2
        go_enter Try.func5, Try.ntmps5
        go_wp2_with (first
          | (go_at_call 8
             go_must (
             refine (aliveL_any _).mono ?_
             rintro e w1 ⟨rfl, hb⟩
             have HX := Lib.hid (HX.out.on hb); have HB := Lib.hid (HB.out.trans (hb.mono HB.out.size)); have x0 := HX.out.cell0; have x1 := HX.out.cell1; have x2 := HX.out.cell2; have x3 := HX.out.cell3
             clear hb))
          | (go_at_call 9
             go_must (
             refine (great_is _ n 4096 _ HGR.out _ (H.out.over HB.out) HF.out (by omega)).mono ?_
             rintro e w1 ⟨rfl, hb⟩
             have HX := Lib.hid (HX.out.on hb); have HB := Lib.hid (HB.out.trans (hb.mono HB.out.size)); have x0 := HX.out.cell0; have x1 := HX.out.cell1; have x2 := HX.out.cell2; have x3 := HX.out.cell3
             clear hb))
          | (go_at_call 10
             go_must (
             refine (KE.out _ (H.out.over HB.out)).mono ?_
             rintro e w1 ⟨v1, rfl, ho1, hb⟩
             obtain ⟨B1, d1, rfl, _, _⟩ := ho1.sl.len
             have HO := Lib.hid ho1
             have HX := Lib.hid (HX.out.on hb); have HB := Lib.hid (HB.out.trans (hb.mono HB.out.size)); have x0 := HX.out.cell0; have x1 := HX.out.cell1; have x2 := HX.out.cell2; have x3 := HX.out.cell3
             clear hb ho1)))
        go_ret
        exact ⟨rfl, HB.out⟩
      · rw [q1, q2] at KE
        have hG := (good_iff n).1 hg
        have hk := few_keys hG hl
        have HD1 : Hid (dec (encN n ++ z) = some n) := dec_enc hG hk z
        have HD2 : Hid (dec ((encN n).take ((encN n).length - 1)) = none) := dec_cut hG hk
        have hpos := encN_pos n
        clear q1 q2 hG hk hg
        generalize encN n = bs at *
        go_enter Try.func5, Try.ntmps5
        go_wp2_with (first
          | (go_at_call 8
             go_must (
             refine (aliveL_any _).mono ?_
             rintro e w1 ⟨rfl, hb⟩
             have HX := Lib.hid (HX.out.on hb); have HB := Lib.hid (HB.out.trans (hb.mono HB.out.size)); have x0 := HX.out.cell0; have x1 := HX.out.cell1; have x2 := HX.out.cell2; have x3 := HX.out.cell3
             clear hb))
          | (go_at_call 9
             go_must (
             refine (great_is _ n 4096 _ HGR.out _ (H.out.over HB.out) HF.out (by omega)).mono ?_
             rintro e w1 ⟨rfl, hb⟩
             have HX := Lib.hid (HX.out.on hb); have HB := Lib.hid (HB.out.trans (hb.mono HB.out.size)); have x0 := HX.out.cell0; have x1 := HX.out.cell1; have x2 := HX.out.cell2; have x3 := HX.out.cell3
             clear hb))
          | (go_at_call 10
             go_must (
             refine (KE.out _ (H.out.over HB.out)).mono ?_
             rintro e w1 ⟨v1, rfl, ho1, hb⟩
             obtain ⟨B1, d1, rfl, _, _⟩ := ho1.sl.len
             have HO := Lib.hid ho1
             have hlow := ho1.lt
             have HX := Lib.hid (HX.out.on hb); have HB := Lib.hid (HB.out.trans (hb.mono HB.out.size)); have x0 := HX.out.cell0; have x1 := HX.out.cell1; have x2 := HX.out.cell2; have x3 := HX.out.cell3
             clear hb ho1))
          | (at_builtin
             refine wp_append_sl rfl _ _ rfl w1.heap.size _ [] rfl (own_new w1 w1.heap.size (Nat.le_refl _)) (by simp) _ w1.heap.size bs rfl (HO.out.sl.below (new_below w1 _)) (by simp; omega) ?_
             intro v2 w2 ho2 hb2
             rw [List.nil_append] at ho2
             obtain ⟨A5, c5, rfl, _, _⟩ := ho2.sl.len
             have hb : Below w1.heap.size w1 w2 := (new_below w1 _).trans hb2
             have hxl := HX.out.lt
             have hbl := HB.out.size
             have HX := Lib.hid (HX.out.on hb)
             have HB := Lib.hid (HB.out.trans (hb.mono HB.out.size))
             have HO := Lib.hid (HO.out.keep hb)
             have HP := Lib.hid ho2
             have hz2 := hb.size
             clear hb hb2 ho2)
          | (at_builtin
             refine wp_append_sl rfl _ _ rfl w1.heap.size _ bs rfl HP.out hz2 _ w.heap.size z rfl (HS2.out.below HB.out) (by omega) ?_
             intro v3 w3 ho3 hb3
             have HX := Lib.hid (HX.out.below hb3 hxl)
             have HB := Lib.hid (HB.out.trans (hb3.mono hbl))
             have HO : Hid (Own w3 _ _ bs) := HO.out.lowkeep hlow hb3
             have HD := Lib.hid ho3.sl
             clear hb3 ho3)
          | (go_at_call_of 15 v3
             go_must (
             refine (decode_any _ _ _ HD.out (by rw [List.length_append]; omega)).mono ?_
             rintro e w4 ⟨hb, y, hey, hn⟩
             rw [HD1.out] at hey hn
             have hey : e = .returned (.tuple #[y, .int .i64 0]) := hey
             obtain rfl := hey
             obtain ⟨Bk, dk, Bv, dv, Bi, di, rfl⟩ := NodeF.len (n := n) hn
             have hnb4 := new_below w4 (.cells #[.bool n.leaf, .slice Bk n.keys.length dk, .slice Bv n.vals.length dv, .slice Bi n.kids.length di] 25)
             have NF : Hid (NodeF _ _ _ n) := NodeF.keep (n := n) hn hnb4
             have HB := Lib.hid ((HB.out.trans (hb.mono HB.out.size)).trans (hnb4.mono (HB.out.trans (hb.mono HB.out.size)).size))
             have HX := Lib.hid ((HX.out.on hb).on hnb4)
             have HO := Lib.hid ((HO.out.keep hb).keep hnb4)
             have HD := Lib.hid (HO.out.sl.cut (bs.length - 1) (by omega))
             have BX : Hid (Bx (w4.alloc (.cells #[.bool n.leaf, .slice Bk n.keys.length dk, .slice Bv n.vals.length dv, .slice Bi n.kids.length di] 25)) w4.heap.size n.leaf (.slice Bk n.keys.length dk) (.slice Bv n.vals.length dv) (.slice Bi n.kids.length di)) := heap_alloc_new w4 _
             clear hb hn hnb4))
          | (go_at_call 15
             go_must (
             refine (decode_any _ (bs.take (bs.length - 1)) _ HD.out (by rw [List.length_take]; omega)).mono ?_
             rintro e w5 ⟨hb, y, hey, hn⟩
             rw [HD2.out] at hey hn
             have hey : e = .returned (.tuple #[y, .int .i64 4]) := hey
             obtain rfl := hey
             obtain ⟨Ck, fk, Cv, fv, Ci, fi, rfl⟩ := NodeF.len (n := zeroN) hn
             have hnb5 := new_below w5 (.cells #[.bool false, .slice Ck 0 fk, .slice Cv 0 fv, .slice Ci 0 fi] 25)
             have NF := Lib.hid ((NF.out.keep hb).keep hnb5)
             have HB := Lib.hid ((HB.out.trans (hb.mono HB.out.size)).trans (hnb5.mono (HB.out.trans (hb.mono HB.out.size)).size))
             have HX := Lib.hid ((HX.out.on hb).on hnb5)
             have BX := Lib.hid ((BX.out.on hb).on hnb5)
             have x0 := HX.out.cell0; have x1 := HX.out.cell1; have x2 := HX.out.cell2; have x3 := HX.out.cell3
             have y0 := BX.out.cell0; have y1 := BX.out.cell1; have y2 := BX.out.cell2; have y3 := BX.out.cell3
             have e1 : zeroN.keys.length = 0 := rfl
             have e2 : zeroN.vals.length = 0 := rfl
             have e3 : zeroN.kids.length = 0 := rfl
             have e4 : zeroN.leaf = false := rfl
             clear hb hn hnb5))
          | (go_at_call 17
             go_must (
             refine (sameN_any _ _ n _ (H.out.over HB.out) NF.out.node).mono ?_
             rintro e w6 ⟨rfl, hb⟩
             have HB := Lib.hid (HB.out.trans (hb.mono HB.out.size))
             clear hb)))
        go_ret
        exact ⟨rfl, HB.out⟩
  · have HGR := Lib.hid hgr
    clear hgr
    go_enter Try.func5, Try.ntmps5
    go_wp2_with (first
      | (go_at_call 8
         go_must (
         refine (aliveL_any _).mono ?_
         rintro e w1 ⟨rfl, hb⟩
         have HX := Lib.hid (HX.out.on hb); have HB := Lib.hid (HB.out.trans (hb.mono HB.out.size)); have x0 := HX.out.cell0; have x1 := HX.out.cell1; have x2 := HX.out.cell2; have x3 := HX.out.cell3
         clear hb))
      | (go_at_call 9
         go_must (
         refine (great_is _ n 4096 _ HGR.out _ (H.out.over HB.out) HF.out (by omega)).mono ?_
         rintro e w1 ⟨rfl, hb⟩
         have HX := Lib.hid (HX.out.on hb); have HB := Lib.hid (HB.out.trans (hb.mono HB.out.size)); have x0 := HX.out.cell0; have x1 := HX.out.cell1; have x2 := HX.out.cell2; have x3 := HX.out.cell3
         clear hb)))
    go_ret
    exact ⟨rfl, HB.out⟩

end Go.Proofs.Ytjilkpgbojjnfaa.LeafBack
