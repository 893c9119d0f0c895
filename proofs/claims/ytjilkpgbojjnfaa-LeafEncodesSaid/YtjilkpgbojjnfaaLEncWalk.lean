/-
  LeafEncodes: what its text does, call by call. Conditions: none.
-/
import Derived.Test.YtjilkpgbojjnfaaAliveL
import Derived.Test.YtjilkpgbojjnfaaRefGood
namespace Go.Proofs.Ytjilkpgbojjnfaa.LeafEncodes
open Go.RowKit Go.Proofs.Ytjilkpgbojjnfaa.Cd

theorem text_is (w : World) (B : Nat) (v : Value) (bs : List UInt8) (h : Own w B v bs) : (convert 28 9 v).run Try.prog w = .ok (.string ⟨bs.toArray⟩) w := run_text_of w _ v bs h.sl

set_option maxRecDepth 100000 in
set_option maxHeartbeats 4000000 in
theorem walk (v : Value) (n : Nd) (w : World) (h : Cd.Node w w.heap.size v n ∧ Fits n) :
    Calls Try.prog 3 #[v] w (Gives (.bool true) w) := by
  obtain ⟨h, hf⟩ := h
  have H := Lib.hid h
  have HF := Lib.hid hf
  obtain ⟨vk, vv, vi, rfl, h1, h2, h3⟩ := h
  obtain ⟨A, c, rfl, _, _⟩ := h1.len
  obtain ⟨A2, c2, rfl, _, _⟩ := h2.len
  obtain ⟨A3, c3, rfl, _, m3⟩ := h3.len
  clear h1 h2 h3
  have HX : Hid (Bx (w.alloc (.cells #[.bool n.leaf, .slice A n.keys.length c, .slice A2 n.vals.length c2, .slice A3 n.kids.length c3] 25)) w.heap.size n.leaf (.slice A n.keys.length c) (.slice A2 n.vals.length c2) (.slice A3 n.kids.length c3)) := heap_alloc_new w _
  have HB := Lib.hid (new_below w (.cells #[.bool n.leaf, .slice A n.keys.length c, .slice A2 n.vals.length c2, .slice A3 n.kids.length c3] 25))
  cases hgr : great n 8192
  · have hs := small_of hgr
    have HS := Lib.hid hs
    have HGR := Lib.hid hgr
    have hkl : n.keys.length ≤ 1000000 := by have := hs.keys; omega
    clear hgr hs
    have KE := Lib.hid (fun W (hW : Cd.Node W W.heap.size (.agg #[.bool n.leaf, .slice A n.keys.length c, .slice A2 n.vals.length c2, .slice A3 n.kids.length c3]) n) => encode_any _ n W hW HS.out HF.out.kid)
    have KR := Lib.hid (fun W (hW : Cd.Node W W.heap.size (.agg #[.bool n.leaf, .slice A n.keys.length c, .slice A2 n.vals.length c2, .slice A3 n.kids.length c3]) n) => refgood_any _ n W hW hkl)
    have KG := Lib.hid (fun W (hW : Cd.Node W W.heap.size (.agg #[.bool n.leaf, .slice A n.keys.length c, .slice A2 n.vals.length c2, .slice A3 n.kids.length c3]) n) => lgood_any _ n W hW hkl)
    have KS := Lib.hid (fun W (hW : Cd.Node W W.heap.size (.agg #[.bool n.leaf, .slice A n.keys.length c, .slice A2 n.vals.length c2, .slice A3 n.kids.length c3]) n) => lsize_any _ n W hW HS.out HF.out.kid)
    cases hg : good n
    · have hE := encB_bad hg
      have hz : sizeN n = -1 := by unfold sizeN; rw [hg]; rfl
      rw [hE.1, hE.2] at KE
      rw [hg] at KR KG
      rw [hz] at KS
      clear hE hz hg
      go_enter Try.func3, Try.ntmps3
      go_wp2_with (first
        | (go_at_call 8
           go_must (
           refine (aliveL_any _).mono ?_
           rintro e w1 ⟨rfl, hb⟩
           have HX := Lib.hid (HX.out.on hb); have HB := Lib.hid (HB.out.trans (hb.mono HB.out.size)); have x0 := HX.out.cell0; have x1 := HX.out.cell1; have x2 := HX.out.cell2; have x3 := HX.out.cell3
           clear hb))
        | (go_at_call 9
           go_must (
           refine (great_is _ n 8192 _ HGR.out _ (H.out.over HB.out) HF.out (by omega)).mono ?_
           rintro e w1 ⟨rfl, hb⟩
           have HX := Lib.hid (HX.out.on hb); have HB := Lib.hid (HB.out.trans (hb.mono HB.out.size)); have x0 := HX.out.cell0; have x1 := HX.out.cell1; have x2 := HX.out.cell2; have x3 := HX.out.cell3
           clear hb))
        | (go_at_call 10
           go_must (
           refine (KE.out _ (H.out.over HB.out)).mono ?_
           rintro e w1 ⟨v1, rfl, ho1, hb⟩
           obtain ⟨B1, d1, rfl, _, _⟩ := ho1.sl.len
           have HO := Lib.hid ho1
           have HX := Lib.hid (HX.out.on hb); have HB := Lib.hid (HB.out.trans (hb.mono HB.out.size)); have x0 := HX.out.cell0; have x1 := HX.out.cell1; have x2 := HX.out.cell2; have x3 := HX.out.cell3
           clear hb ho1))
        | (go_at_call 11
           go_must (
           refine (KR.out _ (H.out.over HB.out)).mono ?_
           rintro e w1 ⟨rfl, hb⟩
           have HX := Lib.hid (HX.out.on hb); have HB := Lib.hid (HB.out.trans (hb.mono HB.out.size)); have x0 := HX.out.cell0; have x1 := HX.out.cell1; have x2 := HX.out.cell2; have x3 := HX.out.cell3
           clear hb))
        | (go_at_call 12
           go_must (
           refine (KG.out _ (H.out.over HB.out)).mono ?_
           rintro e w1 ⟨rfl, hb⟩
           have HX := Lib.hid (HX.out.on hb); have HB := Lib.hid (HB.out.trans (hb.mono HB.out.size)); have x0 := HX.out.cell0; have x1 := HX.out.cell1; have x2 := HX.out.cell2; have x3 := HX.out.cell3
           clear hb))
        | (go_at_call 13
           go_must (
           refine (KS.out _ (H.out.over HB.out)).mono ?_
           rintro e w1 ⟨rfl, hb⟩
           have HX := Lib.hid (HX.out.on hb); have HB := Lib.hid (HB.out.trans (hb.mono HB.out.size)); have x0 := HX.out.cell0; have x1 := HX.out.cell1; have x2 := HX.out.cell2; have x3 := HX.out.cell3
           clear hb)))
      go_ret
      exact ⟨rfl, HB.out⟩
    · have KB := Lib.hid (fun W (hW : Cd.Node W W.heap.size (.agg #[.bool n.leaf, .slice A n.keys.length c, .slice A2 n.vals.length c2, .slice A3 n.kids.length c3]) n) => refbytes_any _ n W hW HS.out ((good_iff n).1 hg))
      have hz : sizeN n = ((encN n).length : Nat) := by unfold sizeN; rw [hg]; rfl
      by_cases hl : 512 < (encN n).length
      · have hE := encB_long hg hl
        rw [hE.1, hE.2] at KE
        rw [hg] at KR KG
        rw [hz] at KS
        clear hE hz hg
        generalize encN n = bs at *
        have hbz : (ByteArray.mk bs.toArray).size = bs.length := rfl
        have hql : ((bs.length : Int) == (bs.length : Int)) = true := by simp
        go_enter Try.func3, Try.ntmps3
        go_wp2_with (first
          | (go_at_call 8
             go_must (
             refine (aliveL_any _).mono ?_
             rintro e w1 ⟨rfl, hb⟩
             have HX := Lib.hid (HX.out.on hb); have HB := Lib.hid (HB.out.trans (hb.mono HB.out.size)); have x0 := HX.out.cell0; have x1 := HX.out.cell1; have x2 := HX.out.cell2; have x3 := HX.out.cell3
             clear hb))
          | (go_at_call 9
             go_must (
             refine (great_is _ n 8192 _ HGR.out _ (H.out.over HB.out) HF.out (by omega)).mono ?_
             rintro e w1 ⟨rfl, hb⟩
             have HX := Lib.hid (HX.out.on hb); have HB := Lib.hid (HB.out.trans (hb.mono HB.out.size)); have x0 := HX.out.cell0; have x1 := HX.out.cell1; have x2 := HX.out.cell2; have x3 := HX.out.cell3
             clear hb))
          | (go_at_call 10
             go_must (
             refine (KE.out _ (H.out.over HB.out)).mono ?_
             rintro e w1 ⟨v1, rfl, ho1, hb⟩
             obtain ⟨B1, d1, rfl, _, _⟩ := ho1.sl.len
             have HO := Lib.hid ho1
             have HX := Lib.hid (HX.out.on hb); have HB := Lib.hid (HB.out.trans (hb.mono HB.out.size)); have x0 := HX.out.cell0; have x1 := HX.out.cell1; have x2 := HX.out.cell2; have x3 := HX.out.cell3
             clear hb ho1))
          | (go_at_call 11
             go_must (
             refine (KR.out _ (H.out.over HB.out)).mono ?_
             rintro e w1 ⟨rfl, hb⟩
             have HX := Lib.hid (HX.out.on hb); have HB := Lib.hid (HB.out.trans (hb.mono HB.out.size)); have x0 := HX.out.cell0; have x1 := HX.out.cell1; have x2 := HX.out.cell2; have x3 := HX.out.cell3
             clear hb))
          | (go_at_call 12
             go_must (
             refine (KG.out _ (H.out.over HB.out)).mono ?_
             rintro e w1 ⟨rfl, hb⟩
             have HX := Lib.hid (HX.out.on hb); have HB := Lib.hid (HB.out.trans (hb.mono HB.out.size)); have x0 := HX.out.cell0; have x1 := HX.out.cell1; have x2 := HX.out.cell2; have x3 := HX.out.cell3
             clear hb))
          | (go_at_call 13
             go_must (
             refine (KS.out _ (H.out.over HB.out)).mono ?_
             rintro e w1 ⟨rfl, hb⟩
             have HX := Lib.hid (HX.out.on hb); have HB := Lib.hid (HB.out.trans (hb.mono HB.out.size)); have x0 := HX.out.cell0; have x1 := HX.out.cell1; have x2 := HX.out.cell2; have x3 := HX.out.cell3
             clear hb))
          | (go_at_call 14
             go_must (
             refine (KB.out _ (H.out.over HB.out)).mono ?_
             rintro e w1 ⟨rfl, hb⟩
             have HX := Lib.hid (HX.out.on hb); have HB := Lib.hid (HB.out.trans (hb.mono HB.out.size)); have x0 := HX.out.cell0; have x1 := HX.out.cell1; have x2 := HX.out.cell2; have x3 := HX.out.cell3
             clear hb)))
        go_ret
        exact ⟨rfl, HB.out⟩
      · have hE := encB_good hg hl
        rw [hE.1, hE.2] at KE
        rw [hg] at KR KG
        rw [hz] at KS
        clear hE hz hg
        generalize encN n = bs at *
        have hbz : (ByteArray.mk bs.toArray).size = bs.length := rfl
        have hql : ((bs.length : Int) == (bs.length : Int)) = true := by simp
        have hqs : (bs == bs) = true := by simp
        go_enter Try.func3, Try.ntmps3
        go_wp2_with (first
          | (go_at_call 8
             go_must (
             refine (aliveL_any _).mono ?_
             rintro e w1 ⟨rfl, hb⟩
             have HX := Lib.hid (HX.out.on hb); have HB := Lib.hid (HB.out.trans (hb.mono HB.out.size)); have x0 := HX.out.cell0; have x1 := HX.out.cell1; have x2 := HX.out.cell2; have x3 := HX.out.cell3
             clear hb))
          | (go_at_call 9
             go_must (
             refine (great_is _ n 8192 _ HGR.out _ (H.out.over HB.out) HF.out (by omega)).mono ?_
             rintro e w1 ⟨rfl, hb⟩
             have HX := Lib.hid (HX.out.on hb); have HB := Lib.hid (HB.out.trans (hb.mono HB.out.size)); have x0 := HX.out.cell0; have x1 := HX.out.cell1; have x2 := HX.out.cell2; have x3 := HX.out.cell3
             clear hb))
          | (go_at_call 10
             go_must (
             refine (KE.out _ (H.out.over HB.out)).mono ?_
             rintro e w1 ⟨v1, rfl, ho1, hb⟩
             obtain ⟨B1, d1, rfl, _, _⟩ := ho1.sl.len
             have HO := Lib.hid ho1
             have HX := Lib.hid (HX.out.on hb); have HB := Lib.hid (HB.out.trans (hb.mono HB.out.size)); have x0 := HX.out.cell0; have x1 := HX.out.cell1; have x2 := HX.out.cell2; have x3 := HX.out.cell3; have hcv := text_is _ _ _ _ ho1
             clear hb ho1))
          | (go_at_call 11
             go_must (
             refine (KR.out _ (H.out.over HB.out)).mono ?_
             rintro e w1 ⟨rfl, hb⟩
             have HX := Lib.hid (HX.out.on hb); have HB := Lib.hid (HB.out.trans (hb.mono HB.out.size)); have x0 := HX.out.cell0; have x1 := HX.out.cell1; have x2 := HX.out.cell2; have x3 := HX.out.cell3; have HO := Lib.hid (HO.out.keep hb)
             clear hb))
          | (go_at_call 12
             go_must (
             refine (KG.out _ (H.out.over HB.out)).mono ?_
             rintro e w1 ⟨rfl, hb⟩
             have HX := Lib.hid (HX.out.on hb); have HB := Lib.hid (HB.out.trans (hb.mono HB.out.size)); have x0 := HX.out.cell0; have x1 := HX.out.cell1; have x2 := HX.out.cell2; have x3 := HX.out.cell3; have HO := Lib.hid (HO.out.keep hb)
             clear hb))
          | (go_at_call 13
             go_must (
             refine (KS.out _ (H.out.over HB.out)).mono ?_
             rintro e w1 ⟨rfl, hb⟩
             have HX := Lib.hid (HX.out.on hb); have HB := Lib.hid (HB.out.trans (hb.mono HB.out.size)); have x0 := HX.out.cell0; have x1 := HX.out.cell1; have x2 := HX.out.cell2; have x3 := HX.out.cell3; have HO := Lib.hid (HO.out.keep hb); have hcv := text_is _ _ _ _ HO.out
             clear hb))
          | (go_at_call 14
             go_must (
             refine (KB.out _ (H.out.over HB.out)).mono ?_
             rintro e w1 ⟨rfl, hb⟩
             have HX := Lib.hid (HX.out.on hb); have HB := Lib.hid (HB.out.trans (hb.mono HB.out.size)); have x0 := HX.out.cell0; have x1 := HX.out.cell1; have x2 := HX.out.cell2; have x3 := HX.out.cell3; have HO := Lib.hid (HO.out.keep hb)
             clear hb)))
        go_ret
        exact ⟨rfl, HB.out⟩
  · have HGR := Lib.hid hgr
    clear hgr
    go_enter Try.func3, Try.ntmps3
    go_wp2_with (first
      | (go_at_call 8
         go_must (
         refine (aliveL_any _).mono ?_
         rintro e w1 ⟨rfl, hb⟩
         have HX := Lib.hid (HX.out.on hb); have HB := Lib.hid (HB.out.trans (hb.mono HB.out.size)); have x0 := HX.out.cell0; have x1 := HX.out.cell1; have x2 := HX.out.cell2; have x3 := HX.out.cell3
         clear hb))
      | (go_at_call 9
         go_must (
         refine (great_is _ n 8192 _ HGR.out _ (H.out.over HB.out) HF.out (by omega)).mono ?_
         rintro e w1 ⟨rfl, hb⟩
         have HX := Lib.hid (HX.out.on hb); have HB := Lib.hid (HB.out.trans (hb.mono HB.out.size)); have x0 := HX.out.cell0; have x1 := HX.out.cell1; have x2 := HX.out.cell2; have x3 := HX.out.cell3
         clear hb)))
    go_ret
    exact ⟨rfl, HB.out⟩

end Go.Proofs.Ytjilkpgbojjnfaa.LeafEncodes
