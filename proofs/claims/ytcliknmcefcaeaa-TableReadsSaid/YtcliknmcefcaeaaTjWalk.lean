/-
  TableJoins: tables that are put together in parts are the same as at once. Conditions: none.
-/
import Derived.Test.YtcliknmcefcaeaaTbNew
namespace Go.Proofs.Ytcliknmcefcaeaa.Cd
open Go.RowKit

section
variable {X Y Z : List Wr}
theorem get_two (wh : Bool) (hY : SrtW Y) (fY : FlatW Y) (hX : SrtW X) (fX : FlatW X) (k : List UInt8) : getW (mergeW wh [X, Y]) k = ((getW Y k).or (getW X k)).bind fun w => if wh && w.2.2 then none else some w := by
  unfold mergeW
  rw [getW_keep (ofW_srt _)]
  simp only [List.flatten_cons, List.flatten_nil, List.append_nil]
  unfold ofW
  rw [ofFrom_append, getW_over _ hY fY, show ofFrom [] X = X from ofW_self hX fX]
theorem get_three (wh : Bool) (hX : SrtW X) (fX : FlatW X) (hY : SrtW Y) (fY : FlatW Y) (hZ : SrtW Z) (fZ : FlatW Z) (k : List UInt8) : getW (mergeW wh [X, Y, Z]) k = ((getW Z k).or ((getW Y k).or (getW X k))).bind fun w => if wh && w.2.2 then none else some w := by
  unfold mergeW
  rw [getW_keep (ofW_srt _)]
  simp only [List.flatten_cons, List.flatten_nil, List.append_nil]
  unfold ofW
  rw [ofFrom_append, ofFrom_append, getW_over _ hZ fZ, getW_over _ hY fY, show ofFrom [] X = X from ofW_self hX fX]
theorem merge_srt (wh : Bool) (Ts : List (List Wr)) : SrtW (mergeW wh Ts) := keep_srt (ofW_srt _) wh
theorem merge_flat (wh : Bool) (Ts : List (List Wr)) : FlatW (mergeW wh Ts) := keep_flat (ofW_flat _) wh
theorem bind_self (o : Option Wr) : (o.bind fun w => if false && w.2.2 then none else some w) = o := by cases o <;> simp
theorem join_left (hX : SrtW X) (fX : FlatW X) (hY : SrtW Y) (fY : FlatW Y) (hZ : SrtW Z) (fZ : FlatW Z) : mergeW false [mergeW false [X, Y], Z] = mergeW false [X, Y, Z] :=
  srt_ext (merge_srt _ _) (merge_srt _ _) fun k => by
    rw [get_two false hZ fZ (merge_srt _ _) (merge_flat _ _), get_two false hY fY hX fX, get_three false hX fX hY fY hZ fZ, bind_self, bind_self, bind_self]
theorem join_right (hX : SrtW X) (fX : FlatW X) (hY : SrtW Y) (fY : FlatW Y) (hZ : SrtW Z) (fZ : FlatW Z) : mergeW false [X, mergeW false [Y, Z]] = mergeW false [X, Y, Z] :=
  srt_ext (merge_srt _ _) (merge_srt _ _) fun k => by
    rw [get_two false (merge_srt _ _) (merge_flat _ _) hX fX, get_two false hZ fZ hY fY, get_three false hX fX hY fY hZ fZ, bind_self, bind_self, bind_self, Option.or_assoc]
theorem join_whole (hX : SrtW X) (fX : FlatW X) (hY : SrtW Y) (fY : FlatW Y) (hZ : SrtW Z) (fZ : FlatW Z) : mergeW true [mergeW true [X, Y], Z] = mergeW true [X, Y, Z] :=
  srt_ext (merge_srt _ _) (merge_srt _ _) fun k => by
    rw [get_two true hZ fZ (merge_srt _ _) (merge_flat _ _), get_two true hY fY hX fX, get_three true hX fX hY fY hZ fZ]
    cases getW Z k with
    | some z => simp
    | none =>
      cases (getW Y k).or (getW X k) with
      | none => rfl
      | some p =>
        cases h : p.2.2 <;> simp [h]
theorem join_self (hX : SrtW X) (fX : FlatW X) : mergeW false [X, X] = X :=
  srt_ext (merge_srt _ _) hX fun k => by
    rw [get_two false hX fX hX fX, bind_self]
    cases getW X k <;> rfl
theorem merge_len (wh : Bool) (Ts : List (List Wr)) : (mergeW wh Ts).length ≤ Ts.flatten.length := Nat.le_trans (List.length_filter_le _ _) (ofW_len _)
theorem len_of {l : List Wr} {n : Nat} (h : sumW l ≤ n) : (ofW l).length ≤ n := Nat.le_trans (ofW_len l) (Nat.le_trans (sumW_len l) h)
end

theorem TbIn.up {w w' : World} {v : Value} {l : List Wr} (h : TbIn w w.heap.size v l) (hb : Below w.heap.size w w') : TbIn w' w'.heap.size v l := (h.below hb).more hb.size

set_option maxRecDepth 100000 in
set_option maxHeartbeats 6400000 in
theorem tj_main (va vb vc : Value) (a b c : List Wr) (w : World) (ha : TbIn w w.heap.size va a) (Fa : FitW a) (hb0 : TbIn w w.heap.size vb b) (Fb : FitW b) (hc : TbIn w w.heap.size vc c) (Fc : FitW c) :
    Calls Try.prog 8 #[va, vb, vc] w (Gives (.bool true) w) := by
  have Ha := Lib.hid ha
  have Hb := Lib.hid hb0
  have Hc := Lib.hid hc
  have HB : Hid (Below w.heap.size w w) := Below.refl _ _
  clear ha hb0 hc
  go_enter Try.func8, Try.ntmps8
  have CA := Lib.hid (alive10 w)
  go_wp2_with fail
  refine CA.out.mono ?_
  rintro e w1 ⟨rfl, hb⟩
  clear CA
  replace Ha := Lib.hid (Ha.out.up hb)
  replace Hb := Lib.hid (Hb.out.up hb)
  replace Hc := Lib.hid (Hc.out.up hb)
  replace HB := Lib.hid (HB.out.trans (hb.mono HB.out.size))
  clear hb
  have CG := Lib.hid (great10_any _ _ 4096 w1 Ha.out Fa (by omega))
  go_wp2_with fail
  refine CG.out.mono ?_
  rintro e w2 ⟨gr, rfl, hb, hg⟩
  clear CG
  replace Ha := Lib.hid (Ha.out.up hb)
  replace Hb := Lib.hid (Hb.out.up hb)
  replace Hc := Lib.hid (Hc.out.up hb)
  replace HB := Lib.hid (HB.out.trans (hb.mono HB.out.size))
  clear hb
  cases gr
  case true =>
    clear hg
    go_wp2_with fail
    go_ret
    exact ⟨rfl, HB.out⟩
  have Sa := hg rfl
  have Na := len_of Sa
  have Ma := Nat.le_trans (sumW_len a) Sa
  clear hg
  have CG := Lib.hid (great10_any _ _ 4096 w2 Hb.out Fb (by omega))
  go_wp2_with fail
  refine CG.out.mono ?_
  rintro e w3 ⟨gr, rfl, hb, hg⟩
  clear CG
  replace Ha := Lib.hid (Ha.out.up hb)
  replace Hb := Lib.hid (Hb.out.up hb)
  replace Hc := Lib.hid (Hc.out.up hb)
  replace HB := Lib.hid (HB.out.trans (hb.mono HB.out.size))
  clear hb
  cases gr
  case true =>
    clear hg
    go_wp2_with fail
    go_ret
    exact ⟨rfl, HB.out⟩
  have Sb := hg rfl
  have Nb := len_of Sb
  have Mb := Nat.le_trans (sumW_len b) Sb
  clear hg
  have CG := Lib.hid (great10_any _ _ 4096 w3 Hc.out Fc (by omega))
  go_wp2_with fail
  refine CG.out.mono ?_
  rintro e w4 ⟨gr, rfl, hb, hg⟩
  clear CG
  replace Ha := Lib.hid (Ha.out.up hb)
  replace Hb := Lib.hid (Hb.out.up hb)
  replace Hc := Lib.hid (Hc.out.up hb)
  replace HB := Lib.hid (HB.out.trans (hb.mono HB.out.size))
  clear hb
  cases gr
  case true =>
    clear hg
    go_wp2_with fail
    go_ret
    exact ⟨rfl, HB.out⟩
  have Sc := hg rfl
  have Nc := len_of Sc
  have Mc := Nat.le_trans (sumW_len c) Sc
  clear hg
  have CO := Lib.hid (tof_any _ _ w4 Ha.out Fa (by omega))
  go_wp2_with fail
  refine CO.out.mono ?_
  intro e w5 h1
  obtain ⟨v1, rfl, ⟨gX, rfl⟩, ht, hb⟩ := h1.tab
  clear CO
  replace Ha := Lib.hid (Ha.out.up hb)
  replace Hb := Lib.hid (Hb.out.up hb)
  replace Hc := Lib.hid (Hc.out.up hb)
  replace HB := Lib.hid (HB.out.trans (hb.mono HB.out.size))
  obtain ⟨X, eX⟩ : ∃ T, ofW a = T := ⟨_, rfl⟩
  rw [eX] at ht
  have HX := Lib.hid ht
  have LX : X.length ≤ 4096 := by rw [← eX]; exact Na
  have EX := Lib.hid eX
  clear hb ht h1 eX
  have CO := Lib.hid (tof_any _ _ w5 Hb.out Fb (by omega))
  go_wp2_with fail
  refine CO.out.mono ?_
  intro e w6 h1
  obtain ⟨v1, rfl, ⟨gY, rfl⟩, ht, hb⟩ := h1.tab
  clear CO
  replace Ha := Lib.hid (Ha.out.up hb)
  replace Hb := Lib.hid (Hb.out.up hb)
  replace Hc := Lib.hid (Hc.out.up hb)
  replace HX := Lib.hid (HX.out.below hb)
  replace HB := Lib.hid (HB.out.trans (hb.mono HB.out.size))
  obtain ⟨Y, eY⟩ : ∃ T, ofW b = T := ⟨_, rfl⟩
  rw [eY] at ht
  have HY := Lib.hid ht
  have LY : Y.length ≤ 4096 := by rw [← eY]; exact Nb
  have EY := Lib.hid eY
  clear hb ht h1 eY
  have CO := Lib.hid (tof_any _ _ w6 Hc.out Fc (by omega))
  go_wp2_with fail
  refine CO.out.mono ?_
  intro e w7 h1
  obtain ⟨v1, rfl, ⟨gZ, rfl⟩, ht, hb⟩ := h1.tab
  clear CO
  replace Ha := Lib.hid (Ha.out.up hb)
  replace Hb := Lib.hid (Hb.out.up hb)
  replace Hc := Lib.hid (Hc.out.up hb)
  replace HX := Lib.hid (HX.out.below hb)
  replace HY := Lib.hid (HY.out.below hb)
  replace HB := Lib.hid (HB.out.trans (hb.mono HB.out.size))
  obtain ⟨Z, eZ⟩ : ∃ T, ofW c = T := ⟨_, rfl⟩
  rw [eZ] at ht
  have HZ := Lib.hid ht
  have LZ : Z.length ≤ 4096 := by rw [← eZ]; exact Nc
  have EZ := Lib.hid eZ
  clear hb ht h1 eZ
  clear Ha Hb Hc
  have CM := Lib.hid (tmerge_any false _ _ _ (tabs_three HX.out HY.out HZ.out 25) (by simp; omega))
  go_wp2_with fail
  refine CM.out.mono ?_
  intro e w8 h1
  obtain ⟨v1, rfl, ⟨gP1, rfl⟩, ht, hb1⟩ := h1.tab
  clear CM
  have hb : Below w7.heap.size w7 w8 := (((Below.refl _ _).alloc (Nat.le_refl _) _).trans (hb1.mono (by simp)))
  replace HX := Lib.hid (HX.out.below hb)
  replace HY := Lib.hid (HY.out.below hb)
  replace HZ := Lib.hid (HZ.out.below hb)
  replace HB := Lib.hid (HB.out.trans (hb.mono HB.out.size))
  obtain ⟨P1, eP1⟩ : ∃ T, mergeW false [X, Y, Z] = T := ⟨_, rfl⟩
  rw [eP1] at ht
  have HP1 := Lib.hid ht
  have LP1 : P1.length ≤ 12288 := by rw [← eP1]; refine Nat.le_trans (merge_len _ _) ?_; simp; omega
  have EP1 := Lib.hid eP1
  clear hb hb1 ht h1 eP1
  have CM := Lib.hid (tmerge_any false _ _ _ (tabs_two HX.out HY.out 25) (by simp; omega))
  go_wp2_with fail
  refine CM.out.mono ?_
  intro e w9 h1
  obtain ⟨v1, rfl, ⟨gP2, rfl⟩, ht, hb1⟩ := h1.tab
  clear CM
  have hb : Below w8.heap.size w8 w9 := (((Below.refl _ _).alloc (Nat.le_refl _) _).trans (hb1.mono (by simp)))
  replace HX := Lib.hid (HX.out.below hb)
  replace HY := Lib.hid (HY.out.below hb)
  replace HZ := Lib.hid (HZ.out.below hb)
  replace HP1 := Lib.hid (HP1.out.below hb)
  replace HB := Lib.hid (HB.out.trans (hb.mono HB.out.size))
  obtain ⟨P2, eP2⟩ : ∃ T, mergeW false [X, Y] = T := ⟨_, rfl⟩
  rw [eP2] at ht
  have HP2 := Lib.hid ht
  have LP2 : P2.length ≤ 8192 := by rw [← eP2]; refine Nat.le_trans (merge_len _ _) ?_; simp; omega
  have EP2 := Lib.hid eP2
  clear hb hb1 ht h1 eP2
  have CM := Lib.hid (tmerge_any false _ _ _ (tabs_two HP2.out HZ.out 25) (by simp; omega))
  go_wp2_with fail
  refine CM.out.mono ?_
  intro e w10 h1
  obtain ⟨v1, rfl, ⟨gP3, rfl⟩, ht, hb1⟩ := h1.tab
  clear CM
  have hb : Below w9.heap.size w9 w10 := (((Below.refl _ _).alloc (Nat.le_refl _) _).trans (hb1.mono (by simp)))
  replace HX := Lib.hid (HX.out.below hb)
  replace HY := Lib.hid (HY.out.below hb)
  replace HZ := Lib.hid (HZ.out.below hb)
  replace HP1 := Lib.hid (HP1.out.below hb)
  replace HP2 := Lib.hid (HP2.out.below hb)
  replace HB := Lib.hid (HB.out.trans (hb.mono HB.out.size))
  obtain ⟨P3, eP3⟩ : ∃ T, mergeW false [P2, Z] = T := ⟨_, rfl⟩
  rw [eP3] at ht
  have HP3 := Lib.hid ht
  have LP3 : P3.length ≤ 12288 := by rw [← eP3]; refine Nat.le_trans (merge_len _ _) ?_; simp; omega
  have EP3 := Lib.hid eP3
  clear hb hb1 ht h1 eP3
  clear HP2
  have CM := Lib.hid (tmerge_any false _ _ _ (tabs_two HY.out HZ.out 25) (by simp; omega))
  go_wp2_with fail
  refine CM.out.mono ?_
  intro e w11 h1
  obtain ⟨v1, rfl, ⟨gP4, rfl⟩, ht, hb1⟩ := h1.tab
  clear CM
  have hb : Below w10.heap.size w10 w11 := (((Below.refl _ _).alloc (Nat.le_refl _) _).trans (hb1.mono (by simp)))
  replace HX := Lib.hid (HX.out.below hb)
  replace HY := Lib.hid (HY.out.below hb)
  replace HZ := Lib.hid (HZ.out.below hb)
  replace HP1 := Lib.hid (HP1.out.below hb)
  replace HP3 := Lib.hid (HP3.out.below hb)
  replace HB := Lib.hid (HB.out.trans (hb.mono HB.out.size))
  obtain ⟨P4, eP4⟩ : ∃ T, mergeW false [Y, Z] = T := ⟨_, rfl⟩
  rw [eP4] at ht
  have HP4 := Lib.hid ht
  have LP4 : P4.length ≤ 8192 := by rw [← eP4]; refine Nat.le_trans (merge_len _ _) ?_; simp; omega
  have EP4 := Lib.hid eP4
  clear hb hb1 ht h1 eP4
  have CM := Lib.hid (tmerge_any false _ _ _ (tabs_two HX.out HP4.out 25) (by simp; omega))
  go_wp2_with fail
  refine CM.out.mono ?_
  intro e w12 h1
  obtain ⟨v1, rfl, ⟨gP5, rfl⟩, ht, hb1⟩ := h1.tab
  clear CM
  have hb : Below w11.heap.size w11 w12 := (((Below.refl _ _).alloc (Nat.le_refl _) _).trans (hb1.mono (by simp)))
  replace HX := Lib.hid (HX.out.below hb)
  replace HY := Lib.hid (HY.out.below hb)
  replace HZ := Lib.hid (HZ.out.below hb)
  replace HP1 := Lib.hid (HP1.out.below hb)
  replace HP3 := Lib.hid (HP3.out.below hb)
  replace HP4 := Lib.hid (HP4.out.below hb)
  replace HB := Lib.hid (HB.out.trans (hb.mono HB.out.size))
  obtain ⟨P5, eP5⟩ : ∃ T, mergeW false [X, P4] = T := ⟨_, rfl⟩
  rw [eP5] at ht
  have HP5 := Lib.hid ht
  have LP5 : P5.length ≤ 12288 := by rw [← eP5]; refine Nat.le_trans (merge_len _ _) ?_; simp; omega
  have EP5 := Lib.hid eP5
  clear hb hb1 ht h1 eP5
  clear HP4
  have CM := Lib.hid (tmerge_any true _ _ _ (tabs_two HX.out HY.out 25) (by simp; omega))
  go_wp2_with fail
  refine CM.out.mono ?_
  intro e w13 h1
  obtain ⟨v1, rfl, ⟨gP6, rfl⟩, ht, hb1⟩ := h1.tab
  clear CM
  have hb : Below w12.heap.size w12 w13 := (((Below.refl _ _).alloc (Nat.le_refl _) _).trans (hb1.mono (by simp)))
  replace HX := Lib.hid (HX.out.below hb)
  replace HY := Lib.hid (HY.out.below hb)
  replace HZ := Lib.hid (HZ.out.below hb)
  replace HP1 := Lib.hid (HP1.out.below hb)
  replace HP3 := Lib.hid (HP3.out.below hb)
  replace HP5 := Lib.hid (HP5.out.below hb)
  replace HB := Lib.hid (HB.out.trans (hb.mono HB.out.size))
  obtain ⟨P6, eP6⟩ : ∃ T, mergeW true [X, Y] = T := ⟨_, rfl⟩
  rw [eP6] at ht
  have HP6 := Lib.hid ht
  have LP6 : P6.length ≤ 8192 := by rw [← eP6]; refine Nat.le_trans (merge_len _ _) ?_; simp; omega
  have EP6 := Lib.hid eP6
  clear hb hb1 ht h1 eP6
  have CM := Lib.hid (tmerge_any true _ _ _ (tabs_two HP6.out HZ.out 25) (by simp; omega))
  go_wp2_with fail
  refine CM.out.mono ?_
  intro e w14 h1
  obtain ⟨v1, rfl, ⟨gP7, rfl⟩, ht, hb1⟩ := h1.tab
  clear CM
  have hb : Below w13.heap.size w13 w14 := (((Below.refl _ _).alloc (Nat.le_refl _) _).trans (hb1.mono (by simp)))
  replace HX := Lib.hid (HX.out.below hb)
  replace HY := Lib.hid (HY.out.below hb)
  replace HZ := Lib.hid (HZ.out.below hb)
  replace HP1 := Lib.hid (HP1.out.below hb)
  replace HP3 := Lib.hid (HP3.out.below hb)
  replace HP5 := Lib.hid (HP5.out.below hb)
  replace HP6 := Lib.hid (HP6.out.below hb)
  replace HB := Lib.hid (HB.out.trans (hb.mono HB.out.size))
  obtain ⟨P7, eP7⟩ : ∃ T, mergeW true [P6, Z] = T := ⟨_, rfl⟩
  rw [eP7] at ht
  have HP7 := Lib.hid ht
  have LP7 : P7.length ≤ 12288 := by rw [← eP7]; refine Nat.le_trans (merge_len _ _) ?_; simp; omega
  have EP7 := Lib.hid eP7
  clear hb hb1 ht h1 eP7
  clear HP6
  have hX := HX.out.srt
  have fX := HX.out.flat
  have hY := HY.out.srt
  have fY := HY.out.flat
  have hZ := HZ.out.srt
  have fZ := HZ.out.flat
  have Q3 : Hid (P1 = P3) := by unfold Hid; rw [← EP1.out, ← EP3.out, ← EP2.out]; exact (join_left hX fX hY fY hZ fZ).symm
  have Q5 : Hid (P1 = P5) := by unfold Hid; rw [← EP1.out, ← EP5.out, ← EP4.out]; exact (join_right hX fX hY fY hZ fZ).symm
  have Q7 : Hid (mergeW true [X, Y, Z] = P7) := by unfold Hid; rw [← EP7.out, ← EP6.out]; exact (join_whole hX fX hY fY hZ fZ).symm
  have QX : Hid (mergeW false [X, X] = X) := join_self hX fX
  clear hX fX hY fY hZ fZ
  have CA := Lib.hid (tall_any _ _ w14 HP1.out (by omega))
  go_wp2_with fail
  refine CA.out.mono ?_
  rintro e w15 ⟨vl1, rfl, hn, hb⟩
  clear CA
  replace HX := Lib.hid (HX.out.below hb)
  replace HY := Lib.hid (HY.out.below hb)
  replace HZ := Lib.hid (HZ.out.below hb)
  replace HP1 := Lib.hid (HP1.out.below hb)
  replace HP3 := Lib.hid (HP3.out.below hb)
  replace HP5 := Lib.hid (HP5.out.below hb)
  replace HP7 := Lib.hid (HP7.out.below hb)
  replace HB := Lib.hid (HB.out.trans (hb.mono HB.out.size))
  have Hl1 := Lib.hid hn.tbIn
  clear hb hn
  have CA := Lib.hid (tall_any _ _ w15 HP3.out (by omega))
  go_wp2_with fail
  refine CA.out.mono ?_
  rintro e w16 ⟨vl2, rfl, hn, hb⟩
  clear CA
  replace HX := Lib.hid (HX.out.below hb)
  replace HY := Lib.hid (HY.out.below hb)
  replace HZ := Lib.hid (HZ.out.below hb)
  replace HP1 := Lib.hid (HP1.out.below hb)
  replace HP3 := Lib.hid (HP3.out.below hb)
  replace HP5 := Lib.hid (HP5.out.below hb)
  replace HP7 := Lib.hid (HP7.out.below hb)
  replace Hl1 := Lib.hid (Hl1.out.up hb)
  replace HB := Lib.hid (HB.out.trans (hb.mono HB.out.size))
  have Hl2 := Lib.hid hn.tbIn
  clear hb hn
  have CS := Lib.hid (same10_any _ _ _ _ w16 Hl1.out Hl2.out)
  go_wp2_with fail
  refine CS.out.mono ?_
  rintro e w17 ⟨sm, rfl, hs, hb⟩
  obtain rfl : sm = true := hs.2 (Q3.out)
  clear CS hs
  replace HX := Lib.hid (HX.out.below hb)
  replace HY := Lib.hid (HY.out.below hb)
  replace HZ := Lib.hid (HZ.out.below hb)
  replace HP1 := Lib.hid (HP1.out.below hb)
  replace HP3 := Lib.hid (HP3.out.below hb)
  replace HP5 := Lib.hid (HP5.out.below hb)
  replace HP7 := Lib.hid (HP7.out.below hb)
  replace Hl1 := Lib.hid (Hl1.out.up hb)
  replace Hl2 := Lib.hid (Hl2.out.up hb)
  replace HB := Lib.hid (HB.out.trans (hb.mono HB.out.size))
  clear hb
  clear Hl1 Hl2 HP3
  have CA := Lib.hid (tall_any _ _ w17 HP1.out (by omega))
  go_wp2_with fail
  refine CA.out.mono ?_
  rintro e w18 ⟨vl3, rfl, hn, hb⟩
  clear CA
  replace HX := Lib.hid (HX.out.below hb)
  replace HY := Lib.hid (HY.out.below hb)
  replace HZ := Lib.hid (HZ.out.below hb)
  replace HP1 := Lib.hid (HP1.out.below hb)
  replace HP5 := Lib.hid (HP5.out.below hb)
  replace HP7 := Lib.hid (HP7.out.below hb)
  replace HB := Lib.hid (HB.out.trans (hb.mono HB.out.size))
  have Hl3 := Lib.hid hn.tbIn
  clear hb hn
  have CA := Lib.hid (tall_any _ _ w18 HP5.out (by omega))
  go_wp2_with fail
  refine CA.out.mono ?_
  rintro e w19 ⟨vl4, rfl, hn, hb⟩
  clear CA
  replace HX := Lib.hid (HX.out.below hb)
  replace HY := Lib.hid (HY.out.below hb)
  replace HZ := Lib.hid (HZ.out.below hb)
  replace HP1 := Lib.hid (HP1.out.below hb)
  replace HP5 := Lib.hid (HP5.out.below hb)
  replace HP7 := Lib.hid (HP7.out.below hb)
  replace Hl3 := Lib.hid (Hl3.out.up hb)
  replace HB := Lib.hid (HB.out.trans (hb.mono HB.out.size))
  have Hl4 := Lib.hid hn.tbIn
  clear hb hn
  have CS := Lib.hid (same10_any _ _ _ _ w19 Hl3.out Hl4.out)
  go_wp2_with fail
  refine CS.out.mono ?_
  rintro e w20 ⟨sm, rfl, hs, hb⟩
  obtain rfl : sm = true := hs.2 (Q5.out)
  clear CS hs
  replace HX := Lib.hid (HX.out.below hb)
  replace HY := Lib.hid (HY.out.below hb)
  replace HZ := Lib.hid (HZ.out.below hb)
  replace HP1 := Lib.hid (HP1.out.below hb)
  replace HP5 := Lib.hid (HP5.out.below hb)
  replace HP7 := Lib.hid (HP7.out.below hb)
  replace Hl3 := Lib.hid (Hl3.out.up hb)
  replace Hl4 := Lib.hid (Hl4.out.up hb)
  replace HB := Lib.hid (HB.out.trans (hb.mono HB.out.size))
  clear hb
  clear Hl3 Hl4 HP5 HP1
  have CM := Lib.hid (tmerge_any true _ _ _ (tabs_three HX.out HY.out HZ.out 25) (by simp; omega))
  go_wp2_with fail
  refine CM.out.mono ?_
  intro e w21 h1
  obtain ⟨v1, rfl, ⟨gP8, rfl⟩, ht, hb1⟩ := h1.tab
  clear CM
  have hb : Below w20.heap.size w20 w21 := (((Below.refl _ _).alloc (Nat.le_refl _) _).trans (hb1.mono (by simp)))
  replace HX := Lib.hid (HX.out.below hb)
  replace HY := Lib.hid (HY.out.below hb)
  replace HZ := Lib.hid (HZ.out.below hb)
  replace HP7 := Lib.hid (HP7.out.below hb)
  replace HB := Lib.hid (HB.out.trans (hb.mono HB.out.size))
  obtain ⟨P8, eP8⟩ : ∃ T, mergeW true [X, Y, Z] = T := ⟨_, rfl⟩
  rw [eP8] at ht
  have HP8 := Lib.hid ht
  have LP8 : P8.length ≤ 12288 := by rw [← eP8]; refine Nat.le_trans (merge_len _ _) ?_; simp; omega
  have EP8 := Lib.hid eP8
  clear hb hb1 ht h1 eP8
  have CA := Lib.hid (tall_any _ _ w21 HP8.out (by omega))
  go_wp2_with fail
  refine CA.out.mono ?_
  rintro e w22 ⟨vl5, rfl, hn, hb⟩
  clear CA
  replace HX := Lib.hid (HX.out.below hb)
  replace HY := Lib.hid (HY.out.below hb)
  replace HZ := Lib.hid (HZ.out.below hb)
  replace HP7 := Lib.hid (HP7.out.below hb)
  replace HP8 := Lib.hid (HP8.out.below hb)
  replace HB := Lib.hid (HB.out.trans (hb.mono HB.out.size))
  have Hl5 := Lib.hid hn.tbIn
  clear hb hn
  have CA := Lib.hid (tall_any _ _ w22 HP7.out (by omega))
  go_wp2_with fail
  refine CA.out.mono ?_
  rintro e w23 ⟨vl6, rfl, hn, hb⟩
  clear CA
  replace HX := Lib.hid (HX.out.below hb)
  replace HY := Lib.hid (HY.out.below hb)
  replace HZ := Lib.hid (HZ.out.below hb)
  replace HP7 := Lib.hid (HP7.out.below hb)
  replace HP8 := Lib.hid (HP8.out.below hb)
  replace Hl5 := Lib.hid (Hl5.out.up hb)
  replace HB := Lib.hid (HB.out.trans (hb.mono HB.out.size))
  have Hl6 := Lib.hid hn.tbIn
  clear hb hn
  have CS := Lib.hid (same10_any _ _ _ _ w23 Hl5.out Hl6.out)
  go_wp2_with fail
  refine CS.out.mono ?_
  rintro e w24 ⟨sm, rfl, hs, hb⟩
  obtain rfl : sm = true := hs.2 ((EP8.out).symm.trans Q7.out)
  clear CS hs
  replace HX := Lib.hid (HX.out.below hb)
  replace HY := Lib.hid (HY.out.below hb)
  replace HZ := Lib.hid (HZ.out.below hb)
  replace HP7 := Lib.hid (HP7.out.below hb)
  replace HP8 := Lib.hid (HP8.out.below hb)
  replace Hl5 := Lib.hid (Hl5.out.up hb)
  replace Hl6 := Lib.hid (Hl6.out.up hb)
  replace HB := Lib.hid (HB.out.trans (hb.mono HB.out.size))
  clear hb
  clear Hl5 Hl6 HP7 HP8
  have CM := Lib.hid (tmerge_any false _ _ _ (tabs_two HX.out HX.out 25) (by simp; omega))
  go_wp2_with fail
  refine CM.out.mono ?_
  intro e w25 h1
  obtain ⟨v1, rfl, ⟨gP9, rfl⟩, ht, hb1⟩ := h1.tab
  clear CM
  have hb : Below w24.heap.size w24 w25 := (((Below.refl _ _).alloc (Nat.le_refl _) _).trans (hb1.mono (by simp)))
  replace HX := Lib.hid (HX.out.below hb)
  replace HY := Lib.hid (HY.out.below hb)
  replace HZ := Lib.hid (HZ.out.below hb)
  replace HB := Lib.hid (HB.out.trans (hb.mono HB.out.size))
  obtain ⟨P9, eP9⟩ : ∃ T, mergeW false [X, X] = T := ⟨_, rfl⟩
  rw [eP9] at ht
  have HP9 := Lib.hid ht
  have LP9 : P9.length ≤ 8192 := by rw [← eP9]; refine Nat.le_trans (merge_len _ _) ?_; simp; omega
  have EP9 := Lib.hid eP9
  clear hb hb1 ht h1 eP9
  have CA := Lib.hid (tall_any _ _ w25 HP9.out (by omega))
  go_wp2_with fail
  refine CA.out.mono ?_
  rintro e w26 ⟨vl7, rfl, hn, hb⟩
  clear CA
  replace HX := Lib.hid (HX.out.below hb)
  replace HY := Lib.hid (HY.out.below hb)
  replace HZ := Lib.hid (HZ.out.below hb)
  replace HP9 := Lib.hid (HP9.out.below hb)
  replace HB := Lib.hid (HB.out.trans (hb.mono HB.out.size))
  have Hl7 := Lib.hid hn.tbIn
  clear hb hn
  have CA := Lib.hid (tall_any _ _ w26 HX.out (by omega))
  go_wp2_with fail
  refine CA.out.mono ?_
  rintro e w27 ⟨vl8, rfl, hn, hb⟩
  clear CA
  replace HX := Lib.hid (HX.out.below hb)
  replace HY := Lib.hid (HY.out.below hb)
  replace HZ := Lib.hid (HZ.out.below hb)
  replace HP9 := Lib.hid (HP9.out.below hb)
  replace Hl7 := Lib.hid (Hl7.out.up hb)
  replace HB := Lib.hid (HB.out.trans (hb.mono HB.out.size))
  have Hl8 := Lib.hid hn.tbIn
  clear hb hn
  have CS := Lib.hid (same10_any _ _ _ _ w27 Hl7.out Hl8.out)
  go_wp2_with fail
  refine CS.out.mono ?_
  rintro e w28 ⟨sm, rfl, hs, hb⟩
  obtain rfl : sm = true := hs.2 ((EP9.out).symm.trans QX.out)
  clear CS hs
  replace HX := Lib.hid (HX.out.below hb)
  replace HY := Lib.hid (HY.out.below hb)
  replace HZ := Lib.hid (HZ.out.below hb)
  replace HP9 := Lib.hid (HP9.out.below hb)
  replace Hl7 := Lib.hid (Hl7.out.up hb)
  replace Hl8 := Lib.hid (Hl8.out.up hb)
  replace HB := Lib.hid (HB.out.trans (hb.mono HB.out.size))
  clear hb
  go_wp2_with fail
  go_ret
  exact ⟨rfl, HB.out⟩

end Go.Proofs.Ytcliknmcefcaeaa.Cd

namespace Go.Proofs.Ytcliknmcefcaeaa.TableJoins
open Go.RowKit Go.Proofs.Ytcliknmcefcaeaa.Cd

theorem walk (va : Value) (a : List Wr) (vb : Value) (b : List Wr) (vc : Value) (c : List Wr) (w : World) (ha : Cd.TbIn w w.heap.size va a ∧ FitW a) (hb : Cd.TbIn w w.heap.size vb b ∧ FitW b) (hc : Cd.TbIn w w.heap.size vc c ∧ FitW c) :
    Calls Try.prog 8 #[va, vb, vc] w (Gives (.bool true) w) :=
  tj_main va vb vc a b c w ha.1 ha.2 hb.1 hb.2 hc.1 hc.2

end Go.Proofs.Ytcliknmcefcaeaa.TableJoins
