/-
  TableKeeps: what is handed in stays, and isn't kept; what is answered is new memory. Conditions: none.
-/
import Derived.Test.YtcliknmcefcaeaaTjWalk
namespace Go.Proofs.Ytcliknmcefcaeaa.Cd
open Go.RowKit Go.Maps

/-- The keys of n writes at r can be written over. -/
def Wr8 (W : World) (r n : Nat) : Prop := ∀ i, i < n → ∃ u, W.cell? ⟨r, i * 3, none⟩ = some u ∧ W.frozen? ⟨r, i * 3, none⟩ = false
theorem Wr8.set {W : World} {r n : Nat} (h : Wr8 W r n) (j : Nat) (v : Value) : Wr8 (W.setCell ⟨r, j * 3, none⟩ v) r n := fun i hi => by
  obtain ⟨u, h1, h2⟩ := h i hi
  by_cases e : i = j
  · subst e
    exact ⟨v, World.cell?_setCell_same _ _ _ h1, by rw [World.frozen?_setCell]; exact h2⟩
  · exact ⟨u, (World.cell?_setCell_other _ _ _ _ (by intro e2; simp only [Addr.mk.injEq] at e2; omega)).trans h1, by rw [World.frozen?_setCell]; exact h2⟩
theorem Wr8.below {W W' : World} {r n : Nat} (h : Wr8 W r n) (hb : Below W.heap.size W W') (hr : r < W.heap.size) : Wr8 W' r n := fun i hi => by
  obtain ⟨u, h1, h2⟩ := h i hi
  have hbk := hb.block r hr
  exact ⟨u, (World.cell?_of_block (a := ⟨r, i * 3, none⟩) hbk).trans h1, by simp only [World.frozen?, hbk] at h2 ⊢; exact h2⟩
theorem merge_one {T : List Wr} (hs : SrtW T) (hf : FlatW T) : mergeW false [T] = T := by
  unfold mergeW
  rw [keep_false]
  simp only [List.flatten_cons, List.flatten_nil, List.append_nil]
  exact ofW_self hs hf
theorem set_grown (W : World) (r j : Nat) (v : Value) : W.grownBy (W.setCell ⟨r, j, none⟩ v) (some r) :=
  ⟨rfl, rfl, rfl, by rw [World.size_setCell]; exact Nat.le_refl _, fun k _ hk => heap_setCell_other _ _ _ _ (by intro e; exact hk (by rw [e]))⟩

theorem OwnTb.wr8 {W : World} {B : Nat} {v : Value} {l : List Wr} (ho : OwnTb W B v l) (hB : B < W.heap.size) : ∃ A c r, v = .slice A l.length c ∧ c ≤ 9223372036854775807 ∧ l.length ≤ c ∧ (0 < l.length → A = some ⟨r, 0, none⟩) ∧ B ≤ r ∧ r < W.heap.size ∧ Wr8 W r l.length := by
  rcases ho.2 with ⟨rfl, h0⟩ | ⟨g, cap, cur, rfl, hBg, hg, hn, hm, hcs, _⟩
  · exact ⟨none, 0, B, by rw [h0], by omega, by omega, fun h => by omega, Nat.le_refl _, hB, fun i hi => by omega⟩
  · refine ⟨_, cap, g, rfl, hm, hn, fun _ => rfl, hBg, (Array.getElem?_eq_some_iff.1 hg).1, fun i hi => ?_⟩
    refine ⟨cur[i * 3]'(by rw [hcs]; omega), ?_, by simp [World.frozen?, hg]⟩
    rw [cell_of_row _ _ (i * 3) _ _ _ hg]
    exact Array.getElem?_eq_getElem _
theorem NewTb.wr8 {W : World} {B : Nat} {v : Value} {l : List Wr} (ho : NewTb W B v l) : ∃ A c r, v = .slice A l.length c ∧ c ≤ 9223372036854775807 ∧ l.length ≤ c ∧ (0 < l.length → A = some ⟨r, 0, none⟩) ∧ B ≤ r ∧ Wr8 W r l.length := by
  obtain ⟨A, c, rfl, h2, h3, _, h5⟩ := ho
  by_cases h0 : 0 < l.length
  · obtain ⟨g, rfl, hg1, hg2, hc⟩ := h5 h0
    refine ⟨_, c, g, rfl, h3, h2, fun _ => rfl, hg1, fun i hi => ?_⟩
    obtain ⟨x1, x2⟩ := hc i l[i] (List.getElem?_eq_getElem hi) 0 _ rfl
    exact ⟨_, x1, x2⟩
  · exact ⟨A, c, B, rfl, h3, h2, fun h => absurd h h0, Nat.le_refl _, fun i hi => by omega⟩

theorem own_made (w : World) (B : Nat) (hB : B ≤ w.heap.size) : OwnTb (w.alloc (.cells #[] 29)) B (.slice (some ⟨w.heap.size, 0, none⟩) 0 0) [] :=
  World.ownsRow_made (base := B) (e := 29) (size := 3) w #[] 0 hB (by simp) rfl

/-- A table whose blocks lie at B or above. -/
def TabB (w : World) (B : Nat) (v : Value) (T : List Wr) : Prop := ∃ g b, v = .pointer (some ⟨g, 0, none⟩) ∧ B ≤ g ∧ B ≤ b ∧ g < w.heap.size ∧ w.cell? ⟨g, 0, none⟩ = some (.map (some b)) ∧ TabM w b T
theorem TabB.tab {w : World} {B : Nat} {v : Value} {T : List Wr} (h : TabB w B v T) : TabV w v T := by
  obtain ⟨g, b, rfl, _, _, h1, h2, h3⟩ := h
  exact .inr ⟨g, rfl, b, h1, h2, h3⟩
theorem TabB.below {w w' : World} {B : Nat} {v : Value} {T : List Wr} (h : TabB w B v T) (hb : Below w.heap.size w w') : TabB w' B v T := by
  obtain ⟨g, b, rfl, h4, h5, h1, h2, h3⟩ := h
  exact ⟨g, b, rfl, h4, h5, Nat.lt_of_lt_of_le h1 hb.size, (hb.cell (p := ⟨g, 0, none⟩) h1).trans h2, h3.below hb⟩
/-- Another block is written. -/
theorem TabV.other {w w' : World} {v : Value} {T : List Wr} {r : Nat} (h : TabV w v T) (hw : TabV w v T → w.heap.size ≤ r) (hg : w.grownBy w' (some r)) : TabV w' v T :=
  h.below ((Below.refl _ _).grown hg (Nat.le_refl _) (fun k e => by injection e with e; have := hw h; omega))
theorem TabB.low {w w' : World} {B r : Nat} {v : Value} {T : List Wr} (h : TabB w B v T) (hr : r < B) (hg : w.grownBy w' (some r)) : TabB w' B v T := by
  obtain ⟨g, b, rfl, h4, h5, h1, h2, h3⟩ := h
  exact ⟨g, b, rfl, h4, h5, Nat.lt_of_lt_of_le h1 hg.size, (World.cell?_of_block (a := ⟨g, 0, none⟩) (hg.block g h1 (fun e => by injection e with e; omega))).trans h2, h3.grown hg (fun e => by injection e with e; omega)⟩
theorem Made.tabB {w w' : World} {T : List Wr} {e : Ending} (h : Made w T e w') : ∃ v, e = .returned v ∧ (∃ g, v = .pointer (some ⟨g, 0, none⟩)) ∧ TabB w' w.heap.size v T ∧ Below w.heap.size w w' := by
  obtain ⟨g, b, h1, h2, h3, h4, h5, h6, h7, h8⟩ := h
  exact ⟨_, h1, ⟨g, rfl⟩, ⟨g, b, rfl, h2, h5, h3, h4, h7⟩, h8⟩

set_option maxRecDepth 100000 in
set_option maxHeartbeats 6400000 in
theorem tk_main (va : Value) (a : List Wr) (w : World) (ha : TbIn w w.heap.size va a) (Fa : FitW a) :
    Calls Try.prog 7 #[va] w (Gives (.bool true) w) := by
  have Ha := Lib.hid ha
  have HaO := Lib.hid ha
  have HB : Hid (Below w.heap.size w w) := Below.refl _ _
  clear ha
  go_enter Try.func7, Try.ntmps7
  have CA := Lib.hid (alive10 w)
  go_wp2_with fail
  refine CA.out.mono ?_
  rintro e w1 ⟨rfl, hb⟩
  clear CA
  replace Ha := Lib.hid (Ha.out.up hb)
  replace HB := Lib.hid (HB.out.trans (hb.mono HB.out.size))
  clear hb
  have CG := Lib.hid (great10_any _ _ 4096 w1 Ha.out Fa (by omega))
  go_wp2_with fail
  refine CG.out.mono ?_
  rintro e w2 ⟨gr, rfl, hb, hg⟩
  clear CG
  replace Ha := Lib.hid (Ha.out.up hb)
  replace HB := Lib.hid (HB.out.trans (hb.mono HB.out.size))
  clear hb
  cases gr
  case true =>
    clear hg
    go_wp2_with fail
    go_ret
    exact ⟨rfl, HB.out⟩
  have Sa := hg rfl
  have Na := len_of Sa
  have Ma := Nat.le_trans (sumW_len a) Sa
  clear hg
  have ho0 := own_made w2 w2.heap.size (Nat.le_refl _)
  have hba : Below w2.heap.size w2 (w2.alloc (.cells #[] 29)) := (Below.refl _ _).alloc (Nat.le_refl _) _
  have HO0 := Lib.hid ho0
  have HA1 := Lib.hid (Ha.out.up hba)
  have HBA := Lib.hid hba
  have hsa := hba.size
  clear ho0 hba
  go_wp2_with (at_builtin; refine wp_append_tbs rfl _ _ rfl rfl HO0.out hsa _ _ _ rfl HA1.out (by simp; omega) ?_; intro v1 w3 ho hb1 _; have HO := Lib.hid ho; have HB1 := Lib.hid hb1; clear ho hb1)
  have hb : Below w2.heap.size w2 w3 := HBA.out.trans HB1.out
  have HmO : Hid (OwnTb w3 w2.heap.size v1 a) := HO.out
  have hz23 : w2.heap.size < w3.heap.size := Nat.lt_of_lt_of_le (by simp) HB1.out.size
  have hzw2 := HB.out.size
  have hbw := HB.out.trans (hb.mono HB.out.size)
  replace HB := Lib.hid hbw
  clear hb hbw HO HBA HB1 HA1 HO0 hsa Ha
  have Hmi := Lib.hid HmO.out.tbIn
  have Ha := Lib.hid ((HaO.out.below HB.out).more HB.out.size)
  obtain ⟨A1, c1, r1, hv1, hcl1, hlc1, hA1, hr1, hr2, hw8⟩ := HmO.out.wr8 hz23
  have HW8 := Lib.hid hw8
  have HA1 := Lib.hid hA1
  clear hw8 hA1 HmO
  subst hv1
  have CO := Lib.hid (tof_any _ _ w3 Hmi.out Fa (by omega))
  go_wp2_with fail
  refine CO.out.mono ?_
  intro e w4 h1
  obtain ⟨vt, rfl, ⟨gt, rfl⟩, ht, hb⟩ := h1.tabB
  clear CO h1
  obtain ⟨T, eT⟩ : ∃ T, ofW a = T := ⟨_, rfl⟩
  rw [eT] at ht Na
  have ET := Lib.hid eT
  clear eT
  have HT := Lib.hid ht
  replace Hmi := Lib.hid (Hmi.out.up hb)
  replace Ha := Lib.hid (Ha.out.up hb)
  replace HW8 := Lib.hid (HW8.out.below hb hr2)
  replace HB := Lib.hid (HB.out.trans (hb.mono HB.out.size))
  have hz34 := hb.size
  clear hb ht
  have CS := Lib.hid (same10_any _ _ _ _ w4 Hmi.out Ha.out)
  go_wp2_with fail
  refine CS.out.mono ?_
  rintro e w5 ⟨sm, rfl, hs, hb⟩
  obtain rfl : sm = true := by simpa using hs
  clear CS hs Hmi Ha
  replace HT := Lib.hid (HT.out.below hb)
  replace HW8 := Lib.hid (HW8.out.below hb (by omega))
  replace HB := Lib.hid (HB.out.trans (hb.mono HB.out.size))
  clear hb
  go_wp2_with fail
  go_loopw [5, 24] (fun _ i wr => ∃ k : Nat, i = .int .i64 k ∧ k ≤ a.length ∧ Hid (Wr8 wr r1 a.length) ∧ Hid (w5.grownBy wr (some r1))) (fun _ i _ => a.length - (intOf i).toNat)
  case atStart => exact ⟨0, rfl, by omega, HW8.out, ⟨rfl, rfl, rfl, Nat.le_refl _, fun _ _ _ => rfl⟩⟩
  case round =>
    obtain ⟨k, rfl, hk, hw, hg⟩ := hrel
    by_cases hlt : k < a.length
    · obtain rfl := HA1.out (by omega)
      obtain ⟨u0, x0, f0⟩ := hw.out k hlt
      have hwn := Lib.hid (hw.out.set k (.string ⟨#[63]⟩))
      have hgn : Hid (w5.grownBy (wr.setCell ⟨r1, k * 3, none⟩ (.string ⟨#[63]⟩)) (some r1)) := hg.out.andThen (set_grown wr r1 (k * 3) _) (fun j e => .inr e)
      clear hw hg
      go_wp2_with fail
      go_roundw
      case rel => exact ⟨k + 1, by go_num, by omega, hwn.out, hgn.out⟩
      case measure => simp [intOf]; omega
    · have hg0 := hg.out
      have hr1l : r1 < w5.heap.size := by have := HB.out.size; have := hg0.size; have h4 := HT.out; obtain ⟨_, _, _, _, _, h5, _⟩ := h4; omega
      have HTn := Lib.hid (HT.out.low hr2 hg0)
      have HBn := Lib.hid (HB.out.grown hg0 HB.out.size (fun j e => by injection e with e; omega))
      clear hw hg hg0 HT HB HW8
      obtain ⟨w6, hw6⟩ : ∃ x, x = wr := ⟨_, rfl⟩
      subst hw6
      have HT := Lib.hid HTn.out.tab
      have HB := HBn
      clear HTn HBn
      have LT : T.length ≤ 4096 := Na
      have CM := Lib.hid (tmerge_any false _ _ _ (tabs_one HT.out 25) (by simp; omega))
      go_wp2_with fail
      refine CM.out.mono ?_
      intro e w7 h1
      obtain ⟨v1, rfl, ⟨gM, rfl⟩, ht, hb1⟩ := h1.tab
      clear CM
      have hb : Below w6.heap.size w6 w7 := (((Below.refl _ _).alloc (Nat.le_refl _) _).trans (hb1.mono (by simp)))
      replace HT := Lib.hid (HT.out.below hb)
      replace HB := Lib.hid (HB.out.trans (hb.mono HB.out.size))
      obtain ⟨M, eM⟩ : ∃ res, mergeW false [T] = res := ⟨_, rfl⟩
      rw [eM] at ht
      have HM := Lib.hid ht
      have LM : M.length ≤ 4096 := by rw [← eM]; refine Nat.le_trans (merge_len _ _) ?_; simp; omega
      have EM := Lib.hid eM
      clear hb hb1 ht h1 eM
      have CA := Lib.hid (tall_any _ _ w7 HT.out (by omega))
      go_wp2_with fail
      refine CA.out.mono ?_
      rintro e w8 ⟨v7, rfl, hn, hb⟩
      clear CA
      obtain ⟨A2, c2, r2, hv2, hcl2, hlc2, hA2, hr8, hw8⟩ := hn.wr8
      have HW8 := Lib.hid hw8
      have HA2 := Lib.hid hA2
      have HBL := Lib.hid hb
      clear hw8 hA2 hn hb
      subst hv2
      go_wp2_with fail
      go_loopw [8, 39] (fun _ i wr => ∃ k : Nat, i = .int .i64 k ∧ k ≤ T.length ∧ Hid (Wr8 wr r2 T.length) ∧ Hid (Below w7.heap.size w7 wr)) (fun _ i _ => T.length - (intOf i).toNat)
      case atStart => exact ⟨0, rfl, by omega, HW8.out, HBL.out⟩
      case round =>
        obtain ⟨k2, rfl, hk2, hw, hg⟩ := hrel
        by_cases hlt2 : k2 < T.length
        · obtain rfl := HA2.out (by omega)
          obtain ⟨u0, x0, f0⟩ := hw.out k2 hlt2
          have hwn := Lib.hid (hw.out.set k2 (.string ⟨#[33]⟩))
          have hgn : Hid (Below w7.heap.size w7 (wr.setCell ⟨r2, k2 * 3, none⟩ (.string ⟨#[33]⟩))) := hg.out.grown (set_grown wr r2 (k2 * 3) _) hg.out.size (fun j e => by injection e with e; omega)
          clear hw hg
          go_wp2_with fail
          go_roundw
          case rel => exact ⟨k2 + 1, by go_num, by omega, hwn.out, hgn.out⟩
          case measure => simp [intOf]; omega
        · have hg0 := hg.out
          clear hw hg HBL HW8
          obtain ⟨w9, hw9⟩ : ∃ x, x = wr := ⟨_, rfl⟩
          subst hw9
          replace HT := Lib.hid (HT.out.below hg0)
          replace HM := Lib.hid (HM.out.below hg0)
          replace HB := Lib.hid (HB.out.trans (hg0.mono HB.out.size))
          clear hg0
          have Ha := Lib.hid ((HaO.out.below HB.out).more HB.out.size)
          have QM : Hid (M = T) := by unfold Hid; rw [← EM.out]; exact merge_one HT.out.srt HT.out.flat
          have CA := Lib.hid (tall_any _ _ w9 HT.out (by omega))
          go_wp2_with fail
          refine CA.out.mono ?_
          rintro e w10 ⟨vl1, rfl, hn, hb⟩
          clear CA
          replace HT := Lib.hid (HT.out.below hb)
          replace HM := Lib.hid (HM.out.below hb)
          replace Ha := Lib.hid (Ha.out.up hb)
          replace HB := Lib.hid (HB.out.trans (hb.mono HB.out.size))
          have Hl1 := Lib.hid hn.tbIn
          clear hb hn
          have CA := Lib.hid (rof_any _ _ w10 Ha.out (by omega))
          go_wp2_with fail
          refine CA.out.mono ?_
          rintro e w11 ⟨vl2, rfl, ho, hb⟩
          clear CA
          replace HT := Lib.hid (HT.out.below hb)
          replace HM := Lib.hid (HM.out.below hb)
          replace Ha := Lib.hid (Ha.out.up hb)
          replace Hl1 := Lib.hid (Hl1.out.up hb)
          replace HB := Lib.hid (HB.out.trans (hb.mono HB.out.size))
          have Hl2 := Lib.hid ho.tbIn
          clear hb ho
          have CS := Lib.hid (same10_any _ _ _ _ w11 Hl1.out Hl2.out)
          go_wp2_with fail
          refine CS.out.mono ?_
          rintro e w12 ⟨sm, rfl, hs, hb⟩
          obtain rfl : sm = true := hs.2 (ET.out.symm)
          clear CS hs
          replace HT := Lib.hid (HT.out.below hb)
          replace HM := Lib.hid (HM.out.below hb)
          replace Ha := Lib.hid (Ha.out.up hb)
          replace Hl1 := Lib.hid (Hl1.out.up hb)
          replace Hl2 := Lib.hid (Hl2.out.up hb)
          replace HB := Lib.hid (HB.out.trans (hb.mono HB.out.size))
          clear hb
          clear Hl1 Hl2
          have CA := Lib.hid (tall_any _ _ w12 HM.out (by omega))
          go_wp2_with fail
          refine CA.out.mono ?_
          rintro e w13 ⟨vl3, rfl, hn, hb⟩
          clear CA
          replace HT := Lib.hid (HT.out.below hb)
          replace HM := Lib.hid (HM.out.below hb)
          replace Ha := Lib.hid (Ha.out.up hb)
          replace HB := Lib.hid (HB.out.trans (hb.mono HB.out.size))
          have Hl3 := Lib.hid hn.tbIn
          clear hb hn
          have CA := Lib.hid (tall_any _ _ w13 HT.out (by omega))
          go_wp2_with fail
          refine CA.out.mono ?_
          rintro e w14 ⟨vl4, rfl, hn, hb⟩
          clear CA
          replace HT := Lib.hid (HT.out.below hb)
          replace HM := Lib.hid (HM.out.below hb)
          replace Ha := Lib.hid (Ha.out.up hb)
          replace Hl3 := Lib.hid (Hl3.out.up hb)
          replace HB := Lib.hid (HB.out.trans (hb.mono HB.out.size))
          have Hl4 := Lib.hid hn.tbIn
          clear hb hn
          have CS := Lib.hid (same10_any _ _ _ _ w14 Hl3.out Hl4.out)
          go_wp2_with fail
          refine CS.out.mono ?_
          rintro e w15 ⟨sm, rfl, hs, hb⟩
          obtain rfl : sm = true := hs.2 (QM.out)
          clear CS hs
          replace HT := Lib.hid (HT.out.below hb)
          replace HM := Lib.hid (HM.out.below hb)
          replace Ha := Lib.hid (Ha.out.up hb)
          replace Hl3 := Lib.hid (Hl3.out.up hb)
          replace Hl4 := Lib.hid (Hl4.out.up hb)
          replace HB := Lib.hid (HB.out.trans (hb.mono HB.out.size))
          clear hb
          go_wp2_with fail
          go_ret
          exact ⟨rfl, HB.out⟩

end Go.Proofs.Ytcliknmcefcaeaa.Cd

namespace Go.Proofs.Ytcliknmcefcaeaa.TableKeeps
open Go.RowKit Go.Proofs.Ytcliknmcefcaeaa.Cd

theorem walk (va : Value) (a : List Wr) (w : World) (ha : Cd.TbIn w w.heap.size va a ∧ FitW a) : Calls Try.prog 7 #[va] w (Gives (.bool true) w) :=
  tk_main va a w ha.1 ha.2

end Go.Proofs.Ytcliknmcefcaeaa.TableKeeps
