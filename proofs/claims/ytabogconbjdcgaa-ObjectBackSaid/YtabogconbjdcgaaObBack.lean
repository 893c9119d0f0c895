/-
  ObjectBack: the law's walk. Conditions: none.
-/
import Derived.Test.YtabogconbjdcgaaObHeld
import Derived.Test.YtabogconbjdcgaaObSameC
namespace Go.Proofs.Ytabogconbjdcgaa.ObjectBack
open Go.RowKit Go.Proofs.Ytabogconbjdcgaa.Cd

theorem ownsl {w : World} {B : Nat} {v : Value} {bs : List UInt8} (h : Own w B v bs) {w' : World} (hb : Below w.heap.size w w') : Sl w' w'.heap.size v bs := (h.keep hb).sl

set_option maxRecDepth 100000 in
set_option maxHeartbeats 25600000 in
theorem walk (vt : Value) (t : Tre) (vc : Value) (c : Cmt) (vb : Value) (bb : List UInt8) (w : World) (ht : TreIn w w.heap.size vt t ∧ FitT t) (hc : CmtIn w w.heap.size vc c ∧ FitC c) (hb0 : Sl w w.heap.size vb bb) : Calls Try.prog 5 #[vt, vc, vb] w (Gives (.bool true) w) := by
  obtain ⟨⟨vp, vk, rfl, hp0, hk0⟩, hft⟩ := ht
  obtain ⟨⟨vi, rfl, hi0⟩, hfc⟩ := hc
  obtain ⟨A1, c1, e1, k1, l1⟩ := hp0.len
  obtain ⟨A2, c2, e2, k2, l2⟩ := hk0.len
  obtain ⟨A3, c3, e3, k3, l3⟩ := hi0.len
  obtain ⟨Ab, cb, eb, kb, lb⟩ := hb0.len
  subst e1 e2 e3 eb
  have lb : cb ≤ 9223372036854775807 := lb
  have HFT := Lib.hid hft
  have HSB := Lib.hid hb0
  have HH1 := Lib.hid (Held.start hp0 hk0 hi0)
  clear hp0 hk0 hi0 hft hb0
  go_enter Try.func5, Try.ntmps5
  go_wp2_with (refine wp_box_row rfl _ rfl rfl ?_)
  generalize (w.alloc (.cells #[.slice A1 t.ps.length c1, .slice A2 t.ks.length c2] 25)).alloc (.cells (cmC c (.slice A3 c.is.length c3)).toArray 44) = W1 at *
  refine (oalive_any W1).mono ?_
  rintro e W2 ⟨rfl, hb⟩
  have HH2 := Lib.hid (HH1.out.step hb)
  clear hb HH1
  have d0 := HH2.out.tr.c0
  have d1 := HH2.out.tr.c1
  go_wp2_with fail
  refine (greatt_any _ t W2 HH2.out.tre HFT.out).mono ?_
  rintro e W3 ⟨s, rfl, hs, hb⟩
  have HH3 := Lib.hid (HH2.out.step hb)
  clear hb HH2 d0 d1
  cases s
  case true =>
    have HB := Lib.hid HH3.out.bel
    clear hs
    go_wp2_with fail
    go_ret
    exact ⟨rfl, HB.out⟩
  clear hs
  try dsimp only
  repeat (first
    | go_values | go_skip | go_guarded
    | (refine wp_load_mid 44 _ rfl (w.heap.size + 1) 0 rfl (cmC c (.slice A3 c.is.length c3)) _ HH3.out.range Try.underlying44 rfl (cells_com _ _) ?_; try simp only [Act.put, List.setIfInBounds_toArray, List.set_cons_zero, List.set_cons_succ])
    | go_step | go_upon)
  refine (greatc_any _ c W3 HH3.out.cmt).mono ?_
  rintro e W4 ⟨s, rfl, hs, hb⟩
  have HH4 := Lib.hid (HH3.out.step hb)
  clear hb HH3
  cases s
  case true =>
    have HB := Lib.hid HH4.out.bel
    clear hs
    go_wp2_with fail
    go_ret
    exact ⟨rfl, HB.out⟩
  clear hs
  by_cases hbb : 4096 < bb.length
  · have hbb' : (4096 : Int) < bb.length := by omega
    have HB := Lib.hid HH4.out.bel
    clear hbb
    go_wp2_with fail
    go_ret
    exact ⟨rfl, HB.out⟩
  have hbb' : ¬ (4096 : Int) < bb.length := by omega
  have HLEN : Hid (bb.length ≤ 4096) := by show bb.length ≤ 4096; omega
  clear hbb
  have d0 := HH4.out.tr.c0
  have d1 := HH4.out.tr.c1
  go_wp2_with fail
  refine (putt_any _ t W4 HH4.out.tre).mono ?_
  rintro e W5 ⟨v5, n5, rfl, hb, hput⟩
  have HH5 := Lib.hid (HH4.out.step hb)
  clear hb HH4 d0 d1 hbb'
  rcases hput with ⟨hg, rfl, ho⟩ | ⟨_, rfl, rfl⟩
  · have HGT0 := Lib.hid hg
    have hlen := treeB_small hg
    have HO := Lib.hid ho
    obtain ⟨A5, c5, e5, _, _⟩ := ho.sl.len
    clear ho hg
    subst e5
    go_wp2_with fail
    refine (gett_any _ (treeB t) W5 HO.out.sl (by omega)).mono ?_
    rintro e Z2 ⟨o, y2, m2, rfl, hg2, hb, hty, hm2⟩
    have HO2 := Lib.hid (HO.out.keep hb)
    have HZ2 := Lib.hid (HH5.out.step hb)
    clear hb HH5 HO
    obtain rfl : o = some t := getT_uniq hg2 (getT_some HGT0.out rfl)
    obtain rfl : m2 = 0 := hm2
    obtain ⟨p2, q2, rfl, ip2, iq2⟩ := hty
    have ip2 : PsIn Z2 Z2.heap.size p2 t.ps := ip2
    have iq2 : KsIn Z2 Z2.heap.size q2 t.ks := iq2
    obtain ⟨E1, f1, e1, _, _⟩ := ip2.len
    obtain ⟨E2, f2, e2, _, _⟩ := iq2.len
    have hnb := new_below Z2 (.cells #[p2, q2] 25)
    have hnz : (Z2.alloc (.cells #[p2, q2] 25)).heap.size = Z2.heap.size + 1 := asz _ _
    have HO3 := Lib.hid (HO2.out.keep hnb)
    have HZ3 := Lib.hid (HZ2.out.step hnb)
    have HP3 : Hid (PsIn (Z2.alloc (.cells #[p2, q2] 25)) (Z2.alloc (.cells #[p2, q2] 25)).heap.size p2 t.ps) := ip2.on hnb
    have HK3 : Hid (KsIn (Z2.alloc (.cells #[p2, q2] 25)) (Z2.alloc (.cells #[p2, q2] 25)).heap.size q2 t.ks) := iq2.on hnb
    have HT3 : Hid (TrAt (Z2.alloc (.cells #[p2, q2] 25)) Z2.heap.size p2 q2) := TrAt.new _ _ _
    clear hnb ip2 iq2 HO2 HZ2 hg2
    subst e1 e2
    go_wp2_with fail
    generalize Z2.alloc (.cells #[.slice E1 t.ps.length f1, .slice E2 t.ks.length f2] 25) = Z3 at *
    refine (getcmt_any _ (treeB t) Z3 HO3.out.sl (by omega)).mono ?_
    rintro e Z4 ⟨o, y4, m4, rfl, hg4, hb, hcy, hm4⟩
    have HO4 := Lib.hid (HO3.out.keep hb)
    have HZ4 := Lib.hid (HZ3.out.step hb)
    have HP4 : Hid (PsIn Z4 Z4.heap.size (.slice E1 t.ps.length f1) t.ps) := HP3.out.on hb
    have HK4 : Hid (KsIn Z4 Z4.heap.size (.slice E2 t.ks.length f2) t.ks) := HK3.out.on hb
    have HT4 := Lib.hid (HT3.out.below hb (by omega))
    have hz4 : Z2.heap.size < Z4.heap.size := by have := hb.size; omega
    clear hb HZ3 HO3 HP3 HK3 HT3 hnz
    obtain rfl : o = none := getC_uniq hg4 (getC_none fun c' _ e => tree_not_com HGT0.out e.symm)
    obtain rfl : m4 = 4 := hm4
    obtain ⟨i4, rfl, ii4⟩ := hcy
    obtain ⟨E3, f3, e3, _, _⟩ := RwIn.len (show IsIn Z4 Z4.heap.size i4 [] from ii4)
    have e3 : i4 = .slice E3 0 f3 := e3
    have hnb := new_below Z4 (.cells (cmC (cm0 idZ) i4).toArray 44)
    have HO5 := Lib.hid (HO4.out.keep hnb)
    have HZ5 := Lib.hid (HZ4.out.step hnb)
    have HP5 : Hid (PsIn (Z4.alloc (.cells (cmC (cm0 idZ) i4).toArray 44)) (Z4.alloc (.cells (cmC (cm0 idZ) i4).toArray 44)).heap.size (.slice E1 t.ps.length f1) t.ps) := HP4.out.on hnb
    have HK5 : Hid (KsIn (Z4.alloc (.cells (cmC (cm0 idZ) i4).toArray 44)) (Z4.alloc (.cells (cmC (cm0 idZ) i4).toArray 44)).heap.size (.slice E2 t.ks.length f2) t.ks) := HK4.out.on hnb
    have HT5 := Lib.hid (HT4.out.below hnb hz4)
    have HPS5 := Lib.hid HZ5.out.psIn
    have HKS5 := Lib.hid HZ5.out.ksIn
    clear hnb ii4 HO4 HZ4 HP4 HK4 HT4 hg4
    subst e3
    have hlq : ¬ (160 : Int) < (treeB t).length := by omega
    have d0 := HZ5.out.tr.c0
    have d1 := HZ5.out.tr.c1
    have g0 := HT5.out.c0
    have g1 := HT5.out.c1
    go_wp2_with (first
      | go_skip | go_guarded
      | (refine wp_alloc_row zero_cm rfl rfl ?_)
      | (refine wp_fill_cm rfl _ _ rfl _ _ rfl (by simp [Act.eval, Act.put]) (cm0 idZ) E3 0 f3 rfl ?_))
    refine (samet_any _ _ t t _ ⟨_, _, rfl, HP5.out, HK5.out⟩ ⟨_, _, rfl, HPS5.out, HKS5.out⟩).mono ?_
    rintro e Z6 ⟨s, rfl, hs, hb⟩
    obtain rfl : s = true := hs.2 rfl
    have HZ6 := Lib.hid (HZ5.out.step hb)
    clear hb hs HZ5 HO5 HP5 HK5 HT5 HPS5 HKS5 d0 d1 g0 g1
    generalize (treeB t).length = L5 at *
    go_wp2_with (first
      | (refine wpList_load_mid rfl 44 _ rfl (w.heap.size + 1) 0 rfl (cmC c (.slice A3 c.is.length c3)) _ HZ6.out.range Try.underlying44 rfl (cells_com _ _) ?_))
    refine (putc_any _ c Z6 HZ6.out.cmt).mono ?_
    rintro e Y1 ⟨v6, n6, rfl, hb, hput⟩
    have HY1 := Lib.hid (HZ6.out.step hb)
    clear hb HZ6
    rcases hput with ⟨hg, rfl, ho⟩ | ⟨_, rfl, rfl⟩
    · have HGC := Lib.hid hg
      have hlen := comB_small hg
      have HO := Lib.hid ho
      obtain ⟨A6, c6, e6, _, _⟩ := ho.sl.len
      clear ho hg
      subst e6
      go_wp2_with fail
      refine (getcmt_any _ (comB c) Y1 HO.out.sl (by omega)).mono ?_
      rintro e Y2 ⟨o, y2, m2, rfl, hg2, hb, hcy, hm2⟩
      have HO2 := Lib.hid (HO.out.keep hb)
      have HY2 := Lib.hid (HY1.out.step hb)
      clear hb HY1 HO
      obtain rfl : o = some c := getC_uniq hg2 (getC_some HGC.out rfl)
      obtain rfl : m2 = 0 := hm2
      obtain ⟨i2, rfl, ii2⟩ := hcy
      have ii2 : IsIn Y2 Y2.heap.size i2 c.is := ii2
      obtain ⟨B2, d2, e2, _, _⟩ := ii2.len
      subst e2
      have hnb := new_below Y2 (.cells (cmC c (.slice B2 c.is.length d2)).toArray 44)
      have hnz : (Y2.alloc (.cells (cmC c (.slice B2 c.is.length d2)).toArray 44)).heap.size = Y2.heap.size + 1 := asz _ _
      have HO3 := Lib.hid (HO2.out.keep hnb)
      have HY3 := Lib.hid (HY2.out.step hnb)
      have HI3 : Hid (IsIn (Y2.alloc (.cells (cmC c (.slice B2 c.is.length d2)).toArray 44)) (Y2.alloc (.cells (cmC c (.slice B2 c.is.length d2)).toArray 44)).heap.size (.slice B2 c.is.length d2) c.is) := ii2.on hnb
      have HC3 : Hid (ComAt (Y2.alloc (.cells (cmC c (.slice B2 c.is.length d2)).toArray 44)) Y2.heap.size c (.slice B2 c.is.length d2)) := ComAt.new _ _ _
      clear hnb ii2 HO2 HY2 hg2
      go_wp2_with (first
        | (refine wp_alloc_row zero_cm rfl rfl ?_)
        | (refine wp_fill_cm rfl _ _ rfl _ _ rfl (by simp [Act.eval, Act.put]) c B2 c.is.length d2 rfl ?_))
      generalize Y2.alloc (.cells (cmC c (.slice B2 c.is.length d2)).toArray 44) = Y3 at *
      refine (gett_any _ (comB c) Y3 HO3.out.sl (by omega)).mono ?_
      rintro e Y4 ⟨o, y4, m4, rfl, hg4, hb, hty, hm4⟩
      have HO4 := Lib.hid (HO3.out.keep hb)
      have HY4 := Lib.hid (HY3.out.step hb)
      have HI4 : Hid (IsIn Y4 Y4.heap.size (.slice B2 c.is.length d2) c.is) := HI3.out.on hb
      have HC4 := Lib.hid (HC3.out.below hb (by omega))
      have hz4 : Y2.heap.size < Y4.heap.size := by have := hb.size; omega
      clear hb HY3 HO3 HI3 HC3 hnz
      obtain rfl : o = none := getT_uniq hg4 (getT_none fun t' ht' e => tree_not_com ht' e)
      obtain rfl : m4 = 4 := hm4
      obtain ⟨p4, q4, rfl, ip4, iq4⟩ := hty
      obtain ⟨E1, f1, e1, _, _⟩ := RwIn.len (show PsIn Y4 Y4.heap.size p4 [] from ip4)
      obtain ⟨E2, f2, e2, _, _⟩ := RwIn.len (show KsIn Y4 Y4.heap.size q4 [] from iq4)
      have e1 : p4 = .slice E1 0 f1 := e1
      have e2 : q4 = .slice E2 0 f2 := e2
      have hnb := new_below Y4 (.cells #[p4, q4] 25)
      have HO5 := Lib.hid (HO4.out.keep hnb)
      have HY5 := Lib.hid (HY4.out.step hnb)
      have HI5 : Hid (IsIn (Y4.alloc (.cells #[p4, q4] 25)) (Y4.alloc (.cells #[p4, q4] 25)).heap.size (.slice B2 c.is.length d2) c.is) := HI4.out.on hnb
      have HC5 := Lib.hid (HC4.out.below hnb hz4)
      clear hnb ip4 iq4 HO4 HY4 HI4 HC4 hg4
      subst e1 e2
      have hlq : ¬ (160 : Int) < (comB c).length := by omega
      have HR5 := Lib.hid HC5.out.whole
      try dsimp only
      repeat (first
        | go_values | go_skip | go_guarded
        | (refine wp_load_mid 44 _ rfl Y2.heap.size 0 rfl (cmC c (.slice B2 c.is.length d2)) _ HR5.out Try.underlying44 rfl (cells_com _ _) ?_; try simp only [Act.put, List.setIfInBounds_toArray, List.set_cons_zero, List.set_cons_succ])
        | (refine wp_load_mid 44 _ rfl (w.heap.size + 1) 0 rfl (cmC c (.slice A3 c.is.length c3)) _ HY5.out.range Try.underlying44 rfl (cells_com _ _) ?_; try simp only [Act.put, List.setIfInBounds_toArray, List.set_cons_zero, List.set_cons_succ])
        | go_step | go_upon | go_back)
      generalize Y4.alloc (.cells #[.slice E1 0 f1, .slice E2 0 f2] 25) = Y5 at *
      refine (samec_any _ _ c c Y5 ⟨_, rfl, HI5.out⟩ HY5.out.cmt).mono ?_
      rintro e Y6 ⟨s, rfl, hs, hb⟩
      obtain rfl : s = true := hs.2 rfl
      have HY6 := Lib.hid (HY5.out.step hb)
      clear hb hs HY5 HO5 HI5 HC5 HR5
      generalize (comB c).length = L6 at *
      clear HFT
      have hsl : Sl Y6 Y6.heap.size (.slice Ab bb.length cb) bb := (HSB.out.below HY6.out.bel).more HY6.out.bel.size
      go_wp2_with fail
      refine (gett_any _ bb Y6 hsl (by have := HLEN.out; omega)).mono ?_
      rintro e X1 ⟨o, y1, m1, rfl, hg1, hb, hty, hm1⟩
      have HX1 := Lib.hid (HY6.out.step hb)
      clear hb hsl HY6
      cases o with
      | some t2 =>
        obtain rfl : m1 = 0 := hm1
        obtain ⟨hgt, hbt⟩ := getT_is hg1
        have HGT := Lib.hid hgt
        have HBT := Lib.hid hbt
        obtain ⟨p1, q1, rfl, ip1, iq1⟩ := hty
        have ip1 : PsIn X1 X1.heap.size p1 t2.ps := ip1
        have iq1 : KsIn X1 X1.heap.size q1 t2.ks := iq1
        obtain ⟨B1, d1, e1, _, _⟩ := ip1.len
        obtain ⟨B2, d2, e2, _, _⟩ := iq1.len
        have hnb := new_below X1 (.cells #[p1, q1] 25)
        have HTI : Hid (TreIn (X1.alloc (.cells #[p1, q1] 25)) (X1.alloc (.cells #[p1, q1] 25)).heap.size (.agg #[p1, q1]) t2) := ⟨_, _, rfl, ip1.on hnb, iq1.on hnb⟩
        have HX2 := Lib.hid (HX1.out.step hnb)
        clear ip1 iq1 hnb hg1 hgt hbt HX1
        subst e1 e2
        go_wp2_with fail
        generalize X1.alloc (.cells #[.slice B1 t2.ps.length d1, .slice B2 t2.ks.length d2] 25) = X2 at *
        refine (putt_any _ t2 X2 HTI.out).mono ?_
        rintro e X3 ⟨v3, n3, rfl, hb, hput3⟩
        have HX3 := Lib.hid (HX2.out.step hb)
        clear hb HX2
        rcases hput3 with ⟨_, rfl, ho⟩ | ⟨hno, _, _⟩
        · have hcv := run_text_of _ _ _ _ ho.sl
          rw [HBT.out] at hcv
          have hcw := run_text_of _ _ _ _ (HSB.out.below HX3.out.bel)
          have HB := Lib.hid HX3.out.bel
          clear ho
          go_wp2_with fail
          go_ret
          exact ⟨by simp, HB.out⟩
        · exact absurd HGT.out hno
      | none =>
        obtain rfl : m1 = 4 := hm1
        obtain ⟨p1, q1, rfl, ip1, iq1⟩ := hty
        obtain ⟨B1, d1, e1, _, _⟩ := RwIn.len (show PsIn X1 X1.heap.size p1 [] from ip1)
        obtain ⟨B2, d2, e2, _, _⟩ := RwIn.len (show KsIn X1 X1.heap.size q1 [] from iq1)
        have e1 : p1 = .slice B1 0 d1 := e1
        have e2 : q1 = .slice B2 0 d2 := e2
        have HX2 := Lib.hid (HX1.out.new (.cells #[p1, q1] 25))
        clear ip1 iq1 hg1 HX1
        subst e1 e2
        go_wp2_with fail
        generalize X1.alloc (.cells #[.slice B1 0 d1, .slice B2 0 d2] 25) = X2 at *
        have hsl : Sl X2 X2.heap.size (.slice Ab bb.length cb) bb := (HSB.out.below HX2.out.bel).more HX2.out.bel.size
        refine (getcmt_any _ bb X2 hsl (by have := HLEN.out; omega)).mono ?_
        rintro e X3 ⟨o, y3, m3, rfl, hg3, hb, hcy, hm3⟩
        have HX3 := Lib.hid (HX2.out.step hb)
        clear hb hsl HX2
        obtain ⟨i3, rfl, ii3⟩ := hcy
        cases o with
        | some cc =>
          have ii3 : IsIn X3 X3.heap.size i3 cc.is := ii3
          obtain ⟨B3, d3, e3, _, _⟩ := RwIn.len ii3
          subst e3
          obtain rfl : m3 = 0 := hm3
          obtain ⟨hgt, hbt⟩ := getC_is hg3
          have HGT := Lib.hid hgt
          have HBT := Lib.hid hbt
          have hnb := new_below X3 (.cells (cmC cc (.slice B3 cc.is.length d3)).toArray 44)
          have HTI : Hid (CmtIn (X3.alloc (.cells (cmC cc (.slice B3 cc.is.length d3)).toArray 44)) (X3.alloc (.cells (cmC cc (.slice B3 cc.is.length d3)).toArray 44)).heap.size (.agg (cmC cc (.slice B3 cc.is.length d3)).toArray) cc) := ⟨_, rfl, ii3.on hnb⟩
          have HX4 := Lib.hid (HX3.out.step hnb)
          have HCR : Hid ((X3.alloc (.cells (cmC cc (.slice B3 cc.is.length d3)).toArray 44)).rangeAt X3.heap.size 0 (cmC cc (.slice B3 cc.is.length d3))) := (ComAt.new _ _ _).whole
          clear ii3 hnb hg3 hgt hbt HX3
          go_wp2_with (first
            | go_skip | go_guarded
            | (refine wp_alloc_row zero_cm rfl rfl ?_)
            | (refine wp_fill_cm rfl _ _ rfl _ _ rfl (by simp [Act.eval, Act.put]) cc B3 cc.is.length d3 rfl ?_)
            | (refine wpList_load_mid rfl 44 _ rfl X3.heap.size 0 rfl (cmC cc (.slice B3 cc.is.length d3)) _ HCR.out Try.underlying44 rfl (cells_com _ _) ?_))
          generalize X3.alloc (.cells (cmC cc (.slice B3 cc.is.length d3)).toArray 44) = X4 at *
          refine (putc_any _ cc X4 HTI.out).mono ?_
          rintro e X5 ⟨v3, n3, rfl, hb, hput3⟩
          have HX5 := Lib.hid (HX4.out.step hb)
          clear hb HX4
          rcases hput3 with ⟨_, rfl, ho⟩ | ⟨hno, _, _⟩
          · have hcv := run_text_of _ _ _ _ ho.sl
            rw [HBT.out] at hcv
            have hcw := run_text_of _ _ _ _ (HSB.out.below HX5.out.bel)
            have HB := Lib.hid HX5.out.bel
            clear ho
            go_wp2_with fail
            go_ret
            exact ⟨by simp, HB.out⟩
          · exact absurd HGT.out hno
        | none =>
          obtain rfl : m3 = 4 := hm3
          obtain ⟨B3, d3, e3, _, _⟩ := RwIn.len (show IsIn X3 X3.heap.size i3 [] from ii3)
          have e3 : i3 = .slice B3 0 d3 := e3
          subst e3
          have HX4 := Lib.hid (HX3.out.new (.cells (cmC (cm0 idZ) (.slice B3 0 d3)).toArray 44))
          have HB := Lib.hid HX4.out.bel
          go_wp2_with (first
            | go_skip | go_guarded
            | (refine wp_alloc_row zero_cm rfl rfl ?_)
            | (refine wp_fill_cm rfl _ _ rfl _ _ rfl (by simp [Act.eval, Act.put]) (cm0 idZ) B3 0 d3 rfl ?_))
          go_ret
          exact ⟨rfl, HB.out⟩
    · clear HFT
      have hsl : Sl Y1 Y1.heap.size (.slice Ab bb.length cb) bb := (HSB.out.below HY1.out.bel).more HY1.out.bel.size
      go_wp2_with fail
      refine (gett_any _ bb Y1 hsl (by have := HLEN.out; omega)).mono ?_
      rintro e X1 ⟨o, y1, m1, rfl, hg1, hb, hty, hm1⟩
      have HX1 := Lib.hid (HY1.out.step hb)
      clear hb hsl HY1
      cases o with
      | some t2 =>
        obtain rfl : m1 = 0 := hm1
        obtain ⟨hgt, hbt⟩ := getT_is hg1
        have HGT := Lib.hid hgt
        have HBT := Lib.hid hbt
        obtain ⟨p1, q1, rfl, ip1, iq1⟩ := hty
        have ip1 : PsIn X1 X1.heap.size p1 t2.ps := ip1
        have iq1 : KsIn X1 X1.heap.size q1 t2.ks := iq1
        obtain ⟨B1, d1, e1, _, _⟩ := ip1.len
        obtain ⟨B2, d2, e2, _, _⟩ := iq1.len
        have hnb := new_below X1 (.cells #[p1, q1] 25)
        have HTI : Hid (TreIn (X1.alloc (.cells #[p1, q1] 25)) (X1.alloc (.cells #[p1, q1] 25)).heap.size (.agg #[p1, q1]) t2) := ⟨_, _, rfl, ip1.on hnb, iq1.on hnb⟩
        have HX2 := Lib.hid (HX1.out.step hnb)
        clear ip1 iq1 hnb hg1 hgt hbt HX1
        subst e1 e2
        go_wp2_with fail
        generalize X1.alloc (.cells #[.slice B1 t2.ps.length d1, .slice B2 t2.ks.length d2] 25) = X2 at *
        refine (putt_any _ t2 X2 HTI.out).mono ?_
        rintro e X3 ⟨v3, n3, rfl, hb, hput3⟩
        have HX3 := Lib.hid (HX2.out.step hb)
        clear hb HX2
        rcases hput3 with ⟨_, rfl, ho⟩ | ⟨hno, _, _⟩
        · have hcv := run_text_of _ _ _ _ ho.sl
          rw [HBT.out] at hcv
          have hcw := run_text_of _ _ _ _ (HSB.out.below HX3.out.bel)
          have HB := Lib.hid HX3.out.bel
          clear ho
          go_wp2_with fail
          go_ret
          exact ⟨by simp, HB.out⟩
        · exact absurd HGT.out hno
      | none =>
        obtain rfl : m1 = 4 := hm1
        obtain ⟨p1, q1, rfl, ip1, iq1⟩ := hty
        obtain ⟨B1, d1, e1, _, _⟩ := RwIn.len (show PsIn X1 X1.heap.size p1 [] from ip1)
        obtain ⟨B2, d2, e2, _, _⟩ := RwIn.len (show KsIn X1 X1.heap.size q1 [] from iq1)
        have e1 : p1 = .slice B1 0 d1 := e1
        have e2 : q1 = .slice B2 0 d2 := e2
        have HX2 := Lib.hid (HX1.out.new (.cells #[p1, q1] 25))
        clear ip1 iq1 hg1 HX1
        subst e1 e2
        go_wp2_with fail
        generalize X1.alloc (.cells #[.slice B1 0 d1, .slice B2 0 d2] 25) = X2 at *
        have hsl : Sl X2 X2.heap.size (.slice Ab bb.length cb) bb := (HSB.out.below HX2.out.bel).more HX2.out.bel.size
        refine (getcmt_any _ bb X2 hsl (by have := HLEN.out; omega)).mono ?_
        rintro e X3 ⟨o, y3, m3, rfl, hg3, hb, hcy, hm3⟩
        have HX3 := Lib.hid (HX2.out.step hb)
        clear hb hsl HX2
        obtain ⟨i3, rfl, ii3⟩ := hcy
        cases o with
        | some cc =>
          have ii3 : IsIn X3 X3.heap.size i3 cc.is := ii3
          obtain ⟨B3, d3, e3, _, _⟩ := RwIn.len ii3
          subst e3
          obtain rfl : m3 = 0 := hm3
          obtain ⟨hgt, hbt⟩ := getC_is hg3
          have HGT := Lib.hid hgt
          have HBT := Lib.hid hbt
          have hnb := new_below X3 (.cells (cmC cc (.slice B3 cc.is.length d3)).toArray 44)
          have HTI : Hid (CmtIn (X3.alloc (.cells (cmC cc (.slice B3 cc.is.length d3)).toArray 44)) (X3.alloc (.cells (cmC cc (.slice B3 cc.is.length d3)).toArray 44)).heap.size (.agg (cmC cc (.slice B3 cc.is.length d3)).toArray) cc) := ⟨_, rfl, ii3.on hnb⟩
          have HX4 := Lib.hid (HX3.out.step hnb)
          have HCR : Hid ((X3.alloc (.cells (cmC cc (.slice B3 cc.is.length d3)).toArray 44)).rangeAt X3.heap.size 0 (cmC cc (.slice B3 cc.is.length d3))) := (ComAt.new _ _ _).whole
          clear ii3 hnb hg3 hgt hbt HX3
          go_wp2_with (first
            | go_skip | go_guarded
            | (refine wp_alloc_row zero_cm rfl rfl ?_)
            | (refine wp_fill_cm rfl _ _ rfl _ _ rfl (by simp [Act.eval, Act.put]) cc B3 cc.is.length d3 rfl ?_)
            | (refine wpList_load_mid rfl 44 _ rfl X3.heap.size 0 rfl (cmC cc (.slice B3 cc.is.length d3)) _ HCR.out Try.underlying44 rfl (cells_com _ _) ?_))
          generalize X3.alloc (.cells (cmC cc (.slice B3 cc.is.length d3)).toArray 44) = X4 at *
          refine (putc_any _ cc X4 HTI.out).mono ?_
          rintro e X5 ⟨v3, n3, rfl, hb, hput3⟩
          have HX5 := Lib.hid (HX4.out.step hb)
          clear hb HX4
          rcases hput3 with ⟨_, rfl, ho⟩ | ⟨hno, _, _⟩
          · have hcv := run_text_of _ _ _ _ ho.sl
            rw [HBT.out] at hcv
            have hcw := run_text_of _ _ _ _ (HSB.out.below HX5.out.bel)
            have HB := Lib.hid HX5.out.bel
            clear ho
            go_wp2_with fail
            go_ret
            exact ⟨by simp, HB.out⟩
          · exact absurd HGT.out hno
        | none =>
          obtain rfl : m3 = 4 := hm3
          obtain ⟨B3, d3, e3, _, _⟩ := RwIn.len (show IsIn X3 X3.heap.size i3 [] from ii3)
          have e3 : i3 = .slice B3 0 d3 := e3
          subst e3
          have HX4 := Lib.hid (HX3.out.new (.cells (cmC (cm0 idZ) (.slice B3 0 d3)).toArray 44))
          have HB := Lib.hid HX4.out.bel
          go_wp2_with (first
            | go_skip | go_guarded
            | (refine wp_alloc_row zero_cm rfl rfl ?_)
            | (refine wp_fill_cm rfl _ _ rfl _ _ rfl (by simp [Act.eval, Act.put]) (cm0 idZ) B3 0 d3 rfl ?_))
          go_ret
          exact ⟨rfl, HB.out⟩
  · go_wp2_with (first
      | (refine wpList_load_mid rfl 44 _ rfl (w.heap.size + 1) 0 rfl (cmC c (.slice A3 c.is.length c3)) _ HH5.out.range Try.underlying44 rfl (cells_com _ _) ?_))
    refine (putc_any _ c W5 HH5.out.cmt).mono ?_
    rintro e Y1 ⟨v6, n6, rfl, hb, hput⟩
    have HY1 := Lib.hid (HH5.out.step hb)
    clear hb HH5
    rcases hput with ⟨hg, rfl, ho⟩ | ⟨_, rfl, rfl⟩
    · have HGC := Lib.hid hg
      have hlen := comB_small hg
      have HO := Lib.hid ho
      obtain ⟨A6, c6, e6, _, _⟩ := ho.sl.len
      clear ho hg
      subst e6
      go_wp2_with fail
      refine (getcmt_any _ (comB c) Y1 HO.out.sl (by omega)).mono ?_
      rintro e Y2 ⟨o, y2, m2, rfl, hg2, hb, hcy, hm2⟩
      have HO2 := Lib.hid (HO.out.keep hb)
      have HY2 := Lib.hid (HY1.out.step hb)
      clear hb HY1 HO
      obtain rfl : o = some c := getC_uniq hg2 (getC_some HGC.out rfl)
      obtain rfl : m2 = 0 := hm2
      obtain ⟨i2, rfl, ii2⟩ := hcy
      have ii2 : IsIn Y2 Y2.heap.size i2 c.is := ii2
      obtain ⟨B2, d2, e2, _, _⟩ := ii2.len
      subst e2
      have hnb := new_below Y2 (.cells (cmC c (.slice B2 c.is.length d2)).toArray 44)
      have hnz : (Y2.alloc (.cells (cmC c (.slice B2 c.is.length d2)).toArray 44)).heap.size = Y2.heap.size + 1 := asz _ _
      have HO3 := Lib.hid (HO2.out.keep hnb)
      have HY3 := Lib.hid (HY2.out.step hnb)
      have HI3 : Hid (IsIn (Y2.alloc (.cells (cmC c (.slice B2 c.is.length d2)).toArray 44)) (Y2.alloc (.cells (cmC c (.slice B2 c.is.length d2)).toArray 44)).heap.size (.slice B2 c.is.length d2) c.is) := ii2.on hnb
      have HC3 : Hid (ComAt (Y2.alloc (.cells (cmC c (.slice B2 c.is.length d2)).toArray 44)) Y2.heap.size c (.slice B2 c.is.length d2)) := ComAt.new _ _ _
      clear hnb ii2 HO2 HY2 hg2
      go_wp2_with (first
        | (refine wp_alloc_row zero_cm rfl rfl ?_)
        | (refine wp_fill_cm rfl _ _ rfl _ _ rfl (by simp [Act.eval, Act.put]) c B2 c.is.length d2 rfl ?_))
      generalize Y2.alloc (.cells (cmC c (.slice B2 c.is.length d2)).toArray 44) = Y3 at *
      refine (gett_any _ (comB c) Y3 HO3.out.sl (by omega)).mono ?_
      rintro e Y4 ⟨o, y4, m4, rfl, hg4, hb, hty, hm4⟩
      have HO4 := Lib.hid (HO3.out.keep hb)
      have HY4 := Lib.hid (HY3.out.step hb)
      have HI4 : Hid (IsIn Y4 Y4.heap.size (.slice B2 c.is.length d2) c.is) := HI3.out.on hb
      have HC4 := Lib.hid (HC3.out.below hb (by omega))
      have hz4 : Y2.heap.size < Y4.heap.size := by have := hb.size; omega
      clear hb HY3 HO3 HI3 HC3 hnz
      obtain rfl : o = none := getT_uniq hg4 (getT_none fun t' ht' e => tree_not_com ht' e)
      obtain rfl : m4 = 4 := hm4
      obtain ⟨p4, q4, rfl, ip4, iq4⟩ := hty
      obtain ⟨E1, f1, e1, _, _⟩ := RwIn.len (show PsIn Y4 Y4.heap.size p4 [] from ip4)
      obtain ⟨E2, f2, e2, _, _⟩ := RwIn.len (show KsIn Y4 Y4.heap.size q4 [] from iq4)
      have e1 : p4 = .slice E1 0 f1 := e1
      have e2 : q4 = .slice E2 0 f2 := e2
      have hnb := new_below Y4 (.cells #[p4, q4] 25)
      have HO5 := Lib.hid (HO4.out.keep hnb)
      have HY5 := Lib.hid (HY4.out.step hnb)
      have HI5 : Hid (IsIn (Y4.alloc (.cells #[p4, q4] 25)) (Y4.alloc (.cells #[p4, q4] 25)).heap.size (.slice B2 c.is.length d2) c.is) := HI4.out.on hnb
      have HC5 := Lib.hid (HC4.out.below hnb hz4)
      clear hnb ip4 iq4 HO4 HY4 HI4 HC4 hg4
      subst e1 e2
      have hlq : ¬ (160 : Int) < (comB c).length := by omega
      have HR5 := Lib.hid HC5.out.whole
      try dsimp only
      repeat (first
        | go_values | go_skip | go_guarded
        | (refine wp_load_mid 44 _ rfl Y2.heap.size 0 rfl (cmC c (.slice B2 c.is.length d2)) _ HR5.out Try.underlying44 rfl (cells_com _ _) ?_; try simp only [Act.put, List.setIfInBounds_toArray, List.set_cons_zero, List.set_cons_succ])
        | (refine wp_load_mid 44 _ rfl (w.heap.size + 1) 0 rfl (cmC c (.slice A3 c.is.length c3)) _ HY5.out.range Try.underlying44 rfl (cells_com _ _) ?_; try simp only [Act.put, List.setIfInBounds_toArray, List.set_cons_zero, List.set_cons_succ])
        | go_step | go_upon | go_back)
      generalize Y4.alloc (.cells #[.slice E1 0 f1, .slice E2 0 f2] 25) = Y5 at *
      refine (samec_any _ _ c c Y5 ⟨_, rfl, HI5.out⟩ HY5.out.cmt).mono ?_
      rintro e Y6 ⟨s, rfl, hs, hb⟩
      obtain rfl : s = true := hs.2 rfl
      have HY6 := Lib.hid (HY5.out.step hb)
      clear hb hs HY5 HO5 HI5 HC5 HR5
      generalize (comB c).length = L6 at *
      clear HFT
      have hsl : Sl Y6 Y6.heap.size (.slice Ab bb.length cb) bb := (HSB.out.below HY6.out.bel).more HY6.out.bel.size
      go_wp2_with fail
      refine (gett_any _ bb Y6 hsl (by have := HLEN.out; omega)).mono ?_
      rintro e X1 ⟨o, y1, m1, rfl, hg1, hb, hty, hm1⟩
      have HX1 := Lib.hid (HY6.out.step hb)
      clear hb hsl HY6
      cases o with
      | some t2 =>
        obtain rfl : m1 = 0 := hm1
        obtain ⟨hgt, hbt⟩ := getT_is hg1
        have HGT := Lib.hid hgt
        have HBT := Lib.hid hbt
        obtain ⟨p1, q1, rfl, ip1, iq1⟩ := hty
        have ip1 : PsIn X1 X1.heap.size p1 t2.ps := ip1
        have iq1 : KsIn X1 X1.heap.size q1 t2.ks := iq1
        obtain ⟨B1, d1, e1, _, _⟩ := ip1.len
        obtain ⟨B2, d2, e2, _, _⟩ := iq1.len
        have hnb := new_below X1 (.cells #[p1, q1] 25)
        have HTI : Hid (TreIn (X1.alloc (.cells #[p1, q1] 25)) (X1.alloc (.cells #[p1, q1] 25)).heap.size (.agg #[p1, q1]) t2) := ⟨_, _, rfl, ip1.on hnb, iq1.on hnb⟩
        have HX2 := Lib.hid (HX1.out.step hnb)
        clear ip1 iq1 hnb hg1 hgt hbt HX1
        subst e1 e2
        go_wp2_with fail
        generalize X1.alloc (.cells #[.slice B1 t2.ps.length d1, .slice B2 t2.ks.length d2] 25) = X2 at *
        refine (putt_any _ t2 X2 HTI.out).mono ?_
        rintro e X3 ⟨v3, n3, rfl, hb, hput3⟩
        have HX3 := Lib.hid (HX2.out.step hb)
        clear hb HX2
        rcases hput3 with ⟨_, rfl, ho⟩ | ⟨hno, _, _⟩
        · have hcv := run_text_of _ _ _ _ ho.sl
          rw [HBT.out] at hcv
          have hcw := run_text_of _ _ _ _ (HSB.out.below HX3.out.bel)
          have HB := Lib.hid HX3.out.bel
          clear ho
          go_wp2_with fail
          go_ret
          exact ⟨by simp, HB.out⟩
        · exact absurd HGT.out hno
      | none =>
        obtain rfl : m1 = 4 := hm1
        obtain ⟨p1, q1, rfl, ip1, iq1⟩ := hty
        obtain ⟨B1, d1, e1, _, _⟩ := RwIn.len (show PsIn X1 X1.heap.size p1 [] from ip1)
        obtain ⟨B2, d2, e2, _, _⟩ := RwIn.len (show KsIn X1 X1.heap.size q1 [] from iq1)
        have e1 : p1 = .slice B1 0 d1 := e1
        have e2 : q1 = .slice B2 0 d2 := e2
        have HX2 := Lib.hid (HX1.out.new (.cells #[p1, q1] 25))
        clear ip1 iq1 hg1 HX1
        subst e1 e2
        go_wp2_with fail
        generalize X1.alloc (.cells #[.slice B1 0 d1, .slice B2 0 d2] 25) = X2 at *
        have hsl : Sl X2 X2.heap.size (.slice Ab bb.length cb) bb := (HSB.out.below HX2.out.bel).more HX2.out.bel.size
        refine (getcmt_any _ bb X2 hsl (by have := HLEN.out; omega)).mono ?_
        rintro e X3 ⟨o, y3, m3, rfl, hg3, hb, hcy, hm3⟩
        have HX3 := Lib.hid (HX2.out.step hb)
        clear hb hsl HX2
        obtain ⟨i3, rfl, ii3⟩ := hcy
        cases o with
        | some cc =>
          have ii3 : IsIn X3 X3.heap.size i3 cc.is := ii3
          obtain ⟨B3, d3, e3, _, _⟩ := RwIn.len ii3
          subst e3
          obtain rfl : m3 = 0 := hm3
          obtain ⟨hgt, hbt⟩ := getC_is hg3
          have HGT := Lib.hid hgt
          have HBT := Lib.hid hbt
          have hnb := new_below X3 (.cells (cmC cc (.slice B3 cc.is.length d3)).toArray 44)
          have HTI : Hid (CmtIn (X3.alloc (.cells (cmC cc (.slice B3 cc.is.length d3)).toArray 44)) (X3.alloc (.cells (cmC cc (.slice B3 cc.is.length d3)).toArray 44)).heap.size (.agg (cmC cc (.slice B3 cc.is.length d3)).toArray) cc) := ⟨_, rfl, ii3.on hnb⟩
          have HX4 := Lib.hid (HX3.out.step hnb)
          have HCR : Hid ((X3.alloc (.cells (cmC cc (.slice B3 cc.is.length d3)).toArray 44)).rangeAt X3.heap.size 0 (cmC cc (.slice B3 cc.is.length d3))) := (ComAt.new _ _ _).whole
          clear ii3 hnb hg3 hgt hbt HX3
          go_wp2_with (first
            | go_skip | go_guarded
            | (refine wp_alloc_row zero_cm rfl rfl ?_)
            | (refine wp_fill_cm rfl _ _ rfl _ _ rfl (by simp [Act.eval, Act.put]) cc B3 cc.is.length d3 rfl ?_)
            | (refine wpList_load_mid rfl 44 _ rfl X3.heap.size 0 rfl (cmC cc (.slice B3 cc.is.length d3)) _ HCR.out Try.underlying44 rfl (cells_com _ _) ?_))
          generalize X3.alloc (.cells (cmC cc (.slice B3 cc.is.length d3)).toArray 44) = X4 at *
          refine (putc_any _ cc X4 HTI.out).mono ?_
          rintro e X5 ⟨v3, n3, rfl, hb, hput3⟩
          have HX5 := Lib.hid (HX4.out.step hb)
          clear hb HX4
          rcases hput3 with ⟨_, rfl, ho⟩ | ⟨hno, _, _⟩
          · have hcv := run_text_of _ _ _ _ ho.sl
            rw [HBT.out] at hcv
            have hcw := run_text_of _ _ _ _ (HSB.out.below HX5.out.bel)
            have HB := Lib.hid HX5.out.bel
            clear ho
            go_wp2_with fail
            go_ret
            exact ⟨by simp, HB.out⟩
          · exact absurd HGT.out hno
        | none =>
          obtain rfl : m3 = 4 := hm3
          obtain ⟨B3, d3, e3, _, _⟩ := RwIn.len (show IsIn X3 X3.heap.size i3 [] from ii3)
          have e3 : i3 = .slice B3 0 d3 := e3
          subst e3
          have HX4 := Lib.hid (HX3.out.new (.cells (cmC (cm0 idZ) (.slice B3 0 d3)).toArray 44))
          have HB := Lib.hid HX4.out.bel
          go_wp2_with (first
            | go_skip | go_guarded
            | (refine wp_alloc_row zero_cm rfl rfl ?_)
            | (refine wp_fill_cm rfl _ _ rfl _ _ rfl (by simp [Act.eval, Act.put]) (cm0 idZ) B3 0 d3 rfl ?_))
          go_ret
          exact ⟨rfl, HB.out⟩
    · clear HFT
      have hsl : Sl Y1 Y1.heap.size (.slice Ab bb.length cb) bb := (HSB.out.below HY1.out.bel).more HY1.out.bel.size
      go_wp2_with fail
      refine (gett_any _ bb Y1 hsl (by have := HLEN.out; omega)).mono ?_
      rintro e X1 ⟨o, y1, m1, rfl, hg1, hb, hty, hm1⟩
      have HX1 := Lib.hid (HY1.out.step hb)
      clear hb hsl HY1
      cases o with
      | some t2 =>
        obtain rfl : m1 = 0 := hm1
        obtain ⟨hgt, hbt⟩ := getT_is hg1
        have HGT := Lib.hid hgt
        have HBT := Lib.hid hbt
        obtain ⟨p1, q1, rfl, ip1, iq1⟩ := hty
        have ip1 : PsIn X1 X1.heap.size p1 t2.ps := ip1
        have iq1 : KsIn X1 X1.heap.size q1 t2.ks := iq1
        obtain ⟨B1, d1, e1, _, _⟩ := ip1.len
        obtain ⟨B2, d2, e2, _, _⟩ := iq1.len
        have hnb := new_below X1 (.cells #[p1, q1] 25)
        have HTI : Hid (TreIn (X1.alloc (.cells #[p1, q1] 25)) (X1.alloc (.cells #[p1, q1] 25)).heap.size (.agg #[p1, q1]) t2) := ⟨_, _, rfl, ip1.on hnb, iq1.on hnb⟩
        have HX2 := Lib.hid (HX1.out.step hnb)
        clear ip1 iq1 hnb hg1 hgt hbt HX1
        subst e1 e2
        go_wp2_with fail
        generalize X1.alloc (.cells #[.slice B1 t2.ps.length d1, .slice B2 t2.ks.length d2] 25) = X2 at *
        refine (putt_any _ t2 X2 HTI.out).mono ?_
        rintro e X3 ⟨v3, n3, rfl, hb, hput3⟩
        have HX3 := Lib.hid (HX2.out.step hb)
        clear hb HX2
        rcases hput3 with ⟨_, rfl, ho⟩ | ⟨hno, _, _⟩
        · have hcv := run_text_of _ _ _ _ ho.sl
          rw [HBT.out] at hcv
          have hcw := run_text_of _ _ _ _ (HSB.out.below HX3.out.bel)
          have HB := Lib.hid HX3.out.bel
          clear ho
          go_wp2_with fail
          go_ret
          exact ⟨by simp, HB.out⟩
        · exact absurd HGT.out hno
      | none =>
        obtain rfl : m1 = 4 := hm1
        obtain ⟨p1, q1, rfl, ip1, iq1⟩ := hty
        obtain ⟨B1, d1, e1, _, _⟩ := RwIn.len (show PsIn X1 X1.heap.size p1 [] from ip1)
        obtain ⟨B2, d2, e2, _, _⟩ := RwIn.len (show KsIn X1 X1.heap.size q1 [] from iq1)
        have e1 : p1 = .slice B1 0 d1 := e1
        have e2 : q1 = .slice B2 0 d2 := e2
        have HX2 := Lib.hid (HX1.out.new (.cells #[p1, q1] 25))
        clear ip1 iq1 hg1 HX1
        subst e1 e2
        go_wp2_with fail
        generalize X1.alloc (.cells #[.slice B1 0 d1, .slice B2 0 d2] 25) = X2 at *
        have hsl : Sl X2 X2.heap.size (.slice Ab bb.length cb) bb := (HSB.out.below HX2.out.bel).more HX2.out.bel.size
        refine (getcmt_any _ bb X2 hsl (by have := HLEN.out; omega)).mono ?_
        rintro e X3 ⟨o, y3, m3, rfl, hg3, hb, hcy, hm3⟩
        have HX3 := Lib.hid (HX2.out.step hb)
        clear hb hsl HX2
        obtain ⟨i3, rfl, ii3⟩ := hcy
        cases o with
        | some cc =>
          have ii3 : IsIn X3 X3.heap.size i3 cc.is := ii3
          obtain ⟨B3, d3, e3, _, _⟩ := RwIn.len ii3
          subst e3
          obtain rfl : m3 = 0 := hm3
          obtain ⟨hgt, hbt⟩ := getC_is hg3
          have HGT := Lib.hid hgt
          have HBT := Lib.hid hbt
          have hnb := new_below X3 (.cells (cmC cc (.slice B3 cc.is.length d3)).toArray 44)
          have HTI : Hid (CmtIn (X3.alloc (.cells (cmC cc (.slice B3 cc.is.length d3)).toArray 44)) (X3.alloc (.cells (cmC cc (.slice B3 cc.is.length d3)).toArray 44)).heap.size (.agg (cmC cc (.slice B3 cc.is.length d3)).toArray) cc) := ⟨_, rfl, ii3.on hnb⟩
          have HX4 := Lib.hid (HX3.out.step hnb)
          have HCR : Hid ((X3.alloc (.cells (cmC cc (.slice B3 cc.is.length d3)).toArray 44)).rangeAt X3.heap.size 0 (cmC cc (.slice B3 cc.is.length d3))) := (ComAt.new _ _ _).whole
          clear ii3 hnb hg3 hgt hbt HX3
          go_wp2_with (first
            | go_skip | go_guarded
            | (refine wp_alloc_row zero_cm rfl rfl ?_)
            | (refine wp_fill_cm rfl _ _ rfl _ _ rfl (by simp [Act.eval, Act.put]) cc B3 cc.is.length d3 rfl ?_)
            | (refine wpList_load_mid rfl 44 _ rfl X3.heap.size 0 rfl (cmC cc (.slice B3 cc.is.length d3)) _ HCR.out Try.underlying44 rfl (cells_com _ _) ?_))
          generalize X3.alloc (.cells (cmC cc (.slice B3 cc.is.length d3)).toArray 44) = X4 at *
          refine (putc_any _ cc X4 HTI.out).mono ?_
          rintro e X5 ⟨v3, n3, rfl, hb, hput3⟩
          have HX5 := Lib.hid (HX4.out.step hb)
          clear hb HX4
          rcases hput3 with ⟨_, rfl, ho⟩ | ⟨hno, _, _⟩
          · have hcv := run_text_of _ _ _ _ ho.sl
            rw [HBT.out] at hcv
            have hcw := run_text_of _ _ _ _ (HSB.out.below HX5.out.bel)
            have HB := Lib.hid HX5.out.bel
            clear ho
            go_wp2_with fail
            go_ret
            exact ⟨by simp, HB.out⟩
          · exact absurd HGT.out hno
        | none =>
          obtain rfl : m3 = 4 := hm3
          obtain ⟨B3, d3, e3, _, _⟩ := RwIn.len (show IsIn X3 X3.heap.size i3 [] from ii3)
          have e3 : i3 = .slice B3 0 d3 := e3
          subst e3
          have HX4 := Lib.hid (HX3.out.new (.cells (cmC (cm0 idZ) (.slice B3 0 d3)).toArray 44))
          have HB := Lib.hid HX4.out.bel
          go_wp2_with (first
            | go_skip | go_guarded
            | (refine wp_alloc_row zero_cm rfl rfl ?_)
            | (refine wp_fill_cm rfl _ _ rfl _ _ rfl (by simp [Act.eval, Act.put]) (cm0 idZ) B3 0 d3 rfl ?_))
          go_ret
          exact ⟨rfl, HB.out⟩

end Go.Proofs.Ytabogconbjdcgaa.ObjectBack
