/-
  object.GetCommit. Conditions: none.
-/
import Derived.Test.YtabogconbjdcgaaObGetC
import Derived.Test.YtabogconbjdcgaaObTop
namespace Go.Proofs.Ytabogconbjdcgaa.Cd
open Go.RowKit

/-- What Get leaves: the commit of the bytes, or the nought and ErrForm. -/
def GotCm (b : List UInt8) (w : World) (e : Ending) (w' : World) : Prop :=
  ∃ (o : Option Cmt) (v : Value) (n : Int), e = .returned (.tuple #[v, .int .i64 n]) ∧ GetsC b o ∧ Below w.heap.size w w' ∧ CmtIn w' w'.heap.size v (o.getD (cm0 idZ)) ∧ n = if o.isSome = true then 0 else 4

theorem gotcm_none {b : List UInt8} {w w' : World} (h : GetsC b none) (hb : Below w.heap.size w w') : GotCm b w (.returned (.tuple #[.agg (cmC (cm0 idZ) (.slice none 0 0)).toArray, .int .i64 4])) w' :=
  ⟨none, _, 4, rfl, h, hb, ⟨_, rfl, RwIn.nil _ _⟩, rfl⟩

set_option maxRecDepth 100000 in
set_option maxHeartbeats 3200000 in
theorem getcmt_any (v : Value) (b : List UInt8) (w : World) (h : Sl w w.heap.size v b) (hs : b.length ≤ 100000) : Calls Try.prog 22 #[v] w (GotCm b w) := by
  obtain ⟨A, c, rfl, _, _⟩ := h.len
  have hb1 : Below w.heap.size w (w.alloc (.cells (cmC (cm0 idZ) (.slice none 0 0)).toArray 44)) := new_below _ _
  have hz1 : (w.alloc (.cells (cmC (cm0 idZ) (.slice none 0 0)).toArray 44)).heap.size = w.heap.size + 1 := asz _ _
  have HT1 : Hid (ComAt (w.alloc (.cells (cmC (cm0 idZ) (.slice none 0 0)).toArray 44)) w.heap.size (cm0 idZ) (.slice none 0 0)) := ComAt.new _ _ _
  have HS1 : Hid (Sl (w.alloc (.cells (cmC (cm0 idZ) (.slice none 0 0)).toArray 44)) (w.alloc (.cells (cmC (cm0 idZ) (.slice none 0 0)).toArray 44)).heap.size (.slice A b.length c) b) := (h.below hb1).more hb1.size
  have HB1 := Lib.hid hb1
  clear h hb1
  have HGC := Lib.hid (fun g W h => getcm_any g b W h hs)
  go_enter Try.func22, Try.ntmps22
  go_wp2_with (refine wp_alloc_row zero_cm rfl rfl ?_)
  generalize w.alloc (.cells (cmC (cm0 idZ) (.slice none 0 0)).toArray 44) = w1 at *
  refine (read_any _ b w1 HS1.out).mono ?_
  rintro e w2 ⟨rfl, hr2, hb2⟩
  obtain ⟨g, hg⟩ : ∃ x, w1.heap.size = x := ⟨_, rfl⟩
  rw [hg] at hr2 hb2 ⊢
  have HB2 := Lib.hid (HB1.out.trans (hb2.mono (by omega)))
  have HT2 := Lib.hid (HT1.out.below hb2 (by omega))
  have HR2 := Lib.hid hr2
  have hz2 := hb2.size
  clear hb2 hr2 HB1 HT1 HS1
  have HGB := Lib.hid (getb_any g b false w2 HR2.out (fun h => by cases h) (by omega))
  go_wp2_with fail
  refine HGB.out.mono ?_
  rintro e w3 ⟨rfl, hl3⟩
  have HR3 := Lib.hid hl3.1
  have HB3 := Lib.hid (below_of_grown HB2.out hl3.2 (by omega) (by omega))
  have HT3 := Lib.hid (HT2.out.far hl3.2 (by omega))
  have hz3 : g ≤ w3.heap.size := by have := hl3.2.size; omega
  clear hl3 HB2 HT2 HR2 HGB
  by_cases h1 : gbV false b = 3
  · have hq1 : (((gbV false b).toNat : Int) != 3) = false := by rw [h1]; rfl
    have hno : Hid (¬ (rdX b = false ∧ rdB b = [] ∧ GoodC (rdC b)) → GetsC b none) := fun hn => getC_no hn
    have hyes : Hid (rdX b = false → rdB b = [] → GoodC (rdC b) → GetsC b (some (rdC b))) := fun hb hn hg => getC_yes h1 hb hn hg
    generalize rdC b = C at *
    generalize rdB b = bs at *
    generalize rdX b = bad at *
    generalize gbV false b = kk at *
    generalize gbB false b = b1 at *
    generalize gbX false b = x1 at *
    clear h1
    go_wp2_with fail
    refine (HGC.out g w3 HR3.out).mono ?_
    rintro e w4 ⟨A4, n4, m4, rfl, hi4, hl4⟩
    have HR4 : Hid (Rd w4 g bs bad) := hl4.1
    have HB4 := Lib.hid (below_of_grown HB3.out hl4.2 (by omega) (by omega))
    have HT4 := Lib.hid (HT3.out.far hl4.2 (by omega))
    have hz4 : g ≤ w4.heap.size := by have := hl4.2.size; omega
    have hb5 : Below w4.heap.size w4 (w4.alloc (.cells (cmC C (.slice A4 n4 m4)).toArray 44)) := new_below _ _
    have hz5 : (w4.alloc (.cells (cmC C (.slice A4 n4 m4)).toArray 44)).heap.size = w4.heap.size + 1 := asz _ _
    have HC5 : Hid (ComAt (w4.alloc (.cells (cmC C (.slice A4 n4 m4)).toArray 44)) w4.heap.size C (.slice A4 n4 m4)) := ComAt.new _ _ _
    have HI5 : Hid (OwnRw iiC 33 41 (w4.alloc (.cells (cmC C (.slice A4 n4 m4)).toArray 44)) (w.heap.size + 1) (.slice A4 n4 m4) C.is) := (hi4.alloc _).lower (by omega)
    have HR5 := Lib.hid (HR4.out.on hb5)
    have HB5 := Lib.hid (HB4.out.trans (hb5.mono (by omega)))
    have HT5 := Lib.hid (HT4.out.below hb5 (by omega))
    clear hl4 HB3 HT3 HR3 HB4 HT4 HR4 hi4 hb5
    go_wp2_with (first
      | (refine wp_alloc_row zero_cm rfl rfl ?_)
      | (refine wp_fill_cm rfl _ _ rfl _ _ rfl (by simp [Act.eval, Act.put]) C A4 n4 m4 rfl ?_))
    generalize w4.alloc (.cells (cmC C (.slice A4 n4 m4)).toArray 44) = w5 at *
    refine (end_any g bs bad w5 HR5.out).mono ?_
    rintro e w6 ⟨rfl, rfl⟩
    have hcw := cells_com C (.slice A4 n4 m4)
    have HWH : Hid (w5.rangeAt w4.heap.size 0 (cmC C (.slice A4 n4 m4))) := ComAt.whole HC5.out
    by_cases hend : bad = false ∧ bs = []
    · obtain ⟨rfl, rfl⟩ := hend
      have hyes2 : Hid (GoodC C → GetsC b (some C)) := fun hg => hyes.out rfl rfl hg
      have hno2 : Hid (¬ GoodC C → GetsC b none) := fun hg => hno.out (fun hn => hg hn.2.2)
      clear hyes hno
      try dsimp only
      repeat (first
        | go_values | go_skip | go_guarded
        | (refine wp_load_mid 44 _ rfl w4.heap.size 0 rfl (cmC C (.slice A4 n4 m4)) _ HWH.out Try.underlying44 rfl hcw ?_; try simp only [Act.put, List.setIfInBounds_toArray, List.set_cons_zero, List.set_cons_succ])
        | go_step | go_upon)
      refine (goodc_any _ C w5 ⟨_, rfl, HI5.out.rwIn kind_ii⟩).mono ?_
      rintro e w6 ⟨s, rfl, hs6, hb6⟩
      have HB6 := Lib.hid (HB5.out.trans (hb6.mono (by omega)))
      have HT6 := Lib.hid (HT5.out.below hb6 (by omega))
      have HI6 := Lib.hid (HI5.out.keep hb6)
      have HC6 := Lib.hid (HC5.out.below hb6 (by omega))
      have hz6 : w4.heap.size < w6.heap.size := by have := hb6.size; omega
      clear hb6 HB5 HT5 HR5 HC5 HWH
      have HWH : Hid (w6.rangeAt w4.heap.size 0 (cmC C (.slice A4 n4 m4))) := ComAt.whole HC6.out
      cases s
      · have hG : Hid (GetsC b none) := hno2.out (fun hn => by have := hs6.2 hn; cases this)
        clear hs6 hyes2 hno2
        go_wp2_with (first
          | (refine wp_build_row rfl _ rfl _ built_cm0 (by simp) ?_)
          | (refine wp_put_cm rfl _ _ rfl w.heap.size rfl (cm0 idZ) none 0 0 rfl (cm0 idZ) _ HT6.out ?_; intro w7 ht7 hg7))
        have hb7 := below_of_grown HB6.out hg7 (by omega) (by omega)
        go_wp2_with fail
        exact bodyPost_ret (ret_cm2 Try.results22 _ _ w.heap.size _ _ (.int .i64 4) rfl ht7 rfl) rfl (gotcm_none hG.out hb7)
      · have hG : Hid (GetsC b (some C)) := hyes2.out (hs6.1 rfl)
        clear hs6 hyes2 hno2
        go_wp2_with (first
          | (refine wpList_load_mid rfl 44 _ rfl w4.heap.size 0 rfl (cmC C (.slice A4 n4 m4)) _ HWH.out Try.underlying44 rfl hcw ?_)
          | (refine wp_put_cm rfl _ _ rfl w.heap.size rfl C A4 n4 m4 rfl (cm0 idZ) _ HT6.out ?_; intro w7 ht7 hg7))
        have hb7 := below_of_grown HB6.out hg7 (by omega) (by omega)
        go_wp2_with fail
        refine bodyPost_ret (ret_cm2 Try.results22 _ _ w.heap.size _ _ (.int .i64 0) rfl ht7 rfl) rfl ?_
        exact ⟨some C, _, 0, rfl, hG.out, hb7, ⟨_, rfl, (HI6.out.far hg7 (by omega)).rwIn kind_ii⟩, rfl⟩
    · have hG : Hid (GetsC b none) := hno.out (fun hn => hend ⟨hn.1, hn.2.1⟩)
      have hbb : (!bad && bs.isEmpty) = false := by
        cases bad
        · cases bs
          · exact absurd ⟨rfl, rfl⟩ hend
          · rfl
        · rfl
      rw [hbb]
      clear hend hbb hno hyes
      go_wp2_with (first
        | (refine wp_build_row rfl _ rfl _ built_cm0 (by simp) ?_)
        | (refine wp_put_cm rfl _ _ rfl w.heap.size rfl (cm0 idZ) none 0 0 rfl (cm0 idZ) _ HT5.out ?_; intro w7 ht7 hg7))
      have hb7 := below_of_grown HB5.out hg7 (by omega) (by omega)
      go_wp2_with fail
      exact bodyPost_ret (ret_cm2 Try.results22 _ _ w.heap.size _ _ (.int .i64 4) rfl ht7 rfl) rfl (gotcm_none hG.out hb7)
  · have hq1 : (((gbV false b).toNat : Int) != 3) = true := by
      rw [bne_iff_ne]
      exact fun e => h1 (UInt8.toNat_inj.1 (by show _ = 3; omega))
    have hG := Lib.hid (getC_else h1)
    generalize gbV false b = kk at *
    clear h1 HGC
    go_wp2_with (first
      | (refine wp_build_row rfl _ rfl _ built_cm0 (by simp) ?_)
      | (refine wp_put_cm rfl _ _ rfl w.heap.size rfl (cm0 idZ) none 0 0 rfl (cm0 idZ) _ HT3.out ?_; intro w7 ht7 hg7))
    have hb7 := below_of_grown HB3.out hg7 (by omega) (by omega)
    go_wp2_with fail
    exact bodyPost_ret (ret_cm2 Try.results22 _ _ w.heap.size _ _ (.int .i64 4) rfl ht7 rfl) rfl (gotcm_none hG.out hb7)

end Go.Proofs.Ytabogconbjdcgaa.Cd
