/-
  object.GetTree. Conditions: none.
-/
import Derived.Test.YtabogconbjdcgaaObGetKs
import Derived.Test.YtabogconbjdcgaaObTop
namespace Go.Proofs.Ytabogconbjdcgaa.Cd
open Go.RowKit

theorem zero_tr (W : World) : (zeroValue 25).run Try.prog W = .ok (.agg #[.slice none 0 0, .slice none 0 0]) W := by kernel_rfl
theorem size_tr : (Try.prog.info? 25).map (·.size) = some 2 := by kernel_rfl
/-- Block g is a tree. -/
def TrAt (w : World) (g : Nat) (vp vk : Value) : Prop := w.heap[g]? = some (.cells #[vp, vk] 25)
theorem TrAt.new (w : World) (vp vk : Value) : TrAt (w.alloc (.cells #[vp, vk] 25)) w.heap.size vp vk := heap_alloc_new _ _
theorem TrAt.lt {w : World} {g : Nat} {vp vk : Value} (h : TrAt w g vp vk) : g < w.heap.size := (Array.getElem?_eq_some_iff.1 h).1
theorem TrAt.below {w w' : World} {g B : Nat} {vp vk : Value} (h : TrAt w g vp vk) (hb : Below B w w') (hB : g < B) : TrAt w' g vp vk := (hb.block g hB).trans h
theorem TrAt.far {w w' : World} {g g' : Nat} {vp vk : Value} (h : TrAt w g vp vk) (hg : w.grownBy w' (some g')) (hne : g ≠ g') : TrAt w' g vp vk := (hg.block g h.lt (fun e => hne (by injection e))).trans h
theorem TrAt.c0 {w : World} {g : Nat} {vp vk : Value} (h : TrAt w g vp vk) : w.cell? ⟨g, 0, none⟩ = some vp := cell_of_row _ _ _ _ _ _ h
theorem TrAt.c1 {w : World} {g : Nat} {vp vk : Value} (h : TrAt w g vp vk) : w.cell? ⟨g, 1, none⟩ = some vk := cell_of_row _ _ _ _ _ _ h
theorem TrAt.frozen {w : World} {g : Nat} {vp vk : Value} (h : TrAt w g vp vk) (i : Nat) : w.frozen? ⟨g, i, none⟩ = false := by
  unfold TrAt at h
  simp [World.frozen?, h]
theorem TrAt.whole {w : World} {g : Nat} {vp vk : Value} (h : TrAt w g vp vk) (a b : Value) : TrAt ((w.setCell ⟨g, 0, none⟩ a).setCell ⟨g, 1, none⟩ b) g a b := by
  have h1 := heap_setCell_same _ g 0 _ _ a h
  exact heap_setCell_same _ g 1 _ _ b h1
theorem below_two {B : Nat} {w0 w : World} {g : Nat} (h : Below B w0 w) (hg : B ≤ g) (a b : Value) : Below B w0 ((w.setCell ⟨g, 0, none⟩ a).setCell ⟨g, 1, none⟩ b) :=
  (h.setCell (p := ⟨g, 0, none⟩) hg _).setCell (p := ⟨g, 1, none⟩) hg _
theorem OwnRw.two {α : Type} {f : α → List Value} {n : Nat} {T : TypeId} {w : World} {B : Nat} {v : Value} {l : List α} {g : Nat} (h : OwnRw f n T w B v l) (hg : g < B) (a b : Value) : OwnRw f n T ((w.setCell ⟨g, 0, none⟩ a).setCell ⟨g, 1, none⟩ b) B v l :=
  (h.put ⟨g, 0, none⟩ a hg).put ⟨g, 1, none⟩ b hg
theorem ret_tr {fn : Func} {p q : Tmp} (hf : fn.results = #[.cell p 25, .tmp q]) (tmps : Array Value) (w : World) (g : Nat) (vp vk x : Value)
    (hp : tmps.getD p undef = .pointer (some ⟨g, 0, none⟩)) (hg : TrAt w g vp vk) (hq : tmps.getD q undef = x) : (results fn tmps).run Try.prog w = .ok (.tuple #[.agg #[vp, vk], x]) w := by
  have hp' : tmps[p]?.getD undef = .pointer (some ⟨g, 0, none⟩) := by simpa using hp
  have hq' : tmps[q]?.getD undef = x := by simpa using hq
  have hld := run_loadVar_row (P := Try.prog) w g _ 25 _ _ _ hg Try.underlying25 rfl size_tr
  simp [results, hf, hp', hq', asAddr, hld]

/-- What Get leaves: the tree of the bytes, or the nought and ErrForm. -/
def GotT (b : List UInt8) (w : World) (e : Ending) (w' : World) : Prop :=
  ∃ (o : Option Tre) (v : Value) (n : Int), e = .returned (.tuple #[v, .int .i64 n]) ∧ GetsT b o ∧ Below w.heap.size w w' ∧ TreIn w' w'.heap.size v (o.getD ⟨[], []⟩) ∧ n = if o.isSome = true then 0 else 4

theorem got_none {b : List UInt8} {w w' : World} (h : GetsT b none) (hb : Below w.heap.size w w') : GotT b w (.returned (.tuple #[.agg #[.slice none 0 0, .slice none 0 0], .int .i64 4])) w' :=
  ⟨none, _, 4, rfl, h, hb, ⟨_, _, rfl, RwIn.nil _ _, RwIn.nil _ _⟩, rfl⟩

set_option maxRecDepth 100000 in
set_option maxHeartbeats 3200000 in
theorem gett_any (v : Value) (b : List UInt8) (w : World) (h : Sl w w.heap.size v b) (hs : b.length ≤ 100000) : Calls Try.prog 14 #[v] w (GotT b w) := by
  obtain ⟨A, c, rfl, _, _⟩ := h.len
  have hb1 : Below w.heap.size w (w.alloc (.cells #[.slice none 0 0, .slice none 0 0] 25)) := new_below _ _
  have hz1 : (w.alloc (.cells #[.slice none 0 0, .slice none 0 0] 25)).heap.size = w.heap.size + 1 := asz _ _
  have HT1 : Hid (TrAt (w.alloc (.cells #[.slice none 0 0, .slice none 0 0] 25)) w.heap.size (.slice none 0 0) (.slice none 0 0)) := TrAt.new _ _ _
  have HS1 : Hid (Sl (w.alloc (.cells #[.slice none 0 0, .slice none 0 0] 25)) (w.alloc (.cells #[.slice none 0 0, .slice none 0 0] 25)).heap.size (.slice A b.length c) b) := (h.below hb1).more hb1.size
  have HB1 := Lib.hid hb1
  clear h hb1
  have hl1 : (gbB false b).length ≤ 100000 := Nat.le_trans (tkB_len _ _ _) hs
  have HGP := Lib.hid (fun g W h => getps_any g (gbB false b) (gbX false b) W h (sane_gb _ _) (by omega))
  have HGK := Lib.hid (fun g W h => getks_any g (gbB false b) (gbX false b) W h (sane_gb _ _) (by omega))
  go_enter Try.func14, Try.ntmps14
  go_wp2_with (refine wp_alloc_row zero_tr rfl rfl ?_)
  generalize w.alloc (.cells #[.slice none 0 0, .slice none 0 0] 25) = w1 at *
  refine (read_any _ b w1 HS1.out).mono ?_
  rintro e w2 ⟨rfl, hr2, hb2⟩
  obtain ⟨g, hg⟩ : ∃ x, w1.heap.size = x := ⟨_, rfl⟩
  rw [hg] at hr2 hb2 ⊢
  have HB2 := Lib.hid (HB1.out.trans (hb2.mono (by omega)))
  have HT2 := Lib.hid (HT1.out.below hb2 (by omega))
  have HR2 := Lib.hid hr2
  have hz2 := hb2.size
  clear hb2 hr2 HB1 HT1 HS1
  have HGB := Lib.hid (getb_any g b false w2 HR2.out (fun h => by cases h) (by omega))
  go_wp2_with fail
  refine HGB.out.mono ?_
  rintro e w3 ⟨rfl, hl3⟩
  have HR3 := Lib.hid hl3.1
  have HB3 := Lib.hid (below_of_grown HB2.out hl3.2 (by omega) (by omega))
  have HT3 := Lib.hid (HT2.out.far hl3.2 (by omega))
  have hz3 : g ≤ w3.heap.size := by have := hl3.2.size; omega
  clear hl3 HB2 HT2 HR2 HGB
  by_cases h1 : gbV false b = 1
  · have hq1 : (((gbV false b).toNat : Int) == 1) = true := by rw [h1]; rfl
    have H1 := Lib.hid h1
    clear h1
    have hps : Hid (∀ (g : Nat) (W : World), Rd W g (gbB false b) (gbX false b) → Calls Try.prog 33 #[.pointer (some ⟨g, 0, none⟩)] W (GotPs W g (rdP b))) := HGP.out
    have hno : Hid (¬ ((rdP b).bad = false ∧ (rdP b).bs = [] ∧ GoodPs (rdP b).l) → GetsT b none) := fun hn => getT_nops H1.out hn
    have hyes : Hid ((rdP b).bad = false → (rdP b).bs = [] → GoodPs (rdP b).l → GetsT b (some ⟨(rdP b).l, []⟩)) := fun hb hn hg => getT_ps H1.out hb hn hg
    generalize rdP b = q at *
    generalize gbV false b = kk at *
    generalize gbB false b = b1 at *
    generalize gbX false b = x1 at *
    obtain ⟨l, bs, bad⟩ := q
    clear HGP HGK
    go_wp2_with fail
    refine (hps.out g w3 HR3.out).mono ?_
    rintro e w4 ⟨v4, rfl, ho4, hl4⟩
    have HR4 : Hid (Rd w4 g bs bad) := hl4.1
    have HB4 := Lib.hid (below_of_grown HB3.out hl4.2 (by omega) (by omega))
    have HT4 := Lib.hid (HT3.out.far hl4.2 (by omega))
    have HO4 : Hid (OwnRw ppC 2 56 w4 w3.heap.size v4 l) := ho4
    have hz4 : w3.heap.size ≤ w4.heap.size := hl4.2.size
    obtain ⟨A4, c4, e4, _, _⟩ := (ho4.rwIn kind_pp).len
    clear hl4 ho4 HB3 HT3 HR3
    subst e4
    go_wp2_with fail
    refine (end_any g bs bad w4 HR4.out).mono ?_
    rintro e w5 ⟨rfl, rfl⟩
    by_cases hend : bad = false ∧ bs = []
    · obtain ⟨rfl, rfl⟩ := hend
      have hyes2 : Hid (GoodPs l → GetsT b (some ⟨l, []⟩)) := fun hg => hyes.out rfl rfl hg
      have hno2 : Hid (¬ GoodPs l → GetsT b none) := fun hg => hno.out (fun hn => hg hn.2.2)
      clear hyes hno
      go_wp2_with fail
      refine (goodps_any _ l w4 (HO4.out.rwIn kind_pp)).mono ?_
      rintro e w5 ⟨s, rfl, hs5, hb5⟩
      have HB5 := Lib.hid (HB4.out.trans (hb5.mono (by omega)))
      have HT5 := Lib.hid (HT4.out.below hb5 (by omega))
      have HO5 := Lib.hid (HO4.out.keep hb5)
      clear hb5 HB4 HT4 HO4 HR4
      cases s
      · have hG : Hid (GetsT b none) := hno2.out (fun hn => by have := hs5.2 hn; cases this)
        clear hs5 hyes2 hno2
        have d0 := HT5.out.c0
        have d1 := HT5.out.c1
        have f0 := HT5.out.frozen 0
        have f1 := HT5.out.frozen 1
        go_wp2_with fail
        exact bodyPost_ret (ret_tr Try.results14 _ _ w.heap.size _ _ (.int .i64 4) rfl (HT5.out.whole _ _) rfl) rfl (got_none hG.out (below_two HB5.out (Nat.le_refl _) _ _))
      · have hG : Hid (GetsT b (some ⟨l, []⟩)) := hyes2.out (hs5.1 rfl)
        clear hs5 hyes2 hno2
        have d0 := HT5.out.c0
        have d1 := HT5.out.c1
        have f0 := HT5.out.frozen 0
        have f1 := HT5.out.frozen 1
        go_wp2_with fail
        refine bodyPost_ret (ret_tr Try.results14 _ _ w.heap.size _ _ (.int .i64 0) rfl (HT5.out.whole _ _) rfl) rfl ?_
        exact ⟨some ⟨l, []⟩, _, 0, rfl, hG.out, below_two HB5.out (Nat.le_refl _) _ _, ⟨_, _, rfl, (HO5.out.two (by omega) _ _).rwIn kind_pp, RwIn.nil _ _⟩, rfl⟩
    · have hG : Hid (GetsT b none) := hno.out (fun hn => hend ⟨hn.1, hn.2.1⟩)
      have hbb : (!bad && bs.isEmpty) = false := by
        cases bad
        · cases bs
          · exact absurd ⟨rfl, rfl⟩ hend
          · rfl
        · rfl
      rw [hbb]
      clear hend hbb hno hyes
      have d0 := HT4.out.c0
      have d1 := HT4.out.c1
      have f0 := HT4.out.frozen 0
      have f1 := HT4.out.frozen 1
      go_wp2_with fail
      exact bodyPost_ret (ret_tr Try.results14 _ _ w.heap.size _ _ (.int .i64 4) rfl (HT4.out.whole _ _) rfl) rfl (got_none hG.out (below_two HB4.out (Nat.le_refl _) _ _))
  · have hq1 : (((gbV false b).toNat : Int) == 1) = false := by
      rw [beq_eq_false_iff_ne]
      exact fun e => h1 (UInt8.toNat_inj.1 (by show _ = 1; omega))
    by_cases h2 : gbV false b = 2
    · have hq2 : (((gbV false b).toNat : Int) == 2) = true := by rw [h2]; rfl
      have H1 := Lib.hid h2
      clear h1 h2
      have hps : Hid (∀ (g : Nat) (W : World), Rd W g (gbB false b) (gbX false b) → Calls Try.prog 35 #[.pointer (some ⟨g, 0, none⟩)] W (GotKs W g (rdK b))) := HGK.out
      have hno : Hid (¬ ((rdK b).bad = false ∧ (rdK b).bs = [] ∧ GoodKs (rdK b).l) → GetsT b none) := fun hn => getT_noks H1.out hn
      have hyes : Hid ((rdK b).bad = false → (rdK b).bs = [] → GoodKs (rdK b).l → GetsT b (some ⟨[], (rdK b).l⟩)) := fun hb hn hg => getT_ks H1.out hb hn hg
      generalize rdK b = q at *
      generalize gbV false b = kk at *
      generalize gbB false b = b1 at *
      generalize gbX false b = x1 at *
      obtain ⟨l, bs, bad⟩ := q
      clear HGP HGK
      go_wp2_with fail
      refine (hps.out g w3 HR3.out).mono ?_
      rintro e w4 ⟨v4, rfl, ho4, hl4⟩
      have HR4 : Hid (Rd w4 g bs bad) := hl4.1
      have HB4 := Lib.hid (below_of_grown HB3.out hl4.2 (by omega) (by omega))
      have HT4 := Lib.hid (HT3.out.far hl4.2 (by omega))
      have HO4 : Hid (OwnRw kkC 34 59 w4 w3.heap.size v4 l) := ho4
      have hz4 : w3.heap.size ≤ w4.heap.size := hl4.2.size
      obtain ⟨A4, c4, e4, _, _⟩ := (ho4.rwIn kind_kk).len
      clear hl4 ho4 HB3 HT3 HR3
      subst e4
      go_wp2_with fail
      refine (end_any g bs bad w4 HR4.out).mono ?_
      rintro e w5 ⟨rfl, rfl⟩
      by_cases hend : bad = false ∧ bs = []
      · obtain ⟨rfl, rfl⟩ := hend
        have hyes2 : Hid (GoodKs l → GetsT b (some ⟨[], l⟩)) := fun hg => hyes.out rfl rfl hg
        have hno2 : Hid (¬ GoodKs l → GetsT b none) := fun hg => hno.out (fun hn => hg hn.2.2)
        clear hyes hno
        go_wp2_with fail
        refine (goodks_any _ l w4 (HO4.out.rwIn kind_kk)).mono ?_
        rintro e w5 ⟨s, rfl, hs5, hb5⟩
        have HB5 := Lib.hid (HB4.out.trans (hb5.mono (by omega)))
        have HT5 := Lib.hid (HT4.out.below hb5 (by omega))
        have HO5 := Lib.hid (HO4.out.keep hb5)
        clear hb5 HB4 HT4 HO4 HR4
        cases s
        · have hG : Hid (GetsT b none) := hno2.out (fun hn => by have := hs5.2 hn; cases this)
          clear hs5 hyes2 hno2
          have d0 := HT5.out.c0
          have d1 := HT5.out.c1
          have f0 := HT5.out.frozen 0
          have f1 := HT5.out.frozen 1
          go_wp2_with fail
          exact bodyPost_ret (ret_tr Try.results14 _ _ w.heap.size _ _ (.int .i64 4) rfl (HT5.out.whole _ _) rfl) rfl (got_none hG.out (below_two HB5.out (Nat.le_refl _) _ _))
        · have hG : Hid (GetsT b (some ⟨[], l⟩)) := hyes2.out (hs5.1 rfl)
          clear hs5 hyes2 hno2
          have d0 := HT5.out.c0
          have d1 := HT5.out.c1
          have f0 := HT5.out.frozen 0
          have f1 := HT5.out.frozen 1
          go_wp2_with fail
          refine bodyPost_ret (ret_tr Try.results14 _ _ w.heap.size _ _ (.int .i64 0) rfl (HT5.out.whole _ _) rfl) rfl ?_
          exact ⟨some ⟨[], l⟩, _, 0, rfl, hG.out, below_two HB5.out (Nat.le_refl _) _ _, ⟨_, _, rfl, RwIn.nil _ _, (HO5.out.two (by omega) _ _).rwIn kind_kk⟩, rfl⟩
      · have hG : Hid (GetsT b none) := hno.out (fun hn => hend ⟨hn.1, hn.2.1⟩)
        have hbb : (!bad && bs.isEmpty) = false := by
          cases bad
          · cases bs
            · exact absurd ⟨rfl, rfl⟩ hend
            · rfl
          · rfl
        rw [hbb]
        clear hend hbb hno hyes
        have d0 := HT4.out.c0
        have d1 := HT4.out.c1
        have f0 := HT4.out.frozen 0
        have f1 := HT4.out.frozen 1
        go_wp2_with fail
        exact bodyPost_ret (ret_tr Try.results14 _ _ w.heap.size _ _ (.int .i64 4) rfl (HT4.out.whole _ _) rfl) rfl (got_none hG.out (below_two HB4.out (Nat.le_refl _) _ _))
    · have hq2 : (((gbV false b).toNat : Int) == 2) = false := by
        rw [beq_eq_false_iff_ne]
        exact fun e => h2 (UInt8.toNat_inj.1 (by show _ = 2; omega))
      have hG := Lib.hid (getT_else h1 h2)
      generalize gbV false b = kk at *
      clear h1 h2 HGP HGK
      have d0 := HT3.out.c0
      have d1 := HT3.out.c1
      have f0 := HT3.out.frozen 0
      have f1 := HT3.out.frozen 1
      go_wp2_with fail
      exact bodyPost_ret (ret_tr Try.results14 _ _ w.heap.size _ _ (.int .i64 4) rfl (HT3.out.whole _ _) rfl) rfl (got_none hG.out (below_two HB3.out (Nat.le_refl _) _ _))

end Go.Proofs.Ytabogconbjdcgaa.Cd
