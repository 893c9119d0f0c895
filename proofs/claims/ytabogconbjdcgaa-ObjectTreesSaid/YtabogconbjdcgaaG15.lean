/-
  ObjectTrees: the law's walk. Conditions: none.
-/
import Derived.Test.YtabogconbjdcgaaG11
import Derived.Test.YtabogconbjdcgaaG14
import Derived.Test.YtabogconbjdcgaaG10
namespace Go.Proofs.Ytabogconbjdcgaa.ObjectTrees
open Go.RowKit Go.Proofs.Ytabogconbjdcgaa.Cd

/-- The tree's box, of a law that was called in the world w, as it lies in W. -/
structure HeldT (w W : World) (t : Tre) (vp vk : Value) : Prop where
  ps : PsIn w w.heap.size vp t.ps
  ks : KsIn w w.heap.size vk t.ks
  bel : Below w.heap.size w W
  tr : TrAt W w.heap.size vp vk
  top : w.heap.size + 1 ≤ W.heap.size
section
variable {w W W' : World} {t : Tre} {vp vk : Value}
theorem HeldT.step (h : HeldT w W t vp vk) (hb : Below W.heap.size W W') : HeldT w W' t vp vk :=
  ⟨h.ps, h.ks, h.bel.trans (hb.mono h.bel.size), h.tr.below hb h.top, Nat.le_trans h.top hb.size⟩
theorem HeldT.tre (h : HeldT w W t vp vk) : TreIn W W.heap.size (.agg #[vp, vk]) t :=
  ⟨_, _, rfl, (h.ps.below h.bel).more h.bel.size, (h.ks.below h.bel).more h.bel.size⟩
end
theorem HeldT.start {w : World} {t : Tre} {vp vk : Value} (h : PsIn w w.heap.size vp t.ps) (h2 : KsIn w w.heap.size vk t.ks) : HeldT w (w.alloc (.cells #[vp, vk] 25)) t vp vk :=
  ⟨h, h2, new_below _ _, TrAt.new _ _ _, by rw [asz]; omega⟩

set_option maxRecDepth 100000 in
set_option maxHeartbeats 12800000 in
theorem walk (vt : Value) (t : Tre) (vb : Value) (bb : List UInt8) (w : World) (ht : TreIn w w.heap.size vt t ∧ FitT t) (hb0 : Sl w w.heap.size vb bb) : Calls Try.prog 3 #[vt, vb] w (Gives (.bool true) w) := by
  obtain ⟨⟨vp, vk, rfl, hp0, hk0⟩, hft⟩ := ht
  obtain ⟨A1, c1, e1, k1, l1⟩ := hp0.len
  obtain ⟨A2, c2, e2, k2, l2⟩ := hk0.len
  obtain ⟨Ab, cb, eb, kb, lb⟩ := hb0.len
  subst e1 e2 eb
  have lb : cb ≤ 9223372036854775807 := lb
  have HFT := Lib.hid hft
  have HSB := Lib.hid hb0
  have HH1 := Lib.hid (HeldT.start hp0 hk0)
  clear hp0 hk0 hft hb0
  go_enter Try.func3, Try.ntmps3
  go_wp2_with (refine wp_box_row rfl _ rfl rfl ?_)
  generalize w.alloc (.cells #[.slice A1 t.ps.length c1, .slice A2 t.ks.length c2] 25) = W1 at *
  refine (oalive_any W1).mono ?_
  rintro e W2 ⟨rfl, hb⟩
  have HH2 := Lib.hid (HH1.out.step hb)
  clear hb HH1
  have d0 := HH2.out.tr.c0
  have d1 := HH2.out.tr.c1
  go_wp2_with fail
  refine (greatt_any _ t W2 HH2.out.tre HFT.out).mono ?_
  rintro e W4 ⟨s, rfl, hs, hb⟩
  have HH4 := Lib.hid (HH2.out.step hb)
  clear hb HH2 d0 d1
  cases s
  case true =>
    have HB := Lib.hid HH4.out.bel
    clear hs
    go_wp2_with fail
    go_ret
    exact ⟨rfl, HB.out⟩
  have hs' := hs rfl
  have HS1 : Hid (t.ps.length ≤ 1000) := by have := hs'.ps; show t.ps.length ≤ 1000; omega
  have HS2 : Hid (t.ks.length ≤ 1000) := by have := hs'.ks; show t.ks.length ≤ 1000; omega
  clear hs hs'
  by_cases hbb : 4096 < bb.length
  · have hbb' : (4096 : Int) < bb.length := by omega
    have HB := Lib.hid HH4.out.bel
    clear hbb
    go_wp2_with fail
    go_ret
    exact ⟨rfl, HB.out⟩
  have hbb' : ¬ (4096 : Int) < bb.length := by omega
  have HLEN : Hid (bb.length ≤ 4096) := by show bb.length ≤ 4096; omega
  clear hbb
  have d0 := HH4.out.tr.c0
  have d1 := HH4.out.tr.c1
  go_wp2_with (first | go_skip | go_guarded)
  refine (putt_any _ t W4 HH4.out.tre).mono ?_
  rintro e W5 ⟨v5, n5, rfl, hb, hput⟩
  have HH5 := Lib.hid (HH4.out.step hb)
  clear hb HH4 hbb' d0 d1
  have d0 := HH5.out.tr.c0
  have d1 := HH5.out.tr.c1
  rcases hput with ⟨hg, rfl, ho⟩ | ⟨hng, rfl, rfl⟩
  · have HGC := Lib.hid hg
    have HO5 := Lib.hid ho
    obtain ⟨A5, c5, e5, _, _⟩ := ho.sl.len
    clear ho hg
    subst e5
    go_wp2_with fail
    refine (rgoodt_any _ t W5 HH5.out.tre HS1.out HS2.out).mono ?_
    rintro e W6 ⟨s, rfl, hs, hb⟩
    clear d0 d1
    obtain rfl : s = true := hs.2 HGC.out
    have HO6 := Lib.hid (HO5.out.keep hb)
    have HH6 := Lib.hid (HH5.out.step hb)
    clear hb hs HH5 HO5
    go_wp2_with fail
    obtain ⟨W0, hW0⟩ : ∃ x, W6.drew = x := ⟨_, rfl⟩
    have hS0 : HeldT w W0 t (.slice A1 t.ps.length c1) (.slice A2 t.ks.length c2) ∧ Own W0 W4.heap.size (.slice A5 (treeB t).length c5) (treeB t) := by
      rw [← hW0]
      exact ⟨⟨HH6.out.ps, HH6.out.ks, HH6.out.bel.drew, HH6.out.tr, HH6.out.top⟩, HO6.out.drew⟩
    have HRC := Lib.hid (fun W h => rtree_any (.agg #[.slice A1 t.ps.length c1, .slice A2 t.ks.length c2]) t W h (goodT_small HGC.out).1 (goodT_small HGC.out).2)
    have HGD := Lib.hid (fun W h => goodt_any (.agg #[.slice A1 t.ps.length c1, .slice A2 t.ks.length c2]) t W h)
    have HSL := Lib.hid (fun (W : World) (h : Own W W4.heap.size (.slice A5 (treeB t).length c5) (treeB t)) => run_text_of _ _ _ _ h.sl)
    generalize (treeB t) = CB at *
    clear HH6 HO6
    refine region_begin hW0 (S := fun W => HeldT w W t (.slice A1 t.ps.length c1) (.slice A2 t.ks.length c2) ∧ Own W W4.heap.size (.slice A5 CB.length c5) CB) (by kernel_rfl) hS0 (fun hHeld => ?_)
    clear hW0 hS0
    refine take_at (i := 0) (.agg #[.slice A1 t.ps.length c1, .slice A2 t.ks.length c2]) (some 28) (by decide) (by rfl) (by kernel_rfl) (by kernel_rfl) (by kernel_rfl) (fun _ _ _ h => h) (by rfl) (fun W hW => by have d0 := hW.1.tr.c0; have d1 := hW.1.tr.c1; go_simp) (by assumption) ?_
    try simp only [Act.put, List.setIfInBounds_toArray, List.set_cons_zero, List.set_cons_succ]
    refine take_at (i := 2) (.bool true) (some 30) (by decide) (by rfl) (by kernel_rfl) (by kernel_rfl) (by kernel_rfl) (fun _ _ _ h => h) (by rfl) (fun W hW => by go_simp) (by assumption) ?_
    try simp only [Act.put, List.setIfInBounds_toArray, List.set_cons_zero, List.set_cons_succ]
    refine wpAnyH_ready (rs := [1]) (by kernel_rfl) (by simp) (AllReadyH.cons (Array.getElem?_eq_getElem (i := 1) (by decide)) (fun K9 hK => ?_) AllReadyH.nil)
    go_simp
    refine (HGD.out _ hHeld.1.tre).mono ?_
    rintro e wa ⟨s, rfl, hs, hba⟩
    obtain rfl : s = true := hs.2 HGC.out
    refine hK.out _ _ (⟨hHeld.1.step hba, hHeld.2.keep hba⟩) (fun hHeld => ?_)
    clear hK K9
    try simp only [Act.put, List.setIfInBounds_toArray, List.set_cons_zero, List.set_cons_succ]
    clear hba hs
    refine take_at (i := 3) (.bool false) (some 31) (by decide) (by rfl) (by kernel_rfl) (by kernel_rfl) (by kernel_rfl) (fun _ _ _ h => h) (by rfl) (fun W hW => by go_simp) (by assumption) ?_
    try simp only [Act.put, List.setIfInBounds_toArray, List.set_cons_zero, List.set_cons_succ]
    refine take_at (i := 4) (.bool false) (some 32) (by decide) (by rfl) (by kernel_rfl) (by kernel_rfl) (by kernel_rfl) (fun _ _ _ h => h) (by rfl) (fun W hW => by go_simp) (by assumption) ?_
    try simp only [Act.put, List.setIfInBounds_toArray, List.set_cons_zero, List.set_cons_succ]
    refine take_at (i := 5) (.int .i64 0) (some 33) (by decide) (by rfl) (by kernel_rfl) (by kernel_rfl) (by kernel_rfl) (fun _ _ _ h => h) (by rfl) (fun W hW => by go_simp) (by assumption) ?_
    try simp only [Act.put, List.setIfInBounds_toArray, List.set_cons_zero, List.set_cons_succ]
    refine take_at (i := 6) (.bool true) (some 34) (by decide) (by rfl) (by kernel_rfl) (by kernel_rfl) (by kernel_rfl) (fun _ _ _ h => h) (by rfl) (fun W hW => by go_simp) (by assumption) ?_
    try simp only [Act.put, List.setIfInBounds_toArray, List.set_cons_zero, List.set_cons_succ]
    refine take_at (i := 7) (.bool true) (some 35) (by decide) (by rfl) (by kernel_rfl) (by kernel_rfl) (by kernel_rfl) (fun _ _ _ h => h) (by rfl) (fun W hW => by go_simp) (by assumption) ?_
    try simp only [Act.put, List.setIfInBounds_toArray, List.set_cons_zero, List.set_cons_succ]
    refine take_at (i := 8) (.bool false) (some 36) (by decide) (by rfl) (by kernel_rfl) (by kernel_rfl) (by kernel_rfl) (fun _ _ _ h => h) (by rfl) (fun W hW => by go_simp) (by assumption) ?_
    try simp only [Act.put, List.setIfInBounds_toArray, List.set_cons_zero, List.set_cons_succ]
    refine take_at (i := 9) (.bool false) (some 37) (by decide) (by rfl) (by kernel_rfl) (by kernel_rfl) (by kernel_rfl) (fun _ _ _ h => h) (by rfl) (fun W hW => by go_simp) (by assumption) ?_
    try simp only [Act.put, List.setIfInBounds_toArray, List.set_cons_zero, List.set_cons_succ]
    refine take_at (i := 10) (.bool false) (some 38) (by decide) (by rfl) (by kernel_rfl) (by kernel_rfl) (by kernel_rfl) (fun _ _ _ h => h) (by rfl) (fun W hW => by go_simp) (by assumption) ?_
    try simp only [Act.put, List.setIfInBounds_toArray, List.set_cons_zero, List.set_cons_succ]
    refine take_at (i := 11) (.bool true) (some 39) (by decide) (by rfl) (by kernel_rfl) (by kernel_rfl) (by kernel_rfl) (fun _ _ _ h => h) (by rfl) (fun W hW => by go_simp) (by assumption) ?_
    try simp only [Act.put, List.setIfInBounds_toArray, List.set_cons_zero, List.set_cons_succ]
    refine take_at (i := 12) (.bool true) (some 40) (by decide) (by rfl) (by kernel_rfl) (by kernel_rfl) (by kernel_rfl) (fun _ _ _ h => h) (by rfl) (fun W hW => by go_simp) (by assumption) ?_
    try simp only [Act.put, List.setIfInBounds_toArray, List.set_cons_zero, List.set_cons_succ]
    refine take_at (i := 13) (.slice A5 CB.length c5) (some 41) (by decide) (by rfl) (by kernel_rfl) (by kernel_rfl) (by kernel_rfl) (fun _ _ _ h => h) (by rfl) (fun W hW => by go_simp) (by assumption) ?_
    try simp only [Act.put, List.setIfInBounds_toArray, List.set_cons_zero, List.set_cons_succ]
    refine take_at (i := 14) (.string ⟨CB.toArray⟩) (some 42) (by decide) (by rfl) (by kernel_rfl) (by kernel_rfl) (by kernel_rfl) (fun _ _ _ h => h) (by rfl) (fun W hW => by have := HSL.out W hW.2; go_simp) (by assumption) ?_
    try simp only [Act.put, List.setIfInBounds_toArray, List.set_cons_zero, List.set_cons_succ]
    refine take_at (i := 15) (.agg #[.slice A1 t.ps.length c1, .slice A2 t.ks.length c2]) (some 43) (by decide) (by rfl) (by kernel_rfl) (by kernel_rfl) (by kernel_rfl) (fun _ _ _ h => h) (by rfl) (fun W hW => by have d0 := hW.1.tr.c0; have d1 := hW.1.tr.c1; go_simp) (by assumption) ?_
    try simp only [Act.put, List.setIfInBounds_toArray, List.set_cons_zero, List.set_cons_succ]
    refine wpAnyH_ready (rs := [16]) (by kernel_rfl) (by simp) (AllReadyH.cons (Array.getElem?_eq_getElem (i := 16) (by decide)) (fun K9 hK => ?_) AllReadyH.nil)
    go_simp
    refine (HRC.out _ hHeld.1.tre).mono ?_
    rintro e wb ⟨rfl, hbc⟩
    refine hK.out _ _ (⟨hHeld.1.step hbc, hHeld.2.keep hbc⟩) (fun hHeld => ?_)
    clear hK K9
    try simp only [Act.put, List.setIfInBounds_toArray, List.set_cons_zero, List.set_cons_succ]
    clear hbc
    refine take_at (i := 17) (.bool false) (some 45) (by decide) (by rfl) (by kernel_rfl) (by kernel_rfl) (by kernel_rfl) (fun _ _ _ h => h) (by rfl) (fun W hW => by go_simp) (by assumption) ?_
    try simp only [Act.put, List.setIfInBounds_toArray, List.set_cons_zero, List.set_cons_succ]
    refine take_at (i := 18) (.bool false) (some 46) (by decide) (by rfl) (by kernel_rfl) (by kernel_rfl) (by kernel_rfl) (fun _ _ _ h => h) (by rfl) (fun W hW => by go_simp) (by assumption) ?_
    try simp only [Act.put, List.setIfInBounds_toArray, List.set_cons_zero, List.set_cons_succ]
    refine take_at (i := 19) (.bool false) (some 47) (by decide) (by rfl) (by kernel_rfl) (by kernel_rfl) (by kernel_rfl) (fun _ _ _ h => h) (by rfl) (fun W hW => by go_simp) (by assumption) ?_
    try simp only [Act.put, List.setIfInBounds_toArray, List.set_cons_zero, List.set_cons_succ]
    refine take_at (i := 20) (.bool false) (some 48) (by decide) (by rfl) (by kernel_rfl) (by kernel_rfl) (by kernel_rfl) (fun _ _ _ h => h) (by rfl) (fun W hW => by go_simp) (by assumption) ?_
    try simp only [Act.put, List.setIfInBounds_toArray, List.set_cons_zero, List.set_cons_succ]
    refine take_at (i := 21) (.bool true) (some 49) (by decide) (by rfl) (by kernel_rfl) (by kernel_rfl) (by kernel_rfl) (fun _ _ _ h => h) (by rfl) (fun W hW => by go_simp) (by assumption) ?_
    try simp only [Act.put, List.setIfInBounds_toArray, List.set_cons_zero, List.set_cons_succ]
    refine take_at (i := 22) (.bool false) (some 50) (by decide) (by rfl) (by kernel_rfl) (by kernel_rfl) (by kernel_rfl) (fun _ _ _ h => h) (by rfl) (fun W hW => by go_simp) (by assumption) ?_
    try simp only [Act.put, List.setIfInBounds_toArray, List.set_cons_zero, List.set_cons_succ]
    refine take_at (i := 23) (.bool false) (some 51) (by decide) (by rfl) (by kernel_rfl) (by kernel_rfl) (by kernel_rfl) (fun _ _ _ h => h) (by rfl) (fun W hW => by go_simp) (by assumption) ?_
    try simp only [Act.put, List.setIfInBounds_toArray, List.set_cons_zero, List.set_cons_succ]
    refine skip_at (i := 24) (some 52) (by decide) (by rfl) (by kernel_rfl) (by kernel_rfl) (by kernel_rfl) (fun _ _ _ h => h) (by rfl) (by assumption) ?_
    try simp only [Act.put, List.setIfInBounds_toArray, List.set_cons_zero, List.set_cons_succ]
    refine skip_at (i := 25) (some 53) (by decide) (by rfl) (by kernel_rfl) (by kernel_rfl) (by kernel_rfl) (fun _ _ _ h => h) (by rfl) (by assumption) ?_
    try simp only [Act.put, List.setIfInBounds_toArray, List.set_cons_zero, List.set_cons_succ]
    refine skip_at (i := 26) (some 54) (by decide) (by rfl) (by kernel_rfl) (by kernel_rfl) (by kernel_rfl) (fun _ _ _ h => h) (by rfl) (by assumption) ?_
    try simp only [Act.put, List.setIfInBounds_toArray, List.set_cons_zero, List.set_cons_succ]
    refine skip_at (i := 27) (some 55) (by decide) (by rfl) (by kernel_rfl) (by kernel_rfl) (by kernel_rfl) (fun _ _ _ h => h) (by rfl) (by assumption) ?_
    try simp only [Act.put, List.setIfInBounds_toArray, List.set_cons_zero, List.set_cons_succ]
    refine skip_at (i := 28) (some 56) (by decide) (by rfl) (by kernel_rfl) (by kernel_rfl) (by kernel_rfl) (fun _ _ _ h => h) (by rfl) (by assumption) ?_
    try simp only [Act.put, List.setIfInBounds_toArray, List.set_cons_zero, List.set_cons_succ]
    refine skip_at (i := 29) (some 57) (by decide) (by rfl) (by kernel_rfl) (by kernel_rfl) (by kernel_rfl) (fun _ _ _ h => h) (by rfl) (by assumption) ?_
    try simp only [Act.put, List.setIfInBounds_toArray, List.set_cons_zero, List.set_cons_succ]
    refine skip_at (i := 30) (some 58) (by decide) (by rfl) (by kernel_rfl) (by kernel_rfl) (by kernel_rfl) (fun _ _ _ h => h) (by rfl) (by assumption) ?_
    try simp only [Act.put, List.setIfInBounds_toArray, List.set_cons_zero, List.set_cons_succ]
    refine take_at (i := 31) (.bool false) (some 59) (by decide) (by rfl) (by kernel_rfl) (by kernel_rfl) (by kernel_rfl) (fun _ _ _ h => h) (by rfl) (fun W hW => by go_simp) (by assumption) ?_
    try simp only [Act.put, List.setIfInBounds_toArray, List.set_cons_zero, List.set_cons_succ]
    refine take_at (i := 32) (.bool false) (some 60) (by decide) (by rfl) (by kernel_rfl) (by kernel_rfl) (by kernel_rfl) (fun _ _ _ h => h) (by rfl) (fun W hW => by go_simp) (by assumption) ?_
    try simp only [Act.put, List.setIfInBounds_toArray, List.set_cons_zero, List.set_cons_succ]
    refine wpAnyH_done (by kernel_rfl) ?_ _
    try simp only [Act.put, List.setIfInBounds_toArray, List.set_cons_zero, List.set_cons_succ]
    have HX := Lib.hid hHeld.1
    clear hHeld
    have hsl : Sl wb wb.heap.size (.slice Ab bb.length cb) bb := (HSB.out.below HX.out.bel).more HX.out.bel.size
    go_wp2_with fail
    refine (gett_any _ bb wb hsl (by have := HLEN.out; omega)).mono ?_
    rintro e X1 ⟨o, y1, m1, rfl, hg1, hb, hcy, hm1⟩
    have HX1 := Lib.hid (HX.out.step hb)
    clear hb hsl HX
    obtain ⟨p1, q1, rfl, ii1, jj1⟩ := hcy
    cases o with
    | some cc =>
      obtain rfl : m1 = 0 := hm1
      obtain ⟨B1, d1, e1, _, _⟩ := RwIn.len (show PsIn X1 X1.heap.size p1 cc.ps from ii1)
      have e1 : p1 = .slice B1 cc.ps.length d1 := e1
      obtain ⟨E1, g1, e2, _, _⟩ := RwIn.len (show KsIn X1 X1.heap.size q1 cc.ks from jj1)
      have e2 : q1 = .slice E1 cc.ks.length g1 := e2
      subst e1 e2
      have hnb := new_below X1 (.cells #[.slice B1 cc.ps.length d1, .slice E1 cc.ks.length g1] 25)
      have hnz : (X1.alloc (.cells #[.slice B1 cc.ps.length d1, .slice E1 cc.ks.length g1] 25)).heap.size = X1.heap.size + 1 := asz _ _
      have HI2 : Hid (TreIn (X1.alloc (.cells #[.slice B1 cc.ps.length d1, .slice E1 cc.ks.length g1] 25)) (X1.alloc (.cells #[.slice B1 cc.ps.length d1, .slice E1 cc.ks.length g1] 25)).heap.size (.agg #[.slice B1 cc.ps.length d1, .slice E1 cc.ks.length g1]) cc) := ⟨_, _, rfl, RwIn.on ii1 hnb, RwIn.on jj1 hnb⟩
      have HC2 : Hid (TrAt (X1.alloc (.cells #[.slice B1 cc.ps.length d1, .slice E1 cc.ks.length g1] 25)) X1.heap.size (.slice B1 cc.ps.length d1) (.slice E1 cc.ks.length g1)) := TrAt.new _ _ _
      have HX2 := Lib.hid (HX1.out.step hnb)
      have hcv := run_text_of _ _ _ _ (HSB.out.below HX2.out.bel)
      clear hnb ii1 jj1 HX1
      go_wp2_with fail
      generalize (X1.alloc (.cells #[.slice B1 cc.ps.length d1, .slice E1 cc.ks.length g1] 25)) = X2 at *
      refine (rgett_any bb X2 (by have := HLEN.out; omega)).mono ?_
      rintro e X3 ⟨o3, y3, rfl, hg3, hb, hcy3⟩
      have HX3 := Lib.hid (HX2.out.step hb)
      have HI3 : Hid (TreIn X3 X3.heap.size (.agg #[.slice B1 cc.ps.length d1, .slice E1 cc.ks.length g1]) cc) := by
        obtain ⟨a, b, e, h1, h2⟩ := HI2.out
        exact ⟨a, b, e, RwIn.on h1 hb, RwIn.on h2 hb⟩
      have HC3 := Lib.hid (HC2.out.below hb (by omega))
      have hz3 : X1.heap.size < X3.heap.size := by have := hb.size; omega
      clear hb HX2 HI2 HC2 hcv hnz
      obtain rfl : o3 = some cc := getT_uniq hg3 hg1
      obtain ⟨p3, q3, rfl, ii3, jj3⟩ := hcy3
      obtain ⟨B3, d3, e3, _, _⟩ := RwIn.len (show PsIn X3 X3.heap.size p3 cc.ps from ii3)
      have e3 : p3 = .slice B3 cc.ps.length d3 := e3
      obtain ⟨E3, g3, e4, _, _⟩ := RwIn.len (show KsIn X3 X3.heap.size q3 cc.ks from jj3)
      have e4 : q3 = .slice E3 cc.ks.length g3 := e4
      subst e3 e4
      have hnb := new_below X3 (.cells #[.slice B3 cc.ps.length d3, .slice E3 cc.ks.length g3] 25)
      have HX4 := Lib.hid (HX3.out.step hnb)
      have HI4 : Hid (TreIn (X3.alloc (.cells #[.slice B3 cc.ps.length d3, .slice E3 cc.ks.length g3] 25)) (X3.alloc (.cells #[.slice B3 cc.ps.length d3, .slice E3 cc.ks.length g3] 25)).heap.size (.agg #[.slice B1 cc.ps.length d1, .slice E1 cc.ks.length g1]) cc) := by
        obtain ⟨a, b, e, h1, h2⟩ := HI3.out
        exact ⟨a, b, e, RwIn.on h1 hnb, RwIn.on h2 hnb⟩
      have HJ4 : Hid (TreIn (X3.alloc (.cells #[.slice B3 cc.ps.length d3, .slice E3 cc.ks.length g3] 25)) (X3.alloc (.cells #[.slice B3 cc.ps.length d3, .slice E3 cc.ks.length g3] 25)).heap.size (.agg #[.slice B3 cc.ps.length d3, .slice E3 cc.ks.length g3]) cc) := ⟨_, _, rfl, RwIn.on ii3 hnb, RwIn.on jj3 hnb⟩
      have d0 := (HC3.out.below hnb hz3).c0
      have d1 := (HC3.out.below hnb hz3).c1
      clear hnb ii3 jj3 HX3 HI3 HC3 hg1 hg3
      try dsimp only
      go_wp2_with (first | go_skip | go_guarded)
      generalize (X3.alloc (.cells #[.slice B3 cc.ps.length d3, .slice E3 cc.ks.length g3] 25)) = X4 at *
      refine (samet_any _ _ cc cc X4 HI4.out HJ4.out).mono ?_
      rintro e X5 ⟨s, rfl, hs, hb⟩
      obtain rfl : s = true := hs.2 rfl
      have HX5 := Lib.hid (HX4.out.step hb)
      have HB := Lib.hid HX5.out.bel
      clear hb hs
      go_wp2_with fail
      go_ret
      exact ⟨rfl, HB.out⟩
    | none =>
      obtain rfl : m1 = 4 := hm1
      obtain ⟨B1, d1, e1, _, _⟩ := RwIn.len (show PsIn X1 X1.heap.size p1 [] from ii1)
      have e1 : p1 = .slice B1 0 d1 := e1
      obtain ⟨E1, g1, e2, _, _⟩ := RwIn.len (show KsIn X1 X1.heap.size q1 [] from jj1)
      have e2 : q1 = .slice E1 0 g1 := e2
      subst e1 e2
      have hnb := new_below X1 (.cells #[.slice B1 0 d1, .slice E1 0 g1] 25)
      have hnz : (X1.alloc (.cells #[.slice B1 0 d1, .slice E1 0 g1] 25)).heap.size = X1.heap.size + 1 := asz _ _
      have HI2 : Hid (TreIn (X1.alloc (.cells #[.slice B1 0 d1, .slice E1 0 g1] 25)) (X1.alloc (.cells #[.slice B1 0 d1, .slice E1 0 g1] 25)).heap.size (.agg #[.slice B1 0 d1, .slice E1 0 g1]) (⟨[], []⟩ : Tre)) := ⟨_, _, rfl, RwIn.on ii1 hnb, RwIn.on jj1 hnb⟩
      have HC2 : Hid (TrAt (X1.alloc (.cells #[.slice B1 0 d1, .slice E1 0 g1] 25)) X1.heap.size (.slice B1 0 d1) (.slice E1 0 g1)) := TrAt.new _ _ _
      have HX2 := Lib.hid (HX1.out.step hnb)
      have hcv := run_text_of _ _ _ _ (HSB.out.below HX2.out.bel)
      clear hnb ii1 jj1 HX1
      go_wp2_with fail
      generalize (X1.alloc (.cells #[.slice B1 0 d1, .slice E1 0 g1] 25)) = X2 at *
      refine (rgett_any bb X2 (by have := HLEN.out; omega)).mono ?_
      rintro e X3 ⟨o3, y3, rfl, hg3, hb, hcy3⟩
      have HX3 := Lib.hid (HX2.out.step hb)
      have HI3 : Hid (TreIn X3 X3.heap.size (.agg #[.slice B1 0 d1, .slice E1 0 g1]) (⟨[], []⟩ : Tre)) := by
        obtain ⟨a, b, e, h1, h2⟩ := HI2.out
        exact ⟨a, b, e, RwIn.on h1 hb, RwIn.on h2 hb⟩
      have HC3 := Lib.hid (HC2.out.below hb (by omega))
      have hz3 : X1.heap.size < X3.heap.size := by have := hb.size; omega
      clear hb HX2 HI2 HC2 hcv hnz
      obtain rfl : o3 = none := getT_uniq hg3 hg1
      obtain ⟨p3, q3, rfl, ii3, jj3⟩ := hcy3
      obtain ⟨B3, d3, e3, _, _⟩ := RwIn.len (show PsIn X3 X3.heap.size p3 [] from ii3)
      have e3 : p3 = .slice B3 0 d3 := e3
      obtain ⟨E3, g3, e4, _, _⟩ := RwIn.len (show KsIn X3 X3.heap.size q3 [] from jj3)
      have e4 : q3 = .slice E3 0 g3 := e4
      subst e3 e4
      have hnb := new_below X3 (.cells #[.slice B3 0 d3, .slice E3 0 g3] 25)
      have HX4 := Lib.hid (HX3.out.step hnb)
      have HI4 : Hid (TreIn (X3.alloc (.cells #[.slice B3 0 d3, .slice E3 0 g3] 25)) (X3.alloc (.cells #[.slice B3 0 d3, .slice E3 0 g3] 25)).heap.size (.agg #[.slice B1 0 d1, .slice E1 0 g1]) (⟨[], []⟩ : Tre)) := by
        obtain ⟨a, b, e, h1, h2⟩ := HI3.out
        exact ⟨a, b, e, RwIn.on h1 hnb, RwIn.on h2 hnb⟩
      have HJ4 : Hid (TreIn (X3.alloc (.cells #[.slice B3 0 d3, .slice E3 0 g3] 25)) (X3.alloc (.cells #[.slice B3 0 d3, .slice E3 0 g3] 25)).heap.size (.agg #[.slice B3 0 d3, .slice E3 0 g3]) (⟨[], []⟩ : Tre)) := ⟨_, _, rfl, RwIn.on ii3 hnb, RwIn.on jj3 hnb⟩
      have d0 := (HC3.out.below hnb hz3).c0
      have d1 := (HC3.out.below hnb hz3).c1
      clear hnb ii3 jj3 HX3 HI3 HC3 hg1 hg3
      try dsimp only
      go_wp2_with (first | go_skip | go_guarded)
      generalize (X3.alloc (.cells #[.slice B3 0 d3, .slice E3 0 g3] 25)) = X4 at *
      refine (samet_any _ _ (⟨[], []⟩ : Tre) (⟨[], []⟩ : Tre) X4 HI4.out HJ4.out).mono ?_
      rintro e X5 ⟨s, rfl, hs, hb⟩
      obtain rfl : s = true := hs.2 rfl
      have HX5 := Lib.hid (HX4.out.step hb)
      have HB := Lib.hid HX5.out.bel
      clear hb hs
      go_wp2_with fail
      go_ret
      exact ⟨rfl, HB.out⟩
  · have HNG := Lib.hid hng
    clear hng
    go_wp2_with fail
    refine (rgoodt_any _ t W5 HH5.out.tre HS1.out HS2.out).mono ?_
    rintro e W6 ⟨s, rfl, hs, hb⟩
    clear d0 d1
    obtain rfl : s = false := by
      cases s
      · rfl
      · exact absurd (hs.1 rfl) HNG.out
    have HH6 := Lib.hid (HH5.out.step hb)
    clear hb hs HH5
    go_wp2_with fail
    obtain ⟨W0, hW0⟩ : ∃ x, W6.drew = x := ⟨_, rfl⟩
    have hS0 : HeldT w W0 t (.slice A1 t.ps.length c1) (.slice A2 t.ks.length c2) := by
      rw [← hW0]
      exact ⟨HH6.out.ps, HH6.out.ks, HH6.out.bel.drew, HH6.out.tr, HH6.out.top⟩
    have HGD := Lib.hid (fun W h => goodt_any (.agg #[.slice A1 t.ps.length c1, .slice A2 t.ks.length c2]) t W h)
    clear HH6
    refine region_begin hW0 (S := fun W => HeldT w W t (.slice A1 t.ps.length c1) (.slice A2 t.ks.length c2)) (by kernel_rfl) hS0 (fun hHeld => ?_)
    clear hW0 hS0
    refine take_at (i := 0) (.agg #[.slice A1 t.ps.length c1, .slice A2 t.ks.length c2]) (some 28) (by decide) (by rfl) (by kernel_rfl) (by kernel_rfl) (by kernel_rfl) (fun _ _ _ h => h) (by rfl) (fun W hW => by have d0 := hW.tr.c0; have d1 := hW.tr.c1; go_simp) (by assumption) ?_
    try simp only [Act.put, List.setIfInBounds_toArray, List.set_cons_zero, List.set_cons_succ]
    refine take_at (i := 2) (.bool false) (some 30) (by decide) (by rfl) (by kernel_rfl) (by kernel_rfl) (by kernel_rfl) (fun _ _ _ h => h) (by rfl) (fun W hW => by go_simp) (by assumption) ?_
    try simp only [Act.put, List.setIfInBounds_toArray, List.set_cons_zero, List.set_cons_succ]
    refine wpAnyH_ready (rs := [1]) (by kernel_rfl) (by simp) (AllReadyH.cons (Array.getElem?_eq_getElem (i := 1) (by decide)) (fun K9 hK => ?_) AllReadyH.nil)
    go_simp
    refine (HGD.out _ hHeld.tre).mono ?_
    rintro e wa ⟨s, rfl, hs, hba⟩
    obtain rfl : s = false := by
          cases s
          · rfl
          · exact absurd (hs.1 rfl) HNG.out
    refine hK.out _ _ (hHeld.step hba) (fun hHeld => ?_)
    clear hK K9
    try simp only [Act.put, List.setIfInBounds_toArray, List.set_cons_zero, List.set_cons_succ]
    clear hba hs
    refine take_at (i := 3) (.bool false) (some 31) (by decide) (by rfl) (by kernel_rfl) (by kernel_rfl) (by kernel_rfl) (fun _ _ _ h => h) (by rfl) (fun W hW => by go_simp) (by assumption) ?_
    try simp only [Act.put, List.setIfInBounds_toArray, List.set_cons_zero, List.set_cons_succ]
    refine take_at (i := 4) (.bool false) (some 32) (by decide) (by rfl) (by kernel_rfl) (by kernel_rfl) (by kernel_rfl) (fun _ _ _ h => h) (by rfl) (fun W hW => by go_simp) (by assumption) ?_
    try simp only [Act.put, List.setIfInBounds_toArray, List.set_cons_zero, List.set_cons_succ]
    refine take_at (i := 5) (.int .i64 1) (some 33) (by decide) (by rfl) (by kernel_rfl) (by kernel_rfl) (by kernel_rfl) (fun _ _ _ h => h) (by rfl) (fun W hW => by go_simp) (by assumption) ?_
    try simp only [Act.put, List.setIfInBounds_toArray, List.set_cons_zero, List.set_cons_succ]
    refine take_at (i := 6) (.bool false) (some 34) (by decide) (by rfl) (by kernel_rfl) (by kernel_rfl) (by kernel_rfl) (fun _ _ _ h => h) (by rfl) (fun W hW => by go_simp) (by assumption) ?_
    try simp only [Act.put, List.setIfInBounds_toArray, List.set_cons_zero, List.set_cons_succ]
    refine take_at (i := 7) (.bool false) (some 35) (by decide) (by rfl) (by kernel_rfl) (by kernel_rfl) (by kernel_rfl) (fun _ _ _ h => h) (by rfl) (fun W hW => by go_simp) (by assumption) ?_
    try simp only [Act.put, List.setIfInBounds_toArray, List.set_cons_zero, List.set_cons_succ]
    refine take_at (i := 8) (.bool false) (some 36) (by decide) (by rfl) (by kernel_rfl) (by kernel_rfl) (by kernel_rfl) (fun _ _ _ h => h) (by rfl) (fun W hW => by go_simp) (by assumption) ?_
    try simp only [Act.put, List.setIfInBounds_toArray, List.set_cons_zero, List.set_cons_succ]
    refine take_at (i := 9) (.bool false) (some 37) (by decide) (by rfl) (by kernel_rfl) (by kernel_rfl) (by kernel_rfl) (fun _ _ _ h => h) (by rfl) (fun W hW => by go_simp) (by assumption) ?_
    try simp only [Act.put, List.setIfInBounds_toArray, List.set_cons_zero, List.set_cons_succ]
    refine take_at (i := 10) (.bool false) (some 38) (by decide) (by rfl) (by kernel_rfl) (by kernel_rfl) (by kernel_rfl) (fun _ _ _ h => h) (by rfl) (fun W hW => by go_simp) (by assumption) ?_
    try simp only [Act.put, List.setIfInBounds_toArray, List.set_cons_zero, List.set_cons_succ]
    refine take_at (i := 11) (.bool false) (some 39) (by decide) (by rfl) (by kernel_rfl) (by kernel_rfl) (by kernel_rfl) (fun _ _ _ h => h) (by rfl) (fun W hW => by go_simp) (by assumption) ?_
    try simp only [Act.put, List.setIfInBounds_toArray, List.set_cons_zero, List.set_cons_succ]
    refine take_at (i := 12) (.bool false) (some 40) (by decide) (by rfl) (by kernel_rfl) (by kernel_rfl) (by kernel_rfl) (fun _ _ _ h => h) (by rfl) (fun W hW => by go_simp) (by assumption) ?_
    try simp only [Act.put, List.setIfInBounds_toArray, List.set_cons_zero, List.set_cons_succ]
    refine skip_at (i := 13) (some 41) (by decide) (by rfl) (by kernel_rfl) (by kernel_rfl) (by kernel_rfl) (fun _ _ _ h => h) (by rfl) (by assumption) ?_
    try simp only [Act.put, List.setIfInBounds_toArray, List.set_cons_zero, List.set_cons_succ]
    refine skip_at (i := 14) (some 42) (by decide) (by rfl) (by kernel_rfl) (by kernel_rfl) (by kernel_rfl) (fun _ _ _ h => h) (by rfl) (by assumption) ?_
    try simp only [Act.put, List.setIfInBounds_toArray, List.set_cons_zero, List.set_cons_succ]
    refine skip_at (i := 15) (some 43) (by decide) (by rfl) (by kernel_rfl) (by kernel_rfl) (by kernel_rfl) (fun _ _ _ h => h) (by rfl) (by assumption) ?_
    try simp only [Act.put, List.setIfInBounds_toArray, List.set_cons_zero, List.set_cons_succ]
    refine skip_at (i := 16) (some 44) (by decide) (by rfl) (by kernel_rfl) (by kernel_rfl) (by kernel_rfl) (fun _ _ _ h => h) (by rfl) (by assumption) ?_
    try simp only [Act.put, List.setIfInBounds_toArray, List.set_cons_zero, List.set_cons_succ]
    refine skip_at (i := 17) (some 45) (by decide) (by rfl) (by kernel_rfl) (by kernel_rfl) (by kernel_rfl) (fun _ _ _ h => h) (by rfl) (by assumption) ?_
    try simp only [Act.put, List.setIfInBounds_toArray, List.set_cons_zero, List.set_cons_succ]
    refine take_at (i := 18) (.bool false) (some 46) (by decide) (by rfl) (by kernel_rfl) (by kernel_rfl) (by kernel_rfl) (fun _ _ _ h => h) (by rfl) (fun W hW => by go_simp) (by assumption) ?_
    try simp only [Act.put, List.setIfInBounds_toArray, List.set_cons_zero, List.set_cons_succ]
    refine take_at (i := 19) (.bool false) (some 47) (by decide) (by rfl) (by kernel_rfl) (by kernel_rfl) (by kernel_rfl) (fun _ _ _ h => h) (by rfl) (fun W hW => by go_simp) (by assumption) ?_
    try simp only [Act.put, List.setIfInBounds_toArray, List.set_cons_zero, List.set_cons_succ]
    refine take_at (i := 20) (.bool false) (some 48) (by decide) (by rfl) (by kernel_rfl) (by kernel_rfl) (by kernel_rfl) (fun _ _ _ h => h) (by rfl) (fun W hW => by go_simp) (by assumption) ?_
    try simp only [Act.put, List.setIfInBounds_toArray, List.set_cons_zero, List.set_cons_succ]
    refine take_at (i := 21) (.bool false) (some 49) (by decide) (by rfl) (by kernel_rfl) (by kernel_rfl) (by kernel_rfl) (fun _ _ _ h => h) (by rfl) (fun W hW => by go_simp) (by assumption) ?_
    try simp only [Act.put, List.setIfInBounds_toArray, List.set_cons_zero, List.set_cons_succ]
    refine take_at (i := 22) (.bool true) (some 50) (by decide) (by rfl) (by kernel_rfl) (by kernel_rfl) (by kernel_rfl) (fun _ _ _ h => h) (by rfl) (fun W hW => by go_simp) (by assumption) ?_
    try simp only [Act.put, List.setIfInBounds_toArray, List.set_cons_zero, List.set_cons_succ]
    refine take_at (i := 23) (.bool true) (some 51) (by decide) (by rfl) (by kernel_rfl) (by kernel_rfl) (by kernel_rfl) (fun _ _ _ h => h) (by rfl) (fun W hW => by go_simp) (by assumption) ?_
    try simp only [Act.put, List.setIfInBounds_toArray, List.set_cons_zero, List.set_cons_succ]
    refine take_at (i := 24) (.int .i64 1) (some 52) (by decide) (by rfl) (by kernel_rfl) (by kernel_rfl) (by kernel_rfl) (fun _ _ _ h => h) (by rfl) (fun W hW => by go_simp) (by assumption) ?_
    try simp only [Act.put, List.setIfInBounds_toArray, List.set_cons_zero, List.set_cons_succ]
    refine take_at (i := 25) (.bool false) (some 53) (by decide) (by rfl) (by kernel_rfl) (by kernel_rfl) (by kernel_rfl) (fun _ _ _ h => h) (by rfl) (fun W hW => by go_simp) (by assumption) ?_
    try simp only [Act.put, List.setIfInBounds_toArray, List.set_cons_zero, List.set_cons_succ]
    refine take_at (i := 26) (.bool false) (some 54) (by decide) (by rfl) (by kernel_rfl) (by kernel_rfl) (by kernel_rfl) (fun _ _ _ h => h) (by rfl) (fun W hW => by go_simp) (by assumption) ?_
    try simp only [Act.put, List.setIfInBounds_toArray, List.set_cons_zero, List.set_cons_succ]
    refine take_at (i := 27) (.slice none 0 0) (some 55) (by decide) (by rfl) (by kernel_rfl) (by kernel_rfl) (by kernel_rfl) (fun _ _ _ h => h) (by rfl) (fun W hW => by go_simp) (by assumption) ?_
    try simp only [Act.put, List.setIfInBounds_toArray, List.set_cons_zero, List.set_cons_succ]
    refine take_at (i := 28) (.int .i64 0) (some 56) (by decide) (by rfl) (by kernel_rfl) (by kernel_rfl) (by kernel_rfl) (fun _ _ _ h => h) (by rfl) (fun W hW => by go_simp) (by assumption) ?_
    try simp only [Act.put, List.setIfInBounds_toArray, List.set_cons_zero, List.set_cons_succ]
    refine take_at (i := 29) (.bool false) (some 57) (by decide) (by rfl) (by kernel_rfl) (by kernel_rfl) (by kernel_rfl) (fun _ _ _ h => h) (by rfl) (fun W hW => by go_simp) (by assumption) ?_
    try simp only [Act.put, List.setIfInBounds_toArray, List.set_cons_zero, List.set_cons_succ]
    refine take_at (i := 30) (.bool false) (some 58) (by decide) (by rfl) (by kernel_rfl) (by kernel_rfl) (by kernel_rfl) (fun _ _ _ h => h) (by rfl) (fun W hW => by go_simp) (by assumption) ?_
    try simp only [Act.put, List.setIfInBounds_toArray, List.set_cons_zero, List.set_cons_succ]
    refine take_at (i := 31) (.bool false) (some 59) (by decide) (by rfl) (by kernel_rfl) (by kernel_rfl) (by kernel_rfl) (fun _ _ _ h => h) (by rfl) (fun W hW => by go_simp) (by assumption) ?_
    try simp only [Act.put, List.setIfInBounds_toArray, List.set_cons_zero, List.set_cons_succ]
    refine take_at (i := 32) (.bool false) (some 60) (by decide) (by rfl) (by kernel_rfl) (by kernel_rfl) (by kernel_rfl) (fun _ _ _ h => h) (by rfl) (fun W hW => by go_simp) (by assumption) ?_
    try simp only [Act.put, List.setIfInBounds_toArray, List.set_cons_zero, List.set_cons_succ]
    refine wpAnyH_done (by kernel_rfl) ?_ _
    try simp only [Act.put, List.setIfInBounds_toArray, List.set_cons_zero, List.set_cons_succ]
    have HX := Lib.hid hHeld
    clear hHeld
    have hsl : Sl wa wa.heap.size (.slice Ab bb.length cb) bb := (HSB.out.below HX.out.bel).more HX.out.bel.size
    go_wp2_with fail
    refine (gett_any _ bb wa hsl (by have := HLEN.out; omega)).mono ?_
    rintro e X1 ⟨o, y1, m1, rfl, hg1, hb, hcy, hm1⟩
    have HX1 := Lib.hid (HX.out.step hb)
    clear hb hsl HX
    obtain ⟨p1, q1, rfl, ii1, jj1⟩ := hcy
    cases o with
    | some cc =>
      obtain rfl : m1 = 0 := hm1
      obtain ⟨B1, d1, e1, _, _⟩ := RwIn.len (show PsIn X1 X1.heap.size p1 cc.ps from ii1)
      have e1 : p1 = .slice B1 cc.ps.length d1 := e1
      obtain ⟨E1, g1, e2, _, _⟩ := RwIn.len (show KsIn X1 X1.heap.size q1 cc.ks from jj1)
      have e2 : q1 = .slice E1 cc.ks.length g1 := e2
      subst e1 e2
      have hnb := new_below X1 (.cells #[.slice B1 cc.ps.length d1, .slice E1 cc.ks.length g1] 25)
      have hnz : (X1.alloc (.cells #[.slice B1 cc.ps.length d1, .slice E1 cc.ks.length g1] 25)).heap.size = X1.heap.size + 1 := asz _ _
      have HI2 : Hid (TreIn (X1.alloc (.cells #[.slice B1 cc.ps.length d1, .slice E1 cc.ks.length g1] 25)) (X1.alloc (.cells #[.slice B1 cc.ps.length d1, .slice E1 cc.ks.length g1] 25)).heap.size (.agg #[.slice B1 cc.ps.length d1, .slice E1 cc.ks.length g1]) cc) := ⟨_, _, rfl, RwIn.on ii1 hnb, RwIn.on jj1 hnb⟩
      have HC2 : Hid (TrAt (X1.alloc (.cells #[.slice B1 cc.ps.length d1, .slice E1 cc.ks.length g1] 25)) X1.heap.size (.slice B1 cc.ps.length d1) (.slice E1 cc.ks.length g1)) := TrAt.new _ _ _
      have HX2 := Lib.hid (HX1.out.step hnb)
      have hcv := run_text_of _ _ _ _ (HSB.out.below HX2.out.bel)
      clear hnb ii1 jj1 HX1
      go_wp2_with fail
      generalize (X1.alloc (.cells #[.slice B1 cc.ps.length d1, .slice E1 cc.ks.length g1] 25)) = X2 at *
      refine (rgett_any bb X2 (by have := HLEN.out; omega)).mono ?_
      rintro e X3 ⟨o3, y3, rfl, hg3, hb, hcy3⟩
      have HX3 := Lib.hid (HX2.out.step hb)
      have HI3 : Hid (TreIn X3 X3.heap.size (.agg #[.slice B1 cc.ps.length d1, .slice E1 cc.ks.length g1]) cc) := by
        obtain ⟨a, b, e, h1, h2⟩ := HI2.out
        exact ⟨a, b, e, RwIn.on h1 hb, RwIn.on h2 hb⟩
      have HC3 := Lib.hid (HC2.out.below hb (by omega))
      have hz3 : X1.heap.size < X3.heap.size := by have := hb.size; omega
      clear hb HX2 HI2 HC2 hcv hnz
      obtain rfl : o3 = some cc := getT_uniq hg3 hg1
      obtain ⟨p3, q3, rfl, ii3, jj3⟩ := hcy3
      obtain ⟨B3, d3, e3, _, _⟩ := RwIn.len (show PsIn X3 X3.heap.size p3 cc.ps from ii3)
      have e3 : p3 = .slice B3 cc.ps.length d3 := e3
      obtain ⟨E3, g3, e4, _, _⟩ := RwIn.len (show KsIn X3 X3.heap.size q3 cc.ks from jj3)
      have e4 : q3 = .slice E3 cc.ks.length g3 := e4
      subst e3 e4
      have hnb := new_below X3 (.cells #[.slice B3 cc.ps.length d3, .slice E3 cc.ks.length g3] 25)
      have HX4 := Lib.hid (HX3.out.step hnb)
      have HI4 : Hid (TreIn (X3.alloc (.cells #[.slice B3 cc.ps.length d3, .slice E3 cc.ks.length g3] 25)) (X3.alloc (.cells #[.slice B3 cc.ps.length d3, .slice E3 cc.ks.length g3] 25)).heap.size (.agg #[.slice B1 cc.ps.length d1, .slice E1 cc.ks.length g1]) cc) := by
        obtain ⟨a, b, e, h1, h2⟩ := HI3.out
        exact ⟨a, b, e, RwIn.on h1 hnb, RwIn.on h2 hnb⟩
      have HJ4 : Hid (TreIn (X3.alloc (.cells #[.slice B3 cc.ps.length d3, .slice E3 cc.ks.length g3] 25)) (X3.alloc (.cells #[.slice B3 cc.ps.length d3, .slice E3 cc.ks.length g3] 25)).heap.size (.agg #[.slice B3 cc.ps.length d3, .slice E3 cc.ks.length g3]) cc) := ⟨_, _, rfl, RwIn.on ii3 hnb, RwIn.on jj3 hnb⟩
      have d0 := (HC3.out.below hnb hz3).c0
      have d1 := (HC3.out.below hnb hz3).c1
      clear hnb ii3 jj3 HX3 HI3 HC3 hg1 hg3
      try dsimp only
      go_wp2_with (first | go_skip | go_guarded)
      generalize (X3.alloc (.cells #[.slice B3 cc.ps.length d3, .slice E3 cc.ks.length g3] 25)) = X4 at *
      refine (samet_any _ _ cc cc X4 HI4.out HJ4.out).mono ?_
      rintro e X5 ⟨s, rfl, hs, hb⟩
      obtain rfl : s = true := hs.2 rfl
      have HX5 := Lib.hid (HX4.out.step hb)
      have HB := Lib.hid HX5.out.bel
      clear hb hs
      go_wp2_with fail
      go_ret
      exact ⟨rfl, HB.out⟩
    | none =>
      obtain rfl : m1 = 4 := hm1
      obtain ⟨B1, d1, e1, _, _⟩ := RwIn.len (show PsIn X1 X1.heap.size p1 [] from ii1)
      have e1 : p1 = .slice B1 0 d1 := e1
      obtain ⟨E1, g1, e2, _, _⟩ := RwIn.len (show KsIn X1 X1.heap.size q1 [] from jj1)
      have e2 : q1 = .slice E1 0 g1 := e2
      subst e1 e2
      have hnb := new_below X1 (.cells #[.slice B1 0 d1, .slice E1 0 g1] 25)
      have hnz : (X1.alloc (.cells #[.slice B1 0 d1, .slice E1 0 g1] 25)).heap.size = X1.heap.size + 1 := asz _ _
      have HI2 : Hid (TreIn (X1.alloc (.cells #[.slice B1 0 d1, .slice E1 0 g1] 25)) (X1.alloc (.cells #[.slice B1 0 d1, .slice E1 0 g1] 25)).heap.size (.agg #[.slice B1 0 d1, .slice E1 0 g1]) (⟨[], []⟩ : Tre)) := ⟨_, _, rfl, RwIn.on ii1 hnb, RwIn.on jj1 hnb⟩
      have HC2 : Hid (TrAt (X1.alloc (.cells #[.slice B1 0 d1, .slice E1 0 g1] 25)) X1.heap.size (.slice B1 0 d1) (.slice E1 0 g1)) := TrAt.new _ _ _
      have HX2 := Lib.hid (HX1.out.step hnb)
      have hcv := run_text_of _ _ _ _ (HSB.out.below HX2.out.bel)
      clear hnb ii1 jj1 HX1
      go_wp2_with fail
      generalize (X1.alloc (.cells #[.slice B1 0 d1, .slice E1 0 g1] 25)) = X2 at *
      refine (rgett_any bb X2 (by have := HLEN.out; omega)).mono ?_
      rintro e X3 ⟨o3, y3, rfl, hg3, hb, hcy3⟩
      have HX3 := Lib.hid (HX2.out.step hb)
      have HI3 : Hid (TreIn X3 X3.heap.size (.agg #[.slice B1 0 d1, .slice E1 0 g1]) (⟨[], []⟩ : Tre)) := by
        obtain ⟨a, b, e, h1, h2⟩ := HI2.out
        exact ⟨a, b, e, RwIn.on h1 hb, RwIn.on h2 hb⟩
      have HC3 := Lib.hid (HC2.out.below hb (by omega))
      have hz3 : X1.heap.size < X3.heap.size := by have := hb.size; omega
      clear hb HX2 HI2 HC2 hcv hnz
      obtain rfl : o3 = none := getT_uniq hg3 hg1
      obtain ⟨p3, q3, rfl, ii3, jj3⟩ := hcy3
      obtain ⟨B3, d3, e3, _, _⟩ := RwIn.len (show PsIn X3 X3.heap.size p3 [] from ii3)
      have e3 : p3 = .slice B3 0 d3 := e3
      obtain ⟨E3, g3, e4, _, _⟩ := RwIn.len (show KsIn X3 X3.heap.size q3 [] from jj3)
      have e4 : q3 = .slice E3 0 g3 := e4
      subst e3 e4
      have hnb := new_below X3 (.cells #[.slice B3 0 d3, .slice E3 0 g3] 25)
      have HX4 := Lib.hid (HX3.out.step hnb)
      have HI4 : Hid (TreIn (X3.alloc (.cells #[.slice B3 0 d3, .slice E3 0 g3] 25)) (X3.alloc (.cells #[.slice B3 0 d3, .slice E3 0 g3] 25)).heap.size (.agg #[.slice B1 0 d1, .slice E1 0 g1]) (⟨[], []⟩ : Tre)) := by
        obtain ⟨a, b, e, h1, h2⟩ := HI3.out
        exact ⟨a, b, e, RwIn.on h1 hnb, RwIn.on h2 hnb⟩
      have HJ4 : Hid (TreIn (X3.alloc (.cells #[.slice B3 0 d3, .slice E3 0 g3] 25)) (X3.alloc (.cells #[.slice B3 0 d3, .slice E3 0 g3] 25)).heap.size (.agg #[.slice B3 0 d3, .slice E3 0 g3]) (⟨[], []⟩ : Tre)) := ⟨_, _, rfl, RwIn.on ii3 hnb, RwIn.on jj3 hnb⟩
      have d0 := (HC3.out.below hnb hz3).c0
      have d1 := (HC3.out.below hnb hz3).c1
      clear hnb ii3 jj3 HX3 HI3 HC3 hg1 hg3
      try dsimp only
      go_wp2_with (first | go_skip | go_guarded)
      generalize (X3.alloc (.cells #[.slice B3 0 d3, .slice E3 0 g3] 25)) = X4 at *
      refine (samet_any _ _ (⟨[], []⟩ : Tre) (⟨[], []⟩ : Tre) X4 HI4.out HJ4.out).mono ?_
      rintro e X5 ⟨s, rfl, hs, hb⟩
      obtain rfl : s = true := hs.2 rfl
      have HX5 := Lib.hid (HX4.out.step hb)
      have HB := Lib.hid HX5.out.bel
      clear hb hs
      go_wp2_with fail
      go_ret
      exact ⟨rfl, HB.out⟩

end Go.Proofs.Ytabogconbjdcgaa.ObjectTrees
