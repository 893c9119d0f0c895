/-
  FrameSplits answers true. Conditions: none.
-/
import Derived.Test.YtgfpkfifaedejaaSame
import Derived.Test.YtgfpkfifaedejaaSplit
import Derived.Test.YtgfpkfifaedejaaRefSplit
namespace Go.Proofs.Ytgfpkfifaedejaa.FrameSplits
open Go.RowKit Go.Proofs.Ytgfpkfifaedejaa.Cd

set_option maxRecDepth 100000 in
set_option maxHeartbeats 800000 in
theorem much (v : Value) (bs : List UInt8) (w : World) (h : Sl w w.heap.size v bs) (hbig : 8192 < bs.length) :
    Calls Try.prog 4 #[v] w (Gives (.bool true) w) := by
  obtain ⟨A, c, rfl, h2, h3⟩ := h.len
  have h3 : c ≤ 9223372036854775807 := h3
  clear h
  go_enter Try.func4, Try.ntmps4
  go_wp2_with fail
  refine (alive_any w).mono ?_
  rintro e w1 ⟨rfl, hb1⟩
  go_wp2_with fail
  go_ret
  exact ⟨rfl, hb1⟩

set_option maxRecDepth 100000 in
set_option maxHeartbeats 4000000 in
theorem main (v : Value) (bs : List UInt8) (w : World) (h : Sl w w.heap.size v bs) (hb : bs.length ≤ 8192) :
    Calls Try.prog 4 #[v] w (Gives (.bool true) w) := by
  obtain ⟨A, c, rfl, h2, h3⟩ := h.len
  have h3 : c ≤ 9223372036854775807 := h3
  have H := Lib.hid h
  clear h
  go_enter Try.func4, Try.ntmps4
  go_wp2_with fail
  refine (alive_any w).mono ?_
  rintro e w1 ⟨rfl, hb1⟩
  have hs1 := hb1.size
  have H1 := Lib.hid ((H.out.below hb1).more hs1)
  go_wp2_with fail
  refine (split_any _ bs w1 H1.out (by omega)).mono ?_
  rintro e w2 ⟨u, ds, cur, hsp, rfl, hu, hb2⟩
  have hs2 := hb2.size
  have H2 := Lib.hid ((H1.out.below hb2).more hs2)
  have hcv := run_text_of _ _ _ _ H2.out
  have HSP := Lib.hid hsp
  clear hsp
  go_wp2_with fail
  refine (rsplit_any bs w2 (by omega)).mono ?_
  rintro e w3 ⟨u2, es, cur2, hsp2, rfl, hu2, hb3⟩
  obtain ⟨rfl, rfl⟩ := splits_uniq (by omega) HSP.out hsp2
  have hs3 := hb3.size
  have H3 := Lib.hid ((H2.out.below hb3).more hs3)
  have U3 := Lib.hid ((hu.strs.below hb3).more hs3)
  have V3 := Lib.hid hu2
  have HB3 := Lib.hid ((hb1.trans (hb2.mono hs1)).trans (hb3.mono (Nat.le_trans hs1 hs2)))
  clear hsp2 hu hu2 hb1 hb2 hb3 hcv
  go_wp2_with fail
  refine (one_any _ bs w3 H3.out (by omega)).mono ?_
  rintro e w4 ⟨hcase, hb4⟩
  have hs4 := hb4.size
  have U4 := Lib.hid ((U3.out.below hb4).more hs4)
  have V4 := Lib.hid ((V3.out.below hb4).more hs4)
  have HB4 := Lib.hid (HB3.out.trans (hb4.mono HB3.out.size))
  have hdl : Hid ((flat ds).length + cur.length = bs.length) := by have := congrArg List.length HSP.out.1; rw [List.length_append] at this; unfold Hid; omega
  obtain ⟨C, c2, rfl, k2, k3⟩ := V4.out.len
  have k3 : c2 ≤ 9223372036854775807 := k3
  clear hb4
  have hiff := one_rec HSP.out (by omega)
  rcases hcase with ⟨x, hx, rfl⟩ | ⟨hno, rfl⟩
  · obtain ⟨y, rfl, rfl⟩ := hiff.2 ⟨x, hx⟩
    have hxy : y = x := by
      have h1 := HSP.out.1
      rw [flat_one, List.append_nil] at h1
      exact pre_uniq (c := bs) (by rw [h1]; exact List.prefix_refl _) (by rw [hx]; exact List.prefix_refl _) (by omega)
    subst hxy
    clear hiff hx
    have hat := V4.out.at (by simp)
    obtain ⟨b, off, c3, he, _, _, _, hc⟩ := hat
    injection he with e1 _ e3
    subst e1 e3
    have hcell := hc 0 (by simp)
    have hq : (y == y) = true := by simp
    simp only [List.getElem_cons_zero, Nat.add_zero] at hcell
    clear hc
    have hdl2 := hdl.out
    rw [List.length_nil, Nat.add_zero] at hdl2
    generalize hn : (flat [y]).length = n at *
    clear hn hdl
    go_wp2_with fail
    refine (same_any _ _ [y] [y] w4 U4.out V4.out).mono ?_
    rintro e w5 ⟨rfl, hb5⟩
    have HB5 := Lib.hid (HB4.out.trans (hb5.mono HB4.out.size))
    have hd : decide ([y] = [y]) = true := by simp
    rw [hd]
    clear hb5 hd
    have hq3 : ((n : Int) == (bs.length : Int)) = true := by simp; omega
    clear hdl2
    go_wp2_with fail
    go_ret
    exact ⟨rfl, HB5.out⟩
  · have hno2 : ¬ ∃ x, ds = [x] ∧ cur = [] := fun hh => hno (hiff.1 hh)
    have hdl2 := hdl.out
    clear hiff hno
    by_cases h1 : ds.length = 1
    · have hcne : cur ≠ [] := by
        intro hc
        obtain ⟨x, hx⟩ := List.length_eq_one_iff.1 h1
        exact hno2 ⟨x, hx, hc⟩
      have hq1 : ((ds.length : Int) == 1) = true := by rw [beq_iff_eq]; omega
      have hq2 : (cur == []) = false := by simpa using hcne
      clear hno2 hcne h1
      generalize hn : (flat ds).length = n at *
      clear hn hdl
      go_wp2_with fail
      refine (same_any _ _ ds ds w4 U4.out V4.out).mono ?_
      rintro e w5 ⟨rfl, hb5⟩
      have HB5 := Lib.hid (HB4.out.trans (hb5.mono HB4.out.size))
      rw [show decide (ds = ds) = true by simp]
      clear hb5
      have hq3 : ((n : Int) == (bs.length : Int) - (cur.length : Int)) = true := by simp; omega
      have hcz : (ByteArray.mk cur.toArray).size = cur.length := rfl
      go_wp2_with fail
      go_ret
      exact ⟨rfl, HB5.out⟩
    · have hq1 : ((ds.length : Int) == 1) = false := by rw [beq_eq_false_iff_ne]; omega
      clear hno2 h1
      generalize hn : (flat ds).length = n at *
      clear hn hdl
      go_wp2_with fail
      refine (same_any _ _ ds ds w4 U4.out V4.out).mono ?_
      rintro e w5 ⟨rfl, hb5⟩
      have HB5 := Lib.hid (HB4.out.trans (hb5.mono HB4.out.size))
      rw [show decide (ds = ds) = true by simp]
      clear hb5
      have hq3 : ((n : Int) == (bs.length : Int) - (cur.length : Int)) = true := by simp; omega
      have hcz : (ByteArray.mk cur.toArray).size = cur.length := rfl
      go_wp2_with fail
      go_ret
      exact ⟨rfl, HB5.out⟩

theorem walk (v : Value) (bs : List UInt8) (w : World) (h : Sl w w.heap.size v bs) :
    Calls Try.prog 4 #[v] w (Gives (.bool true) w) := by
  by_cases h1 : 8192 < bs.length
  · exact much v bs w h h1
  · exact main v bs w h (by omega)

end Go.Proofs.Ytgfpkfifaedejaa.FrameSplits
