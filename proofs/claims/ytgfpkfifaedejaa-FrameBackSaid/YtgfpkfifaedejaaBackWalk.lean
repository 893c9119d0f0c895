/-
  FrameBack answers true. Conditions: none.
-/
import Derived.Test.YtgfpkfifaedejaaSame
import Derived.Test.YtgfpkfifaedejaaSplit
namespace Go.Proofs.Ytgfpkfifaedejaa.FrameBack
open Go.RowKit Go.Proofs.Ytgfpkfifaedejaa.Cd

/-- How many of the first k records end ahead of the cut. -/
def Whole (l : List (List UInt8)) (cut : Int) (k m : Nat) : Prop :=
  m ≤ k ∧ (∀ j, j < m → ((flat (l.take (j + 1))).length : Int) ≤ cut) ∧ (∀ j, m ≤ j → j < k → cut < ((flat (l.take (j + 1))).length : Int))

theorem Whole.zero (l : List (List UInt8)) (cut : Int) : Whole l cut 0 0 := ⟨Nat.le_refl _, fun _ h => by omega, fun _ _ h => by omega⟩
theorem Whole.more {l : List (List UInt8)} {cut : Int} {k m : Nat} (h : Whole l cut k m) (hl : ((flat (l.take (k + 1))).length : Int) ≤ cut) : Whole l cut (k + 1) (m + 1) := by
  obtain ⟨h1, h2, h3⟩ := h
  have hm : m = k := by
    rcases Nat.lt_or_ge m k with hlt | hge
    · have h4 := h3 m (Nat.le_refl _) hlt
      have h5 := flat_mono l (m + 1) (k + 1) (by omega)
      omega
    · omega
  subst hm
  refine ⟨Nat.le_refl _, fun j hj => ?_, fun j hj hj2 => by omega⟩
  rcases Nat.lt_succ_iff_lt_or_eq.1 hj with h4 | rfl
  · exact h2 j h4
  · exact hl
theorem Whole.same {l : List (List UInt8)} {cut : Int} {k m : Nat} (h : Whole l cut k m) (hl : cut < ((flat (l.take (k + 1))).length : Int)) : Whole l cut (k + 1) m := by
  obtain ⟨h1, h2, h3⟩ := h
  refine ⟨by omega, h2, fun j hj hj2 => ?_⟩
  rcases Nat.lt_succ_iff_lt_or_eq.1 hj2 with h4 | rfl
  · exact h3 j hj h4
  · exact hl
theorem Whole.cut {l : List (List UInt8)} {n m : Nat} (h : Whole l n l.length m) (hb : (flat l).length < 18446744073709551616) :
    m ≤ l.length ∧ (flat (l.take m)).length ≤ n ∧ ∃ cur, Splits ((flat l).take n) (l.take m) cur := by
  obtain ⟨h1, h2, h3⟩ := h
  have h4 : (flat (l.take m)).length ≤ n := by
    rcases Nat.eq_zero_or_pos m with rfl | hp
    · simp [flat]
    · have := h2 (m - 1) (by omega)
      rw [show m - 1 + 1 = m by omega] at this
      omega
  exact ⟨h1, h4, splits_cut l m n h1 h4 (fun hlt => by have := h3 m (Nat.le_refl _) hlt; omega) hb⟩

set_option maxRecDepth 100000 in
set_option maxHeartbeats 800000 in
theorem much (v : Value) (l : List (List UInt8)) (cut : Int) (w : World) (h : Strs w w.heap.size v l) (hS : ∀ p ∈ l, p.length ≤ 140737488351232) (hbig : big l = true) :
    Calls Try.prog 5 #[v, .int .i64 cut] w (Gives (.bool true) w) := by
  have H := Lib.hid h
  have HS := Lib.hid hS
  have HB := Lib.hid hbig
  clear h hS hbig
  go_enter Try.func5, Try.ntmps5
  go_wp2_with fail
  refine (alive_any w).mono ?_
  rintro e w1 ⟨rfl, hb1⟩
  go_wp2_with fail
  refine (great_any _ l w1 ((H.out.below hb1).more hb1.size) HS.out).mono ?_
  rintro e w2 ⟨rfl, rfl⟩
  rw [HB.out]
  go_wp2_with fail
  go_ret
  exact ⟨rfl, hb1⟩

set_option maxRecDepth 100000 in
set_option maxHeartbeats 4000000 in
theorem main (v : Value) (l : List (List UInt8)) (cut : Int) (w : World) (h : Strs w w.heap.size v l) (hS : ∀ p ∈ l, p.length ≤ 140737488351232) (hbig : big l = false) (c0 : -9223372036854775808 ≤ cut) (c1 : cut ≤ 9223372036854775807) :
    Calls Try.prog 5 #[v, .int .i64 cut] w (Gives (.bool true) w) := by
  have hsmall := small_of hbig
  have hfl := flat_len l (fun p hp => by have := hS p hp; omega)
  obtain ⟨A, c, rfl, h2, h3⟩ := h.len
  have h3 : c ≤ 9223372036854775807 := h3
  have H := Lib.hid h
  have HS := Lib.hid hS
  have HB := Lib.hid hbig
  clear h hS hbig
  go_enter Try.func5, Try.ntmps5
  go_wp2_with fail
  refine (alive_any w).mono ?_
  rintro e w1 ⟨rfl, hb1⟩
  have hs1 := hb1.size
  have H1 := Lib.hid ((H.out.below hb1).more hs1)
  go_wp2_with fail
  refine (great_any _ l w1 H1.out HS.out).mono ?_
  rintro e w2 ⟨rfl, rfl⟩
  rw [HB.out]
  go_wp2_with fail
  go_loopw [5, 6, 17] (fun b n i wr => ∃ (k m : Nat), k ≤ l.length ∧ i = .int .i64 k ∧ n = .int .i64 m ∧ Hid (Whole l cut k m) ∧ m ≤ k ∧ Hid (Own wr w1.heap.size b (flat (l.take k))) ∧ Hid (Below w1.heap.size w1 wr)) (fun _ _ i _ => l.length - (intOf i).toNat)
  case atStart => exact ⟨0, 0, Nat.zero_le _, rfl, rfl, Whole.zero _ _, Nat.le_refl _, World.ownsRow_nil _ _ _ _, Below.refl _ _⟩
  case round =>
    obtain ⟨k, m, hk, rfl, rfl, hwh, hmk, ho, hbel⟩ := hrel
    have hsz := hbel.out.size
    by_cases hlt : k < l.length
    · obtain ⟨b, off, c1, he1, _, _, hB, hc⟩ := H1.out.at (by omega)
      injection he1 with e1 _ e3
      subst e1 e3
      have hcell := (hbel.out.cell (p := ⟨b, off + k, none⟩) hB).trans (hc k hlt)
      have hft := flat_take l k hlt
      have hmono := flat_mono l (k + 1) l.length (by omega)
      rw [List.take_length] at hmono
      have hmore := Lib.hid (fun hl => hwh.out.more hl)
      have hsame := Lib.hid (fun hl => hwh.out.same hl)
      have hfl2 := congrArg List.length hft
      rw [List.length_append] at hfl2
      have hge := frm_ge l[k]
      clear hc
      generalize l[k] = p at *
      generalize hf1 : flat (l.take (k + 1)) = f1 at *
      have HF1 := Lib.hid hf1
      have HFT := Lib.hid hft
      have hput := Lib.hid (put_any _ _ p wr ho.out.sl (by omega))
      clear hf1 hft hfl2
      go_wp2_with fail
      refine hput.out.mono ?_
      rintro e w3 ⟨v3, rfl, ho3, hb3⟩
      rw [← HFT.out] at ho3
      obtain ⟨A3, c3, rfl, k2, k3⟩ := ho3.sl.len
      have k3 : c3 ≤ 9223372036854775807 := k3
      have HO3 := Lib.hid (ho3.lower hsz)
      have HB3 := Lib.hid (hbel.out.trans (hb3.mono hsz))
      clear ho3 hb3
      by_cases hcut : (f1.length : Int) ≤ cut
      · have hw2 : Hid (Whole l cut (k + 1) (m + 1)) := hmore.out hcut
        clear hmore hsame
        go_wp2_with fail
        go_roundw
        case rel => exact ⟨k + 1, m + 1, by omega, by go_num, by go_num, hw2.out, by omega, by rw [HF1.out]; exact HO3.out, HB3.out⟩
        case measure => simp [intOf]; omega
      · have hw2 : Hid (Whole l cut (k + 1) m) := hsame.out (by omega)
        clear hmore hsame
        go_wp2_with fail
        go_roundw
        case rel => exact ⟨k + 1, m, by omega, by go_num, rfl, hw2.out, by omega, by rw [HF1.out]; exact HO3.out, HB3.out⟩
        case measure => simp [intOf]; omega
    · have hkl : k = l.length := by omega
      have hwl : Hid (Whole l cut l.length m) := by have := hwh.out; rw [hkl] at this; exact this
      have htk : l.take k = l := by rw [hkl, List.take_of_length_le (Nat.le_refl _)]
      have ho2 := ho.out
      rw [htk] at ho2
      clear hkl htk ho hwh
      have hall := splits_all l
      generalize hF : flat l = F at *
      obtain ⟨A3, c3, rfl, k2, k3⟩ := ho2.sl.len
      have k3 : c3 ≤ 9223372036854775807 := k3
      have HO := Lib.hid ho2
      have HALL := Lib.hid hall
      clear ho2 hall
      go_wp2_with fail
      refine (split_any _ F wr HO.out.sl (by omega)).mono ?_
      rintro e w3 ⟨u, ds, cur, hsp, rfl, hu, hb3⟩
      obtain ⟨rfl, _⟩ := splits_uniq (by omega) HALL.out hsp
      rw [hF]
      have hs3 := hb3.size
      have HB3 := Lib.hid (hbel.out.trans (hb3.mono hsz))
      have H3 := Lib.hid ((H1.out.below HB3.out).more HB3.out.size)
      have O3 := Lib.hid (HO.out.keep hb3)
      have U3 := Lib.hid hu.strs
      clear hsp hu hb3
      go_wp2_with fail
      refine (same_any _ _ l l w3 U3.out H3.out).mono ?_
      rintro e w4 ⟨rfl, hb4⟩
      rw [show decide (l = l) = true by simp]
      have hs4 := hb4.size
      have HB4 := Lib.hid (HB3.out.trans (hb4.mono HB3.out.size))
      have H4 := Lib.hid ((H3.out.below hb4).more hs4)
      have O4 := Lib.hid (O3.out.keep hb4)
      clear hb4
      have hq1 : ((F.length : Int) != (F.length : Int)) = false := by simp
      by_cases hneg : cut < 0
      · go_wp2_with fail
        go_ret
        exact ⟨rfl, hb1.trans (HB4.out.mono hs1)⟩
      · by_cases hgt : (F.length : Int) < cut
        · go_wp2_with fail
          go_ret
          exact ⟨rfl, hb1.trans (HB4.out.mono hs1)⟩
        · obtain ⟨n, rfl⟩ := Int.eq_ofNat_of_zero_le (by omega : 0 ≤ cut)
          have hn : n ≤ F.length := by omega
          obtain ⟨hml, hmn, cur2, hsp2⟩ := hwl.out.cut (by rw [hF]; omega)
          rw [hF] at hsp2
          have HS2 := Lib.hid hsp2
          clear hsp2
          go_wp2_with fail
          refine (split_any _ (F.take n) w4 (sl_take O4.out.sl n hn) (by rw [List.length_take]; omega)).mono ?_
          rintro e w5 ⟨u5, es, cur3, hsp3, rfl, hu5, hb5⟩
          obtain ⟨he, _⟩ := splits_uniq (by rw [List.length_take]; omega) hsp3 HS2.out
          subst he
          have hs5 := hb5.size
          have HB5 := Lib.hid (HB4.out.trans (hb5.mono HB4.out.size))
          have T5 := Lib.hid (((H4.out.below hb5).more hs5).take m hml)
          have U5 := Lib.hid hu5.strs
          clear hsp3 hu5 hb5
          generalize hG : flat (l.take m) = G at *
          clear hG
          go_wp2_with fail
          refine (same_any _ _ _ _ w5 U5.out T5.out).mono ?_
          rintro e w6 ⟨rfl, hb6⟩
          rw [show decide (l.take m = l.take m) = true by simp]
          have HB6 := Lib.hid (HB5.out.trans (hb6.mono HB5.out.size))
          clear hb6
          go_wp2_with fail
          go_ret
          exact ⟨rfl, hb1.trans (HB6.out.mono hs1)⟩

theorem walk (v : Value) (l : List (List UInt8)) (a1 : Int) (w : World) (h : Strs w w.heap.size v l ∧ ∀ p ∈ l, p.length ≤ 140737488351232) (w1 : (Lit.int .i64 a1).wf = true) :
    Calls Try.prog 5 #[v, .int .i64 a1] w (Gives (.bool true) w) := by
  have b1 := bounds_i64 w1
  cases hb : big l
  · exact main v l a1 w h.1 h.2 hb (by omega) (by omega)
  · exact much v l a1 w h.1 h.2 hb

end Go.Proofs.Ytgfpkfifaedejaa.FrameBack
