/-
  LogParts answers true. Conditions: none.
-/
import Derived.Test.YtoajfnkhonegnaaG12
/-
  Two logs on one disk. Conditions: none.
-/
namespace Go.Proofs.Ytoajfnkhonegnaa.Cd
open Go.RowKit

/-- A call on one log leaves another one as it was. -/
theorem LogAt.beside {w w' : World} {S T : Nat → Prop} {l l2 g g2 : Nat} {n n2 s s2 : List UInt8} (h : LogAt w S l2 g2 n2 s2) (h1 : LogAt w S l g n s) (hne : l2 ≠ l) (ha : Apart (plus S l) w w') (hT : ∀ j, T j → since S w w' j) : LogAt w' T l2 g2 n2 s2 := by
  have hlt := h.lt
  obtain ⟨a1, v, a2, a3, a4⟩ := h
  obtain ⟨_, v1, b2, _⟩ := h1
  have hnl : ∀ (h0 : 0 < (lastP s2).length) A m c, v = .slice (some A) m c → ¬ plus S l A.block := fun h0 A m c e ht => by
    rcases ht with ht | ht
    · exact a3.2 h0 A m c e (.inl ht)
    · obtain ⟨cs, fr, hc⟩ := a4 h0 A m c e
      rw [ht, b2] at hc
      injection hc with hc
      injection hc with _ hc _
      exact absurd hc (by decide)
  have hnew : ∀ k, k < w.heap.size → T k → S k := fun k hk ht => by
    rcases hT k ht with h2 | h2
    · exact h2
    · omega
  refine ⟨fun e => a1 (hnew _ hlt e), v, (ha.block l2 hlt (fun e => by rcases e with e | e; exact a1 e; exact hne e)).trans a2, ?_, fun h0 A m c e => ?_⟩
  · obtain ⟨⟨A, c, e1, e2, e3, e4, e5, e6⟩, h5⟩ := a3
    refine ⟨⟨A, c, e1, e2, e3, e4, fun ad e h0 => Nat.lt_of_lt_of_le (e5 ad e h0) ha.size, fun ad e j u hu => ?_⟩, fun h0 A m c e ht => ?_⟩
    · have hj : j < (lastP s2).length := by have := (List.getElem?_eq_some_iff.1 hu).1; rwa [vb_length] at this
      rw [ha.cell (p := ad.add j) (by rw [block_of_add]; exact e5 ad e (by omega)) (by rw [block_of_add]; rw [e] at e1; exact hnl (by omega) ad _ _ e1)]
      exact e6 ad e j u hu
    · have hb : A.block < w.heap.size := by rw [e1] at e; injection e with e _ _; exact e5 A e h0
      rcases ht with ht | ht
      · exact h5 h0 A m c e (.inl (hnew _ hb ht))
      · exact h5 h0 A m c e (.inr ht)
  · rw [ha.block _ (far_lt a3 h0 e) (hnl h0 A m c e)]
    exact a4 h0 A m c e

section
variable {w W W' : World} {g N M room k k' l l2 : Nat} {n n2 s s2 s' : List UInt8} {D D' : Dsk} {T T' : Nat → Prop}
theorem Calm.beside (h2 : Calm w l2 g N room k n2 s2 D T W) (h : Calm w l g N room k n s D T W) (hn : Calm w l g M room k' n s' D' T' W') (hne : l2 ≠ l) (ha : Apart (plus T l) W W') (hT : ∀ j, T' j → since T W W' j) (hp : pagesF D'.now n2 = pagesF D.now n2) :
    Calm w l2 g M room k' n2 s2 D' T' W' :=
  ⟨hn.disk, h2.log.beside h.log hne ha hT, hn.low, h2.lowl, hn.below, by rw [hp]; exact h2.lay, hn.roomy, hn.fits⟩
/-- Beside what turns nothing but the disk. -/
theorem Calm.beside0 (h2 : Calm w l2 g N room k n2 s2 D T W) (hn : Calm w l g M room k' n s' D' T' W') (ha : Apart T W W') (hT : ∀ j, T' j → since T W W' j) (hp : pagesF D'.now n2 = pagesF D.now n2) : Calm w l2 g M room k' n2 s2 D' T' W' :=
  ⟨hn.disk, (h2.log.apart ha).less fun j _ hj => hT j hj, hn.low, h2.lowl, hn.below, by rw [hp]; exact h2.lay, hn.roomy, hn.fits⟩
end

/-- A page that was read reads as its bytes. -/
theorem sl_pg {w : World} {g : Nat} {q : List UInt8} (hl : q.length = 512) (T : TypeId) (hg : w.heap[g]? = some (.cells (vb q).toArray T)) : Sl w w.heap.size (.slice (some ⟨g, 0, none⟩) 512 512) q := by
  refine ⟨_, 512, by rw [hl], by omega, by decide, (fun h => by cases h), fun ad e _ => ?_, fun ad e j u hu => ?_⟩
  · injection e with e
    subst e
    exact (Array.getElem?_eq_some_iff.1 hg).1
  · injection e with e
    subst e
    rw [Addr.add_lit, Nat.zero_add, cell_of_row _ _ _ _ _ _ hg, List.getElem?_toArray]
    exact hu

/-- The file is removed, if it is there. -/
theorem Roomy.clearL {D : Dsk} {room k : Nat} (h : Roomy D room k) (n : List UInt8) : unless5 (removeD D n).2 = 0 ∧ (removeD D n).1.off = false ∧ (getF (removeD D n).1.now n).isSome = false := by
  cases hg : (getF D.now n).isSome
  · have he : removeD D n = (D, 5) := by
      have hm : mayD D n = (D, 5) := by unfold mayD; rw [if_neg (by rw [h.off]; simp), if_pos hg]
      unfold removeD
      rw [hm, if_neg (by simp)]
    rw [he]
    exact ⟨rfl, h.off, hg⟩
  · obtain ⟨a1, a2, _, a4⟩ := h.removed hg
    refine ⟨by rw [a1]; rfl, a2.off, ?_⟩
    rw [a4 n, if_pos rfl]
    rfl

end Go.Proofs.Ytoajfnkhonegnaa.Cd

/-
  LogParts answers true. Conditions: none.
-/
namespace Go.Proofs.Ytoajfnkhonegnaa.Cd
open Go.RowKit

/-- The logs a and b on one disk, and their files' pages. -/
structure TwoL (w : World) (la lb g N k : Nat) (sa sb : List UInt8) (D : Dsk) (T : Nat → Prop) (W : World) : Prop where
  a : Calm w la g N 200 k [97] sa D T W
  b : Calm w lb g N 200 k [98] sb D T W
  pa : pagesF D.now [97] = pagesL sa
  pb : pagesF D.now [98] = pagesL sb
theorem TwoL.over {w W W' : World} {la lb g N k : Nat} {sa sb : List UInt8} {D : Dsk} {T : Nat → Prop} (h : TwoL w la lb g N k sa sb D T W) (hb : Below W.heap.size W W') : TwoL w la lb g N k sa sb D T W' := ⟨h.a.over hb, h.b.over hb, h.pa, h.pb⟩

set_option maxRecDepth 100000 in
set_option maxHeartbeats 6400000 in
theorem lp_main (v : Value) (l : List (List UInt8)) (w : World) (hv : Strs w w.heap.size v l) (hok : ∀ p ∈ l, p.length ≤ 140737488351232) :
    Calls Try.prog 4 #[v] w (Gives (.bool true) w) := by
  obtain ⟨A, c, rfl, hv2, hv3⟩ := hv.len
  have hv3 : c ≤ 9223372036854775807 := hv3
  have HV := Lib.hid hv
  have HOK := Lib.hid hok
  clear hv hok
  go_enter Try.func4, Try.ntmps4
  go_wp2_with fail
  refine (lalive_any w).mono ?_
  rintro e w1 ⟨rfl, hb1⟩
  have HB1 := Lib.hid hb1
  clear hb1
  go_wp2_with fail
  obtain ⟨w2, hw2⟩ : ∃ x, w1.alloc (.cells #[.int .i64 0, .slice A l.length c, .int .i64 0, .int .u64 0, .slice none 0 0] 29) = x := ⟨_, rfl⟩
  have hcal := one_cal w1 A c l ((HV.out.below HB1.out).more HB1.out.size)
  rw [hw2] at hcal ⊢
  have hb2 : Below w1.heap.size w1 w2 := by rw [← hw2]; exact (Below.refl _ _).alloc (Nat.le_refl _) _
  have hz2 : w2.heap.size = w1.heap.size + 1 := by rw [← hw2]; simp
  rw [← hz2] at hcal
  refine (great9_any _ _ w2 hcal (fun p hp => by rw [List.mem_singleton] at hp; subst hp; exact ⟨HOK.out, by simp⟩)).mono ?_
  rintro e w3 ⟨gr, rfl, hb3, hsm⟩
  have HB3 := Lib.hid (HB1.out.trans ((hb2.mono HB1.out.size).trans (hb3.mono (by have := HB1.out.size; omega))))
  clear hcal hw2 hb2 hb3 hz2
  cases gr
  · obtain ⟨hl20, hlb⟩ := small_one (hsm rfl)
    have hfl := flat_bytes l (by omega)
    obtain ⟨f, hf⟩ : ∃ x, flat l = x := ⟨_, rfl⟩
    rw [hf] at hfl
    have hf10 : f.length ≤ 10000 := by omega
    have HF := Lib.hid hf
    clear hsm hfl hf
    go_wp2_with fail
    refine (new_dks 200 w3 (by omega) (by omega)).mono ?_
    rintro e w4 ⟨g, S, rfl, hd, hS, hb4⟩
    have HD := Lib.hid hd
    have HS := Lib.hid (show ∀ j, S j → w.heap.size ≤ j from fun j hj => Nat.le_trans HB3.out.size (hS j hj))
    have HB4 := Lib.hid (HB3.out.trans (hb4.mono HB3.out.size))
    clear hd hS hb4
    go_wp2_with fail
    refine (open_lay g 0 [97] [] S (newD 200) w4 HD.out rfl (by simp) (by simp [newD, pagesF, getF]) (by omega) lay_nil).mono ?_
    intro e w5 ho5
    obtain ⟨la, v5, T5, rfl, _, hc5, _, _, _, _⟩ := ho5.calm (k := 0) (room := 200) HS.out HB4.out lay_nil (new_roomy (room := 200) (by omega)) (by omega)
    have HC5 := Lib.hid hc5
    clear ho5 hc5 HD HS HB4
    go_wp2_with fail
    refine (open_lay g (0 + 12) [98] [] T5 (newD 200) w5 HC5.out.disk rfl (by simp) (by simp [newD, pagesF, getF]) (by omega) lay_nil).mono ?_
    intro e w6 ho6
    obtain ⟨lb, v6, T6, rfl, _, hc6, hap6, ht6, hll, _⟩ := ho6.calm (k := 0) (room := 200) HC5.out.low HC5.out.below lay_nil (new_roomy (room := 200) (by omega)) (by omega)
    have hne : lb ≠ la := by have := HC5.out.log.lt; omega
    have hca6 := HC5.out.beside0 hc6 hap6 ht6 rfl
    have HA6 := Lib.hid hca6
    have HBB6 := Lib.hid hc6
    clear ho6 hc6 hap6 ht6 hca6 HC5 hll
    have HAP := Lib.hid (append_ok (s := flat []) 20000 HA6.out _ l ((HV.out.below HA6.out.below).more HA6.out.below.size) (by simp) (by omega) (by rw [HF.out]; simp [flat]; omega) (by omega) (by omega) (by rw [HF.out]; simp only [flat_nil, List.length_nil]; unfold needP; omega))
    rw [HF.out] at HAP
    go_wp2_with fail
    refine HAP.out.mono ?_
    rintro e w7 ⟨rfl, _, hp7, _, T7, hc7, hap7, ht7⟩
    rw [flat_nil] at hp7 hc7
    have hb7 := HBB6.out.beside HA6.out hc7 hne hap7 ht7 (by have := hp7 [98]; rw [if_neg (by decide)] at this; exact this)
    have hpa7 := hp7 [97]
    have hpb7 := hp7 [98]
    rw [if_pos rfl] at hpa7
    rw [if_neg (by decide)] at hpb7
    rw [List.nil_append] at hc7
    obtain ⟨D7, hD7⟩ : ∃ x, (appendD (newD 200) [97] [] f).1 = x := ⟨_, rfl⟩
    rw [hD7] at hc7 hb7 hpa7 hpb7
    have hgp : grows (pagesL []) [] f = pagesL f := by have := pages_grows [] f; rwa [List.nil_append] at this
    have hkk : 0 + (needP (([] : List UInt8).length + f.length) - needP ([] : List UInt8).length) = needP f.length := by simp only [List.length_nil, Nat.zero_add]; unfold needP; omega
    rw [hkk] at hc7 hb7
    have HT7 : Hid (TwoL w la lb g (20000 + 10000 * 0) (needP f.length + needP (flat (l.take 0)).length) f (flat (l.take 0)) D7 T7 w7) := by
      have e0 : needP f.length + needP (flat (l.take 0)).length = needP f.length := by rw [List.take_zero, flat_nil]; unfold needP; simp
      unfold Hid
      rw [e0]
      exact ⟨hc7, hb7, by rw [hpa7]; exact hgp, by rw [hpb7, List.take_zero]; rfl⟩
    clear hp7 hc7 hap7 ht7 hb7 hpa7 hpb7 hD7 hgp hkk HAP HA6 HBB6
    go_wp2_with fail
    go_loopw [49] (fun i wr => ∃ (k : Nat) (D : Dsk) (T : Nat → Prop), i = .int .i64 k ∧ k ≤ l.length ∧ Hid (TwoL w la lb g (20000 + 10000 * k) (needP f.length + needP (flat (l.take k)).length) f (flat (l.take k)) D T wr)) (fun i _ => l.length - (intOf i).toNat)
    case atStart => exact ⟨0, D7, T7, rfl, by omega, HT7⟩
    case round =>
      obtain ⟨k, D, T, rfl, hk, htw⟩ := hrel
      by_cases hlt : k < l.length
      · obtain ⟨b2, off2, c2', e2, _, _, hB2, hat⟩ := (HV.out.below htw.out.a.below).at (by omega)
        injection e2 with e2 _ e3
        subst e2 e3
        have d0 := hat k hlt
        obtain ⟨x, hx⟩ : ∃ x, l[k] = x := ⟨_, rfl⟩
        have hft := flat_take l k hlt
        have hfm := flat_mono l (k + 1) l.length (by omega)
        rw [List.take_length, HF.out, hft, List.length_append] at hfm
        rw [hx] at d0 hft hfm
        obtain ⟨s, hs⟩ : ∃ x, flat (l.take k) = x := ⟨_, rfl⟩
        rw [hs] at htw hft hfm
        have HFT := Lib.hid hft
        have hroom : needP f.length + needP s.length + (needP (s.length + (flat [x]).length) - needP s.length) ≤ 200 := by rw [flat_one]; unfold needP; omega
        have HRM := Lib.hid hroom
        clear hat hx hft hs hroom
        go_wp2_with fail
        obtain ⟨w9, hw9⟩ : ∃ y, wr.alloc (.cells #[.string ⟨x.toArray⟩] 9) = y := ⟨_, rfl⟩
        have hs9 : Strs w9 w9.heap.size (.slice (some ⟨wr.heap.size, 0, none⟩) 1 1) [x] := by
          have := one_strs wr x 9
          rw [← hw9, asz]
          exact this
        have HT9 := Lib.hid (htw.out.over (W' := w9) (by rw [← hw9]; exact (Below.refl _ _).alloc (Nat.le_refl _) _))
        rw [hw9]
        refine (append_ok (20000 + 10000 * (k + 1)) HT9.out.b _ [x] hs9 (by simp) (by omega) (by rw [flat_one]; omega) (by omega) (by omega) HRM.out).mono ?_
        rw [flat_one]
        rintro e w10 ⟨rfl, _, hp10, _, T10, hc10, hap10, ht10⟩
        have hpa := hp10 [97]
        have hpb := hp10 [98]
        rw [if_neg (by decide)] at hpa
        rw [if_pos rfl, HT9.out.pb, pages_grows] at hpb
        have ha10 := HT9.out.a.beside HT9.out.b hc10 (fun e => hne e.symm) hap10 ht10 hpa
        have hkk : needP f.length + needP s.length + (needP (s.length + (frm x).length) - needP s.length) = needP f.length + needP (s ++ frm x).length := by rw [List.length_append]; have := needP_mono (Nat.le_add_right s.length (frm x).length); omega
        rw [hkk] at ha10 hc10
        obtain ⟨D10, hD10⟩ : ∃ y, (appendD D [98] s (frm x)).1 = y := ⟨_, rfl⟩
        rw [hD10] at ha10 hc10 hpa hpb
        have HT10 := Lib.hid (show TwoL w la lb g (20000 + 10000 * (k + 1)) (needP f.length + needP (s ++ frm x).length) f (s ++ frm x) D10 T10 w10 from ⟨ha10, hc10, hpa.trans HT9.out.pa, hpb⟩)
        clear hs9 hw9 hp10 hc10 hap10 ht10 hpa hpb ha10 hkk hD10
        go_wp2_with fail
        go_roundw
        case rel => exact ⟨k + 1, D10, T10, by go_num, by omega, by unfold Hid; rw [HFT.out]; exact HT10.out⟩
        case measure => simp [intOf]; omega
      · have hkl : flat (l.take k) = f := by rw [List.take_of_length_le (by omega), HF.out]
        rw [hkl] at htw
        have hlen : (pagesL f).length = needP f.length := pagesL_len f
        have hnf : needP f.length ≤ 100 := by unfold needP; omega
        obtain ⟨m, hm⟩ : ∃ x, needP f.length = x := ⟨_, rfl⟩
        rw [hm] at htw hlen hnf
        have HLEN := Lib.hid hlen
        have hoff := htw.out.a.roomy.off
        have HSA := Lib.hid (fun W (hb : Below wr.heap.size wr W) => size_l la g [97] f T W (htw.out.a.log.below hb))
        have HSB := Lib.hid (fun W (hb : Below wr.heap.size wr W) => size_l lb g [98] f T W (htw.out.b.log.below hb))
        have HCA := Lib.hid (fun W (hb : Below wr.heap.size wr W) => count_dks g (20000 + 10000 * k) T D [97] W (htw.out.a.disk.below hb) hoff (by simp))
        have HCB := Lib.hid (fun W (hb : Below wr.heap.size wr W) => count_dks g (20000 + 10000 * k) T D [98] W (htw.out.a.disk.below hb) hoff (by simp))
        rw [htw.out.pa, hlen] at HCA
        rw [htw.out.pb, hlen] at HCB
        have hbr := Lib.hid (Below.refl wr.heap.size wr)
        clear hkl hm hlen
        go_wp2_with fail
        refine (HSA.out _ hbr.out).mono ?_
        rintro e wz ⟨rfl, rfl⟩
        go_wp2_with fail
        refine (HSB.out _ hbr.out).mono ?_
        rintro e w' ⟨rfl, hw'⟩
        obtain rfl := hw'.symm
        go_wp2_with fail
        refine (HCA.out _ hbr.out).mono ?_
        rintro e w' ⟨rfl, hw'⟩
        obtain rfl := hw'.symm
        go_wp2_with fail
        refine (HCB.out _ hbr.out).mono ?_
        rintro e w' ⟨rfl, hw'⟩
        obtain rfl := hw'.symm
        go_wp2_with fail
        go_loopw [12] (fun i wr => ∃ j : Nat, i = .int .i64 j ∧ j ≤ m ∧ Hid (Below wz.heap.size wz wr)) (fun i _ => m - (intOf i).toNat)
        case atStart => exact ⟨0, rfl, by omega, Below.refl _ _⟩
        case round =>
          obtain ⟨j, rfl, hj, hbq⟩ := hrel
          by_cases hjl : j < m
          · obtain ⟨q, hq⟩ : ∃ q, (pagesL f)[j]? = some q := ⟨(pagesL f)[j]'(by rw [HLEN.out]; exact hjl), List.getElem?_eq_getElem _⟩
            have HQA := Lib.hid (show (pagesF D.now [97])[j]? = some q by rw [htw.out.pa]; exact hq)
            have HQB := Lib.hid (show (pagesF D.now [98])[j]? = some q by rw [htw.out.pb]; exact hq)
            have hwf : (Lit.int .i64 (j : Int)).wf = true := WalkArith.wf_i64 (by omega)
            have HRA := Lib.hid (read_dks g (20000 + 10000 * k) T D [97] wr (j : Int) (htw.out.a.disk.below hbq.out) (by simp) hwf)
            have HRB := Lib.hid (fun W (hb : Below wz.heap.size wz W) => read_dks g (20000 + 10000 * k) T D [98] W (j : Int) (htw.out.a.disk.below hb) (by simp) hwf)
            have hqq : (q != q) = false := by simp
            have hzq := hbq.out.size
            clear hq hwf
            go_wp2_with fail
            refine (HCA.out _ hbq.out).mono ?_
            rintro e w' ⟨rfl, hw'⟩
            obtain rfl := hw'.symm
            go_wp2_with fail
            refine HRA.out.mono ?_
            intro e wx hr
            obtain ⟨hql, rfl, hwx⟩ := reads_in hoff HQA.out hr
            have hbx : Below wr.heap.size wr wx := by rw [hwx]; exact (Below.refl _ _).alloc (Nat.le_refl _) _
            have hsx := sl_pg hql 79 (show wx.heap[wr.heap.size]? = _ by rw [hwx]; exact heap_alloc_new wr _)
            have HBX := Lib.hid (hbq.out.trans (hbx.mono hzq))
            have HSX := Lib.hid hsx
            clear hr hwx hbx hsx
            go_wp2_with fail
            refine (HRB.out _ HBX.out).mono ?_
            intro e wy hr
            obtain ⟨_, rfl, hwy⟩ := reads_in hoff HQB.out hr
            have hby : Below wx.heap.size wx wy := by rw [hwy]; exact (Below.refl _ _).alloc (Nat.le_refl _) _
            have hsy := sl_pg hql 79 (show wy.heap[wx.heap.size]? = _ by rw [hwy]; exact heap_alloc_new wx _)
            have hcx := run_text_of wy _ _ _ (HSX.out.below hby)
            have hcy := run_text_of wy _ _ _ hsy
            have HBY := Lib.hid (HBX.out.trans (hby.mono HBX.out.size))
            clear hr hwy hby hsy
            go_wp2_with fail
            go_roundw
            case rel => exact ⟨j + 1, by go_num, by omega, HBY⟩
            case measure => simp [intOf]; omega
          · have hji : (m : Int) ≤ j := by omega
            have htr := htw.out.over hbq.out
            have hly : Lay (pagesF D.now [98]) (flat l) := by rw [HF.out]; exact htr.b.lay
            have hcb : (pagesF D.now [98]).length ≤ 2000 := by rw [htr.pb, HLEN.out]; omega
            have HOB := Lib.hid (open_lay g (20000 + 10000 * k) [98] l T D wr htr.b.disk hoff (by simp) hcb (by omega) hly)
            have HTR := Lib.hid htr
            clear htr hly hcb
            go_wp2_with fail
            refine (HCA.out _ hbq.out).mono ?_
            rintro e w' ⟨rfl, hw'⟩
            obtain rfl := hw'.symm
            go_wp2_with fail
            refine HOB.out.mono ?_
            rintro e w12 ⟨l2, v2, T12, rfl, hv12, _, hd12, ht12, hap12, _, _⟩
            have hl12 : LogAt w12 T12 la g [97] f := (HTR.out.a.log.apart hap12).less fun j _ hj => ht12 j hj
            have hb12 := HTR.out.a.below.trans (hap12.low HTR.out.a.below.size HTR.out.a.low)
            have hlow12 : ∀ j, T12 j → w.heap.size ≤ j := fun j hj => by
              rcases ht12 j hj with h | h
              · exact HTR.out.a.low j h
              · have := HTR.out.a.below.size; omega
            obtain ⟨A2, c2, rfl, hc21, hc22⟩ := hv12.strs.len
            have hc22 : c2 ≤ 9223372036854775807 := hc22
            have HSM := Lib.hid (same_any _ _ l l w12 hv12.strs ((HV.out.below hb12).more hb12.size))
            have HL12 := Lib.hid hl12
            have HD12 := Lib.hid hd12
            have HB12 := Lib.hid hb12
            have HLOW := Lib.hid hlow12
            obtain ⟨u1, u2, u3⟩ := HTR.out.a.roomy.clearL [97]
            obtain ⟨D14, hD14⟩ : ∃ x, (removeD D [97]).1 = x := ⟨_, rfl⟩
            rw [hD14] at u2 u3
            have HU := Lib.hid u1
            have HD14 := Lib.hid hD14
            have HU2 := Lib.hid u2
            have HU3 := Lib.hid u3
            clear hv12 hd12 ht12 hap12 hl12 hb12 hlow12 u1 u2 u3 hD14 HOB
            go_wp2_with fail
            refine HSM.out.mono ?_
            rintro e w13 ⟨rfl, hb13⟩
            have hcl := clear_l la g (20000 + 10000 * k + 12) [97] f T12 D w13 (HL12.out.below hb13) (HD12.out.below hb13) (by simp) (by omega)
            rw [HU.out, if_pos rfl, HD14.out] at hcl
            have HCL := Lib.hid hcl
            have HB13 := Lib.hid (HB12.out.trans (hb13.mono HB12.out.size))
            have hlaw : w.heap.size ≤ la := HTR.out.a.lowl
            have hdt : decide (l = l) = true := by simp
            clear hcl hb13
            go_wp2_with fail
            refine HCL.out.mono ?_
            rintro e w14 ⟨rfl, T14, hd14, hl14, ht14, hap14⟩
            have hb14 := HB13.out.trans (hap14.low HB13.out.size (fun j hj => by
              rcases hj with hj | hj
              · exact HLOW.out j hj
              · rw [hj]; exact hlaw))
            have HB14 := Lib.hid hb14
            have HHA := Lib.hid (has_dks g (20000 + 10000 * k + 12 + 4) T14 D14 [97] w14 hd14 HU2.out (by simp))
            rw [HU3.out] at HHA
            have HSZ := Lib.hid (size_l la g [97] [] T14 w14 hl14)
            have hp14 : pagesF D14.now [97] = [] := pages_of_none HU3.out
            have HOA := Lib.hid (open_lay g (20000 + 10000 * k + 12 + 4) [97] [] T14 D14 w14 hd14 HU2.out (by simp) (by rw [hp14]; simp) (by omega) (by rw [hp14]; exact lay_nil))
            have HLOW14 := Lib.hid (show ∀ j, T14 j → w.heap.size ≤ j from fun j hj => by
              rcases ht14 j hj with h | h
              · exact HLOW.out j h
              · have := HB13.out.size; omega)
            clear hd14 hl14 ht14 hap14 hb14 hp14
            go_wp2_with fail
            refine HHA.out.mono ?_
            rintro e w' ⟨rfl, hw'⟩
            obtain rfl := hw'.symm
            go_wp2_with fail
            refine HSZ.out.mono ?_
            rintro e w' ⟨rfl, hw'⟩
            obtain rfl := hw'.symm
            go_wp2_with fail
            refine HOA.out.mono ?_
            rintro e w15 ⟨l3, v3, T15, rfl, hv15, _, _, _, hap15, _, _⟩
            have HB15 := Lib.hid (HB14.out.trans (hap15.low HB14.out.size HLOW14.out))
            obtain ⟨A3, c3, rfl, hc31, hc32⟩ := hv15.strs.len
            have hc32 : c3 ≤ 9223372036854775807 := hc32
            clear hv15 hap15
            go_wp2_with fail
            go_ret
            exact ⟨rfl, HB15.out⟩
  · go_wp2_with fail
    go_ret
    exact ⟨rfl, HB3.out⟩

end Go.Proofs.Ytoajfnkhonegnaa.Cd

namespace Go.Proofs.Ytoajfnkhonegnaa.LogParts
open Go.RowKit Go.Proofs.Ytoajfnkhonegnaa.Cd

theorem walk (v : Value) (l : List (List UInt8)) (w : World) (h : Cd.Strs w w.heap.size v l ∧ ∀ p ∈ l, p.length ≤ 140737488351232) : Calls Try.prog 4 #[v] w (Gives (.bool true) w) :=
  lp_main v l w h.1 h.2

end Go.Proofs.Ytoajfnkhonegnaa.LogParts
