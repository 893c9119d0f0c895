/-
  What the laws of trees and commits ask first: alive, greatTree, greatCommit. Conditions: texts of fewer than 2^47 bytes.
-/
import Derived.Test.YtabogconbjdcgaaObPutC
import Derived.Test.YtabogconbjdcgaaObGetT
namespace Go.Proofs.Ytabogconbjdcgaa.Cd
open Go.RowKit

theorem goodT_nil : GoodT ⟨[], []⟩ := .inl ⟨rfl, ⟨by simp, (fun _ h => by cases h), (fun _ h => by cases h), fun j a b h => by simp at h⟩⟩
theorem treeB_nil : treeB ⟨[], []⟩ = [1, 0] := rfl

set_option maxRecDepth 100000 in
set_option maxHeartbeats 1600000 in
theorem oalive_any (w : World) : Calls Try.prog 8 #[] w (Gives (.bool true) w) := by
  have hp := putt_any (.agg #[.slice none 0 0, .slice none 0 0]) ⟨[], []⟩ w ⟨_, _, rfl, RwIn.nil _ _, RwIn.nil _ _⟩
  rw [treeB_nil] at hp
  have HP := Lib.hid hp
  clear hp
  go_enter Try.func8, Try.ntmps8
  go_wp2_with fail
  refine HP.out.mono ?_
  rintro e w1 ⟨v, n, rfl, hb1, h⟩
  rcases h with ⟨_, rfl, ho⟩ | ⟨hno, _⟩
  · have hcv := run_text_of _ _ _ _ ho.sl
    have HB := Lib.hid hb1
    clear ho hb1
    have hq : (ByteArray.mk [1, 0].toArray == ByteArray.mk #[1, 0]) = true := by decide
    go_wp2_with fail
    go_ret
    exact ⟨rfl, HB.out⟩
  · exact absurd goodT_nil hno

/-! ### Not too much -/

structure FitT (t : Tre) : Prop where
  key : ∀ p ∈ t.ps, p.1.length ≤ 140737488351232
  val : ∀ p ∈ t.ps, p.2.length ≤ 140737488351232
  kid : ∀ p ∈ t.ks, p.1.length ≤ 140737488351232
structure SmallT (t : Tre) : Prop where
  ps : t.ps.length ≤ 50
  ks : t.ks.length ≤ 50
  key : ∀ p ∈ t.ps, p.1.length ≤ 4096
  val : ∀ p ∈ t.ps, p.2.length ≤ 4096
  kid : ∀ p ∈ t.ks, p.1.length ≤ 4096
/-- What a question answers, of which only the no matters. -/
def Asks (P : Prop) (w : World) (e : Ending) (w' : World) : Prop := ∃ s : Bool, e = .returned (.bool s) ∧ (s = false → P) ∧ Below w.heap.size w w'

set_option maxRecDepth 100000 in
set_option maxHeartbeats 3200000 in
theorem greatt_any (v : Value) (t : Tre) (w : World) (h : TreIn w w.heap.size v t) (hf : FitT t) : Calls Try.prog 9 #[v] w (Asks (SmallT t) w) := by
  obtain ⟨ps, ks⟩ := t
  obtain ⟨vp, vk, rfl, h1, h2⟩ := h
  have h1 : PsIn w w.heap.size vp ps := h1
  have h2 : KsIn w w.heap.size vk ks := h2
  obtain ⟨A1, c1, e1, k1, l1⟩ := h1.len
  obtain ⟨A2, c2, e2, k2, l2⟩ := h2.len
  have HF := Lib.hid hf
  have H1 : Hid (PsIn w w.heap.size vp ps) := h1
  have H2 : Hid (KsIn w w.heap.size vk ks) := h2
  clear h1 h2 hf
  subst e1 e2
  have HB0 : Hid (Below w.heap.size w (w.alloc (.cells #[.slice A1 ps.length c1, .slice A2 ks.length c2] 25))) := new_below _ _
  have HT0 : Hid (TrAt (w.alloc (.cells #[.slice A1 ps.length c1, .slice A2 ks.length c2] 25)) w.heap.size (.slice A1 ps.length c1) (.slice A2 ks.length c2)) := TrAt.new _ _ _
  have hz0 : w.heap.size < (w.alloc (.cells #[.slice A1 ps.length c1, .slice A2 ks.length c2] 25)).heap.size := by simp
  by_cases hbig : 50 < ps.length ∨ 50 < ks.length
  · have hways : (50 : Int) < ps.length ∨ (¬ (50 : Int) < ps.length ∧ (50 : Int) < ks.length) := by omega
    clear hbig
    rcases hways with h1 | ⟨h1, h2⟩
    all_goals
      go_enter Try.func9, Try.ntmps9
      go_wp2_with fail
      go_ret
      exact ⟨true, rfl, (fun h => by cases h), HB0.out⟩
  have hb1 : ¬ (50 : Int) < ps.length := by omega
  have hb2 : ¬ (50 : Int) < ks.length := by omega
  have hd1 : decide ((50 : Int) < ps.length) = false := decide_eq_false hb1
  have hd2 : decide ((50 : Int) < ks.length) = false := decide_eq_false hb2
  have hp50 : ps.length ≤ 50 := by omega
  have hk50 : ks.length ≤ 50 := by omega
  clear hbig
  go_enter Try.func9, Try.ntmps9
  go_wp2_with fail
  generalize w.alloc (.cells #[.slice A1 ps.length c1, .slice A2 ks.length c2] 25) = w0 at *
  go_loopw [3, 21] (fun n i wr => ∃ k tot : Nat, i = .int .i64 k ∧ n = .int .i64 tot ∧ k ≤ ps.length ∧ tot ≤ 4096 ∧ Hid (∀ (j : Nat) p, j < k → ps[j]? = some p → p.1.length ≤ 4096 ∧ p.2.length ≤ 4096) ∧ Hid (Below w.heap.size w wr) ∧ Hid (TrAt wr w.heap.size (.slice A1 ps.length c1) (.slice A2 ks.length c2)) ∧ w.heap.size < wr.heap.size) (fun _ i _ => ps.length - (intOf i).toNat)
  case atStart => exact ⟨0, 0, rfl, rfl, by omega, by omega, fun j _ h => by omega, HB0.out, HT0.out, hz0⟩
  case round =>
    clear HB0 HT0 hz0
    obtain ⟨k, tot, rfl, rfl, hk, htot, hp, hbl, htr, hzr⟩ := hrel
    by_cases hlt : k < ps.length
    · obtain ⟨x, hxk⟩ : ∃ x, ps[k]? = some x := ⟨ps[k], List.getElem?_eq_getElem hlt⟩
      obtain ⟨b2, off2, e2, hB2, d0, d1⟩ := PsIn.at2 (H1.out.below hbl.out) hxk
      subst e2
      have HX := Lib.hid hxk
      have hf1 := HF.out.key x (List.mem_of_getElem? hxk)
      have hf2 := HF.out.val x (List.mem_of_getElem? hxk)
      clear hxk
      have hb3 : Below wr.heap.size wr (wr.alloc (.cells #[.string ⟨x.1.toArray⟩, .string ⟨x.2.toArray⟩] 56)) := new_below _ _
      have HB3 := Lib.hid (hbl.out.trans (hb3.mono (by omega)))
      have HT3 := Lib.hid (htr.out.below hb3 hzr)
      have hz3 : w.heap.size < (wr.alloc (.cells #[.string ⟨x.1.toArray⟩, .string ⟨x.2.toArray⟩] 56)).heap.size := by simp; omega
      clear hb3
      have hzx1 : (ByteArray.mk x.1.toArray).size = x.1.length := rfl
      have hzx2 : (ByteArray.mk x.2.toArray).size = x.2.length := rfl
      have hs1 : IntKind.i64.wrap ((tot : Int) + ((x.1.length : Int) + (x.2.length : Int))) = ((tot + (x.1.length + x.2.length) : Nat) : Int) := by rw [IntWalk.i64_in _ (by omega)]; omega
      by_cases hov : 4096 < tot + (x.1.length + x.2.length)
      · have hov' : (4096 : Int) < (tot : Int) + ((x.1.length : Int) + (x.2.length : Int)) := by omega
        clear hov
        go_wp2_with fail
        go_ret
        exact ⟨true, rfl, (fun h => by cases h), HB3.out⟩
      · have hov' : ¬ (4096 : Int) < (tot : Int) + ((x.1.length : Int) + (x.2.length : Int)) := by omega
        have hp2 : Hid (∀ (j : Nat) p, j < k + 1 → ps[j]? = some p → p.1.length ≤ 4096 ∧ p.2.length ≤ 4096) := fun j p hj hjp => by
          by_cases e : j = k
          · subst e
            rw [HX.out] at hjp
            injection hjp with hjp
            subst hjp
            exact ⟨by omega, by omega⟩
          · exact hp.out j p (by omega) hjp
        go_wp2_with fail
        go_roundw
        case rel => exact ⟨k + 1, tot + (x.1.length + x.2.length), by go_num, by go_num, by omega, by omega, hp2, HB3.out, HT3.out, hz3⟩
        case measure => simp [intOf]; omega
    · have hps : Hid (∀ p ∈ ps, p.1.length ≤ 4096 ∧ p.2.length ≤ 4096) := fun p hpl => by
        obtain ⟨j, hj, rfl⟩ := List.getElem_of_mem hpl
        exact hp.out j _ (by omega) (List.getElem?_eq_getElem hj)
      have d1 := htr.out.c1
      clear hp
      go_wp2_with fail
      go_loopw [3, 40] (fun n i wx => ∃ k tot : Nat, i = .int .i64 k ∧ n = .int .i64 tot ∧ k ≤ ks.length ∧ tot ≤ 4096 ∧ Hid (∀ (j : Nat) p, j < k → ks[j]? = some p → p.1.length ≤ 4096) ∧ Hid (Below w.heap.size w wx)) (fun _ i _ => ks.length - (intOf i).toNat)
      case atStart => exact ⟨0, tot, rfl, rfl, by omega, by omega, fun j _ h => by omega, hbl.out⟩
      case round =>
        clear htr hbl hzr d1 htot
        obtain ⟨k, tot, rfl, rfl, hk, htot, hp, hbl⟩ := hrel
        by_cases hlt : k < ks.length
        · obtain ⟨x, hxk⟩ : ∃ x, ks[k]? = some x := ⟨ks[k], List.getElem?_eq_getElem hlt⟩
          obtain ⟨b2, off2, e2, hB2, rx⟩ := KsIn.range (H2.out.below hbl.out) hxk
          subst e2
          have RX := Lib.hid rx
          have HX := Lib.hid hxk
          have hf1 := HF.out.kid x (List.mem_of_getElem? hxk)
          clear hxk rx
          have HB3 : Hid (Below w.heap.size w (wr.alloc (.cells (kkC x).toArray 59))) := hbl.out.alloc hbl.out.size _
          have HK : Hid (KidAt (wr.alloc (.cells (kkC x).toArray 59)) wr.heap.size x) := KidAt.new _ _
          have d0 := HK.out.key
          have hzx1 : (ByteArray.mk x.1.toArray).size = x.1.length := rfl
          by_cases hov : 4096 < tot + x.1.length
          · have hov' : (4096 : Int) < (tot : Int) + (x.1.length : Int) := by omega
            clear hov
            go_wp2_with (first
              | (refine wpList_load_mid rfl 59 _ rfl b2 (off2 + k * 34) rfl (kkC x) _ RX.out Try.underlying59 rfl (cells_kk x) ?_)
              | (refine wp_alloc_row zero_kk rfl rfl ?_)
              | (refine wp_fill_kk rfl _ _ rfl rfl (by simp [Act.eval, Act.put]) x rfl ?_))
            go_ret
            exact ⟨true, rfl, (fun h => by cases h), HB3.out⟩
          · have hov' : ¬ (4096 : Int) < (tot : Int) + (x.1.length : Int) := by omega
            have hp2 : Hid (∀ (j : Nat) p, j < k + 1 → ks[j]? = some p → p.1.length ≤ 4096) := fun j p hj hjp => by
              by_cases e : j = k
              · subst e
                rw [HX.out] at hjp
                injection hjp with hjp
                subst hjp
                omega
              · exact hp.out j p (by omega) hjp
            go_wp2_with (first
              | (refine wpList_load_mid rfl 59 _ rfl b2 (off2 + k * 34) rfl (kkC x) _ RX.out Try.underlying59 rfl (cells_kk x) ?_)
              | (refine wp_alloc_row zero_kk rfl rfl ?_)
              | (refine wp_fill_kk rfl _ _ rfl rfl (by simp [Act.eval, Act.put]) x rfl ?_))
            go_roundw
            case rel => exact ⟨k + 1, tot + x.1.length, by go_num, by go_num, by omega, by omega, hp2, HB3.out⟩
            case measure => simp [intOf]; omega
        · have hyes : Hid (SmallT ⟨ps, ks⟩) := ⟨hp50, hk50, fun p h => (hps.out p h).1, fun p h => (hps.out p h).2, fun p hpl => by
            obtain ⟨j, hj, rfl⟩ := List.getElem_of_mem hpl
            exact hp.out j _ (by have : ks.length ≤ k := by omega
                                 have hj' : j < ks.length := hj
                                 omega) (List.getElem?_eq_getElem hj)⟩
          clear hp
          go_wp2_with fail
          go_ret
          exact ⟨false, rfl, fun _ => hyes.out, hbl.out⟩

structure SmallC (c : Cmt) : Prop where
  is : c.is.length ≤ 50
  note : c.note.length ≤ 1024

set_option maxRecDepth 100000 in
set_option maxHeartbeats 1600000 in
theorem greatc_any (v : Value) (c : Cmt) (w : World) (h : CmtIn w w.heap.size v c) : Calls Try.prog 17 #[v] w (Asks (SmallC c) w) := by
  obtain ⟨vi, rfl, hi⟩ := h
  obtain ⟨A, cc, rfl, k1, l1⟩ := hi.len
  have HB1 : Hid (Below w.heap.size w (w.alloc (.cells (cmC c (.slice A c.is.length cc)).toArray 44))) := new_below _ _
  have HC : Hid (ComAt (w.alloc (.cells (cmC c (.slice A c.is.length cc)).toArray 44)) w.heap.size c (.slice A c.is.length cc)) := ComAt.new _ _ _
  have hzn : (ByteArray.mk c.note.toArray).size = c.note.length := rfl
  go_enter Try.func17, Try.ntmps17
  have d33 := HC.out.is
  have d34 := HC.out.note
  rcases (by omega : 50 < c.is.length ∨ (¬ 50 < c.is.length ∧ 1024 < c.note.length) ∨ (¬ 50 < c.is.length ∧ ¬ 1024 < c.note.length)) with h1 | ⟨h1, h2⟩ | ⟨h1, h2⟩
  · have q1 : (50 : Int) < c.is.length := by omega
    go_wp2_with (refine wp_box_row rfl _ rfl rfl ?_)
    go_ret
    exact ⟨true, rfl, (fun h => by cases h), HB1.out⟩
  · have q1 : ¬ (50 : Int) < c.is.length := by omega
    have q2 : (1024 : Int) < c.note.length := by omega
    go_wp2_with (refine wp_box_row rfl _ rfl rfl ?_)
    go_ret
    exact ⟨_, rfl, (fun h => by simp at h), HB1.out⟩
  · have q1 : ¬ (50 : Int) < c.is.length := by omega
    have q2 : ¬ (1024 : Int) < c.note.length := by omega
    go_wp2_with (refine wp_box_row rfl _ rfl rfl ?_)
    go_ret
    exact ⟨_, rfl, fun _ => ⟨by omega, by omega⟩, HB1.out⟩

end Go.Proofs.Ytabogconbjdcgaa.Cd
