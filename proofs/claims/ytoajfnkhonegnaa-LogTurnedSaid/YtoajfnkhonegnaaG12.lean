/-
  LogFull answers true. Conditions: none.
-/
import Derived.Test.YtoajfnkhonegnaaG11
import Derived.OwnWalk
import Derived.Test.YtoajfnkhonegnaaG10
import Derived.BigQuiet
import Derived.Test.YtoajfnkhonegnaaG8
/-
  A log's Append. Conditions: names that can be; bytes that fit.
-/
namespace Go.Proofs.Ytoajfnkhonegnaa.Cd
open Go.RowKit
set_option linter.unusedVariables false

/-- What Append does. -/
def appendA (D : Dsk) (n s b : List UInt8) : Dsk × Nat := if D.off = true then (D, 8) else appendD D n s b

theorem MakesL.over {w w1 w2 : World} {g N l : Nat} {S : Nat → Prop} {D : Dsk} {v : Value} {n s : List UInt8} {e : Ending} (hb : Below w.heap.size w w1) (h : MakesL g N S D v l n s w1 e w2) : MakesL g N S D v l n s w e w2 := by
  obtain ⟨h1, T, h2, h3, h4, h5⟩ := h
  refine ⟨h1, T, h2, h3, fun k hk => ?_, ⟨h5.os.trans hb.os, h5.tape.trans hb.tape, h5.output.trans hb.output, Nat.le_trans hb.size h5.size, fun k hk hn => (h5.block k (Nat.lt_of_lt_of_le hk hb.size) hn).trans (hb.block k hk)⟩⟩
  rcases h4 k hk with h6 | h6
  · exact .inl h6
  · exact .inr ⟨Nat.le_trans hb.size h6.1, h6.2⟩
theorem MakesL.same {w w' : World} {g N M l : Nat} {S : Nat → Prop} {D : Dsk} {v : Value} {n s : List UInt8} (h : LogAt w S l g n s) (hd : DkS w g N S D) (hb : Below w.heap.size w w') (hN : N ≤ M) (hM : M ≤ 137438953472) : MakesL g M S D v l n s w (.returned v) w' :=
  ⟨rfl, S, (hd.mono hN hM).below hb, h.below hb, fun _ => .inl, Apart.below hb⟩

set_option maxRecDepth 100000 in
set_option maxHeartbeats 3200000 in
theorem append_l (l g N M : Nat) (n s : List UInt8) (v : Value) (list : List (List UInt8)) (S : Nat → Prop) (D : Dsk) (w : World) (h : LogAt w S l g n s) (hd : DkS w g N S D) (hn : n.length ≤ 140737488355000) (hv : Strs w w.heap.size v list)
    (hsl : s.length + (flat list).length ≤ 1000000000) (hpc : (pagesF D.now n).length ≤ 1000000000) (hfr : -1000000000 ≤ freeD D ∧ freeD D ≤ 1000000000) (hN : N + 4 * (needP (s.length + (flat list).length) + 2) ≤ M) (hM : M ≤ 137438953472) :
    Calls Try.prog 12 #[.pointer (some ⟨l, 0, none⟩), v] w (MakesL g M S (appendA D n s (flat list)).1 (.int .i64 ((appendA D n s (flat list)).2 : Nat)) l n (if (appendA D n s (flat list)).2 = 0 then s ++ flat list else s) w) := by
  have HR := Lib.hid (ready_l l g N n s S D w h hd)
  have HL := Lib.hid h
  have HD := Lib.hid hd
  have HV := Lib.hid hv
  obtain ⟨A, c, rfl, hv2, hv3⟩ := hv.len
  have hv3 : c ≤ 9223372036854775807 := hv3
  clear hv
  by_cases ho : D.off = true
  · have he : appendA D n s (flat list) = (D, 8) := if_pos ho
    have hr : errL D = 8 := if_pos ho
    rw [hr] at HR
    rw [he]
    clear he hr h hd
    go_enter Try.func12, Try.ntmps12
    go_wp2_with (go_at_call 32; refine HR.out.mono ?_; rintro e w' ⟨rfl, rfl⟩)
    go_ret
    exact MakesL.same HL.out HD.out (Below.refl _ _) (by omega) hM
  · have ho2 : D.off = false := by simpa using ho
    have hr : errL D = 0 := if_neg ho
    rw [hr] at HR
    obtain ⟨b, hb⟩ : ∃ x, flat list = x := ⟨_, rfl⟩
    rw [hb] at hsl hN ⊢
    have he : appendA D n s b = appendD D n s b := if_neg ho
    rw [he]
    have HB := Lib.hid hb
    obtain ⟨fr, hfr2⟩ : ∃ x, freeD D = x := ⟨_, rfl⟩
    obtain ⟨pc, hpc2⟩ : ∃ x, (pagesF D.now n).length = x := ⟨_, rfl⟩
    rw [hfr2] at hfr
    rw [hpc2] at hpc
    have HFR := Lib.hid hfr2
    have HPC := Lib.hid hpc2
    obtain ⟨RA, hRA⟩ : ∃ R, appendD D n s b = R := ⟨_, rfl⟩
    obtain ⟨DA, ea⟩ := RA
    rw [hRA]
    obtain ⟨s2, hs2⟩ : ∃ x, (if (DA, ea).2 = 0 then s ++ b else s) = x := ⟨_, rfl⟩
    rw [hs2]
    have HRA := Lib.hid hRA
    have HS2 := Lib.hid hs2
    have hsm : ∀ x ∈ list, x.length ≤ 1000000000 := fun x hx => by
      obtain ⟨k, hk, rfl⟩ := List.getElem_of_mem hx
      have h1 := flat_mono list (k + 1) list.length (by omega)
      rw [List.take_length, hb, flat_take list k hk, List.length_append] at h1
      have := frm_ge list[k]
      omega
    have HSM := Lib.hid hsm
    have hll : list.length ≤ 1000000000 := by have := flat_ge list; rw [hb] at this; omega
    clear he hr h hd ho hb hfr2 hpc2 hRA hs2 hsm
    go_enter Try.func12, Try.ntmps12
    go_wp2_with (go_at_call 32; refine HR.out.mono ?_; rintro e w1 ⟨rfl, rfl⟩)
    go_loopw [6, 16] (fun x i wr => ∃ k : Nat, i = .int .i64 k ∧ k ≤ list.length ∧ Hid (Own wr w1.heap.size x (flat (list.take k))) ∧ Hid (Below w1.heap.size w1 wr)) (fun _ i _ => list.length - (intOf i).toNat)
    case atStart => exact ⟨0, rfl, by omega, nil_append_own _ _, Below.refl _ _⟩
    case round =>
      obtain ⟨k, rfl, hk, hown, hbl⟩ := hrel
      by_cases hlt : k < list.length
      · obtain ⟨b2, off2, c2', e2, _, _, hB2, hat⟩ := (HV.out.below hbl.out).at (by omega)
        injection e2 with e2 _ e3
        subst e2 e3
        have d0 := hat k hlt
        have hft := flat_take list k hlt
        have hfm := flat_mono list (k + 1) list.length (by omega)
        rw [List.take_length, HB.out, hft, List.length_append] at hfm
        obtain ⟨x, hx⟩ : ∃ x, list[k] = x := ⟨_, rfl⟩
        have hxl : x.length ≤ 1000000000 := HSM.out x (by rw [← hx]; exact List.getElem_mem hlt)
        rw [hx] at d0 hft hfm
        obtain ⟨F, hF⟩ : ∃ x, flat (list.take k) = x := ⟨_, rfl⟩
        rw [hF] at hown hft hfm
        have HFT := Lib.hid hft
        have HP := Lib.hid (put_any (.slice none 0 0) [] x wr (Sl.nil _ _) (by simp; omega))
        have hbz := hbl.out.size
        clear hat hx hft hF
        go_wp2_with (first
          | (go_at_call 33; refine HP.out.mono ?_; rintro e w2 ⟨v2, rfl, ho2', hb2'⟩; rw [List.nil_append] at ho2'; obtain ⟨A2, c2, rfl, _, _⟩ := ho2'.sl.len; have HO2 := Lib.hid ho2'; have HB2 := Lib.hid hb2'; clear ho2' hb2')
          | (at_builtin; refine wp_append_sl rfl _ _ rfl w1.heap.size _ F rfl ?ho ?hB _ w2.heap.size (frm x) rfl ?hn ?hm ?hK))
        case ho => exact hown.out.keep HB2.out
        case hB => have := HB2.out.size; omega
        case hn => exact HO2.out.sl
        case hm => omega
        case hK =>
          intro v3 w3 ho3 hb3
          have HO3 := Lib.hid ho3
          have HB3 := Lib.hid (hbl.out.trans ((HB2.out.mono hbz).trans hb3))
          clear ho3 hb3
          go_wp2
          go_roundw
          case rel => exact ⟨k + 1, by go_num, by omega, by unfold Hid; rw [HFT.out]; exact HO3.out, HB3.out⟩
          case measure => simp [intOf]; omega
      · have hkl : k = list.length := by omega
        have htk : flat (list.take k) = b := by rw [hkl, List.take_length, HB.out]
        rw [htk] at hown
        clear hkl htk
        obtain ⟨A8, c8, rfl, h81, h82⟩ := hown.out.sl.len
        have h82 : c8 ≤ 9223372036854775807 := h82
        by_cases hb0 : b.length = 0
        · have hbn : b = [] := List.length_eq_zero_iff.1 hb0
          have hRA := HRA.out
          have hq : DA = D ∧ ea = 0 ∧ s2 = s := by
            unfold appendD at hRA
            rw [if_pos hbn] at hRA
            injection hRA with h1 h2
            have := HS2.out
            rw [← h2, hbn, List.append_nil] at this
            refine ⟨h1.symm, h2.symm, ?_⟩
            rw [← this]
            split <;> rfl
          obtain ⟨rfl, rfl, rfl⟩ := hq
          clear hRA hbn
          rw [hb0]
          clear hb0
          go_wp2_with fail
          go_ret
          exact MakesL.same HL.out HD.out hbl.out (by omega) hM
        · have hbp : (b.length : Int) ≠ 0 := by omega
          have hbne : ((b.length : Int) == 0) = false := by rw [beq_eq_false_iff_ne]; omega
          have hRA := HRA.out
          unfold appendD at hRA
          rw [if_neg (fun e => hb0 (by rw [e]; rfl)), HFR.out, HPC.out] at hRA
          obtain ⟨nd, hnd⟩ : ∃ x, needP (s.length + b.length) = x := ⟨_, rfl⟩
          rw [hnd] at hRA hN
          have hndl : nd ≤ 1000000000 := by rw [← hnd]; unfold needP; omega
          have HND := Lib.hid hnd
          obtain ⟨tl, htl⟩ : ∃ x : Nat, s.length + b.length = x := ⟨_, rfl⟩
          have hwt : IntKind.i64.wrap ((s.length : Int) + (b.length : Int)) = (tl : Int) := by rw [IntWalk.i64_in _ (by omega)]; omega
          have hwd : IntKind.i64.wrap ((nd : Int) - (pc : Int)) = (nd : Int) - (pc : Int) := IntWalk.i64_in _ (by omega)
          have hG := Lib.hid (fun W => pagesOf_any tl W (by omega))
          have hnd2 : needP tl = nd := by rw [← htl, hnd]
          rw [hnd2] at hG
          have hD5 := HD.out.below (hbl.out.trans ((Below.refl _ _).drew))
          have HC := Lib.hid (count_dks g N S D n wr.drew hD5 ho2 (by omega))
          rw [HPC.out] at HC
          have HF := Lib.hid (free_dks g N S D wr.drew hD5)
          rw [HFR.out] at HF
          obtain ⟨x0, x1, x2, _⟩ := (HL.out.below hbl.out).cells
          have HL5 := Lib.hid (HL.out.below hbl.out)
          have HRA2 := Lib.hid hRA
          clear hRA hnd htl hnd2 hD5 HRA
          go_wp2_with fail
          go_region_held3 (fun W => W.cell? ⟨l, 0, none⟩ = some (.pointer (some ⟨g, 0, none⟩)) ∧ W.cell? ⟨l, 1, none⟩ = some (.string ⟨n.toArray⟩) ∧ W.cell? ⟨l, 2, none⟩ = some (.int .i64 s.length)) (first | exact ⟨x0, x1, x2⟩ | assumption) (first
            | (go_at_call 34; refine (hG.out _).mono ?_; rintro e w' ⟨rfl, rfl⟩)
            | (go_at_call 18; refine HC.out.mono ?_; rintro e w' ⟨rfl, rfl⟩)
            | (go_at_call 35; refine HF.out.mono ?_; rintro e W9 ⟨rfl, hb9⟩; have hS9 : W9.cell? ⟨l, 0, none⟩ = some (.pointer (some ⟨g, 0, none⟩)) ∧ W9.cell? ⟨l, 1, none⟩ = some (.string ⟨n.toArray⟩) ∧ W9.cell? ⟨l, 2, none⟩ = some (.int .i64 s.length) := ⟨(hb9.cell (p := ⟨l, 0, none⟩) HL5.out.lt).trans x0, (hb9.cell (p := ⟨l, 1, none⟩) HL5.out.lt).trans x1, (hb9.cell (p := ⟨l, 2, none⟩) HL5.out.lt).trans x2⟩; have HB9 := Lib.hid ((Below.refl wr.heap.size wr).drew.trans hb9); clear hb9))
          all_goals
            by_cases hful : fr < (nd : Int) - (pc : Int)
            · have hRA := HRA2.out
              rw [if_pos hful] at hRA
              have hq : DA = D ∧ ea = 7 ∧ s2 = s := by
                injection hRA with h1 h2
                have := HS2.out
                rw [← h2, if_neg (by decide)] at this
                exact ⟨h1.symm, h2.symm, this.symm⟩
              obtain ⟨rfl, rfl, rfl⟩ := hq
              clear hRA
              go_wp2_with fail
              go_ret
              exact MakesL.same HL.out HD.out (hbl.out.trans (HB9.out.mono hbl.out.size)) (by omega) hM
            · have hRA := HRA2.out
              rw [if_neg hful] at hRA
              have hbw := hbl.out.trans (HB9.out.mono hbl.out.size)
              have hle : (lastP s ++ b).length ≤ s.length + b.length := by rw [List.length_append, lastP_len]; omega
              have hnp := needP_mono hle
              rw [HND.out] at hnp
              have CP := put_l l g N M n s b A8 c8 S D W9 (HL.out.below hbw) (HD.out.below hbw) ho2 hn ((hown.out.sl.below HB9.out).more HB9.out.size) (by omega) hsl (by omega) hM
              rw [hRA, HS2.out] at CP
              have CP := Lib.hid CP
              have HBW := Lib.hid hbw
              have hful2 : (nd : Int) - (pc : Int) ≤ fr := by omega
              clear hRA hbw hful
              go_wp2_with (go_at_call 36; refine CP.out.mono ?_; intro e W10 hm; obtain rfl := hm.1; have HM := Lib.hid hm; clear hm)
              go_ret
              exact MakesL.over HBW.out HM.out

end Go.Proofs.Ytoajfnkhonegnaa.Cd

/-
  log.Open. Conditions: names that can be; files that are small enough.
-/
namespace Go.Proofs.Ytoajfnkhonegnaa.Cd
open Go.RowKit

/-- A row of texts that is none of the blocks that turned. -/
theorem OwnS.aside {T : Nat → Prop} {w w' : World} {B : Nat} {v : Value} {l : List (List UInt8)} (h : OwnS w B v l) (ha : Apart T w w') (hT : ∀ b, v.ownBlock = some b → ¬ T b) : OwnS w' B v l := by
  have hlt := h.lt
  refine ⟨h.1, ?_⟩
  rcases h.2 with h2 | ⟨g, cap, cur, rfl, hg, hh, r⟩
  · exact .inl h2
  · exact .inr ⟨g, cap, cur, rfl, hg, (ha.block g (hlt g rfl).2 (hT g rfl)).trans hh, r⟩

/-- What Open leaves. -/
def OpensL (g N : Nat) (S : Nat → Prop) (D : Dsk) (n : List UInt8) (w : World) (e : Ending) (w' : World) : Prop :=
  ∃ ds cur, Splits (logB (pagesF D.now n)) ds cur ∧
    (((trimD D n (flat ds) (logB (pagesF D.now n)).length).2 = 0 ∧ ∃ l v T, e = .returned (.tuple #[.pointer (some ⟨l, 0, none⟩), v, .int .i64 0]) ∧ OwnS w' w.heap.size v ds ∧ LogAt w' T l g n (flat ds) ∧
        DkS w' g N T (trimD D n (flat ds) (logB (pagesF D.now n)).length).1 ∧ (∀ k, T k → since S w w' k) ∧ Apart S w w' ∧ w.heap.size ≤ l ∧ (∀ b, v.ownBlock = some b → ¬ T b ∧ b ≠ l)) ∨
      ((trimD D n (flat ds) (logB (pagesF D.now n)).length).2 ≠ 0 ∧ e = .returned (.tuple #[.pointer none, .slice none 0 0, .int .i64 ((trimD D n (flat ds) (logB (pagesF D.now n)).length).2 : Nat)]) ∧
        DkS w' g N (since S w w') (trimD D n (flat ds) (logB (pagesF D.now n)).length).1 ∧ Apart S w w'))

set_option maxRecDepth 100000 in
set_option maxHeartbeats 3200000 in
theorem open_l (g N : Nat) (n : List UInt8) (S : Nat → Prop) (D : Dsk) (w : World) (hd : DkS w g N S D) (ho : D.off = false) (hn : n.length ≤ 140737488355000) (hpc : (pagesF D.now n).length ≤ 2000) (hN : N + 12 ≤ 137438953472) :
    Calls Try.prog 10 #[.pointer (some ⟨g, 0, none⟩), .string ⟨n.toArray⟩] w (OpensL g (N + 12) S D n w) := by
  have HD := Lib.hid hd
  have HW := Lib.hid (down_dks g N S D w hd)
  rw [ho] at HW
  have HR := Lib.hid (read_l g N n S D w hd ho hn (by omega))
  have hSlt := Lib.hid hd.lt
  have hbl := logB_le (pagesF D.now n)
  obtain ⟨bs, hbs⟩ : ∃ x, logB (pagesF D.now n) = x := ⟨_, rfl⟩
  rw [hbs] at HR hbl
  have HBS := Lib.hid hbs
  have hbl : bs.length ≤ 1020000 := by omega
  have hbi : (bs.length : Int) ≤ 1020000 := by omega
  clear hd hbs
  go_enter Try.func10, Try.ntmps10
  go_wp2_with (first
    | (go_at_call 26; refine HW.out.mono ?_; rintro e w0 ⟨rfl, rfl⟩)
    | (go_at_call 27; refine HR.out.mono ?_; rintro e w1 ⟨v, rfl, ho1, hb1⟩; obtain ⟨A, c, rfl, hc1, hc2⟩ := ho1.sl.len; have HO1 := Lib.hid ho1; have HB1 := Lib.hid hb1; have HSP := Lib.hid (split_any _ bs w1 ho1.sl (by omega)); clear ho1 hb1))
  refine HSP.out.mono ?_
  rintro e w2 ⟨u, ds, cur, hsp, rfl, ho2, hb2⟩
  have hlen := congrArg List.length hsp.1
  rw [List.length_append] at hlen
  obtain ⟨s, hs⟩ : ∃ x, flat ds = x := ⟨_, rfl⟩
  rw [hs]
  rw [hs] at hlen
  have hsb : s.length ≤ bs.length := by omega
  have hsc : (s.length : Int) ≤ c := by omega
  have hsi : (s.length : Int) ≤ 1020000 := by omega
  have hc3 : c ≤ 9223372036854775807 := hc2
  have hz1 := HB1.out.size
  have hz2 := hb2.size
  have hst := sl_take ((HO1.out.sl.below hb2).more hz2) s.length hsb
  have hts : bs.take s.length = s := by rw [hsp.1, hs, List.take_left]
  rw [hts] at hst
  have HS2 := Lib.hid hs
  have HSP2 := Lib.hid hsp
  obtain ⟨Au, cu, rfl, hcu1, hcu2⟩ := ho2.strs.len
  have hcu3 : cu ≤ 9223372036854775807 := hcu2
  have HO2 := Lib.hid ho2
  have HB2 := Lib.hid (HB1.out.trans (hb2.mono hz1))
  have HEN := Lib.hid (ending_any A c s w2 hst (by omega))
  clear hs hsp ho2 hb2 hst hts hlen HSP HR
  go_wp2_with fail
  refine HEN.out.mono ?_
  rintro e w2' ⟨rfl, C, cc, rfl, hsl⟩
  have HCL := Lib.hid (clone_any _ (lastP s) w2 hsl (by rw [lastP_len]; omega))
  clear hsl
  go_wp2_with fail
  refine HCL.out.mono ?_
  rintro e w3 ⟨v3, rfl, ho3, hb3⟩
  obtain ⟨A3, c3, rfl, _, _⟩ := ho3.sl.len
  have hz3 := hb3.size
  have HB3 := Lib.hid (HB2.out.trans (hb3.mono (Nat.le_trans hz1 hz2)))
  obtain ⟨w4, hw4⟩ : ∃ x, w3.alloc (.cells #[.pointer (some ⟨g, 0, none⟩), .string ⟨n.toArray⟩, .int .i64 s.length, .slice A3 (lastP s).length c3] 69) = x := ⟨_, rfl⟩
  have hl4 : LogAt w4 S w3.heap.size g n s := by
    rw [← hw4]
    refine log_new g n s _ (fun k hk => by have := hSlt.out k hk; omega) ⟨ho3.sl, fun h0 A m cx e hk => ?_⟩ (u8_own ho3)
    have h1 := (ho3.lt A.block (by rw [e]; rfl)).1
    have := hSlt.out _ hk
    omega
  have hb4 : Below w3.heap.size w3 w4 := by rw [← hw4]; exact (Below.refl _ _).alloc (Nat.le_refl _) _
  have hz4 : w4.heap.size = w3.heap.size + 1 := by rw [← hw4]; simp
  have HB4 := Lib.hid (HB3.out.trans (hb4.mono (by omega)))
  have CT := Lib.hid (trim_l w3.heap.size g N n s S D w4 bs.length hl4 (HD.out.below HB4.out) ho hn hN (by omega) (by omega) (by omega))
  have HL4 := Lib.hid hl4
  have HO4 := Lib.hid (HO2.out.keep (hb3.trans (hb4.mono hz3)))
  obtain ⟨l, hl⟩ : ∃ x, w3.heap.size = x := ⟨_, rfl⟩
  rw [hl] at CT HL4
  obtain ⟨R, hR⟩ : ∃ R, trimD D n s bs.length = R := ⟨_, rfl⟩
  obtain ⟨D5, e5⟩ := R
  rw [hR] at CT
  have HRT := Lib.hid hR
  have hlw : w0.heap.size ≤ l := by omega
  have HZ4 := Lib.hid (show w4.heap.size = l + 1 by omega)
  clear ho3 hb3 hl4 hb4 HO1 hR hz4
  go_wp2_with fail
  refine CT.out.mono ?_
  rintro e w5 hm
  obtain rfl := hm.1
  have HM := Lib.hid hm
  clear hm
  have hz0 := HB1.out.size
  have hbig : ∀ k, since S w4 w5 k → since S w0 w5 k := fun k hk => by
    rcases hk with hk | hk
    · exact .inl hk
    · exact .inr ⟨by have := HZ4.out; omega, hk.2⟩
  have hap : Apart S w0 w5 := ⟨HM.out.2.2.os.trans HB4.out.os, HM.out.2.2.tape.trans HB4.out.tape, HM.out.2.2.output.trans HB4.out.output, Nat.le_trans HB4.out.size HM.out.2.2.size, fun k hk hn => (HM.out.2.2.block k (Nat.lt_of_lt_of_le hk HB4.out.size) hn).trans (HB4.out.block k hk)⟩
  have HBIG := Lib.hid hbig
  have HAP := Lib.hid hap
  clear hbig hap
  by_cases hz : e5 = 0
  · subst hz
    go_wp2_with fail
    go_ret3
    refine ⟨ds, cur, by rw [HBS.out]; exact HSP2.out, .inl ?_⟩
    rw [HBS.out, HS2.out, HRT.out]
    have hot : ∀ b, (Value.slice Au ds.length cu).ownBlock = some b → ¬ S b ∧ b < l := fun b hb => by
      have h1 := (HO2.out.lt b hb)
      exact ⟨fun h2 => by have := hSlt.out b h2; omega, by omega⟩
    refine ⟨rfl, l, _, since S w4 w5, rfl, (HO4.out.aside HM.out.2.2 (fun b hb => (hot b hb).1)).lower (by omega), HL4.out.apart HM.out.2.2, HM.out.2.1, HBIG.out, HAP.out, hlw, fun b hb => ⟨fun h2 => ?_, by have := (hot b hb).2; omega⟩⟩
    rcases h2 with h2 | h2
    · exact (hot b hb).1 h2
    · have := (hot b hb).2; have := HZ4.out; omega
  · have hzi : (e5 : Int) ≠ 0 := by omega
    go_wp2_with fail
    go_ret3
    refine ⟨ds, cur, by rw [HBS.out]; exact HSP2.out, .inr ?_⟩
    rw [HBS.out, HS2.out, HRT.out]
    refine ⟨hz, rfl, HM.out.2.1.more HBIG.out (fun k hk => ?_), HAP.out⟩
    rcases hk with hk | hk
    · exact HM.out.2.1.lt k (.inl hk)
    · exact hk.2

end Go.Proofs.Ytoajfnkhonegnaa.Cd

/-
  More than is played? Conditions: none.
-/
namespace Go.Proofs.Ytoajfnkhonegnaa.Cd
open Go.RowKit

/-- How many bytes texts have. -/
def bytesT (l : List (List UInt8)) : Nat := (l.map List.length).sum
theorem bytesT_snoc {l : List (List UInt8)} {k : Nat} {s : List UInt8} (h : l[k]? = some s) : bytesT (l.take (k + 1)) = bytesT (l.take k) + s.length := by
  obtain ⟨hk, rfl⟩ := List.getElem?_eq_some_iff.1 h
  unfold bytesT
  rw [List.take_succ_eq_append_getElem hk, List.map_append, List.sum_append]
  simp
/-- How many bytes calls have. -/
def bytesC (l : List Cal) : Nat := (l.map fun p => p.b.length + bytesT p.list).sum
theorem bytesC_snoc {l : List Cal} {k : Nat} {p : Cal} (h : l[k]? = some p) : bytesC (l.take (k + 1)) = bytesC (l.take k) + (p.b.length + bytesT p.list) := by
  obtain ⟨hk, rfl⟩ := List.getElem?_eq_some_iff.1 h
  unfold bytesC
  rw [List.take_succ_eq_append_getElem hk, List.map_append, List.sum_append]
  simp
def Small9 (l : List Cal) : Prop := l.length ≤ 40 ∧ bytesC l ≤ 8192 ∧ ∀ p ∈ l, p.list.length ≤ 20
def Small9To (l : List Cal) (k : Nat) : Prop := ∀ (j : Nat) p, j < k → l[j]? = some p → p.list.length ≤ 20

def Great9 (l : List Cal) (w : World) (e : Ending) (w' : World) : Prop := ∃ g : Bool, e = .returned (.bool g) ∧ Below w.heap.size w w' ∧ (g = false → Small9 l)

set_option maxRecDepth 100000 in
set_option maxHeartbeats 3200000 in
theorem great9_few (v : Value) (l : List Cal) (w : World) (h : Cals w w.heap.size v l) (hok : ∀ p ∈ l, p.Ok) (h40 : l.length ≤ 40) :
    Calls Try.prog 8 #[v] w (Great9 l w) := by
  obtain ⟨A, c, rfl, hm1, hm, _, hp⟩ := h
  have HP := Lib.hid hp
  have HO := Lib.hid hok
  clear hp hok
  have hm2 : c ≤ 9223372036854775807 := hm
  clear hm
  go_enter Try.func8, Try.ntmps8
  go_wp2
  go_loopw [3, 10] (fun n i wr => ∃ (k m : Nat), i = .int .i64 k ∧ k ≤ l.length ∧ n = .int .i64 m ∧ m ≤ k * 140737488351232 + 8192 ∧ Hid (bytesC (l.take k) = m) ∧ Hid (Small9To l k) ∧ Below w.heap.size w wr) (fun _ i _ => l.length - (intOf i).toNat)
  case atStart => exact ⟨0, 0, rfl, by omega, rfl, by omega, rfl, (fun j p hj => by omega), Below.refl _ _⟩
  case round =>
    obtain ⟨k, m, rfl, hk, rfl, hm, hbc, hst, hb⟩ := hrel
    have hmb : m ≤ 5629499534057472 := by omega
    by_cases hlt : k < l.length
    · obtain ⟨b, off, rfl, hB, hc⟩ := HP.out (by omega)
      obtain ⟨p, hpk⟩ : ∃ p, l[k]? = some p := ⟨l[k], List.getElem?_eq_getElem hlt⟩
      obtain ⟨u, y, hsl, hsy, hcu⟩ := hc k p hpk
      have hpg : Strs w w.heap.size u p.list := hsl
      obtain ⟨Au, cu, rfl, hcu1, hcu2⟩ := hsl.len
      obtain ⟨Ay, cy, rfl, hcy1, hcy2⟩ := hsy.len
      have hcell : ∀ (j : Nat) x, (p.cells (.slice Au p.list.length cu) (.slice Ay p.b.length cy))[j]? = some x → wr.cell? ⟨b, off + k * 5 + j, none⟩ = some x := fun j x hx => (hb.cell (p := ⟨b, off + k * 5 + j, none⟩) hB).trans (hcu j x hx)
      have c0 : wr.cell? ⟨b, off + k * 5, none⟩ = some (.int .i64 p.kind) := hcell 0 _ rfl
      have c1 := hcell 1 _ rfl
      have c2 := hcell 2 _ rfl
      have c3 := hcell 3 _ rfl
      have c4 := hcell 4 _ rfl
      have ok := HO.out p (List.mem_of_getElem? hpk)
      have hbl := ok.b
      have hcu2 : cu ≤ 9223372036854775807 := hcu2
      have hcy2 : cy ≤ 9223372036854775807 := hcy2
      have HOK := Lib.hid ok.list
      have HPG := Lib.hid hpg
      have HPK := Lib.hid hpk
      have HSN := Lib.hid (bytesC_snoc hpk)
      have hwz := hb.size
      clear hc hcell hcu hsl hsy hpg hpk ok
      have hb1 : Below w.heap.size w (wr.alloc (.cells #[.int .i64 p.kind, .slice Au p.list.length cu, .int .i64 p.n, .int .u64 p.k, .slice Ay p.b.length cy] 29)) := hb.alloc hb.size _
      by_cases h20 : 20 < p.list.length
      · go_wp2
        go_ret
        exact ⟨true, rfl, hb1, fun h => by cases h⟩
      · have h20' : (p.list.length : Int) ≤ 20 := by omega
        go_wp2
        obtain ⟨w1, hw1⟩ : ∃ x, wr.alloc (.cells #[.int .i64 p.kind, .slice Au p.list.length cu, .int .i64 p.n, .int .u64 p.k, .slice Ay p.b.length cy] 29) = x := ⟨_, rfl⟩
        rw [hw1] at hb1 ⊢
        clear hw1
        go_loopw [3, 26] (fun n i wr => ∃ (j t : Nat), i = .int .i64 j ∧ j ≤ p.list.length ∧ n = .int .i64 t ∧ t ≤ k * 140737488351232 + 8192 + 140737488351232 ∧ Hid (m + p.b.length + bytesT (p.list.take j) = t) ∧ Below w.heap.size w wr) (fun _ i _ => p.list.length - (intOf i).toNat)
        case atStart => exact ⟨0, m + p.b.length, rfl, by omega, by go_num, by omega, (by simp [Hid, bytesT]), hb1⟩
        case round =>
          obtain ⟨j, t, rfl, hj, rfl, ht, hbt, hb2⟩ := hrel
          have htb : t ≤ 5770237022408704 := by omega
          by_cases hjl : j < p.list.length
          · obtain ⟨q, hqe⟩ : ∃ x, p.list[j] = x := ⟨_, rfl⟩
            have hqk : p.list[j]? = some q := by rw [List.getElem?_eq_getElem hjl, hqe]
            obtain ⟨b2, off2, c2', e2, _, _, hB2, hat⟩ := (HPG.out.below hb2).at (by omega)
            injection e2 with e2 _ e3
            subst e2 e3
            have d0 := hat j hjl
            rw [hqe] at d0
            have hql : q.length ≤ 140737488351232 := HOK.out q (List.mem_of_getElem? hqk)
            have hsn := Lib.hid (bytesT_snoc hqk)
            clear hat hqk hqe
            by_cases hov : 8192 < t + q.length
            · go_wp2
              go_ret
              exact ⟨true, rfl, hb2, fun h => by cases h⟩
            · go_wp2
              go_roundw
              case rel => exact ⟨j + 1, t + q.length, by go_num, by omega, by go_num, by omega, by have := hbt.out; unfold Hid; rw [hsn.out]; omega, hb2⟩
              case measure => simp [intOf]; omega
          · have hbl2 : Hid (m + p.b.length + bytesT p.list = t) := by have := hbt.out; rw [List.take_of_length_le (by omega)] at this; exact this
            clear hbt
            go_wp2
            go_roundw
            case rel =>
              refine ⟨k + 1, t, by go_num, by omega, rfl, by omega, ?_, fun i q hi hq => ?_, hb2⟩
              · unfold Hid
                have := hbl2.out
                rw [HSN.out, hbc.out]
                omega
              · by_cases e : i = k
                · subst e
                  rw [HPK.out] at hq
                  injection hq with hq
                  rw [← hq]
                  omega
                · exact hst.out i q (by omega) hq
            case measure => simp [intOf]; omega
    · have hall : Hid (bytesC l = m ∧ ∀ p ∈ l, p.list.length ≤ 20) := ⟨by have := hbc.out; rw [List.take_of_length_le (by omega)] at this; exact this, fun p hp => by
        obtain ⟨i, hi, rfl⟩ := List.getElem_of_mem hp
        exact hst.out i _ (by omega) (List.getElem?_eq_getElem hi)⟩
      clear hst hbc
      by_cases hov : 8192 < m
      · go_wp2
        go_ret
        exact ⟨true, rfl, hb, fun h => by cases h⟩
      · have hov2 : (m : Int) ≤ 8192 := by omega
        have hl40 : (l.length : Int) ≤ 40 := by omega
        go_wp2
        go_ret
        refine ⟨(decide ((8192 : Int) < m) || decide ((40 : Int) < l.length)), rfl, hb, fun _ => ⟨h40, by rw [hall.out.1]; omega, hall.out.2⟩⟩

set_option maxRecDepth 100000 in
set_option maxHeartbeats 3200000 in
theorem great9_many (v : Value) (l : List Cal) (w : World) (h : Cals w w.heap.size v l) (h40 : 40 < l.length) :
    Calls Try.prog 8 #[v] w fun e w' => e = .returned (.bool true) ∧ Below w.heap.size w w' := by
  obtain ⟨A, c, rfl, hm1, hm, _, hp⟩ := h
  have HP := Lib.hid hp
  clear hp
  have hm2 : c ≤ 9223372036854775807 := hm
  have h40i : (40 : Int) < l.length := by omega
  clear hm
  go_enter Try.func8, Try.ntmps8
  go_wp2
  go_loopw [3, 10] (fun n i wr => ∃ (k : Nat) (m : Int), i = .int .i64 k ∧ k ≤ l.length ∧ n = .int .i64 m ∧ Below w.heap.size w wr) (fun _ i _ => l.length - (intOf i).toNat)
  case atStart => exact ⟨0, 0, rfl, by omega, rfl, Below.refl _ _⟩
  case round =>
    obtain ⟨k, m, rfl, hk, rfl, hb⟩ := hrel
    by_cases hlt : k < l.length
    · obtain ⟨b, off, rfl, hB, hc⟩ := HP.out (by omega)
      obtain ⟨p, hpk⟩ : ∃ p, l[k]? = some p := ⟨l[k], List.getElem?_eq_getElem hlt⟩
      obtain ⟨u, y, hsl, hsy, hcu⟩ := hc k p hpk
      have hpg : Strs w w.heap.size u p.list := hsl
      obtain ⟨Au, cu, rfl, hcu1, hcu2⟩ := hsl.len
      obtain ⟨Ay, cy, rfl, hcy1, hcy2⟩ := hsy.len
      have hcell : ∀ (j : Nat) x, (p.cells (.slice Au p.list.length cu) (.slice Ay p.b.length cy))[j]? = some x → wr.cell? ⟨b, off + k * 5 + j, none⟩ = some x := fun j x hx => (hb.cell (p := ⟨b, off + k * 5 + j, none⟩) hB).trans (hcu j x hx)
      have c0 : wr.cell? ⟨b, off + k * 5, none⟩ = some (.int .i64 p.kind) := hcell 0 _ rfl
      have c1 := hcell 1 _ rfl
      have c2 := hcell 2 _ rfl
      have c3 := hcell 3 _ rfl
      have c4 := hcell 4 _ rfl
      have hcu2 : cu ≤ 9223372036854775807 := hcu2
      have hcy2 : cy ≤ 9223372036854775807 := hcy2
      have HPG := Lib.hid hpg
      have hwz := hb.size
      clear hc hcell hcu hsl hsy hpg hpk
      have hb1 : Below w.heap.size w (wr.alloc (.cells #[.int .i64 p.kind, .slice Au p.list.length cu, .int .i64 p.n, .int .u64 p.k, .slice Ay p.b.length cy] 29)) := hb.alloc hb.size _
      by_cases h20 : 20 < p.list.length
      · go_wp2
        go_ret
        exact ⟨rfl, hb1⟩
      · have h20' : (p.list.length : Int) ≤ 20 := by omega
        go_wp2
        obtain ⟨w1, hw1⟩ : ∃ x, wr.alloc (.cells #[.int .i64 p.kind, .slice Au p.list.length cu, .int .i64 p.n, .int .u64 p.k, .slice Ay p.b.length cy] 29) = x := ⟨_, rfl⟩
        rw [hw1] at hb1 ⊢
        clear hw1
        go_loopw [3, 26] (fun n i wr => ∃ (j : Nat) (t : Int), i = .int .i64 j ∧ j ≤ p.list.length ∧ n = .int .i64 t ∧ Below w.heap.size w wr) (fun _ i _ => p.list.length - (intOf i).toNat)
        case atStart => exact ⟨0, _, rfl, by omega, rfl, hb1⟩
        case round =>
          obtain ⟨j, t, rfl, hj, rfl, hb2⟩ := hrel
          by_cases hjl : j < p.list.length
          · obtain ⟨b2, off2, c2', e2, _, _, hB2, hat⟩ := (HPG.out.below hb2).at (by omega)
            injection e2 with e2 _ e3
            subst e2 e3
            have d0 := hat j hjl
            obtain ⟨q, hqe⟩ : ∃ x, p.list[j] = x := ⟨_, rfl⟩
            rw [hqe] at d0
            clear hat hqe
            go_wp2
            · go_ret
              exact ⟨rfl, hb2⟩
            · go_roundw
              case rel => exact ⟨j + 1, _, by go_num, by omega, rfl, hb2⟩
              case measure => simp [intOf]; omega
          · go_wp2
            go_roundw
            case rel => exact ⟨k + 1, _, by go_num, by omega, rfl, hb2⟩
            case measure => simp [intOf]; omega
    · go_wp2
      all_goals go_ret
      all_goals exact ⟨rfl, hb⟩

theorem great9_any (v : Value) (l : List Cal) (w : World) (h : Cals w w.heap.size v l) (hok : ∀ p ∈ l, p.Ok) :
    Calls Try.prog 8 #[v] w (Great9 l w) := by
  by_cases h40 : l.length ≤ 40
  · exact great9_few v l w h hok h40
  · exact (great9_many v l w h (by omega)).mono fun e w' h => ⟨true, h.1, h.2, fun h => by cases h⟩

end Go.Proofs.Ytoajfnkhonegnaa.Cd

/-
  A log and its disk between two calls, with the power on and no end of it in sight. Conditions: none.
-/
namespace Go.Proofs.Ytoajfnkhonegnaa.Cd
open Go.RowKit

/-- Since w: the log at l of the file n on the disk at g; the disk has room for so many pages, and k are there. -/
structure Calm (w : World) (l g N room k : Nat) (n s : List UInt8) (D : Dsk) (T : Nat → Prop) (W : World) : Prop where
  disk : DkS W g N T D
  log : LogAt W T l g n s
  low : ∀ j, T j → w.heap.size ≤ j
  lowl : w.heap.size ≤ l
  below : Below w.heap.size w W
  lay : Lay (pagesF D.now n) s
  roomy : Roomy D room k
  fits : k ≤ room

section
variable {w W W' : World} {l g N M room k : Nat} {n s b : List UInt8} {D : Dsk} {T : Nat → Prop} {v : Value} {e : Ending}
theorem Calm.over (h : Calm w l g N room k n s D T W) (hb : Below W.heap.size W W') : Calm w l g N room k n s D T W' :=
  ⟨h.disk.below hb, h.log.below hb, h.low, h.lowl, h.below.trans (hb.mono h.below.size), h.lay, h.roomy, h.fits⟩
theorem Calm.grow (h : Calm w l g N room k n s D T W) (hN : N ≤ M) (hM : M ≤ 137438953472) : Calm w l g M room k n s D T W :=
  ⟨h.disk.mono hN hM, h.log, h.low, h.lowl, h.below, h.lay, h.roomy, h.fits⟩
theorem Calm.count (h : Calm w l g N room k n s D T W) : (pagesF D.now n).length ≤ k := by
  have h1 := count_without h.roomy.once n
  have h2 := h.roomy.count
  omega

/-- What MakesL leaves that is no other disk than this. -/
theorem Calm.made {s' : List UInt8} {D' : Dsk} {k' : Nat} (h : Calm w l g N room k n s D T W) (hm : MakesL g M T D' v l n s' W e W') (hl : Lay (pagesF D'.now n) s') (hr : Roomy D' room k') (hk : k' ≤ room) :
    ∃ T', Calm w l g M room k' n s' D' T' W' ∧ Apart (plus T l) W W' ∧ ∀ j, T' j → since T W W' j := by
  obtain ⟨_, T', m1, m2, m3, m4⟩ := hm
  have hlow : ∀ j, plus T l j → w.heap.size ≤ j := fun j hj => by
    rcases hj with hj | hj
    · exact h.low j hj
    · rw [hj]; exact h.lowl
  refine ⟨T', ⟨m1, m2, fun j hj => ?_, h.lowl, h.below.trans (m4.low h.below.size hlow), hl, hr, hk⟩, m4, m3⟩
  rcases m3 j hj with h1 | h1
  · exact h.low j h1
  · have := h.below.size; omega

theorem appendA_on (h : D.off = false) (n s b : List UInt8) : appendA D n s b = appendD D n s b := by unfold appendA; rw [if_neg (by rw [h]; simp)]

/-- Behind an Append: it has no room, and nothing is turned; or it is done. -/
theorem Calm.append (h : Calm w l g N room k n s D T W) (hm : MakesL g M T (appendA D n s b).1 v l n (if (appendA D n s b).2 = 0 then s ++ b else s) W e W') :
    (room < k + (needP (s.length + b.length) - needP s.length) ∧ (appendA D n s b).2 = 7 ∧ (appendA D n s b).1 = D ∧ ∃ T', Calm w l g M room k n s D T' W' ∧ Apart (plus T l) W W' ∧ ∀ j, T' j → since T W W' j) ∨
      (k + (needP (s.length + b.length) - needP s.length) ≤ room ∧ (appendA D n s b).2 = 0 ∧ (∀ m, pagesF (appendA D n s b).1.now m = if m = n then grows (pagesF D.now n) s b else pagesF D.now m) ∧ (∀ m, m ≠ n → (getF (appendA D n s b).1.now m).isSome = (getF D.now m).isSome) ∧
        ∃ T', Calm w l g M room (k + (needP (s.length + b.length) - needP s.length)) n (s ++ b) (appendA D n s b).1 T' W' ∧ Apart (plus T l) W W' ∧ ∀ j, T' j → since T W W' j) := by
  have ha := appendA_on h.roomy.off n s b
  rw [ha] at hm ⊢
  rcases h.roomy.appendL h.lay h.fits b with ⟨h1, h2⟩ | ⟨h1, h2, h3, h4, h5⟩
  · rw [h2] at hm ⊢
    rw [if_neg (fun e : (D, 7).2 = 0 => by cases e)] at hm
    exact .inl ⟨h1, rfl, rfl, h.made hm h.lay h.roomy h.fits⟩
  · rw [if_pos h2] at hm
    refine .inr ⟨h1, h2, h4, h5, h.made hm ?_ h3 h1⟩
    rw [h4, if_pos rfl]
    exact lay_grows h.lay b

theorem append_roomy (h : Calm w l g N room k n s D T W) (hr : room ≤ 4096) : -1000000000 ≤ freeD D ∧ freeD D ≤ 1000000000 := by
  have := h.roomy.free
  have := h.fits
  omega

/-- Behind a Sync. -/
theorem Calm.sync (h : Calm w l g N room k n s D T W) (hm : MakesD g M T (syncD D n).1 v W e W') :
    unless5 (syncD D n).2 = 0 ∧ (0 < s.length → pagesF (syncD D n).1.safe n = pagesF D.now n ∧ ∀ w ∈ (syncD D n).1.waits, w.name ≠ n) ∧ (syncD D n).1.now = D.now ∧ Calm w l g M room k n s (syncD D n).1 (since T W W') W' := by
  obtain ⟨a1, a2, a3, a4⟩ := h.roomy.syncL h.lay
  obtain ⟨_, m1, m2⟩ := hm
  refine ⟨a1, a4, a3, ⟨m1, h.log.apart m2, fun j hj => ?_, h.lowl, h.below.trans (m2.low h.below.size h.low), by rw [a3]; exact h.lay, a2, h.fits⟩⟩
  rcases hj with hj | hj
  · exact h.low j hj
  · have := h.below.size; omega
end

/-- Open of pages as they were laid. -/
def OpensLay (g N : Nat) (S : Nat → Prop) (D : Dsk) (n : List UInt8) (list : List (List UInt8)) (w : World) (e : Ending) (w' : World) : Prop :=
  ∃ l v T, e = .returned (.tuple #[.pointer (some ⟨l, 0, none⟩), v, .int .i64 0]) ∧ OwnS w' w.heap.size v list ∧ LogAt w' T l g n (flat list) ∧ DkS w' g N T D ∧ (∀ k, T k → since S w w' k) ∧ Apart S w w' ∧ w.heap.size ≤ l ∧ (∀ b, v.ownBlock = some b → ¬ T b ∧ b ≠ l)

theorem open_lay (g N : Nat) (n : List UInt8) (list : List (List UInt8)) (S : Nat → Prop) (D : Dsk) (w : World) (hd : DkS w g N S D) (ho : D.off = false) (hn : n.length ≤ 140737488355000) (hpc : (pagesF D.now n).length ≤ 2000) (hN : N + 12 ≤ 137438953472)
    (hl : Lay (pagesF D.now n) (flat list)) : Calls Try.prog 10 #[.pointer (some ⟨g, 0, none⟩), .string ⟨n.toArray⟩] w (OpensLay g (N + 12) S D n list w) := by
  refine (open_l g N n S D w hd ho hn hpc hN).mono ?_
  rintro e w' ⟨ds, cur, hs, h⟩
  have hle := logB_le (pagesF D.now n)
  have h1 : logB (pagesF D.now n) = flat list := hl.1
  rw [h1] at hs hle
  obtain ⟨rfl, rfl⟩ := splits_uniq (by omega) hs (splits_all list)
  have ht := trim_lay hl
  rw [h1, ht] at h
  rcases h with ⟨_, l, v, T, h⟩ | ⟨h, _⟩
  · exact ⟨l, v, T, h⟩
  · exact absurd rfl h

/-- A log that was opened on a disk of the call's own. -/
theorem OpensLay.calm {w W W' : World} {g N room k : Nat} {S : Nat → Prop} {D : Dsk} {n : List UInt8} {list : List (List UInt8)} {e : Ending} (h : OpensLay g N S D n list W e W') (hS : ∀ j, S j → w.heap.size ≤ j) (hb : Below w.heap.size w W) (hl : Lay (pagesF D.now n) (flat list)) (hr : Roomy D room k) (hk : k ≤ room) :
    ∃ l v T, e = .returned (.tuple #[.pointer (some ⟨l, 0, none⟩), v, .int .i64 0]) ∧ OwnS W' W.heap.size v list ∧ Calm w l g N room k n (flat list) D T W' ∧ Apart S W W' ∧ (∀ j, T j → since S W W' j) ∧ W.heap.size ≤ l ∧ (∀ b, v.ownBlock = some b → ¬ T b ∧ b ≠ l) := by
  obtain ⟨l, v, T, h1, h2, h3, h4, h5, h6, h7, h8⟩ := h
  refine ⟨l, v, T, h1, h2, ⟨h4, h3, fun j hj => ?_, Nat.le_trans hb.size h7, hb.trans (h6.low hb.size hS), hl, hr, hk⟩, h6, h5, h7, h8⟩
  rcases h5 j hj with h9 | h9
  · exact hS j h9
  · have := hb.size; omega

/-- An Append that is done. -/
def AppOk (w : World) (l g M room k : Nat) (n s b : List UInt8) (D : Dsk) (T : Nat → Prop) (W : World) (e : Ending) (W' : World) : Prop :=
  e = .returned (.int .i64 0) ∧ (appendD D n s b).2 = 0 ∧ (∀ m, pagesF (appendD D n s b).1.now m = if m = n then grows (pagesF D.now n) s b else pagesF D.now m) ∧ (∀ m, m ≠ n → (getF (appendD D n s b).1.now m).isSome = (getF D.now m).isSome) ∧
    ∃ T', Calm w l g M room (k + (needP (s.length + b.length) - needP s.length)) n (s ++ b) (appendD D n s b).1 T' W' ∧ Apart (plus T l) W W' ∧ ∀ j, T' j → since T W W' j
/-- One that is refused. -/
def AppNo (w : World) (l g M room k : Nat) (n s : List UInt8) (D : Dsk) (T : Nat → Prop) (W : World) (e : Ending) (W' : World) : Prop :=
  e = .returned (.int .i64 7) ∧ ∃ T', Calm w l g M room k n s D T' W' ∧ Apart (plus T l) W W' ∧ ∀ j, T' j → since T W W' j

section
variable {w W : World} {l g N room k : Nat} {n s : List UInt8} {D : Dsk} {T : Nat → Prop}
theorem append_ok (M : Nat) (h : Calm w l g N room k n s D T W) (v : Value) (list : List (List UInt8)) (hv : Strs W W.heap.size v list) (hn : n.length ≤ 140737488355000) (hr : room ≤ 4096) (hsl : s.length + (flat list).length ≤ 1000000) (hN : N + 10000 ≤ M) (hM : M ≤ 137438953472)
    (hk : k + (needP (s.length + (flat list).length) - needP s.length) ≤ room) : Calls Try.prog 12 #[.pointer (some ⟨l, 0, none⟩), v] W (AppOk w l g M room k n s (flat list) D T W) := by
  have hc := h.count
  have hf := h.fits
  have hfr := append_roomy h hr
  have hnd : needP (s.length + (flat list).length) ≤ 2000 := by unfold needP; omega
  refine (append_l l g N M n s v list T D W h.log h.disk hn hv (by omega) (by omega) hfr (by omega) hM).mono ?_
  intro e W' hm
  have he := hm.1
  have ha := appendA_on h.roomy.off n s (flat list)
  rcases h.append hm with ⟨h1, _⟩ | ⟨_, h2, h3, h4, h5⟩
  · omega
  · rw [h2] at he
    rw [ha] at h2 h3 h4 h5
    exact ⟨he, h2, h3, h4, h5⟩
theorem append_no (M : Nat) (h : Calm w l g N room k n s D T W) (v : Value) (list : List (List UInt8)) (hv : Strs W W.heap.size v list) (hn : n.length ≤ 140737488355000) (hr : room ≤ 4096) (hsl : s.length + (flat list).length ≤ 1000000) (hN : N + 10000 ≤ M) (hM : M ≤ 137438953472)
    (hk : room < k + (needP (s.length + (flat list).length) - needP s.length)) : Calls Try.prog 12 #[.pointer (some ⟨l, 0, none⟩), v] W (AppNo w l g M room k n s D T W) := by
  have hc := h.count
  have hf := h.fits
  have hfr := append_roomy h hr
  have hnd : needP (s.length + (flat list).length) ≤ 2000 := by unfold needP; omega
  refine (append_l l g N M n s v list T D W h.log h.disk hn hv (by omega) (by omega) hfr (by omega) hM).mono ?_
  intro e W' hm
  have he := hm.1
  rcases h.append hm with ⟨_, h2, _, h4⟩ | ⟨h1, _⟩
  · rw [h2] at he
    exact ⟨he, h4⟩
  · omega

/-- A Sync that is done. -/
def SyncOk (w : World) (l g M room k : Nat) (n s : List UInt8) (D : Dsk) (T : Nat → Prop) (W : World) (e : Ending) (W' : World) : Prop :=
  e = .returned (.int .i64 0) ∧ (0 < s.length → pagesF (syncD D n).1.safe n = pagesF D.now n ∧ ∀ w ∈ (syncD D n).1.waits, w.name ≠ n) ∧ (syncD D n).1.now = D.now ∧ Calm w l g M room k n s (syncD D n).1 (since T W W') W' ∧ Apart T W W'
theorem lsync_ok (h : Calm w l g N room k n s D T W) (hn : n.length ≤ 140737488355000) (hN : N + 4 ≤ 137438953472) : Calls Try.prog 13 #[.pointer (some ⟨l, 0, none⟩)] W (SyncOk w l g (N + 4) room k n s D T W) := by
  refine (sync_l l g N n s T D W h.log h.disk hn hN).mono ?_
  intro e W' hm
  obtain ⟨a1, a2, a3, a4⟩ := h.sync hm
  have he := hm.1
  rw [a1] at he
  exact ⟨he, a2, a3, a4, hm.2.2⟩
end

/-- A disk of the call's own. -/
structure Dry (w : World) (g N : Nat) (D : Dsk) (T : Nat → Prop) (W : World) : Prop where
  disk : DkS W g N T D
  low : ∀ j, T j → w.heap.size ≤ j
  below : Below w.heap.size w W
theorem Calm.dry {w W : World} {l g N room k : Nat} {n s : List UInt8} {D : Dsk} {T : Nat → Prop} (h : Calm w l g N room k n s D T W) : Dry w g N D T W := ⟨h.disk, h.low, h.below⟩
theorem Dry.over {w W W' : World} {g N : Nat} {D : Dsk} {T : Nat → Prop} (h : Dry w g N D T W) (hb : Below W.heap.size W W') : Dry w g N D T W' := ⟨h.disk.below hb, h.low, h.below.trans (hb.mono h.below.size)⟩
theorem Dry.made {w W W' : World} {g N M : Nat} {D D' : Dsk} {T : Nat → Prop} {v : Value} {e : Ending} (h : Dry w g N D T W) (hm : MakesD g M T D' v W e W') : Dry w g M D' (since T W W') W' := by
  obtain ⟨_, m1, m2⟩ := hm
  refine ⟨m1, fun j hj => ?_, h.below.trans (m2.low h.below.size h.low)⟩
  rcases hj with hj | hj
  · exact h.low j hj
  · have := h.below.size; omega

theorem one_strs (W : World) (a : List UInt8) (T : TypeId) : Strs (W.alloc (.cells #[.string ⟨a.toArray⟩] T)) (W.heap.size + 1) (.slice (some ⟨W.heap.size, 0, none⟩) 1 1) [a] := strs_one W a T
theorem two_strs (W : World) (a b : List UInt8) (T : TypeId) : Strs (W.alloc (.cells #[.string ⟨a.toArray⟩, .string ⟨b.toArray⟩] T)) (W.heap.size + 1) (.slice (some ⟨W.heap.size, 0, none⟩) 2 2) [a, b] := by
  refine ⟨some ⟨W.heap.size, 0, none⟩, 2, rfl, Nat.le_refl _, by simp [maxLen], (fun h => by cases h), fun _ => ⟨W.heap.size, 0, rfl, by omega, fun j u hu => ?_⟩⟩
  rw [cell_of_row _ _ (0 + j) _ _ _ (heap_alloc_new W _), Nat.zero_add, List.getElem?_toArray]
  exact hu

end Go.Proofs.Ytoajfnkhonegnaa.Cd

/-
  What the document tells of a log. Conditions: none.
-/
namespace Go.Proofs.Ytoajfnkhonegnaa.Cd
open Go.RowKit

theorem flat_small (l : List (List UInt8)) (h : ∀ x ∈ l, x.length ≤ 1) (hn : l.length ≤ 2) : (flat l).length ≤ 30 := by
  match l, hn with
  | [], _ => simp [flat]
  | [x], _ => have := frm_le x (by have := h x (by simp); omega); have := h x (by simp); rw [flat_one]; omega
  | [x, y], _ => have := frm_le x (by have := h x (by simp); omega); have := frm_le y (by have := h y (by simp); omega); have := h x (by simp); have := h y (by simp); rw [flat_cons, flat_one, List.length_append]; omega

set_option maxRecDepth 100000 in
set_option maxHeartbeats 3200000 in
theorem lalive_any (w : World) : Calls Try.prog 7 #[] w (Gives (.bool true) w) := by
  go_enter Try.func7, Try.ntmps7
  go_wp2_with fail
  refine (new_dks 9 w (by omega) (by omega)).mono ?_
  rintro e w1 ⟨g, S, rfl, hd, hS, hb1⟩
  have HD := Lib.hid hd
  have HS := Lib.hid hS
  have HB1 := Lib.hid hb1
  clear hd hS hb1
  go_wp2_with fail
  refine (open_lay g 0 [108] [] S (newD 9) w1 HD.out rfl (by simp) (by simp [newD, pagesF, getF]) (by omega) lay_nil).mono ?_
  intro e w2 ho2
  obtain ⟨l, v, T, rfl, _, hc2, _, _, _, _⟩ := ho2.calm (k := 0) (room := 9) HS.out HB1.out lay_nil (new_roomy (room := 9) (by omega)) (by omega)
  have HC2 := Lib.hid hc2
  clear ho2 hc2 HD HS HB1
  obtain ⟨f1, hf1⟩ : ∃ x, flat [[97], [98]] = x := ⟨_, rfl⟩
  obtain ⟨f2, hf2⟩ : ∃ x, flat [[99]] = x := ⟨_, rfl⟩
  have hl1 : f1.length ≤ 30 := by rw [← hf1]; exact flat_small _ (by simp) (by simp)
  have hl2 : f2.length ≤ 30 := by rw [← hf2]; exact flat_small _ (by simp) (by simp)
  have hp1 : 10 ≤ f1.length := by rw [← hf1]; exact flat_ge [[97], [98]]
  have HF1 := Lib.hid hf1
  have HF2 := Lib.hid hf2
  clear hf1 hf2
  have hnd1 : needP (([] : List UInt8).length + f1.length) - needP ([] : List UInt8).length ≤ 1 := by simp only [List.length_nil]; unfold needP; omega
  have hnd2 : needP (f1.length + f2.length) - needP f1.length ≤ 1 := by unfold needP; omega
  go_wp2_with fail
  obtain ⟨w3, hw3⟩ : ∃ x, w2.alloc (.cells #[.string ⟨#[97]⟩, .string ⟨#[98]⟩] 9) = x := ⟨_, rfl⟩
  have hs3 : Strs w3 w3.heap.size (.slice (some ⟨w2.heap.size, 0, none⟩) 2 2) [[97], [98]] := by
    have := two_strs w2 [97] [98] 9
    rw [← hw3, asz]
    exact this
  have hc3 := HC2.out.over (W' := w3) (by rw [← hw3]; exact (Below.refl _ _).alloc (Nat.le_refl _) _)
  rw [hw3]
  refine (append_ok (s := flat []) 20000 hc3 _ [[97], [98]] hs3 (by simp) (by omega) (by rw [HF1.out]; simp [flat]; omega) (by omega) (by omega) (by rw [HF1.out]; simp only [flat_nil]; omega)).mono ?_
  rw [HF1.out, flat_nil]
  rintro e w4 ⟨rfl, _, hp4, _, T4, hc4, _⟩
  rw [List.nil_append] at hc4
  have HP4 := Lib.hid (hp4 [108])
  have HC4 := Lib.hid hc4
  obtain ⟨D4, hD4⟩ : ∃ x, (appendD (newD 9) [108] [] f1).1 = x := ⟨_, rfl⟩
  rw [hD4] at HP4 HC4
  clear hs3 hc3 hw3 hp4 hc4 hD4
  go_wp2_with fail
  refine (lsync_ok HC4.out (by simp) (by omega)).mono ?_
  rintro e w5 ⟨rfl, hs5, hn5, hc5, _⟩
  obtain ⟨D5, hD5⟩ : ∃ x, (syncD D4 [108]).1 = x := ⟨_, rfl⟩
  rw [hD5] at hs5 hn5 hc5
  have HS5 := Lib.hid (hs5 (by omega)).1
  have HC5 := Lib.hid hc5
  clear hs5 hn5 hc5 hD5
  go_wp2_with fail
  obtain ⟨w6, hw6⟩ : ∃ x, w5.alloc (.cells #[.string ⟨#[99]⟩] 9) = x := ⟨_, rfl⟩
  have hs6 : Strs w6 w6.heap.size (.slice (some ⟨w5.heap.size, 0, none⟩) 1 1) [[99]] := by
    have := one_strs w5 [99] 9
    rw [← hw6, asz]
    exact this
  have hc6 := HC5.out.over (W' := w6) (by rw [← hw6]; exact (Below.refl _ _).alloc (Nat.le_refl _) _)
  rw [hw6]
  refine (append_ok 40000 hc6 _ [[99]] hs6 (by simp) (by omega) (by rw [HF2.out]; omega) (by omega) (by omega) (by rw [HF2.out]; simp only [List.length_nil] at hnd1 ⊢; omega)).mono ?_
  rw [HF2.out]
  rintro e w7 ⟨rfl, hz7, _, _, T7, hc7, _⟩
  have hsf := appendD_safe hz7
  obtain ⟨D7, hD7⟩ : ∃ x, (appendD D5 [108] f1 f2).1 = x := ⟨_, rfl⟩
  rw [hD7] at hc7 hsf
  have hon7 := hc7.roomy.off
  have hps : pagesF (lose D7 0).now [108] = pagesF D4.now [108] := by rw [lose_zero hon7, hsf, HS5.out]
  have HPS := Lib.hid hps
  have HY7 := Lib.hid hc7.dry
  clear hs6 hc6 hw6 hz7 hc7 hsf hD7 hps hon7
  go_wp2_with fail
  refine (off_dks g 40000 T7 D7 w7 0 HY7.out.disk (by omega)).mono ?_
  rintro e w8 hm8
  obtain rfl := hm8.1
  have HY8 := Lib.hid (HY7.out.made hm8)
  clear hm8
  go_wp2_with fail
  refine (on_dks g 40000 (since T7 w7 w8) (lose D7 0) w8 HY8.out.disk).mono ?_
  rintro e w9 hm9
  obtain rfl := hm9.1
  have HY9 := Lib.hid (HY8.out.made hm9)
  clear hm9
  have hlay : Lay (pagesF (onD (lose D7 0)).now [108]) (flat [[97], [98]]) := by
    show Lay (pagesF (lose D7 0).now [108]) _
    rw [HPS.out, HF1.out]
    exact HC4.out.lay
  have hcnt : (pagesF (onD (lose D7 0)).now [108]).length ≤ 2000 := by rw [hlay.2, HF1.out]; unfold needP; omega
  have HO9 := Lib.hid (open_lay g 40000 [108] [[97], [98]] _ (onD (lose D7 0)) w9 HY9.out.disk rfl (by simp) hcnt (by omega) hlay)
  clear hlay hcnt
  go_wp2_with fail
  refine HO9.out.mono ?_
  rintro e w10 ⟨l2, v2, T10, rfl, hv10, _, _, _, hap10, _, _⟩
  have hb10 := HY9.out.below.trans (hap10.low HY9.out.below.size HY9.out.low)
  have HB10 := Lib.hid hb10
  have HV10 := Lib.hid hv10
  obtain ⟨A2, c2, rfl, hc21, hc22⟩ := hv10.strs.len
  have hc22 : c2 ≤ 9223372036854775807 := hc22
  clear hap10 hb10 hv10
  go_wp2_with fail
  obtain ⟨w11, hw11⟩ : ∃ x, w10.alloc (.cells #[.string ⟨#[97]⟩, .string ⟨#[98]⟩] 9) = x := ⟨_, rfl⟩
  have hb11 : Below w10.heap.size w10 w11 := by rw [← hw11]; exact (Below.refl _ _).alloc (Nat.le_refl _) _
  have hs11 : Strs w11 w11.heap.size (.slice (some ⟨w10.heap.size, 0, none⟩) 2 2) [[97], [98]] := by
    have := two_strs w10 [97] [98] 9
    rw [← hw11, asz]
    exact this
  have HB11 := Lib.hid (HB10.out.trans (hb11.mono HB10.out.size))
  rw [hw11]
  refine (same_any _ _ [[97], [98]] [[97], [98]] w11 ((HV10.out.strs.below hb11).more hb11.size) hs11).mono ?_
  rintro e w12 ⟨rfl, hb12⟩
  have HB12 := Lib.hid (HB11.out.trans (hb12.mono HB11.out.size))
  clear hb12 hs11 hb11 hw11
  go_wp2_with fail
  go_ret
  exact ⟨rfl, HB12.out⟩

end Go.Proofs.Ytoajfnkhonegnaa.Cd

/-
  Two rows of texts of the call's own, side by side: one grows, the other stays. Conditions: none.
-/
namespace Go.Proofs.Ytoajfnkhonegnaa.Cd
open Go.RowKit

/-- Two rows that are not the same block. -/
def TwoBlocks (u v : Value) : Prop := u.ownBlock = none ∨ u.ownBlock ≠ v.ownBlock

theorem TwoBlocks.symm {u v : Value} (h : TwoBlocks u v) : TwoBlocks v u := by
  unfold TwoBlocks at *
  rcases h with h | h
  · rw [h]
    cases hv : v.ownBlock
    · exact .inl rfl
    · exact .inr (by simp)
  · exact .inr fun e => h e.symm
theorem TwoBlocks.nil (v : Value) : TwoBlocks (.slice none 0 0) v := .inl rfl

/-- append of one text: the row is the same block, or a new one. -/
theorem run_append_str1 (w : World) (B : Nat) (v : Value) (l : List (List UInt8)) (ho : OwnS w B v l) (hB : B ≤ w.heap.size) (b off c : Nat) (s : List UInt8) (hx : w.cell? ⟨b, off, none⟩ = some (.string ⟨s.toArray⟩))
    (hm : l.length + 1 ≤ 8796093022208) (ty : TypeId) :
    ∃ v' w', (Builtin.append_ #[22, 22] ty #[v, .slice (some ⟨b, off, none⟩) 1 c]).run Try.prog w = .ok v' w' ∧ OwnS w' B v' (l ++ [s]) ∧ w.grownBy w' v.ownBlock ∧ (v'.ownBlock = v.ownBlock ∨ ∀ k, v'.ownBlock = some k → w.heap.size ≤ k) := by
  obtain ⟨i0, hi, hz0, hz1, hz2⟩ := info_parts info_str
  have hmax : l.length + 1 ≤ maxLen := by simp only [maxLen]; omega
  have hnews : ∀ j u, (vs [s])[j]? = some u → w.cell? ((⟨b, off, none⟩ : Addr).add j) = some u := fun j u hu => by
    have hj := (List.getElem?_eq_some_iff.1 hu).1
    rw [vs_length] at hj
    obtain rfl : j = 0 := by simp at hj; omega
    rw [Addr.add_lit]
    simp [vs] at hu
    rw [← hu]
    exact hx
  obtain ⟨v', w', hr, h2, h3, h4⟩ := run_append_own (P := Try.prog) w B 22 ty 9 i0 _ 1 16 Try.underlying22 hi hz0 hz1 hz2 rfl (by omega) v l.length (vs l) ho ⟨b, off, none⟩ 1 c (vs [s]) rfl hnews (vs_one [s]) hmax (by omega) hB
  refine ⟨v', w', hr, ?_, h3, ?_⟩
  · unfold OwnS
    rw [vs_append, List.length_append]
    exact h2
  · rcases ho.2 with ⟨rfl, h0⟩ | ⟨g, cap, cur, rfl, hbg, hg, hnc, hcm, hcs, htake⟩
    · obtain ⟨v2, w2, hr2, k2, _⟩ := run_append_own (P := Try.prog) w w.heap.size 22 ty 9 i0 _ 1 16 Try.underlying22 hi hz0 hz1 hz2 rfl (by omega) (.slice none 0 0) 0 [] (World.ownsRow_nil w _ 9 1) ⟨b, off, none⟩ 1 c (vs [s]) rfl hnews (vs_one [s]) (by simp [maxLen]) (by omega) (Nat.le_refl _)
      rw [hr] at hr2
      injection hr2 with e1 e2
      subst e1 e2
      exact .inr fun k hk => (k2.lt k hk).1
    · by_cases hroom : l.length + 1 ≤ cap
      · have hfit : l.length * i0.size + (vs [s]).length ≤ cur.size := by rw [hcs, hz1, vs_length, List.length_singleton, Nat.mul_one, Nat.mul_one]; exact hroom
        have hr2 := run_append_room (P := Try.prog) w 22 ty 9 i0 Try.underlying22 hi g l.length cap cur hg ⟨b, off, none⟩ 1 c (vs [s]) (by rw [hz1]; rfl) hnews (vs_one [s]) hroom hfit
        rw [hr] at hr2
        injection hr2 with e1 e2
        subst e1
        exact .inl rfl
      · have holds : ∀ j u, (vs l)[j]? = some u → w.cell? ((⟨g, 0, none⟩ : Addr).add j) = some u := World.ownsRow.cells ho (g := g) rfl
        have hr2 := run_append_grow (P := Try.prog) w 22 ty 9 i0 _ Try.underlying22 hi hz0 ⟨g, 0, none⟩ l.length cap (vs l) (by rw [hz1]; exact ho.1) holds ⟨b, off, none⟩ 1 c (vs [s]) (by rw [hz1]; rfl) hnews (by simp only [maxLen] at hmax; omega) (by omega) (growslice_fits (by omega) (by rw [hz2]; omega))
        rw [hr] at hr2
        injection hr2 with e1 e2
        subst e1
        refine .inr fun k hk => ?_
        have hk2 : some w.heap.size = some k := hk
        injection hk2 with hk2
        omega

theorem two_after {w : World} {B : Nat} {u v v' : Value} {m : List (List UInt8)} (hu : OwnS w B u m) (huv : TwoBlocks u v) (r3 : v'.ownBlock = v.ownBlock ∨ ∀ k, v'.ownBlock = some k → w.heap.size ≤ k) : TwoBlocks u v' := by
  rcases huv with h | h
  · exact .inl h
  · rcases r3 with e | hf
    · exact .inr (by rw [e]; exact h)
    · cases hb : u.ownBlock with
      | none => exact .inl hb
      | some k =>
        refine .inr fun e => ?_
        have h1 := (World.ownsRow.lt hu k hb).2
        have h2 := hf k (e ▸ hb)
        omega

/-- append of one text, for the walk: another row of texts stays. -/
theorem wp_append_str1 {w : World} {ops : Array Oper} {rest : List Oper} {o : Oper} {a : Act} {Q : Exit → Act → World → Prop} (hgd : o.guard = none) (s x : Operand)
    (hop : o.op = .call { callee := .builtin .append, args := #[s, x], argTypes := #[22, 22] })
    (B : Nat) (v : Value) (l : List (List UInt8)) (u : Value) (m : List (List UInt8)) (hs : a.eval s = v) (ho : OwnS w B v l) (hu : OwnS w B u m) (huv : TwoBlocks u v) (hB : B ≤ w.heap.size) (b off c : Nat) (t : List UInt8) (hx : a.eval x = .slice (some ⟨b, off, none⟩) 1 c)
    (hc : w.cell? ⟨b, off, none⟩ = some (.string ⟨t.toArray⟩)) (hm : l.length + 1 ≤ 8796093022208)
    (hK : ∀ v' w', OwnS w' B v' (l ++ [t]) → OwnS w' B u m → TwoBlocks u v' → Below B w w' → wpList Try.prog ops Q rest (a.put o.dst v') w') : wpList Try.prog ops Q (o :: rest) a w := by
  refine wpList_plain hgd fun K hK' => ?_
  obtain ⟨v', w', hrun, r1, r2, r3⟩ := run_append_str1 w B v l ho hB b off c t hc hm o.type
  unfold Oper.wp
  simp [execOp, hop, resolve, invoke, builtin, hs, hx, hrun, Result.andThen]
  exact hK' _ _ (hK v' w' r1 (World.ownsRow.kept hu r2 huv) (two_after hu huv r3) ((Below.refl _ _).grown r2 hB (fun k hk => (ho.lt k hk).1)))

theorem step_append_str1 {w : World} {ops : Array Oper} {o : Oper} {a : Act} {K : Act → World → Prop} {Q : Exit → Act → World → Prop} {E : Prop} (hgd : o.guard = none) (s x : Operand)
    (hop : o.op = .call { callee := .builtin .append, args := #[s, x], argTypes := #[22, 22] })
    (B : Nat) (v : Value) (l : List (List UInt8)) (u : Value) (m : List (List UInt8)) (hs : a.eval s = v) (ho : OwnS w B v l) (hu : OwnS w B u m) (huv : TwoBlocks u v) (hB : B ≤ w.heap.size) (b off c : Nat) (t : List UInt8) (hx : a.eval x = .slice (some ⟨b, off, none⟩) 1 c)
    (hc : w.cell? ⟨b, off, none⟩ = some (.string ⟨t.toArray⟩)) (hm : l.length + 1 ≤ 8796093022208)
    (h : ∀ v' w', OwnS w' B v' (l ++ [t]) → OwnS w' B u m → TwoBlocks u v' → Below B w w' → K (a.put o.dst v') w') : if Region.wanted o (yielded ops a.tmps) = true then Oper.wp Try.prog o a w K Q else E := by
  have hw : Region.wanted o (yielded ops a.tmps) = true := by simp [Region.wanted, hgd]
  rw [if_pos hw]
  obtain ⟨v', w', hrun, r1, r2, r3⟩ := run_append_str1 w B v l ho hB b off c t hc hm o.type
  unfold Oper.wp
  simp [execOp, hop, resolve, invoke, builtin, hs, hx, hrun, Result.andThen]
  exact h v' w' r1 (World.ownsRow.kept hu r2 huv) (two_after hu huv r3) ((Below.refl _ _).grown r2 hB (fun k hk => (ho.lt k hk).1))

end Go.Proofs.Ytoajfnkhonegnaa.Cd

/-
  A log beside a row of texts that grows; what a law hands to great. Conditions: none.
-/
namespace Go.Proofs.Ytoajfnkhonegnaa.Cd
open Go.RowKit

theorem grown_apart {w w' : World} {v : Value} (h : w.grownBy w' v.ownBlock) : Apart (fun k => v.ownBlock = some k) w w' := ⟨h.os, h.tape, h.output, h.size, fun k hk hn => h.block k hk (fun e => hn e.symm)⟩

/-- append of one text, for the walk: nothing turns but the row, which is the same block, or a new one. -/
theorem wp_append_kept {w : World} {ops : Array Oper} {rest : List Oper} {o : Oper} {a : Act} {Q : Exit → Act → World → Prop} (hgd : o.guard = none) (s x : Operand)
    (hop : o.op = .call { callee := .builtin .append, args := #[s, x], argTypes := #[22, 22] })
    (B : Nat) (v : Value) (l : List (List UInt8)) (hs : a.eval s = v) (ho : OwnS w B v l) (hB : B ≤ w.heap.size) (b off c : Nat) (t : List UInt8) (hx : a.eval x = .slice (some ⟨b, off, none⟩) 1 c)
    (hc : w.cell? ⟨b, off, none⟩ = some (.string ⟨t.toArray⟩)) (hm : l.length + 1 ≤ 8796093022208)
    (hK : ∀ v' w', OwnS w' B v' (l ++ [t]) → Apart (fun k => v.ownBlock = some k) w w' → (v'.ownBlock = v.ownBlock ∨ ∀ k, v'.ownBlock = some k → w.heap.size ≤ k) → wpList Try.prog ops Q rest (a.put o.dst v') w') : wpList Try.prog ops Q (o :: rest) a w := by
  refine wpList_plain hgd fun K hK' => ?_
  obtain ⟨v', w', hrun, r1, r2, r3⟩ := run_append_str1 w B v l ho hB b off c t hc hm o.type
  unfold Oper.wp
  simp [execOp, hop, resolve, invoke, builtin, hs, hx, hrun, Result.andThen]
  exact hK' _ _ (hK v' w' r1 (grown_apart r2) r3)

/-- The log, and a row of texts that is none of its blocks. -/
structure Held9 (w : World) (B : Nat) (v : Value) (list : List (List UInt8)) (T : Nat → Prop) (l : Nat) (W : World) : Prop where
  own : OwnS W B v list
  low : w.heap.size ≤ B
  le : B ≤ W.heap.size
  away : ∀ b, v.ownBlock = some b → ¬ T b ∧ b ≠ l

section
variable {w W W' : World} {l g N M room k B : Nat} {n s : List UInt8} {D : Dsk} {T T' : Nat → Prop} {v v' : Value} {list : List (List UInt8)} {t : List UInt8}
theorem Held9.over (h : Held9 w B v list T l W) (hb : Below W.heap.size W W') : Held9 w B v list T l W' := ⟨h.own.keep hb, h.low, Nat.le_trans h.le hb.size, h.away⟩
/-- Behind a call on the log. -/
theorem Held9.call (h : Held9 w B v list T l W) (ha : Apart (plus T l) W W') (hT : ∀ j, T' j → since T W W' j) : Held9 w B v list T' l W' := by
  refine ⟨h.own.aside ha (fun b hb ht => ?_), h.low, Nat.le_trans h.le ha.size, fun b hb => ⟨fun ht => ?_, (h.away b hb).2⟩⟩
  · rcases ht with ht | ht
    · exact (h.away b hb).1 ht
    · exact (h.away b hb).2 ht
  · rcases hT b ht with h1 | h1
    · exact (h.away b hb).1 h1
    · have := (h.own.lt b hb).2; omega
/-- What the row's growth leaves of the log. -/
theorem Calm.kept (h : Calm w l g N room k n s D T W) (hk : Held9 w B v list T l W) (ha : Apart (fun k => v.ownBlock = some k) W W') : Calm w l g N room k n s D T W' := by
  refine ⟨h.disk.apart ha (fun j hj e => (hk.away j e).1 hj), h.log.aside ha (fun e => (hk.away l e).2 rfl) (fun j hj _ cs fr hc => ?_), h.low, h.lowl, h.below.trans (ha.low h.below.size fun j hj => Nat.le_trans hk.low (hk.own.lt j hj).1), h.lay, h.roomy, h.fits⟩
  rcases hk.own.2 with ⟨rfl, _⟩ | ⟨g', cap, cur, rfl, _, hh, _⟩
  · cases hj
  · injection hj with hj
    have hj : g' = j := hj
    subst hj
    rw [hh] at hc
    injection hc with hc
    injection hc with _ hc _
    exact absurd hc (by decide)
theorem Held9.grown (h : Held9 w B v list T l W) (hc : Calm w l g N room k n s D T W) (ho : OwnS W' B v' (list ++ [t])) (ha : Apart (fun k => v.ownBlock = some k) W W') (hn : v'.ownBlock = v.ownBlock ∨ ∀ k, v'.ownBlock = some k → W.heap.size ≤ k) : Held9 w B v' (list ++ [t]) T l W' := by
  refine ⟨ho, h.low, Nat.le_trans h.le ha.size, fun b hb => ?_⟩
  rcases hn with e | e
  · exact h.away b (by rw [← e]; exact hb)
  · have h1 := e b hb
    exact ⟨fun ht => by have := hc.disk.lt b ht; omega, by have := hc.log.lt; omega⟩
end

/-- What a law hands to great: one call, an Append of the list. -/
theorem one_cal (W : World) (A : Option Addr) (c : Nat) (list : List (List UInt8)) (hs : Strs W W.heap.size (.slice A list.length c) list) :
    Cals (W.alloc (.cells #[.int .i64 0, .slice A list.length c, .int .i64 0, .int .u64 0, .slice none 0 0] 29)) (W.heap.size + 1) (.slice (some ⟨W.heap.size, 0, none⟩) 1 1) [⟨0, list, 0, 0, []⟩] := by
  have hb : Below W.heap.size W (W.alloc (.cells #[.int .i64 0, .slice A list.length c, .int .i64 0, .int .u64 0, .slice none 0 0] 29)) := (Below.refl _ _).alloc (Nat.le_refl _) _
  refine ⟨some ⟨W.heap.size, 0, none⟩, 1, rfl, Nat.le_refl _, by simp [maxLen], fun p hp => ?_, fun _ => ⟨W.heap.size, 0, rfl, by omega, fun i p hp => ?_⟩⟩
  · rw [List.mem_singleton] at hp
    subst hp
    exact ⟨show (Lit.int .i64 0).wf = true by decide, show (Lit.int .i64 0).wf = true by decide, show (0 : Nat) < 18446744073709551616 by decide⟩
  · obtain ⟨hi, rfl⟩ := List.getElem?_eq_some_iff.1 hp
    obtain rfl : i = 0 := by simp at hi; omega
    refine ⟨.slice A list.length c, .slice none 0 0, (hs.below hb).more (by omega), Sl.nil _ _, fun j x hx => ?_⟩
    rw [cell_of_row _ _ (0 + 0 * 5 + j) _ _ _ (heap_alloc_new W _), Nat.zero_mul, Nat.add_zero, Nat.zero_add, List.getElem?_toArray]
    exact hx
theorem small_one {list : List (List UInt8)} {i j : Int} {k : Nat} (h : Small9 [⟨i, list, j, k, []⟩]) : list.length ≤ 20 ∧ bytesT list ≤ 8192 := by
  obtain ⟨_, h2, h3⟩ := h
  have h3 := h3 _ (List.mem_singleton.2 rfl)
  refine ⟨h3, ?_⟩
  simpa [bytesC] using h2
theorem flat_bytes (l : List (List UInt8)) (h : bytesT l ≤ 1000000) : (flat l).length ≤ bytesT l + 14 * l.length := by
  induction l with
  | nil => simp [flat, bytesT]
  | cons x r ih =>
    have e : bytesT (x :: r) = x.length + bytesT r := by simp [bytesT]
    have := ih (by omega)
    have := frm_le x (by omega)
    rw [flat_cons, List.length_append, e, List.length_cons]
    omega

end Go.Proofs.Ytoajfnkhonegnaa.Cd

/-
  LogFull answers true. Conditions: none.
-/
namespace Go.Proofs.Ytoajfnkhonegnaa.Cd
open Go.RowKit

set_option maxRecDepth 100000 in
set_option maxHeartbeats 1600000 in
theorem lf_out (r : Int) (v : Value) (l : List (List UInt8)) (big : List UInt8) (w : World) (hr1 : (Lit.int .i64 r).wf = true) (hr : r < 0 ∨ 10 < r) (hv : Strs w w.heap.size v l) :
    Calls Try.prog 5 #[.int .i64 r, v, .string ⟨big.toArray⟩] w (Gives (.bool true) w) := by
  obtain ⟨h1, h2⟩ := bounds_i64 hr1
  obtain ⟨A, c, rfl, _, _⟩ := hv.len
  clear hv hr1
  rcases hr with hr | hr
  · go_enter Try.func5, Try.ntmps5
    go_wp2_with (go_at_call 7; refine (lalive_any w).mono ?_; rintro e w1 ⟨rfl, hb1⟩; have HB1 := Lib.hid hb1; clear hb1)
    go_ret
    exact ⟨rfl, HB1.out⟩
  · have hr0 : 0 ≤ r := by omega
    go_enter Try.func5, Try.ntmps5
    go_wp2_with (go_at_call 7; refine (lalive_any w).mono ?_; rintro e w1 ⟨rfl, hb1⟩; have HB1 := Lib.hid hb1; clear hb1)
    go_ret
    exact ⟨rfl, HB1.out⟩

set_option maxRecDepth 100000 in
set_option maxHeartbeats 6400000 in
theorem lf_main (r : Nat) (v : Value) (l : List (List UInt8)) (big : List UInt8) (w : World) (hr : r ≤ 10) (hv : Strs w w.heap.size v l) (hok : ∀ p ∈ l, p.length ≤ 140737488351232) (hbig : big.length ≤ 140737488351232) :
    Calls Try.prog 5 #[.int .i64 r, v, .string ⟨big.toArray⟩] w (Gives (.bool true) w) := by
  obtain ⟨A, c, rfl, hv2, hv3⟩ := hv.len
  have hv3 : c ≤ 9223372036854775807 := hv3
  have HV := Lib.hid hv
  have HOK := Lib.hid hok
  have hri : (r : Int) ≤ 10 := by omega
  have hd0 : decide ((r : Int) < 0) = false := decide_eq_false (by omega)
  have hd1 : decide ((10 : Int) < (r : Int)) = false := decide_eq_false (by omega)
  clear hv hok
  go_enter Try.func5, Try.ntmps5
  go_wp2_with fail
  refine (lalive_any w).mono ?_
  rintro e w1 ⟨rfl, hb1⟩
  have HB1 := Lib.hid hb1
  clear hb1
  go_wp2_with fail
  obtain ⟨w2, hw2⟩ : ∃ x, w1.alloc (.cells #[.int .i64 0, .slice A l.length c, .int .i64 0, .int .u64 0, .slice none 0 0] 29) = x := ⟨_, rfl⟩
  have hcal := one_cal w1 A c l ((HV.out.below HB1.out).more HB1.out.size)
  rw [hw2] at hcal ⊢
  have hb2 : Below w1.heap.size w1 w2 := by rw [← hw2]; exact (Below.refl _ _).alloc (Nat.le_refl _) _
  have hz2 : w2.heap.size = w1.heap.size + 1 := by rw [← hw2]; simp
  rw [← hz2] at hcal
  refine (great9_any _ _ w2 hcal (fun p hp => by rw [List.mem_singleton] at hp; subst hp; exact ⟨HOK.out, by simp⟩)).mono ?_
  rintro e w3 ⟨gr, rfl, hb3, hsm⟩
  have HB3 := Lib.hid (HB1.out.trans ((hb2.mono HB1.out.size).trans (hb3.mono (by have := HB1.out.size; omega))))
  clear hcal hw2 hb2 hb3 hz2
  cases gr
  · obtain ⟨hl20, hlb⟩ := small_one (hsm rfl)
    clear hsm
    by_cases hbg : 8192 < big.length
    · go_wp2_with fail
      go_ret
      exact ⟨rfl, HB3.out⟩
    · have hbgi : (big.length : Int) ≤ 8192 := by omega
      have hd2 : decide ((8192 : Int) < (big.length : Int)) = false := decide_eq_false (by omega)
      go_wp2_with fail
      refine (new_dks (r : Int) w3 (by omega) (by omega)).mono ?_
      rintro e w4 ⟨g, S, rfl, hd, hS, hb4⟩
      have HD := Lib.hid hd
      have HS := Lib.hid (show ∀ j, S j → w.heap.size ≤ j from fun j hj => Nat.le_trans HB3.out.size (hS j hj))
      have HB4 := Lib.hid (HB3.out.trans (hb4.mono HB3.out.size))
      clear hd hS hb4
      go_wp2_with fail
      refine (open_lay g 0 [108] [] S (newD r) w4 HD.out rfl (by simp) (by simp [newD, pagesF, getF]) (by omega) lay_nil).mono ?_
      intro e w5 ho5
      obtain ⟨lg, v5, T, rfl, _, hc5, _, _, _, _⟩ := ho5.calm (k := 0) (room := r) HS.out HB4.out lay_nil (new_roomy (room := r) (by omega)) (by omega)
      have HC5 := Lib.hid hc5
      clear ho5 hc5 HD HS HB4
      go_wp2_with (at_builtin; refine wp_append_strs rfl _ _ rfl w5.heap.size _ [] rfl ?ho ?hB _ w.heap.size l rfl ?hn ?hm ?hK)
      case ho => exact owns_new w5 _ (Nat.le_refl _)
      case hB => simp
      case hn => exact HV.out.below (HC5.out.below.trans (((Below.refl _ _).alloc (Nat.le_refl _) _).mono HC5.out.below.size))
      case hm => simp; omega
      case hK =>
        intro v6 w6 ho6 hb6
        have hb56 : Below w5.heap.size w5 w6 := ((Below.refl w5.heap.size w5).alloc (Nat.le_refl _) _).trans hb6
        have HO6 := Lib.hid ho6
        have HB6 := Lib.hid hb56
        have hz6 := hb56.size
        clear ho6 hb6 hb56
        go_wp2_with (at_builtin; refine wp_append_strs rfl _ _ rfl w5.heap.size _ l rfl ?ho2 ?hB2 _ (w6.heap.size + 1) [big] rfl ?hn2 ?hm2 ?hK2)
        case ho2 => exact HO6.out.alloc _
        case hB2 => simp; omega
        case hn2 => exact one_strs w6 big _
        case hm2 => simp; omega
        case hK2 =>
          intro v7 w7 ho7 hb7
          obtain ⟨all, hall⟩ : ∃ x, l ++ [big] = x := ⟨_, rfl⟩
          rw [hall] at ho7
          have halen : all.length = l.length + 1 := by rw [← hall]; simp
          have hbt : bytesT all ≤ 16384 := by rw [← hall]; unfold bytesT at hlb ⊢; rw [List.map_append, List.sum_append]; simp; omega
          have hfa := flat_bytes all (by omega)
          have hb57 : Below w5.heap.size w5 w7 := HB6.out.trans (((Below.refl w6.heap.size w6).alloc (Nat.le_refl _) _).mono hz6 |>.trans hb7)
          have hz7 := hb57.size
          have hheld : Held9 w w5.heap.size v7 all T lg w7 := ⟨ho7, HC5.out.below.size, hz7, fun b hb => ⟨fun ht => by have := (ho7.lt b hb).1; have := HC5.out.disk.lt b ht; omega, by have := (ho7.lt b hb).1; have := HC5.out.log.lt; omega⟩⟩
          have HC7 := Lib.hid (HC5.out.over hb57)
          have HA7 := Lib.hid hheld
          obtain ⟨A7, c7, rfl, h71, h72⟩ := ho7.strs.len
          have h72 : c7 ≤ 9223372036854775807 := h72
          have hal21 : all.length ≤ 21 := by omega
          have HFA := Lib.hid hfa
          have HAB := Lib.hid (show ∀ b, (Value.slice A7 all.length c7).ownBlock = some b → b < w7.heap.size from fun b hb => (ho7.lt b hb).2)
          clear hall ho7 hb7 hb57 hheld HC5 HO6 HB6 hfa halen
          go_wp2_with fail
          go_loopw [11, 12, 56] (fun kv sv i wr => ∃ (k : Nat) (D : Dsk) (T : Nat → Prop) (kept : List (List UInt8)), i = .int .i64 k ∧ k ≤ all.length ∧ sv = .string ⟨(flat kept).toArray⟩ ∧ Hid (Calm w lg g (12 + 10000 * k) r (needP (flat kept).length) [108] (flat kept) D T wr) ∧ Hid (Held9 w w7.heap.size kv kept T lg wr) ∧ Hid (Held9 w w5.heap.size (.slice A7 all.length c7) all T lg wr) ∧ Hid ((flat kept).length ≤ (flat (all.take k)).length) ∧ kept.length ≤ k) (fun _ _ i _ => all.length - (intOf i).toNat)
          case atStart => exact ⟨0, newD r, T, [], rfl, by omega, rfl, HC7.out, ⟨OwnS.nil _ _, Nat.le_trans HC7.out.below.size (Nat.le_refl _), Nat.le_refl _, fun b hb => (by cases hb)⟩, HA7.out, Nat.le_refl _, by simp⟩
          case round =>
            obtain ⟨k, D, T, kept, rfl, hk, rfl, hcm, hkp, hap, hfl, hkl⟩ := hrel
            clear HC7 HA7
            by_cases hlt : k < all.length
            · obtain ⟨b2, off2, c2', e2, _, _, hB2, hat⟩ := (hap.out.own.strs).at (by omega)
              injection e2 with e2 _ e3
              subst e2 e3
              have d0 := hat k hlt
              obtain ⟨x, hx⟩ : ∃ x, all[k] = x := ⟨_, rfl⟩
              have hft := flat_take all k hlt
              have hfm := flat_mono all (k + 1) all.length (by omega)
              rw [List.take_length, hft, List.length_append] at hfm
              rw [hx] at d0 hft hfm
              have hfge := frm_ge x
              have HFT := Lib.hid hft
              have hbd : (flat kept).length + (frm x).length ≤ 20000 := by have := hfl.out; have := HFA.out; omega
              obtain ⟨s, hs⟩ : ∃ x, flat kept = x := ⟨_, rfl⟩
              rw [hs] at hcm hfl hbd
              have hsnoc : flat (kept ++ [x]) = s ++ frm x := by rw [flat_append, flat_one, hs]
              have HSN := Lib.hid hsnoc
              have HSS := Lib.hid hs
              obtain ⟨t, ht⟩ : ∃ y, s ++ frm x = y := ⟨_, rfl⟩
              have htl : t.length = s.length + (frm x).length := by rw [← ht, List.length_append]
              have hadd := fun W => add_text W s (frm x) (by omega)
              rw [ht] at hadd
              have HT := Lib.hid ht
              have HTL := Lib.hid htl
              have hti : (t.length : Int) ≤ 20000 := by omega
              have HFR := Lib.hid (rframe_any x wr (by omega))
              have hcz := hcm.out.below.size
              rw [hs]
              clear hat hx hft hfm hs hsnoc ht htl
              by_cases hful : 510 * r < t.length
              · have hfi : (510 : Int) * (r : Int) < (t.length : Int) := by omega
                have hno : r < needP s.length + (needP (s.length + (flat [x]).length) - needP s.length) := by rw [flat_one, ← HTL.out]; unfold needP at *; omega
                have HNO := Lib.hid hno
                clear hno hful
                go_wp2_with (go_at_call 22; refine HFR.out.mono ?_; rintro e w8 ⟨rfl, hb8⟩; have HC8 := Lib.hid (hcm.out.over hb8); have HK8 := Lib.hid (hkp.out.over hb8); have HA8 := Lib.hid (hap.out.over hb8); clear hb8)
                obtain ⟨w9, hw9⟩ : ∃ y, w8.alloc (.cells #[.string ⟨x.toArray⟩] 9) = y := ⟨_, rfl⟩
                have hb9 : Below w8.heap.size w8 w9 := by rw [← hw9]; exact (Below.refl _ _).alloc (Nat.le_refl _) _
                have hs9 : Strs w9 w9.heap.size (.slice (some ⟨w8.heap.size, 0, none⟩) 1 1) [x] := by
                  have := one_strs w8 x 9
                  rw [← hw9, asz]
                  exact this
                have HC9 := Lib.hid (HC8.out.over hb9)
                have HK9 := Lib.hid (HK8.out.over hb9)
                have HA9 := Lib.hid (HA8.out.over hb9)
                have HAN := Lib.hid (append_no (12 + 10000 * (k + 1)) HC9.out _ [x] hs9 (by simp) (by omega) (by rw [flat_one]; omega) (by omega) (by omega) HNO.out)
                rw [hw9]
                clear hs9 hb9 hw9
                go_wp2_with (go_at_call 12; refine HAN.out.mono ?_; rintro e w10 ⟨rfl, T10, hc10, hp10, ht10⟩; have HC10 := Lib.hid hc10; have HK10 := Lib.hid (HK9.out.call hp10 ht10); have HA10 := Lib.hid (HA9.out.call hp10 ht10); clear hc10 hp10 ht10)
                go_roundw
                case rel =>
                  refine ⟨k + 1, D, T10, kept, by go_num, by omega, by rw [HSS.out], ?_, HK10, HA10, ?_, by omega⟩
                  · unfold Hid
                    rw [HSS.out]
                    exact HC10.out
                  · unfold Hid
                    have := hfl.out
                    rw [HFT.out, HSS.out, List.length_append]
                    omega
                case measure => simp [intOf]; omega
              · have hfi : (t.length : Int) ≤ (510 : Int) * (r : Int) := by omega
                have hyes : needP s.length + (needP (s.length + (flat [x]).length) - needP s.length) ≤ r := by rw [flat_one, ← HTL.out]; unfold needP at *; have := HTL.out; omega
                have HYES := Lib.hid hyes
                clear hyes hful
                go_wp2_with (go_at_call 22; refine HFR.out.mono ?_; rintro e w8 ⟨rfl, hb8⟩; have HC8 := Lib.hid (hcm.out.over hb8); have HK8 := Lib.hid (hkp.out.over hb8); have HA8 := Lib.hid (hap.out.over hb8); clear hb8)
                obtain ⟨w9, hw9⟩ : ∃ y, w8.alloc (.cells #[.string ⟨x.toArray⟩] 9) = y := ⟨_, rfl⟩
                have hb9 : Below w8.heap.size w8 w9 := by rw [← hw9]; exact (Below.refl _ _).alloc (Nat.le_refl _) _
                have hs9 : Strs w9 w9.heap.size (.slice (some ⟨w8.heap.size, 0, none⟩) 1 1) [x] := by
                  have := one_strs w8 x 9
                  rw [← hw9, asz]
                  exact this
                have HC9 := Lib.hid (HC8.out.over hb9)
                have HK9 := Lib.hid (HK8.out.over hb9)
                have HA9 := Lib.hid (HA8.out.over hb9)
                have HAY := Lib.hid (append_ok (12 + 10000 * (k + 1)) HC9.out _ [x] hs9 (by simp) (by omega) (by rw [flat_one]; omega) (by omega) (by omega) HYES.out)
                rw [hw9]
                clear hs9 hb9 hw9
                go_wp2_with (first
                  | (go_at_call 12; refine HAY.out.mono ?_; rintro e w10 ⟨rfl, _, _, _, T10, hc10, hp10, ht10⟩; rw [flat_one] at hc10; have HC10 := Lib.hid hc10; have HK10 := Lib.hid (HK9.out.call hp10 ht10); have HA10 := Lib.hid (HA9.out.call hp10 ht10); clear hc10 hp10 ht10)
                  | (at_builtin; refine wp_append_kept rfl _ _ rfl w7.heap.size _ kept rfl ?ho3 ?hB3 w10.heap.size 0 1 x rfl ?hc3 ?hm3 ?hK3))
                case ho3 => exact HK10.out.own.alloc _
                case hB3 => have := HK10.out.le; simp; omega
                case hc3 => rw [cell_of_row _ _ 0 _ _ _ (heap_alloc_new w10 _)]; rfl
                case hm3 => omega
                case hK3 =>
                  intro v11 w11 ho11 ha11 hn11
                  have hba : Below w10.heap.size w10 (w10.alloc (.cells #[.string ⟨x.toArray⟩] 9)) := (Below.refl _ _).alloc (Nat.le_refl _) _
                  have hc11 := (HC10.out.over hba).kept (HK10.out.over hba) ha11
                  have hk11 := (HK10.out.over hba).grown (HC10.out.over hba) ho11 ha11 (by rw [asz]; exact hn11)
                  have hA11 : Held9 w w5.heap.size (.slice (some ⟨b2, off2, none⟩) all.length c7) all T10 lg w11 := by
                    have h1 := HA10.out.over hba
                    refine ⟨h1.own.aside ha11 (fun b hb e => ?_), h1.low, Nat.le_trans h1.le ha11.size, h1.away⟩
                    have h2 := (HK10.out.own.lt b e).1
                    have h3 := HAB.out b hb
                    omega
                  have hkk : needP s.length + (needP (s.length + (frm x).length) - needP s.length) = needP t.length := by rw [HTL.out]; have := needP_mono (Nat.le_add_right s.length (frm x).length); omega
                  rw [hkk, HT.out] at hc11
                  have HC11 := Lib.hid hc11
                  have HK11 := Lib.hid hk11
                  have HA11 := Lib.hid hA11
                  clear hba hc11 hk11 hA11 hkk ho11 ha11 hn11
                  go_wp2
                  go_roundw
                  case rel =>
                    refine ⟨k + 1, (appendD D [108] s (frm x)).1, T10, kept ++ [x], by go_num, by omega, by rw [HSN.out, HT.out], ?_, HK11, HA11, ?_, by simp; omega⟩
                    · unfold Hid
                      rw [HSN.out, HT.out]
                      exact HC11.out
                    · unfold Hid
                      have := hfl.out
                      rw [HFT.out, HSN.out, List.length_append, List.length_append]
                      omega
                  case measure => simp [intOf]; omega
            · have hcnt := hcm.out.count
              have hfit := hcm.out.fits
              have HOP := Lib.hid (open_lay g (12 + 10000 * k) [108] kept T D wr hcm.out.disk hcm.out.roomy.off (by simp) (by omega) (by omega) hcm.out.lay)
              have HLOW := Lib.hid hcm.out.low
              have HBW := Lib.hid hcm.out.below
              clear hcnt hfit
              go_wp2_with fail
              refine HOP.out.mono ?_
              rintro e w12 ⟨l2, v2, T12, rfl, hv12, _, _, _, hap12, _, _⟩
              have HB12 := Lib.hid (HBW.out.trans (hap12.low HBW.out.size HLOW.out))
              obtain ⟨A2, c2, rfl, hc21, hc22⟩ := hv12.strs.len
              have hc22 : c2 ≤ 9223372036854775807 := hc22
              have hkn : ∀ b, _ → _ := hkp.out.away
              have HKS := Lib.hid (hkp.out.own.aside hap12 (fun b hb ht => (hkp.out.away b hb).1 ht)).strs
              have HSM := Lib.hid (same_any _ _ kept kept w12 hv12.strs HKS.out)
              clear hap12 hv12 hkn
              go_wp2_with (go_at_call 16; refine HSM.out.mono ?_; rintro e w13 ⟨rfl, hb13⟩; have HB13 := Lib.hid (HB12.out.trans (hb13.mono HB12.out.size)); clear hb13)
              go_ret
              exact ⟨by simp, HB13.out⟩
  · go_wp2_with fail
    go_ret
    exact ⟨rfl, HB3.out⟩

theorem lf_walk (r : Int) (v : Value) (l : List (List UInt8)) (big : ByteArray) (w : World) (hr1 : (Lit.int .i64 r).wf = true) (h : Strs w w.heap.size v l ∧ ∀ p ∈ l, p.length ≤ 140737488351232) (hb : big.size ≤ 140737488351232) :
    Calls Try.prog 5 #[.int .i64 r, v, .string big] w (Gives (.bool true) w) := by
  obtain ⟨bl, rfl⟩ : ∃ bl : List UInt8, big = ⟨bl.toArray⟩ := ⟨big.data.toList, by simp⟩
  by_cases hr : r < 0 ∨ 10 < r
  · exact lf_out r v l bl w hr1 hr h.1
  · obtain ⟨n, rfl⟩ := Int.eq_ofNat_of_zero_le (show 0 ≤ r by omega)
    exact lf_main n v l bl w (by omega) h.1 h.2 hb

end Go.Proofs.Ytoajfnkhonegnaa.Cd

namespace Go.Proofs.Ytoajfnkhonegnaa.LogFull
open Go.RowKit Go.Proofs.Ytoajfnkhonegnaa.Cd

theorem walk (r : Int) (v : Value) (l : List (List UInt8)) (big : ByteArray) (w : World) (hr1 : (Lit.int .i64 r).wf = true) (h : Cd.Strs w w.heap.size v l ∧ ∀ p ∈ l, p.length ≤ 140737488351232) (hb : big.size ≤ 140737488351232) : Calls Try.prog 5 #[.int .i64 r, v, .string big] w (Gives (.bool true) w) :=
  lf_walk r v l big w hr1 h hb

end Go.Proofs.Ytoajfnkhonegnaa.LogFull
