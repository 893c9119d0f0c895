/-
  The library's contracts on sorting what the keys of a map of strings are, at this seat. Conditions: none. Laid by program (tools/iter.sh).
-/
import Derived.Test.YtkbmajgbhpecgaaGreatDoorG12
import Derived.Test.YtkbmajgbhpecgaaGreatDoorG8
import Derived.Test.YtkbmajgbhpecgaaGreatDoorG9
import Derived.Test.YtkbmajgbhpecgaaGreatDoorG10
import Derived.Shelf.SlIter.Nil
import Derived.Shelf.SortM.Plain
import Derived.Shelf.SortM.SortNone
import Derived.Ground.GgzProg
import Derived.Ground.SlgmProg
import Derived.Test.YtkbmajgbhpecgaaGreatDoorRows
/-
  posted: the record that a journal is. Conditions: the power is on; no more than 2000 pages.
-/
namespace Go.Proofs.YtkbmajgbhpecgaaGreatDoor.Cd
open Go.RowKit
set_option linter.unusedVariables false

theorem preads_in {D : Dsk} {n q : List UInt8} {k : Nat} {w w' : World} {e : Ending} (ho : D.off = false) (hk : (pagesF D.now n)[k]? = some q) (h : ReadsD D n (k : Int) w e w') :
    q.length = 512 ∧ e = .returned (.tuple #[.slice (some ⟨w.heap.size, 0, none⟩) 512 512, .int .i64 0]) ∧ w' = w.alloc (.cells (vb q).toArray 110) := by
  obtain ⟨hlt, hq⟩ := List.getElem?_eq_some_iff.1 hk
  have hr : readD D n (k : Int) = (q, 0) := by
    unfold readD
    rw [if_neg (by rw [ho]; simp), if_neg (by omega), Int.toNat_natCast, List.getD_eq_getElem?_getD, hk]
    rfl
  rcases h with ⟨p, h1, h2, h3, h4⟩ | ⟨m, h1, h2, _⟩
  · rw [hr] at h1
    injection h1 with h1
    subst h1
    exact ⟨h2, h3, h4⟩
  · rw [hr] at h2
    injection h2 with _ h2
    exact absurd h2.symm h1
/-- A page that was read lies whole in its block. -/
theorem psl_page {w : World} {g : Nat} {q : List UInt8} (hl : q.length = 512) (T : TypeId) (hg : w.heap[g]? = some (.cells (vb q).toArray T)) : Sl w w.heap.size (.slice (some ⟨g, 0, none⟩) 512 512) q := by
  refine ⟨_, 512, by rw [hl], by omega, by decide, (fun h => by cases h), fun ad e _ => ?_, fun ad e j u hu => ?_⟩
  · injection e with e
    subst e
    exact (Array.getElem?_eq_some_iff.1 hg).1
  · injection e with e
    subst e
    rw [Addr.add_lit, Nat.zero_add, cell_of_row _ _ _ _ _ _ hg, List.getElem?_toArray]
    exact hu
theorem ppages_take {P : List (List UInt8)} {k : Nat} {q : List UInt8} (hq : P[k]? = some q) : (P.take (k + 1)).flatten = (P.take k).flatten ++ q := by
  obtain ⟨h1, h2⟩ := List.getElem?_eq_some_iff.1 hq
  rw [List.take_succ_eq_append_getElem h1, h2, List.flatten_append]
  simp

/-- What posted answers of a journal's bytes. -/
def Posted (B : List UInt8) (w : World) (e : Ending) (w' : World) : Prop := ∃ ds cur, Splits B ds cur ∧ Below w.heap.size w w' ∧
  ((∃ r, ds = [r] ∧ e = .returned (.tuple #[.string ⟨r.toArray⟩, .bool true])) ∨ (ds.length ≠ 1 ∧ e = .returned (.tuple #[.string ⟨#[]⟩, .bool false])))

set_option maxRecDepth 100000 in
set_option maxHeartbeats 3200000 in
theorem posted_p (p g N : Nat) (n : List UInt8) (S : Nat → Prop) (D : Dsk) (w : World) (h : PgrAt w S p g n) (hd : DkS w g N S D) (ho : D.off = false) (hn : n.length ≤ 140737488355000) (hc : (pagesF D.now (jnl n)).length ≤ 2000)
    (hz : ∀ r cur, Splits (pagesF D.now (jnl n)).flatten [r] cur → cur = List.replicate cur.length 0) :
    Calls Tryz.prog 55 #[.pointer (some ⟨p, 0, none⟩)] w (Posted (pagesF D.now (jnl n)).flatten w) := by
  have hjl : (jnl n).length ≤ 140737488355328 := by simp [jnl]; omega
  obtain ⟨P, hP⟩ : ∃ x, pagesF D.now (jnl n) = x := ⟨_, rfl⟩
  have HCT : ∀ W, DkS W g N S D → Calls Tryz.prog 38 #[.pointer (some ⟨g, 0, none⟩), .string ⟨(jnl n).toArray⟩] W (fun e w' => e = .returned (.int .i64 (P.length : Nat)) ∧ w' = W) := fun W hW => by
    have := count_dks g N S D (jnl n) W hW ho hjl
    rwa [hP] at this
  have HRD : ∀ (W : World) (k : Nat) (q : List UInt8), DkS W g N S D → P[k]? = some q → k ≤ 2000 → Calls Tryz.prog 65 #[.pointer (some ⟨g, 0, none⟩), .string ⟨(jnl n).toArray⟩, .int .i64 (k : Int)] W
      (fun e w' => q.length = 512 ∧ e = .returned (.tuple #[.slice (some ⟨W.heap.size, 0, none⟩) 512 512, .int .i64 0]) ∧ w' = W.alloc (.cells (vb q).toArray 110)) := fun W k q hW hq hk =>
    (read_dks g N S D (jnl n) W (k : Int) hW hjl (WalkArith.wf_i64 (by omega))).mono fun e w' h => preads_in ho (by rw [hP]; exact hq) h
  rw [hP] at hc hz ⊢
  have HP := Lib.hid h
  have HD := Lib.hid hd
  have HZ := Lib.hid hz
  obtain ⟨hnS, hlt, c0, c1⟩ := id h
  have HJ := Lib.hid (journal_any p g n S w.drew (h.below (Below.refl _ _).drew) hn)
  have HC := Lib.hid (HCT w.drew (hd.below (Below.refl _ _).drew))
  have HRD := Lib.hid HRD
  have hc' : (P.length : Int) ≤ 2000 := by omega
  obtain ⟨J, hJ⟩ : ∃ x, jnl n = x := ⟨_, rfl⟩
  rw [hJ] at HJ HC HRD hjl
  have HJJ := Lib.hid hJ
  clear h hd hz hP hJ HCT
  go_enter Tryz.func55, Tryz.ntmps55
  go_wp2_with fail
  go_region_held3 (fun W => W.cell? ⟨p, 0, none⟩ = some (.pointer (some ⟨g, 0, none⟩))) (first | exact c0 | assumption) (first
    | (go_at_call 54; refine HJ.out.mono ?_; rintro e w' ⟨rfl, rfl⟩)
    | (go_at_call 38; refine HC.out.mono ?_; rintro e w' ⟨rfl, rfl⟩))
  have HB0 : Hid (Below w.heap.size w w.drew) := (Below.refl _ _).drew
  go_wp2_with fail
  go_loopw [4, 17] (fun b i wr => ∃ k : Nat, i = .int .i64 k ∧ k ≤ P.length ∧ Hid (Own wr w.heap.size b (P.take k).flatten) ∧ Hid ((P.take k).flatten.length = 512 * k) ∧ Hid (Below w.heap.size w wr)) (fun _ i _ => P.length - (intOf i).toNat)
  case atStart => exact ⟨0, rfl, by omega, (World.ownsRow_nil _ _ _ _), rfl, HB0⟩
  case round =>
    obtain ⟨k, rfl, hk, hown, hlen, hbl⟩ := hrel
    by_cases hlt2 : k < P.length
    · have hlt2' : (k : Int) < P.length := by omega
      obtain ⟨q, hq⟩ : ∃ q, P[k]? = some q := ⟨P[k], List.getElem?_eq_getElem hlt2⟩
      have hbd : Below w.heap.size w wr.drew := hbl.out.drew
      have HJ2 := Lib.hid (journal_any p g n S wr.drew (HP.out.below hbd) hn)
      rw [HJJ.out] at HJ2
      have HR2 := Lib.hid (HRD.out wr.drew k q (HD.out.below hbd) hq (by omega))
      have c2 : wr.drew.cell? ⟨p, 0, none⟩ = some (.pointer (some ⟨g, 0, none⟩)) := (hbd.cell (p := ⟨p, 0, none⟩) hlt).trans c0
      have c2' : wr.cell? ⟨p, 0, none⟩ = some (.pointer (some ⟨g, 0, none⟩)) := c2
      have HTK := Lib.hid (ppages_take hq)
      obtain ⟨L, hL⟩ : ∃ x, (P.take k).flatten = x := ⟨_, rfl⟩
      rw [hL] at hown hlen HTK
      have hzb := hbl.out.size
      have hpl : p < wr.heap.size := Nat.lt_of_lt_of_le hlt hzb
      clear hq hL hbd
      go_wp2_with fail
      go_region_held3 (fun W => W.cell? ⟨p, 0, none⟩ = some (.pointer (some ⟨g, 0, none⟩))) (first | exact c2 | assumption) (first
        | (go_at_call 54; refine HJ2.out.mono ?_; rintro e w' ⟨rfl, rfl⟩)
        | (go_at_call 65; refine HR2.out.mono ?_; rintro e w' ⟨hql, rfl, hw'⟩; have hS3 : w'.cell? ⟨p, 0, none⟩ = some (.pointer (some ⟨g, 0, none⟩)) := (by rw [hw']; exact (((Below.refl wr.heap.size wr.drew).alloc (Nat.le_refl _) _).cell (p := ⟨p, 0, none⟩) hpl).trans c2); have HW3 := Lib.hid hw'; clear hw'))
      have hql : q.length = 512 := by assumption
      have hb3 : Below wr.heap.size wr w' := by rw [HW3.out]; exact ((Below.refl _ _).drew).alloc (Nat.le_refl _) _
      have hsl3 : Sl w' w'.heap.size (.slice (some ⟨wr.heap.size, 0, none⟩) 512 512) q := by
        rw [HW3.out]
        exact psl_page hql 110 (heap_alloc_new wr.drew _)
      have HSL3 := Lib.hid hsl3
      have HO3 := Lib.hid (hown.out.keep hb3)
      have HB3 := Lib.hid (hbl.out.trans (hb3.mono hzb))
      have hz3 : w.heap.size ≤ w'.heap.size := Nat.le_trans hzb hb3.size
      clear hb3 hsl3 HW3 hown
      go_wp2_with (at_builtin; refine wp_append_sl rfl _ _ rfl w.heap.size _ L rfl HO3.out hz3 _ w'.heap.size q rfl HSL3.out ?hm ?hK)
      case hm => rw [hlen.out]; omega
      case hK =>
        intro v4 w4 ho4 hb4
        have HO4 := Lib.hid ho4
        have HB4 := Lib.hid (HB3.out.trans hb4)
        clear ho4 hb4
        go_wp2_with fail
        go_roundw
        case rel =>
          refine ⟨k + 1, by go_num, by omega, ?_, ?_, HB4⟩
          · unfold Hid
            rw [HTK.out]
            exact HO4.out
          · unfold Hid
            rw [HTK.out, List.length_append, hlen.out, hql]
            omega
        case measure => simp [intOf]; omega
    · have hkP : k = P.length := by omega
      have hlt2' : ¬ (k : Int) < P.length := by omega
      have htk : P.take k = P := by rw [hkP, List.take_length]
      have hown := hown.out
      have hln := hlen.out
      rw [htk] at hown hln
      have hPl : P.flatten.length ≤ 1048576 := by omega
      obtain ⟨B, hB⟩ : ∃ x, P.flatten = x := ⟨_, rfl⟩
      have HBB := Lib.hid hB
      rw [hB] at hown hPl
      have hz2 : Hid (∀ r cur, Splits B [r] cur → cur = List.replicate cur.length 0) := by unfold Hid; rw [← hB]; exact HZ.out
      obtain ⟨A4, c4, rfl, h41, h42⟩ := hown.sl.len
      have h42 : c4 ≤ 9223372036854775807 := h42
      have hA4 : 0 < B.length → ∃ g4, A4 = some ⟨g4, 0, none⟩ := fun h0 => by
        obtain ⟨g4, _, _, e, _⟩ := own_block hown h0
        injection e with e _ _
        exact ⟨g4, e⟩
      have HS4 := Lib.hid hown.sl
      have HA4 := Lib.hid hA4
      have CS := Lib.hid (split_any _ B wr HS4.out hPl)
      clear hown hln htk hkP hlen hB hA4
      go_wp2_with fail
      refine CS.out.mono ?_
      rintro e w2 ⟨u, ds, cur, hs, rfl, hos, hb2⟩
      obtain ⟨A5, c5, rfl, h51, h52⟩ := hos.strs.len
      have HSP := Lib.hid hs
      have HOS := Lib.hid hos
      have HB2 := Lib.hid (hbl.out.trans (hb2.mono hbl.out.size))
      have HS5 := Lib.hid ((HS4.out.below hb2).more hb2.size)
      clear hs hos hb2 CS
      by_cases h1 : ds.length = 1
      · obtain ⟨r, rfl⟩ : ∃ r, ds = [r] := by
          match ds, h1 with
          | [r], _ => exact ⟨r, rfl⟩
        have hcz := hz2.out r cur HSP.out
        have hBe := HSP.out.1
        obtain ⟨t, ht⟩ : ∃ x, (flat [r]).length = x := ⟨_, rfl⟩
        have hBl : B.length = t + cur.length := by rw [hBe, List.length_append, ht]
        rw [ht]
        obtain ⟨m, hm⟩ : ∃ x, cur.length = x := ⟨_, rfl⟩
        rw [hm] at hcz hBl
        have hdrop : B.drop t = List.replicate m 0 := by rw [hBe, ← ht, List.drop_left, hcz]
        have HDR := Lib.hid hdrop
        have HT := Lib.hid ht
        have HBL := Lib.hid hBl
        have hm2 : B.length - t = m := by omega
        have htB : (t : Int) ≤ (B.length : Int) := by omega
        have htc : (t : Int) ≤ (c4 : Int) := by omega
        have hB0 : 0 < B.length := by
          have := frm_pos r
          rw [flat_one] at ht
          omega
        obtain ⟨g4, rfl⟩ := HA4.out hB0
        have hs0 : ∃ s0 : Nat, 0 < s0 ∧ True := ⟨1, by omega, trivial⟩
        have d5 : ∃ b5 off5 c5', Value.slice A5 1 c5 = .slice (some ⟨b5, off5, none⟩) 1 c5' ∧ w2.cell? ⟨b5, off5, none⟩ = some (.string ⟨r.toArray⟩) := by
          obtain ⟨b5, off5, c5', e, _, _, _, hc⟩ := HOS.out.strs.at (by simp)
          exact ⟨b5, off5, c5', e, hc 0 (by simp)⟩
        obtain ⟨b5, off5, c5', e5, hc5⟩ := d5
        have hb5 : b5 < w2.heap.size := by
          obtain ⟨b6, off6, c6', e, _, _, hlt, _⟩ := HOS.out.strs.at (by simp)
          simp only [List.length_singleton] at e
          rw [e5] at e
          injection e with e _ _
          injection e with e
          injection e with e
          rw [e]
          exact hlt
        injection e5 with e5a _ e5c
        subst e5a e5c
        simp only [List.length_singleton] at h51 ⊢
        clear hcz hBe hdrop ht hm hBl hs0 HA4
        by_cases hct : c4 = t
        · have hsr := sl_rest HS5.out t (by have := HBL.out; omega) (some ⟨g4, 0, none⟩) (fun hq => absurd hct hq) (fun _ => rfl)
          rw [hm2, HDR.out, show c4 - t = 0 by omega] at hsr
          have CT := Lib.hid (trim_zeros _ m _ w2 hsr (fun _ => ⟨_, _, rfl⟩))
          clear hsr HS5 HS4
          go_wp2_with fail
          refine CT.out.mono ?_
          rintro e w3 ⟨rfl, hb3⟩
          have hc6 := (hb3.cell (p := ⟨b5, off5, none⟩) hb5).trans hc5
          have HB3 := Lib.hid (HB2.out.trans (hb3.mono HB2.out.size))
          clear hb3 CT hc5
          go_wp2_with fail
          go_ret2
          rw [HBB.out]
          exact ⟨[r], cur, HSP.out, HB3.out, .inl ⟨r, rfl, rfl⟩⟩
        · have hsr := sl_rest HS5.out t (by have := HBL.out; omega) ((some ⟨g4, 0, none⟩ : Option Addr).map (·.add t)) (fun _ => rfl) (fun hq => absurd hq hct)
          rw [hm2, HDR.out] at hsr
          simp only [Option.map_some, Addr.add_lit, Nat.zero_add] at hsr
          have CT := Lib.hid (trim_zeros _ m _ w2 hsr (fun _ => ⟨_, _, rfl⟩))
          clear hsr HS5 HS4
          go_wp2_with fail
          refine CT.out.mono ?_
          rintro e w3 ⟨rfl, hb3⟩
          have hc6 := (hb3.cell (p := ⟨b5, off5, none⟩) hb5).trans hc5
          have HB3 := Lib.hid (HB2.out.trans (hb3.mono HB2.out.size))
          clear hb3 CT hc5
          go_wp2_with fail
          go_ret2
          rw [HBB.out]
          exact ⟨[r], cur, HSP.out, HB3.out, .inl ⟨r, rfl, rfl⟩⟩
      · have h1' : ¬ (ds.length : Int) = 1 := by omega
        go_wp2_with fail
        go_ret2
        rw [HBB.out]
        exact ⟨ds, cur, HSP.out, HB2.out, .inr ⟨h1, rfl⟩⟩

end Go.Proofs.YtkbmajgbhpecgaaGreatDoor.Cd

/-
  Pages some of which are written already, and the same writes once more; files of two names; what a loss of power leaves: no Go in sight. Conditions: none.
-/
namespace Go.Proofs.YtkbmajgbhpecgaaGreatDoor.Cd

/-! ### Pages that are mixed -/

/-- A page is among those that are written. -/
def InW (ws : Pgs) (i : Nat) : Prop := ∃ p ∈ ws, p.1 = (i : Int)

theorem setP_at (P : List (List UInt8)) (i : Nat) (d : List UInt8) (j : Nat) : (setP P i d)[j]? = if j = i then some d else if j < P.length then P[j]? else if j < i + 1 then some nought else none := by
  unfold setP
  rw [List.getElem?_set]
  by_cases e : j = i
  · subst e
    rw [if_pos rfl, if_pos rfl]
    simp
    omega
  · rw [if_neg (fun h => e h.symm), if_neg e]
    by_cases h1 : j < P.length
    · rw [if_pos h1, List.getElem?_append_left h1]
    · rw [if_neg h1, List.getElem?_append_right (by omega), List.getElem?_replicate]
      by_cases h2 : j < i + 1
      · rw [if_pos h2, if_pos (by omega)]
      · rw [if_neg h2, if_neg (by omega)]

theorem fresh_lt (ws : Pgs) : ∀ {c f : Nat}, freshN c ws = some f → ∀ p ∈ ws, 0 ≤ p.1 ∧ p.1 < c + f := by
  induction ws with
  | nil => intro c f _ p hp; cases hp
  | cons q r ih =>
    intro c f h p hp
    rw [freshN] at h
    split at h
    · cases h
    · split at h
      · cases hr : freshN (c + 1) r with
        | none => rw [hr] at h; cases h
        | some g =>
          rw [hr] at h
          injection h with h
          have h : g + 1 = f := h
          rcases List.mem_cons.1 hp with rfl | hp
          · omega
          · have := ih hr p hp
            omega
      · rcases List.mem_cons.1 hp with rfl | hp
        · omega
        · exact ih h p hp
theorem fresh_all (ws : Pgs) : ∀ {c f : Nat}, freshN c ws = some f → ∀ i, c ≤ i → i < c + f → InW ws i := by
  induction ws with
  | nil => intro c f h i h1 h2; injection h with h; omega
  | cons q r ih =>
    intro c f h i h1 h2
    rw [freshN] at h
    split at h
    · cases h
    · split at h
      · rename_i hq
        cases hr : freshN (c + 1) r with
        | none => rw [hr] at h; cases h
        | some g =>
          rw [hr] at h
          injection h with h
          have h : g + 1 = f := h
          by_cases e : i = c
          · exact ⟨q, by simp, by rw [hq, e]⟩
          · obtain ⟨p, hp, hi⟩ := ih hr i (by omega) (by omega)
            exact ⟨p, List.mem_cons_of_mem _ hp, hi⟩
      · obtain ⟨p, hp, hi⟩ := ih h i h1 h2
        exact ⟨p, List.mem_cons_of_mem _ hp, hi⟩
theorem fresh_mix (ws : Pgs) : ∀ {c f : Nat}, freshN c ws = some f → ∀ d, c ≤ d → d ≤ c + f → freshN d ws = some (c + f - d) := by
  induction ws with
  | nil => intro c f h d h1 h2; injection h with h; rw [freshN]; congr 1; omega
  | cons q r ih =>
    intro c f h d h1 h2
    rw [freshN] at h ⊢
    split at h
    · cases h
    · rename_i hq
      rw [if_neg (by omega)]
      split at h
      · rename_i hqc
        cases hr : freshN (c + 1) r with
        | none => rw [hr] at h; cases h
        | some g =>
          rw [hr] at h
          injection h with h
          have h : g + 1 = f := h
          by_cases e : d = c
          · rw [if_pos (by omega), e, hr]
            show some (g + 1) = _
            congr 1; omega
          · rw [if_neg (by omega), ih hr d (by omega) (by omega)]
            congr 1; omega
      · by_cases e : d = c
        · rw [if_neg (by omega), e, h]
          congr 1; omega
        · rw [if_neg (by omega), ih h d h1 h2]

theorem laid_len (ws : Pgs) : ∀ {P : List (List UInt8)} {f : Nat}, freshN P.length ws = some f → (laidP P ws).length = P.length + f := by
  induction ws with
  | nil => intro P f h; injection h with h; subst h; rfl
  | cons p r ih =>
    intro P f h
    rw [freshN] at h
    show (laidP (setP P p.1.toNat (pad p.2)) r).length = _
    split at h
    · cases h
    · split at h
      · cases hr : freshN (P.length + 1) r with
        | none => rw [hr] at h; cases h
        | some g =>
          rw [hr] at h
          injection h with h
          have h : g + 1 = f := h
          rw [ih (f := g) (by rw [setP_len, ← hr]; congr 1; omega), setP_len]
          omega
      · rw [ih (f := f) (by rw [setP_len, ← h]; congr 1; omega), setP_len]
        omega

theorem laid_same (ws : Pgs) : ∀ {X Y : List (List UInt8)}, (∀ i, ¬ InW ws i → X[i]? = Y[i]?) → laidP X ws = laidP Y ws := by
  induction ws with
  | nil => intro X Y h; exact List.ext_getElem? fun i => h i (fun ⟨p, hp, _⟩ => by cases hp)
  | cons q r ih =>
    intro X Y h
    show laidP (setP X _ _) r = laidP (setP Y _ _) r
    refine ih fun i hi => ?_
    rw [setP_at, setP_at]
    by_cases e : i = q.1.toNat
    · rw [if_pos e, if_pos e]
    · rw [if_neg e, if_neg e]
      have hh := h i (fun ⟨p, hp, hpi⟩ => by
        rcases List.mem_cons.1 hp with rfl | hp
        · exact e (by omega)
        · exact hi ⟨p, hp, hpi⟩)
      by_cases hx : i < X.length
      · have hy : i < Y.length := by
          rw [List.getElem?_eq_getElem hx] at hh
          exact (List.getElem?_eq_some_iff.1 hh.symm).1
        rw [if_pos hx, if_pos hy, hh]
      · have hy : ¬ i < Y.length := fun hy => by
          rw [List.getElem?_eq_none (by omega), List.getElem?_eq_getElem hy] at hh
          cases hh
        rw [if_neg hx, if_neg hy]

/-- Pages, some of which are written, perhaps. -/
structure Mix (P : List (List UInt8)) (ws : Pgs) (f : Nat) (X : List (List UInt8)) : Prop where
  lo : P.length ≤ X.length
  hi : X.length ≤ P.length + f
  same : ∀ i : Nat, ¬ InW ws i → X[i]? = P[i]?

section
variable {P X : List (List UInt8)} {ws : Pgs} {f : Nat}
theorem Mix.start : Mix P ws f P := ⟨Nat.le_refl _, by omega, fun _ _ => rfl⟩
theorem Mix.laidP (h : Mix P ws f X) : laidP X ws = laidP P ws := laid_same ws h.same
theorem Mix.fresh (h : Mix P ws f X) (hf : freshN P.length ws = some f) : freshN X.length ws = some (P.length + f - X.length) := fresh_mix ws hf _ h.lo h.hi
theorem Mix.put (h : Mix P ws f X) (hf : freshN P.length ws = some f) {i : Nat} (hi : InW ws i) (d : List UInt8) : Mix P ws f (setP X i d) := by
  obtain ⟨p, hp, hpi⟩ := hi
  have hlt := fresh_lt ws hf p hp
  have h1 := h.lo
  have h2 := h.hi
  refine ⟨by rw [setP_len]; omega, by rw [setP_len]; omega, fun j hj => ?_⟩
  rw [setP_at, if_neg (fun e => hj ⟨p, hp, by rw [e]; exact hpi⟩), ← h.same j hj]
  by_cases hx : j < X.length
  · rw [if_pos hx]
  · rw [if_neg hx, if_neg (fun hlt2 => hj (fresh_all ws hf j (by omega) (by omega))), List.getElem?_eq_none (by omega)]
end

/-! ### Files of two names -/

def Only (l : List Fil) (a b : List UInt8) : Prop := ∀ m, (getF l m).isSome = true → m = a ∨ m = b

theorem count_two {l : List Fil} {a b : List UInt8} (h : Once l) (ho : Only l a b) (hne : a ≠ b) : count l = (pagesF l a).length + (pagesF l b).length := by
  have h1 := count_without h a
  have h2 := count_without (without_once h a) b
  have e : without (without l a) b = [] := by
    cases hw : without (without l a) b with
    | nil => rfl
    | cons x r =>
      have hg : getF (without (without l a) b) x.name = some x := by rw [hw, getF, if_pos rfl]
      rw [getF_without] at hg
      by_cases e1 : x.name = b
      · rw [if_pos e1] at hg; cases hg
      · rw [if_neg e1, getF_without] at hg
        by_cases e2 : x.name = a
        · rw [if_pos e2] at hg; cases hg
        · rw [if_neg e2] at hg
          rcases ho x.name (by rw [hg]; rfl) with h3 | h3
          · exact absurd h3 e2
          · exact absurd h3 e1
  have hp : pagesF (without l a) b = pagesF l b := pagesF_get (by rw [getF_without, if_neg (fun e => hne e.symm)])
  rw [e, hp] at h2
  simp only [count] at h2
  omega

theorem Only.put {l : List Fil} {a b : List UInt8} (h : Only l a b) {x : Fil} (hx : x.name = a ∨ x.name = b) : Only (putF l x) a b := by
  intro m hm
  rw [getF_put] at hm
  by_cases e : m = x.name
  · rw [e]; exact hx
  · rw [if_neg e] at hm; exact h m hm
theorem Only.without {l : List Fil} {a b c : List UInt8} (h : Only l a b) : Only (without l c) a b := by
  intro m hm
  rw [getF_without] at hm
  by_cases e : m = c
  · rw [if_pos e] at hm; cases hm
  · rw [if_neg e] at hm; exact h m hm
theorem Only.gone {l : List Fil} {a b c : List UInt8} (h : Only l a b) : Only (Cd.without l b) a c := by
  intro m hm
  rw [getF_without] at hm
  by_cases e : m = b
  · rw [if_pos e] at hm; cases hm
  · rw [if_neg e] at hm
    rcases h m hm with h | h
    · exact .inl h
    · exact absurd h e

theorem keeps_names {keep : Nat} (ws : List Wrt) : ∀ (i : Nat) (s : List Fil) (m : List UInt8), (getF (keeps keep i ws s) m).isSome = true → (getF s m).isSome = true ∨ ∃ w ∈ ws, w.name = m := by
  induction ws with
  | nil => intro i s m h; exact .inl h
  | cons w r ih =>
    intro i s m h
    rw [keeps] at h
    rcases ih _ _ _ h with h | ⟨x, hx, he⟩
    · split at h
      · rw [getF_put] at h
        by_cases e : m = w.name
        · exact .inr ⟨w, by simp, e.symm⟩
        · rw [if_neg (by exact e)] at h; exact .inl h
      · exact .inl h
    · exact .inr ⟨x, List.mem_cons_of_mem _ hx, he⟩
theorem there_names (l : List Fil) (s : List Fil) (m : List UInt8) (h : (getF (there l s) m).isSome = true) : (getF s m).isSome = true ∨ (getF l m).isSome = true := by
  cases hs : getF s m with
  | some f => exact .inl rfl
  | none =>
    rw [there_none l s m hs] at h
    by_cases e : (getF l m).isSome = true
    · exact .inr e
    · rw [if_neg e] at h; cases h
theorem there_pages (l : List Fil) (s : List Fil) (m : List UInt8) : pagesF (there l s) m = pagesF s m := by
  cases hs : getF s m with
  | some f => exact pagesF_get ((there_some l s m f hs).trans hs.symm)
  | none =>
    have := there_none l s m hs
    unfold pagesF
    rw [this, hs]
    split <;> rename_i e
    · split at e
      · injection e with e; rw [← e]
      · cases e
    · rfl
theorem there_is (l : List Fil) (s : List Fil) (m : List UInt8) (h : (getF s m).isSome = true) : getF (there l s) m = getF s m := by
  obtain ⟨f, hf⟩ := Option.isSome_iff_exists.1 h
  rw [there_some l s m f hf, hf]

/-- Behind a loss of power. -/
theorem lose_is {D : Dsk} (h : D.off = false) (k : Nat) : (lose D k).now = there D.now (keeps k 0 D.waits D.safe) ∧ (lose D k).safe = there D.now (keeps k 0 D.waits D.safe) ∧ (lose D k).waits = [] ∧ (lose D k).room = D.room ∧ (lose D k).fuse = 0 := by
  unfold lose
  rw [if_neg (by rw [h]; simp)]
  exact ⟨rfl, rfl, rfl, rfl, rfl⟩
theorem lose_only {D : Dsk} {a b : List UInt8} (h1 : Only D.now a b) (h2 : Only D.safe a b) (h3 : ∀ w ∈ D.waits, w.name = a ∨ w.name = b) (k : Nat) : Only (there D.now (keeps k 0 D.waits D.safe)) a b := by
  intro m hm
  rcases there_names _ _ _ hm with hm | hm
  · rcases keeps_names _ _ _ _ hm with hm | ⟨w, hw, e⟩
    · exact h2 m hm
    · rw [← e]; exact h3 w hw
  · exact h1 m hm

/-! ### Ahead of the journal, and with it -/

/-- The file's pages are these, and safe; there is no journal. -/
structure Kept (D : Dsk) (n : List UInt8) (P : List (List UInt8)) : Prop where
  once : Once D.now
  sonce : Once D.safe
  only : Only D.now n (drf n)
  sonly : Only D.safe n (drf n)
  pages : pagesF D.now n = P
  spages : pagesF D.safe n = P
  waits : ∀ w ∈ D.waits, w.name = drf n
/-- The journal is there, and safe; the file's pages are some of these, perhaps. -/
structure Jour (D : Dsk) (n : List UInt8) (R P : List (List UInt8)) (ws : Pgs) (f : Nat) : Prop where
  once : Once D.now
  sonce : Once D.safe
  only : Only D.now n (jnl n)
  sonly : Only D.safe n (jnl n)
  jn : getF D.now (jnl n) = some ⟨jnl n, R⟩
  sjn : getF D.safe (jnl n) = some ⟨jnl n, R⟩
  mix : Mix P ws f (pagesF D.now n)
  smix : Mix P ws f (pagesF D.safe n)
  waits : ∀ w ∈ D.waits, w.name = n ∧ InW ws w.page

theorem Kept.lose {D : Dsk} {n : List UInt8} {P : List (List UInt8)} (h : Kept D n P) (k : Nat) : Kept (lose D k) n P := by
  by_cases ho : D.off = true
  · rw [lose_again ho]; exact h
  · have ho : D.off = false := by simpa using ho
    obtain ⟨e1, e2, e3, _⟩ := lose_is ho k
    have hon := lose_only h.only h.sonly (fun w hw => .inr (h.waits w hw)) k
    have hp : pagesF (there D.now (keeps k 0 D.waits D.safe)) n = P := by
      rw [there_pages, pagesF_get (keeps_other D.waits 0 D.safe (fun w hw e => drf_ne n (by rw [← h.waits w hw, e])))]
      exact h.spages
    have hc := there_once D.now _ (keeps_once (keep := k) D.waits 0 D.safe h.sonce)
    exact ⟨by rw [e1]; exact hc, by rw [e2]; exact hc, by rw [e1]; exact hon, by rw [e2]; exact hon, by rw [e1]; exact hp, by rw [e2]; exact hp, by rw [e3]; simp⟩

theorem keeps_mix {P : List (List UInt8)} {ws : Pgs} {f keep : Nat} {n : List UInt8} (hf : freshN P.length ws = some f) (l : List Wrt) : ∀ (i : Nat) (s : List Fil), (∀ w ∈ l, w.name = n ∧ InW ws w.page) → Mix P ws f (pagesF s n) → Mix P ws f (pagesF (keeps keep i l s) n) := by
  induction l with
  | nil => intro i s _ h; exact h
  | cons w r ih =>
    intro i s hw h
    rw [keeps]
    refine ih _ _ (fun x hx => hw x (List.mem_cons_of_mem _ hx)) ?_
    split
    · obtain ⟨h1, h2⟩ := hw w (by simp)
      rw [pagesF_put, if_pos (by exact h1.symm)]
      show Mix P ws f (setP (pagesF s w.name) w.page w.data)
      rw [h1]
      exact h.put hf h2 _
    · exact h
theorem Jour.lose {D : Dsk} {n : List UInt8} {R P : List (List UInt8)} {ws : Pgs} {f : Nat} (h : Jour D n R P ws f) (hf : freshN P.length ws = some f) (k : Nat) : Jour (lose D k) n R P ws f := by
  by_cases ho : D.off = true
  · rw [lose_again ho]; exact h
  · have ho : D.off = false := by simpa using ho
    obtain ⟨e1, e2, e3, _⟩ := lose_is ho k
    have hon := lose_only h.only h.sonly (fun w hw => .inl (h.waits w hw).1) k
    have hj : getF (there D.now (keeps k 0 D.waits D.safe)) (jnl n) = some ⟨jnl n, R⟩ := by
      have e := keeps_other (keep := k) D.waits 0 D.safe (n := jnl n) (fun w hw e => jnl_ne n (by rw [← e, (h.waits w hw).1]))
      rw [there_is _ _ _ (by rw [e, h.sjn]; rfl), e]
      exact h.sjn
    have hm : Mix P ws f (pagesF (there D.now (keeps k 0 D.waits D.safe)) n) := by
      rw [there_pages]
      exact keeps_mix hf D.waits 0 D.safe h.waits h.smix
    have hc := there_once D.now _ (keeps_once (keep := k) D.waits 0 D.safe h.sonce)
    exact ⟨by rw [e1]; exact hc, by rw [e2]; exact hc, by rw [e1]; exact hon, by rw [e2]; exact hon, by rw [e1]; exact hj, by rw [e2]; exact hj, by rw [e1]; exact hm, by rw [e2]; exact hm, by rw [e3]; simp⟩

end Go.Proofs.YtkbmajgbhpecgaaGreatDoor.Cd

/-
  A commit, and an opening, wherever the power goes: no Go in sight. Conditions: none.
-/
namespace Go.Proofs.YtkbmajgbhpecgaaGreatDoor.Cd

/-- An act is done, and the power is on; or it went. -/
def Gets (R : Dsk × Nat) (I O : Dsk → Prop) : Prop := (R.2 = 0 ∧ R.1.off = false ∧ I R.1) ∨ (R.2 = 8 ∧ R.1.off = true ∧ O R.1)

theorem Gets.imp {R : Dsk × Nat} {I O I' O' : Dsk → Prop} (h : Gets R I O) (hI : ∀ D, D.off = false → I D → I' D) (hO : ∀ D, D.off = true → O D → O' D) : Gets R I' O' := by
  rcases h with ⟨a, b, c⟩ | ⟨a, b, c⟩
  · exact .inl ⟨a, b, hI _ b c⟩
  · exact .inr ⟨a, b, hO _ b c⟩
theorem out_ends {D D1 : Dsk} {I O : Dsk → Prop} (h0 : D1.off = false) (hI : I D1) (hO : ∀ k, O (lose D1 k)) : Gets (ends D D1 0) I O := by
  unfold ends
  split
  · exact .inr ⟨rfl, lose_off _ _, hO _⟩
  · exact .inl ⟨rfl, h0, hI⟩
theorem out_writes {n : List UInt8} {O : Dsk → Prop} (ws : Pgs) : ∀ {I : Nat → Dsk → Prop} {D : Dsk}, (∀ k D, (hk : k < ws.length) → D.off = false → I k D → Gets (writeD D n ws[k].1 ws[k].2) (I (k + 1)) O) → D.off = false → I 0 D → Gets (writes D n ws) (I ws.length) O := by
  induction ws with
  | nil => intro I D _ h0 h; exact .inl ⟨rfl, h0, h⟩
  | cons p r ih =>
    intro I D hs h0 h
    rcases hs 0 D (by simp) h0 h with ⟨a, b, c⟩ | ⟨a, b, c⟩
    · rw [writes_cons (show (writeD D n p.1 p.2).2 = 0 from a)]
      exact ih (I := fun k => I (k + 1)) (fun k D hk h0 h => hs (k + 1) D (by simpa using hk) h0 h) b c
    · rw [writes_bad (by show (writeD D n p.1 p.2).2 ≠ 0; rw [show (writeD D n p.1 p.2).2 = 8 from a]; omega)]
      exact .inr ⟨a, b, c⟩
theorem out_may {D : Dsk} {n : List UInt8} {I O : Dsk → Prop} (h0 : D.off = false) (h1 : (getF D.now n).isSome = true) (hI : I (actD D)) (hO : ∀ k, O (lose (actD D) k)) : Gets (mayD D n) I O := by
  rw [may_ok h0 h1]
  exact out_ends h0 hI hO
theorem out_act {R : Dsk × Nat} {g : Dsk → Dsk} {I O : Dsk → Prop} (h : Gets R (fun D => I (g D)) O) (hg : ∀ D, (g D).off = D.off) : Gets (if R.2 = 0 then (g R.1, 0) else R) I O := by
  rcases h with ⟨a, b, c⟩ | ⟨a, b, c⟩
  · rw [if_pos a]; exact .inl ⟨rfl, by rw [hg]; exact b, c⟩
  · rw [if_neg (by omega)]; exact .inr ⟨a, b, c⟩

/-- Nothing but the file is there, and it is safe. -/
structure Fine (D : Dsk) (n : List UInt8) (P : List (List UInt8)) : Prop where
  kept : Kept D n P
  draft : (getF D.now (drf n)).isSome = false
  waits : D.waits = []

theorem Kept.act {D : Dsk} {n : List UInt8} {P : List (List UInt8)} (h : Kept D n P) : Kept (actD D) n P := ⟨h.once, h.sonce, h.only, h.sonly, h.pages, h.spages, h.waits⟩
theorem Kept.on {D : Dsk} {n : List UInt8} {P : List (List UInt8)} (h : Kept D n P) : Kept (onD D) n P := ⟨h.once, h.sonce, h.only, h.sonly, h.pages, h.spages, h.waits⟩
theorem Kept.arm {D : Dsk} {n : List UInt8} {P : List (List UInt8)} (h : Kept D n P) (a : Int) (k : Nat) : Kept (armD D a k) n P := ⟨h.once, h.sonce, h.only, h.sonly, h.pages, h.spages, h.waits⟩
theorem Jour.act {D : Dsk} {n : List UInt8} {R P : List (List UInt8)} {ws : Pgs} {f : Nat} (h : Jour D n R P ws f) : Jour (actD D) n R P ws f := ⟨h.once, h.sonce, h.only, h.sonly, h.jn, h.sjn, h.mix, h.smix, h.waits⟩
theorem Jour.on {D : Dsk} {n : List UInt8} {R P : List (List UInt8)} {ws : Pgs} {f : Nat} (h : Jour D n R P ws f) : Jour (onD D) n R P ws f := ⟨h.once, h.sonce, h.only, h.sonly, h.jn, h.sjn, h.mix, h.smix, h.waits⟩
theorem Jour.arm {D : Dsk} {n : List UInt8} {R P : List (List UInt8)} {ws : Pgs} {f : Nat} (h : Jour D n R P ws f) (a : Int) (k : Nat) : Jour (armD D a k) n R P ws f := ⟨h.once, h.sonce, h.only, h.sonly, h.jn, h.sjn, h.mix, h.smix, h.waits⟩
theorem Fine.arm {D : Dsk} {n : List UInt8} {P : List (List UInt8)} (h : Fine D n P) (a : Int) (k : Nat) : Fine (armD D a k) n P := ⟨h.kept.arm a k, h.draft, h.waits⟩
theorem Fine.nojournal {D : Dsk} {n : List UInt8} {P : List (List UInt8)} (h : Fine D n P) : (getF D.now (jnl n)).isSome = false := by
  cases e : (getF D.now (jnl n)).isSome
  · rfl
  · rcases h.kept.only _ e with h | h
    · exact absurd h (jnl_ne n)
    · exact absurd h (jnl_drf n)
theorem Fine.bare {D : Dsk} {n : List UInt8} {P : List (List UInt8)} (h : Fine D n P) : Bare D n := ⟨h.draft, h.nojournal⟩
theorem Kept.count {D : Dsk} {n : List UInt8} {P : List (List UInt8)} (h : Kept D n P) : count D.now = P.length + (pagesF D.now (drf n)).length := by rw [count_two h.once h.only (drf_ne n).symm, h.pages]
theorem Jour.count {D : Dsk} {n : List UInt8} {R P : List (List UInt8)} {ws : Pgs} {f : Nat} (h : Jour D n R P ws f) : count D.now = (pagesF D.now n).length + R.length := by
  rw [count_two h.once h.only (jnl_ne n).symm]
  congr 1
  unfold pagesF
  rw [h.jn]

theorem drop_waits {ws : List Wrt} {n : List UInt8} (h : ∀ w ∈ ws, w.name = n) : dropW ws n 0 = [] := by
  apply List.eq_nil_iff_forall_not_mem.2
  intro w hw
  unfold dropW at hw
  obtain ⟨h1, h2⟩ := List.mem_filter.1 hw
  simp only [decide_eq_true_eq] at h2
  rcases h2 with h2 | h2
  · exact h2 (h w h1)
  · omega

/-- The draft is thrown away, if there is one. -/
theorem Kept.discard {D : Dsk} {n : List UInt8} {P : List (List UInt8)} (h : Kept D n P) (h0 : D.off = false) (hw : D.waits = [] ∨ (getF D.now (drf n)).isSome = true) : Gets (discardD D n) (fun E => Fine E n P ∧ E.room = D.room) (fun E => Kept E n P ∧ E.room = D.room) := by
  unfold discardD
  by_cases hd : (getF D.now (drf n)).isSome = true
  · rw [if_pos hd]
    unfold removeD
    refine out_act (R := mayD D (drf n)) (g := fun E => removes E (drf n)) (out_may h0 hd ?_ fun k => ⟨h.act.lose k, ?_⟩) fun _ => rfl
    · have hs : getF (removes (actD D) (drf n)).now (drf n) = none := by
        show getF (without D.now (drf n)) (drf n) = none
        rw [getF_without, if_pos rfl]
      have hwn : (removes (actD D) (drf n)).waits = [] := drop_waits h.waits
      refine ⟨⟨⟨without_once h.once _, without_once h.sonce _, h.only.without, h.sonly.without, ?_, ?_, by rw [hwn]; simp⟩, by rw [hs]; rfl, hwn⟩, rfl⟩
      · exact (pagesF_get (by show getF (without D.now (drf n)) n = _; rw [getF_without, if_neg (drf_ne n).symm])).trans h.pages
      · exact (pagesF_get (by show getF (without D.safe (drf n)) n = _; rw [getF_without, if_neg (drf_ne n).symm])).trans h.spages
    · exact (lose_is (D := actD D) h0 k).2.2.2.1
  · rw [if_neg hd]
    have hd : (getF D.now (drf n)).isSome = false := by simpa using hd
    refine .inl ⟨rfl, h0, ⟨⟨h, hd, ?_⟩, rfl⟩⟩
    rcases hw with hw | hw
    · exact hw
    · rw [hw] at hd; cases hd

theorem write_is {D : Dsk} {n b : List UInt8} {i : Nat} (h0 : D.off = false) (hi : i ≤ (pagesF D.now n).length) (hb : b.length ≤ 512) (hr : i = (pagesF D.now n).length → count D.now < D.room) : writeD D n i b = ends D (wrote D n i b) 0 := by
  unfold writeD
  rw [if_neg (by rw [h0]; simp), if_neg (by omega), if_neg (by omega), if_neg (fun h2 => ?_), Int.toNat_natCast]
  have := hr (by omega)
  have := h2.2
  unfold freeD at this
  omega

/-- The pages of bytes, as they lie in a file. -/
def pagesB (b : List UInt8) : List (List UInt8) := (chunks b).map fun p => pad p.2

theorem chunks_at (b : List UInt8) {k : Nat} (hk : k < (chunks b).length) : (chunks b)[k].1 = (k : Int) := by simp [chunks]
/-- The record is posted: or the power goes ahead of that. -/
theorem Fine.post {D : Dsk} {n : List UInt8} {P : List (List UInt8)} {ws : Pgs} {f : Nat} (h : Fine D n P) (h0 : D.off = false) {b : List UInt8} (hb0 : 0 < b.length) (hr : P.length + pagesOf b.length ≤ D.room) :
    Gets (postD D n b) (fun E => Jour E n (pagesB b) P ws f ∧ E.waits = [] ∧ pagesF E.now n = P ∧ E.room = D.room) (fun E => Kept E n P ∧ E.room = D.room) := by
  have hd : discardD D n = (D, 0) := by unfold discardD; rw [if_neg (by rw [h.draft]; simp)]
  have hp0 : pagesF D.now (drf n) = [] := pages_of_none h.draft
  have hw := out_writes (n := drf n) (O := fun E => Kept E n P ∧ E.room = D.room) (chunks b)
    (I := fun k E => Kept E n P ∧ E.room = D.room ∧ pagesF E.now (drf n) = ((chunks b).take k).map (fun p => pad p.2) ∧ (0 < k → (getF E.now (drf n)).isSome = true)) (D := D)
    (fun k E hk h0 hE => by
      obtain ⟨e1, e2, e3, e4⟩ := hE
      have hlen : (pagesF E.now (drf n)).length = k := by rw [e3, List.length_map, List.length_take]; omega
      have hkl : k < pagesOf b.length := by rw [← chunks_len]; exact hk
      rw [chunks_at b hk, write_is h0 (by omega) (chunks_short b _ (List.getElem_mem hk)) (fun _ => by rw [e1.count, hlen, e2]; omega)]
      have hk1 : Kept (wrote E (drf n) k (chunks b)[k].2) n P := by
        refine ⟨put_once e1.once _, e1.sonce, e1.only.put (.inr rfl), e1.sonly, ?_, e1.spages, fun w hx => ?_⟩
        · show pagesF (putF E.now _) n = P
          rw [pagesF_put, if_neg (fun e => drf_ne n (by exact e.symm))]
          exact e1.pages
        · have hx : w ∈ E.waits ++ [⟨drf n, k, pad (chunks b)[k].2⟩] := hx
          rcases List.mem_append.1 hx with hx | hx
          · exact e1.waits w hx
          · rw [List.mem_singleton] at hx
            rw [hx]
      refine out_ends h0 ⟨hk1, e2, ?_, fun _ => ?_⟩ fun k' => ⟨hk1.lose k', ((lose_is (D := wrote E (drf n) k (chunks b)[k].2) h0 k').2.2.2.1).trans e2⟩
      · show pagesF (putF E.now ⟨drf n, setP (pagesF E.now (drf n)) k _⟩) (drf n) = _
        rw [pagesF_put, if_pos rfl]
        show setP (pagesF E.now (drf n)) k _ = _
        rw [List.take_succ_eq_append_getElem hk, List.map_append, ← e3]
        have e := setP_end (pagesF E.now (drf n)) (pad (chunks b)[k].2)
        rw [hlen] at e
        rw [e]
        rfl
      · show (getF (putF E.now _) (drf n)).isSome = true
        rw [getF_put, if_pos rfl]; rfl) h0 ⟨h.kept, rfl, by simpa using hp0, fun h => by omega⟩
  unfold postD
  simp only [hd, ne_eq, not_true_eq_false, if_false]
  rcases hw with ⟨a, b1, c⟩ | ⟨a, b1, c⟩
  · rw [if_neg (fun h => h a)]
    generalize (writes D (drf n) (chunks b)).1 = E at b1 c ⊢
    obtain ⟨c1, c2, c3, c4⟩ := c
    rw [List.take_length] at c3
    have his := c4 (by rw [chunks_len]; exact pagesOf_pos hb0)
    -- the draft is synced
    have hs : Gets (syncD E (drf n)) (fun E => Kept E n P ∧ E.room = D.room ∧ pagesF E.now (drf n) = pagesB b ∧ pagesF E.safe (drf n) = pagesB b ∧ (getF E.now (drf n)).isSome = true ∧ E.waits = []) (fun E => Kept E n P ∧ E.room = D.room) := by
      unfold syncD
      refine out_act (R := mayD E (drf n)) (g := fun E => syncs E (drf n)) (out_may b1 his ?_ fun k => ⟨c1.act.lose k, ((lose_is (D := actD E) b1 k).2.2.2.1).trans c2⟩) fun _ => rfl
      have hwn : (syncs (actD E) (drf n)).waits = [] := drop_waits c1.waits
      refine ⟨⟨c1.once, put_once c1.sonce _, c1.only, c1.sonly.put (.inr rfl), c1.pages, ?_, by rw [hwn]; simp⟩, c2, c3, ?_, his, hwn⟩
      · show pagesF (putF E.safe _) n = P
        rw [pagesF_put, if_neg (fun e => drf_ne n (by exact e.symm))]
        exact c1.spages
      · show pagesF (putF E.safe ⟨drf n, pagesF E.now (drf n)⟩) (drf n) = _
        rw [pagesF_put, if_pos rfl]
        exact c3
    rcases hs with ⟨a, b2, c⟩ | ⟨a, b2, c⟩
    · rw [if_neg (fun h => h a)]
      generalize (syncD E (drf n)).1 = G at b2 c ⊢
      obtain ⟨d1, d2, d3, d4, d5, d6⟩ := c
      unfold renameD
      have hne : drf n ≠ jnl n := fun e => jnl_drf n e.symm
      have hsplit : (if (mayD G (drf n)).2 = 0 ∧ drf n ≠ jnl n then (renames (mayD G (drf n)).1 (drf n) (jnl n), 0) else mayD G (drf n)) = (if (mayD G (drf n)).2 = 0 then (renames (mayD G (drf n)).1 (drf n) (jnl n), 0) else mayD G (drf n)) := by
        by_cases hm : (mayD G (drf n)).2 = 0
        · rw [if_pos ⟨hm, hne⟩, if_pos hm]
        · rw [if_neg (fun h => hm h.1), if_neg hm]
      rw [hsplit]
      refine out_act (R := mayD G (drf n)) (g := fun E => renames E (drf n) (jnl n)) (out_may b2 d5 ?_ fun k => ⟨d1.act.lose k, ((lose_is (D := actD G) b2 k).2.2.2.1).trans d2⟩) fun _ => rfl
      have hwn : (renames (actD G) (drf n) (jnl n)).waits = [] := by
        show (dropW G.waits (jnl n) 0).map _ = []
        rw [d6]
        rfl
      have p1 : ∀ l : List Fil, pagesF (putF (without l (drf n)) ⟨jnl n, pagesF l (drf n)⟩) n = pagesF l n := fun l => by
        rw [pagesF_put, if_neg (fun e => jnl_ne n (by exact e.symm))]
        exact pagesF_get (by rw [getF_without, if_neg (drf_ne n).symm])
      have p2 : ∀ l : List Fil, getF (putF (without l (drf n)) ⟨jnl n, pagesF l (drf n)⟩) (jnl n) = some ⟨jnl n, pagesF l (drf n)⟩ := fun l => by rw [getF_put, if_pos rfl]
      have hP : pagesF (renames (actD G) (drf n) (jnl n)).now n = P := (p1 G.now).trans d1.pages
      refine ⟨⟨put_once (without_once d1.once _) _, put_once (without_once d1.sonce _) _, ?_, ?_, ?_, ?_, by rw [hP]; exact Mix.start, ?_, by rw [hwn]; simp⟩, hwn, hP, d2⟩
      · exact (d1.only.gone (c := jnl n)).put (.inr rfl)
      · exact (d1.sonly.gone (c := jnl n)).put (.inr rfl)
      · show getF (putF (without G.now (drf n)) ⟨jnl n, pagesF G.now (drf n)⟩) (jnl n) = _
        rw [p2, d3]
      · show getF (putF (without G.safe (drf n)) ⟨jnl n, pagesF G.safe (drf n)⟩) (jnl n) = _
        rw [p2, d4]
      · rw [show pagesF (renames (actD G) (drf n) (jnl n)).safe n = P from (p1 G.safe).trans d1.spages]
        exact Mix.start
    · rw [if_pos (by rw [a]; omega)]
      exact .inr ⟨a, b2, c⟩
  · rw [if_pos (by rw [a]; omega)]
    exact .inr ⟨a, b1, c⟩

theorem writes_fresh_take (ws : Pgs) (k : Nat) (hk : k < ws.length) : ws.drop k = ws[k] :: ws.drop (k + 1) := List.drop_eq_getElem_cons hk

/-- The journal's pages are written: all of them, or the power goes. -/
theorem Jour.settle {D : Dsk} {n : List UInt8} {R P : List (List UInt8)} {ws : Pgs} {f : Nat} (h : Jour D n R P ws f) (h0 : D.off = false) (hf : freshN P.length ws = some f) (hws : ws ≠ []) (hl : ∀ p ∈ ws, p.2.length ≤ 512) (hr : P.length + f + R.length ≤ D.room) :
    Gets (settleD D n ws) (fun E => Fine E n (laidP P ws) ∧ E.room = D.room) (fun E => Jour E n R P ws f ∧ E.room = D.room) := by
  have hw := out_writes (n := n) (O := fun E => Jour E n R P ws f ∧ E.room = D.room) ws
    (I := fun k E => Jour E n R P ws f ∧ E.room = D.room ∧ (∃ g, freshN (pagesF E.now n).length (ws.drop k) = some g ∧ (pagesF E.now n).length + g = P.length + f) ∧ laidP (pagesF E.now n) (ws.drop k) = laidP P ws ∧ (0 < k → (getF E.now n).isSome = true)) (D := D)
    (fun k E hk h0 hE => by
      obtain ⟨e1, e2, ⟨g, e3, e3'⟩, e4, _⟩ := hE
      rw [writes_fresh_take ws k hk] at e3 e4
      have hin : InW ws ws[k].1.toNat := by
        have := (fresh_lt ws hf _ (List.getElem_mem hk)).1
        exact ⟨ws[k], List.getElem_mem hk, by omega⟩
      obtain ⟨i, hi⟩ : ∃ i : Nat, ws[k].1 = (i : Int) := ⟨ws[k].1.toNat, by have := (fresh_lt ws hf _ (List.getElem_mem hk)).1; omega⟩
      rw [hi] at hin ⊢
      rw [Int.toNat_natCast] at hin
      have hbl := hl _ (List.getElem_mem hk)
      rw [freshN, hi] at e3
      have hle : i ≤ (pagesF E.now n).length := by
        by_cases hb : (i : Int) < 0 ∨ ((pagesF E.now n).length : Int) < i
        · rw [if_pos hb] at e3; cases e3
        · omega
      rw [if_neg (by omega)] at e3
      have hg : (i = (pagesF E.now n).length → ∃ g', freshN ((pagesF E.now n).length + 1) (ws.drop (k + 1)) = some g' ∧ g' + 1 = g) ∧ (i ≠ (pagesF E.now n).length → freshN (pagesF E.now n).length (ws.drop (k + 1)) = some g) := by
        refine ⟨fun e => ?_, fun e => ?_⟩
        · rw [if_pos (by omega)] at e3
          cases hr2 : freshN ((pagesF E.now n).length + 1) (ws.drop (k + 1)) with
          | none => rw [hr2] at e3; cases e3
          | some g' => rw [hr2] at e3; injection e3 with e3; exact ⟨g', rfl, e3⟩
        · rwa [if_neg (by omega)] at e3
      rw [write_is h0 hle hbl (fun e => by
        obtain ⟨g', _, hg'⟩ := hg.1 e
        rw [e1.count, e2]; omega)]
      have hpw : pagesF (wrote E n i ws[k].2).now n = setP (pagesF E.now n) i (pad ws[k].2) := by
        show pagesF (putF E.now ⟨n, _⟩) n = _
        rw [pagesF_put, if_pos rfl]
      have hk1 : Jour (wrote E n i ws[k].2) n R P ws f := by
        refine ⟨put_once e1.once _, e1.sonce, e1.only.put (.inl rfl), e1.sonly, ?_, e1.sjn, ?_, e1.smix, fun w hx => ?_⟩
        · show getF (putF E.now _) (jnl n) = _
          rw [getF_put, if_neg (by exact jnl_ne n)]
          exact e1.jn
        · rw [hpw]
          exact e1.mix.put hf hin _
        · have hx : w ∈ E.waits ++ [⟨n, i, pad ws[k].2⟩] := hx
          rcases List.mem_append.1 hx with hx | hx
          · exact e1.waits w hx
          · rw [List.mem_singleton] at hx
            rw [hx]
            exact ⟨rfl, hin⟩
      refine out_ends h0 ⟨hk1, e2, ?_, ?_, fun _ => ?_⟩ fun k' => ⟨hk1.lose hf k', ((lose_is (D := wrote E n i ws[k].2) h0 k').2.2.2.1).trans e2⟩
      · rw [hpw, setP_len]
        by_cases e : i = (pagesF E.now n).length
        · obtain ⟨g', q1, q2⟩ := hg.1 e
          exact ⟨g', by rw [show max (pagesF E.now n).length (i + 1) = (pagesF E.now n).length + 1 by omega]; exact q1, by omega⟩
        · exact ⟨g, by rw [show max (pagesF E.now n).length (i + 1) = (pagesF E.now n).length by omega]; exact hg.2 e, by omega⟩
      · rw [hpw, ← e4]
        show _ = laidP (setP (pagesF E.now n) ws[k].1.toNat (pad ws[k].2)) _
        rw [hi, Int.toNat_natCast]
      · show (getF (putF E.now _) n).isSome = true
        rw [getF_put, if_pos rfl]; rfl) h0 ⟨h, rfl, ⟨_, h.mix.fresh hf, by have := h.mix.hi; omega⟩, h.mix.laidP, fun h => by omega⟩
  unfold settleD
  rcases hw with ⟨a, b1, c⟩ | ⟨a, b1, c⟩
  · rw [if_neg (fun h => h a)]
    generalize (writes D n ws).1 = E at b1 c ⊢
    obtain ⟨c1, c2, _, c4, c5⟩ := c
    rw [List.drop_length] at c4
    have c4 : pagesF E.now n = laidP P ws := c4
    have his := c5 (by cases ws with | nil => exact absurd rfl hws | cons _ _ => simp)
    have hs : Gets (syncIf E n) (fun E => Jour E n R P ws f ∧ E.room = D.room ∧ pagesF E.now n = laidP P ws ∧ pagesF E.safe n = laidP P ws ∧ E.waits = []) (fun E => Jour E n R P ws f ∧ E.room = D.room) := by
      unfold syncIf
      rw [if_pos his]
      unfold syncD
      refine out_act (R := mayD E n) (g := fun E => syncs E n) (out_may b1 his ?_ fun k => ⟨c1.act.lose hf k, ((lose_is (D := actD E) b1 k).2.2.2.1).trans c2⟩) fun _ => rfl
      have hwn : (syncs (actD E) n).waits = [] := drop_waits fun w hw => (c1.waits w hw).1
      have hsp : pagesF (syncs (actD E) n).safe n = laidP P ws := by
        show pagesF (putF E.safe ⟨n, pagesF E.now n⟩) n = _
        rw [pagesF_put, if_pos rfl]
        exact c4
      refine ⟨⟨c1.once, put_once c1.sonce _, c1.only, c1.sonly.put (.inl rfl), c1.jn, ?_, c1.mix, ?_, by rw [hwn]; simp⟩, c2, c4, hsp, hwn⟩
      · show getF (putF E.safe _) (jnl n) = _
        rw [getF_put, if_neg (by exact jnl_ne n)]
        exact c1.sjn
      · rw [hsp, ← c4]
        exact c1.mix
    rcases hs with ⟨a, b2, c⟩ | ⟨a, b2, c⟩
    · rw [if_neg (fun h => h a)]
      generalize (syncIf E n).1 = G at b2 c ⊢
      obtain ⟨d1, d2, d3, d4, d5⟩ := c
      unfold removeD
      refine out_act (R := mayD G (jnl n)) (g := fun E => removes E (jnl n)) (out_may b2 (by rw [d1.jn]; rfl) ?_ fun k => ⟨d1.act.lose hf k, ((lose_is (D := actD G) b2 k).2.2.2.1).trans d2⟩) fun _ => rfl
      have hwn : (removes (actD G) (jnl n)).waits = [] := by
        show dropW G.waits (jnl n) 0 = []
        rw [d5]
        rfl
      have p1 : ∀ l : List Fil, pagesF (without l (jnl n)) n = pagesF l n := fun l => pagesF_get (by rw [getF_without, if_neg (jnl_ne n).symm])
      have hdn : (getF (removes (actD G) (jnl n)).now (drf n)).isSome = false := by
        cases e : (getF (removes (actD G) (jnl n)).now (drf n)).isSome
        · rfl
        · have e : (getF (without G.now (jnl n)) (drf n)).isSome = true := e
          rcases d1.only.without (c := jnl n) _ e with h | h
          · exact absurd h (drf_ne n)
          · exact absurd h.symm (jnl_drf n)
      exact ⟨⟨⟨without_once d1.once _, without_once d1.sonce _, d1.only.gone, d1.sonly.gone, (p1 G.now).trans d3, (p1 G.safe).trans d4, by rw [hwn]; simp⟩, hdn, hwn⟩, d2⟩
    · rw [if_pos (by rw [a]; omega)]
      exact .inr ⟨a, b2, c⟩
  · rw [if_pos (by rw [a]; omega)]
    exact .inr ⟨a, b1, c⟩

/-- A commit that can be: done, or the power goes in it: with the pages as they were, or with the journal. -/
theorem Fine.commit {D : Dsk} {n : List UInt8} {P : List (List UInt8)} {ws : Pgs} {f : Nat} (h : Fine D n P) (h0 : D.off = false) (hl : hasLong ws = false) (hf : freshN P.length ws = some f) (hr : ws ≠ [] → ¬ freeD D < (pagesOf (recF ws).length + f : Nat)) :
    Gets (commitD D n ws) (fun E => Fine E n (laidP P ws) ∧ E.room = D.room) (fun E => (Kept E n P ∨ ws ≠ [] ∧ Jour E n (pagesB (recF ws)) P ws f) ∧ E.room = D.room) := by
  unfold commitD
  rw [if_neg (by rw [h0]; simp), if_neg (by rw [hl]; simp), h.kept.pages, hf]
  simp only
  by_cases hws : ws = []
  · subst hws
    rw [if_pos rfl]
    exact .inl ⟨rfl, h0, h, rfl⟩
  · have hr := hr hws
    rw [if_neg hws, if_neg hr]
    have hc := h.kept.count
    rw [pages_of_none h.draft] at hc
    simp only [List.length_nil] at hc
    have hroom : P.length + pagesOf (recF ws).length + f ≤ D.room := by unfold freeD at hr; omega
    rcases h.post (ws := ws) (f := f) h0 (b := recF ws) (frm_pos _) (by omega) with ⟨a, b1, c⟩ | ⟨a, b1, c⟩
    · rw [if_neg (fun h => h a)]
      obtain ⟨c1, c2, c3, c4⟩ := c
      have hR : (pagesB (recF ws)).length = pagesOf (recF ws).length := by simp [pagesB, chunks_len]
      refine (c1.settle b1 hf hws (hasLong_none hl) (by rw [hR, c4]; omega)).imp (fun E _ hE => ⟨hE.1, hE.2.trans c4⟩) fun E _ hE => ⟨.inr ⟨hws, hE.1⟩, hE.2.trans c4⟩
    · rw [if_pos (by rw [a]; omega)]
      exact .inr ⟨a, b1, .inl c.1, c.2⟩

end Go.Proofs.YtkbmajgbhpecgaaGreatDoor.Cd

/-
  replay and Open, where a journal is: of pages, or of no record. Conditions: the power is on.
-/
namespace Go.Proofs.YtkbmajgbhpecgaaGreatDoor.Cd
open Go.RowKit
set_option linter.unusedVariables false

section
variable {w w1 w2 : World} {g N : Nat} {S : Nat → Prop} {D : Dsk} {v : Value} {e : Ending}
/-- What a call leaves, as it is told from ahead of what only laid blocks. -/
theorem MakesD.ahead (h : MakesD g N S D v w1 e w2) (hb : Below w.heap.size w w1) (hS : ∀ k, S k → k < w.heap.size) : MakesD g N S D v w e w2 := by
  obtain ⟨h1, h2, h3⟩ := h
  refine ⟨h1, h2.more (fun k hk => ?_) (fun k hk => ?_), h3.os.trans hb.os, h3.tape.trans hb.tape, h3.output.trans hb.output, Nat.le_trans hb.size h3.size, fun k hk hn => (h3.block k (Nat.lt_of_lt_of_le hk hb.size) hn).trans (hb.block k hk)⟩
  · rcases hk with hk | hk
    · exact .inl hk
    · exact .inr ⟨Nat.le_trans hb.size hk.1, hk.2⟩
  · rcases hk with hk | hk
    · exact Nat.lt_of_lt_of_le (hS k hk) (Nat.le_trans hb.size h3.size)
    · exact hk.2
end

/-- The pages of a record's bytes, one behind the other. -/
theorem ppages_flat_aux (b : List UInt8) : ∀ (m j : Nat), b.length ≤ 512 * (j + m) → 512 * (j + m) < b.length + 512 → 512 * j ≤ b.length →
    (((List.range' j m).map fun k => pad (chunk b k)).flatten) = b.drop (512 * j) ++ List.replicate (512 * (j + m) - b.length) 0 := by
  intro m
  induction m with
  | zero =>
    intro j h1 h2 h3
    rw [List.drop_of_length_le (by omega), show 512 * (j + 0) - b.length = 0 by omega]
    rfl
  | succ m ih =>
    intro j h1 h2 h3
    rw [List.range'_succ, List.map_cons, List.flatten_cons]
    by_cases hl : b.length ≤ 512 * (j + 1)
    · have hm : m = 0 := by omega
      subst hm
      have hc : chunk b j = b.drop (512 * j) := by unfold chunk; rw [List.take_of_length_le (by simp; omega)]
      rw [hc]
      simp only [List.range'_zero, List.map_nil, List.flatten_nil, List.append_nil, pad, List.length_drop]
      congr 2
      omega
    · rw [ih (j + 1) (by omega) (by omega) (by omega)]
      have hc : (chunk b j).length = 512 := by simp [chunk]; omega
      have hp : pad (chunk b j) = chunk b j := by unfold pad; rw [hc]; simp
      rw [hp, ← List.append_assoc]
      congr 1
      · unfold chunk
        rw [show 512 * (j + 1) = 512 * j + 512 by omega, ← List.drop_drop, List.take_append_drop]
      · rw [show j + 1 + m = j + (m + 1) by omega]
theorem ppages_flat (b : List UInt8) : (pagesB b).flatten = b ++ List.replicate (512 * pagesOf b.length - b.length) 0 := by
  have h := ppages_flat_aux b (pagesOf b.length) 0 (by unfold pagesOf; omega) (by unfold pagesOf; omega) (by omega)
  simp only [Nat.mul_zero, List.drop_zero, Nat.zero_add] at h
  rw [← h]
  unfold pagesB chunks
  rw [List.map_map, List.range_eq_range']
  rfl
theorem ppages_len (b : List UInt8) : (pagesB b).length = pagesOf b.length := by unfold pagesB; rw [List.length_map, chunks_len]

theorem no_noughts (n : Nat) : ¬ HasRec (List.replicate n 0) := by
  rintro ⟨x, t, h⟩
  have hz : ∀ c ∈ frm x, c = 0 := fun c hc => List.eq_of_mem_replicate (h ▸ List.mem_append_left t hc)
  have hx : x = [] := by
    have hm : ∀ c ∈ enc x.length, c = 0 := fun c hc => hz c (by unfold frm; simp [hc])
    by_cases hl : x.length < 128
    · rw [enc_lo hl] at hm
      have h1 := congrArg UInt8.toNat (hm _ (List.mem_singleton.2 rfl))
      rw [lo8_nat hl] at h1
      exact List.length_eq_zero_iff.1 h1
    · rw [enc_hi (by omega)] at hm
      have h1 := congrArg UInt8.toNat (hm _ (List.mem_cons_self ..))
      have h2 := hi8_ge x.length
      rw [h1] at h2
      simp at h2
  subst hx
  have h3 : b8 (crc [0]) = 0 := hz _ (by
    unfold frm
    rw [show enc ([] : List UInt8).length = [0] by rw [List.length_nil, enc_lo (by omega)]; rfl]
    simp [le4])
  exact absurd h3 (by decide +kernel)

/-- A journal's pages split into its record, and noughts. -/
theorem journal_splits (ws : Pgs) : Splits (pagesB (recF ws)).flatten [recT ws] (List.replicate (512 * pagesOf (recF ws).length - (recF ws).length) 0) := by
  rw [ppages_flat]
  exact ⟨by rw [flat_one]; rfl, no_noughts _⟩
theorem journal_uniq {ws : Pgs} {ds : List (List UInt8)} {cur : List UInt8} (hl : (recF ws).length ≤ 1000000) (h : Splits (pagesB (recF ws)).flatten ds cur) : ds = [recT ws] ∧ cur = List.replicate cur.length 0 := by
  have hlen : (pagesB (recF ws)).flatten.length < 18446744073709551616 := by
    rw [ppages_flat, List.length_append, List.length_replicate]
    unfold pagesOf
    omega
  obtain ⟨h1, h2⟩ := splits_uniq hlen h (journal_splits ws)
  exact ⟨h1, by rw [h2, List.length_replicate]⟩

set_option maxRecDepth 100000 in
set_option maxHeartbeats 1600000 in
theorem replay_good (p g N M f : Nat) (n : List UInt8) (ws : Pgs) (S : Nat → Prop) (D : Dsk) (w : World) (h : PgrAt w S p g n) (hd : DkS w g N S D) (ho : D.off = false) (hn : n.length ≤ 140737488355000)
    (hj : (getF D.now (jnl n)).isSome = true) (hp : pagesF D.now (jnl n) = pagesB (recF ws)) (hw : Good6 ws) (hl : (recF ws).length ≤ 1000000) (hf : freshN (pagesF D.now n).length ws = some f) (hr : ¬ freeD D < (f : Nat)) (hN : N + 4 * (ws.length + 2) ≤ M) (hM : M ≤ 137438953472) :
    Calls Tryz.prog 31 #[.pointer (some ⟨p, 0, none⟩)] w (MakesD g M S (settleD D n ws).1 (.int .i64 ((settleD D n ws).2 : Nat)) w) := by
  have hdl : (jnl n).length ≤ 140737488355328 := by simp [jnl]; omega
  have hp1 := h.below (w' := w.drew) (Below.refl _ _).drew
  have hd1 := hd.below (w' := w.drew) (Below.refl _ _).drew
  have HP1 := Lib.hid (journal_any p g n S w.drew hp1 hn)
  have HA1 := has_dks g N S D (jnl n) w.drew hd1 ho hdl
  rw [hj] at HA1
  have HA1 := Lib.hid HA1
  have hpl : (pagesF D.now (jnl n)).length ≤ 2000 := by rw [hp, ppages_len]; unfold pagesOf; omega
  have CP := posted_p p g N n S D w.drew hp1 hd1 ho hn hpl (fun r cur hs => by rw [hp] at hs; exact (journal_uniq hl hs).2)
  rw [hp] at CP
  have CP := Lib.hid CP
  have hrl : (recT ws).length ≤ 140737488355328 := by have := frm_ge (recT ws); have : (recF ws).length = (frm (recT ws)).length := rfl; omega
  have HSl := Lib.hid hd.lt
  have HH := Lib.hid h
  have HD := Lib.hid hd
  obtain ⟨hnS, hlt, c0, c1⟩ := h
  have HF := Lib.hid hf
  have HW := Lib.hid hw
  have HU := Lib.hid (fun ds cur (hs : Splits (pagesB (recF ws)).flatten ds cur) => (journal_uniq hl hs).1)
  have hfew := hw.few
  obtain ⟨Z, hZ⟩ : ∃ x, settleD D n ws = x := ⟨_, rfl⟩
  rw [hZ]
  have HZ := Lib.hid hZ
  obtain ⟨fr, hfr⟩ : ∃ x, freeD D = x := ⟨_, rfl⟩
  rw [hfr] at hr
  have HFR := Lib.hid hfr
  have hr' : (f : Int) ≤ fr := by omega
  clear hp1 hd1 hd hp hw hf hj hpl hZ hfr hr hl
  go_enter Tryz.func31, Tryz.ntmps31
  go_wp2_with fail
  go_region_held3 (fun W => W.cell? ⟨p, 0, none⟩ = some (.pointer (some ⟨g, 0, none⟩))) (first | exact c0 | assumption) (first
    | (go_at_call 54; refine HP1.out.mono ?_; rintro e w' ⟨rfl, rfl⟩)
    | (go_at_call 51; refine HA1.out.mono ?_; rintro e w' ⟨rfl, rfl⟩))
  have HB0 : Hid (Below w.heap.size w w.drew) := (Below.refl _ _).drew
  obtain ⟨w0, hw0⟩ : ∃ x, w.drew = x := ⟨_, rfl⟩
  rw [hw0] at CP HB0 ⊢
  clear hw0
  go_wp2_with fail
  refine CP.out.mono ?_
  rintro e w1 ⟨ds, cur, hs, hb1, hans⟩
  have hds := HU.out ds cur hs
  have HB1 := Lib.hid (HB0.out.trans (hb1.mono HB0.out.size))
  rcases hans with ⟨r, h1, rfl⟩ | ⟨h1, _⟩
  case inr => rw [hds] at h1; exact absurd rfl h1
  rw [hds] at h1
  injection h1 with h1 _
  subst h1
  have CD := Lib.hid (decode_any ws HW.out hrl w1)
  clear hs hb1 hds CP HB0
  go_wp2_with fail
  refine CD.out.mono ?_
  rintro e w2 ⟨mb, rfl, hm2, hb2⟩
  have hz1 := HB1.out.size
  have HM2 := Lib.hid (hm2.less (T := S) (fun k _ hk => Nat.lt_of_lt_of_le (HSl.out k hk) hz1))
  have HB2 := Lib.hid (HB1.out.trans (hb2.mono hz1))
  have CF := fresh_any p g N mb n ws S D w2 (HH.out.below HB2.out) (HD.out.below HB2.out) ho hn HM2.out (by omega)
  rw [freshR_some HF.out] at CF
  have CF := Lib.hid CF
  clear hm2 hb2 CD HB1
  go_wp2_with fail
  refine CF.out.mono ?_
  rintro e w3 ⟨rfl, hb3⟩
  have HM3 := Lib.hid (HM2.out.below hb3)
  have HB3 := Lib.hid (HB2.out.trans (hb3.mono HB2.out.size))
  have CFR := free_dks g N S D w3 (HD.out.below HB3.out)
  rw [HFR.out] at CFR
  have CFR := Lib.hid CFR
  have c3 : w3.cell? ⟨p, 0, none⟩ = some (.pointer (some ⟨g, 0, none⟩)) := (HB3.out.cell (p := ⟨p, 0, none⟩) hlt).trans c0
  clear hb3 CF HM2 HB2
  go_wp2_with fail
  refine CFR.out.mono ?_
  rintro e w4 ⟨rfl, hb4⟩
  have HM4 := Lib.hid (HM3.out.below hb4)
  have HB4 := Lib.hid (HB3.out.trans (hb4.mono HB3.out.size))
  have CS := settle_p p g N M mb n ws S D w4 (HH.out.below HB4.out) (HD.out.below HB4.out) ho hn HM4.out (by omega) hN hM
  rw [HZ.out] at CS
  have CS := Lib.hid CS
  clear hb4 CFR HM3 HB3
  go_wp2_with fail
  refine CS.out.mono ?_
  intro e w5 hm
  obtain rfl := hm.1
  have HMK := Lib.hid (hm.ahead HB4.out HSl.out)
  clear hm CS
  go_wp2_with fail
  go_ret
  exact HMK.out

theorem replay_none (p g N : Nat) (n : List UInt8) (S : Nat → Prop) (D : Dsk) (w : World) (h : PgrAt w S p g n) (hd : DkS w g N S D) (ho : D.off = false) (hn : n.length ≤ 140737488355000) (hj : (getF D.now (jnl n)).isSome = false) (hM : N ≤ 137438953472) :
    Calls Tryz.prog 31 #[.pointer (some ⟨p, 0, none⟩)] w (MakesD g N S D (.int .i64 (0 : Nat)) w) :=
  (replay_bare p g N n S D w h hd ho hn hj).mono fun e w' h => by
    obtain ⟨rfl, rfl⟩ := h
    exact makesD_same hd (Below.refl _ _).drew (Nat.le_refl _) hM

set_option maxRecDepth 100000 in
set_option maxHeartbeats 1600000 in
theorem replay_bad (p g N : Nat) (n : List UInt8) (S : Nat → Prop) (D : Dsk) (w : World) (h : PgrAt w S p g n) (hd : DkS w g N S D) (ho : D.off = false) (hn : n.length ≤ 140737488355000)
    (hj : (getF D.now (jnl n)).isSome = true) (hpl : (pagesF D.now (jnl n)).length ≤ 2000) (hs : ∀ ds cur, Splits (pagesF D.now (jnl n)).flatten ds cur → ds = []) (hM : N ≤ 137438953472) :
    Calls Tryz.prog 31 #[.pointer (some ⟨p, 0, none⟩)] w (MakesD g N S D (.int .i64 (4 : Nat)) w) := by
  have hdl : (jnl n).length ≤ 140737488355328 := by simp [jnl]; omega
  have hp1 := h.below (w' := w.drew) (Below.refl _ _).drew
  have hd1 := hd.below (w' := w.drew) (Below.refl _ _).drew
  have HP1 := Lib.hid (journal_any p g n S w.drew hp1 hn)
  have HA1 := has_dks g N S D (jnl n) w.drew hd1 ho hdl
  rw [hj] at HA1
  have HA1 := Lib.hid HA1
  have CP := Lib.hid (posted_p p g N n S D w.drew hp1 hd1 ho hn hpl (fun r cur h => by cases hs _ _ h))
  have HS := Lib.hid hs
  have HD := Lib.hid hd
  obtain ⟨hnS, hlt, c0, c1⟩ := h
  clear hp1 hd1 hd hj hs
  go_enter Tryz.func31, Tryz.ntmps31
  go_wp2_with fail
  go_region_held3 (fun W => W.cell? ⟨p, 0, none⟩ = some (.pointer (some ⟨g, 0, none⟩))) (first | exact c0 | assumption) (first
    | (go_at_call 54; refine HP1.out.mono ?_; rintro e w' ⟨rfl, rfl⟩)
    | (go_at_call 51; refine HA1.out.mono ?_; rintro e w' ⟨rfl, rfl⟩))
  have HB0 : Hid (Below w.heap.size w w.drew) := (Below.refl _ _).drew
  obtain ⟨w0, hw0⟩ : ∃ x, w.drew = x := ⟨_, rfl⟩
  rw [hw0] at CP HB0 ⊢
  clear hw0
  go_wp2_with fail
  refine CP.out.mono ?_
  rintro e w1 ⟨ds, cur, hs, hb1, hans⟩
  have HB1 := Lib.hid (HB0.out.trans (hb1.mono HB0.out.size))
  have hds := HS.out ds cur hs
  rcases hans with ⟨r, h1, rfl⟩ | ⟨_, rfl⟩
  case inl => rw [hds] at h1; cases h1
  clear hs hb1 hds CP HB0
  go_wp2_with fail
  go_ret
  exact makesD_same HD.out HB1.out (Nat.le_refl _) hM

/-- What Open answers, and leaves. -/
def Opened (g M : Nat) (n : List UInt8) (S : Nat → Prop) (R : Dsk × Nat) (w : World) (e : Ending) (w' : World) : Prop :=
  ∃ (v : Value) (T : Nat → Prop), e = .returned (.tuple #[v, .int .i64 (R.2 : Nat)]) ∧ DkS w' g M T R.1 ∧ (∀ j, T j → S j ∨ w.heap.size ≤ j) ∧ Apart S w w' ∧
    ((R.2 = 0 ∧ ∃ p, v = .pointer (some ⟨p, 0, none⟩) ∧ w.heap.size ≤ p ∧ PgrAt w' T p g n) ∨ (R.2 ≠ 0 ∧ v = .pointer none))

set_option maxRecDepth 100000 in
set_option maxHeartbeats 1600000 in
theorem open_gen (g N N1 M : Nat) (n : List UInt8) (S : Nat → Prop) (D : Dsk) (R : Dsk × Nat) (w : World) (hd : DkS w g N S D) (ho : D.off = false) (hn : n.length ≤ 140737488355000) (hN : N + 4 ≤ N1) (hN1 : N1 ≤ 137438953472)
    (h0 : (discardD D n).2 = 0) (hR : ∀ (W : World) (T : Nat → Prop) (p : Nat), PgrAt W T p g n → DkS W g N1 T (discardD D n).1 → Calls Tryz.prog 31 #[.pointer (some ⟨p, 0, none⟩)] W (MakesD g M T R.1 (.int .i64 (R.2 : Nat)) W)) :
    Calls Tryz.prog 9 #[.pointer (some ⟨g, 0, none⟩), .string ⟨n.toArray⟩] w (Opened g M n S R w) := by
  obtain ⟨w0, hw0⟩ : ∃ x, w.alloc (.cells #[.pointer (some ⟨g, 0, none⟩), .string ⟨n.toArray⟩] 68) = x := ⟨_, rfl⟩
  have hp0 : PgrAt w0 S w.heap.size g n := by rw [← hw0]; exact pgr_new g n hd.lt
  have hb0 : Below w.heap.size w w0 := by rw [← hw0]; exact (Below.refl _ _).alloc (Nat.le_refl _) _
  have hd0 := hd.below hb0
  have HR0 := ready_p w.heap.size g N n S D w0 hp0 hd0
  rw [show errD D = 0 by unfold errD; rw [ho]; rfl] at HR0
  have HR0 := Lib.hid HR0
  have HDI := discard_p w.heap.size g N N1 n S D w0 hp0 hd0 ho hn hN hN1
  rw [h0] at HDI
  have HDI := Lib.hid HDI
  have HRR := Lib.hid hR
  have HP0 := Lib.hid hp0
  have HB0 := Lib.hid hb0
  obtain ⟨RD, rc⟩ := R
  dsimp only at HRR
  clear hp0 hd0 hd hR hb0
  go_enter Tryz.func9, Tryz.ntmps9
  go_wp2_with fail
  refine HR0.out.mono ?_
  rintro e w' ⟨rfl, h⟩
  obtain rfl := h.symm
  clear h HR0
  go_wp2_with fail
  refine HDI.out.mono ?_
  intro e w1 hm
  obtain ⟨rfl, m2, m3⟩ := hm
  have hp1 := HP0.out.apart m3
  have CR := Lib.hid (HRR.out w1 _ w.heap.size hp1 m2)
  have HP1 := Lib.hid hp1
  have HA1 := Lib.hid m3
  have HD1 := Lib.hid m2
  clear hp1 m2 m3 HDI HRR
  go_wp2_with fail
  refine CR.out.mono ?_
  intro e w2 hm
  obtain ⟨rfl, m2, m3⟩ := hm
  have HP2 := Lib.hid (HP1.out.apart m3)
  have HA2 := Lib.hid m3
  have HD2 := Lib.hid m2
  clear m2 m3 CR
  have hfin : Hid ((∀ j, since (since S w0 w1) w1 w2 j → S j ∨ w.heap.size ≤ j) ∧ Apart S w w2) := by
    have hz0 := HB0.out.size
    have hz1 := HA1.out.size
    refine ⟨fun j hj => ?_, ⟨?_, ?_, ?_, Nat.le_trans hz0 (Nat.le_trans hz1 HA2.out.size), fun k hk hn => ?_⟩⟩
    · rcases hj with (hj | hj) | hj
      · exact .inl hj
      · exact .inr (by omega)
      · exact .inr (by omega)
    · exact HA2.out.os.trans (HA1.out.os.trans HB0.out.os)
    · exact HA2.out.tape.trans (HA1.out.tape.trans HB0.out.tape)
    · exact HA2.out.output.trans (HA1.out.output.trans HB0.out.output)
    · refine (HA2.out.block k (by omega) ?_).trans ((HA1.out.block k (by omega) hn).trans (HB0.out.block k hk))
      rintro (h | h)
      · exact hn h
      · omega
  by_cases hc : rc = 0
  · subst hc
    go_wp2_with fail
    go_ret2
    exact ⟨_, _, rfl, HD2.out, hfin.out.1, hfin.out.2, .inl ⟨rfl, _, rfl, Nat.le_refl _, HP2.out⟩⟩
  · have hc' : ¬ (rc : Int) = 0 := by omega
    have HC := Lib.hid hc
    go_wp2_with fail
    go_ret2
    exact ⟨_, _, rfl, HD2.out, hfin.out.1, hfin.out.2, .inr ⟨HC.out, rfl⟩⟩

set_option maxRecDepth 100000 in
set_option maxHeartbeats 1600000 in
/-- The draft can't be thrown away, since the power goes. -/
theorem open_dark (g N N1 : Nat) (n : List UInt8) (S : Nat → Prop) (D : Dsk) (w : World) (hd : DkS w g N S D) (ho : D.off = false) (hn : n.length ≤ 140737488355000) (hN : N + 4 ≤ N1) (hN1 : N1 ≤ 137438953472) (h0 : (discardD D n).2 ≠ 0) :
    Calls Tryz.prog 9 #[.pointer (some ⟨g, 0, none⟩), .string ⟨n.toArray⟩] w (Opened g N1 n S (discardD D n) w) := by
  obtain ⟨w0, hw0⟩ : ∃ x, w.alloc (.cells #[.pointer (some ⟨g, 0, none⟩), .string ⟨n.toArray⟩] 68) = x := ⟨_, rfl⟩
  have hp0 : PgrAt w0 S w.heap.size g n := by rw [← hw0]; exact pgr_new g n hd.lt
  have hb0 : Below w.heap.size w w0 := by rw [← hw0]; exact (Below.refl _ _).alloc (Nat.le_refl _) _
  have hd0 := hd.below hb0
  have HR0 := ready_p w.heap.size g N n S D w0 hp0 hd0
  rw [show errD D = 0 by unfold errD; rw [ho]; rfl] at HR0
  have HR0 := Lib.hid HR0
  have HDI := Lib.hid (discard_p w.heap.size g N N1 n S D w0 hp0 hd0 ho hn hN hN1)
  have HB0 := Lib.hid hb0
  obtain ⟨R, hR⟩ : ∃ x, discardD D n = x := ⟨_, rfl⟩
  rw [hR] at HDI h0 ⊢
  obtain ⟨RD, rc⟩ := R
  dsimp only at HDI h0
  have hc' : ¬ (rc : Int) = 0 := by omega
  have HC := Lib.hid h0
  clear hp0 hd0 hd hb0 hR h0
  go_enter Tryz.func9, Tryz.ntmps9
  go_wp2_with fail
  refine HR0.out.mono ?_
  rintro e w' ⟨rfl, h⟩
  obtain rfl := h.symm
  clear h HR0
  go_wp2_with fail
  refine HDI.out.mono ?_
  intro e w1 hm
  obtain ⟨rfl, m2, m3⟩ := hm
  have HA1 := Lib.hid m3
  have HD1 := Lib.hid m2
  clear m2 m3 HDI
  have hfin : Hid ((∀ j, since S w0 w1 j → S j ∨ w.heap.size ≤ j) ∧ Apart S w w1) := by
    have hz0 := HB0.out.size
    refine ⟨fun j hj => ?_, ⟨?_, ?_, ?_, Nat.le_trans hz0 HA1.out.size, fun k hk hn => ?_⟩⟩
    · rcases hj with hj | hj
      · exact .inl hj
      · exact .inr (by omega)
    · exact HA1.out.os.trans HB0.out.os
    · exact HA1.out.tape.trans HB0.out.tape
    · exact HA1.out.output.trans HB0.out.output
    · exact (HA1.out.block k (by omega) hn).trans (HB0.out.block k hk)
  go_wp2_with fail
  go_ret2
  exact ⟨_, _, rfl, HD1.out, hfin.out.1, hfin.out.2, .inr ⟨HC.out, rfl⟩⟩

end Go.Proofs.YtkbmajgbhpecgaaGreatDoor.Cd

/-
  A commit under a fuse, and the openings behind it: no Go in sight. Conditions: none.
-/
namespace Go.Proofs.YtkbmajgbhpecgaaGreatDoor.Cd

/-- What every call on a disk leaves as it is. -/
structure Closed (I : Dsk → Prop) : Prop where
  write : ∀ D n i b, I D → I (writeD D n i b).1
  sync : ∀ D n, I D → I (syncD D n).1
  remove : ∀ D n, I D → I (removeD D n).1
  rename : ∀ D a b, I D → I (renameD D a b).1
section
variable {I : Dsk → Prop} (c : Closed I) {D : Dsk} {n b : List UInt8} {ws : Pgs}
include c
theorem Closed.writes : ∀ (ws : Pgs) {D : Dsk}, I D → I (Cd.writes D n ws).1
  | [], _, h => h
  | p :: r, D, h => by
    rw [Cd.writes]
    split
    · exact Closed.writes r (c.write _ _ _ _ h)
    · exact c.write _ _ _ _ h
theorem Closed.discard (h : I D) : I (discardD D n).1 := by
  unfold discardD
  split
  · exact c.remove _ _ h
  · exact h
theorem Closed.post (h : I D) : I (postD D n b).1 := by
  unfold postD
  split
  · exact c.discard h
  · split
    · exact c.writes _ (c.discard h)
    · split
      · exact c.sync _ _ (c.writes _ (c.discard h))
      · exact c.rename _ _ _ (c.sync _ _ (c.writes _ (c.discard h)))
theorem Closed.settle (h : I D) : I (settleD D n ws).1 := by
  have hs : I (syncIf (Cd.writes D n ws).1 n).1 := by
    unfold syncIf
    split
    · exact c.sync _ _ (c.writes _ h)
    · exact c.writes _ h
  unfold settleD
  split
  · exact c.writes _ h
  · split
    · exact hs
    · exact c.remove _ _ hs
theorem Closed.commit (h : I D) : I (commitD D n ws).1 := by
  unfold commitD
  split
  · exact h
  · split
    · exact h
    · split
      · exact h
      · split
        · exact h
        · split
          · exact h
          · split
            · exact c.post h
            · exact c.settle (c.post h)
end

theorem may_closed {I : Dsk → Prop} (hi : ∀ D, D.off = false → I D → I (ends D (actD D) 0).1) (D : Dsk) (n : List UInt8) (h : I D) : I (mayD D n).1 := by
  unfold mayD
  split
  · exact h
  · split
    · exact h
    · rename_i h1 _
      exact hi D (by simpa using h1) h
theorem closed_of {I : Dsk → Prop} (hw : ∀ D n i b, D.off = false → I D → I (ends D (wrote D n i b) 0).1) (ha : ∀ D, D.off = false → I D → I (ends D (actD D) 0).1)
    (hs : ∀ D n, D.off = false → I D → I (syncs D n)) (hr : ∀ D n, D.off = false → I D → I (removes D n)) (hn : ∀ D a b, D.off = false → I D → I (renames D a b)) : Closed I := by
  refine ⟨fun D n i b h => ?_, fun D n h => ?_, fun D n h => ?_, fun D a b h => ?_⟩
  · unfold writeD
    split
    · exact h
    · rename_i h1
      split
      · exact h
      · split
        · exact h
        · split
          · exact h
          · exact hw D _ _ _ (by simpa using h1) h
  · unfold syncD
    split
    · rename_i e
      have := may_is e
      exact hs _ _ (by rw [this.1]; exact this.2.1) (may_closed ha D n h)
    · exact may_closed ha D n h
  · unfold removeD
    split
    · rename_i e
      have := may_is e
      exact hr _ _ (by rw [this.1]; exact this.2.1) (may_closed ha D n h)
    · exact may_closed ha D n h
  · unfold renameD
    split
    · rename_i e
      have := may_is e.1
      exact hn _ _ _ (by rw [this.1]; exact this.2.1) (may_closed ha D a h)
    · exact may_closed ha D a h

/-- Where the power went nothing waits. -/
def Dark0 (D : Dsk) : Prop := D.off = true → D.waits = []
theorem dark_ends {D D1 : Dsk} {e : Nat} (h : D1.off = false) : Dark0 (ends D D1 e).1 := by
  unfold ends
  split
  · exact fun _ => (lose_is h _).2.2.1
  · exact fun e => by rw [h] at e; cases e
theorem dark_closed : Closed Dark0 :=
  closed_of (fun D n i b h _ => dark_ends h) (fun D h _ => dark_ends h) (fun D n h _ e => by have e : D.off = true := e; rw [h] at e; cases e) (fun D n h _ e => by have e : D.off = true := e; rw [h] at e; cases e) (fun D a b h _ e => by have e : D.off = true := e; rw [h] at e; cases e)
/-- Without a fuse the power stays on. -/
def Calm0 (D : Dsk) : Prop := D.off = false ∧ D.fuse = 0
theorem calm_ends {D D1 : Dsk} {e : Nat} (h : D.fuse = 0) (h1 : Calm0 D1) : Calm0 (ends D D1 e).1 := by
  rw [ends_calm (by omega)]
  exact h1
theorem calm_closed : Closed Calm0 :=
  closed_of (fun D n i b h h2 => calm_ends h2.2 ⟨h2.1, by show D.fuse - 1 = 0; rw [h2.2]⟩) (fun D h h2 => calm_ends h2.2 ⟨h2.1, by show D.fuse - 1 = 0; rw [h2.2]⟩) (fun D n h h2 => h2) (fun D n h h2 => h2) (fun D a b h h2 => h2)

/-- Behind a commit in which the power went: the pages as they were, or with the journal. -/
structure Gap (D : Dsk) (n : List UInt8) (P : List (List UInt8)) (ws : Pgs) (f : Nat) : Prop where
  kj : Kept D n P ∨ ws ≠ [] ∧ Jour D n (pagesB (recF ws)) P ws f
  waits : D.waits = []
  room : D.room = 200
theorem Gap.on {D : Dsk} {n : List UInt8} {P : List (List UInt8)} {ws : Pgs} {f : Nat} (h : Gap D n P ws f) : Gap (onD D) n P ws f := ⟨h.kj.imp Kept.on fun h => ⟨h.1, h.2.on⟩, h.waits, h.room⟩
theorem Gap.arm {D : Dsk} {n : List UInt8} {P : List (List UInt8)} {ws : Pgs} {f : Nat} (h : Gap D n P ws f) (a : Int) (k : Nat) : Gap (armD D a k) n P ws f := ⟨h.kj.imp (fun h => h.arm a k) fun h => ⟨h.1, h.2.arm a k⟩, h.waits, h.room⟩

theorem Fine.commit_gap {D : Dsk} {n : List UInt8} {P : List (List UInt8)} {ws : Pgs} {f : Nat} (h : Fine D n P) (h0 : D.off = false) (hroom : D.room = 200) (hl : hasLong ws = false) (hf : freshN P.length ws = some f) (hr : ws ≠ [] → ¬ freeD D < (pagesOf (recF ws).length + f : Nat)) :
    Gets (commitD D n ws) (fun E => Fine E n (laidP P ws) ∧ E.room = 200) (fun E => Gap E n P ws f) := by
  have hd := dark_closed.commit (n := n) (ws := ws) (D := D) (fun e => by rw [h0] at e; cases e)
  rcases h.commit h0 hl hf hr with ⟨a, b, c1, c2⟩ | ⟨a, b, c1, c2⟩
  · exact .inl ⟨a, b, c1, c2.trans hroom⟩
  · exact .inr ⟨a, b, c1, hd b, c2.trans hroom⟩

/-- An opening where no journal is. -/
theorem Gap.kept {D : Dsk} {n : List UInt8} {P : List (List UInt8)} {ws : Pgs} {f : Nat} (h : Gap D n P ws f) (hk : Kept D n P) (h0 : D.off = false) :
    Gets (discardD D n) (fun E => Fine E n P ∧ E.room = 200) (fun E => Gap E n P ws f) := by
  have hd := dark_closed.discard (n := n) (D := D) (fun e => by rw [h0] at e; cases e)
  rcases hk.discard h0 (.inl h.waits) with ⟨a, b, c1, c2⟩ | ⟨a, b, c1, c2⟩
  · exact .inl ⟨a, b, c1, c2.trans h.room⟩
  · exact .inr ⟨a, b, .inl c1, hd b, c2.trans h.room⟩
/-- An opening with the journal. -/
theorem Gap.jour {D : Dsk} {n : List UInt8} {P : List (List UInt8)} {ws : Pgs} {f : Nat} (h : Gap D n P ws f) (hws : ws ≠ []) (hj : Jour D n (pagesB (recF ws)) P ws f) (h0 : D.off = false) (hf : freshN P.length ws = some f) (hl : ∀ p ∈ ws, p.2.length ≤ 512) (hr : P.length + f + pagesOf (recF ws).length ≤ 200) :
    discardD D n = (D, 0) ∧ (getF D.now (jnl n)).isSome = true ∧ pagesF D.now (jnl n) = pagesB (recF ws) ∧ (∃ f2, freshN (pagesF D.now n).length ws = some f2 ∧ ¬ freeD D < (f2 : Nat)) ∧
      Gets (settleD D n ws) (fun E => Fine E n (laidP P ws) ∧ E.room = 200) (fun E => Gap E n P ws f) := by
  have hd := dark_closed.settle (n := n) (ws := ws) (D := D) (fun e => by rw [h0] at e; cases e)
  have hR : (pagesB (recF ws)).length = pagesOf (recF ws).length := by simp [pagesB, chunks_len]
  have hdr : (getF D.now (drf n)).isSome = false := by
    cases e : (getF D.now (drf n)).isSome
    · rfl
    · rcases hj.only _ e with h | h
      · exact absurd h (drf_ne n)
      · exact absurd h.symm (jnl_drf n)
  have hc := hj.count
  have hlo := hj.mix.lo
  have hhi := hj.mix.hi
  refine ⟨by unfold discardD; rw [if_neg (by rw [hdr]; simp)], by rw [hj.jn]; rfl, by unfold pagesF; rw [hj.jn], ⟨_, hj.mix.fresh hf, ?_⟩, ?_⟩
  · unfold freeD
    rw [h.room, hc]
    omega
  · rcases hj.settle h0 hf hws hl (by rw [hR, h.room]; omega) with ⟨a, b, c1, c2⟩ | ⟨a, b, c1, c2⟩
    · exact .inl ⟨a, b, c1, c2.trans h.room⟩
    · exact .inr ⟨a, b, .inr ⟨hws, c1⟩, hd b, c2.trans h.room⟩

/-- Behind it all: the power goes once more, nothing is kept. -/
theorem Fine.lost {D : Dsk} {n : List UInt8} {P : List (List UInt8)} (h : Fine D n P) (h0 : D.off = false) (hroom : D.room = 200) (k : Nat) : Gap (lose D k) n P [] 0 ∧ (lose D k).fuse = 0 :=
  ⟨⟨.inl (h.kept.lose k), (lose_is h0 k).2.2.1, (lose_is h0 k).2.2.2.1.trans hroom⟩, (lose_is h0 k).2.2.2.2⟩
theorem fine_new (n : List UInt8) : Fine (newD 200) n [] :=
  ⟨⟨once_nil, once_nil, fun m h => (by cases h), fun m h => (by cases h), rfl, rfl, fun w h => (by cases h)⟩, rfl, rfl⟩
theorem Fine.roomy {D : Dsk} {n : List UInt8} {P : List (List UInt8)} (h : Fine D n P) (h0 : D.off = false) (hf : D.fuse = 0) (hroom : D.room = 200) : Roomy D 200 P.length := by
  have hc := h.kept.count
  rw [pages_of_none h.draft] at hc
  exact ⟨h0, hf, h.kept.once, hroom, hc⟩
/-- Only the file is there. -/
theorem Fine.few {D : Dsk} {n : List UInt8} {P : List (List UInt8)} (h : Fine D n P) : ∀ m, (getF D.now m).isSome = true → m = n := fun m hm => by
  rcases h.kept.only m hm with e | e
  · exact e
  · rw [e, h.draft] at hm; cases hm

end Go.Proofs.YtkbmajgbhpecgaaGreatDoor.Cd

/-
  The library's contracts on sorting what the keys of a map of strings are, at this seat. Conditions: none. Laid by program (tools/iter.sh).
-/
namespace Go.Proofs
open Go.RowKit Go.Maps Go.Sort Go.Shelf

def Tryz.keys43_ren : Go.Shelf.Ren := ⟨fun | 7 => 43 | 10 => 70 | n => n, fun | 23 => 58 | 26 => 9 | 3 => 3 | 28 => 81 | 0 => 0 | 27 => 80 | 33 => 90 | 4 => 4 | n => n, fun | n => n⟩
theorem Tryz.keys43 : Go.Proofs.SlLaysZ.n7 Tryz.prog Tryz.keys43_ren := {
  mixed := by kernel_rfl
  f7 := ⟨Tryz.f43.name, by decide, Tryz.func43.trans (congrArg some (by kernel_rfl))⟩
  f10 := ⟨Tryz.f70.name, by decide, Tryz.func70.trans (congrArg some (by kernel_rfl))⟩
  t0 := Tryz.underlying0
  a0 := Tryz.isAgg0
  z0 := Tryz.sizeOf0
  v0 := Tryz.zeroValue0
  t4 := Tryz.underlying4
  a4 := Tryz.isAgg4
  z4 := Tryz.sizeOf4
  v4 := Tryz.zeroValue4
  t23 := Tryz.underlying58
  a23 := Tryz.isAgg58
  z23 := Tryz.sizeOf58
  v23 := Tryz.zeroValue58
  t26 := Tryz.underlying9
  a26 := Tryz.isAgg9
  z26 := Tryz.sizeOf9
  v26 := Tryz.zeroValue9
  t27 := Tryz.underlying80
  a27 := Tryz.isAgg80
  z27 := Tryz.sizeOf80
  v27 := Tryz.zeroValue80
  t28 := Tryz.underlying81
  a28 := Tryz.isAgg81
  z28 := Tryz.sizeOf81
  v28 := Tryz.zeroValue81
  t33 := Tryz.underlying90
  a33 := Tryz.isAgg90
  z33 := Tryz.sizeOf90
  v33 := Tryz.zeroValue90 }
def Tryz.sorted42_ren : Go.Shelf.Ren := ⟨fun | 6 => 42 | 8 => 68 | 9 => 69 | 11 => 93 | 13 => 95 | 12 => 94 | 23 => 126 | 24 => 127 | 14 => 117 | 15 => 118 | 16 => 119 | 17 => 120 | 18 => 121 | 19 => 122 | 20 => 123 | 21 => 124 | 22 => 125 | 25 => 143 | 26 => 144 | 27 => 145 | 28 => 146 | 29 => 147 | 30 => 148 | 31 => 162 | n => n, fun | 26 => 9 | 28 => 81 | 24 => 32 | 0 => 0 | 3 => 3 | 37 => 116 | 48 => 83 | 50 => 34 | 4 => 4 | 40 => 163 | 39 => 162 | 45 => 71 | 5 => 5 | 9 => 9 | 51 => 179 | 55 => 182 | 57 => 193 | 58 => 194 | 33 => 90 | n => n, fun | n => n⟩
theorem Tryz.sorted42 : Go.Proofs.SlLaysZ.n6 Tryz.prog Tryz.sorted42_ren := {
  mixed := by kernel_rfl
  f6 := ⟨Tryz.f42.name, by decide, Tryz.func42.trans (congrArg some (by kernel_rfl))⟩
  f8 := ⟨Tryz.f68.name, by decide, Tryz.func68.trans (congrArg some (by kernel_rfl))⟩
  f11 := ⟨Tryz.f93.name, by decide, Tryz.func93.trans (congrArg some (by kernel_rfl))⟩
  t0 := Tryz.underlying0
  a0 := Tryz.isAgg0
  z0 := Tryz.sizeOf0
  v0 := Tryz.zeroValue0
  t24 := Tryz.underlying32
  a24 := Tryz.isAgg32
  z24 := Tryz.sizeOf32
  v24 := Tryz.zeroValue32
  t26 := Tryz.underlying9
  a26 := Tryz.isAgg9
  z26 := Tryz.sizeOf9
  v26 := Tryz.zeroValue9
  t28 := Tryz.underlying81
  a28 := Tryz.isAgg81
  z28 := Tryz.sizeOf81
  v28 := Tryz.zeroValue81
  i26 := by kernel_rfl }
def Tryz.sort69_ren : Go.Shelf.Ren := ⟨fun | 6 => 69 | 8 => 95 | 9 => 94 | 19 => 126 | 20 => 127 | 21 => 117 | 22 => 118 | 23 => 119 | 24 => 120 | 25 => 121 | 26 => 122 | 27 => 123 | 28 => 124 | 29 => 125 | 36 => 143 | 31 => 144 | 32 => 145 | 37 => 146 | 38 => 147 | 39 => 148 | 41 => 162 | n => n, fun | 27 => 32 | 29 => 9 | 3 => 3 | 32 => 116 | 26 => 32 | 0 => 0 | 44 => 83 | 46 => 34 | 4 => 4 | 36 => 163 | 35 => 162 | 41 => 71 | 5 => 5 | 9 => 9 | 53 => 179 | 57 => 182 | 63 => 193 | 64 => 194 | n => n, fun | n => n⟩
theorem Tryz.sort69 : Go.Proofs.SlLaysM.n6 Tryz.prog Tryz.sort69_ren := {
  mixed := by kernel_rfl
  f6 := ⟨Tryz.f69.name, by decide, Tryz.func69.trans (congrArg some (by kernel_rfl))⟩
  f8 := Tryz.func95.trans (congrArg some (by kernel_rfl))
  f9 := ⟨Tryz.f94.name, by decide, Tryz.func94.trans (congrArg some (by kernel_rfl))⟩
  f19 := Tryz.func126.trans (congrArg some (by kernel_rfl))
  f20 := Tryz.func127.trans (congrArg some (by kernel_rfl))
  f21 := ⟨Tryz.f117.name, by decide, Tryz.func117.trans (congrArg some (by kernel_rfl))⟩
  f22 := ⟨Tryz.f118.name, by decide, Tryz.func118.trans (congrArg some (by kernel_rfl))⟩
  f23 := ⟨Tryz.f119.name, by decide, Tryz.func119.trans (congrArg some (by kernel_rfl))⟩
  f24 := ⟨Tryz.f120.name, by decide, Tryz.func120.trans (congrArg some (by kernel_rfl))⟩
  f25 := ⟨Tryz.f121.name, by decide, Tryz.func121.trans (congrArg some (by kernel_rfl))⟩
  f26 := ⟨Tryz.f122.name, by decide, Tryz.func122.trans (congrArg some (by kernel_rfl))⟩
  f27 := ⟨Tryz.f123.name, by decide, Tryz.func123.trans (congrArg some (by kernel_rfl))⟩
  f28 := ⟨Tryz.f124.name, by decide, Tryz.func124.trans (congrArg some (by kernel_rfl))⟩
  f29 := ⟨Tryz.f125.name, by decide, Tryz.func125.trans (congrArg some (by kernel_rfl))⟩
  f31 := Tryz.func144.trans (congrArg some (by kernel_rfl))
  f32 := Tryz.func145.trans (congrArg some (by kernel_rfl))
  f36 := ⟨Tryz.f143.name, by decide, Tryz.func143.trans (congrArg some (by kernel_rfl))⟩
  f37 := ⟨Tryz.f146.name, by decide, Tryz.func146.trans (congrArg some (by kernel_rfl))⟩
  f38 := ⟨Tryz.f147.name, by decide, Tryz.func147.trans (congrArg some (by kernel_rfl))⟩
  f39 := ⟨Tryz.f148.name, by decide, Tryz.func148.trans (congrArg some (by kernel_rfl))⟩
  f41 := ⟨Tryz.f162.name, by decide, Tryz.func162.trans (congrArg some (by kernel_rfl))⟩
  t0 := Tryz.underlying0
  a0 := Tryz.isAgg0
  z0 := Tryz.sizeOf0
  v0 := Tryz.zeroValue0
  t3 := Tryz.underlying3
  a3 := Tryz.isAgg3
  z3 := Tryz.sizeOf3
  v3 := Tryz.zeroValue3
  t4 := Tryz.underlying4
  a4 := Tryz.isAgg4
  z4 := Tryz.sizeOf4
  v4 := Tryz.zeroValue4
  t5 := Tryz.underlying5
  a5 := Tryz.isAgg5
  z5 := Tryz.sizeOf5
  v5 := Tryz.zeroValue5
  t9 := Tryz.underlying9
  a9 := Tryz.isAgg9
  z9 := Tryz.sizeOf9
  v9 := Tryz.zeroValue9
  t26 := Tryz.underlying32
  a26 := Tryz.isAgg32
  z26 := Tryz.sizeOf32
  v26 := Tryz.zeroValue32
  t27 := Tryz.underlying32
  a27 := Tryz.isAgg32
  z27 := Tryz.sizeOf32
  v27 := Tryz.zeroValue32
  t29 := Tryz.underlying9
  a29 := Tryz.isAgg9
  z29 := Tryz.sizeOf9
  v29 := Tryz.zeroValue9
  t32 := Tryz.underlying116
  a32 := Tryz.isAgg116
  z32 := Tryz.sizeOf116
  v32 := Tryz.zeroValue116
  t35 := Tryz.underlying162
  a35 := Tryz.isAgg162
  z35 := Tryz.sizeOf162
  v35 := Tryz.zeroValue162
  t36 := Tryz.underlying163
  a36 := Tryz.isAgg163
  z36 := Tryz.sizeOf163
  v36 := Tryz.zeroValue163
  t41 := Tryz.underlying71
  a41 := Tryz.isAgg71
  z41 := Tryz.sizeOf71
  v41 := Tryz.zeroValue71
  t44 := Tryz.underlying83
  a44 := Tryz.isAgg83
  z44 := Tryz.sizeOf83
  v44 := Tryz.zeroValue83
  t46 := Tryz.underlying34
  a46 := Tryz.isAgg34
  z46 := Tryz.sizeOf34
  v46 := Tryz.zeroValue34
  t53 := Tryz.underlying179
  a53 := Tryz.isAgg179
  z53 := Tryz.sizeOf179
  v53 := Tryz.zeroValue179
  t57 := Tryz.underlying182
  a57 := Tryz.isAgg182
  z57 := Tryz.sizeOf182
  v57 := Tryz.zeroValue182
  t63 := Tryz.underlying193
  a63 := Tryz.isAgg193
  z63 := Tryz.sizeOf193
  v63 := Tryz.zeroValue193
  t64 := Tryz.underlying194
  a64 := Tryz.isAgg194
  z64 := Tryz.sizeOf194
  v64 := Tryz.zeroValue194 }

/-- slices.Sort's two contracts at this dump, at the fence that asks nothing. -/
theorem Tryz.sorts42 (m : Nat) : AnyZ.SortsIn Tryz.prog Tryz.sorted42_ren Fence.wide m :=
  ⟨fun blk off cap ss W hH hblk hsz => callsIn_wide.2 (AnyM.slices_Sort_string Tryz.sort69 blk off cap ss W hH hblk hsz),
   fun p cap W => callsIn_wide.2 (AnyM.slices_Sort_string_none Tryz.sort69 p cap W)⟩

/-- **maps.Keys[map[string]int,string,int], at whatever map, the nil one too:** a function value over ONE NEW BLOCK, which holds the map. -/
theorem Tryz.maps_Keys_43 (mb : Option Nat) (W : World) : CallsIn Fence.wide 5 Tryz.prog 43 #[.map mb] W fun e w' => e = .returned (.func (.func 70) #[] #[.pointer (some ⟨W.heap.size, 0, none⟩)]) ∧ w' = W.alloc (.cells #[.map mb] 58) :=
  AnyZ.keys_in Tryz.keys43 Fence.wide 5 trivial rfl mb W

set_option maxHeartbeats 1000000 in
/-- **slices.Sorted[string] AT WHAT maps.Keys[map[string]int,string,int] HANDED BACK FOR A MAP THAT IS NOT nil** ('w': the world AHEAD of maps.Keys' call): A NEW SLICE THAT HOLDS THE MAP's KEYS, SORTED; nil just where it has none; nothing that lay before has turned. -/
theorem Tryz.slices_Sorted_keys_42_43 {H : Type} (b nn : Nat) (D0 : DataW H) (R : Value → Option (DataW H × List MemPlace)) (w : World) (hown : w.ownsMap Tryz.prog 9 R b nn D0) (hmax : Maps.size D0 ≤ maxLen) (hbytes : Maps.size D0 * 16 ≤ 140737488355328) :
    CallsIn Fence.wide 5 Tryz.prog 42 #[.func (.func 70) #[] #[.pointer (some ⟨w.heap.size, 0, none⟩)]] (w.alloc (.cells #[.map (some b)] 58)) fun e w' => ∃ (v : Value) (ss : List (List UInt8)), e = .returned v ∧ ss.Perm (strKeys D0) ∧
      w'.ownsRow (w.alloc (.cells #[.map (some b)] 58)).heap.size 9 1 v ss.length ((ss.mergeSort (fun x y => decide (x ≤ y))).map encStr) ∧ (v = .slice none 0 0 ↔ ss = []) ∧ Below (w.alloc (.cells #[.map (some b)] 58)).heap.size (w.alloc (.cells #[.map (some b)] 58)) w' := by
  have hbl := hown.lt
  have hseq : SeqGives Fence.wide 2 Tryz.prog 70 #[.pointer (some ⟨w.heap.size, 0, none⟩)] encStr (fun ss => ss.Perm (strKeys D0)) (Maps.size D0) (w.alloc (.cells #[.map (some b)] 58)) :=
    AnyZ.keys_gives (ρ := Tryz.keys43_ren) { Tryz.keys43 with } Fence.wide _ trivial rfl (by omega) w.heap.size b nn D0 _ (by simp) (by simp) (by
      obtain ⟨es, clock, hb, Ft, hs, hD⟩ := hown
      exact ⟨es, clock, (Below.heap_alloc _ _ b hbl).trans hb, Ft, hs, hD⟩)
  exact AnyZ.sorted_in Tryz.sorted42 Fence.wide 5 trivial trivial trivial trivial rfl (by omega) (Tryz.sorts42 _) (enters_of Tryz.func69 (by kernel_rfl) rfl) 70 #[.pointer (some ⟨w.heap.size, 0, none⟩)] trivial (enters_of Tryz.func70 (by kernel_rfl) rfl) _ _ hmax hbytes _ hseq

set_option maxHeartbeats 1000000 in
/-- **.. AND FOR THE nil MAP: nil.** -/
theorem Tryz.slices_Sorted_keys_nil_42_43 (w : World) :
    CallsIn Fence.wide 5 Tryz.prog 42 #[.func (.func 70) #[] #[.pointer (some ⟨w.heap.size, 0, none⟩)]] (w.alloc (.cells #[.map none] 58)) fun e w' => ∃ (v : Value) (ss : List (List UInt8)), e = .returned v ∧ ss = [] ∧
      w'.ownsRow (w.alloc (.cells #[.map none] 58)).heap.size 9 1 v ss.length ((ss.mergeSort (fun x y => decide (x ≤ y))).map encStr) ∧ (v = .slice none 0 0 ↔ ss = []) ∧ Below (w.alloc (.cells #[.map none] 58)).heap.size (w.alloc (.cells #[.map none] 58)) w' := by
  have hseq : SeqGives Fence.wide 2 Tryz.prog 70 #[.pointer (some ⟨w.heap.size, 0, none⟩)] encStr (fun ss : List (List UInt8) => ss = []) 0 (w.alloc (.cells #[.map none] 58)) :=
    AnyZ.keys_gives_nil (ρ := Tryz.keys43_ren) { Tryz.keys43 with } Fence.wide _ trivial rfl w.heap.size _ (by simp) (by simp)
  exact AnyZ.sorted_in Tryz.sorted42 Fence.wide 5 trivial trivial trivial trivial rfl (by omega) (Tryz.sorts42 _) (enters_of Tryz.func69 (by kernel_rfl) rfl) 70 #[.pointer (some ⟨w.heap.size, 0, none⟩)] trivial (enters_of Tryz.func70 (by kernel_rfl) rfl) _ 0 (Nat.zero_le _) (by omega) _ hseq

end Go.Proofs
