/-
  writes: a step's pages as a map, and as a row by rising numbers. Conditions: a step that is played.
-/
import Derived.Test.YtkbmajgbhpecgaaGreatDoorG8
import Derived.Maps.RangeWalk
import Derived.Test.YtkbmajgbhpecgaaGreatDoorG7
import Derived.BigRegion
import Derived.RangeFuncCalls
import Derived.OrdersHeld
import Derived.OrdersIn
import Derived.TacticsIn
import Derived.Deep.RegionHeld
import Derived.Shelf.Abstract
import Derived.Shelf.RegionOpen
import Derived.WalkKit
import Derived.OwnWalkIn
import Derived.TacticsInMore
import Derived.LoopNIn
import Derived.LoopIn
import Derived.BigRegionIn
import Derived.Test.YtkbmajgbhpecgaaGreatDoorG1
import Derived.Deep.QuietTactic
import Derived.BigQuiet
/-
  A pager's loops over a map of pages: their numbers, rising; whether one is too long; how many are new. Conditions: as each says.
-/
namespace Go.Proofs.YtkbmajgbhpecgaaGreatDoor.Cd
open Go.RowKit Go.Maps Go.Sort Go.Shelf

/-- A number as a value. -/
abbrev vnum (n : Int) : Value := .int .i64 n

theorem nums_row {w : World} {B : Nat} {v : Value} {l : List Int} (h : w.ownsRow B 3 1 v l.length (l.map encZ)) : Flat vnum w w.heap.size v l := by
  have hlt := World.ownsRow.lt h
  have hc := fun g hg => World.ownsRow.cells h (g := g) hg
  rcases h.2 with ⟨rfl, h0⟩ | ⟨g, cap, cur, rfl, _, hg, hn, hm, _, _⟩
  · have : l = [] := List.eq_nil_of_length_eq_zero h0
    subst this
    exact ⟨none, 0, rfl, by simp, by simp, fun h => by simp at h⟩
  · refine ⟨_, cap, rfl, hn, hm, fun _ => ⟨g, 0, rfl, (hlt g rfl).2, fun j hj => ?_⟩⟩
    have := hc g rfl j (vnum l[j]) (by simp [hj])
    rwa [Addr.add_lit] at this

/-- The pages' numbers, rising. -/
def RisesTo (ws : Pgs) (w : World) (e : Ending) (w' : World) : Prop := ∃ v, e = .returned v ∧ Flat vnum w' w'.heap.size v (ws.map Prod.fst) ∧ (∀ A n c, v = .slice (some A) n c → w.heap.size ≤ A.block ∧ A.block < w'.heap.size) ∧ Below w.heap.size w w'

set_option maxRecDepth 100000 in
set_option maxHeartbeats 1600000 in
theorem rising_any (b : Nat) (ws : Pgs) (S : Nat → Prop) (w : World) (h : PgMap w S b ws) (hl : ws.length ≤ 1048576) :
    Calls Tryz.prog 57 #[.map (some b)] w (RisesTo ws w) := by
  obtain ⟨D, hown, hsz, hk⟩ := h.keys
  have hmax : Maps.size D ≤ maxLen := by rw [hsz]; simp only [maxLen]; omega
  have hsorted := Tryz.slices_SortedI_83_84 b ws.length D bytK.R w hown hmax (by rw [hsz]; omega)
  have HSO := Lib.hid hsorted
  have HK := Lib.hid hk
  clear hsorted hk hown h
  have hfK : Fence.wide.fn 84 := trivial
  have hfS : Fence.wide.fn 83 := trivial
  refine (callsIn_wide (n := 6)).1 ?_
  refine callsIn_of_wp Tryz.func57 rfl trivial ?_ rfl
  simp only [Tryz.ntmps57, List.size_toArray, List.length_cons, List.length_nil, Nat.reduceAdd, Nat.reduceSub, Array.replicate_succ, Array.replicate_zero, List.push_toArray, List.append_toArray, List.nil_append, List.cons_append]
  gi_wp2_with (first
    | (gi_at_call 84; refine (Tryz.maps_KeysI_84 _ _).mono ?_; rintro e w' ⟨rfl, rfl⟩)
    | (gi_at_call 83; refine HSO.out.mono ?_; rintro e w' ⟨v, ss, rfl, hS, hrow, hnil, hb⟩))
  go_ret
  obtain ⟨h1, h2⟩ := HK.out ss hS
  have hrow2 : w'.ownsRow (w.alloc (.cells #[.map (some b)] 37)).heap.size 3 1 v (ss.mergeSort (fun x y => decide (x ≤ y))).length ((ss.mergeSort (fun x y => decide (x ≤ y))).map encZ) := by
    rw [List.length_mergeSort]
    exact hrow
  rw [h1] at hrow2
  refine ⟨v, rfl, nums_row hrow2, fun A n c e => ?_, ((Below.refl _ _).alloc (Nat.le_refl _) _).trans (hb.mono (by simp))⟩
  rcases hrow2.2 with ⟨h3, _⟩ | ⟨g, cap, cur, h3, h4, _⟩
  · rw [h3] at e; cases e
  · rw [h3] at e
    injection e with e _ _
    injection e with e
    rw [← e]
    have h5 := (World.ownsRow.lt hrow2 g (by rw [h3]; rfl)).2
    simp at h4
    show w.heap.size ≤ g ∧ g < w'.heap.size
    omega

theorem pagesOf_any (A : Option Addr) (n c : Nat) (w : World) (hn : n ≤ 140737488355328) : Calls Tryz.prog 35 #[.slice A n c] w (fun e w' => e = .returned (.int .i64 (pagesOf n : Nat)) ∧ w' = w) := by
  go_enter Tryz.func35, Tryz.ntmps35
  go_wp2_with fail
  go_ret
  refine ⟨?_, rfl⟩
  show Ending.returned (.int .i64 (((n : Int) + 512 - 1) / 512)) = _
  rw [show ((n : Int) + 512 - 1) / 512 = ((pagesOf n : Nat) : Int) by unfold pagesOf; omega]

/-- What is known of the pages that have come: none is too long. -/
def ShortFrom (ws : Pgs) (left : Lit → Bool) : Prop := ∀ p ∈ ws, left (.int .i64 p.1) = false → p.2.length ≤ 512

theorem entry_at {w : World} {S : Nat → Prop} {ws : Pgs} {q : Int → Option SlV} {D : DataW Unit} (h4 : ∀ x, bytK.ok x → (q x).isSome = true → ∃ p ∈ ws, p.1 = x) (h5 : ∀ p ∈ ws, ∃ s : SlV, q p.1 = some s ∧ Far w S s.val p.2)
    (hat : ∀ x, bytK.ok x → ∀ z, D.atKey (bytK.lit x) z = ((q x).map bytK.dat).getD z) {x : Int} {c : SlV} {y : DataW Unit × List MemPlace} (hx : (Lit.int .i64 x).wf = true) (hy : slR c.val = some y) (hd : ∀ z, D.atKey (.int .i64 x) z = y.1) :
    (∃ p ∈ ws, p.1 = x) ∧ ∀ p ∈ ws, p.1 = x → Far w S c.val p.2 := by
  rw [slR_val] at hy
  injection hy with hy
  subst hy
  cases hq : q x with
  | none =>
    have h1 := hat x hx (.lit (.bool true))
    have h2 := hat x hx (.lit (.bool false))
    rw [hq] at h1 h2
    have e1 := (hd (.lit (.bool true))).symm.trans h1
    have e2 := (hd (.lit (.bool false))).symm.trans h2
    rw [e1] at e2
    cases e2
  | some s =>
    have h1 := hat x hx .nil
    rw [hq] at h1
    have e1 : c.dat = s.dat := (hd .nil).symm.trans h1
    have e2 := SlV.dat_inj e1
    subst e2
    refine ⟨h4 x hx (by rw [hq]; rfl), fun p hp hpx => ?_⟩
    obtain ⟨s, hs, hf⟩ := h5 p hp
    rw [hpx, hq] at hs
    injection hs with hs
    subst hs
    exact hf

set_option maxRecDepth 100000 in
set_option maxHeartbeats 1600000 in
theorem hasLong_any (b : Nat) (ws : Pgs) (S : Nat → Prop) (w : World) (h : PgMap w S b ws) : Calls Tryz.prog 32 #[.map (some b)] w (Says (.bool (hasLong ws)) w) := by
  have H := Lib.hid h
  obtain ⟨_, hws, q, ⟨D, hown, hsz, hat⟩, h4, h5⟩ := h
  have he := fun (x : Int) (c : SlV) (y : DataW Unit × List MemPlace) hx hy hd => entry_at (w := w) (S := S) h4 h5 hat (x := x) (c := c) (y := y) hx hy hd
  have HE := Lib.hid he
  have hs1 : Hid (ShortFrom ws (has D)) := fun p hp hl => by
    obtain ⟨s, hs, _⟩ := h5 p hp
    have := MapF.has (M := bytK) (hat p.1 (hws.wf p hp))
    rw [hs] at this
    have hl : has D (bytK.lit p.1) = false := hl
    rw [hl] at this
    cases this
  have HO := Lib.hid hown
  clear hat h4 h5 hws he
  go_enter Tryz.func32, Tryz.ntmps32
  go_wp2_with (at_range; refine wpList_range_own _ rfl _ 37 rfl 3 49 bytK.law bytK.under bytK.R b ws.length D rfl hown ?_; intro w0 hrg0 hg0 hs0)
  go_frame
  have hb0 : Hid (Below w.heap.size w w0) := (Below.refl _ _).grown hg0 (Nat.le_refl _) (fun k e => by cases e)
  clear hg0 hs0 hsz H
  go_loopw [4] (fun _ wr => ∃ (left : Lit → Bool) (cnt : Nat), wr.ranges Tryz.prog 3 bytK.R b w.heap.size ws.length D left cnt ∧ Hid (ShortFrom ws left) ∧ Hid (Below w.heap.size w wr)) (fun _ wr => wr.rangeLeft b w.heap.size)
  case atStart => exact ⟨_, _, hrg0, hs1, hb0⟩
  case round =>
    obtain ⟨left, cnt, hrg, hsh, hbel⟩ := hrel
    go_wp2_with (at_next; refine wpList_next_ranges _ rfl _ rfl 3 bytK.law bytK.R (fun x : Int => .int .i64 x) SlV.val (fun key kl hkey => by obtain ⟨x, rfl, _⟩ := Maps.keyOf_int_inv Tryz.underlying3 hkey; exact ⟨x, rfl⟩) (fun v y hv => by obtain ⟨c, rfl, _⟩ := slR_inv hv; exact ⟨c, rfl⟩) b w.heap.size ws.length _ _ _ rfl hrg ?_ ?_)
    · intro hc0 hl0
      have hsay : Hid (hasLong ws = false) := by
        unfold Hid hasLong
        rw [List.any_eq_false]
        intro p hp
        have := hsh.out p hp (hl0 _)
        simpa using this
      go_wp2_with fail
      go_ret
      exact ⟨by rw [hsay.out]; rfl, hbel.out⟩
    · intro x c kl yd yp w2 cnt2 hkey hlk hv hat2 hrg2 hlt hg2 hs2 hen
      obtain ⟨x', ex, rfl, hwx⟩ := Maps.keyOf_int_inv Tryz.underlying3 hkey
      injection ex with _ ex
      subst ex
      obtain ⟨hin, hfar⟩ := HE.out x c (yd, yp) hwx hv hat2
      have hHF := Lib.hid hfar
      obtain ⟨A, n, cc⟩ := c
      have hnl : Hid (∀ p ∈ ws, p.1 = x → p.2.length = n) := fun p hp hpx => by
        obtain ⟨A', c', e, _⟩ := (hfar p hp hpx).1.len
        injection e with _ e _
        exact e.symm
      have HIN := Lib.hid hin
      have hup : Hid (Below w.heap.size w w2) := hbel.out.grown hg2 hbel.out.size (fun k e => by injection e with e; omega)
      have hms : Hid (w2.rangeLeft b w.heap.size < wr.rangeLeft b w.heap.size) := by unfold Hid; rw [hrg2.left_eq, hrg.left_eq]; omega
      clear hs2 hfar hin hv hat2 hkey hlk hg2 hlt
      dsimp only [SlV.val] at hen ⊢
      generalize Option.map (fun p : Nat × Nat => ({ block := p.1, off := p.2, spot := none } : Addr)) A = A' at hen ⊢
      have HRG := Lib.hid hrg2
      clear hrg2 hrg
      by_cases hln : 512 < n
      · have hsay : Hid (hasLong ws = true) := by
          unfold Hid hasLong
          rw [List.any_eq_true]
          obtain ⟨p, hp, hpx⟩ := HIN.out
          exact ⟨p, hp, by rw [hnl.out p hp hpx]; simpa using hln⟩
        have hln2 : (512 : Int) < n := by omega
        go_wp2_with fail
        go_ret
        exact ⟨by rw [hsay.out]; rfl, hup.out⟩
      · have hln2 : (n : Int) ≤ 512 := by omega
        go_wp2_with fail
        go_roundw
        case rel =>
          refine ⟨_, cnt2, HRG.out, fun p hp hl => ?_, hup⟩
          simp only [Bool.and_eq_false_iff, Bool.not_eq_false'] at hl
          rcases hl with hl | hl
          · exact hsh.out p hp hl
          · have hpx : p.1 = x := by simpa [Lit.sameKey] using hl
            rw [hnl.out p hp hpx]
            omega
        case measure => exact hms.out

end Go.Proofs.YtkbmajgbhpecgaaGreatDoor.Cd

/-
  A pager: how many of the pages are new ones. Conditions: the power is on; at most 2^20 pages.
-/
namespace Go.Proofs.YtkbmajgbhpecgaaGreatDoor.Cd
open Go.RowKit

theorem DkS.pages_le {w : World} {g N : Nat} {S : Nat → Prop} {D : Dsk} (h : DkS w g N S D) (ho : D.off = false) (s : List UInt8) : (pagesF D.now s).length ≤ 4096 := by
  obtain ⟨P, h1, h2⟩ := h
  have e := h2.count (s := s) (by rw [← h2.off]; exact ho)
  have c := h2.counted (by rw [← h2.off]; exact ho) s
  have f1 := h1.fits.nns
  have f2 := h1.fits.room
  omega

/-- What is told of the new pages. -/
def freshR (c : Nat) (ws : Pgs) : Value := match freshN c ws with
  | none => .tuple #[.int .i64 0, .bool false]
  | some f => .tuple #[.int .i64 f, .bool true]

theorem freshR_none {c : Nat} {ws : Pgs} (h : freshN c ws = none) : freshR c ws = .tuple #[.int .i64 0, .bool false] := by unfold freshR; rw [h]
theorem freshR_some {c f : Nat} {ws : Pgs} (h : freshN c ws = some f) : freshR c ws = .tuple #[.int .i64 f, .bool true] := by unfold freshR; rw [h]

/-- Where the count stands behind the first k pages. -/
def FreshAt (L : Nat) (ws : Pgs) (k c : Nat) : Prop := freshN L ws = (freshN c (ws.drop k)).map (· + (c - L))

theorem FreshAt.start (L : Nat) (ws : Pgs) : FreshAt L ws 0 L := by
  unfold FreshAt
  rw [List.drop_zero, Nat.sub_self]
  cases freshN L ws <;> rfl
section
variable {L k c : Nat} {ws : Pgs}
theorem FreshAt.bad (h : FreshAt L ws k c) (hk : k < ws.length) (hb : ws[k].1 < 0 ∨ (c : Int) < ws[k].1) : freshN L ws = none := by
  unfold FreshAt at h
  rw [List.drop_eq_getElem_cons hk, freshN, if_pos hb] at h
  exact h
theorem FreshAt.new (h : FreshAt L ws k c) (hk : k < ws.length) (hi : ws[k].1 = (c : Int)) (hL : L ≤ c) : FreshAt L ws (k + 1) (c + 1) := by
  unfold FreshAt at h ⊢
  rw [List.drop_eq_getElem_cons hk, freshN, if_neg (by omega), if_pos hi] at h
  rw [h]
  cases freshN (c + 1) (ws.drop (k + 1)) with
  | none => rfl
  | some f => show some (f + 1 + (c - L)) = some (f + (c + 1 - L)); congr 1; omega
theorem FreshAt.old (h : FreshAt L ws k c) (hk : k < ws.length) (h0 : 0 ≤ ws[k].1) (hi : ws[k].1 < (c : Int)) : FreshAt L ws (k + 1) c := by
  unfold FreshAt at h ⊢
  rw [List.drop_eq_getElem_cons hk, freshN, if_neg (by omega), if_neg (by omega)] at h
  exact h
theorem FreshAt.done (h : FreshAt L ws ws.length c) : freshN L ws = some (c - L) := by
  unfold FreshAt at h
  rw [List.drop_length] at h
  rw [h]
  show some (0 + (c - L)) = _
  rw [Nat.zero_add]
end

set_option maxRecDepth 100000 in
set_option maxHeartbeats 1600000 in
theorem fresh_any (p g N b : Nat) (n : List UInt8) (ws : Pgs) (S : Nat → Prop) (D : Dsk) (w : World) (h : PgrAt w S p g n) (hd : DkS w g N S D) (ho : D.off = false) (hn : n.length ≤ 140737488355000) (hm : PgMap w S b ws) (hl : ws.length ≤ 1048576) :
    Calls Tryz.prog 33 #[.pointer (some ⟨p, 0, none⟩), .map (some b)] w (Says (freshR (pagesF D.now n).length ws) w) := by
  have hC := Lib.hid (count_p p g N n S D w h hd ho hn)
  have hle := hd.pages_le ho n
  obtain ⟨L, hL⟩ : ∃ L, (pagesF D.now n).length = L := ⟨_, rfl⟩
  rw [hL] at hC hle ⊢
  have HM := Lib.hid hm
  clear hL h hd hm
  go_enter Tryz.func33, Tryz.ntmps33
  go_wp2_with (first
    | (go_at_call 18; refine hC.out.mono ?_; rintro e w1 ⟨rfl, hb1⟩; have HB1 := Lib.hid hb1; have HR := Lib.hid (rising_any b ws S w1 (HM.out.below hb1) hl); clear hb1)
    | (go_at_call 57; refine HR.out.mono ?_; rintro e w2 ⟨v, rfl, hf, _, hb2⟩; have HB2 := Lib.hid (HB1.out.trans (hb2.mono HB1.out.size)); have HF := Lib.hid hf; obtain ⟨A, cc, rfl, hc1, hc2⟩ := hf.len; clear hf hb2 HR))
  rw [List.length_map] at hc1
  have hl' : (ws.length : Int) ≤ 1048576 := by omega
  go_loopw [7, 16] (fun u v wr => ∃ k c : Nat, u = .int .i64 c ∧ v = .int .i64 k ∧ k ≤ ws.length ∧ L ≤ c ∧ c ≤ L + k ∧ Hid (FreshAt L ws k c) ∧ wr = w2) (fun _ v _ => ws.length - (intOf v).toNat)
  case atStart => exact ⟨0, L, rfl, rfl, by omega, by omega, by omega, FreshAt.start L ws, rfl⟩
  case round =>
    obtain ⟨k, c, rfl, rfl, hk, hc3, hc4, hfa, rfl⟩ := hrel
    by_cases hlt : k < ws.length
    · have hlt' : (k : Int) < ws.length := by omega
      obtain ⟨fb, off, hA, hfb, hcell⟩ := HF.out.at (k := k) (by rw [List.length_map]; exact hlt)
      rw [List.getElem_map] at hcell
      have hwf := HM.out.rising.wf ws[k] (List.getElem_mem hlt)
      obtain ⟨i, hi⟩ : ∃ i, ws[k].1 = i := ⟨_, rfl⟩
      rw [hi] at hcell hwf
      subst hA
      have HI := Lib.hid hi
      clear hi
      have hbd := bounds_i64 hwf
      by_cases h1 : i < 0
      · have hn1 : freshR L ws = _ := freshR_none (hfa.out.bad hlt (.inl (by rw [HI.out]; exact h1)))
        rw [hn1]
        go_wp2_with fail
        go_ret2
        exact ⟨rfl, HB2.out⟩
      · by_cases h2 : (c : Int) < i
        · have hn1 : freshR L ws = _ := freshR_none (hfa.out.bad hlt (.inr (by rw [HI.out]; exact h2)))
          rw [hn1]
          go_wp2_with fail
          go_ret2
          exact ⟨rfl, HB2.out⟩
        · by_cases h3 : i = (c : Int)
          · have hnew : Hid (FreshAt L ws (k + 1) (c + 1)) := hfa.out.new hlt (HI.out.trans h3) hc3
            subst h3
            have hmx : max (c : Int) ((c : Int) + 1) = (c : Int) + 1 := by omega
            go_wp2_with fail
            go_roundw
            case rel => exact ⟨k + 1, c + 1, by go_num, by go_num, by omega, by omega, by omega, hnew, by first | rfl | trivial⟩
            case measure => simp [intOf]; omega
          · have hold : Hid (FreshAt L ws (k + 1) c) := hfa.out.old hlt (by rw [HI.out]; omega) (by rw [HI.out]; omega)
            have hmx : max (c : Int) (i + 1) = (c : Int) := by omega
            go_wp2_with fail
            go_roundw
            case rel => exact ⟨k + 1, c, by go_num, by go_num, by omega, by omega, by omega, hold, by first | rfl | trivial⟩
            case measure => simp [intOf]; omega
    · have hlt' : (ws.length : Int) ≤ k := by omega
      obtain rfl : k = ws.length := by omega
      have hn1 : freshR L ws = _ := freshR_some hfa.out.done
      rw [hn1]
      have hcL : (c : Int) - L = ((c - L : Nat) : Int) := by omega
      go_wp2_with fail
      go_ret2
      refine ⟨?_, HB2.out⟩
      show Ending.returned (.tuple #[.int .i64 ((c - L : Nat) : Int), .bool true]) = _
      rw [hn1]

end Go.Proofs.YtkbmajgbhpecgaaGreatDoor.Cd

/-
  The record of a map of pages. Conditions: at most 2^20 pages, none too long.
-/
namespace Go.Proofs.YtkbmajgbhpecgaaGreatDoor.Cd
open Go.RowKit

theorem PgMap.look_all {w : World} {S : Nat → Prop} {b : Nat} {ws : Pgs} (h : PgMap w S b ws) {k : Nat} (hk : k < ws.length) :
    ∃ A n c, ∀ W, Below w.heap.size w W → (Instr.lookup 37 (.map (some b)) (.int .i64 ws[k].1) false).run Tryz.prog W = .ok (.slice A n c) W ∧ Far W S (.slice A n c) ws[k].2 := by
  have hlt := h.lt
  obtain ⟨_, h2, q, h3, _, h5⟩ := h
  obtain ⟨s, hs, hf⟩ := h5 ws[k] (List.getElem_mem hk)
  exact ⟨_, _, _, fun W hb => ⟨byt_look (h3.below hb hlt) (h2.wf _ (List.getElem_mem hk)) (by rw [hs]; rfl), hf.below hb⟩⟩

/-- The record's text behind the first k pages. -/
def recK (ws : Pgs) (k : Nat) : List UInt8 := enc (zig ws.length) ++ ((ws.take k).map recP).flatten
theorem recK_zero (ws : Pgs) : recK ws 0 = enc (zig ws.length) := by simp [recK]
theorem recK_succ {ws : Pgs} {k : Nat} (hk : k < ws.length) : recK ws (k + 1) = recK ws k ++ recP ws[k] := by
  unfold recK
  rw [List.take_succ_eq_append_getElem hk, List.map_append, List.flatten_append, ← List.append_assoc]
  simp only [List.map_cons, List.map_nil, List.flatten_cons, List.flatten_nil, List.append_nil]
theorem recK_all (ws : Pgs) : recK ws ws.length = recT ws := by unfold recK recT; rw [List.take_length]
theorem recP_len {p : Int × List UInt8} (hw : (Lit.int .i64 p.1).wf = true) (hl : p.2.length ≤ 512) : (recP p).length ≤ 532 := by
  have hb := bounds_i64 hw
  have h1 := enc_u64 _ (zig_lt hb.1 hb.2)
  have h2 := enc_u64 p.2.length (by omega)
  simp only [recP, List.length_append]
  omega
theorem recK_len {ws : Pgs} (hw : ∀ p ∈ ws, (Lit.int .i64 p.1).wf = true) (hl : ∀ p ∈ ws, p.2.length ≤ 512) (hn : ws.length ≤ 1048576) (k : Nat) (hk : k ≤ ws.length) : (recK ws k).length ≤ 10 + 532 * k := by
  induction k with
  | zero =>
    rw [recK_zero]
    have := enc_u64 (zig ws.length) (zig_lt (by omega) (by omega))
    omega
  | succ k ih =>
    rw [recK_succ (by omega), List.length_append]
    have := ih (by omega)
    have := recP_len (hw _ (List.getElem_mem (show k < ws.length by omega))) (hl _ (List.getElem_mem (show k < ws.length by omega)))
    omega

/-- The row of numbers is no block of this row's, and lies as it lay. -/
def Kept2 (A : Option Addr) (u : Value) (w w' : World) : Prop := ∀ r, A = some r → u.ownBlock ≠ some r.block ∧ w'.heap[r.block]? = w.heap[r.block]?

theorem nil_sl0 (w : World) (B : Nat) : Sl w B (.slice none 0 0) [] := ⟨none, 0, rfl, Nat.le_refl _, by decide, fun _ => rfl, (fun _ h => by cases h), (fun _ h => by cases h)⟩

set_option maxRecDepth 100000 in
set_option maxHeartbeats 3200000 in
theorem encode_any (b : Nat) (ws : Pgs) (S : Nat → Prop) (w : World) (hm : PgMap w S b ws) (hl : ws.length ≤ 1048576) (hs : ∀ p ∈ ws, p.2.length ≤ 512) :
    Calls Tryz.prog 34 #[.map (some b)] w (Wrote w (recF ws)) := by
  have HM := Lib.hid hm
  have HL := Lib.hid (hm.len 3)
  have hrl := recK_len hm.rising.wf hs hl
  have HRL := Lib.hid hrl
  have HS := Lib.hid hs
  clear hm hrl hs
  have hlen := HL.out
  have hl' : (ws.length : Int) ≤ 1048576 := by omega
  go_enter Tryz.func34, Tryz.ntmps34
  go_wp2_with (first
    | (go_at_call 58; refine (int_any _ [] ws.length w (nil_sl0 _ _) (by omega) (by omega) (by simp)).mono ?_; rintro e w1 ⟨v1, rfl, ho1, hb1⟩; rw [List.nil_append, ← recK_zero] at ho1; have HO1 := Lib.hid ho1; have HB1 := Lib.hid hb1; have HR := Lib.hid (rising_any b ws S w1 (HM.out.below hb1) hl); clear hb1 ho1)
    | (go_at_call 57; refine HR.out.mono ?_; rintro e w2 ⟨v, rfl, hf, hnew, hb2⟩; have HNW := Lib.hid hnew; have HLT := Lib.hid (fun k hk => ((HO1.out).lt k hk).2); have HO2 := Lib.hid (HO1.out.keep hb2); have HB2 := Lib.hid (HB1.out.trans (hb2.mono HB1.out.size)); have HF := Lib.hid hf; obtain ⟨A, cc, rfl, hc1, hc2⟩ := hf.len; clear hf hb2 HR hnew))
  rw [List.length_map] at hc1
  clear hlen
  go_loopw [3, 12] (fun u v wr => ∃ k : Nat, v = .int .i64 k ∧ k ≤ ws.length ∧ Hid (Own wr w.heap.size u (recK ws k)) ∧ Hid (Below w.heap.size w wr) ∧ w2.heap.size ≤ wr.heap.size ∧ Hid (Kept2 A u w2 wr)) (fun _ v _ => ws.length - (intOf v).toNat)
  case atStart => exact ⟨0, rfl, by omega, HO2, HB2, Nat.le_refl _, fun r hr => ⟨fun e => by have := HLT.out _ e; have := HNW.out r _ _ (by rw [hr]); omega, rfl⟩⟩
  case round =>
    obtain ⟨k, rfl, hk, ho, hbel, hgr, hkp⟩ := hrel
    by_cases hlt : k < ws.length
    · have hlt' : (k : Int) < ws.length := by omega
      obtain ⟨fb, off, hA, hfb, hcell⟩ := HF.out.at (k := k) (by rw [List.length_map]; exact hlt)
      rw [List.getElem_map] at hcell
      have hcell := (World.cell?_of_block (a := ⟨fb, off + k, none⟩) (hkp.out _ hA).2).trans hcell
      have HMr := HM.out.below hbel.out
      have hwf := HMr.rising.wf ws[k] (List.getElem_mem hlt)
      obtain ⟨pA, pn, pc, hall⟩ := HMr.look_all hlt
      have hsh := HS.out _ (List.getElem_mem hlt)
      have hsucc := recK_succ hlt
      have hrk := HRL.out k (by omega)
      obtain ⟨⟨i, bs⟩, hi⟩ : ∃ i, ws[k] = i := ⟨_, rfl⟩
      rw [hi] at hcell hwf hall hsh hsucc
      have hcell : wr.cell? ⟨fb, off + k, none⟩ = some (.int .i64 i) := hcell
      have hbd := bounds_i64 hwf
      have hsh : bs.length ≤ 512 := hsh
      subst hA
      clear hi HMr hwf
      have KS : Hid (∀ W, Below wr.heap.size wr W → (Instr.lookup 37 (.map (some b)) (.int .i64 i) false).run Tryz.prog W = .ok (.slice pA pn pc) W ∧ (convert 49 9 (.slice pA pn pc)).run Tryz.prog W = .ok (.string ⟨bs.toArray⟩) W) := fun W hb => ⟨(hall W hb).1, run_text_of _ _ _ _ (hall W hb).2.1⟩
      have HSU := Lib.hid hsucc
      clear hall hsucc
      have hi1 := enc_u64 (zig i) (zig_lt hbd.1 hbd.2)
      have hS0 := KS.out wr.drew (Below.refl _ _).drew
      have hwsz : w.heap.size ≤ wr.heap.size := hbel.out.size
      go_wp2_with fail
      obtain ⟨hL0, hC0⟩ := hS0
      go_region_law (first
        | (go_simp
           go_at_call 58
           refine (int_any _ [] i wr.drew (nil_sl0 _ _) hbd.1 hbd.2 (by simp)).mono ?_
           rintro e w3 ⟨v3, rfl, ho3, hb3⟩
           rw [List.nil_append] at ho3
           have hb3 : Below wr.heap.size wr w3 := (Below.refl _ _).drew.trans hb3
           obtain ⟨hL3, hC3⟩ := KS.out w3 hb3
           have HO3 := Lib.hid ho3
           have HB3 := Lib.hid hb3
           clear ho3 hb3)
        | (go_simp
           go_at_call 59
           refine (text_of _ (enc (zig i)) bs w3 HO3.out.sl (by omega)).mono ?_
           rintro e w4 ⟨v4, rfl, ho4, hb4⟩
           have HB4 : Hid (Below wr.heap.size wr w4) := HB3.out.trans (hb4.mono HB3.out.size)
           have HO4 := Lib.hid ho4
           clear ho4 hb4)
        | (refine step_append_by rfl (.tmp 16) (.tmp 23) rfl w.heap.size _ (recK ws k) (by simp [Act.eval]) (ho.out.keep HB4.out) (Nat.le_trans hwsz HB4.out.size) _ _ (enc (zig i) ++ (enc bs.length ++ bs)) (by simp [Act.eval]) HO4.out.sl (by simp; have := enc_pos bs.length; omega) (by have := enc_u64 bs.length (by omega); simp; omega) ?_
           intro v5 w5 ho5 hg5 hw5
           have HO5 := Lib.hid ho5
           have HG5 := Lib.hid hg5
           have HW5 := Lib.hid hw5
           clear ho5 hg5 hw5))
      all_goals
        have HO6 : Hid (Own w5 w.heap.size v5 (recK ws (k + 1))) := by unfold Hid; rw [HSU.out]; exact HO5.out
        have hb5 : Below w.heap.size w w5 := (hbel.out.trans (HB4.out.mono hwsz)).grown HG5.out (Nat.le_trans hwsz HB4.out.size) (fun j hj => ((ho.out.keep HB4.out).lt j hj).1)
        have HB6 := Lib.hid hb5
        have hk5 : Kept2 (some ⟨fb, off, none⟩) v5 w2 w5 := fun r hr => by
          obtain ⟨q1, q2⟩ := hkp.out r hr
          injection hr with hr
          subst hr
          have hl1 : fb < wr.heap.size := by omega
          have hl2 : fb < w4.heap.size := by have := HB4.out.size; omega
          refine ⟨fun e => ?_, ?_⟩
          · rcases HW5.out with h | h
            · exact q1 (h.symm.trans e)
            · have := h _ e; have h3 : w4.heap.size ≤ fb := this; omega
          · exact (HG5.out.block _ hl2 (fun e => q1 e.symm)).trans ((HB4.out.block _ hl1).trans q2)
        have HK6 := Lib.hid hk5
        have hgr6 : w2.heap.size ≤ w5.heap.size := by have := HB4.out.size; have := HG5.out.size; omega
        clear hb5 hk5
        go_wp2_with fail
        go_roundw
        case rel => exact ⟨k + 1, by go_num, by omega, HO6, HB6, hgr6, HK6⟩
        case measure => simp [intOf]; omega
    · have hlt' : (ws.length : Int) ≤ k := by omega
      obtain rfl : k = ws.length := by omega
      have HR := HRL.out ws.length (Nat.le_refl _)
      rw [recK_all] at ho HR
      have ht := run_text_of wr _ _ _ ho.out.sl
      go_wp2_with (go_at_call 60; refine (put_any _ [] (recT ws) wr (nil_sl0 _ _) (by simp; omega)).mono ?_; rintro e w6 ⟨v6, rfl, ho6, hb6⟩; rw [List.nil_append] at ho6; have HO6 := Lib.hid (ho6.lower hbel.out.size); have HB6 := Lib.hid (hbel.out.trans (hb6.mono hbel.out.size)); clear ho6 hb6)
      go_ret
      exact ⟨_, rfl, HO6.out, HB6.out⟩

end Go.Proofs.YtkbmajgbhpecgaaGreatDoor.Cd

/-
  Inside a round of a loop over a function: an operation and a region that draws its order are shown as they are elsewhere. Conditions: no statement of the region defers a call.
-/
namespace Go.Proofs.YtkbmajgbhpecgaaGreatDoor.Cd

section
variable {P : Program} {ops : Array Oper} {Q : Exit → Act → World → Prop} {l n : Nat}

theorem calls_round {f : FuncId} {args : Array Value} {w : World} {R : Ending → World → Prop} (h : Calls P f args w R) : CallsIn (Fence.wide.inRound l) n P f args w R := CallsIn.inRound l (callsIn_wide.2 h)

theorem oper_round {o : Oper} {a : Act} {w : World} {K : Act → World → Prop} (hd : ∀ c, o.op ≠ .defer c) (h : o.wp P a w K Q) : o.wpIn (Fence.wide.inRound l) n P a w K Q := by
  unfold Oper.wpIn
  refine ⟨fun _ _ => trivial, ?_⟩
  show o.uponIn _ n P a K Q ((o.semAt (some l) a.eval).run P w)
  rw [Oper.semAt_some _ _ _ hd]
  unfold Oper.wp at h
  generalize (execOp a.eval o).run P w = r at h ⊢
  have hn : (Fence.wide.inRound l).depth.isSome = true → 1 ≤ n := fun h => by cases h
  cases r with
  | ok x w' =>
    cases x with
    | value v => exact h
    | skip => exact h
    | defer d => exact h
    | enter f args => exact ⟨hn, CallsIn.mono (calls_round h) (fun e w'' he => by cases e <;> exact he)⟩
    | row row args => exact ⟨hn, fun c cs _ => let ⟨v, w', r, s⟩ := h c cs; ⟨v, w', r, stepsIn_wide.2 s⟩⟩
    | _ => exact h.elim
  | halt x w' =>
    cases x with
    | panic v => exact h
    | _ => exact h.elim

def noDefer (ops : Array Oper) : Bool := ops.toList.all fun o => match o.op with | .defer _ => false | _ => true
theorem noDefer_at (h : noDefer ops = true) {i : Nat} {o : Oper} (ho : ops[i]? = some o) : ∀ c, o.op ≠ .defer c := by
  intro c e
  have hm : o ∈ ops.toList := by
    have := (Array.getElem?_eq_some_iff.1 ho)
    obtain ⟨hi, rfl⟩ := this
    exact Array.getElem_mem_toList hi
  have := List.all_eq_true.1 h o hm
  rw [e] at this
  cases this

theorem wpOp_round {i : Nat} {a : Act} {w : World} {K : Act → World → Prop} (hlo : ¬ LetsOut Q) (hd : noDefer ops = true) (h : wpOp P ops Q i K a w) : wpOpIn (Fence.wide.inRound l) n P ops Q i K a w := by
  unfold wpOp at h
  unfold wpOpIn
  cases ho : ops[i]? with
  | none => rw [ho] at h; exact h
  | some o =>
    rw [ho] at h
    simp only at h ⊢
    split at h
    · rename_i hw
      rw [if_pos hw]
      rcases h with h | h
      · exact oper_round (noDefer_at hd ho) h
      · exact absurd h.2 hlo
    · rename_i hw
      rw [if_neg hw]
      exact ⟨fun _ _ => trivial, h⟩

theorem wpAny_round (hlo : ¬ LetsOut Q) (hd : noDefer ops = true) : ∀ (fuel : Nat) (listed : Array Bool) (a : Act) (w : World), wpAny P .any ops Q fuel listed a w → wpAnyIn (Fence.wide.inRound l) n P .any ops Q fuel listed a w := by
  intro fuel
  induction fuel with
  | zero => intro listed a w h; exact h
  | succ fuel ih => intro listed a w h; exact ⟨h.1, fun i hi => wpOpIn_mono (fun a' w' h' => ih _ a' w' h') (wpOp_round hlo hd (h.2 i hi))⟩

/-- A region that draws its order, in a round: S holds from the draw on. -/
theorem region_round {S : World → Prop} {id : Nat} {a : Act} {w W0 : World} (hW : w.drew = W0) (hm : P.follows .mixedOrders = true) (hlo : ¬ LetsOut Q) (hd : noDefer ops = true) (hS : S W0)
    (h : S W0 → wpAnyH P .any ops Q S ops.size (Array.replicate ops.size false) a W0) : (Code.region id ops true).wpIn (Fence.wide.inRound l) n P Q a w := by
  subst hW
  exact wpIn_region_any hm (wpAny_round hlo hd _ _ _ _ (wpAny_of_held _ _ _ _ (h hS)))
end

end Go.Proofs.YtkbmajgbhpecgaaGreatDoor.Cd

/-
  slices.Chunk of bytes, by pages: what it hands over. Conditions: there are bytes.
-/
namespace Go.Proofs.YtkbmajgbhpecgaaGreatDoor.Cd
open Go.RowKit Go.Shelf
attribute [local go_sem] Oper.semAt_some

theorem chunk_any (A : Option Addr) (n c : Nat) (w : World) :
    Calls Tryz.prog 61 #[.slice A n c, .int .i64 512] w (fun e w' => e = .returned (.func (.func 87) #[] #[.pointer (some ⟨w.heap.size, 0, none⟩), .pointer (some ⟨w.heap.size + 1, 0, none⟩)]) ∧
      w' = (w.alloc (.cells #[.slice A n c] 49)).alloc (.cells #[.int .i64 512] 3)) := by
  go_enter Tryz.func61, Tryz.ntmps61
  go_wp2_with fail
  go_ret
  exact ⟨by simp, rfl⟩

/-- The k-th page of n bytes at b, off. -/
def pgV (b off n k : Nat) : Value := .slice (some ⟨b, off + 512 * k, none⟩) (min 512 (n - 512 * k)) (min 512 (n - 512 * k))
/-- The two boxes of the iterator's. -/
def Boxes (bs bn : Nat) (b off n c : Nat) (W : World) : Prop := W.cell? ⟨bs, 0, none⟩ = some (.slice (some ⟨b, off, none⟩) n c) ∧ W.cell? ⟨bn, 0, none⟩ = some (.int .i64 512)

set_option maxRecDepth 100000 in
set_option maxHeartbeats 3200000 in
theorem chunk_hands (m bs bn b off n c : Nat) (hn : n ≤ c) (hc : c ≤ 9223372036854775807) (hn2 : n ≤ 140737488355328) :
    Hands Fence.wide m Tryz.prog 87 #[.pointer (some ⟨bs, 0, none⟩), .pointer (some ⟨bn, 0, none⟩)] (fun k => #[pgV b off n k]) (List.range (pagesOf n)) (Boxes bs bn b off n c) := by
  intro l J Jx W hJ hJx hB hY h0
  have HJ := Lib.hid hJ
  have HJX := Lib.hid hJx
  have HBX := Lib.hid hB
  have HY := Lib.hid hY
  have H0 := Lib.hid h0
  clear hJ hJx hB hY h0
  refine callsIn_of_wp Tryz.func87 rfl trivial ?_ rfl
  simp only [Tryz.ntmps87, List.size_toArray, List.length_cons, List.length_nil, Nat.reduceAdd, Nat.reduceSub, Array.replicate_succ, Array.replicate_zero, List.push_toArray, List.append_toArray, List.nil_append, List.cons_append]
  gi_wp2
  gi_loopw [4] (fun p wr => ∃ i k : Nat, p = .int .i64 i ∧ Hid (i = 512 * k) ∧ i ≤ n + 512 ∧ Hid (k ≤ pagesOf n) ∧ Hid (J k wr)) (fun p _ => n + 1024 - (intOf p).toNat)
  case atStart => exact ⟨0, 0, rfl, rfl, by omega, Nat.zero_le _, H0⟩
  case round =>
    obtain ⟨i, k, rfl, hi, hi2, hk, hJk⟩ := hrel
    obtain ⟨x1, x2⟩ := HBX.out k wr hJk.out
    have hn' : (n : Int) ≤ 140737488355328 := by omega
    by_cases hlt : i < n
    · have hlt' : (i : Int) < n := by omega
      have hJ1 : J k wr.drew := HJ.out k wr wr.drew hJk.out (Below.refl _ _).drew
      obtain ⟨y1, y2⟩ := HBX.out k wr.drew hJ1
      have hkl : k < pagesOf n := by have := hi.out; unfold pagesOf; omega
      obtain ⟨fn, tmps, assign, body, hy, hR⟩ := HY.out k k wr.drew (List.getElem?_range hkl) hJ1
      obtain ⟨e, he⟩ : ∃ e, min 512 (n - 512 * k) = e := ⟨_, rfl⟩
      have hpv : pgV b off n k = .slice (some ⟨b, off + i, none⟩) e e := by unfold pgV; rw [he, hi.out]
      have he' : e = min 512 (n - i) := by rw [hi.out]; exact he.symm
      have hmin : min (512 : Int) ((n - i : Nat) : Int) = (e : Int) := by omega
      have hsl : ((i : Int) + (e : Int)).toNat - i = e := by omega
      have he1 : i + e ≤ n := by omega
      have he2 : 1 ≤ e ∧ e ≤ 512 := by omega
      rw [hpv] at hy
      have HR := Lib.hid hR
      have HE := Lib.hid he'
      have HKL := Lib.hid hkl
      clear hR he' he hpv hJ1 hkl
      have hic : (i : Int) ≤ c := by omega
      gi_wp2
      gi_region
      all_goals gi_wp2
      refine ⟨fun h => (by cases h), HR.out.mono ?_⟩
      rintro e2 W3 (⟨rfl, hJ3⟩ | ⟨rfl, hJx3⟩)
      · have HJ3 := Lib.hid hJ3
        obtain ⟨z1, z2⟩ := HBX.out _ W3 hJ3
        clear hJ3
        gi_wp2
        go_roundw
        case rel =>
          have h1 := hi.out
          have h2 := HKL.out
          exact ⟨i + 512, k + 1, by go_num, by unfold Hid; omega, by omega, by unfold Hid; omega, HJ3⟩
        case measure => simp [intOf]; omega
      · have HX3 := Lib.hid hJx3
        clear hJx3
        gi_wp2
        refine bodyPost_ret (results_none rfl _ _ _) rfl ?_
        exact ⟨⟨_, rfl⟩, .inr ⟨k + 1, by rw [List.length_range]; exact HKL.out, HX3.out⟩⟩
    · have hlt' : (n : Int) ≤ i := by omega
      have hke : k = pagesOf n := by
        have h1 := hi.out
        have h2 := hk.out
        unfold pagesOf at *
        omega
      gi_wp2
      go_end0
      exact ⟨⟨_, rfl⟩, .inl (by rw [List.length_range, ← hke]; exact hJk.out)⟩

end Go.Proofs.YtkbmajgbhpecgaaGreatDoor.Cd

/-
  A disk in the midst of a call that has blocks of its own: which of these are none of the disk's. Conditions: none.
-/
namespace Go.Proofs.YtkbmajgbhpecgaaGreatDoor.Cd
open Go.RowKit

section
variable {w W : World} {S : Nat → Prop} {p g M : Nat} {n : List UInt8} {keep : List Nat} {D : Dsk}
/-- The pager, and bytes that were handed in, are as they were. -/
theorem InP.pgr (h : InP w S g keep M D W) (hp : PgrAt w S p g n) : ∃ T, DkS W g M T D ∧ PgrAt W T p g n ∧ (∀ v bs, Far w S v bs → Far W T v bs) ∧ (∀ b ws, PgMap w S b ws → PgMap W T b ws) ∧
    ∀ e v N D' W', MakesD g N T D' v W e W' → InP w S g keep N D' W' ∧ (∀ r ∈ keep, W'.heap[r]? = W.heap[r]?) ∧ W.heap.size ≤ W'.heap.size ∧ Apart T W W' := by
  obtain ⟨T, h1, h2, h3, h4⟩ := h
  have hless : ∀ k, k < W.heap.size → T k → since S w W k := fun k hk ht => by
    rcases h2 k ht with h | h
    · exact .inl h
    · exact .inr ⟨h, hk⟩
  refine ⟨T, h1, (hp.apart h4).less hless, fun v bs hf => (hf.apart h4).less hless, fun b ws hm => (hm.apart h4).less hless, fun e v N D' W' hm => ?_⟩
  obtain ⟨_, m2, m3⟩ := hm
  refine ⟨⟨since T W W', m2, fun j hj => ?_, fun r hr => ⟨fun e => ?_, Nat.lt_of_lt_of_le (h3 r hr).2 m3.size⟩, ?_⟩, fun r hr => m3.block r (h3 r hr).2 (h3 r hr).1, m3.size, m3⟩
  · rcases hj with hj | hj
    · exact h2 j hj
    · exact .inr (by have := h4.size; omega)
  · rcases e with e | e
    · exact (h3 r hr).1 e
    · have := (h3 r hr).2; omega
  · refine ⟨m3.os.trans h4.os, m3.tape.trans h4.tape, m3.output.trans h4.output, Nat.le_trans h4.size m3.size, fun j hj hn => ?_⟩
    exact (m3.block j (Nat.lt_of_lt_of_le hj h4.size) (fun ht => by rcases h2 j ht with h | h; exact hn h; omega)).trans (h4.block j hj hn)
end

end Go.Proofs.YtkbmajgbhpecgaaGreatDoor.Cd

/-
  More than is played? Conditions: none.
-/
namespace Go.Proofs.YtkbmajgbhpecgaaGreatDoor.Cd
open Go.RowKit

/-- How many bytes the pages have. -/
def bytesP (ps : Pgs) : Nat := (ps.map fun p => p.2.length).sum
theorem bytesP_snoc {ps : Pgs} {k : Nat} {p : Int × List UInt8} (h : ps[k]? = some p) : bytesP (ps.take (k + 1)) = bytesP (ps.take k) + p.2.length := by
  obtain ⟨hk, rfl⟩ := List.getElem?_eq_some_iff.1 h
  unfold bytesP
  rw [List.take_succ_eq_append_getElem hk, List.map_append, List.sum_append]
  simp
theorem bytesP_mem {ps : Pgs} {p : Int × List UInt8} (h : p ∈ ps) : p.2.length ≤ bytesP ps := by
  induction ps with
  | nil => cases h
  | cons q r ih =>
    unfold bytesP at ih ⊢
    rcases List.mem_cons.1 h with rfl | h
    · simp
    · have := ih h
      simp
      omega

/-- A step that is played. -/
def Stp.Small (p : Stp) : Prop := p.pages.length ≤ 8 ∧ bytesP p.pages ≤ 32768
def Small (l : List Stp) : Prop := l.length ≤ 12 ∧ ∀ p ∈ l, p.Small
def SmallTo (l : List Stp) (k : Nat) : Prop := ∀ (j : Nat) p, j < k → l[j]? = some p → p.Small

theorem PgsIn.at {w : World} {B : Nat} {v : Value} {ps : Pgs} (h : PgsIn w B v ps) (h0 : 0 < ps.length) :
    ∃ b off c, v = .slice (some ⟨b, off, none⟩) ps.length c ∧ ps.length ≤ c ∧ c ≤ maxLen ∧ b < B ∧ ∀ (i : Nat) p, ps[i]? = some p → w.cell? ⟨b, off + i * 2, none⟩ = some (.int .i64 p.1) ∧ w.cell? ⟨b, off + i * 2 + 1, none⟩ = some (.string ⟨p.2.toArray⟩) := by
  obtain ⟨A, c, rfl, h2, h3, h4, h5⟩ := h
  obtain ⟨b, off, rfl, hB, hc⟩ := h5 h0
  exact ⟨b, off, c, rfl, h2, h3, hB, fun i p hp => ⟨hc i p hp 0 _ rfl, hc i p hp 1 _ rfl⟩⟩
theorem PgsIn.len {w : World} {B : Nat} {v : Value} {ps : Pgs} (h : PgsIn w B v ps) : ∃ A c, v = .slice A ps.length c ∧ ps.length ≤ c ∧ c ≤ 9223372036854775807 := by
  obtain ⟨A, c, h1, h2, h3, _⟩ := h
  exact ⟨A, c, h1, h2, h3⟩

set_option maxRecDepth 100000 in
set_option maxHeartbeats 1600000 in
theorem great6_any (v : Value) (l : List Stp) (w : World) (h : Steps w w.heap.size v l) (hok : ∀ p ∈ l, p.Ok) :
    Calls Tryz.prog 7 #[v] w fun e w' => ∃ g : Bool, e = .returned (.bool g) ∧ Below w.heap.size w w' ∧ (g = false → Small l) := by
  obtain ⟨A, c, rfl, hm1, hm, _, hp⟩ := h
  have HP := Lib.hid hp
  have HO := Lib.hid hok
  clear hp hok
  have hm2 : l.length ≤ 9223372036854775807 := by unfold maxLen at hm; omega
  clear hm
  go_enter Tryz.func7, Tryz.ntmps7
  go_wp2
  go_loopw [3, 10] (fun n i wr => ∃ (k m : Nat), i = .int .i64 k ∧ k ≤ l.length ∧ n = .int .i64 m ∧ m ≤ 32768 ∧ Hid (SmallTo l k) ∧ Below w.heap.size w wr) (fun _ i _ => l.length - (intOf i).toNat)
  case atStart => exact ⟨0, 0, rfl, by omega, rfl, by omega, (fun j p hj => by omega), Below.refl _ _⟩
  case round =>
    obtain ⟨k, m, rfl, hk, rfl, hm, hst, hb⟩ := hrel
    by_cases hlt : k < l.length
    · obtain ⟨b, off, rfl, hB, hc⟩ := HP.out (by omega)
      obtain ⟨p, hpk⟩ : ∃ p, l[k]? = some p := ⟨l[k], List.getElem?_eq_getElem hlt⟩
      obtain ⟨u, hsl, hcu⟩ := hc k p hpk
      have hpg := hsl.below hb
      obtain ⟨Au, cu, rfl, hcu1, hcu2⟩ := hsl.len
      have hcell : ∀ (j : Nat) x, (p.cells (.slice Au p.pages.length cu))[j]? = some x → wr.cell? ⟨b, off + k * 3 + j, none⟩ = some x := fun j x hx => (hb.cell (p := ⟨b, off + k * 3 + j, none⟩) hB).trans (hcu j x hx)
      have c0 : wr.cell? ⟨b, off + k * 3, none⟩ = some (.slice Au p.pages.length cu) := hcell 0 _ rfl
      have c1 := hcell 1 _ rfl
      have c2 := hcell 2 _ rfl
      clear hc hcell hcu
      have ok := Lib.hid (HO.out p (List.mem_of_getElem? hpk))
      have HPG := Lib.hid hpg
      have hwz := hb.size
      have HPK := Lib.hid hpk
      have HSL := Lib.hid (show PgsIn w w.heap.size _ p.pages from hsl)
      clear hsl hpg hpk
      by_cases h8 : 8 < p.pages.length
      · go_wp2
        go_ret
        exact ⟨true, rfl, hb.alloc hb.size _, fun h => by cases h⟩
      · have h8' : (p.pages.length : Int) ≤ 8 := by omega
        have hb1 : Below w.heap.size w (wr.alloc (.cells #[.slice Au p.pages.length cu, .int .i64 p.fuse, .int .u64 p.keep] 36)) := hb.alloc hb.size _
        go_wp2
        obtain ⟨w1, hw1⟩ : ∃ x, wr.alloc (.cells #[.slice Au p.pages.length cu, .int .i64 p.fuse, .int .u64 p.keep] 36) = x := ⟨_, rfl⟩
        rw [hw1] at hb1 ⊢
        clear hw1
        go_loopw [3, 21] (fun n i wr => ∃ (j t : Nat), i = .int .i64 j ∧ j ≤ p.pages.length ∧ n = .int .i64 t ∧ t ≤ 32768 ∧ Hid (bytesP (p.pages.take j) ≤ t) ∧ Below w.heap.size w wr) (fun _ i _ => p.pages.length - (intOf i).toNat)
        case atStart => exact ⟨0, m, rfl, by omega, rfl, hm, (by simp [Hid, bytesP]), hb1⟩
        case round =>
          obtain ⟨j, t, rfl, hj, rfl, ht, hbt, hb2⟩ := hrel
          by_cases hjl : j < p.pages.length
          · obtain ⟨q, hqk⟩ : ∃ q, p.pages[j]? = some q := ⟨p.pages[j], List.getElem?_eq_getElem hjl⟩
            obtain ⟨b2, off2, c2', e2, _, _, hB2, hat⟩ := (HSL.out.below hb2).at (by omega)
            injection e2 with e2 _ e3
            subst e2 e3
            obtain ⟨d0, d1⟩ := hat j q hqk
            have hql : q.2.length ≤ 140737488351232 := ok.out q (List.mem_of_getElem? hqk)
            have hsn := Lib.hid (bytesP_snoc hqk)
            clear hat hqk
            have hz2 := hb2.size
            by_cases hov : 32768 < t + q.2.length
            · go_wp2
              go_ret
              exact .inr ⟨rfl, hb2.alloc hb2.size _⟩
            · go_wp2
              go_roundw
              case rel => exact ⟨j + 1, t + q.2.length, by go_num, by omega, by go_num, by omega, by have := hbt.out; unfold Hid; rw [hsn.out]; omega, hb2.alloc hb2.size _⟩
              case measure => simp [intOf]; omega
          · have hbl : Hid (p.Small) := ⟨by omega, by have := hbt.out; rw [List.take_of_length_le (by omega)] at this; omega⟩
            clear hbt
            go_wp2
            go_roundw
            case rel =>
              refine ⟨k + 1, t, by go_num, by omega, rfl, ht, fun i q hi hq => ?_, hb2⟩
              by_cases e : i = k
              · subst e
                rw [HPK.out] at hq
                injection hq with hq
                rw [← hq]
                exact hbl.out
              · exact hst.out i q (by omega) hq
            case measure => simp [intOf]; omega
    · have hall : Hid (∀ p ∈ l, p.Small) := fun p hp => by
        obtain ⟨i, hi, rfl⟩ := List.getElem_of_mem hp
        exact hst.out i _ (by omega) (List.getElem?_eq_getElem hi)
      clear hst
      go_wp2
      go_ret
      refine ⟨_, rfl, hb, fun h => ⟨?_, hall.out⟩⟩
      have := of_decide_eq_false h
      omega

end Go.Proofs.YtkbmajgbhpecgaaGreatDoor.Cd

/-
  A map of pages that is being filled: one page more, as the walk meets it. Conditions: fewer than maxLen pages.
-/
namespace Go.Proofs.YtkbmajgbhpecgaaGreatDoor.Cd
open Go.RowKit Go.Maps

/-- The pages with one of them put, by rising numbers. -/
def insP : Pgs → Int → List UInt8 → Pgs
  | [], x, b => [(x, b)]
  | p :: r, x, b => if x < p.1 then (x, b) :: p :: r else if x = p.1 then (x, b) :: r else p :: insP r x b

theorem ins_mem {x : Int} {b : List UInt8} : ∀ {ws : Pgs}, (ws.Pairwise fun a b => a.1 < b.1) → ∀ q, q ∈ insP ws x b ↔ q = (x, b) ∨ (q ∈ ws ∧ q.1 ≠ x)
  | [], _, q => by simp [insP]
  | p :: r, h, q => by
    obtain ⟨h1, h2⟩ := List.pairwise_cons.1 h
    unfold insP
    split
    · rename_i hlt
      simp only [List.mem_cons]
      constructor
      · rintro (h | h | h)
        · exact .inl h
        · subst h; exact .inr ⟨.inl rfl, by omega⟩
        · exact .inr ⟨.inr h, by have := h1 q h; omega⟩
      · rintro (h | ⟨h, _⟩)
        · exact .inl h
        · exact .inr h
    · split
      · rename_i hge heq
        simp only [List.mem_cons]
        constructor
        · rintro (h | h)
          · exact .inl h
          · exact .inr ⟨.inr h, by have := h1 q h; omega⟩
        · rintro (h | ⟨h | h, hne⟩)
          · exact .inl h
          · subst h; omega
          · exact .inr h
      · rename_i hge hne
        simp only [List.mem_cons, ins_mem h2]
        constructor
        · rintro (h | h | ⟨h, hn⟩)
          · subst h; exact .inr ⟨.inl rfl, by omega⟩
          · exact .inl h
          · exact .inr ⟨.inr h, hn⟩
        · rintro (h | ⟨h | h, hn⟩)
          · exact .inr (.inl h)
          · exact .inl h
          · exact .inr (.inr ⟨h, hn⟩)

theorem ins_up {x : Int} {b : List UInt8} : ∀ {ws : Pgs}, (ws.Pairwise fun a b => a.1 < b.1) → (insP ws x b).Pairwise fun a b => a.1 < b.1
  | [], _ => by simp [insP]
  | p :: r, h => by
    obtain ⟨h1, h2⟩ := List.pairwise_cons.1 h
    unfold insP
    split
    · rename_i hlt
      refine List.pairwise_cons.2 ⟨fun q hq => ?_, h⟩
      rcases List.mem_cons.1 hq with rfl | hq
      · exact hlt
      · have := h1 q hq; exact Int.lt_trans hlt this
    · split
      · rename_i hge heq
        refine List.pairwise_cons.2 ⟨fun q hq => ?_, h2⟩
        have := h1 q hq
        show x < q.1
        omega
      · rename_i hge hne
        refine List.pairwise_cons.2 ⟨fun q hq => ?_, ins_up h2⟩
        rcases (ins_mem h2 q).1 hq with rfl | ⟨hq, _⟩
        · show p.1 < x
          omega
        · exact h1 q hq

theorem ins_len {x : Int} {b : List UInt8} : ∀ {ws : Pgs}, (ws.Pairwise fun a b => a.1 < b.1) → (insP ws x b).length = ws.length + if (∃ p ∈ ws, p.1 = x) then 0 else 1
  | [], _ => by simp [insP]
  | p :: r, h => by
    obtain ⟨h1, h2⟩ := List.pairwise_cons.1 h
    unfold insP
    split
    · rename_i hlt
      rw [if_neg (by
        rintro ⟨q, hq, e⟩
        rcases List.mem_cons.1 hq with rfl | hq
        · omega
        · have := h1 q hq; omega)]
      simp
    · split
      · rename_i hge heq
        rw [if_pos ⟨p, by simp, heq.symm⟩]
        simp
      · rename_i hge hne
        simp only [List.length_cons]
        rw [ins_len h2]
        by_cases hp : ∃ q ∈ r, q.1 = x
        · rw [if_pos hp, if_pos (by obtain ⟨q, h1, h2⟩ := hp; exact ⟨q, by simp [h1], h2⟩)]
        · rw [if_neg hp, if_neg (by
            rintro ⟨q, hq, e⟩
            rcases List.mem_cons.1 hq with rfl | hq
            · exact hne e.symm
            · exact hp ⟨q, hq, e⟩)]

theorem Rising.ins {ws : Pgs} (h : Rising ws) {x : Int} (hx : (Lit.int .i64 x).wf = true) (b : List UInt8) : Rising (insP ws x b) :=
  ⟨ins_up h.up, fun p hp => by
    rcases (ins_mem h.up p).1 hp with rfl | ⟨hp, _⟩
    · exact hx
    · exact h.wf p hp⟩

section
variable {w w' : World} {S : Nat → Prop} {b : Nat} {ws : Pgs} {v : Value} {bs : List UInt8}

/-- Bytes lie in no map's block. -/
theorem Far.turned (h : Far w S v bs) (hg : w.grownBy w' (some b)) (hb : ∀ j s, w.cell? ⟨b, j, s⟩ = none) : Far w' S v bs := by
  obtain ⟨⟨A, c, h1, h2, h3, h4, h5, h6⟩, h7⟩ := h
  refine ⟨⟨A, c, h1, h2, h3, h4, fun ad e h0 => by have := h5 ad e h0; have := hg.size; omega, fun ad e j u hu => ?_⟩, h7⟩
  have hj : j < bs.length := by have := (List.getElem?_eq_some_iff.1 hu).1; rwa [vb_length] at this
  have hold := h6 ad e j u hu
  have hne : some (ad.add j).block ≠ some b := fun e' => by
    injection e' with e'
    have := hb (ad.add j).off (ad.add j).spot
    rw [← e'] at this
    rw [this] at hold
    cases hold
  rw [World.cell?_of_block (hg.block _ (by rw [block_of_add]; exact h5 ad e (by omega)) hne)]
  exact hold

theorem MapF.none {κ ν : Type} {M : MKind κ ν} {n : Nat} {q : κ → Option ν} (h : MapF M w b n q) (j : Nat) (s) : w.cell? ⟨b, j, s⟩ = none := by
  obtain ⟨D, ⟨es, cl, h1, _⟩, _⟩ := h
  have h1 : w.heap[b]? = some (.map es cl) := h1
  unfold World.cell?
  simp only [h1]

theorem PgMap.none (h : PgMap w S b ws) (j : Nat) (s) : w.cell? ⟨b, j, s⟩ = none := by
  obtain ⟨_, _, q, h1, _⟩ := h
  exact MapF.none h1 j s

theorem PgMap.put (h : PgMap w S b ws) (hn : ws.length < maxLen) {x : Int} (hx : (Lit.int .i64 x).wf = true) (s : SlV) {bs : List UInt8} (hs : Far w S s.val bs) :
    ∃ w', (Instr.mapUpdate 37 (.map (some b)) (.int .i64 x) s.val).run Tryz.prog w = .ok () w' ∧ PgMap w' S b (insP ws x bs) ∧ w.mapTurned w' b := by
  obtain ⟨h1, h2, q, h3, h4, h5⟩ := h
  obtain ⟨w', r1, r2, r3⟩ := h3.store (x := x) hn hx (v := s) trivial
  have hg := r3.grown
  have hnone := MapF.none h3
  refine ⟨w', r1, ⟨h1, h2.ins hx bs, upd q x (some s), ?_, fun y hy hs => ?_, fun p hp => ?_⟩, r3⟩
  · rw [ins_len h2.up]
    by_cases hp : ∃ p ∈ ws, p.1 = x
    · obtain ⟨p, hp1, hp2⟩ := hp
      obtain ⟨s', hs', _⟩ := h5 p hp1
      rw [hp2] at hs'
      rw [hs', show (if (some s').isSome = true then 0 else 1) = 0 from rfl] at r2
      rw [if_pos ⟨p, hp1, hp2⟩]
      exact r2
    · rw [if_neg (fun e => hp (h4 x hx e))] at r2
      rw [if_neg hp]
      exact r2
  · by_cases e : y = x
    · exact ⟨(x, bs), (ins_mem h2.up _).2 (.inl rfl), e.symm⟩
    · unfold upd at hs
      rw [if_neg e] at hs
      obtain ⟨p, hp1, hp2⟩ := h4 y hy hs
      exact ⟨p, (ins_mem h2.up _).2 (.inr ⟨hp1, by rw [hp2]; exact e⟩), hp2⟩
  · rcases (ins_mem h2.up p).1 hp with rfl | ⟨hp1, hp2⟩
    · exact ⟨s, by unfold upd; rw [if_pos rfl], hs.turned hg hnone⟩
    · obtain ⟨s', hs', hf⟩ := h5 p hp1
      exact ⟨s', by unfold upd; rw [if_neg hp2]; exact hs', hf.turned hg hnone⟩

variable {ops : Array Oper} {rest : List Oper} {o : Oper} {a : Act} {Q : Exit → Act → World → Prop}

theorem wp_put (hgd : o.guard = .none) (m x v : Operand) (hop : o.op = Op.mapUpdate 37 m x v ∨ o.op = Op.insert 37 m x v) (b : Nat) (ws : Pgs) (S : Nat → Prop) (hm : a.eval m = .map (some b)) (h : PgMap w S b ws) (hn : ws.length < maxLen)
    (k : Int) (hx : a.eval x = .int .i64 k) (hk : (Lit.int .i64 k).wf = true) (s : SlV) (hv : a.eval v = s.val) (bs : List UInt8) (hs : Far w S s.val bs)
    (hK : ∀ w', PgMap w' S b (insP ws k bs) → w.grownBy w' (some b) → wpList Tryz.prog ops Q rest (a.put o.dst undef) w') : wpList Tryz.prog ops Q (o :: rest) a w := by
  obtain ⟨w', hrun, r1, r2⟩ := h.put hn hk s hs
  rcases hop with hop | hop
  · refine wpList_plain hgd fun K' hK' => ?_
    unfold Oper.wp
    simp [execOp, hop, hm, hx, hv, hrun, Result.andThen]
    exact hK' _ _ (hK w' r1 r2.grown)
  · refine wpList_plain hgd fun K' hK' => ?_
    unfold Oper.wp
    simp [execOp, hop, hm, hx, hv, hrun, Result.andThen]
    exact hK' _ _ (hK w' r1 r2.grown)
end

end Go.Proofs.YtkbmajgbhpecgaaGreatDoor.Cd

/-
  A row of pages of the call's own: one page more. Conditions: not too many.
-/
namespace Go.Proofs.YtkbmajgbhpecgaaGreatDoor.Cd
open Go.RowKit

/-- Pages' cells, one page behind the other. -/
def pgCs (l : Pgs) : List Value := (l.map pgC).flatten
theorem pgCs_append (l : Pgs) (p : Int × List UInt8) : pgCs (l ++ [p]) = pgCs l ++ pgC p := by simp [pgCs]
theorem pgCs_at : ∀ (l : Pgs) (i : Nat) (p : Int × List UInt8), l[i]? = some p → ∀ (j : Nat) x, (pgC p)[j]? = some x → (pgCs l)[i * 2 + j]? = some x
  | [], _, _, h, _, _, _ => by simp at h
  | q :: r, 0, p, h, j, x, hx => by
    have e : q = p := by simpa using h
    subst e
    have hj : j < (pgC q).length := (List.getElem?_eq_some_iff.1 hx).1
    show (pgC q ++ pgCs r)[0 * 2 + j]? = some x
    rw [Nat.zero_mul, Nat.zero_add, List.getElem?_append_left hj]
    exact hx
  | q :: r, i + 1, p, h, j, x, hx => by
    have := pgCs_at r i p (by simpa using h) j x hx
    show (pgC q ++ pgCs r)[(i + 1) * 2 + j]? = some x
    rw [List.getElem?_append_right (by simp [pgC]; omega)]
    rw [show (i + 1) * 2 + j - (pgC q).length = i * 2 + j by simp [pgC]; omega]
    exact this
theorem pgCs_one (l : Pgs) : ∀ u ∈ pgCs l, u.oneCell' = true := by
  intro u hu
  simp only [pgCs, List.mem_flatten, List.mem_map] at hu
  obtain ⟨_, ⟨p, _, rfl⟩, hu⟩ := hu
  simp only [pgC, List.mem_cons, List.not_mem_nil, or_false] at hu
  rcases hu with rfl | rfl <;> rfl

theorem info_page : (Tryz.prog.info? 51).map (fun i => (i.zero, i.size, i.bytes)) = some (some (.agg #[.int .i64 0, .string ByteArray.empty]), 2, 24) := by kernel_rfl

/-- A row of pages of the call's own. -/
def OwnPg (w : World) (B : Nat) (v : Value) (l : Pgs) : Prop := wfP l ∧ w.ownsRow B 51 2 v l.length (pgCs l)

section
variable {w w' : World} {B : Nat} {v : Value} {l : Pgs}
theorem OwnPg.nil (w : World) (B : Nat) : OwnPg w B (.slice none 0 0) [] := ⟨(fun _ h => by cases h), World.ownsRow_nil _ _ _ _⟩
theorem OwnPg.keep (h : OwnPg w B v l) (hb : Below w.heap.size w w') : OwnPg w' B v l := by
  obtain ⟨h0, h2⟩ := h
  have hlt := h2.lt
  refine ⟨h0, ⟨h2.1, ?_⟩⟩
  rcases h2.2 with h4 | ⟨g, cap, cur, rfl, hg, hh, r⟩
  · exact .inl h4
  · exact .inr ⟨g, cap, cur, rfl, hg, (hb.block g (hlt g rfl).2).trans hh, r⟩
theorem OwnPg.lower {B' : Nat} (h : OwnPg w B v l) (hB : B' ≤ B) : OwnPg w B' v l := by
  refine ⟨h.1, h.2.1, ?_⟩
  rcases h.2.2 with h2 | ⟨g, cap, cur, hv, hg, r⟩
  · exact .inl h2
  · exact .inr ⟨g, cap, cur, hv, Nat.le_trans hB hg, r⟩
/-- Blocks that are none of the row's are written. -/
theorem OwnPg.off {T : Nat → Prop} (h : OwnPg w B v l) (ha : Apart T w w') (hT : ∀ k, T k → k < B) : OwnPg w' B v l := by
  obtain ⟨h0, h2⟩ := h
  have hlt := h2.lt
  refine ⟨h0, ⟨h2.1, ?_⟩⟩
  rcases h2.2 with h4 | ⟨g, cap, cur, rfl, hg, hh, r⟩
  · exact .inl h4
  · exact .inr ⟨g, cap, cur, rfl, hg, (ha.block g (hlt g rfl).2 (fun e => by have := hT g e; omega)).trans hh, r⟩
theorem OwnPg.pgs (h : OwnPg w B v l) : PgsIn w w.heap.size v l := by
  obtain ⟨h0, h2⟩ := h
  have hlt := h2.lt
  have hc := fun g hg => h2.cells (g := g) hg
  rcases h2.2 with ⟨rfl, h0⟩ | ⟨g, cap, cur, rfl, hBg, hg, hn, hm, _, _⟩
  · have : l = [] := List.eq_nil_of_length_eq_zero h0
    subst this
    exact PgsIn.nil _ _
  · refine ⟨_, cap, rfl, hn, hm, h0, fun _ => ⟨g, 0, rfl, (hlt g rfl).2, fun i p hi j x hj => ?_⟩⟩
    have := hc g rfl (i * 2 + j) _ (pgCs_at l i p hi j x hj)
    rw [Addr.add_lit] at this
    rwa [← Nat.add_assoc] at this

/-- append of one page. -/
theorem run_append_page (ho : OwnPg w B v l) (hB : B ≤ w.heap.size) (p : Int × List UInt8) (hp : (Lit.int .i64 p.1).wf = true) (b off c0 : Nat) (hn : w.cell? ⟨b, off, none⟩ = some (.int .i64 p.1)) (hy : w.cell? ⟨b, off + 1, none⟩ = some (.string ⟨p.2.toArray⟩))
    (hm : l.length ≤ 8388608) (ty : TypeId) :
    ∃ v' w', (Builtin.append_ #[33, 33] ty #[v, .slice (some ⟨b, off, none⟩) 1 c0]).run Tryz.prog w = .ok v' w' ∧ OwnPg w' B v' (l ++ [p]) ∧ Below B w w' ∧ w.grownBy w' v.ownBlock := by
  obtain ⟨i0, hi, hz0, hz1, hz2⟩ := info_parts info_page
  obtain ⟨h1, h2⟩ := ho
  obtain ⟨v', w', hr, r2, r3, _⟩ := run_append_own (P := Tryz.prog) w B 33 ty 51 i0 _ 2 24 Tryz.underlying33 hi hz0 hz1 hz2 rfl (by omega) v l.length (pgCs l) h2 ⟨b, off, none⟩ 1 c0 (pgC p) rfl
    (fun j u hu => by
      rw [Addr.add_lit]
      match j with
      | 0 => rw [← Option.some.inj (show some (Value.int .i64 p.1) = some u from hu)]; exact hn
      | 1 => rw [← Option.some.inj (show some (Value.string ⟨p.2.toArray⟩) = some u from hu)]; exact hy
      | j + 2 => simp [pgC] at hu)
    (fun u hu => by
      simp only [pgC, List.mem_cons, List.not_mem_nil, or_false] at hu
      rcases hu with rfl | rfl <;> rfl) (by simp only [maxLen]; omega) (by omega) hB
  refine ⟨v', w', hr, ⟨fun q hq => ?_, ?_⟩, (Below.refl _ _).grown r3 hB (fun k hk => (h2.lt k hk).1), r3⟩
  · rcases List.mem_append.1 hq with h | h
    · exact h1 q h
    · obtain rfl := List.mem_singleton.1 h; exact hp
  · rw [pgCs_append, List.length_append]
    exact r2

theorem wp_append_page {ops : Array Oper} {rest : List Oper} {o : Oper} {a : Act} {Q : Exit → Act → World → Prop} (hgd : o.guard = none) (s x : Operand)
    (hop : o.op = .call { callee := .builtin .append, args := #[s, x], argTypes := #[33, 33] })
    (hs : a.eval s = v) (ho : OwnPg w B v l) (hB : B ≤ w.heap.size) (p : Int × List UInt8) (hp : (Lit.int .i64 p.1).wf = true) (b off c0 : Nat) (hx : a.eval x = .slice (some ⟨b, off, none⟩) 1 c0) (hn : w.cell? ⟨b, off, none⟩ = some (.int .i64 p.1)) (hy : w.cell? ⟨b, off + 1, none⟩ = some (.string ⟨p.2.toArray⟩))
    (hm : l.length ≤ 8388608)
    (hK : ∀ v' w', OwnPg w' B v' (l ++ [p]) → Below B w w' → w.grownBy w' v.ownBlock → wpList Tryz.prog ops Q rest (a.put o.dst v') w') : wpList Tryz.prog ops Q (o :: rest) a w := by
  refine wpList_plain hgd fun K hK' => ?_
  obtain ⟨v', w', hrun, r1, r2, r3⟩ := run_append_page ho hB p hp b off c0 hn hy hm o.type
  unfold Oper.wp
  simp [execOp, hop, resolve, invoke, builtin, hs, hx, hrun, Result.andThen]
  exact hK' _ _ (hK v' w' r1 r2 r3)
end

/-! ### What a step writes: each page once, the last one of a number, by rising numbers -/

def wsOf (ps : Pgs) : Pgs := ps.foldl (fun ws p => insP ws p.1 p.2) []
theorem wsOf_snoc {ps : Pgs} {k : Nat} {p : Int × List UInt8} (h : ps[k]? = some p) : wsOf (ps.take (k + 1)) = insP (wsOf (ps.take k)) p.1 p.2 := by
  obtain ⟨hk, rfl⟩ := List.getElem?_eq_some_iff.1 h
  unfold wsOf
  rw [List.take_succ_eq_append_getElem hk, List.foldl_append]
  rfl
theorem foldl_up (ps : Pgs) : ∀ ws : Pgs, (ws.Pairwise fun a b => a.1 < b.1) → ((ps.foldl (fun ws p => insP ws p.1 p.2) ws).Pairwise fun a b => a.1 < b.1) ∧ (ps.foldl (fun ws p => insP ws p.1 p.2) ws).length ≤ ws.length + ps.length := by
  induction ps with
  | nil => exact fun ws h => ⟨h, by simp⟩
  | cons p r ih =>
    intro ws h
    have := ih (insP ws p.1 p.2) (ins_up h)
    refine ⟨this.1, ?_⟩
    have h2 := ins_len (x := p.1) (b := p.2) h
    have h3 := this.2
    simp only [List.foldl_cons, List.length_cons]
    split at h2 <;> omega
theorem wsOf_up (ps : Pgs) : (wsOf ps).Pairwise fun a b => a.1 < b.1 := (foldl_up ps [] List.Pairwise.nil).1
theorem wsOf_len (ps : Pgs) : (wsOf ps).length ≤ ps.length := by
  have := (foldl_up ps [] List.Pairwise.nil).2
  simp only [List.length_nil, Nat.zero_add] at this
  exact this
/-- The last page of its number, and no other. -/
def Last (ps : Pgs) (p : Int × List UInt8) : Prop := ∃ i : Nat, ps[i]? = some p ∧ ∀ (j : Nat) q, i < j → ps[j]? = some q → q.1 ≠ p.1
theorem last_take {ps : Pgs} {k : Nat} {x p : Int × List UInt8} (h : ps[k]? = some x) : Last (ps.take (k + 1)) p ↔ p = x ∨ (Last (ps.take k) p ∧ p.1 ≠ x.1) := by
  have hk := (List.getElem?_eq_some_iff.1 h).1
  constructor
  · rintro ⟨i, h1, h2⟩
    rw [List.getElem?_take] at h1
    split at h1
    · rename_i hi
      by_cases e : i = k
      · subst e
        rw [h] at h1
        injection h1 with h1
        exact .inl h1.symm
      · refine .inr ⟨⟨i, by rw [List.getElem?_take, if_pos (by omega)]; exact h1, fun j q hj hq => ?_⟩, fun e2 => ?_⟩
        · rw [List.getElem?_take] at hq
          split at hq
          · exact h2 j q hj (by rw [List.getElem?_take, if_pos (by omega)]; exact hq)
          · cases hq
        · exact h2 k x (by omega) (by rw [List.getElem?_take, if_pos (by omega)]; exact h) e2.symm
    · cases h1
  · rintro (rfl | ⟨⟨i, h1, h2⟩, hne⟩)
    · refine ⟨k, by rw [List.getElem?_take, if_pos (by omega)]; exact h, fun j q hj hq => ?_⟩
      rw [List.getElem?_take, if_neg (by omega)] at hq
      cases hq
    · rw [List.getElem?_take] at h1
      split at h1
      · rename_i hi
        refine ⟨i, by rw [List.getElem?_take, if_pos (by omega)]; exact h1, fun j q hj hq => ?_⟩
        rw [List.getElem?_take] at hq
        split at hq
        · by_cases e : j = k
          · subst e
            rw [h] at hq
            injection hq with hq
            subst hq
            exact fun e2 => hne e2.symm
          · exact h2 j q hj (by rw [List.getElem?_take, if_pos (by omega)]; exact hq)
        · cases hq
      · cases h1
theorem wsOf_mem (ps : Pgs) (p : Int × List UInt8) : p ∈ wsOf ps ↔ Last ps p := by
  have : ∀ k, k ≤ ps.length → (p ∈ wsOf (ps.take k) ↔ Last (ps.take k) p) := by
    intro k
    induction k with
    | zero =>
      intro _
      simp only [List.take_zero]
      exact ⟨(fun h => by cases h), fun ⟨i, h, _⟩ => by simp at h⟩
    | succ k ih =>
      intro hk
      have h : ps[k]? = some ps[k] := List.getElem?_eq_getElem (by omega)
      rw [wsOf_snoc h, ins_mem (wsOf_up _), last_take h, ih (by omega)]
  have h := this ps.length (Nat.le_refl _)
  rwa [List.take_of_length_le (Nat.le_refl _)] at h
theorem wsOf_wf {ps : Pgs} (h : wfP ps) : wfP (wsOf ps) := fun p hp => by
  obtain ⟨i, h1, _⟩ := (wsOf_mem ps p).1 hp
  exact h p (List.mem_of_getElem? h1)
theorem wsOf_sub {ps : Pgs} : ∀ p ∈ wsOf ps, p ∈ ps := fun p hp => by
  obtain ⟨i, h1, _⟩ := (wsOf_mem ps p).1 hp
  exact List.mem_of_getElem? h1

end Go.Proofs.YtkbmajgbhpecgaaGreatDoor.Cd

/-
  How the law's text sorts a step's pages: the least number above the last one, the last page of it. Conditions: none.
-/
namespace Go.Proofs.YtkbmajgbhpecgaaGreatDoor.Cd
open Go.RowKit

/-- How many of the pages are still to come. -/
def lf (ws : Pgs) (left : Lit → Bool) : Nat := ws.countP fun p => left (.int .i64 p.1)
theorem lf_all {ws : Pgs} {left : Lit → Bool} (h : ∀ p ∈ ws, left (.int .i64 p.1) = true) : lf ws left = ws.length := List.countP_eq_length.2 h
theorem lf_none {ws : Pgs} {left : Lit → Bool} (h : ∀ kl, left kl = false) : lf ws left = 0 := List.countP_eq_zero.2 fun p _ => by rw [h]; simp
theorem same_int (a b : Int) : (Lit.int .i64 a).sameKey (.int .i64 b) = decide (a = b) := by
  by_cases e : a = b
  · subst e; simp [Lit.sameKey]
  · simp [Lit.sameKey, e]
theorem lf_other {ws : Pgs} {left : Lit → Bool} {x : Int} (h : ∀ p ∈ ws, p.1 ≠ x) : lf ws (fun z => left z && !z.sameKey (.int .i64 x)) = lf ws left := by
  unfold lf
  refine List.countP_congr fun p hp => ?_
  dsimp only
  rw [same_int, decide_eq_false (h p hp)]
  simp
theorem lf_next {left : Lit → Bool} {x : Int} : ∀ {ws : Pgs}, (ws.Pairwise fun a b => a.1 < b.1) → (∃ p ∈ ws, p.1 = x) → left (.int .i64 x) = true → lf ws (fun z => left z && !z.sameKey (.int .i64 x)) + 1 = lf ws left
  | [], _, h, _ => by obtain ⟨_, h, _⟩ := h; cases h
  | p :: r, hp, hx, hl => by
    obtain ⟨h1, h2⟩ := List.pairwise_cons.1 hp
    by_cases e : p.1 = x
    · have ho := lf_other (left := left) (x := x) (ws := r) (fun q hq => by have := h1 q hq; omega)
      unfold lf at ho ⊢
      rw [List.countP_cons, List.countP_cons, ho]
      have hs : (Lit.int .i64 x).sameKey (.int .i64 x) = true := by rw [same_int]; simp
      simp [e, hs, hl]
    · have ih := lf_next (left := left) (x := x) h2 (by
        obtain ⟨q, hq, e2⟩ := hx
        rcases List.mem_cons.1 hq with rfl | hq
        · exact absurd e2 e
        · exact ⟨q, hq, e2⟩) hl
      unfold lf at ih ⊢
      rw [List.countP_cons, List.countP_cons]
      have hs : (Lit.int .i64 p.1).sameKey (.int .i64 x) = false := by rw [same_int, decide_eq_false e]
      simp only [hs, Bool.not_false, Bool.and_true]
      dsimp only at ih
      omega

/-- Above the last one that is there? -/
def cd (m : Option Int) (x : Int) : Prop := ∀ y, m = some y → y < x
def lastI (ws : Pgs) (j : Nat) : Option Int := if j = 0 then none else (ws[j - 1]?).map (·.1)

/-- The best one of the first k. -/
def Best (ps : Pgs) (m : Option Int) (k : Nat) (best : Int) : Prop :=
  (best = -1 ∧ ∀ (i : Nat) p, i < k → ps[i]? = some p → ¬ cd m p.1) ∨
  ∃ (bi : Nat) (p : Int × List UInt8), best = bi ∧ bi < k ∧ ps[bi]? = some p ∧ cd m p.1 ∧ (∀ (i : Nat) q, i < k → ps[i]? = some q → cd m q.1 → p.1 ≤ q.1) ∧ ∀ (i : Nat) q, bi < i → i < k → ps[i]? = some q → q.1 ≠ p.1

section
variable {ps ws : Pgs} {m : Option Int} {k : Nat} {best : Int} {x : Int × List UInt8}
theorem best_zero : Best ps m 0 (-1) := .inl ⟨rfl, fun _ _ h => by omega⟩
/-- Not above the last one. -/
theorem Best.low (h : Best ps m k best) (hx : ps[k]? = some x) (hc : ¬ cd m x.1) : Best ps m (k + 1) best := by
  have old : ∀ i p, i < k + 1 → ps[i]? = some p → cd m p.1 → i < k := fun i p hi hp h2 => by
    by_cases e : i = k
    · subst e
      rw [hx] at hp
      injection hp with hp
      rw [← hp] at h2
      exact absurd h2 hc
    · omega
  rcases h with ⟨h1, h2⟩ | ⟨bi, p, h1, h2, h3, h4, h5, h6⟩
  · exact .inl ⟨h1, fun i p hi hp h => h2 i p (old i p hi hp h) hp h⟩
  · refine .inr ⟨bi, p, h1, by omega, h3, h4, fun i q hi hq h => h5 i q (old i q hi hq h) hq h, fun i q hb hi hq => ?_⟩
    by_cases e : i = k
    · subst e
      rw [hx] at hq
      injection hq with hq
      subst hq
      intro e2
      rw [e2] at hc
      exact hc h4
    · exact h6 i q hb (by omega) hq
/-- A better one. -/
theorem Best.up (h : Best ps m k best) (hx : ps[k]? = some x) (hc : cd m x.1) (hb : ∀ (bi : Nat) (p : Int × List UInt8), best = bi → ps[bi]? = some p → x.1 ≤ p.1) : Best ps m (k + 1) k := by
  refine .inr ⟨k, x, rfl, by omega, hx, hc, fun i q hi hq hcq => ?_, fun i q h1 h2 => by omega⟩
  by_cases e : i = k
  · subst e
    rw [hx] at hq
    injection hq with hq
    subst hq
    omega
  · rcases h with ⟨h1, h2⟩ | ⟨bi, p, h1, h2, h3, h4, h5, h6⟩
    · exact absurd hcq (h2 i q (by omega) hq)
    · have := h5 i q (by omega) hq hcq
      have := hb bi p h1 h3
      omega
theorem Best.up2 (h : Best ps m k best) (hx : ps[k]? = some x) (hc : cd m x.1) {bi : Nat} {p : Int × List UInt8} (he : best = bi) (hp : ps[bi]? = some p) (hle : x.1 ≤ p.1) : Best ps m (k + 1) k :=
  h.up hx hc fun bi' p' he' hp' => by
    obtain rfl : bi = bi' := by omega
    rw [hp] at hp'
    injection hp' with hp'
    rw [← hp']
    exact hle
/-- A worse one. -/
theorem Best.stay (h : Best ps m k best) (hx : ps[k]? = some x) {bi : Nat} {p : Int × List UInt8} (he : best = bi) (hp : ps[bi]? = some p) (hb : p.1 < x.1) : Best ps m (k + 1) best := by
  rcases h with ⟨h1, h2⟩ | ⟨bi', p', h1, h2, h3, h4, h5, h6⟩
  · omega
  · obtain rfl : bi' = bi := by omega
    rw [hp] at h3
    injection h3 with h3
    subst h3
    refine .inr ⟨bi', p, h1, by omega, hp, h4, fun i q hi hq hcq => ?_, fun i q h7 hi hq => ?_⟩
    · by_cases e : i = k
      · subst e
        rw [hx] at hq
        injection hq with hq
        subst hq
        omega
      · exact h5 i q (by omega) hq hcq
    · by_cases e : i = k
      · subst e
        rw [hx] at hq
        injection hq with hq
        subst hq
        omega
      · exact h6 i q h7 (by omega) hq
theorem Best.is (h : Best ps m k best) : best = -1 ∨ ∃ (bi : Nat) (p : Int × List UInt8), best = bi ∧ bi < k ∧ ps[bi]? = some p := by
  rcases h with ⟨h1, h2⟩ | ⟨bi, p, h1, h2, h3, _⟩
  · exact .inl h1
  · exact .inr ⟨bi, p, h1, h2, h3⟩
/-- What is found. -/
theorem Best.found {j : Nat} (h : Best ps (lastI (wsOf ps) j) ps.length best) (hj : j < (wsOf ps).length) : ∃ bi : Nat, best = bi ∧ bi < ps.length ∧ ps[bi]? = some (wsOf ps)[j] := by
  have hup := List.pairwise_iff_getElem.1 (wsOf_up ps)
  have hcj : cd (lastI (wsOf ps) j) (wsOf ps)[j].1 := by
    intro y hy
    unfold lastI at hy
    split at hy
    · cases hy
    · rename_i h0
      rw [List.getElem?_eq_getElem (by omega)] at hy
      have hy : (wsOf ps)[j - 1].1 = y := by simpa using hy
      have := hup (j - 1) j (by omega) hj (by omega)
      omega
  have hin := wsOf_sub _ (List.getElem_mem hj)
  obtain ⟨i0, hi0, he0⟩ := List.getElem_of_mem hin
  have hs0 : ps[i0]? = some (wsOf ps)[j] := by rw [← he0]; exact List.getElem?_eq_getElem hi0
  rcases h with ⟨h1, h2⟩ | ⟨bi, p, h1, h2, h3, h4, h5, h6⟩
  · exact absurd hcj (h2 i0 _ hi0 hs0)
  · have hp : p ∈ wsOf ps := (wsOf_mem ps p).2 ⟨bi, h3, fun i q hb hq => h6 i q hb (List.getElem?_eq_some_iff.1 hq).1 hq⟩
    obtain ⟨i, hi, hei⟩ := List.getElem_of_mem hp
    have hle := h5 i0 _ hi0 hs0 hcj
    have hij : i = j := by
      rcases Nat.lt_trichotomy i j with hlt | he | hgt
      · exfalso
        have h7 := h4 (wsOf ps)[j - 1].1 (by unfold lastI; rw [if_neg (by omega), List.getElem?_eq_getElem (by omega)]; rfl)
        rw [← hei] at h7
        by_cases e : i = j - 1
        · subst e; omega
        · have := hup i (j - 1) hi (by omega) (by omega)
          omega
      · exact he
      · exfalso
        have := hup j i hj hi hgt
        rw [hei] at this
        omega
    subst hij
    exact ⟨bi, h1, h2, by rw [h3, hei]⟩
end

end Go.Proofs.YtkbmajgbhpecgaaGreatDoor.Cd

/-
  writes: a step's pages as a map, and as a row by rising numbers. Conditions: a step that is played.
-/
namespace Go.Proofs.YtkbmajgbhpecgaaGreatDoor.Cd
open Go.RowKit Go.Maps

theorem far_row {w' : World} {B g c : Nat} {bs : List UInt8} (h : Row w' g c bs) (hg : B ≤ g) : Far w' (fun k => k < B) (SlV.val ⟨some (g, 0), bs.length, c⟩) bs := by
  refine ⟨h.sl, fun _ A n c' e hs => ?_⟩
  have e : Value.slice (some ⟨g, 0, none⟩) bs.length c = Value.slice (some A) n c' := e
  injection e with e
  injection e with e
  rw [← e] at hs
  have hs : g < B := hs
  omega

theorem index_page (a : Addr) (n c i : Nat) (h : i < n) (W : World) : (Instr.indexAt 33 (.slice (some a) n c) (.int .i64 (i : Int))).run Tryz.prog W = .ok (.pointer (some (a.add (i * 2)))) W := by
  have hs : (sizeOf (Tryz.prog.elem 33)).run Tryz.prog W = .ok 2 W := by
    have he : Tryz.prog.elem 33 = 51 := by kernel_rfl
    obtain ⟨i0, hi, _, hz1, _⟩ := info_parts info_page
    rw [he]
    simp [sizeOf, typeInfo, hi, hz1]
  have h1 := run_indexAt_slice (P := Tryz.prog) (w := W) 33 a n c .i64 (i : Int) (by kernel_rfl)
  rw [if_pos (by omega), hs] at h1
  rw [h1]
  simp [Result.andThen]
theorem index_page2 (b o n c i : Nat) (h : i < n) (W : World) : (Instr.indexAt 33 (.slice (some ⟨b, o, none⟩) n c) (.int .i64 (i : Int))).run Tryz.prog W = .ok (.pointer (some ⟨b, o + i * 2, none⟩)) W := by
  rw [index_page _ n c i h W, Addr.add_lit]

theorem ranges_heap {w w' : World} {b r n : Nat} {D : DataW Unit} {left : Lit → Bool} {cnt : Nat} (h : w.ranges Tryz.prog 3 bytK.R b r n D left cnt) (hb : w'.heap[b]? = w.heap[b]?) (hr : w'.heap[r]? = w.heap[r]?) :
    w'.ranges Tryz.prog 3 bytK.R b r n D left cnt := by
  obtain ⟨es, cl, si, se, c0, h1, h2, h3, h4, h5, h6⟩ := h
  exact ⟨es, cl, si, se, c0, hb.trans h1, h2, h3, h4, hr.trans h5, h6⟩

theorem OwnPg.other {w w' : World} {B : Nat} {v : Value} {l : Pgs} {r : Nat} (h : OwnPg w B v l) (hg : w.grownBy w' (some r)) (hr : r < B) : OwnPg w' B v l :=
  ⟨h.1, World.ownsRow.kept h.2 hg (by
    cases hv : v.ownBlock with
    | none => exact .inl rfl
    | some k => exact .inr fun e => by injection e with e; have h1 := (World.ownsRow.lt h.2 k hv).1; omega)⟩

set_option maxRecDepth 100000 in
set_option maxHeartbeats 6400000 in
theorem writes_any (s : Stp) (u : Value) (w : World) (h : PgsIn w w.heap.size u s.pages) (hsm : s.Small) :
    Calls Tryz.prog 10 #[.agg #[u, .int .i64 s.fuse, .int .u64 s.keep]] w (fun e w' => ∃ b v, e = .returned (.tuple #[.map (some b), v]) ∧ PgMap w' (fun k => k < w.heap.size) b (wsOf s.pages) ∧ OwnPg w' w.heap.size v (wsOf s.pages) ∧ Below w.heap.size w w') := by
  obtain ⟨ps, fu, ke⟩ := s
  obtain ⟨hl8, hby⟩ := hsm
  have hl8 : ps.length ≤ 8 := hl8
  have hby := Lib.hid hby
  have h : PgsIn w w.heap.size u ps := h
  obtain ⟨A, c, rfl, hc1, hc2⟩ := h.len
  have H := Lib.hid h
  have hwf : Hid (wfP ps) := by obtain ⟨_, _, _, _, _, h4, _⟩ := h; exact h4
  clear h
  show Calls Tryz.prog 10 #[.agg #[.slice A ps.length c, .int .i64 fu, .int .u64 ke]] w _
  have hmm := @run_makeMap Tryz.prog
  have hl8' : (ps.length : Int) ≤ 8 := by omega
  have hm0 := PgMap.made (w.alloc (.cells #[.slice A ps.length c, .int .i64 fu, .int .u64 ke] 36)) (fun k => k < w.heap.size) (by simp)
  have hb0 : Below w.heap.size w ((w.alloc (.cells #[.slice A ps.length c, .int .i64 fu, .int .u64 ke] 36)).alloc (.map #[] 0)) := ((Below.refl _ _).alloc (Nat.le_refl _) _).alloc (by simp) _
  have hr0 : ((w.alloc (.cells #[.slice A ps.length c, .int .i64 fu, .int .u64 ke] 36)).alloc (.map #[] 0)).heap[w.heap.size]? = some (.cells #[.slice A ps.length c, .int .i64 fu, .int .u64 ke] 36) := by
    have := (Below.refl (w.heap.size + 1) (w.alloc (.cells #[.slice A ps.length c, .int .i64 fu, .int .u64 ke] 36))).alloc (by simp) (.map #[] 0)
    rw [this.block _ (Nat.lt_succ_self _)]
    exact heap_alloc_new _ _
  have hz0 : (w.alloc (.cells #[.slice A ps.length c, .int .i64 fu, .int .u64 ke] 36)).heap.size = w.heap.size + 1 := by simp
  rw [hz0] at hm0
  have hz1 : ((w.alloc (.cells #[.slice A ps.length c, .int .i64 fu, .int .u64 ke] 36)).alloc (.map #[] 0)).heap.size = w.heap.size + 2 := by simp
  have HM0 := Lib.hid hm0
  have HB0 := Lib.hid hb0
  have HR0 := Lib.hid hr0
  clear hm0 hb0 hr0
  go_enter Tryz.func10, Tryz.ntmps10
  go_wp2_with fail
  generalize (w.alloc (.cells #[.slice A ps.length c, .int .i64 fu, .int .u64 ke] 36)).alloc (.map #[] 0) = w0 at *
  go_loopw [15] (fun i wr => ∃ k : Nat, i = .int .i64 k ∧ k ≤ ps.length ∧ Hid (PgMap wr (fun k => k < w.heap.size) (w.heap.size + 1) (wsOf (ps.take k))) ∧ Hid (Below w.heap.size w wr) ∧ Hid (wr.heap[w.heap.size]? = some (.cells #[.slice A ps.length c, .int .i64 fu, .int .u64 ke] 36)) ∧ w.heap.size + 2 ≤ wr.heap.size) (fun i _ => ps.length - (intOf i).toNat)
  case atStart => exact ⟨0, rfl, by omega, HM0.out, HB0.out, HR0.out, by omega⟩
  case round =>
    obtain ⟨k, rfl, hk, hmp, hbl, hrw, hsz⟩ := hrel
    by_cases hlt : k < ps.length
    · obtain ⟨q, hqk⟩ : ∃ q, ps[k]? = some q := ⟨ps[k], List.getElem?_eq_getElem hlt⟩
      obtain ⟨b2, off2, c2', e2, _, _, hB2, hat⟩ := (H.out.below hbl.out).at (by omega)
      injection e2 with e2 _ e3
      subst e2 e3
      obtain ⟨d0, d1⟩ := hat k q hqk
      have hql : q.2.length ≤ 32768 := Nat.le_trans (bytesP_mem (List.mem_of_getElem? hqk)) hby.out
      have hqw := hwf.out q (List.mem_of_getElem? hqk)
      have HQ := Lib.hid hqk
      clear hat hqk
      have hb1 : Below wr.heap.size wr (wr.alloc (.cells #[.int .i64 q.1, .string ⟨q.2.toArray⟩] 51)) := (Below.refl _ _).alloc (Nat.le_refl _) _
      have HM1 := Lib.hid (hmp.out.below hb1)
      have HB1 := Lib.hid (hbl.out.trans (hb1.mono (by omega)))
      have HR1 := Lib.hid ((hb1.block w.heap.size (by omega)).trans hrw.out)
      clear hb1
      go_wp2_with (refine wp_bytes_of rfl _ rfl q.2 rfl (by omega) ?_)
      intro g cc w2 hrow hg hb2
      have hg : wr.heap.size + 1 ≤ g := by simpa using hg
      have hb2 := Lib.hid hb2
      have hf2 := Lib.hid (far_row (B := w.heap.size) hrow (by omega))
      have HM2 := Lib.hid (HM1.out.below (w' := w2) (by rw [asz]; exact hb2.out))
      have hz2 : wr.heap.size + 1 ≤ w2.heap.size := by have := hb2.out.size; rwa [asz] at this
      have HB2 := Lib.hid (HB1.out.trans (hb2.out.mono (by omega)))
      have HR2 := Lib.hid ((hb2.out.block w.heap.size (by omega)).trans HR1.out)
      have hnl : (wsOf (ps.take k)).length < maxLen := by have := wsOf_len (ps.take k); simp only [maxLen]; rw [List.length_take] at this; omega
      clear hrow HM1 HB1 HR1 hb2
      go_wp2_with (refine wp_put rfl _ _ _ (.inl rfl) (w.heap.size + 1) _ _ rfl HM2.out hnl q.1 rfl hqw ⟨some (g, 0), q.2.length, cc⟩ rfl q.2 hf2.out ?_)
      intro w3 hm3 hg3
      have HM3 := Lib.hid hm3
      have HG3 := Lib.hid hg3
      have hz3 := hg3.size
      clear hm3 hg3
      go_wp2_with fail
      go_roundw
      case rel => exact ⟨k + 1, by go_num, by omega, (by rw [wsOf_snoc HQ.out]; exact HM3.out), HB2.out.grown HG3.out (by omega) (fun k e => by injection e with e; omega), (HG3.out.block w.heap.size (by omega) (fun e => by injection e with e; omega)).trans HR2.out, by omega⟩
      case measure => simp [intOf]; omega
    · have hm1 : Hid (PgMap wr (fun k => k < w.heap.size) (w.heap.size + 1) (wsOf ps)) := by
        have := hmp.out
        rw [List.take_of_length_le (by omega)] at this
        exact this
      have HX1 := Lib.hid hbl.out
      have HY1 := Lib.hid hrw.out
      clear hmp HM0 HB0 HR0 hz1 hbl hrw
      obtain ⟨w1, hw1⟩ : ∃ x, x = wr := ⟨_, rfl⟩
      subst hw1
      obtain ⟨_, hris, q, ⟨D, hown, hsz2, hat⟩, h4, h5⟩ := hm1.out
      have HO := Lib.hid hown
      have HAT := Lib.hid hat
      have H4 := Lib.hid h4
      have H5 := Lib.hid h5
      have HRI := Lib.hid hris
      clear hat h4 h5 hris
      go_wp2_with (at_range; refine wpList_range_own _ rfl _ 37 rfl 3 49 bytK.law bytK.under bytK.R (w.heap.size + 1) (wsOf ps).length D rfl hown ?_; intro w2 hrg2 hg2 hs2)
      have hz1 := HX1.out.size
      have HX2 := Lib.hid ((Below.refl _ _).grown hg2 (Nat.le_refl w1.heap.size) (fun k e => by cases e))
      obtain ⟨ri, hri⟩ : ∃ x, w1.heap.size = x := ⟨_, rfl⟩
      rw [hri] at hrg2 hs2 HX2 ⊢
      have hlf : Hid (lf (wsOf ps) (Maps.has D) = (wsOf ps).length) := lf_all (fun p hp => by
        obtain ⟨s, hs, _⟩ := H5.out p hp
        have := MapF.has (M := bytK) (HAT.out p.1 (HRI.out.wf p hp))
        rw [hs] at this
        exact this)
      have hz1 : w.heap.size + 2 ≤ ri := by rw [← hri]; exact hsz
      clear hg2 HO hown hsz2
      have hwl := wsOf_len ps
      go_loopw [7] (fun v wr => ∃ (left : Lit → Bool) (cnt j : Nat), wr.ranges Tryz.prog 3 bytK.R (w.heap.size + 1) ri (wsOf ps).length D left cnt ∧ Hid (lf (wsOf ps) left + j = (wsOf ps).length) ∧ Hid (∀ x : Int, (Lit.int .i64 x).wf = true → left (.int .i64 x) = true → ∃ p ∈ wsOf ps, p.1 = x) ∧
        Hid (OwnPg wr (ri + 1) v ((wsOf ps).take j)) ∧ Hid (Below ri w1 wr) ∧ ri + 1 ≤ wr.heap.size) (fun _ wr => wr.rangeLeft (w.heap.size + 1) ri)
      case atStart => exact ⟨_, _, 0, hrg2, by have := hlf.out; unfold Hid; omega, (fun x hx hl => H4.out x hx (by have := MapF.has (M := bytK) (HAT.out x hx); exact this.symm.trans hl)), OwnPg.nil _ _, HX2.out, by omega⟩
      case round =>
        obtain ⟨left, cnt, j, hrg, hcn, hin, hown, hbl, hsz3⟩ := hrel
        clear HX2 hlf
        go_wp2_with (at_next; refine wpList_next_ranges _ rfl _ rfl 3 bytK.law bytK.R (fun x : Int => .int .i64 x) SlV.val (fun key kl hkey => by obtain ⟨x, rfl, _⟩ := Maps.keyOf_int_inv Tryz.underlying3 hkey; exact ⟨x, rfl⟩) (fun v y hv => by obtain ⟨c, rfl, _⟩ := slR_inv hv; exact ⟨c, rfl⟩) (w.heap.size + 1) ri (wsOf ps).length _ _ _ rfl hrg ?_ ?_)
        · intro hc0 hl0
          have hj : Hid (j = (wsOf ps).length) := by have := hcn.out; rw [lf_none hl0] at this; unfold Hid; omega
          go_wp2_with fail
          go_ret2
          have ho := hown.out
          rw [hj.out, List.take_of_length_le (Nat.le_refl _)] at ho
          exact ⟨_, _, rfl, hm1.out.below (by rw [hri]; exact hbl.out), ho.lower (by omega), HX1.out.trans (hbl.out.mono (by omega))⟩
        · intro x cc kl yd yp w3 cnt2 hkey hlk hv hat2 hrg3 hlt3 hg3 hs3 hen
          obtain ⟨x', ex, rfl, hwx⟩ := Maps.keyOf_int_inv Tryz.underlying3 hkey
          injection ex with _ ex
          subst ex
          have hnx := lf_next (wsOf_up ps) (hin.out x hwx hlk) hlk
          have hjl : j < (wsOf ps).length := by have := hcn.out; omega
          have HCN : Hid (lf (wsOf ps) (fun z => left z && !z.sameKey (.int .i64 x)) + (j + 1) = (wsOf ps).length) := by have := hcn.out; unfold Hid; omega
          have HIN : Hid (∀ y : Int, (Lit.int .i64 y).wf = true → (left (.int .i64 y) && !(Lit.int .i64 y).sameKey (.int .i64 x)) = true → ∃ p ∈ wsOf ps, p.1 = y) := fun y hy hl => hin.out y hy (by
            cases hly : left (.int .i64 y)
            · rw [hly] at hl; cases hl
            · rfl)
          have HO3 := Lib.hid (hown.out.other hg3 (Nat.lt_succ_self _))
          have HB3 := Lib.hid (hbl.out.grown hg3 (by omega) (fun k e => by injection e with e; omega))
          have hms : Hid (w3.rangeLeft (w.heap.size + 1) ri < wr.rangeLeft (w.heap.size + 1) ri) := by unfold Hid; rw [hrg3.left_eq, hrg.left_eq]; omega
          have HRG := Lib.hid hrg3
          obtain ⟨A4, n4, c4⟩ := cc
          dsimp only [SlV.val] at hen ⊢
          generalize Option.map (fun p : Nat × Nat => ({ block := p.1, off := p.2, spot := none } : Addr)) A4 = A4' at hen ⊢
          clear hnx hcn hin hown hbl hrg hrg3 hlk hv hat2 hkey hlt3 hg3
          obtain ⟨A3, c3, rfl, hc31, hc32⟩ := HO3.out.pgs.len
          have hlj : ((wsOf ps).take j).length = j := by rw [List.length_take]; omega
          rw [hlj] at HO3 hc31 ⊢
          have hbx : Hid (∀ W, Below w3.heap.size w3 W → W.cell? ⟨w.heap.size, 0, none⟩ = some (.slice A ps.length c)) := fun W hW => by
            have h1 : W.heap[w.heap.size]? = w1.heap[w.heap.size]? := (hW.block w.heap.size (by omega)).trans (HB3.out.block w.heap.size (by omega))
            exact cell_of_row _ _ 0 _ _ _ (h1.trans HY1.out)
          have cbox := hbx.out w3 (Below.refl _ _)
          have hsz4 : ri + 1 ≤ w3.heap.size := by rw [hs3]; exact hsz3
          have HBX := hbx
          clear hbx
          go_wp2_with fail
          go_loopw [8, 34] (fun be i wr => ∃ (k : Nat) (best : Int), i = .int .i64 k ∧ be = .int .i64 best ∧ k ≤ ps.length ∧ Hid (Best ps (lastI (wsOf ps) j) k best) ∧ Hid (Below w3.heap.size w3 wr)) (fun _ i _ => ps.length - (intOf i).toNat)
          case atStart => exact ⟨0, -1, rfl, rfl, by omega, best_zero, Below.refl _ _⟩
          case round =>
            obtain ⟨k, best, rfl, rfl, hk, hbest, hbl⟩ := hrel
            have hbz := hbl.out.size
            have cb := HBX.out wr hbl.out
            clear cbox
            by_cases hlt : k < ps.length
            · obtain ⟨q, hqk⟩ : ∃ q, ps[k]? = some q := ⟨ps[k], List.getElem?_eq_getElem hlt⟩
              have hbw : Below w.heap.size w wr := (HX1.out.trans (HB3.out.mono (by omega))).trans (hbl.out.mono (by omega))
              obtain ⟨b2, off2, c2', e2, _, _, hB2, hat⟩ := (H.out.below hbw).at (by omega)
              injection e2 with e2 _ e3
              subst e2 e3
              obtain ⟨d0, d1⟩ := hat k q hqk
              have HQ := Lib.hid hqk
              have hup : Hid (Below w3.heap.size w3 (wr.alloc (.cells #[.int .i64 q.1, .string ⟨q.2.toArray⟩] 51))) := hbl.out.trans (((Below.refl _ _).alloc (Nat.le_refl _) _).mono hbz)
              have HAT := Lib.hid hat
              clear hat hbw
              have hba : ∀ (o : Obj) (p : Addr), p.block < wr.heap.size → (wr.alloc o).cell? p = wr.cell? p := fun o p hp => ((Below.refl wr.heap.size wr).alloc (Nat.le_refl _) o).cell hp
              have HBA := Lib.hid hba
              clear hba
              have hb2w : b2 < wr.heap.size := by omega
              have cbw : ∀ o : Obj, (wr.alloc o).cell? ⟨w.heap.size, 0, none⟩ = some (.slice (some ⟨b2, off2, none⟩) ps.length c) := fun o => (HBA.out o ⟨w.heap.size, 0, none⟩ (by show w.heap.size < _; omega)).trans cb
              have hbest0 := hbest.out.is
              have hend : Hid (∀ n, Below w3.heap.size w3 ((wr.alloc (.cells #[.int .i64 q.1, .string ⟨q.2.toArray⟩] 51)).drewN n)) := fun n => hup.out.trans ⟨rfl, rfl, rfl, Nat.le_refl _, fun _ _ => rfl⟩
              by_cases hj0 : j = 0
              · have hcd : Hid (cd (lastI (wsOf ps) j) q.1) := fun y hy => by rw [hj0] at hy; cases hy
                have hq0 : ((j : Int) == 0) = true := by rw [hj0]; rfl
                clear hj0
                rcases hbest0 with rfl | ⟨bi, pb, rfl, hbk, hpb⟩
                · have hnb := Lib.hid (hbest.out.up HQ.out hcd.out (fun bi p he _ => by omega))
                  go_wp2_with fail
                  go_quiet (fail)
                  all_goals go_wp2_with fail
                  all_goals refine ⟨⟨k + 1, _, by go_num, rfl, by omega, hnb.out, hend.out _⟩, ?_⟩
                  all_goals simp [intOf]
                  all_goals omega
                · have d2 := (HAT.out bi pb hpb).1
                  have hbps : bi < ps.length := by omega
                  have HPB := Lib.hid hpb
                  have hix := index_page2 b2 off2 ps.length c bi hbps
                  have hbd : decide ((bi : Int) < 0) = false := decide_eq_false (by omega)
                  have d2w : ∀ o : Obj, (wr.alloc o).cell? ⟨b2, off2 + bi * 2, none⟩ = some (.int .i64 pb.1) := fun o => (HBA.out o ⟨b2, off2 + bi * 2, none⟩ hb2w).trans d2
                  clear d2
                  clear hpb
                  by_cases hle : q.1 ≤ pb.1
                  · have hnb := Lib.hid (hbest.out.up2 HQ.out hcd.out rfl HPB.out hle)
                    go_wp2_with fail
                    go_quiet (fail)
                    all_goals go_wp2_with fail
                    all_goals refine ⟨⟨k + 1, _, by go_num, rfl, by omega, hnb.out, hend.out _⟩, ?_⟩
                    all_goals simp [intOf]
                    all_goals omega
                  · have hle' : pb.1 < q.1 := by omega
                    have hnb := Lib.hid (hbest.out.stay HQ.out rfl HPB.out hle')
                    go_wp2_with fail
                    go_quiet (fail)
                    all_goals go_wp2_with fail
                    all_goals refine ⟨⟨k + 1, _, by go_num, rfl, by omega, hnb.out, hend.out _⟩, ?_⟩
                    all_goals simp [intOf]
                    all_goals omega
              · obtain ⟨j', rfl⟩ : ∃ j', j = j' + 1 := ⟨j - 1, by omega⟩
                obtain ⟨b3, off3, c3', e3, _, _, hB3, hat3⟩ := HO3.out.pgs.at (by rw [hlj]; omega)
                rw [hlj] at e3
                injection e3 with e3 _ e4
                subst e3 e4
                have d3' := (hat3 j' (wsOf ps)[j'] (by rw [List.getElem?_take, if_pos (by omega)]; exact List.getElem?_eq_getElem (by omega))).1
                obtain ⟨la, hla⟩ : ∃ la, (wsOf ps)[j'].1 = la := ⟨_, rfl⟩
                have hli : Hid (lastI (wsOf ps) (j' + 1) = some la) := by
                  unfold Hid lastI
                  rw [if_neg (by omega), Nat.add_sub_cancel, List.getElem?_eq_getElem (by omega)]
                  show some ((wsOf ps)[j'].1) = _
                  rw [hla]
                rw [hla] at d3'
                have d3 : wr.cell? ⟨b3, off3 + j' * 2, none⟩ = some (.int .i64 la) := (hbl.out.cell (p := ⟨b3, off3 + j' * 2, none⟩) hB3).trans d3'
                clear hat3 hla d3' hj0
                have hj2 : j' < c3 := by omega
                have hjx := index_page2 b3 off3 (j' + 1) c3 j' (Nat.lt_succ_self _)
                have hb3w : b3 < wr.heap.size := by omega
                have d3w : ∀ o : Obj, (wr.alloc o).cell? ⟨b3, off3 + j' * 2, none⟩ = some (.int .i64 la) := fun o => (HBA.out o ⟨b3, off3 + j' * 2, none⟩ hb3w).trans d3
                clear d3
                have hq0 : ((j' : Int) + 1 == 0) = false := by rw [beq_eq_false_iff_ne]; omega
                have hwj : IntKind.i64.wrap (j' : Int) = (j' : Int) := wrap_small _ (by omega) (by omega)
                have hjs : (j' : Int) + 1 - 1 = (j' : Int) := by omega
                by_cases hgt : la < q.1
                · have hcd : Hid (cd (lastI (wsOf ps) (j' + 1)) q.1) := fun y hy => by rw [hli.out] at hy; injection hy with hy; omega
                  rcases hbest0 with rfl | ⟨bi, pb, rfl, hbk, hpb⟩
                  · have hnb := Lib.hid (hbest.out.up HQ.out hcd.out (fun bi p he _ => by omega))
                    go_wp2_with fail
                    go_quiet (fail)
                    all_goals go_wp2_with fail
                    all_goals refine ⟨⟨k + 1, _, by go_num, rfl, by omega, hnb.out, hend.out _⟩, ?_⟩
                    all_goals simp [intOf]
                    all_goals omega
                  · have d2 := (HAT.out bi pb hpb).1
                    have hbps : bi < ps.length := by omega
                    have HPB := Lib.hid hpb
                    have hix := index_page2 b2 off2 ps.length c bi hbps
                    have hbd : decide ((bi : Int) < 0) = false := decide_eq_false (by omega)
                    have d2w : ∀ o : Obj, (wr.alloc o).cell? ⟨b2, off2 + bi * 2, none⟩ = some (.int .i64 pb.1) := fun o => (HBA.out o ⟨b2, off2 + bi * 2, none⟩ hb2w).trans d2
                    clear d2
                    clear hpb
                    by_cases hle : q.1 ≤ pb.1
                    · have hnb := Lib.hid (hbest.out.up2 HQ.out hcd.out rfl HPB.out hle)
                      go_wp2_with fail
                      go_quiet (fail)
                      all_goals go_wp2_with fail
                      all_goals refine ⟨⟨k + 1, _, by go_num, rfl, by omega, hnb.out, hend.out _⟩, ?_⟩
                      all_goals simp [intOf]
                      all_goals omega
                    · have hle' : pb.1 < q.1 := by omega
                      have hnb := Lib.hid (hbest.out.stay HQ.out rfl HPB.out hle')
                      go_wp2_with fail
                      go_quiet (fail)
                      all_goals go_wp2_with fail
                      all_goals refine ⟨⟨k + 1, _, by go_num, rfl, by omega, hnb.out, hend.out _⟩, ?_⟩
                      all_goals simp [intOf]
                      all_goals omega
                · have hgt' : q.1 ≤ la := by omega
                  have hdec : decide (la < q.1) = false := decide_eq_false hgt
                  have hncd : Hid (¬ cd (lastI (wsOf ps) (j' + 1)) q.1) := fun h => by have := h la hli.out; omega
                  have hnb := Lib.hid (hbest.out.low HQ.out hncd.out)
                  go_wp2_with fail
                  go_quiet (fail)
                  all_goals go_wp2_with fail
                  all_goals refine ⟨⟨k + 1, _, by go_num, rfl, by omega, hnb.out, hend.out _⟩, ?_⟩
                  all_goals simp [intOf]
                  all_goals omega
            · have hfd := Best.found (j := j) (by have := hbest.out; rwa [show k = ps.length by omega] at this) hjl
              obtain ⟨bi, rfl, hbps, hpb⟩ := hfd
              have hbw : Below w.heap.size w wr := (HX1.out.trans (HB3.out.mono (by omega))).trans (hbl.out.mono (by omega))
              obtain ⟨b2, off2, c2', e2, _, _, hB2, hat⟩ := (H.out.below hbw).at (by omega)
              injection e2 with e2 _ e3
              subst e2 e3
              obtain ⟨d0, d1⟩ := hat bi _ hpb
              obtain ⟨q, hq⟩ : ∃ x, (wsOf ps)[j] = x := ⟨_, rfl⟩
              rw [hq] at d0 d1 hpb
              have hqw := hwf.out q (List.mem_of_getElem? hpb)
              have HO4 := Lib.hid (HO3.out.keep hbl.out)
              have HQJ := Lib.hid hq
              clear hat hbw hbest hpb hq
              have hlj8 : ((wsOf ps).take j).length ≤ 8388608 := by omega
              have hrow : (wr.alloc (.cells #[.int .i64 q.1, .string ⟨q.2.toArray⟩] 51)).heap[wr.heap.size]? = some (.cells #[.int .i64 q.1, .string ⟨q.2.toArray⟩] 51) := heap_alloc_new _ _
              have HROW := Lib.hid hrow
              clear hrow
              go_wp2_with (at_builtin; refine wp_append_page rfl _ _ rfl rfl (HO4.out.keep ((Below.refl _ _).alloc (Nat.le_refl _) _)) (by simp; omega) q hqw wr.heap.size 0 _ rfl (cell_of_row _ _ 0 _ _ _ HROW.out) (cell_of_row _ _ 1 _ _ _ HROW.out) hlj8 ?_)
              intro v5 w5 hov hbv _
              have HOV := Lib.hid hov
              have hb5 : Below (ri + 1) w3 w5 := (hbl.out.mono hsz4).trans (((Below.refl _ _).alloc (by omega) _).trans hbv)
              have HB5 := Lib.hid hb5
              have hz5 := hb5.size
              clear hov hbv hb5 cb
              go_wp2_with fail
              go_roundw
              case rel =>
                refine ⟨_, cnt2, j + 1, ranges_heap HRG.out (HB5.out.block _ (by omega)) (HB5.out.block _ (by omega)), HCN.out, HIN.out, ?_, HB3.out.trans (HB5.out.mono (by omega)), by omega⟩
                rw [List.take_succ_eq_append_getElem hjl, HQJ.out]
                exact HOV.out
              case measure =>
                have h1 := (ranges_heap HRG.out (HB5.out.block (w.heap.size + 1) (by omega)) (HB5.out.block ri (by omega))).left_eq
                have h2 := HRG.out.left_eq
                have h3 := hms.out
                omega

end Go.Proofs.YtkbmajgbhpecgaaGreatDoor.Cd
