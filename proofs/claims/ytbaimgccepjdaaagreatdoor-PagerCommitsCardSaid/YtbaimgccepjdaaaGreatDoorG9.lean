/-
  The journal's pages are written, the file is synced, the journal removed. Conditions: the power is on.
-/
import Derived.Test.YtbaimgccepjdaaaGreatDoorG8
import Derived.Test.YtbaimgccepjdaaaGreatDoorG7
import Derived.BigRegion
import Derived.RangeFuncIn
import Derived.RangeFuncRecord
import Derived.RangeFuncSeq
import Derived.RangeFuncBound
import Derived.RangeFuncCalls
import Derived.OrdersHeld
import Derived.OrdersIn
import Derived.TacticsIn
import Derived.Deep.RegionHeld
import Derived.Shelf.Abstract
import Derived.Shelf.RegionOpen
import Derived.WalkKit
import Derived.OwnWalkIn
import Derived.TacticsInMore
import Derived.LoopNIn
import Derived.LoopIn
import Derived.BigRegionIn
import Derived.Deep.RegionHeld3
/-
  A pager: how many of the pages are new ones. Conditions: the power is on; at most 2^20 pages.
-/
namespace Go.Proofs.YtbaimgccepjdaaaGreatDoor.Cd
open Go.RowKit

theorem DkS.pages_le {w : World} {g N : Nat} {S : Nat → Prop} {D : Dsk} (h : DkS w g N S D) (ho : D.off = false) (s : List UInt8) : (pagesF D.now s).length ≤ 4096 := by
  obtain ⟨P, h1, h2⟩ := h
  have e := h2.count (s := s) (by rw [← h2.off]; exact ho)
  have c := h2.counted (by rw [← h2.off]; exact ho) s
  have f1 := h1.fits.nns
  have f2 := h1.fits.room
  omega

/-- What is told of the new pages. -/
def freshR (c : Nat) (ws : Pgs) : Value := match freshN c ws with
  | none => .tuple #[.int .i64 0, .bool false]
  | some f => .tuple #[.int .i64 f, .bool true]

theorem freshR_none {c : Nat} {ws : Pgs} (h : freshN c ws = none) : freshR c ws = .tuple #[.int .i64 0, .bool false] := by unfold freshR; rw [h]
theorem freshR_some {c f : Nat} {ws : Pgs} (h : freshN c ws = some f) : freshR c ws = .tuple #[.int .i64 f, .bool true] := by unfold freshR; rw [h]

/-- Where the count stands behind the first k pages. -/
def FreshAt (L : Nat) (ws : Pgs) (k c : Nat) : Prop := freshN L ws = (freshN c (ws.drop k)).map (· + (c - L))

theorem FreshAt.start (L : Nat) (ws : Pgs) : FreshAt L ws 0 L := by
  unfold FreshAt
  rw [List.drop_zero, Nat.sub_self]
  cases freshN L ws <;> rfl
section
variable {L k c : Nat} {ws : Pgs}
theorem FreshAt.bad (h : FreshAt L ws k c) (hk : k < ws.length) (hb : ws[k].1 < 0 ∨ (c : Int) < ws[k].1) : freshN L ws = none := by
  unfold FreshAt at h
  rw [List.drop_eq_getElem_cons hk, freshN, if_pos hb] at h
  exact h
theorem FreshAt.new (h : FreshAt L ws k c) (hk : k < ws.length) (hi : ws[k].1 = (c : Int)) (hL : L ≤ c) : FreshAt L ws (k + 1) (c + 1) := by
  unfold FreshAt at h ⊢
  rw [List.drop_eq_getElem_cons hk, freshN, if_neg (by omega), if_pos hi] at h
  rw [h]
  cases freshN (c + 1) (ws.drop (k + 1)) with
  | none => rfl
  | some f => show some (f + 1 + (c - L)) = some (f + (c + 1 - L)); congr 1; omega
theorem FreshAt.old (h : FreshAt L ws k c) (hk : k < ws.length) (h0 : 0 ≤ ws[k].1) (hi : ws[k].1 < (c : Int)) : FreshAt L ws (k + 1) c := by
  unfold FreshAt at h ⊢
  rw [List.drop_eq_getElem_cons hk, freshN, if_neg (by omega), if_neg (by omega)] at h
  exact h
theorem FreshAt.done (h : FreshAt L ws ws.length c) : freshN L ws = some (c - L) := by
  unfold FreshAt at h
  rw [List.drop_length] at h
  rw [h]
  show some (0 + (c - L)) = _
  rw [Nat.zero_add]
end

set_option maxRecDepth 100000 in
set_option maxHeartbeats 1600000 in
theorem fresh_any (p g N b : Nat) (n : List UInt8) (ws : Pgs) (S : Nat → Prop) (D : Dsk) (w : World) (h : PgrAt w S p g n) (hd : DkS w g N S D) (ho : D.off = false) (hn : n.length ≤ 140737488355000) (hm : PgMap w S b ws) (hl : ws.length ≤ 1048576) :
    Calls Tryz.prog 51 #[.pointer (some ⟨p, 0, none⟩), .map (some b)] w (Says (freshR (pagesF D.now n).length ws) w) := by
  have hC := Lib.hid (count_p p g N n S D w h hd ho hn)
  have hle := hd.pages_le ho n
  obtain ⟨L, hL⟩ : ∃ L, (pagesF D.now n).length = L := ⟨_, rfl⟩
  rw [hL] at hC hle ⊢
  have HM := Lib.hid hm
  clear hL h hd hm
  go_enter Tryz.func51, Tryz.ntmps51
  go_wp2_with (first
    | (go_at_call 20; refine hC.out.mono ?_; rintro e w1 ⟨rfl, hb1⟩; have HB1 := Lib.hid hb1; have HR := Lib.hid (rising_any b ws S w1 (HM.out.below hb1) hl); clear hb1)
    | (go_at_call 85; refine HR.out.mono ?_; rintro e w2 ⟨v, rfl, hf, _, hb2⟩; have HB2 := Lib.hid (HB1.out.trans (hb2.mono HB1.out.size)); have HF := Lib.hid hf; obtain ⟨A, cc, rfl, hc1, hc2⟩ := hf.len; clear hf hb2 HR))
  rw [List.length_map] at hc1
  have hl' : (ws.length : Int) ≤ 1048576 := by omega
  go_loopw [7, 16] (fun u v wr => ∃ k c : Nat, u = .int .i64 c ∧ v = .int .i64 k ∧ k ≤ ws.length ∧ L ≤ c ∧ c ≤ L + k ∧ Hid (FreshAt L ws k c) ∧ wr = w2) (fun _ v _ => ws.length - (intOf v).toNat)
  case atStart => exact ⟨0, L, rfl, rfl, by omega, by omega, by omega, FreshAt.start L ws, rfl⟩
  case round =>
    obtain ⟨k, c, rfl, rfl, hk, hc3, hc4, hfa, rfl⟩ := hrel
    by_cases hlt : k < ws.length
    · have hlt' : (k : Int) < ws.length := by omega
      obtain ⟨fb, off, hA, hfb, hcell⟩ := HF.out.at (k := k) (by rw [List.length_map]; exact hlt)
      rw [List.getElem_map] at hcell
      have hwf := HM.out.rising.wf ws[k] (List.getElem_mem hlt)
      obtain ⟨i, hi⟩ : ∃ i, ws[k].1 = i := ⟨_, rfl⟩
      rw [hi] at hcell hwf
      subst hA
      have HI := Lib.hid hi
      clear hi
      have hbd := bounds_i64 hwf
      by_cases h1 : i < 0
      · have hn1 : freshR L ws = _ := freshR_none (hfa.out.bad hlt (.inl (by rw [HI.out]; exact h1)))
        rw [hn1]
        go_wp2_with fail
        go_ret2
        exact ⟨rfl, HB2.out⟩
      · by_cases h2 : (c : Int) < i
        · have hn1 : freshR L ws = _ := freshR_none (hfa.out.bad hlt (.inr (by rw [HI.out]; exact h2)))
          rw [hn1]
          go_wp2_with fail
          go_ret2
          exact ⟨rfl, HB2.out⟩
        · by_cases h3 : i = (c : Int)
          · have hnew : Hid (FreshAt L ws (k + 1) (c + 1)) := hfa.out.new hlt (HI.out.trans h3) hc3
            subst h3
            have hmx : max (c : Int) ((c : Int) + 1) = (c : Int) + 1 := by omega
            go_wp2_with fail
            go_roundw
            case rel => exact ⟨k + 1, c + 1, by go_num, by go_num, by omega, by omega, by omega, hnew, by first | rfl | trivial⟩
            case measure => simp [intOf]; omega
          · have hold : Hid (FreshAt L ws (k + 1) c) := hfa.out.old hlt (by rw [HI.out]; omega) (by rw [HI.out]; omega)
            have hmx : max (c : Int) (i + 1) = (c : Int) := by omega
            go_wp2_with fail
            go_roundw
            case rel => exact ⟨k + 1, c, by go_num, by go_num, by omega, by omega, by omega, hold, by first | rfl | trivial⟩
            case measure => simp [intOf]; omega
    · have hlt' : (ws.length : Int) ≤ k := by omega
      obtain rfl : k = ws.length := by omega
      have hn1 : freshR L ws = _ := freshR_some hfa.out.done
      rw [hn1]
      have hcL : (c : Int) - L = ((c - L : Nat) : Int) := by omega
      go_wp2_with fail
      go_ret2
      refine ⟨?_, HB2.out⟩
      show Ending.returned (.tuple #[.int .i64 ((c - L : Nat) : Int), .bool true]) = _
      rw [hn1]

end Go.Proofs.YtbaimgccepjdaaaGreatDoor.Cd

/-
  The record of a map of pages. Conditions: at most 2^20 pages, none too long.
-/
namespace Go.Proofs.YtbaimgccepjdaaaGreatDoor.Cd
open Go.RowKit

theorem PgMap.look_all {w : World} {S : Nat → Prop} {b : Nat} {ws : Pgs} (h : PgMap w S b ws) {k : Nat} (hk : k < ws.length) :
    ∃ A n c, ∀ W, Below w.heap.size w W → (Instr.lookup 36 (.map (some b)) (.int .i64 ws[k].1) false).run Tryz.prog W = .ok (.slice A n c) W ∧ Far W S (.slice A n c) ws[k].2 := by
  have hlt := h.lt
  obtain ⟨_, h2, q, h3, _, h5⟩ := h
  obtain ⟨s, hs, hf⟩ := h5 ws[k] (List.getElem_mem hk)
  exact ⟨_, _, _, fun W hb => ⟨byt_look (h3.below hb hlt) (h2.wf _ (List.getElem_mem hk)) (by rw [hs]; rfl), hf.below hb⟩⟩

/-- The record's text behind the first k pages. -/
def recK (ws : Pgs) (k : Nat) : List UInt8 := enc (zig ws.length) ++ ((ws.take k).map recP).flatten
theorem recK_zero (ws : Pgs) : recK ws 0 = enc (zig ws.length) := by simp [recK]
theorem recK_succ {ws : Pgs} {k : Nat} (hk : k < ws.length) : recK ws (k + 1) = recK ws k ++ recP ws[k] := by
  unfold recK
  rw [List.take_succ_eq_append_getElem hk, List.map_append, List.flatten_append, ← List.append_assoc]
  simp only [List.map_cons, List.map_nil, List.flatten_cons, List.flatten_nil, List.append_nil]
theorem recK_all (ws : Pgs) : recK ws ws.length = recT ws := by unfold recK recT; rw [List.take_length]
theorem recP_len {p : Int × List UInt8} (hw : (Lit.int .i64 p.1).wf = true) (hl : p.2.length ≤ 512) : (recP p).length ≤ 532 := by
  have hb := bounds_i64 hw
  have h1 := enc_u64 _ (zig_lt hb.1 hb.2)
  have h2 := enc_u64 p.2.length (by omega)
  simp only [recP, List.length_append]
  omega
theorem recK_len {ws : Pgs} (hw : ∀ p ∈ ws, (Lit.int .i64 p.1).wf = true) (hl : ∀ p ∈ ws, p.2.length ≤ 512) (hn : ws.length ≤ 1048576) (k : Nat) (hk : k ≤ ws.length) : (recK ws k).length ≤ 10 + 532 * k := by
  induction k with
  | zero =>
    rw [recK_zero]
    have := enc_u64 (zig ws.length) (zig_lt (by omega) (by omega))
    omega
  | succ k ih =>
    rw [recK_succ (by omega), List.length_append]
    have := ih (by omega)
    have := recP_len (hw _ (List.getElem_mem (show k < ws.length by omega))) (hl _ (List.getElem_mem (show k < ws.length by omega)))
    omega

/-- The row of numbers is no block of this row's, and lies as it lay. -/
def Kept2 (A : Option Addr) (u : Value) (w w' : World) : Prop := ∀ r, A = some r → u.ownBlock ≠ some r.block ∧ w'.heap[r.block]? = w.heap[r.block]?

theorem nil_sl0 (w : World) (B : Nat) : Sl w B (.slice none 0 0) [] := ⟨none, 0, rfl, Nat.le_refl _, by decide, fun _ => rfl, (fun _ h => by cases h), (fun _ h => by cases h)⟩

set_option maxRecDepth 100000 in
set_option maxHeartbeats 3200000 in
theorem encode_any (b : Nat) (ws : Pgs) (S : Nat → Prop) (w : World) (hm : PgMap w S b ws) (hl : ws.length ≤ 1048576) (hs : ∀ p ∈ ws, p.2.length ≤ 512) :
    Calls Tryz.prog 52 #[.map (some b)] w (Wrote w (recF ws)) := by
  have HM := Lib.hid hm
  have HL := Lib.hid (hm.len 3)
  have hrl := recK_len hm.rising.wf hs hl
  have HRL := Lib.hid hrl
  have HS := Lib.hid hs
  clear hm hrl hs
  have hlen := HL.out
  have hl' : (ws.length : Int) ≤ 1048576 := by omega
  go_enter Tryz.func52, Tryz.ntmps52
  go_wp2_with (first
    | (go_at_call 86; refine (int_any _ [] ws.length w (nil_sl0 _ _) (by omega) (by omega) (by simp)).mono ?_; rintro e w1 ⟨v1, rfl, ho1, hb1⟩; rw [List.nil_append, ← recK_zero] at ho1; have HO1 := Lib.hid ho1; have HB1 := Lib.hid hb1; have HR := Lib.hid (rising_any b ws S w1 (HM.out.below hb1) hl); clear hb1 ho1)
    | (go_at_call 85; refine HR.out.mono ?_; rintro e w2 ⟨v, rfl, hf, hnew, hb2⟩; have HNW := Lib.hid hnew; have HLT := Lib.hid (fun k hk => ((HO1.out).lt k hk).2); have HO2 := Lib.hid (HO1.out.keep hb2); have HB2 := Lib.hid (HB1.out.trans (hb2.mono HB1.out.size)); have HF := Lib.hid hf; obtain ⟨A, cc, rfl, hc1, hc2⟩ := hf.len; clear hf hb2 HR hnew))
  rw [List.length_map] at hc1
  clear hlen
  go_loopw [3, 12] (fun u v wr => ∃ k : Nat, v = .int .i64 k ∧ k ≤ ws.length ∧ Hid (Own wr w.heap.size u (recK ws k)) ∧ Hid (Below w.heap.size w wr) ∧ w2.heap.size ≤ wr.heap.size ∧ Hid (Kept2 A u w2 wr)) (fun _ v _ => ws.length - (intOf v).toNat)
  case atStart => exact ⟨0, rfl, by omega, HO2, HB2, Nat.le_refl _, fun r hr => ⟨fun e => by have := HLT.out _ e; have := HNW.out r _ _ (by rw [hr]); omega, rfl⟩⟩
  case round =>
    obtain ⟨k, rfl, hk, ho, hbel, hgr, hkp⟩ := hrel
    by_cases hlt : k < ws.length
    · have hlt' : (k : Int) < ws.length := by omega
      obtain ⟨fb, off, hA, hfb, hcell⟩ := HF.out.at (k := k) (by rw [List.length_map]; exact hlt)
      rw [List.getElem_map] at hcell
      have hcell := (World.cell?_of_block (a := ⟨fb, off + k, none⟩) (hkp.out _ hA).2).trans hcell
      have HMr := HM.out.below hbel.out
      have hwf := HMr.rising.wf ws[k] (List.getElem_mem hlt)
      obtain ⟨pA, pn, pc, hall⟩ := HMr.look_all hlt
      have hsh := HS.out _ (List.getElem_mem hlt)
      have hsucc := recK_succ hlt
      have hrk := HRL.out k (by omega)
      obtain ⟨⟨i, bs⟩, hi⟩ : ∃ i, ws[k] = i := ⟨_, rfl⟩
      rw [hi] at hcell hwf hall hsh hsucc
      have hcell : wr.cell? ⟨fb, off + k, none⟩ = some (.int .i64 i) := hcell
      have hbd := bounds_i64 hwf
      have hsh : bs.length ≤ 512 := hsh
      subst hA
      clear hi HMr hwf
      have KS : Hid (∀ W, Below wr.heap.size wr W → (Instr.lookup 36 (.map (some b)) (.int .i64 i) false).run Tryz.prog W = .ok (.slice pA pn pc) W ∧ (convert 44 9 (.slice pA pn pc)).run Tryz.prog W = .ok (.string ⟨bs.toArray⟩) W) := fun W hb => ⟨(hall W hb).1, run_text_of _ _ _ _ (hall W hb).2.1⟩
      have HSU := Lib.hid hsucc
      clear hall hsucc
      have hi1 := enc_u64 (zig i) (zig_lt hbd.1 hbd.2)
      have hS0 := KS.out wr.drew (Below.refl _ _).drew
      have hwsz : w.heap.size ≤ wr.heap.size := hbel.out.size
      go_wp2_with fail
      obtain ⟨hL0, hC0⟩ := hS0
      go_region_law (first
        | (go_simp
           go_at_call 86
           refine (int_any _ [] i wr.drew (nil_sl0 _ _) hbd.1 hbd.2 (by simp)).mono ?_
           rintro e w3 ⟨v3, rfl, ho3, hb3⟩
           rw [List.nil_append] at ho3
           have hb3 : Below wr.heap.size wr w3 := (Below.refl _ _).drew.trans hb3
           obtain ⟨hL3, hC3⟩ := KS.out w3 hb3
           have HO3 := Lib.hid ho3
           have HB3 := Lib.hid hb3
           clear ho3 hb3)
        | (go_simp
           go_at_call 87
           refine (text_of _ (enc (zig i)) bs w3 HO3.out.sl (by omega)).mono ?_
           rintro e w4 ⟨v4, rfl, ho4, hb4⟩
           have HB4 : Hid (Below wr.heap.size wr w4) := HB3.out.trans (hb4.mono HB3.out.size)
           have HO4 := Lib.hid ho4
           clear ho4 hb4)
        | (refine step_append_by rfl (.tmp 16) (.tmp 23) rfl w.heap.size _ (recK ws k) (by simp [Act.eval]) (ho.out.keep HB4.out) (Nat.le_trans hwsz HB4.out.size) _ _ (enc (zig i) ++ (enc bs.length ++ bs)) (by simp [Act.eval]) HO4.out.sl (by simp; have := enc_pos bs.length; omega) (by have := enc_u64 bs.length (by omega); simp; omega) ?_
           intro v5 w5 ho5 hg5 hw5
           have HO5 := Lib.hid ho5
           have HG5 := Lib.hid hg5
           have HW5 := Lib.hid hw5
           clear ho5 hg5 hw5))
      all_goals
        have HO6 : Hid (Own w5 w.heap.size v5 (recK ws (k + 1))) := by unfold Hid; rw [HSU.out]; exact HO5.out
        have hb5 : Below w.heap.size w w5 := (hbel.out.trans (HB4.out.mono hwsz)).grown HG5.out (Nat.le_trans hwsz HB4.out.size) (fun j hj => ((ho.out.keep HB4.out).lt j hj).1)
        have HB6 := Lib.hid hb5
        have hk5 : Kept2 (some ⟨fb, off, none⟩) v5 w2 w5 := fun r hr => by
          obtain ⟨q1, q2⟩ := hkp.out r hr
          injection hr with hr
          subst hr
          have hl1 : fb < wr.heap.size := by omega
          have hl2 : fb < w4.heap.size := by have := HB4.out.size; omega
          refine ⟨fun e => ?_, ?_⟩
          · rcases HW5.out with h | h
            · exact q1 (h.symm.trans e)
            · have := h _ e; have h3 : w4.heap.size ≤ fb := this; omega
          · exact (HG5.out.block _ hl2 (fun e => q1 e.symm)).trans ((HB4.out.block _ hl1).trans q2)
        have HK6 := Lib.hid hk5
        have hgr6 : w2.heap.size ≤ w5.heap.size := by have := HB4.out.size; have := HG5.out.size; omega
        clear hb5 hk5
        go_wp2_with fail
        go_roundw
        case rel => exact ⟨k + 1, by go_num, by omega, HO6, HB6, hgr6, HK6⟩
        case measure => simp [intOf]; omega
    · have hlt' : (ws.length : Int) ≤ k := by omega
      obtain rfl : k = ws.length := by omega
      have HR := HRL.out ws.length (Nat.le_refl _)
      rw [recK_all] at ho HR
      have ht := run_text_of wr _ _ _ ho.out.sl
      go_wp2_with (go_at_call 88; refine (put_any _ [] (recT ws) wr (nil_sl0 _ _) (by simp; omega)).mono ?_; rintro e w6 ⟨v6, rfl, ho6, hb6⟩; rw [List.nil_append] at ho6; have HO6 := Lib.hid (ho6.lower hbel.out.size); have HB6 := Lib.hid (hbel.out.trans (hb6.mono hbel.out.size)); clear ho6 hb6)
      go_ret
      exact ⟨_, rfl, HO6.out, HB6.out⟩

end Go.Proofs.YtbaimgccepjdaaaGreatDoor.Cd

/-
  A range over a function whose body calls what writes maps: the invariant is told of the loop's own two blocks, and the body keeps these. Conditions: the loop stands in no other one.
-/
namespace Go.Proofs.YtbaimgccepjdaaaGreatDoor.Cd
open Go.RowKit

/-- The loop's two blocks lie as they lay. -/
def Two (b : Nat) (W W' : World) : Prop := W'.heap[b]? = W.heap[b]? ∧ W'.heap[b + 1]? = W.heap[b + 1]?
/-- How a round may be left. -/
def roundEnds (b : Nat) (J : World → Prop) (Jx : Code → World → Prop) (W : World) : Exit → Act → World → Prop
  | .normal, _, W' => Two b W W' ∧ J W'
  | .ret, _, W' => Two b W W' ∧ Jx .ret W'
  | .exit i, _, W' => Two b W W' ∧ Jx (.exit i) W'
  | .goto t, _, W' => Two b W W' ∧ Jx (.goto t) W'
  | .panic _, _, _ => False
  | .outgrown, _, _ => False
/-- What stays behind steps that turn nothing that lay, and behind a turn of block r. -/
def Stays (r : Nat) (J : World → Prop) : Prop := (∀ A B, J A → Below A.heap.size A B → J B) ∧ ∀ A o, J A → J (A.putObj r o)
/-- What an iterator is asked: it hands the items over, one behind the other, up to a round that says no. -/
def Hands {α : Type} (F : Fence) (n : Nat) (P : Program) (gf : Nat) (lb : Array Value) (encs : α → Array Value) (xs : List α) (Box : World → Prop) : Prop :=
  ∀ (l : Nat) (J Jx : Nat → World → Prop) (W : World),
    (∀ k A B, J k A → Below A.heap.size A B → J k B) → (∀ k A B, Jx k A → Below A.heap.size A B → Jx k B) → (∀ k A, J k A → Box A) →
    (∀ k x A, xs[k]? = some x → J k A → YieldAt F (n - 1) P l (encs x) A fun e A' => (e = .returned (.bool true) ∧ J (k + 1) A') ∨ (e = .returned (.bool false) ∧ Jx (k + 1) A')) →
    J 0 W → CallsIn F n P gf (#[.func (.yield l) #[] #[]] ++ lb) W fun e W' => (∃ v, e = .returned v) ∧ (J xs.length W' ∨ ∃ k, k ≤ xs.length ∧ Jx k W')

variable {F : Fence} {n : Nat} {P : Program}

theorem two_put {b : Nat} (W : World) {r : Nat} (o : Obj) (h : b ≠ r) : (W.putObj r o).heap[b]? = W.heap[b]? := World.putObj_heap_other h

theorem wpIn_range {α : Type} {g : Operand} {ps : Array Tmp} {assign body : Code} {Q : Exit → Act → World → Prop} {a : Act} {w : World} (hro : F.round = none) (h1 : 1 ≤ n) {gf : Nat} {lb : Array Value} (hg : a.eval g = .func (.func gf) #[] lb) (hFg : F.fn gf)
    (eg : ∀ args w, (callFunc gf args).run P w = .ok (.enter gf args) w) {encs : α → Array Value} (hps : ∀ x, (encs x).size = ps.size) (xs : List α) (Box : World → Prop) (hseq : Hands F (n - 1) P gf lb encs xs Box)
    (I : Nat → World → Prop) (Ix : Code → Nat → World → Prop) (hI : ∀ k, Stays (w.heap.size + 1) (I k)) (hIx : ∀ c k, Stays (w.heap.size + 1) (Ix c k)) (hBox : ∀ k A, I k A → Box A)
    (h0 : ∀ o, I 0 ((w.alloc (.deferred (some []))).alloc o)) (a₁ : α → Act)
    (hassign : ∀ (l : Nat) (x : α) (W : World) (K : Act → World → Prop), K (a₁ x) W → assign.wpIn (F.inRound l) (n - 1 - 1) P (Exit.then K (fun _ _ _ => False)) { tmps := (ps.zip (encs x)).foldl (fun t (p, v) => t.setIfInBounds p v) a.tmps, defers := [] } W)
    (hbody : ∀ (k : Nat) (x : α) (W : World), xs[k]? = some x → I k W → w.heap.size + 1 < W.heap.size → body.wpIn (F.inRound (w.heap.size + 1)) (n - 1 - 1) P (roundEnds w.heap.size (I (k + 1)) (fun c => Ix c (k + 1)) W) (a₁ x) W)
    (hdone : ∀ W, I xs.length W → W.heap[w.heap.size]? = some (.deferred (some [])) → Q .normal { a with defers := { target := .collected w.heap.size, args := #[] } :: a.defers } W)
    (hstop : ∀ (c : Code) (k : Nat) (W : World), k ≤ xs.length → Ix c k W → W.heap[w.heap.size]? = some (.deferred (some [])) → c.wpIn F n P Q { a with defers := { target := .collected w.heap.size, args := #[] } :: a.defers } W) :
    (Code.rangeFunc g ps assign body).wpIn F n P Q a w := by
  refine wpIn_rangeFunc ?_
  intro fn hfn
  rw [hro]
  obtain ⟨b, hb⟩ : ∃ b, w.heap.size = b := ⟨_, rfl⟩
  let rec_ : LoopState → Option Code → Obj := fun st pe => .loop { state := st, pending := pe, fn, tmps := a.tmps, params := ps, assign, body, defers := b }
  have hW : ∀ o, (((w.alloc (.deferred (some []))).alloc o).heap[b + 1]? = some o) ∧ (((w.alloc (.deferred (some []))).alloc o).heap[b]? = some (.deferred (some []))) := by
    intro o
    have e1 := World.alloc_heap_new (w.alloc (.deferred (some []))) o
    rw [World.size_alloc, hb] at e1
    have e2 := World.alloc_heap_new w (.deferred (some []))
    rw [hb] at e2
    exact ⟨e1, (Below.heap_alloc _ _ _ (by simp; omega)).trans e2⟩
  refine ⟨b + 1, [{ target := .collected b, args := #[] }], (w.alloc (.deferred (some []))).alloc (rec_ .ready none), { target := .fn (.func gf) lb, args := #[.func (.yield (b + 1)) #[] #[]] }, (w.alloc (.deferred (some []))).alloc (rec_ .ready none), gf, #[.func (.yield (b + 1)) #[] #[]] ++ lb, (w.alloc (.deferred (some []))).alloc (rec_ .ready none), ?_, ?_, fun f' hf' => ?_, ?_, fun _ => h1, ?_⟩
  · rw [← hb]
    have := run_enterLoop_outer (P := P) (w := w) fn a.tmps ps assign body
    rw [this]
    simp only [rec_, hb]
  · simp only [resolve, hg]
    simp [go_sem]
  · have hf' : some gf = some f' := by simpa [Target.leads] using hf'
    injection hf' with hf'
    rw [← hf']
    exact hFg
  · simp [invoke, go_sem, eg]
  simp only [hb] at hI hIx hbody hdone hstop ⊢
  refine (hseq (b + 1) (fun k W => I k W ∧ W.heap[b + 1]? = some (rec_ .ready none) ∧ W.heap[b]? = some (.deferred (some [])))
    (fun k W => ∃ c, Ix c k W ∧ W.heap[b + 1]? = some (rec_ .done (some c)) ∧ W.heap[b]? = some (.deferred (some []))) _ ?_ ?_ ?_ ?_ ⟨h0 _, (hW _).1, (hW _).2⟩).mono ?_
  · rintro k A B ⟨h1, h2, h3⟩ hAB
    exact ⟨(hI k).1 A B h1 hAB, (hAB.block _ (Array.getElem?_eq_some_iff.1 h2).1).trans h2, (hAB.block _ (Array.getElem?_eq_some_iff.1 h3).1).trans h3⟩
  · rintro k A B ⟨c, h1, h2, h3⟩ hAB
    exact ⟨c, (hIx c k).1 A B h1 hAB, (hAB.block _ (Array.getElem?_eq_some_iff.1 h2).1).trans h2, (hAB.block _ (Array.getElem?_eq_some_iff.1 h3).1).trans h3⟩
  · rintro k A ⟨h1, _⟩
    exact hBox k A h1
  · rintro k x W hx ⟨hi, hl, hk⟩
    have hlt : b + 1 < W.heap.size := (Array.getElem?_eq_some_iff.1 hl).1
    have hy := run_yield (P := P) (args := encs x) hl (hps x)
    refine ⟨fn, _, assign, body, hy, roundIn_of_wpIn hfn (hassign _ x W _ ⟨_, run_beginRound hl rfl, ?_⟩)⟩
    have hl2 : (W.putObj (b + 1) (rec_ .busy none)).heap[b + 1]? = some (rec_ .busy none) := World.putObj_heap_same hlt
    have hk2 : (W.putObj (b + 1) (rec_ .busy none)).heap[b]? = some (.deferred (some [])) := (two_put W _ (by omega)).trans hk
    refine wpIn_mono (hbody k x _ hx ((hI k).2 _ _ hi) (by rw [World.putObj_size]; exact hlt)) ?_
    have fin : ∀ (jump : Option Code) (W3 : World), Two b (W.putObj (b + 1) (rec_ .busy none)) W3 →
        (Instr.endRound (b + 1) jump).run P W3 = .ok (.bool jump.isNone) (W3.putObj (b + 1) (rec_ (if jump.isNone then .ready else .done) jump)) ∧
          (W3.putObj (b + 1) (rec_ (if jump.isNone then .ready else .done) jump)).heap[b + 1]? = some (rec_ (if jump.isNone then .ready else .done) jump) ∧
          (W3.putObj (b + 1) (rec_ (if jump.isNone then .ready else .done) jump)).heap[b]? = some (.deferred (some [])) := by
      rintro jump W3 ⟨t1, t2⟩
      have h3 : W3.heap[b + 1]? = some (rec_ .busy none) := t2.trans hl2
      exact ⟨run_endRound jump h3, World.putObj_heap_same (Array.getElem?_eq_some_iff.1 h3).1, (two_put W3 _ (by omega)).trans (t1.trans hk2)⟩
    rintro e a3 W3 hp
    cases e with
    | normal =>
      obtain ⟨r1, r2, r3⟩ := fin none W3 hp.1
      exact ⟨_, _, r1, .inl ⟨rfl, (hI _).2 _ _ hp.2, r2, r3⟩⟩
    | ret =>
      obtain ⟨r1, r2, r3⟩ := fin (some .ret) W3 hp.1
      exact ⟨_, _, r1, .inr ⟨rfl, _, (hIx _ _).2 _ _ hp.2, r2, r3⟩⟩
    | exit i =>
      obtain ⟨r1, r2, r3⟩ := fin (some (.exit i)) W3 hp.1
      exact ⟨_, _, r1, .inr ⟨rfl, _, (hIx _ _).2 _ _ hp.2, r2, r3⟩⟩
    | goto t =>
      obtain ⟨r1, r2, r3⟩ := fin (some (.goto t)) W3 hp.1
      exact ⟨_, _, r1, .inr ⟨rfl, _, (hIx _ _).2 _ _ hp.2, r2, r3⟩⟩
    | panic ch => exact hp.elim
    | outgrown => exact hp.elim
  · rintro e W2 ⟨⟨v, rfl⟩, (⟨hi, hl, hk⟩ | ⟨k, hk', c, hi, hl, hk⟩)⟩
    · exact ⟨none, _, run_endLoop hl (by simp), hdone _ ((hI _).2 _ _ hi) ((two_put W2 _ (by omega)).trans hk)⟩
    · exact ⟨some c, _, run_endLoop hl (by simp), hstop c k _ hk' ((hIx c k).2 _ _ hi) ((two_put W2 _ (by omega)).trans hk)⟩

end Go.Proofs.YtbaimgccepjdaaaGreatDoor.Cd

/-
  Inside a round of a loop over a function: an operation and a region that draws its order are shown as they are elsewhere. Conditions: no statement of the region defers a call.
-/
namespace Go.Proofs.YtbaimgccepjdaaaGreatDoor.Cd

section
variable {P : Program} {ops : Array Oper} {Q : Exit → Act → World → Prop} {l n : Nat}

theorem calls_round {f : FuncId} {args : Array Value} {w : World} {R : Ending → World → Prop} (h : Calls P f args w R) : CallsIn (Fence.wide.inRound l) n P f args w R := CallsIn.inRound l (callsIn_wide.2 h)

theorem oper_round {o : Oper} {a : Act} {w : World} {K : Act → World → Prop} (hd : ∀ c, o.op ≠ .defer c) (h : o.wp P a w K Q) : o.wpIn (Fence.wide.inRound l) n P a w K Q := by
  unfold Oper.wpIn
  refine ⟨fun _ _ => trivial, ?_⟩
  show o.uponIn _ n P a K Q ((o.semAt (some l) a.eval).run P w)
  rw [Oper.semAt_some _ _ _ hd]
  unfold Oper.wp at h
  generalize (execOp a.eval o).run P w = r at h ⊢
  have hn : (Fence.wide.inRound l).depth.isSome = true → 1 ≤ n := fun h => by cases h
  cases r with
  | ok x w' =>
    cases x with
    | value v => exact h
    | skip => exact h
    | defer d => exact h
    | enter f args => exact ⟨hn, CallsIn.mono (calls_round h) (fun e w'' he => by cases e <;> exact he)⟩
    | row row args => exact ⟨hn, fun c cs _ => let ⟨v, w', r, s⟩ := h c cs; ⟨v, w', r, stepsIn_wide.2 s⟩⟩
    | _ => exact h.elim
  | halt x w' =>
    cases x with
    | panic v => exact h
    | _ => exact h.elim

def noDefer (ops : Array Oper) : Bool := ops.toList.all fun o => match o.op with | .defer _ => false | _ => true
theorem noDefer_at (h : noDefer ops = true) {i : Nat} {o : Oper} (ho : ops[i]? = some o) : ∀ c, o.op ≠ .defer c := by
  intro c e
  have hm : o ∈ ops.toList := by
    have := (Array.getElem?_eq_some_iff.1 ho)
    obtain ⟨hi, rfl⟩ := this
    exact Array.getElem_mem_toList hi
  have := List.all_eq_true.1 h o hm
  rw [e] at this
  cases this

theorem wpOp_round {i : Nat} {a : Act} {w : World} {K : Act → World → Prop} (hlo : ¬ LetsOut Q) (hd : noDefer ops = true) (h : wpOp P ops Q i K a w) : wpOpIn (Fence.wide.inRound l) n P ops Q i K a w := by
  unfold wpOp at h
  unfold wpOpIn
  cases ho : ops[i]? with
  | none => rw [ho] at h; exact h
  | some o =>
    rw [ho] at h
    simp only at h ⊢
    split at h
    · rename_i hw
      rw [if_pos hw]
      rcases h with h | h
      · exact oper_round (noDefer_at hd ho) h
      · exact absurd h.2 hlo
    · rename_i hw
      rw [if_neg hw]
      exact ⟨fun _ _ => trivial, h⟩

theorem wpAny_round (hlo : ¬ LetsOut Q) (hd : noDefer ops = true) : ∀ (fuel : Nat) (listed : Array Bool) (a : Act) (w : World), wpAny P .any ops Q fuel listed a w → wpAnyIn (Fence.wide.inRound l) n P .any ops Q fuel listed a w := by
  intro fuel
  induction fuel with
  | zero => intro listed a w h; exact h
  | succ fuel ih => intro listed a w h; exact ⟨h.1, fun i hi => wpOpIn_mono (fun a' w' h' => ih _ a' w' h') (wpOp_round hlo hd (h.2 i hi))⟩

/-- A region that draws its order, in a round: S holds from the draw on. -/
theorem region_round {S : World → Prop} {id : Nat} {a : Act} {w W0 : World} (hW : w.drew = W0) (hm : P.follows .mixedOrders = true) (hlo : ¬ LetsOut Q) (hd : noDefer ops = true) (hS : S W0)
    (h : S W0 → wpAnyH P .any ops Q S ops.size (Array.replicate ops.size false) a W0) : (Code.region id ops true).wpIn (Fence.wide.inRound l) n P Q a w := by
  subst hW
  exact wpIn_region_any hm (wpAny_round hlo hd _ _ _ _ (wpAny_of_held _ _ _ _ (h hS)))
end

end Go.Proofs.YtbaimgccepjdaaaGreatDoor.Cd

/-
  slices.Chunk of bytes, by pages: what it hands over. Conditions: there are bytes.
-/
namespace Go.Proofs.YtbaimgccepjdaaaGreatDoor.Cd
open Go.RowKit Go.Shelf
attribute [local go_sem] Oper.semAt_some

theorem chunk_any (A : Option Addr) (n c : Nat) (w : World) :
    Calls Tryz.prog 89 #[.slice A n c, .int .i64 512] w (fun e w' => e = .returned (.func (.func 133) #[] #[.pointer (some ⟨w.heap.size, 0, none⟩), .pointer (some ⟨w.heap.size + 1, 0, none⟩)]) ∧
      w' = (w.alloc (.cells #[.slice A n c] 44)).alloc (.cells #[.int .i64 512] 3)) := by
  go_enter Tryz.func89, Tryz.ntmps89
  go_wp2_with fail
  go_ret
  exact ⟨by simp, rfl⟩

/-- The k-th page of n bytes at b, off. -/
def pgV (b off n k : Nat) : Value := .slice (some ⟨b, off + 512 * k, none⟩) (min 512 (n - 512 * k)) (min 512 (n - 512 * k))
/-- The two boxes of the iterator's. -/
def Boxes (bs bn : Nat) (b off n c : Nat) (W : World) : Prop := W.cell? ⟨bs, 0, none⟩ = some (.slice (some ⟨b, off, none⟩) n c) ∧ W.cell? ⟨bn, 0, none⟩ = some (.int .i64 512)

set_option maxRecDepth 100000 in
set_option maxHeartbeats 3200000 in
theorem chunk_hands (m bs bn b off n c : Nat) (hn : n ≤ c) (hc : c ≤ 9223372036854775807) (hn2 : n ≤ 140737488355328) :
    Hands Fence.wide m Tryz.prog 133 #[.pointer (some ⟨bs, 0, none⟩), .pointer (some ⟨bn, 0, none⟩)] (fun k => #[pgV b off n k]) (List.range (pagesOf n)) (Boxes bs bn b off n c) := by
  intro l J Jx W hJ hJx hB hY h0
  have HJ := Lib.hid hJ
  have HJX := Lib.hid hJx
  have HBX := Lib.hid hB
  have HY := Lib.hid hY
  have H0 := Lib.hid h0
  clear hJ hJx hB hY h0
  refine callsIn_of_wp Tryz.func133 rfl trivial ?_ rfl
  simp only [Tryz.ntmps133, List.size_toArray, List.length_cons, List.length_nil, Nat.reduceAdd, Nat.reduceSub, Array.replicate_succ, Array.replicate_zero, List.push_toArray, List.append_toArray, List.nil_append, List.cons_append]
  gi_wp2
  gi_loopw [4] (fun p wr => ∃ i k : Nat, p = .int .i64 i ∧ Hid (i = 512 * k) ∧ i ≤ n + 512 ∧ Hid (k ≤ pagesOf n) ∧ Hid (J k wr)) (fun p _ => n + 1024 - (intOf p).toNat)
  case atStart => exact ⟨0, 0, rfl, rfl, by omega, Nat.zero_le _, H0⟩
  case round =>
    obtain ⟨i, k, rfl, hi, hi2, hk, hJk⟩ := hrel
    obtain ⟨x1, x2⟩ := HBX.out k wr hJk.out
    have hn' : (n : Int) ≤ 140737488355328 := by omega
    by_cases hlt : i < n
    · have hlt' : (i : Int) < n := by omega
      have hJ1 : J k wr.drew := HJ.out k wr wr.drew hJk.out (Below.refl _ _).drew
      obtain ⟨y1, y2⟩ := HBX.out k wr.drew hJ1
      have hkl : k < pagesOf n := by have := hi.out; unfold pagesOf; omega
      obtain ⟨fn, tmps, assign, body, hy, hR⟩ := HY.out k k wr.drew (List.getElem?_range hkl) hJ1
      obtain ⟨e, he⟩ : ∃ e, min 512 (n - 512 * k) = e := ⟨_, rfl⟩
      have hpv : pgV b off n k = .slice (some ⟨b, off + i, none⟩) e e := by unfold pgV; rw [he, hi.out]
      have he' : e = min 512 (n - i) := by rw [hi.out]; exact he.symm
      have hmin : min (512 : Int) ((n - i : Nat) : Int) = (e : Int) := by omega
      have hsl : ((i : Int) + (e : Int)).toNat - i = e := by omega
      have he1 : i + e ≤ n := by omega
      have he2 : 1 ≤ e ∧ e ≤ 512 := by omega
      rw [hpv] at hy
      have HR := Lib.hid hR
      have HE := Lib.hid he'
      have HKL := Lib.hid hkl
      clear hR he' he hpv hJ1 hkl
      have hic : (i : Int) ≤ c := by omega
      gi_wp2
      gi_region
      all_goals gi_wp2
      refine ⟨fun h => (by cases h), HR.out.mono ?_⟩
      rintro e2 W3 (⟨rfl, hJ3⟩ | ⟨rfl, hJx3⟩)
      · have HJ3 := Lib.hid hJ3
        obtain ⟨z1, z2⟩ := HBX.out _ W3 hJ3
        clear hJ3
        gi_wp2
        go_roundw
        case rel =>
          have h1 := hi.out
          have h2 := HKL.out
          exact ⟨i + 512, k + 1, by go_num, by unfold Hid; omega, by omega, by unfold Hid; omega, HJ3⟩
        case measure => simp [intOf]; omega
      · have HX3 := Lib.hid hJx3
        clear hJx3
        gi_wp2
        refine bodyPost_ret (results_none rfl _ _ _) rfl ?_
        exact ⟨⟨_, rfl⟩, .inr ⟨k + 1, by rw [List.length_range]; exact HKL.out, HX3.out⟩⟩
    · have hlt' : (n : Int) ≤ i := by omega
      have hke : k = pagesOf n := by
        have h1 := hi.out
        have h2 := hk.out
        unfold pagesOf at *
        omega
      gi_wp2
      go_end0
      exact ⟨⟨_, rfl⟩, .inl (by rw [List.length_range, ← hke]; exact hJk.out)⟩

end Go.Proofs.YtbaimgccepjdaaaGreatDoor.Cd

/-
  A disk in the midst of a call that has blocks of its own: which of these are none of the disk's. Conditions: none.
-/
namespace Go.Proofs.YtbaimgccepjdaaaGreatDoor.Cd
open Go.RowKit

/-- A box. -/
def BoxAt (W : World) (r : Nat) (v : Value) (T : TypeId) : Prop := W.heap[r]? = some (.cells #[v] T)
section
variable {W W' : World} {r : Nat} {v u : Value} {T : TypeId}
theorem BoxAt.cell (h : BoxAt W r v T) : W.cell? ⟨r, 0, none⟩ = some v := cell_of_row _ _ 0 _ _ _ h
theorem BoxAt.frozen (h : BoxAt W r v T) : W.frozen? ⟨r, 0, none⟩ = false := by
  have h : W.heap[r]? = _ := h
  unfold World.frozen?
  simp only [h]
  rfl
theorem BoxAt.lt (h : BoxAt W r v T) : r < W.heap.size := (Array.getElem?_eq_some_iff.1 h).1
theorem BoxAt.new (W : World) (v : Value) (T : TypeId) : BoxAt (W.alloc (.cells #[v] T)) W.heap.size v T := heap_alloc_new W _
theorem BoxAt.alloc (h : BoxAt W r v T) (o : Obj) : BoxAt (W.alloc o) r v T := (Below.heap_alloc _ _ _ h.lt).trans h
theorem BoxAt.on (h : BoxAt W r v T) (he : W'.heap[r]? = W.heap[r]?) : BoxAt W' r v T := he.trans h
theorem BoxAt.set (h : BoxAt W r v T) (u : Value) : BoxAt (W.setCell ⟨r, 0, none⟩ u) r u T := by
  have h : W.heap[r]? = _ := h
  unfold BoxAt World.setCell
  simp [Array.getElem?_modify, h]
end

/-- Since w: the disk at g is D; its blocks are those of S and newer ones; the blocks of keep are none of them. -/
def InP (w : World) (S : Nat → Prop) (g : Nat) (keep : List Nat) (M : Nat) (D : Dsk) (W : World) : Prop :=
  ∃ T : Nat → Prop, DkS W g M T D ∧ (∀ j, T j → S j ∨ w.heap.size ≤ j) ∧ (∀ r ∈ keep, ¬ T r ∧ r < W.heap.size) ∧ Apart S w W

section
variable {w W W' : World} {S : Nat → Prop} {p g M N : Nat} {n bs : List UInt8} {keep : List Nat} {D D' : Dsk} {v u : Value} {e : Ending}

theorem inP_start (hd : DkS w g M S D) : InP w S g [] M D w := ⟨S, hd, fun _ => .inl, by simp, Apart.refl _ _⟩
theorem InP.size (h : InP w S g keep M D W) : w.heap.size ≤ W.heap.size := by obtain ⟨T, _, _, _, h4⟩ := h; exact h4.size
theorem InP.apartS (h : InP w S g keep M D W) : Apart S w W := by obtain ⟨T, _, _, _, h4⟩ := h; exact h4
theorem InP.below (h : InP w S g keep M D W) (hb : Below W.heap.size W W') : InP w S g keep M D W' := by
  obtain ⟨T, h1, h2, h3, h4⟩ := h
  exact ⟨T, h1.below hb, h2, fun r hr => ⟨(h3 r hr).1, Nat.lt_of_lt_of_le (h3 r hr).2 hb.size⟩, h4.trans (Apart.below hb)⟩
/-- A block that was laid a moment ago. -/
theorem InP.lay (h : InP w S g keep M D W) (o : Obj) : InP w S g (W.heap.size :: keep) M D (W.alloc o) := by
  have hb : Below W.heap.size W (W.alloc o) := (Below.refl _ _).alloc (Nat.le_refl _) _
  obtain ⟨T, h1, h2, h3, h4⟩ := h.below hb
  obtain ⟨T0, k1, k2, k3, k4⟩ := h
  refine ⟨T0, k1.below hb, k2, fun r hr => ?_, h4⟩
  rcases List.mem_cons.1 hr with rfl | hr
  · exact ⟨fun e => by have := k1.lt _ e; omega, by simp⟩
  · exact ⟨(k3 r hr).1, Nat.lt_of_lt_of_le (k3 r hr).2 hb.size⟩
theorem InP.fewer {keep' : List Nat} (h : InP w S g keep M D W) (hk : ∀ r ∈ keep', r ∈ keep) : InP w S g keep' M D W := by
  obtain ⟨T, h1, h2, h3, h4⟩ := h
  exact ⟨T, h1, h2, fun r hr => h3 r (hk r hr), h4⟩
theorem InP.grow (h : InP w S g keep M D W) (hN : M ≤ N) (hM : N ≤ 137438953472) : InP w S g keep N D W := by
  obtain ⟨T, h1, h2, h3, h4⟩ := h
  exact ⟨T, h1.mono hN hM, h2, h3, h4⟩
/-- A block of the call's own is written. -/
theorem InP.set (h : InP w S g keep M D W) {r o : Nat} (hr : r ∈ keep) (hw : w.heap.size ≤ r) (u : Value) : InP w S g keep M D (W.setCell ⟨r, o, none⟩ u) := by
  obtain ⟨T, h1, h2, h3, h4⟩ := h
  have ha : Apart (fun j => j = r) W (W.setCell ⟨r, o, none⟩ u) := ⟨rfl, rfl, rfl, by simp, fun j _ hj => heap_setCell_other _ _ _ _ hj⟩
  refine ⟨T, h1.apart ha (fun j hj e => (h3 r hr).1 (by rw [← e]; exact hj)), h2, fun q hq => ⟨(h3 q hq).1, by simpa using (h3 q hq).2⟩, ⟨h4.os, h4.tape, h4.output, by simpa using h4.size, fun j hj hn => ?_⟩⟩
  exact (heap_setCell_other _ _ _ _ (fun e => by have e : j = r := e; omega)).trans (h4.block j hj hn)
theorem InP.put (h : InP w S g keep M D W) {r : Nat} (hr : r ∈ keep) (hw : w.heap.size ≤ r) (o : Obj) : InP w S g keep M D (W.putObj r o) := by
  obtain ⟨T, h1, h2, h3, h4⟩ := h
  have ha : Apart (fun j => j = r) W (W.putObj r o) := ⟨rfl, rfl, rfl, by simp, fun j _ hj => World.putObj_heap_other hj⟩
  refine ⟨T, h1.apart ha (fun j hj e => (h3 r hr).1 (by rw [← e]; exact hj)), h2, fun q hq => ⟨(h3 q hq).1, by simpa using (h3 q hq).2⟩, ⟨h4.os, h4.tape, h4.output, by simpa using h4.size, fun j hj hn => ?_⟩⟩
  exact (World.putObj_heap_other (fun e => by omega)).trans (h4.block j hj hn)
/-- The pager, and bytes that were handed in, are as they were. -/
theorem InP.pgr (h : InP w S g keep M D W) (hp : PgrAt w S p g n) : ∃ T, DkS W g M T D ∧ PgrAt W T p g n ∧ (∀ v bs, Far w S v bs → Far W T v bs) ∧ (∀ b ws, PgMap w S b ws → PgMap W T b ws) ∧
    ∀ e v N D' W', MakesD g N T D' v W e W' → InP w S g keep N D' W' ∧ (∀ r ∈ keep, W'.heap[r]? = W.heap[r]?) ∧ W.heap.size ≤ W'.heap.size ∧ Apart T W W' := by
  obtain ⟨T, h1, h2, h3, h4⟩ := h
  have hless : ∀ k, k < W.heap.size → T k → since S w W k := fun k hk ht => by
    rcases h2 k ht with h | h
    · exact .inl h
    · exact .inr ⟨h, hk⟩
  refine ⟨T, h1, (hp.apart h4).less hless, fun v bs hf => (hf.apart h4).less hless, fun b ws hm => (hm.apart h4).less hless, fun e v N D' W' hm => ?_⟩
  obtain ⟨_, m2, m3⟩ := hm
  refine ⟨⟨since T W W', m2, fun j hj => ?_, fun r hr => ⟨fun e => ?_, Nat.lt_of_lt_of_le (h3 r hr).2 m3.size⟩, ?_⟩, fun r hr => m3.block r (h3 r hr).2 (h3 r hr).1, m3.size, m3⟩
  · rcases hj with hj | hj
    · exact h2 j hj
    · exact .inr (by have := h4.size; omega)
  · rcases e with e | e
    · exact (h3 r hr).1 e
    · have := (h3 r hr).2; omega
  · refine ⟨m3.os.trans h4.os, m3.tape.trans h4.tape, m3.output.trans h4.output, Nat.le_trans h4.size m3.size, fun j hj hn => ?_⟩
    exact (m3.block j (Nat.lt_of_lt_of_le hj h4.size) (fun ht => by rcases h2 j ht with h | h; exact hn h; omega)).trans (h4.block j hj hn)
/-- What a call leaves that did all this. -/
theorem InP.makes (h : InP w S g keep M D W) (hS : ∀ k, S k → k < w.heap.size) (v : Value) : MakesD g M S D v w (.returned v) W := by
  obtain ⟨T, h1, h2, h3, h4⟩ := h
  refine ⟨rfl, h1.more (fun k hk => ?_) (fun k hk => ?_), h4⟩
  · rcases h2 k hk with h | h
    · exact .inl h
    · exact .inr ⟨h, h1.lt k hk⟩
  · rcases hk with hk | hk
    · exact Nat.lt_of_lt_of_le (hS k hk) h4.size
    · exact hk.2
end

end Go.Proofs.YtbaimgccepjdaaaGreatDoor.Cd

/-
  Open, where no journal is; a nil pager, a nil disk. Conditions: names that can be.
-/
namespace Go.Proofs.YtbaimgccepjdaaaGreatDoor.Cd
open Go.RowKit

/-- A journal that isn't there tells nothing. -/
theorem replay_bare (p g N : Nat) (n : List UInt8) (S : Nat → Prop) (D : Dsk) (w : World) (h : PgrAt w S p g n) (hd : DkS w g N S D) (ho : D.off = false) (hn : n.length ≤ 140737488355000) (hj : (getF D.now (jnl n)).isSome = false) :
    Calls Tryz.prog 49 #[.pointer (some ⟨p, 0, none⟩)] w (fun e w' => e = .returned (.int .i64 0) ∧ w' = w.drew) := by
  have hdl : (jnl n).length ≤ 140737488355328 := by simp [jnl]; omega
  have hp1 := h.below (w' := w.drew) (Below.refl _ _).drew
  have hd1 := hd.below (w' := w.drew) (Below.refl _ _).drew
  have HP1 := Lib.hid (journal_any p g n S w.drew hp1 hn)
  have HA1 := Lib.hid (has_dks g N S D (jnl n) w.drew hd1 ho hdl)
  rw [hj] at HA1
  obtain ⟨hnS, hlt, c0, c1⟩ := h
  clear hp1 hd1 hd
  go_enter Tryz.func49, Tryz.ntmps49
  go_wp2_with fail
  go_region_held3 (fun W => W.cell? ⟨p, 0, none⟩ = some (.pointer (some ⟨g, 0, none⟩))) (first | exact c0 | assumption) (first
    | (go_at_call 82; refine HP1.out.mono ?_; rintro e w' ⟨rfl, rfl⟩)
    | (go_at_call 79; refine HA1.out.mono ?_; rintro e w' ⟨rfl, rfl⟩))
  all_goals go_wp2_with fail
  all_goals go_ret
  all_goals exact ⟨rfl, rfl⟩

theorem discard_bare (p g N : Nat) (n : List UInt8) (S : Nat → Prop) (D : Dsk) (w : World) (h : PgrAt w S p g n) (hd : DkS w g N S D) (ho : D.off = false) (hn : n.length ≤ 140737488355000) (hh : (getF D.now (drf n)).isSome = false) :
    Calls Tryz.prog 48 #[.pointer (some ⟨p, 0, none⟩)] w (fun e w' => e = .returned (.int .i64 0) ∧ w' = w.drew) := by
  have hdl : (drf n).length ≤ 140737488355328 := by simp [drf]; omega
  have hp1 := h.below (w' := w.drew) (Below.refl _ _).drew
  have hd1 := hd.below (w' := w.drew) (Below.refl _ _).drew
  have HP1 := Lib.hid (draft_any p g n S w.drew hp1 hn)
  have HA1 := Lib.hid (has_dks g N S D (drf n) w.drew hd1 ho hdl)
  rw [hh] at HA1
  obtain ⟨hnS, hlt, c0, c1⟩ := h
  clear hp1 hd1 hd
  go_enter Tryz.func48, Tryz.ntmps48
  go_wp2_with fail
  go_region_held3 (fun W => W.cell? ⟨p, 0, none⟩ = some (.pointer (some ⟨g, 0, none⟩))) (first | exact c0 | assumption) (first
    | (go_at_call 80; refine HP1.out.mono ?_; rintro e w' ⟨rfl, rfl⟩)
    | (go_at_call 79; refine HA1.out.mono ?_; rintro e w' ⟨rfl, rfl⟩))
  all_goals go_wp2_with fail
  all_goals go_ret
  all_goals exact ⟨rfl, rfl⟩

/-- A new pager. -/
theorem pgr_new {w : World} {S : Nat → Prop} (g : Nat) (n : List UInt8) (hS : ∀ k, S k → k < w.heap.size) : PgrAt (w.alloc (.cells #[.pointer (some ⟨g, 0, none⟩), .string ⟨n.toArray⟩] 94)) S w.heap.size g n := by
  refine ⟨fun h => Nat.lt_irrefl _ (hS _ h), by simp, ?_, ?_⟩
  · exact cell_of_row _ _ 0 _ _ _ (heap_alloc_new w _)
  · exact cell_of_row _ _ 1 _ _ _ (heap_alloc_new w _)

set_option maxHeartbeats 800000 in
theorem open_bare (g N : Nat) (n : List UInt8) (S : Nat → Prop) (D : Dsk) (w : World) (hd : DkS w g N S D) (ho : D.off = false) (hn : n.length ≤ 140737488355000) (hb : Bare D n) :
    Calls Tryz.prog 12 #[.pointer (some ⟨g, 0, none⟩), .string ⟨n.toArray⟩] w (fun e w' => e = .returned (.tuple #[.pointer (some ⟨w.heap.size, 0, none⟩), .int .i64 0]) ∧ PgrAt w' S w.heap.size g n ∧ Below w.heap.size w w') := by
  obtain ⟨w0, hw0⟩ : ∃ x, w.alloc (.cells #[.pointer (some ⟨g, 0, none⟩), .string ⟨n.toArray⟩] 94) = x := ⟨_, rfl⟩
  have hp0 : PgrAt w0 S w.heap.size g n := by rw [← hw0]; exact pgr_new g n hd.lt
  have hb0 : Below w.heap.size w w0 := by rw [← hw0]; exact (Below.refl _ _).alloc (Nat.le_refl _) _
  have hd0 := hd.below hb0
  have HR := Lib.hid (ready_p w.heap.size g N n S D w0 hp0 hd0)
  have he : errD D = 0 := by unfold errD; rw [ho]; rfl
  have HD := Lib.hid (discard_bare w.heap.size g N n S D w0 hp0 hd0 ho hn hb.draft)
  have HJ := Lib.hid (replay_bare w.heap.size g N n S D w0.drew (hp0.below (Below.refl _ _).drew) (hd0.below (Below.refl _ _).drew) ho hn hb.journal)
  rw [he] at HR
  have HP := Lib.hid (hp0.below ((Below.refl w0.heap.size w0).drew.trans (Below.refl _ _).drew))
  have HB := Lib.hid (hb0.drew.drew)
  clear hp0 hd0 hd hb0
  go_enter Tryz.func12, Tryz.ntmps12
  go_wp2_with (first
    | (go_at_call 47; refine HR.out.mono ?_; rintro e w' ⟨rfl, rfl⟩)
    | (go_at_call 48; refine HD.out.mono ?_; rintro e w' ⟨rfl, rfl⟩)
    | (go_at_call 49; refine HJ.out.mono ?_; rintro e w' ⟨rfl, rfl⟩))
  go_ret2
  exact ⟨rfl, HP.out, HB.out⟩

/-! ### No pager, no disk -/

theorem pready_nil (w : World) : Calls Tryz.prog 47 #[.pointer none] w (fun e w' => e = .returned (.int .i64 2) ∧ w' = w) := by
  go_enter Tryz.func47, Tryz.ntmps47
  go_wp2_with fail
  go_ret
  exact ⟨rfl, rfl⟩

theorem pcommit_nil (w : World) (m : Value) : Calls Tryz.prog 16 #[.pointer none, m] w (fun e w' => e = .returned (.int .i64 2) ∧ w' = w) := by
  go_enter Tryz.func16, Tryz.ntmps16
  go_wp2_with (go_at_call 47; refine (pready_nil w).mono ?_; rintro e w' ⟨rfl, rfl⟩)
  go_ret
  exact ⟨rfl, rfl⟩

theorem pcount_nil (w : World) : Calls Tryz.prog 20 #[.pointer none] w (fun e w' => e = .returned (.int .i64 0) ∧ w' = w) := by
  go_enter Tryz.func20, Tryz.ntmps20
  go_wp2_with fail
  go_ret
  exact ⟨rfl, rfl⟩

theorem pread_nil (w : World) (i : Value) : Calls Tryz.prog 19 #[.pointer none, i] w (fun e w' => e = .returned (.tuple #[.slice none 0 0, .int .i64 2]) ∧ w' = w) := by
  go_enter Tryz.func19, Tryz.ntmps19
  go_wp2_with fail
  go_ret2
  exact ⟨rfl, rfl⟩

theorem popen_nil (w : World) (n : List UInt8) : Calls Tryz.prog 12 #[.pointer none, .string ⟨n.toArray⟩] w (fun e w' => e = .returned (.tuple #[.pointer none, .int .i64 2]) ∧ Below w.heap.size w w') := by
  have HB := Lib.hid ((Below.refl w.heap.size w).alloc (Nat.le_refl _) (.cells #[.pointer none, .string ⟨n.toArray⟩] 94))
  have hc : (w.alloc (.cells #[.pointer none, .string ⟨n.toArray⟩] 94)).cell? ⟨w.heap.size, 0, none⟩ = some (.pointer none) := cell_of_row _ _ 0 _ _ _ (heap_alloc_new w _)
  obtain ⟨w0, hw0⟩ : ∃ x, w.alloc (.cells #[.pointer none, .string ⟨n.toArray⟩] 94) = x := ⟨_, rfl⟩
  rw [hw0] at hc HB
  have HR : Hid (Calls Tryz.prog 47 #[.pointer (some ⟨w.heap.size, 0, none⟩)] w0 (fun e w' => e = .returned (.int .i64 2) ∧ w' = w0)) := by
    refine Lib.hid ?_
    go_enter Tryz.func47, Tryz.ntmps47
    go_wp2_with fail
    go_ret
    exact ⟨rfl, rfl⟩
  go_enter Tryz.func12, Tryz.ntmps12
  go_wp2_with (go_at_call 47; refine HR.out.mono ?_; rintro e w' ⟨rfl, rfl⟩)
  go_ret2
  exact ⟨rfl, HB.out⟩

end Go.Proofs.YtbaimgccepjdaaaGreatDoor.Cd

/-
  A record is posted: draft, Sync, Rename. Conditions: the power is on; the record has bytes, no more than 2^40.
-/
namespace Go.Proofs.YtbaimgccepjdaaaGreatDoor.Cd
open Go.RowKit Go.Shelf
attribute [local go_sem] Oper.semAt_some

/-- The k-th page of bytes that were handed in. -/
theorem far_chunk {w : World} {T : Nat → Prop} {b off c : Nat} {bs : List UInt8} (h : Far w T (.slice (some ⟨b, off, none⟩) bs.length c) bs) {k : Nat} (hk : 512 * k < bs.length) : Far w T (pgV b off bs.length k) (chunk bs k) := by
  obtain ⟨⟨A, c', e, h2, h3, h4, h5, h6⟩, h7⟩ := h
  injection e with e1 _ e3
  subst e1 e3
  have hl : (chunk bs k).length = min 512 (bs.length - 512 * k) := by simp only [chunk, List.length_take, List.length_drop]
  refine ⟨⟨some ⟨b, off + 512 * k, none⟩, min 512 (bs.length - 512 * k), by rw [hl]; rfl, by rw [hl]; omega, by omega, (fun h => by cases h), fun ad e _ => ?_, fun ad e j u hu => ?_⟩, fun _ A n c2 e => ?_⟩
  · injection e with e
    subst e
    exact (h5 ⟨b, off, none⟩ rfl (by omega) : b < w.heap.size)
  · injection e with e
    subst e
    have hj := (List.getElem?_eq_some_iff.1 hu).1
    rw [vb_length, hl] at hj
    have h8 := h6 _ rfl (512 * k + j) u (by
      rw [← hu]
      simp only [vb, chunk, List.map_take, List.map_drop]
      rw [List.getElem?_take, if_pos (by omega), List.getElem?_drop])
    rw [Addr.add_lit] at h8 ⊢
    rw [Nat.add_assoc]
    exact h8
  · injection e with e _ _
    injection e with e
    rw [← e]
    exact (h7 (by omega) ⟨b, off, none⟩ _ _ rfl : ¬ T b)

/-- A result that lies in a box. -/
theorem ret_cell {fn : Func} {p : Tmp} (h : fn.results = #[.cell p 28]) (tmps : Array Value) (w : World) {r : Nat} {v : Value} (hp : tmps.getD p undef = .pointer (some ⟨r, 0, none⟩)) (hb : w.cell? ⟨r, 0, none⟩ = some v) :
    (results fn tmps).run Tryz.prog w = .ok v w := by
  have hp' : tmps[p]?.getD undef = .pointer (some ⟨r, 0, none⟩) := by simpa using hp
  simp [results, h, hp', asAddr, loadVar, go_sem, hb]

set_option maxRecDepth 100000 in
set_option maxHeartbeats 3200000 in
theorem post_p (p g N M b off c : Nat) (n bs : List UInt8) (S : Nat → Prop) (D : Dsk) (w : World) (h : PgrAt w S p g n) (hd : DkS w g N S D) (ho : D.off = false) (hn : n.length ≤ 140737488355000)
    (hb : Far w S (.slice (some ⟨b, off, none⟩) bs.length c) bs) (h0 : 0 < bs.length) (hbl : bs.length ≤ 1099511627776) (hc : bs.length ≤ c) (hc2 : c ≤ 9223372036854775807) (hN : N + 4 * (pagesOf bs.length + 3) ≤ M) (hM : M ≤ 137438953472) :
    Calls Tryz.prog 54 #[.pointer (some ⟨p, 0, none⟩), .slice (some ⟨b, off, none⟩) bs.length c] w (MakesD g M S (postD D n bs).1 (.int .i64 ((postD D n bs).2 : Nat)) w) := by
  have HP := Lib.hid h
  have HF := Lib.hid hb
  have hSlt := Lib.hid hd.lt
  -- the two boxes ahead of the first call
  obtain ⟨W0, hW0⟩ : ∃ x, (w.alloc (.cells #[.pointer (some ⟨p, 0, none⟩)] 27)).alloc (.cells #[.int .i64 0] 28) = x := ⟨_, rfl⟩
  have hi0 : InP w S g [w.heap.size + 1, w.heap.size] N D W0 := by
    rw [← hW0]
    have := ((inP_start hd).lay (.cells #[.pointer (some ⟨p, 0, none⟩)] 27)).lay (.cells #[.int .i64 0] 28)
    rwa [World.size_alloc] at this
  obtain ⟨T0, d1, d2, d3, d4, d5⟩ := hi0.pgr HP.out
  have HD := Lib.hid (discard_p p g N (N + 4) n T0 D W0 d2 d1 ho hn (Nat.le_refl _) (by omega))
  have HS0 := Lib.hid d5
  have hsz0 : W0.heap.size = w.heap.size + 2 := by rw [← hW0]; simp
  have b0 : BoxAt W0 w.heap.size (.pointer (some ⟨p, 0, none⟩)) 27 := by rw [← hW0]; exact (BoxAt.new w _ _).alloc _
  have b1 : BoxAt W0 (w.heap.size + 1) (.int .i64 0) 28 := by
    rw [← hW0]
    have := BoxAt.new (w.alloc (.cells #[.pointer (some ⟨p, 0, none⟩)] 27)) (.int .i64 0) 28
    rwa [World.size_alloc] at this
  have x0 := b0.cell
  have x1 := b1.cell
  have y1 := b1.frozen
  have B0 := Lib.hid b0
  have B1 := Lib.hid b1
  clear d1 d2 d3 d4 d5 hd hb h
  refine (callsIn_wide (n := 6)).1 ?_
  refine callsIn_of_wp_marks Tryz.func54 rfl trivial ?_ rfl
  simp only [Tryz.ntmps54, List.size_toArray, List.length_cons, List.length_nil, Nat.reduceAdd, Nat.reduceSub, Array.replicate_succ, Array.replicate_zero, List.push_toArray, List.append_toArray, List.nil_append, List.cons_append]
  have hfD : Fence.wide.fn 48 := trivial
  by_cases hz : (discardD D n).2 = 0
  · rw [hz] at HD
    gi_wp2_with (gi_at_call 48; refine (callsIn_wide.2 HD.out).mono ?_; rintro e W1 hm; obtain rfl := hm.1; obtain ⟨i1, k1, s1, _⟩ := HS0.out _ _ _ _ _ hm; have I1 := Lib.hid i1; have b0 := B0.out.on (k1 _ (by simp)); have b1 := B1.out.on (k1 _ (by simp)); have x0 := b0.cell; have x1 := b1.cell; have y1 := b1.frozen; have B0 := Lib.hid b0; have B1 := Lib.hid b1; clear hm i1 k1 b0 b1)
    refine ⟨trivial, (callsIn_wide.2 (chunk_any _ _ _ _)).mono ?_⟩
    rintro e W' ⟨rfl, rfl⟩
    obtain ⟨W3, hW3⟩ : ∃ x, ((W1.alloc (.cells #[.int .i64 0] 3)).alloc (.cells #[.slice (some ⟨b, off, none⟩) bs.length c] 44)).alloc (.cells #[.int .i64 512] 3) = x := ⟨_, rfl⟩
    rw [hW3, World.size_alloc]
    have i3 := ((I1.out.lay (.cells #[.int .i64 0] 3)).lay (.cells #[.slice (some ⟨b, off, none⟩) bs.length c] 44)).lay (.cells #[.int .i64 512] 3)
    simp only [World.size_alloc] at i3
    rw [hW3] at i3
    have hsz3 : W3.heap.size = W1.heap.size + 3 := by rw [← hW3]; simp
    have hsz1 : w.heap.size + 2 ≤ W1.heap.size := by omega
    have c0 : BoxAt W3 w.heap.size (.pointer (some ⟨p, 0, none⟩)) 27 := by rw [← hW3]; exact ((B0.out.alloc _).alloc _).alloc _
    have c1 : BoxAt W3 (w.heap.size + 1) (.int .i64 0) 28 := by rw [← hW3]; exact ((B1.out.alloc _).alloc _).alloc _
    have c2 : BoxAt W3 W1.heap.size (.int .i64 0) 3 := by rw [← hW3]; exact ((BoxAt.new W1 _ _).alloc _).alloc _
    have c3 : BoxAt W3 (W1.heap.size + 1) (.slice (some ⟨b, off, none⟩) bs.length c) 44 := by
      rw [← hW3]
      have := (BoxAt.new (W1.alloc (.cells #[.int .i64 0] 3)) (.slice (some ⟨b, off, none⟩) bs.length c) 44).alloc (.cells #[.int .i64 512] 3)
      rwa [World.size_alloc] at this
    have c4 : BoxAt W3 (W1.heap.size + 2) (.int .i64 512) 3 := by
      rw [← hW3]
      have := BoxAt.new ((W1.alloc (.cells #[.int .i64 0] 3)).alloc (.cells #[.slice (some ⟨b, off, none⟩) bs.length c] 44)) (.int .i64 512) 3
      rwa [World.size_alloc, World.size_alloc] at this
    have I3 := Lib.hid i3
    have C0 := Lib.hid c0
    have C1 := Lib.hid c1
    have C2 := Lib.hid c2
    have C3 := Lib.hid c3
    have C4 := Lib.hid c4
    have HSZ := Lib.hid hsz3
    clear i3 c0 c1 c2 c3 c4 hsz3 hW3 B0 B1 I1 x0 x1 y1 HS0 HD
    gi_wp2
    obtain ⟨D1, hD1⟩ : ∃ x, (discardD D n).1 = x := ⟨_, rfl⟩
    rw [hD1] at I3
    have hpo : postD D n bs = if (writes D1 (drf n) (chunks bs)).2 ≠ 0 then writes D1 (drf n) (chunks bs) else if (syncD (writes D1 (drf n) (chunks bs)).1 (drf n)).2 ≠ 0 then syncD (writes D1 (drf n) (chunks bs)).1 (drf n) else renameD (syncD (writes D1 (drf n) (chunks bs)).1 (drf n)).1 (drf n) (jnl n) := by
      unfold postD
      rw [if_neg (fun h => h hz), hD1]
    obtain ⟨K7, hK7⟩ : ∃ l, l = [W3.heap.size + 1, W3.heap.size, W1.heap.size + 2, W1.heap.size + 1, W1.heap.size, w.heap.size + 1, w.heap.size] := ⟨_, rfl⟩
    obtain ⟨I, hI⟩ : ∃ I : Nat → World → Prop, ∀ k W, I k W ↔ (InP w S g K7 (N + 4 + 4 * k) (writes D1 (drf n) ((chunks bs).take k)).1 W ∧ (writes D1 (drf n) ((chunks bs).take k)).2 = 0 ∧ BoxAt W w.heap.size (.pointer (some ⟨p, 0, none⟩)) 27 ∧ BoxAt W (w.heap.size + 1) (.int .i64 0) 28 ∧ BoxAt W W1.heap.size (.int .i64 k) 3 ∧ BoxAt W (W1.heap.size + 1) (.slice (some ⟨b, off, none⟩) bs.length c) 44 ∧ BoxAt W (W1.heap.size + 2) (.int .i64 512) 3) := ⟨_, fun _ _ => Iff.rfl⟩
    obtain ⟨Ix, hIx⟩ : ∃ Ix : Code → Nat → World → Prop, ∀ c k W, Ix c k W ↔ (c = .ret ∧ (postD D n bs).2 ≠ 0 ∧ InP w S g K7 M (postD D n bs).1 W ∧ BoxAt W (w.heap.size + 1) (.int .i64 ((postD D n bs).2 : Nat)) 28) := ⟨_, fun _ _ _ => Iff.rfl⟩
    have HI := Lib.hid hI
    have HIX := Lib.hid hIx
    clear hI hIx
    have hstay : ∀ {r : Nat} {v : Value} {T : TypeId} {A : World} (o : Obj), BoxAt A r v T → r ≠ W3.heap.size + 1 → BoxAt (A.putObj (W3.heap.size + 1) o) r v T := fun o h hr => h.on (World.putObj_heap_other hr)
    have hsz3 := HSZ.out
    refine wpIn_range rfl (by omega) (gf := 133) (lb := #[.pointer (some ⟨W1.heap.size + 1, 0, none⟩), .pointer (some ⟨W1.heap.size + 2, 0, none⟩)]) rfl trivial (enters_of Tryz.func133 (by kernel_rfl) rfl) (encs := fun k => #[pgV b off bs.length k]) (fun _ => rfl)
      (List.range (pagesOf bs.length)) (Boxes (W1.heap.size + 1) (W1.heap.size + 2) b off bs.length c) (chunk_hands _ _ _ _ _ _ _ hc hc2 (by omega)) I Ix ?hI ?hIx ?hBox ?h0 (fun k => { tmps := #[.pointer (some ⟨p, 0, none⟩), .slice (some ⟨b, off, none⟩) bs.length c, .pointer (some ⟨w.heap.size, 0, none⟩), undef, .pointer (some ⟨w.heap.size + 1, 0, none⟩), .int .i64 0, .pointer (some ⟨W1.heap.size, 0, none⟩), pgV b off bs.length k, undef, undef,
          .pointer (some ⟨p, 0, none⟩), .int .i64 0, .int .i64 0, .bool false, undef, .slice (some ⟨b, off, none⟩) bs.length c, .func (.func 133) #[] #[.pointer (some ⟨W1.heap.size + 1, 0, none⟩), .pointer (some ⟨W1.heap.size + 2, 0, none⟩)], pgV b off bs.length k,
          undef, undef, undef, undef, undef, undef, undef, undef, undef, undef, undef, undef, undef, undef, undef, undef, undef, undef, undef, undef, undef, undef, undef, undef, undef, undef, undef, undef, undef, undef, undef, undef, undef], defers := [] }) ?assign ?body ?done ?stop
    case hI =>
      intro k
      refine ⟨fun A B hA hb => ?_, fun A o hA => ?_⟩
      · obtain ⟨a1, a2, a3, a4, a5, a6, a7⟩ := (HI.out _ _).1 hA
        exact (HI.out _ _).2 ⟨a1.below hb, a2, a3.on (hb.block _ a3.lt), a4.on (hb.block _ a4.lt), a5.on (hb.block _ a5.lt), a6.on (hb.block _ a6.lt), a7.on (hb.block _ a7.lt)⟩
      · obtain ⟨a1, a2, a3, a4, a5, a6, a7⟩ := (HI.out _ _).1 hA
        exact (HI.out _ _).2 ⟨a1.put (by rw [hK7]; simp) (by omega) o, a2, hstay o a3 (by omega), hstay o a4 (by omega), hstay o a5 (by omega), hstay o a6 (by omega), hstay o a7 (by omega)⟩
    case hIx =>
      intro c' k
      refine ⟨fun A B hA hb => ?_, fun A o hA => ?_⟩
      · obtain ⟨a1, a2, a3, a4⟩ := (HIX.out _ _ _).1 hA
        exact (HIX.out _ _ _).2 ⟨a1, a2, a3.below hb, a4.on (hb.block _ a4.lt)⟩
      · obtain ⟨a1, a2, a3, a4⟩ := (HIX.out _ _ _).1 hA
        exact (HIX.out _ _ _).2 ⟨a1, a2, a3.put (by rw [hK7]; simp) (by omega) o, hstay o a4 (by omega)⟩
    case hBox =>
      intro k A hA
      obtain ⟨_, _, _, _, _, a6, a7⟩ := (HI.out _ _).1 hA
      exact ⟨a6.cell, a7.cell⟩
    case h0 =>
      intro o
      have i5 := (I3.out.lay (.deferred (some []))).lay o
      rw [World.size_alloc] at i5
      refine (HI.out _ _).2 ⟨i5.fewer (by rw [hK7]; simp), rfl, (C0.out.alloc _).alloc _, (C1.out.alloc _).alloc _, (C2.out.alloc _).alloc _, (C3.out.alloc _).alloc _, (C4.out.alloc _).alloc _⟩
    case assign =>
      intro l x W K hK
      gi_wp2
      exact hK
    case body =>
      intro k x W hx hIk hlt
      obtain ⟨hk1, hk2⟩ := List.getElem?_eq_some_iff.1 hx
      rw [List.length_range] at hk1
      rw [List.getElem_range] at hk2
      subst hk2
      obtain ⟨a1, a2, a3, a4, a5, a6, a7⟩ := (HI.out _ _).1 hIk
      have hkc : k < (chunks bs).length := by rw [chunks_len]; exact hk1
      have hstep := writes_take (drf n) (chunks bs) D1 hkc a2
      rw [show (chunks bs)[k] = ((k : Int), chunk bs k) by simp [chunks]] at hstep
      obtain ⟨Dk, hDk⟩ : ∃ x, (writes D1 (drf n) ((chunks bs).take k)).1 = x := ⟨_, rfl⟩
      rw [hDk] at a1 hstep
      obtain ⟨T, d1, d2, d3, d4, d5⟩ := a1.pgr HP.out
      have hlk : 512 * k < bs.length := by unfold pagesOf at hk1; omega
      have d6 := far_chunk (d3 _ _ HF.out) hlk
      obtain ⟨W4, hW4⟩ : ∃ x, W.drew = x := ⟨_, rfl⟩
      have hb4 : Below W.heap.size W W4 := by rw [← hW4]; exact (Below.refl _ _).drew
      have hz4 : W4.heap.size = W.heap.size := by rw [← hW4]; rfl
      have hdl : (drf n).length ≤ 140737488355328 := by simp [drf]; omega
      have CD := Lib.hid (draft_any p g n T W4 (d2.below hb4) hn)
      have CW := Lib.hid (write_dks g (N + 4 + 4 * k) T Dk (drf n) W4 (chunk bs k) k (pgV b off bs.length k) (d1.below hb4) (d6.below hb4).1 (d6.below hb4).2 hdl (by omega) (by unfold pagesOf at *; omega))
      have e0 := (a3.on (hb4.block _ a3.lt)).cell
      have e1 := (d2.below hb4).2.2.1
      have e2 := (a5.on (hb4.block _ a5.lt)).cell
      gi_wp2
      refine region_round (S := fun X => X.cell? ⟨w.heap.size, 0, none⟩ = some (.pointer (some ⟨p, 0, none⟩)) ∧ X.cell? ⟨p, 0, none⟩ = some (.pointer (some ⟨g, 0, none⟩)) ∧ X.cell? ⟨W1.heap.size, 0, none⟩ = some (.int .i64 k)) hW4 (by kernel_rfl) ?hlo (by kernel_rfl) ⟨e0, e1, e2⟩ (fun hHeld => ?_)
      case hlo => rintro ⟨a', w', h⟩; exact h
      refine take_at (i := 0) (.pointer (some ⟨p, 0, none⟩)) (some 18) (by decide) (by rfl) (by kernel_rfl) (by kernel_rfl) (by kernel_rfl) (fun _ _ _ h => h) (by rfl) (fun X hX => by obtain ⟨hX1, hX2, hX3⟩ := hX; go_simp) (by assumption) ?_
      simp only [Act.put, List.setIfInBounds_toArray, List.set_cons_zero, List.set_cons_succ]
      refine take_at (i := 1) (.pointer (some ⟨p, 0, none⟩)) (some 19) (by decide) (by rfl) (by kernel_rfl) (by kernel_rfl) (by kernel_rfl) (fun _ _ _ h => h) (by rfl) (fun X hX => by obtain ⟨hX1, hX2, hX3⟩ := hX; go_simp) (by assumption) ?_
      simp only [Act.put, List.setIfInBounds_toArray, List.set_cons_zero, List.set_cons_succ]
      refine take_at (i := 2) (.pointer (some ⟨p, 0, none⟩)) (some 20) (by decide) (by rfl) (by kernel_rfl) (by kernel_rfl) (by kernel_rfl) (fun _ _ _ h => h) (by rfl) (fun X hX => by obtain ⟨hX1, hX2, hX3⟩ := hX; go_simp) (by assumption) ?_
      simp only [Act.put, List.setIfInBounds_toArray, List.set_cons_zero, List.set_cons_succ]
      refine take_at (i := 3) (.pointer (some ⟨g, 0, none⟩)) (some 21) (by decide) (by rfl) (by kernel_rfl) (by kernel_rfl) (by kernel_rfl) (fun _ _ _ h => h) (by rfl) (fun X hX => by obtain ⟨hX1, hX2, hX3⟩ := hX; go_simp) (by assumption) ?_
      simp only [Act.put, List.setIfInBounds_toArray, List.set_cons_zero, List.set_cons_succ]
      refine take_at (i := 4) (.pointer (some ⟨p, 0, none⟩)) (some 22) (by decide) (by rfl) (by kernel_rfl) (by kernel_rfl) (by kernel_rfl) (fun _ _ _ h => h) (by rfl) (fun X hX => by obtain ⟨hX1, hX2, hX3⟩ := hX; go_simp) (by assumption) ?_
      simp only [Act.put, List.setIfInBounds_toArray, List.set_cons_zero, List.set_cons_succ]
      refine take_at (i := 6) (.int .i64 k) (some 24) (by decide) (by rfl) (by kernel_rfl) (by kernel_rfl) (by kernel_rfl) (fun _ _ _ h => h) (by rfl) (fun X hX => by obtain ⟨hX1, hX2, hX3⟩ := hX; go_simp) (by assumption) ?_
      simp only [Act.put, List.setIfInBounds_toArray, List.set_cons_zero, List.set_cons_succ]
      refine take_at (i := 7) (pgV b off bs.length k) (some 25) (by decide) (by rfl) (by kernel_rfl) (by kernel_rfl) (by kernel_rfl) (fun _ _ _ h => h) (by rfl) (fun X hX => by obtain ⟨hX1, hX2, hX3⟩ := hX; go_simp) (by assumption) ?_
      simp only [Act.put, List.setIfInBounds_toArray, List.set_cons_zero, List.set_cons_succ]
      refine wpAnyH_ready (rs := [5]) (by kernel_rfl) (by simp) ?_
      refine AllReadyH.cons rfl (fun K' hK' => ?_) AllReadyH.nil
      go_simp
      refine CD.out.mono ?_
      rintro e5 W5 ⟨rfl, rfl⟩
      refine hK'.out _ _ hHeld (fun _ => ?_)
      clear hK' K' CD
      refine wpAnyH_ready (rs := [8]) (by kernel_rfl) (by simp) ?_
      refine AllReadyH.cons rfl (fun K' hK' => ?_) AllReadyH.nil
      go_simp
      refine CW.out.mono ?_
      rintro e6 W6 hm
      obtain rfl := hm.1
      rw [← hW4] at hm
      obtain ⟨i6, k6, s6, ap6⟩ := d5 _ _ _ _ _ hm.undrew
      have f0 := a3.on (k6 _ (by rw [hK7]; simp))
      have f1 := a4.on (k6 _ (by rw [hK7]; simp))
      have f2 := a5.on (k6 _ (by rw [hK7]; simp))
      have f3 := a6.on (k6 _ (by rw [hK7]; simp))
      have f4 := a7.on (k6 _ (by rw [hK7]; simp))
      have htwo : Two W3.heap.size W W6 := ⟨k6 _ (by rw [hK7]; simp), k6 _ (by rw [hK7]; simp)⟩
      have f5 : W6.cell? ⟨p, 0, none⟩ = some (.pointer (some ⟨g, 0, none⟩)) := (ap6.cell (p := ⟨p, 0, none⟩) d2.2.1 d2.1).trans d2.2.2.1
      have hH6 := And.intro f0.cell (And.intro f5 f2.cell)
      have HTW := Lib.hid htwo
      have F0 := Lib.hid f0
      have F1 := Lib.hid f1
      have F2 := Lib.hid f2
      have F3 := Lib.hid f3
      have F4 := Lib.hid f4
      have I6 := Lib.hid i6
      refine hK'.out _ _ hH6 (fun _ => ?_)
      clear hK' K' hm i6 k6 ap6 f3 f4 htwo e0 e1 e2 d1 d2 d3 d4 d5 d6 a1 a3 a4 a5 a6 a7 CW hIk hHeld
      refine wpAnyH_ready (rs := [9]) (by kernel_rfl) (by simp) ?_
      refine AllReadyH.cons rfl (fun K' hK' => ?_) AllReadyH.nil
      go_simp
      refine hK'.out _ _ hH6 (fun _ => ?_)
      clear hK' K'
      refine ⟨by kernel_rfl, ?_⟩
      have x0 := f0.cell
      have x1 := f1.cell
      have y1 := f1.frozen
      have x2 := f2.cell
      have y2 := f2.frozen
      clear f0 f1 f2 f5 hH6 hb4 hz4 hW4
      obtain ⟨R, hR⟩ : ∃ R, writeD Dk (drf n) k (chunk bs k) = R := ⟨_, rfl⟩
      rw [hR] at hstep I6 ⊢
      obtain ⟨DR, ec⟩ := R
      have HST := Lib.hid hstep
      have HR := Lib.hid hR
      clear hR hstep
      by_cases hz2 : ec = 0
      · subst hz2
        gi_wp2
        have hne : ∀ r, r ≠ W1.heap.size → (W6.setCell ⟨W1.heap.size, 0, none⟩ (.int .i64 ((k : Int) + 1))).heap[r]? = W6.heap[r]? := fun r hr => heap_setCell_other _ _ _ _ hr
        have htw := HTW.out
        rw [hsz3] at htw
        refine ⟨⟨(hne _ (by omega)).trans htw.1, (hne _ (by omega)).trans htw.2⟩, (HI.out _ _).2 ⟨?_, by rw [HST.out], F0.out.on (hne _ (by omega)), F1.out.on (hne _ (by omega)), ?_, F3.out.on (hne _ (by omega)), F4.out.on (hne _ (by omega))⟩⟩
        · rw [HST.out]
          exact (I6.out.set (by rw [hK7]; simp) (by omega) _).grow (by omega) (by unfold pagesOf at *; omega)
        · show BoxAt _ _ (.int .i64 ((k + 1 : Nat) : Int)) _
          rw [show ((k + 1 : Nat) : Int) = (k : Int) + 1 by omega]
          exact F2.out.set _
      · have hz3 : (ec : Int) ≠ 0 := by omega
        have hpd : postD D n bs = (DR, ec) := by
          rw [hpo, writes_stop (drf n) (chunks bs) D1 (k := k + 1) (by rw [HST.out]; exact hz2), HST.out]
          exact if_pos hz2
        have HPD := Lib.hid hpd
        clear hpd hpo
        gi_wp2
        have hne : ∀ r, r ≠ w.heap.size + 1 → (W6.setCell ⟨w.heap.size + 1, 0, none⟩ (.int .i64 ec)).heap[r]? = W6.heap[r]? := fun r hr => heap_setCell_other _ _ _ _ hr
        have htw := HTW.out
        rw [hsz3] at htw
        refine ⟨⟨(hne _ (by omega)).trans htw.1, (hne _ (by omega)).trans htw.2⟩, (HIX.out _ _ _).2 ⟨rfl, by rw [HPD.out]; exact hz2, ?_, ?_⟩⟩
        · rw [HPD.out]
          exact (I6.out.set (by rw [hK7]; simp) (by omega) _).grow (by unfold pagesOf at *; omega) hM
        · rw [HPD.out]
          exact F1.out.set _
    case done =>
      intro W hIk hK
      obtain ⟨a1, a2, a3, a4, a5, a6, a7⟩ := (HI.out _ _).1 hIk
      rw [List.length_range, List.take_of_length_le (by rw [chunks_len]; exact Nat.le_refl _)] at a1 a2
      rw [if_neg (fun h => h a2)] at hpo
      obtain ⟨D2, hD2⟩ : ∃ x, (writes D1 (drf n) (chunks bs)).1 = x := ⟨_, rfl⟩
      rw [hD2] at a1 hpo
      obtain ⟨T, d1, d2, d3, d4, d5⟩ := a1.pgr HP.out
      have hdl : (drf n).length ≤ 140737488355328 := by simp [drf]; omega
      have hjl : (jnl n).length ≤ 140737488355328 := by simp [jnl]; omega
      obtain ⟨W4, hW4⟩ : ∃ x, W.drew = x := ⟨_, rfl⟩
      have hb4 : Below W.heap.size W W4 := by rw [← hW4]; exact (Below.refl _ _).drew
      have CD := Lib.hid (draft_any p g n T W4 (d2.below hb4) hn)
      have CS := Lib.hid (sync_dks g (N + 4 + 4 * pagesOf bs.length) T D2 (drf n) W4 (d1.below hb4) hdl (by omega))
      have e0 := (a3.on (hb4.block _ a3.lt)).cell
      have e1 := (d2.below hb4).2.2.1
      have HDEF := Lib.hid hK
      have HPO := Lib.hid hpo
      clear hK hpo
      gi_wp2
      refine wpIn_wide.2 (wp_region_noPanic (region_begin (S := fun X => X.cell? ⟨w.heap.size, 0, none⟩ = some (.pointer (some ⟨p, 0, none⟩)) ∧ X.cell? ⟨p, 0, none⟩ = some (.pointer (some ⟨g, 0, none⟩))) hW4 (by kernel_rfl) ⟨e0, e1⟩ (fun hHeld => ?_)))
      refine take_at (i := 0) (.pointer (some ⟨p, 0, none⟩)) (some 32) (by decide) (by rfl) (by kernel_rfl) (by kernel_rfl) (by kernel_rfl) (fun _ _ _ h => h) (by rfl) (fun X hX => by obtain ⟨hX1, hX2⟩ := hX; go_simp) (by assumption) ?_
      simp only [Act.put, List.setIfInBounds_toArray, List.set_cons_zero, List.set_cons_succ]
      refine take_at (i := 1) (.pointer (some ⟨p, 0, none⟩)) (some 33) (by decide) (by rfl) (by kernel_rfl) (by kernel_rfl) (by kernel_rfl) (fun _ _ _ h => h) (by rfl) (fun X hX => by obtain ⟨hX1, hX2⟩ := hX; go_simp) (by assumption) ?_
      simp only [Act.put, List.setIfInBounds_toArray, List.set_cons_zero, List.set_cons_succ]
      refine take_at (i := 2) (.pointer (some ⟨p, 0, none⟩)) (some 34) (by decide) (by rfl) (by kernel_rfl) (by kernel_rfl) (by kernel_rfl) (fun _ _ _ h => h) (by rfl) (fun X hX => by obtain ⟨hX1, hX2⟩ := hX; go_simp) (by assumption) ?_
      simp only [Act.put, List.setIfInBounds_toArray, List.set_cons_zero, List.set_cons_succ]
      refine take_at (i := 3) (.pointer (some ⟨g, 0, none⟩)) (some 35) (by decide) (by rfl) (by kernel_rfl) (by kernel_rfl) (by kernel_rfl) (fun _ _ _ h => h) (by rfl) (fun X hX => by obtain ⟨hX1, hX2⟩ := hX; go_simp) (by assumption) ?_
      simp only [Act.put, List.setIfInBounds_toArray, List.set_cons_zero, List.set_cons_succ]
      refine take_at (i := 4) (.pointer (some ⟨p, 0, none⟩)) (some 36) (by decide) (by rfl) (by kernel_rfl) (by kernel_rfl) (by kernel_rfl) (fun _ _ _ h => h) (by rfl) (fun X hX => by obtain ⟨hX1, hX2⟩ := hX; go_simp) (by assumption) ?_
      simp only [Act.put, List.setIfInBounds_toArray, List.set_cons_zero, List.set_cons_succ]
      refine wpAnyH_ready (rs := [5]) (by kernel_rfl) (by simp) ?_
      refine AllReadyH.cons rfl (fun K' hK' => ?_) AllReadyH.nil
      go_simp
      refine CD.out.mono ?_
      rintro e5 W5 ⟨rfl, rfl⟩
      refine hK'.out _ _ hHeld (fun _ => ?_)
      clear hK' K' CD
      refine wpAnyH_ready (rs := [6]) (by kernel_rfl) (by simp) ?_
      refine AllReadyH.cons rfl (fun K' hK' => ?_) AllReadyH.nil
      go_simp
      refine CS.out.mono ?_
      rintro e6 W6 hm
      obtain rfl := hm.1
      rw [← hW4] at hm
      obtain ⟨i6, k6, s6, ap6⟩ := d5 _ _ _ _ _ hm.undrew
      have f0 := a3.on (k6 _ (by rw [hK7]; simp))
      have f1 := a4.on (k6 _ (by rw [hK7]; simp))
      have f5 : W6.cell? ⟨p, 0, none⟩ = some (.pointer (some ⟨g, 0, none⟩)) := (ap6.cell (p := ⟨p, 0, none⟩) d2.2.1 d2.1).trans d2.2.2.1
      have hH6 := And.intro f0.cell f5
      have F0 := Lib.hid f0
      have F1 := Lib.hid f1
      have I6 := Lib.hid i6
      have HDE6 := Lib.hid ((k6 W3.heap.size (by rw [hK7]; simp)).trans HDEF.out)
      refine hK'.out _ _ hH6 (fun _ => ?_)
      clear hK' K' hm i6 k6 ap6 e0 e1 d1 d2 d3 d4 d5 a1 a3 a4 a5 a6 a7 CS hIk hHeld HDEF
      refine wpAnyH_ready (rs := [7]) (by kernel_rfl) (by simp) ?_
      refine AllReadyH.cons rfl (fun K' hK' => ?_) AllReadyH.nil
      go_simp
      refine hK'.out _ _ hH6 (fun _ => ?_)
      clear hK' K'
      refine ⟨by kernel_rfl, NoPanic.normal ?_⟩
      have x0 := f0.cell
      have x1 := f1.cell
      have y1 := f1.frozen
      clear f0 f1 f5 hH6 hb4 hW4
      obtain ⟨R, hR⟩ : ∃ R, syncD D2 (drf n) = R := ⟨_, rfl⟩
      rw [hR] at HPO I6 ⊢
      obtain ⟨DR, ec⟩ := R
      have HR := Lib.hid hR
      clear hR
      by_cases hz2 : ec = 0
      · subst hz2
        have hpo2 : postD D n bs = renameD DR (drf n) (jnl n) := by rw [HPO.out]; exact if_neg (fun h => h rfl)
        have HPO2 := Lib.hid hpo2
        clear hpo2
        obtain ⟨T7, d1, d2, d3, d4, d5⟩ := I6.out.pgr HP.out
        obtain ⟨W7, hW7⟩ : ∃ x, W6.drew = x := ⟨_, rfl⟩
        have hb7 : Below W6.heap.size W6 W7 := by rw [← hW7]; exact (Below.refl _ _).drew
        have CD := Lib.hid (draft_any p g n T7 W7 (d2.below hb7) hn)
        have CJ := Lib.hid (journal_any p g n T7 W7 (d2.below hb7) hn)
        have CR := Lib.hid (rename_dks g (N + 4 + 4 * pagesOf bs.length + 4) T7 DR (drf n) (jnl n) W7 (d1.below hb7) hdl hjl (by omega))
        have e0 := (F0.out.on (hb7.block _ F0.out.lt)).cell
        have e1 := (d2.below hb7).2.2.1
        gi_wp2
        refine wpIn_wide.2 (wp_region_noPanic (region_begin (S := fun X => X.cell? ⟨w.heap.size, 0, none⟩ = some (.pointer (some ⟨p, 0, none⟩)) ∧ X.cell? ⟨p, 0, none⟩ = some (.pointer (some ⟨g, 0, none⟩))) hW7 (by kernel_rfl) ⟨e0, e1⟩ (fun hHeld => ?_)))
        refine take_at (i := 0) (.pointer (some ⟨p, 0, none⟩)) (some 42) (by decide) (by rfl) (by kernel_rfl) (by kernel_rfl) (by kernel_rfl) (fun _ _ _ h => h) (by rfl) (fun X hX => by obtain ⟨hX1, hX2⟩ := hX; go_simp) (by assumption) ?_
        simp only [Act.put, List.setIfInBounds_toArray, List.set_cons_zero, List.set_cons_succ]
        refine take_at (i := 1) (.pointer (some ⟨p, 0, none⟩)) (some 43) (by decide) (by rfl) (by kernel_rfl) (by kernel_rfl) (by kernel_rfl) (fun _ _ _ h => h) (by rfl) (fun X hX => by obtain ⟨hX1, hX2⟩ := hX; go_simp) (by assumption) ?_
        simp only [Act.put, List.setIfInBounds_toArray, List.set_cons_zero, List.set_cons_succ]
        refine take_at (i := 2) (.pointer (some ⟨p, 0, none⟩)) (some 44) (by decide) (by rfl) (by kernel_rfl) (by kernel_rfl) (by kernel_rfl) (fun _ _ _ h => h) (by rfl) (fun X hX => by obtain ⟨hX1, hX2⟩ := hX; go_simp) (by assumption) ?_
        simp only [Act.put, List.setIfInBounds_toArray, List.set_cons_zero, List.set_cons_succ]
        refine take_at (i := 3) (.pointer (some ⟨g, 0, none⟩)) (some 45) (by decide) (by rfl) (by kernel_rfl) (by kernel_rfl) (by kernel_rfl) (fun _ _ _ h => h) (by rfl) (fun X hX => by obtain ⟨hX1, hX2⟩ := hX; go_simp) (by assumption) ?_
        simp only [Act.put, List.setIfInBounds_toArray, List.set_cons_zero, List.set_cons_succ]
        refine take_at (i := 4) (.pointer (some ⟨p, 0, none⟩)) (some 46) (by decide) (by rfl) (by kernel_rfl) (by kernel_rfl) (by kernel_rfl) (fun _ _ _ h => h) (by rfl) (fun X hX => by obtain ⟨hX1, hX2⟩ := hX; go_simp) (by assumption) ?_
        simp only [Act.put, List.setIfInBounds_toArray, List.set_cons_zero, List.set_cons_succ]
        refine take_at (i := 6) (.pointer (some ⟨p, 0, none⟩)) (some 48) (by decide) (by rfl) (by kernel_rfl) (by kernel_rfl) (by kernel_rfl) (fun _ _ _ h => h) (by rfl) (fun X hX => by obtain ⟨hX1, hX2⟩ := hX; go_simp) (by assumption) ?_
        simp only [Act.put, List.setIfInBounds_toArray, List.set_cons_zero, List.set_cons_succ]
        refine wpAnyH_ready (rs := [5]) (by kernel_rfl) (by simp) ?_
        refine AllReadyH.cons rfl (fun K' hK' => ?_) AllReadyH.nil
        go_simp
        refine CD.out.mono ?_
        rintro e5 W5 ⟨rfl, rfl⟩
        refine hK'.out _ _ hHeld (fun _ => ?_)
        clear hK' K' CD
        refine wpAnyH_ready (rs := [7]) (by kernel_rfl) (by simp) ?_
        refine AllReadyH.cons rfl (fun K' hK' => ?_) AllReadyH.nil
        go_simp
        refine CJ.out.mono ?_
        rintro e5 W5 ⟨rfl, rfl⟩
        refine hK'.out _ _ hHeld (fun _ => ?_)
        clear hK' K' CJ
        refine wpAnyH_ready (rs := [8]) (by kernel_rfl) (by simp) ?_
        refine AllReadyH.cons rfl (fun K' hK' => ?_) AllReadyH.nil
        go_simp
        refine CR.out.mono ?_
        rintro e6 W8 hm
        obtain rfl := hm.1
        rw [← hW7] at hm
        obtain ⟨i8, k8, s8, ap8⟩ := d5 _ _ _ _ _ hm.undrew
        have f0 := F0.out.on (k8 _ (by rw [hK7]; simp))
        have f1 := F1.out.on (k8 _ (by rw [hK7]; simp))
        have f5 : W8.cell? ⟨p, 0, none⟩ = some (.pointer (some ⟨g, 0, none⟩)) := (ap8.cell (p := ⟨p, 0, none⟩) d2.2.1 d2.1).trans d2.2.2.1
        have hH8 := And.intro f0.cell f5
        have F10 := Lib.hid f0
        have F11 := Lib.hid f1
        have I8 := Lib.hid i8
        have HDE8 := Lib.hid ((k8 W3.heap.size (by rw [hK7]; simp)).trans HDE6.out)
        have x1 := f1.cell
        have y1 := f1.frozen
        have hpw : w.heap.size + 1 ≠ p := by have := HP.out.2.1; omega
        have hH9 : (W8.setCell ⟨w.heap.size + 1, 0, none⟩ (.int .i64 ((renameD DR (drf n) (jnl n)).2 : Nat))).cell? ⟨w.heap.size, 0, none⟩ = some (.pointer (some ⟨p, 0, none⟩)) ∧ (W8.setCell ⟨w.heap.size + 1, 0, none⟩ (.int .i64 ((renameD DR (drf n) (jnl n)).2 : Nat))).cell? ⟨p, 0, none⟩ = some (.pointer (some ⟨g, 0, none⟩)) :=
          ⟨(World.cell?_of_block (a := ⟨w.heap.size, 0, none⟩) (heap_setCell_other _ _ _ _ (by show w.heap.size ≠ w.heap.size + 1; omega))).trans f0.cell, (World.cell?_of_block (a := ⟨p, 0, none⟩) (heap_setCell_other _ _ _ _ (by show p ≠ w.heap.size + 1; omega))).trans f5⟩
        refine hK'.out _ _ hH8 (fun _ => ?_)
        clear hK' K' hm i8 k8 ap8 e0 e1 d1 d2 d3 d4 d5 CR hHeld F0 F1 HDE6 hH8 f0 f1 f5
        refine wpAnyH_ready (rs := [9]) (by kernel_rfl) (by simp) ?_
        refine AllReadyH.cons rfl (fun K' hK' => ?_) AllReadyH.nil
        go_simp
        refine hK'.out _ _ hH9 (fun _ => ?_)
        clear hK' K' hH9
        refine ⟨by kernel_rfl, NoPanic.normal ?_⟩
        gi_wp2
        have hne : ∀ r u, r ≠ w.heap.size + 1 → (W8.setCell ⟨w.heap.size + 1, 0, none⟩ u).heap[r]? = W8.heap[r]? := fun r u hr => heap_setCell_other _ _ _ _ hr
        refine ⟨by simp, .inl ⟨W3.heap.size, _, (by rw [hsz3]), run_takeDeferred ((hne _ _ (by omega)).trans HDE8.out), ⟨_, ret_cell rfl _ _ (r := w.heap.size + 1) (by rfl) ((F11.out.set _).on (World.putObj_heap_other (by omega))).cell, ?_⟩⟩⟩
        rw [HPO2.out]
        exact (((I8.out.set (r := w.heap.size + 1) (by rw [hK7]; simp) (by omega) _).put (r := W3.heap.size) (by rw [hK7]; simp) (by omega) _).grow (by omega) hM).makes hSlt.out _
      · have hz3 : (ec : Int) ≠ 0 := by omega
        have hpd : postD D n bs = (DR, ec) := by rw [HPO.out]; exact if_pos hz2
        rw [hpd]
        gi_wp2
        have hne : ∀ r u, r ≠ w.heap.size + 1 → (W6.setCell ⟨w.heap.size + 1, 0, none⟩ u).heap[r]? = W6.heap[r]? := fun r u hr => heap_setCell_other _ _ _ _ hr
        refine ⟨by simp, .inl ⟨W3.heap.size, _, (by rw [hsz3]), run_takeDeferred ((hne _ _ (by omega)).trans HDE6.out), ⟨_, ret_cell rfl _ _ (r := w.heap.size + 1) (by rfl) ((F1.out.set _).on (World.putObj_heap_other (by omega))).cell, ?_⟩⟩⟩
        exact (((I6.out.set (r := w.heap.size + 1) (by rw [hK7]; simp) (by omega) _).put (r := W3.heap.size) (by rw [hK7]; simp) (by omega) _).grow (by omega) hM).makes hSlt.out _
    case stop =>
      intro c' k W hk hx hK
      obtain ⟨rfl, a2, a3, a4⟩ := (HIX.out _ _ _).1 hx
      gi_wp2
      refine ⟨by simp, .inl ⟨W3.heap.size, _, (by rw [hsz3]), run_takeDeferred hK, ⟨_, ret_cell rfl _ _ (r := w.heap.size + 1) (by rfl) (a4.on (World.putObj_heap_other (by omega))).cell, ?_⟩⟩⟩
      exact (a3.put (r := W3.heap.size) (by rw [hK7]; simp) (by omega) _).makes hSlt.out _
  · have he : postD D n bs = discardD D n := by unfold postD; rw [if_pos hz]
    rw [he]
    obtain ⟨ec, hec⟩ : ∃ ec, (discardD D n).2 = ec := ⟨_, rfl⟩
    rw [hec] at HD hz ⊢
    have hz' : (ec : Int) ≠ 0 := by omega
    gi_wp2_with (gi_at_call 48; refine (callsIn_wide.2 HD.out).mono ?_; rintro e W1 hm; obtain rfl := hm.1; obtain ⟨i1, k1, s1, _⟩ := HS0.out _ _ _ _ _ hm; have I1 := Lib.hid i1; have b0 := B0.out.on (k1 _ (by simp)); have b1 := B1.out.on (k1 _ (by simp)); have x0 := b0.cell; have x1 := b1.cell; have y1 := b1.frozen; have B0 := Lib.hid b0; have B1 := Lib.hid b1; clear hm i1 k1 b0 b1)
    refine ⟨_, ret_cell rfl _ _ (r := w.heap.size + 1) (by rfl) (B1.out.set _).cell, ?_⟩
    exact ((I1.out.set (r := w.heap.size + 1) (by simp) (by omega) _).grow (by omega) hM).makes hSlt.out _

end Go.Proofs.YtbaimgccepjdaaaGreatDoor.Cd

/-
  The journal's pages are written, the file is synced, the journal removed. Conditions: the power is on.
-/
namespace Go.Proofs.YtbaimgccepjdaaaGreatDoor.Cd
open Go.RowKit

theorem PgMap.look_blk {w : World} {S : Nat → Prop} {b : Nat} {ws : Pgs} (h : PgMap w S b ws) {k : Nat} (hk : k < ws.length) :
    ∃ A n c, (∀ W : World, W.heap[b]? = w.heap[b]? → (Instr.lookup 36 (.map (some b)) (.int .i64 ws[k].1) false).run Tryz.prog W = .ok (.slice A n c) W) ∧ Far w S (.slice A n c) ws[k].2 := by
  obtain ⟨_, h2, q, h3, _, h5⟩ := h
  obtain ⟨s, hs, hf⟩ := h5 ws[k] (List.getElem_mem hk)
  exact ⟨_, _, _, fun W hb => byt_look (h3.heap hb) (h2.wf _ (List.getElem_mem hk)) (by rw [hs]; rfl), hf⟩

/-- A slice's block. -/
def blk (A : Option Addr) : List Nat := match A with
  | none => []
  | some r => [r.block]

set_option maxRecDepth 100000 in
set_option maxHeartbeats 3200000 in
theorem settle_p (p g N M b : Nat) (n : List UInt8) (ws : Pgs) (S : Nat → Prop) (D : Dsk) (w : World) (h : PgrAt w S p g n) (hd : DkS w g N S D) (ho : D.off = false) (hn : n.length ≤ 140737488355000) (hm : PgMap w S b ws)
    (hl : ws.length ≤ 1048576) (hN : N + 4 * (ws.length + 2) ≤ M) (hM : M ≤ 137438953472) :
    Calls Tryz.prog 55 #[.pointer (some ⟨p, 0, none⟩), .map (some b)] w (MakesD g M S (settleD D n ws).1 (.int .i64 ((settleD D n ws).2 : Nat)) w) := by
  have HP := Lib.hid h
  have HM := Lib.hid hm
  have HD := Lib.hid hd
  have hSlt := Lib.hid hd.lt
  have hjl : (jnl n).length ≤ 140737488355328 := by simp [jnl]; omega
  have hl' : (ws.length : Int) ≤ 1048576 := by omega
  have HR := Lib.hid (rising_any b ws S w hm hl)
  clear h hd hm
  go_enter Tryz.func55, Tryz.ntmps55
  go_wp2_with (go_at_call 85; refine HR.out.mono ?_; rintro e w2 ⟨v, rfl, hf, hnew, hb2⟩; have HB2 := Lib.hid hb2; have HNW := Lib.hid hnew; have HF := Lib.hid hf; obtain ⟨A, cc, rfl, hc1, hc2⟩ := hf.len; clear hf hnew hb2 HR)
  rw [List.length_map] at hc1
  have hi2 : InP w S g (blk A) N D w2 := ⟨S, HD.out.below HB2.out, fun _ => .inl, fun r hr => by
    cases A with
    | none => cases hr
    | some ad =>
      have hr : r ∈ [ad.block] := hr
      rw [List.mem_singleton] at hr
      have := HNW.out ad _ _ rfl
      subst hr
      exact ⟨fun e => by have := hSlt.out _ e; omega, this.2⟩, Apart.below HB2.out⟩
  have HI2 := Lib.hid hi2
  clear hi2
  go_loopw [12] (fun v wr => ∃ k : Nat, v = .int .i64 k ∧ k ≤ ws.length ∧ Hid ((writes D n (ws.take k)).2 = 0) ∧ Hid (InP w S g (blk A) (N + 4 * k) (writes D n (ws.take k)).1 wr) ∧ Hid (∀ r ∈ blk A, wr.heap[r]? = w2.heap[r]?)) (fun v _ => ws.length - (intOf v).toNat)
  case atStart => exact ⟨0, rfl, by omega, rfl, HI2, fun _ _ => rfl⟩
  case round =>
    obtain ⟨k, rfl, hk, hok, hin, hkp⟩ := hrel
    obtain ⟨Dk, hDk⟩ : ∃ x, (writes D n (ws.take k)).1 = x := ⟨_, rfl⟩
    rw [hDk] at hin
    by_cases hlt : k < ws.length
    · have hlt' : (k : Int) < ws.length := by omega
      obtain ⟨fb, off, hA, hfb, hcell⟩ := HF.out.at (k := k) (by rw [List.length_map]; exact hlt)
      rw [List.getElem_map] at hcell
      have hcell := (World.cell?_of_block (a := ⟨fb, off + k, none⟩) (hkp.out fb (by rw [hA]; simp [blk]))).trans hcell
      have hstep := writes_take n ws D hlt hok.out
      rw [hDk] at hstep
      obtain ⟨T, d1, d2, d3, d4, d5⟩ := hin.out.pgr HP.out
      have hmT := d4 b ws HM.out
      obtain ⟨pA, pn, pc, hlook, hfar⟩ := hmT.look_blk hlt
      have hwf := hmT.rising.wf ws[k] (List.getElem_mem hlt)
      obtain ⟨⟨i, bs⟩, hi⟩ : ∃ i, ws[k] = i := ⟨_, rfl⟩
      rw [hi] at hcell hwf hlook hfar hstep
      have hcell : wr.cell? ⟨fb, off + k, none⟩ = some (.int .i64 i) := hcell
      have hlook : ∀ W : World, W.heap[b]? = wr.heap[b]? → (Instr.lookup 36 (.map (some b)) (.int .i64 i) false).run Tryz.prog W = .ok (.slice pA pn pc) W := hlook
      have hstep : writes D n (ws.take (k + 1)) = writeD Dk n i bs := hstep
      have hbd := bounds_i64 hwf
      have hfar : Far wr T (.slice pA pn pc) bs := hfar
      subst hA
      have hb4 : Below wr.heap.size wr wr.drew := (Below.refl _ _).drew
      have CW := Lib.hid (write_dks g (N + 4 * k) T Dk n wr.drew bs i (.slice pA pn pc) (d1.below hb4) (hfar.below hb4).1 (hfar.below hb4).2 (by omega) hbd.2 (by omega))
      have c0 := d2.2.2.1
      have c1 := d2.2.2.2
      have hL0 := hlook wr.drew rfl
      have HLK := Lib.hid hlook
      have HD5 := Lib.hid d5
      have HD2 := Lib.hid d2
      have hbT := Lib.hid hmT.1
      have hblt := hmT.lt
      have HST := Lib.hid hstep
      clear hlook d5 d2 d3 d4 hmT hfar hi hwf hstep hDk d1
      go_wp2_with fail
      go_region_held3 (fun W => W.cell? ⟨p, 0, none⟩ = some (.pointer (some ⟨g, 0, none⟩)) ∧ W.cell? ⟨p, 1, none⟩ = some (.string ⟨n.toArray⟩) ∧ (Instr.lookup 36 (.map (some b)) (.int .i64 i) false).run Tryz.prog W = .ok (.slice pA pn pc) W) (first | exact ⟨c0, c1, hL0⟩ | assumption) (first
        | (go_at_call 30; refine CW.out.mono ?_; rintro e w5 hm5; obtain rfl := hm5.1; have hS5 : w5.cell? ⟨p, 0, none⟩ = some (.pointer (some ⟨g, 0, none⟩)) ∧ w5.cell? ⟨p, 1, none⟩ = some (.string ⟨n.toArray⟩) ∧ (Instr.lookup 36 (.map (some b)) (.int .i64 i) false).run Tryz.prog w5 = .ok (.slice pA pn pc) w5 := ⟨(hm5.2.2.cell (p := ⟨p, 0, none⟩) HD2.out.2.1 HD2.out.1).trans c0, (hm5.2.2.cell (p := ⟨p, 1, none⟩) HD2.out.2.1 HD2.out.1).trans c1, HLK.out w5 (hm5.2.2.block b hblt hbT.out)⟩; have HM5 := Lib.hid hm5.undrew; clear hm5))
      all_goals
        obtain ⟨i6, k6, s6, _⟩ := HD5.out _ _ _ _ _ HM5.out
        have HI6 := Lib.hid i6
        have HK6 := Lib.hid (fun r hr => (k6 r hr).trans (hkp.out r hr))
        clear i6 k6 HM5 hS5 c0 c1 hL0 HLK
        obtain ⟨R, hR⟩ : ∃ R, writeD Dk n i bs = R := ⟨_, rfl⟩
        rw [hR] at HST HI6 ⊢
        obtain ⟨DR, ec⟩ := R
        clear hR CW
        dsimp only at HST HI6 ⊢
        by_cases hz2 : ec = 0
        · subst hz2
          go_wp2_with fail
          go_roundw
          case rel => exact ⟨k + 1, by go_num, by omega, by unfold Hid; rw [HST.out], by unfold Hid; rw [HST.out]; exact HI6.out.grow (by omega) (by omega), HK6⟩
          case measure => simp [intOf]; omega
        · have hz3 : (ec : Int) ≠ 0 := by omega
          have hpd : settleD D n ws = (DR, ec) := by
            have := writes_stop n ws D (k := k + 1) (by rw [HST.out]; exact hz2)
            unfold settleD
            rw [this, HST.out]
            exact if_pos hz2
          go_wp2_with fail
          go_ret
          rw [hpd]
          exact (HI6.out.grow (by omega) hM).makes hSlt.out _
    · have hlt' : (ws.length : Int) ≤ k := by omega
      obtain rfl : k = ws.length := by omega
      rw [List.take_length] at hok hDk
      have hoff : Dk.off = false := by rw [← hDk, (writes_ok ws hok.out).2.1]; exact ho
      have hse : settleD D n ws = if (syncIf Dk n).2 ≠ 0 then syncIf Dk n else removeD (syncIf Dk n).1 (jnl n) := by
        unfold settleD
        rw [if_neg (fun h => h hok.out), hDk]
      have HSE := Lib.hid hse
      obtain ⟨T, d1, d2, d3, d4, d5⟩ := hin.out.pgr HP.out
      have hb4 : Below wr.heap.size wr wr.drew := (Below.refl _ _).drew
      have hb5 : Below wr.heap.size wr wr.drew.drew := (Below.refl _ _).drew.drew
      have CH := Lib.hid (has_dks g (N + 4 * ws.length) T Dk n wr.drew (d1.below hb4) hoff (by omega))
      have c0 := d2.2.2.1
      have c1 := d2.2.2.2
      have HD5 := Lib.hid d5
      have HD2 := Lib.hid d2
      cases hh : (getF Dk.now n).isSome
      · rw [hh] at CH
        have hsi : syncIf Dk n = (Dk, 0) := by unfold syncIf; rw [hh]; rfl
        have CJ := Lib.hid (journal_any p g n T wr.drew.drew (d2.below hb5) hn)
        have CR := Lib.hid (remove_dks g (N + 4 * ws.length) T Dk (jnl n) wr.drew.drew (d1.below hb5) hjl (by omega))
        clear d1 d2 d3 d4 d5 hse hDk hok
        go_wp2_with fail
        go_region_held3 (fun W => W.cell? ⟨p, 0, none⟩ = some (.pointer (some ⟨g, 0, none⟩)) ∧ W.cell? ⟨p, 1, none⟩ = some (.string ⟨n.toArray⟩)) (first | exact ⟨c0, c1⟩ | assumption) (first
          | (go_at_call 79; refine CH.out.mono ?_; rintro e w5 ⟨rfl, rfl⟩))
        all_goals go_wp2_with fail
        go_region_held3 (fun W => W.cell? ⟨p, 0, none⟩ = some (.pointer (some ⟨g, 0, none⟩))) (first | exact c0 | assumption) (first
          | (go_at_call 82; refine CJ.out.mono ?_; rintro e w5 ⟨rfl, rfl⟩)
          | (go_at_call 81; refine CR.out.mono ?_; rintro e w5 hm5; obtain rfl := hm5.1; have hS5 : w5.cell? ⟨p, 0, none⟩ = some (.pointer (some ⟨g, 0, none⟩)) := (hm5.2.2.cell (p := ⟨p, 0, none⟩) HD2.out.2.1 HD2.out.1).trans c0; have HM5 := Lib.hid hm5.undrew.undrew; clear hm5))
        all_goals go_wp2_with fail
        all_goals go_ret
        all_goals
          rw [HSE.out, hsi]
          obtain ⟨i6, _⟩ := HD5.out _ _ _ _ _ HM5.out
          exact (i6.grow (by omega) hM).makes hSlt.out _
      · rw [hh] at CH
        have hsi : syncIf Dk n = syncD Dk n := by unfold syncIf; rw [hh]; rfl
        have CS := Lib.hid (sync_dks g (N + 4 * ws.length) T Dk n wr.drew.drew (d1.below hb5) (by omega) (by omega))
        clear d1 d2 d3 d4 d5 hse hDk hok
        go_wp2_with fail
        go_region_held3 (fun W => W.cell? ⟨p, 0, none⟩ = some (.pointer (some ⟨g, 0, none⟩)) ∧ W.cell? ⟨p, 1, none⟩ = some (.string ⟨n.toArray⟩)) (first | exact ⟨c0, c1⟩ | assumption) (first
          | (go_at_call 79; refine CH.out.mono ?_; rintro e w5 ⟨rfl, rfl⟩))
        all_goals go_wp2_with fail
        go_region_held3 (fun W => W.cell? ⟨p, 0, none⟩ = some (.pointer (some ⟨g, 0, none⟩)) ∧ W.cell? ⟨p, 1, none⟩ = some (.string ⟨n.toArray⟩)) (first | exact ⟨c0, c1⟩ | assumption) (first
          | (go_at_call 90; refine CS.out.mono ?_; rintro e w5 hm5; obtain rfl := hm5.1; have hS5 : w5.cell? ⟨p, 0, none⟩ = some (.pointer (some ⟨g, 0, none⟩)) ∧ w5.cell? ⟨p, 1, none⟩ = some (.string ⟨n.toArray⟩) := ⟨(hm5.2.2.cell (p := ⟨p, 0, none⟩) HD2.out.2.1 HD2.out.1).trans c0, (hm5.2.2.cell (p := ⟨p, 1, none⟩) HD2.out.2.1 HD2.out.1).trans c1⟩; have HM5 := Lib.hid hm5.undrew.undrew; clear hm5))
        all_goals
          obtain ⟨i6, k6, s6, _⟩ := HD5.out _ _ _ _ _ HM5.out
          have HI6 := Lib.hid i6
          clear i6 k6 HM5 hS5 c0 c1 HD5 HD2 CH
          obtain ⟨R, hR⟩ : ∃ R, syncD Dk n = R := ⟨_, rfl⟩
          have hsi : syncIf Dk n = R := hsi.trans hR
          rw [hR] at HI6 ⊢
          obtain ⟨DR, ec⟩ := R
          clear hR CS
          dsimp only at HI6 ⊢
          by_cases hz2 : ec = 0
          · subst hz2
            obtain ⟨T7, d1, d2, d3, d4, d5⟩ := HI6.out.pgr HP.out
            have hb6 : Below w5.heap.size w5 w5.drew := (Below.refl _ _).drew
            have CJ := Lib.hid (journal_any p g n T7 w5.drew (d2.below hb6) hn)
            have CR := Lib.hid (remove_dks g (N + 4 * ws.length + 4) T7 DR (jnl n) w5.drew (d1.below hb6) hjl (by omega))
            have c0 := d2.2.2.1
            have HD5 := Lib.hid d5
            have HD2 := Lib.hid d2
            clear d1 d2 d3 d4 d5
            go_wp2_with fail
            go_region_held3 (fun W => W.cell? ⟨p, 0, none⟩ = some (.pointer (some ⟨g, 0, none⟩))) (first | exact c0 | assumption) (first
              | (go_at_call 82; refine CJ.out.mono ?_; rintro e w7 ⟨rfl, rfl⟩)
              | (go_at_call 81; refine CR.out.mono ?_; rintro e w7 hm7; obtain rfl := hm7.1; have hS7 : w7.cell? ⟨p, 0, none⟩ = some (.pointer (some ⟨g, 0, none⟩)) := (hm7.2.2.cell (p := ⟨p, 0, none⟩) HD2.out.2.1 HD2.out.1).trans c0; have HM7 := Lib.hid hm7.undrew; clear hm7))
            all_goals go_wp2_with fail
            all_goals go_ret
            all_goals
              rw [HSE.out, hsi]
              obtain ⟨i8, _⟩ := HD5.out _ _ _ _ _ HM7.out
              exact (i8.grow (by omega) hM).makes hSlt.out _
          · have hz3 : (ec : Int) ≠ 0 := by omega
            go_wp2_with fail
            go_ret
            rw [HSE.out, hsi, if_pos hz2]
            exact (HI6.out.grow (by omega) hM).makes hSlt.out _

end Go.Proofs.YtbaimgccepjdaaaGreatDoor.Cd
