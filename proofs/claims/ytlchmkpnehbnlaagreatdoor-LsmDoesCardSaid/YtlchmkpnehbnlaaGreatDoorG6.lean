/-
  maps.Copy of a table's map onto another one. Conditions: not too many; two blocks.
-/
import Derived.Test.YtlchmkpnehbnlaaGreatDoorG4
import Derived.Test.YtlchmkpnehbnlaaGreatDoorG5
import Derived.Lib.Hide
import Derived.Shelf.Abstract
import Derived.Shelf.RegionOpen
import Derived.WalkKit
import Derived.OwnWalkIn
import Derived.TacticsInMore
import Derived.LoopNIn
import Derived.LoopIn
import Derived.BigRegionIn
import Derived.Maps.OwnIn
import Derived.Maps.AppendAt
import Derived.Sort.MapsRangeIn
import Derived.Sort.EncStr
import Derived.Sort.KeysCollected
import Derived.Maps.RangeWalk
import Derived.Laws.IdiomRangeMap
/-
  maps.Values over a table's map: its writes come, each once, in some order. Conditions: none.
-/
namespace Go.Proofs.YtlchmkpnehbnlaaGreatDoor.Cd
open Go.RowKit Go.Maps Go.Shelf Go.Sort
attribute [local go_sem] Oper.semAt_some

structure Gath (T : List Wr) (left : Lit → Bool) (xs : List Wr) : Prop where
  nodup : xs.Nodup
  mem : ∀ p ∈ xs, p ∈ T
  left : ∀ p ∈ T, (left (.string p.1) = false ↔ p ∈ xs)

theorem srt_nodup {T : List Wr} (h : SrtW T) : T.Nodup := by
  unfold SrtW at h
  exact List.Pairwise.imp (fun h e => less_ne h (congrArg Wr.key e)) h
theorem srt_key {T : List Wr} (h : SrtW T) {p q : Wr} (hp : p ∈ T) (hq : q ∈ T) (e : p.1 = q.1) : p = q := by
  have h1 := getW_of_mem h hp
  rw [e, getW_of_mem h hq] at h1
  injection h1 with h1
  exact h1.symm
theorem Gath.start {T : List Wr} {left : Lit → Bool} (h : ∀ p ∈ T, left (.string p.1) = true) : Gath T left [] :=
  ⟨List.nodup_nil, (fun _ h => by cases h), fun p hp => ⟨(fun e => by rw [h p hp] at e; cases e), (fun e => by cases e)⟩⟩
theorem Gath.step {T xs : List Wr} {left : Lit → Bool} (h : Gath T left xs) (hs : SrtW T) {c : Wr} (hc : c ∈ T) (hl : left (.string c.1) = true) : Gath T (fun z => left z && !z.sameKey (.string c.1)) (xs ++ [c]) := by
  have hn : c ∉ xs := fun e => by rw [(h.left c hc).2 e] at hl; cases hl
  refine ⟨?_, fun p hp => ?_, fun p hp => ?_⟩
  · rw [List.nodup_append]
    exact ⟨h.nodup, by simp, fun a ha b hb e => by rw [List.mem_singleton.1 hb] at e; exact hn (e ▸ ha)⟩
  · rcases List.mem_append.1 hp with hp | hp
    · exact h.mem p hp
    · rw [List.mem_singleton.1 hp]; exact hc
  · have hk : (Lit.string p.1).sameKey (.string c.1) = decide (p.1 = c.1) := by
      show (p.1 == c.1) = _
      by_cases e : p.1 = c.1
      · simp [e]
      · rw [decide_eq_false e]; simpa using e
    simp only [hk]
    by_cases e : p.1 = c.1
    · have := srt_key hs hp hc e
      subst this
      simp
    · have hne : p ≠ c := fun e2 => e (by rw [e2])
      simp only [e, decide_false, Bool.not_false, Bool.and_true, List.mem_append, List.mem_singleton, hne, or_false]
      exact h.left p hp
theorem Gath.all {T xs : List Wr} {left : Lit → Bool} (h : Gath T left xs) (hs : SrtW T) (hl : ∀ z, left z = false) : xs.Perm T :=
  (List.perm_ext_iff_of_nodup h.nodup (srt_nodup hs)).2 fun p => ⟨h.mem p, fun hp => (h.left p hp).1 (hl _)⟩

theorem wr_entry {T : List Wr} {D : DataW Unit} (hat : ∀ x, wrK.ok x → ∀ z, D.atKey (wrK.lit x) z = ((getW T x).map wrK.dat).getD z) {x : List UInt8} {c : Wr} {y : DataW Unit × List MemPlace} (hx : x.length ≤ maxLen) (hy : wrR (wrV c) = some y) (hd : ∀ z, D.atKey (.string x) z = y.1) : c ∈ T ∧ c.1 = x := by
  rw [wrR_val] at hy
  injection hy with hy
  subst hy
  cases hq : getW T x with
  | none =>
    have h1 := hat x hx (.lit (.bool true))
    have h2 := hat x hx (.lit (.bool false))
    rw [hq] at h1 h2
    have e1 := (hd (.lit (.bool true))).symm.trans h1
    have e2 := (hd (.lit (.bool false))).symm.trans h2
    rw [e1] at e2
    cases e2
  | some p =>
    have h1 := hat x hx .nil
    rw [hq] at h1
    have e1 : wrD c = wrD p := (hd .nil).symm.trans h1
    have e2 := wrD_inj e1
    subst e2
    exact ⟨getW_mem hq, getW_key hq⟩

set_option maxRecDepth 100000 in
set_option maxHeartbeats 3200000 in
theorem vals_gives (Bm b : Nat) (T : List Wr) (w : World) (hBm : Bm < w.heap.size) (hm : w.cell? ⟨Bm, 0, none⟩ = some (.map (some b))) (h : TabM w b T) (n : Nat) (hn : 1 ≤ n) :
    SeqGives Fence.wide n Tryz.prog 155 #[.pointer (some ⟨Bm, 0, none⟩)] wrV (fun xs => xs.Perm T) T.length w := fun l J W hW hJ hY h0 => by
  have hM := h.below hW
  have hm2 := (hW.cell (p := ⟨Bm, 0, none⟩) hBm).trans hm
  obtain ⟨⟨D, hown, hsz, hat⟩, hs, _, _⟩ := hM
  have HAT := Lib.hid hat
  have HS := Lib.hid hs
  have HY := Lib.hid hY
  have HJ := Lib.hid hJ
  have H0 := Lib.hid h0
  have HST : Hid (Gath T (Maps.has D) []) := Gath.start fun p hp => by
    have := MapF.has (M := wrK) (hat p.1 (h.2.2.2 p hp).key)
    rw [getW_of_mem hs hp] at this
    exact this
  clear hat hs hY hJ h0 h hW hm
  refine callsIn_of_wp Tryz.func155 rfl trivial ?_ rfl
  simp only [Tryz.ntmps155, List.size_toArray, List.length_cons, List.length_nil, Nat.reduceAdd, Nat.reduceSub, Array.replicate_succ, Array.replicate_zero, List.push_toArray, List.append_toArray, List.nil_append, List.cons_append]
  gi_wp2_with (first
    | (gi_at_range; refine wpListIn_range_own _ rfl _ 104 rfl 9 52 wrK.law wrK.under wrR b T.length _ rfl hown ?_; intro w0 hrg0 hg0 hs0)
    | gi_in)
  go_frame
  gi_loopw [4] (fun _ wr => ∃ (left : Lit → Bool) (cnt : Nat) (xs : List Wr), wr.ranges Tryz.prog 9 wrR b W.heap.size T.length D left cnt ∧ Hid (xs.length + cnt ≤ T.length) ∧ Hid (Gath T left xs) ∧ Hid (J xs wr)) (fun _ wr => wr.rangeLeft b W.heap.size)
  case atStart =>
    exact ⟨_, _, [], hrg0, by unfold Hid; rw [hsz]; simp, HST.out, HJ.out [] W w0 none H0.out hg0 (fun r e => by cases e)⟩
  case round =>
    obtain ⟨left, cnt, xs, hrg, hcs, hC, hJs⟩ := hrel
    gi_wp2_with (first
      | (gi_at_next; refine wpListIn_next_ranges _ rfl _ rfl 9 wrK.law wrR encStr wrV (fun key kl hk => by obtain ⟨x, hx, _⟩ := Maps.keyOf_str Tryz.underlying9 hk; exact ⟨x, hx⟩) (fun v y hv => by obtain ⟨c, rfl, _⟩ := wrR_inv hv; exact ⟨c, rfl⟩) b W.heap.size T.length _ _ _ rfl hrg ?_ ?_)
      | gi_in)
    · intro hc0 hl0
      gi_wp2
      go_end0
      exact ⟨⟨_, rfl⟩, xs, hC.out.all HS.out hl0, hJs.out⟩
    · intro x c kl yd yp w2 cnt2 hkey hlk hv hat2 hrg2 hlt hg2 hs2 hen
      obtain ⟨x', ex, rfl, hwx⟩ := Maps.keyOf_str Tryz.underlying9 hkey
      obtain rfl : x = x' := encStr_inj ex
      obtain ⟨hcT, hcx⟩ := wr_entry HAT.out hwx hv hat2
      subst hcx
      have hC2 := Lib.hid (hC.out.step HS.out hcT hlk)
      have hcs2 : Hid (xs.length + 1 + cnt2 ≤ T.length) := by have := hcs.out; unfold Hid; omega
      have hJ2 : J xs w2 := HJ.out xs wr w2 (some W.heap.size) hJs.out hg2 (fun r e => by injection e with e; subst e; exact ⟨Nat.le_refl _, hrg.iter_walk⟩)
      have hJ3 : J xs (w2.alloc (.cells #[.string ⟨c.1.toArray⟩, .string ⟨c.2.1.toArray⟩, .bool c.2.2] 52)) := HJ.out xs w2 _ none hJ2 (World.grownBy_alloc _ _ _) (fun r e => by cases e)
      obtain ⟨fn, tmps, assign, body, hy, hR⟩ := HY.out xs c _ hJ3 (by have := hcs2.out; omega)
      have HR := Lib.hid hR
      have hms : Hid (w2.rangeLeft b W.heap.size < wr.rangeLeft b W.heap.size) := by unfold Hid; rw [hrg2.left_eq, hrg.left_eq]; omega
      have HRG := Lib.hid (hrg2.of_walks (KeepsWalks.alloc _ (.cells #[.string ⟨c.1.toArray⟩, .string ⟨c.2.1.toArray⟩, .bool c.2.2] 52)))
      have HRG2 := Lib.hid hrg2
      clear hs2 hR hJ2 hJ3 hv hat2 hkey hlk hcT hrg hrg2 hcs hC hJs hg2 hlt
      unfold wrV at hy hen ⊢
      gi_wp2
      refine HR.out.mono ?_
      rintro e W3 ⟨rfl, hJ3, hk3⟩
      have HJ3 := Lib.hid hJ3
      have hrg3 := HRG.out.of_walks hk3
      have hm3 : Hid (W3.rangeLeft b W.heap.size < wr.rangeLeft b W.heap.size) := by
        have h1 := hrg3.left_eq
        have h2 := HRG2.out.left_eq
        have h3 := hms.out
        unfold Hid
        omega
      have HRG3 := Lib.hid hrg3
      clear hJ3 hk3 hrg3 HRG HRG2 HR hms
      gi_wp2
      go_roundw
      case rel => exact ⟨_, cnt2, xs ++ [c], HRG3.out, (by have := hcs2.out; unfold Hid; rw [List.length_append, List.length_singleton]; exact this), hC2, HJ3⟩
      case measure => exact hm3.out

set_option maxRecDepth 100000 in
set_option maxHeartbeats 1600000 in
theorem vals_nil (Bm : Nat) (w : World) (hBm : Bm < w.heap.size) (hm : w.cell? ⟨Bm, 0, none⟩ = some (.map none)) (n : Nat) :
    SeqGives Fence.wide n Tryz.prog 155 #[.pointer (some ⟨Bm, 0, none⟩)] wrV (fun xs => xs.Perm []) 0 w := fun l J W hW hJ _ h0 => by
  have hm2 := (hW.cell (p := ⟨Bm, 0, none⟩) hBm).trans hm
  have h1 := hJ [] W (W.alloc (.mapIter none 0 #[] 0)) none h0 (World.grownBy_alloc W _ none) (fun r e => by cases e)
  have H1 := Lib.hid h1
  clear hJ h0 hW h1
  refine callsIn_of_wp Tryz.func155 rfl trivial ?_ rfl
  simp only [Tryz.ntmps155, List.size_toArray, List.length_cons, List.length_nil, Nat.reduceAdd, Nat.reduceSub, Array.replicate_succ, Array.replicate_zero, List.push_toArray, List.append_toArray, List.nil_append, List.cons_append]
  have hrg := run_range_nilMap (P := Tryz.prog) W 104 9 52 Tryz.underlying104
  have hnx : ∀ ty, (Instr.next (.pointer (some ⟨W.heap.size, 0, none⟩)) false ty).run Tryz.prog (W.alloc (.mapIter none 0 #[] 0)) = _ := fun ty => run_next_nilMap _ ty 0 0 #[]
  gi_wp2
  refine wpIn_loop_rounds 1 ?_
  rw [roundsIn_succ]
  gi_wp2
  go_end0
  exact ⟨⟨_, rfl⟩, [], List.Perm.refl _, H1.out⟩

end Go.Proofs.YtlchmkpnehbnlaaGreatDoor.Cd

/-
  maps.Copy of a table's map onto another one. Conditions: not too many; two blocks.
-/
namespace Go.Proofs.YtlchmkpnehbnlaaGreatDoor.Cd
open Go.RowKit Go.Maps Go.Shelf Go.Sort

theorem find_perm {l T : List Wr} (hs : SrtW T) (hp : l.Perm T) (k : List UInt8) : (l.find? fun w => w.1 == k) = getW T k := by
  cases hg : getW T k with
  | none =>
    rw [List.find?_eq_none]
    intro x hx
    have := getW_none.1 hg x (hp.mem_iff.1 hx)
    simpa using this
  | some w =>
    have hk := getW_key hg
    have hm := hp.mem_iff.2 (getW_mem hg)
    cases hf : l.find? (fun w => w.1 == k) with
    | none =>
      have := List.find?_eq_none.1 hf w hm
      simp [hk] at this
    | some x =>
      have hx := hp.mem_iff.1 (List.mem_of_find?_eq_some hf)
      have hxk : x.1 = k := by simpa using List.find?_some hf
      have := getW_of_mem hs hx
      rw [hxk, hg] at this
      exact this.symm
theorem from_perm {t l T : List Wr} (ht : SrtW t) (hs : SrtW T) (hp : l.Perm T) : ofFrom t l = ofFrom t T :=
  srt_ext (ofFrom_srt ht l) (ofFrom_srt ht T) fun k => by
    rw [getW_from, getW_from, find_perm hs ((List.reverse_perm l).trans hp), find_perm hs (List.reverse_perm T)]

set_option maxRecDepth 100000 in
set_option maxHeartbeats 3200000 in
theorem copy_tb (bd bs : Nat) (Td Ts : List Wr) (w : World) (hd : TabM w bd Td) (hs : TabM w bs Ts) (hne : bd ≠ bs) (hl : Td.length + Ts.length ≤ 1099511627776) :
    Calls Tryz.prog 120 #[.map (some bd), .map (some bs)] w fun e w' => e = .returned (.tuple #[]) ∧ TabM w' bd (ofFrom Td Ts) ∧ w.grownBy w' (some bd) := by
  have hbd := hd.lt
  have hbs := hs.lt
  have HD := Lib.hid hd
  have HSM := Lib.hid hs
  obtain ⟨⟨D, hown, hsz, hat⟩, hsr, hfl, hft⟩ := hs
  have HAT := Lib.hid hat
  have HS := Lib.hid hsr
  have HFL := Lib.hid hfl
  have HFT := Lib.hid hft
  have HST : Hid (Gath Ts (Maps.has D) []) := Gath.start fun p hp => by
    have := MapF.has (M := wrK) (hat p.1 (hft p hp).key)
    rw [getW_of_mem hsr hp] at this
    exact this
  clear hat hsr hfl hft hd
  go_enter Tryz.func120, Tryz.ntmps120
  go_wp2_with (at_range; refine wpList_range_own _ rfl _ 104 rfl 9 52 wrK.law wrK.under wrR bs Ts.length D rfl hown ?_; intro w0 hrg0 hg0 hs0)
  go_frame
  have hM0 := Lib.hid (HD.out.grown hg0 (by simp))
  have hG0 : Hid (w.grownBy w0 (some bd)) := hg0.but _
  have hsz0 : Hid (Maps.size D = Ts.length) := hsz
  clear hs0 hsz hg0
  go_loopw [4, 5] (fun _ _ wr => ∃ (left : Lit → Bool) (cnt : Nat) (xs : List Wr), wr.ranges Tryz.prog 9 wrR bs w.heap.size Ts.length D left cnt ∧ Hid (xs.length + cnt ≤ Ts.length) ∧ Hid (Gath Ts left xs) ∧ Hid (TabM wr bd (ofFrom Td xs)) ∧ Hid (w.grownBy wr (some bd))) (fun _ _ wr => wr.rangeLeft bs w.heap.size)
  case atStart => exact ⟨_, _, [], hrg0, by unfold Hid; rw [hsz0.out]; simp, HST.out, hM0.out, hG0.out⟩
  case round =>
    obtain ⟨left, cnt, xs, hrg, hcs, hC, hMx, hG⟩ := hrel
    go_wp2_with (at_next; refine wpList_next_ranges _ rfl _ rfl 9 wrK.law wrR encStr wrV (fun key kl hk => by obtain ⟨x, hx, _⟩ := Maps.keyOf_str Tryz.underlying9 hk; exact ⟨x, hx⟩) (fun v y hv => by obtain ⟨c, rfl, _⟩ := wrR_inv hv; exact ⟨c, rfl⟩) bs w.heap.size Ts.length _ _ _ rfl hrg ?_ ?_)
    · intro hc0 hl0
      have hxs := hC.out.all HS.out hl0
      have hfin : Hid (TabM wr bd (ofFrom Td Ts)) := by unfold Hid; rw [← from_perm HD.out.2.1 HS.out hxs]; exact hMx.out
      clear hxs hMx
      go_wp2_with fail
      go_end0
      exact ⟨rfl, hfin.out, hG.out⟩
    · intro x c kl yd yp w2 cnt2 hkey hlk hv hat2 hrg2 hlt hg2 hs2 hen
      obtain ⟨x', ex, rfl, hwx⟩ := Maps.keyOf_str Tryz.underlying9 hkey
      obtain rfl : x = x' := encStr_inj ex
      obtain ⟨hcT, hcx⟩ := wr_entry HAT.out hwx hv hat2
      subst hcx
      have hC2 := Lib.hid (hC.out.step HS.out hcT hlk)
      have hcs2 : Hid (xs.length + 1 + cnt2 ≤ Ts.length) := by have := hcs.out; unfold Hid; omega
      have hz : w.heap.size ≤ wr.heap.size := hG.out.size
      have hM2 := hMx.out.grown hg2 (fun e => by injection e with e; omega)
      have hb3 : Below w2.heap.size w2 (w2.alloc (.cells #[.string ⟨c.1.toArray⟩, .string ⟨c.2.1.toArray⟩, .bool c.2.2] 52)) := (Below.refl _ _).alloc (Nat.le_refl _) _
      have hln : (ofFrom Td xs).length < maxLen := by have := ofFrom_len HD.out.2.1 xs; have := hcs2.out; simp only [maxLen]; omega
      obtain ⟨w4, hrun4, hm4, hg4⟩ := (hM2.below hb3).put hln c (HFL.out c hcT) (HFT.out c hcT)
      have hsn : Hid (ofFrom Td (xs ++ [c]) = insW (ofFrom Td xs) c) := by unfold Hid; rw [ofFrom_snoc, HFL.out c hcT]
      have hgg : Hid (w.grownBy w4 (some bd)) := ((hG.out.andThen hg2 (fun j e => by injection e with e; exact .inl (by omega))).andThen (World.grownBy_alloc w2 _ none) (fun j e => by cases e)).andThen hg4 (fun j e => .inr e)
      have hrg4 := (hrg2.kept (World.grownBy_alloc w2 (.cells #[.string ⟨c.1.toArray⟩, .string ⟨c.2.1.toArray⟩, .bool c.2.2] 52) none) (by simp) (by simp)).kept hg4 (fun e => by injection e with e; omega) (fun e => by injection e with e; omega)
      have hms : Hid (w4.rangeLeft bs w.heap.size < wr.rangeLeft bs w.heap.size) := by unfold Hid; rw [hrg4.left_eq, hrg.left_eq]; exact hlt
      have HM4 := Lib.hid hm4
      have HRG4 := Lib.hid hrg4
      clear hs2 hv hat2 hkey hlk hcT hrg hrg2 hcs hC hMx hG hg2 hlt hM2 hb3 hm4 hg4 hrg4 hln
      unfold wrV at hen ⊢
      go_wp2_with fail
      go_roundw
      case rel => exact ⟨_, cnt2, xs ++ [c], HRG4.out, (by have := hcs2.out; unfold Hid; rw [List.length_append, List.length_singleton]; exact this), hC2, (by rw [hsn.out]; exact HM4.out), hgg⟩
      case measure => exact hms.out

set_option maxRecDepth 100000 in
set_option maxHeartbeats 1600000 in
theorem copy_nil (pd : Option Nat) (w : World) :
    Calls Tryz.prog 120 #[.map pd, .map none] w fun e w' => e = .returned (.tuple #[]) ∧ w' = w.alloc (.mapIter none 0 #[] 0) := by
  have hrg := run_range_nilMap (P := Tryz.prog) w 104 9 52 Tryz.underlying104
  have hnx : ∀ ty, (Instr.next (.pointer (some ⟨w.heap.size, 0, none⟩)) false ty).run Tryz.prog (w.alloc (.mapIter none 0 #[] 0)) = _ := fun ty => run_next_nilMap _ ty 0 0 #[]
  go_enter Tryz.func120, Tryz.ntmps120
  go_wp2_with fail
  refine wp_loop_rounds 1 ?_
  rw [rounds_succ]
  go_wp2_with fail
  go_end0
  exact ⟨rfl, rfl⟩

end Go.Proofs.YtlchmkpnehbnlaaGreatDoor.Cd
