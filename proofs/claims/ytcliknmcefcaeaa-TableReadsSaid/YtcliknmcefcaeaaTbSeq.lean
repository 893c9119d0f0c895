/-
  maps.Values over a table's map: its writes come, each once, in some order. Conditions: none.
-/
import Derived.Test.YtcliknmcefcaeaaTbMap
import Derived.Test.YtcliknmcefcaeaaRangeSeq
import Derived.Lib.Hide
import Derived.Shelf.Abstract
import Derived.Shelf.RegionOpen
import Derived.WalkKit
import Derived.OwnWalkIn
import Derived.TacticsInMore
import Derived.LoopNIn
import Derived.LoopIn
import Derived.BigRegionIn
import Derived.Maps.OwnIn
import Derived.Maps.AppendAt
import Derived.Sort.MapsRangeIn
import Derived.Sort.EncStr
import Derived.Sort.KeysCollected
namespace Go.Proofs.Ytcliknmcefcaeaa.Cd
open Go.RowKit Go.Maps Go.Shelf Go.Sort
attribute [local go_sem] Oper.semAt_some

/-- What has come of a table's writes. -/
structure Gath (T : List Wr) (left : Lit → Bool) (xs : List Wr) : Prop where
  nodup : xs.Nodup
  mem : ∀ p ∈ xs, p ∈ T
  left : ∀ p ∈ T, (left (.string p.1) = false ↔ p ∈ xs)

theorem srt_nodup {T : List Wr} (h : SrtW T) : T.Nodup := by
  unfold SrtW at h
  exact List.Pairwise.imp (fun h e => less_ne h (congrArg Wr.key e)) h
theorem srt_key {T : List Wr} (h : SrtW T) {p q : Wr} (hp : p ∈ T) (hq : q ∈ T) (e : p.1 = q.1) : p = q := by
  have h1 := getW_of_mem h hp
  rw [e, getW_of_mem h hq] at h1
  injection h1 with h1
  exact h1.symm
theorem Gath.start {T : List Wr} {left : Lit → Bool} (h : ∀ p ∈ T, left (.string p.1) = true) : Gath T left [] :=
  ⟨List.nodup_nil, (fun _ h => by cases h), fun p hp => ⟨(fun e => by rw [h p hp] at e; cases e), (fun e => by cases e)⟩⟩
theorem Gath.step {T xs : List Wr} {left : Lit → Bool} (h : Gath T left xs) (hs : SrtW T) {c : Wr} (hc : c ∈ T) (hl : left (.string c.1) = true) : Gath T (fun z => left z && !z.sameKey (.string c.1)) (xs ++ [c]) := by
  have hn : c ∉ xs := fun e => by rw [(h.left c hc).2 e] at hl; cases hl
  refine ⟨?_, fun p hp => ?_, fun p hp => ?_⟩
  · rw [List.nodup_append]
    exact ⟨h.nodup, by simp, fun a ha b hb e => by rw [List.mem_singleton.1 hb] at e; exact hn (e ▸ ha)⟩
  · rcases List.mem_append.1 hp with hp | hp
    · exact h.mem p hp
    · rw [List.mem_singleton.1 hp]; exact hc
  · have hk : (Lit.string p.1).sameKey (.string c.1) = decide (p.1 = c.1) := by
      show (p.1 == c.1) = _
      by_cases e : p.1 = c.1
      · simp [e]
      · rw [decide_eq_false e]; simpa using e
    simp only [hk]
    by_cases e : p.1 = c.1
    · have := srt_key hs hp hc e
      subst this
      simp
    · have hne : p ≠ c := fun e2 => e (by rw [e2])
      simp only [e, decide_false, Bool.not_false, Bool.and_true, List.mem_append, List.mem_singleton, hne, or_false]
      exact h.left p hp
theorem Gath.all {T xs : List Wr} {left : Lit → Bool} (h : Gath T left xs) (hs : SrtW T) (hl : ∀ z, left z = false) : xs.Perm T :=
  (List.perm_ext_iff_of_nodup h.nodup (srt_nodup hs)).2 fun p => ⟨h.mem p, fun hp => (h.left p hp).1 (hl _)⟩

/-- An entry of the map is a write of the table's. -/
theorem wr_entry {T : List Wr} {D : DataW Unit} (hat : ∀ x, wrK.ok x → ∀ z, D.atKey (wrK.lit x) z = ((getW T x).map wrK.dat).getD z) {x : List UInt8} {c : Wr} {y : DataW Unit × List MemPlace} (hx : x.length ≤ maxLen) (hy : wrR (wrV c) = some y) (hd : ∀ z, D.atKey (.string x) z = y.1) : c ∈ T ∧ c.1 = x := by
  rw [wrR_val] at hy
  injection hy with hy
  subst hy
  cases hq : getW T x with
  | none =>
    have h1 := hat x hx (.lit (.bool true))
    have h2 := hat x hx (.lit (.bool false))
    rw [hq] at h1 h2
    have e1 := (hd (.lit (.bool true))).symm.trans h1
    have e2 := (hd (.lit (.bool false))).symm.trans h2
    rw [e1] at e2
    cases e2
  | some p =>
    have h1 := hat x hx .nil
    rw [hq] at h1
    have e1 : wrD c = wrD p := (hd .nil).symm.trans h1
    have e2 := wrD_inj e1
    subst e2
    exact ⟨getW_mem hq, getW_key hq⟩

set_option maxRecDepth 100000 in
set_option maxHeartbeats 3200000 in
theorem vals_gives (Bm b : Nat) (T : List Wr) (w : World) (hBm : Bm < w.heap.size) (hm : w.cell? ⟨Bm, 0, none⟩ = some (.map (some b))) (h : TabM w b T) (n : Nat) (hn : 1 ≤ n) :
    SeqGives Fence.wide n Try.prog 68 #[.pointer (some ⟨Bm, 0, none⟩)] wrV (fun xs => xs.Perm T) T.length w := fun l J W hW hJ hY h0 => by
  have hM := h.below hW
  have hm2 := (hW.cell (p := ⟨Bm, 0, none⟩) hBm).trans hm
  obtain ⟨⟨D, hown, hsz, hat⟩, hs, _, _⟩ := hM
  have HAT := Lib.hid hat
  have HS := Lib.hid hs
  have HY := Lib.hid hY
  have HJ := Lib.hid hJ
  have H0 := Lib.hid h0
  have HST : Hid (Gath T (Maps.has D) []) := Gath.start fun p hp => by
    have := MapF.has (M := wrK) (hat p.1 (h.2.2.2 p hp).key)
    rw [getW_of_mem hs hp] at this
    exact this
  clear hat hs hY hJ h0 h hW hm
  refine callsIn_of_wp Try.func68 rfl trivial ?_ rfl
  simp only [Try.ntmps68, List.size_toArray, List.length_cons, List.length_nil, Nat.reduceAdd, Nat.reduceSub, Array.replicate_succ, Array.replicate_zero, List.push_toArray, List.append_toArray, List.nil_append, List.cons_append]
  gi_wp2_with (first
    | (gi_at_range; refine wpListIn_range_own _ rfl _ 61 rfl 9 29 wrK.law wrK.under wrR b T.length _ rfl hown ?_; intro w0 hrg0 hg0 hs0)
    | gi_in)
  go_frame
  gi_loopw [4] (fun _ wr => ∃ (left : Lit → Bool) (cnt : Nat) (xs : List Wr), wr.ranges Try.prog 9 wrR b W.heap.size T.length D left cnt ∧ Hid (xs.length + cnt ≤ T.length) ∧ Hid (Gath T left xs) ∧ Hid (J xs wr)) (fun _ wr => wr.rangeLeft b W.heap.size)
  case atStart =>
    exact ⟨_, _, [], hrg0, by unfold Hid; rw [hsz]; simp, HST.out, HJ.out [] W w0 none H0.out hg0 (fun r e => by cases e)⟩
  case round =>
    obtain ⟨left, cnt, xs, hrg, hcs, hC, hJs⟩ := hrel
    gi_wp2_with (first
      | (gi_at_next; refine wpListIn_next_ranges _ rfl _ rfl 9 wrK.law wrR encStr wrV (fun key kl hk => by obtain ⟨x, hx, _⟩ := Maps.keyOf_str Try.underlying9 hk; exact ⟨x, hx⟩) (fun v y hv => by obtain ⟨c, rfl, _⟩ := wrR_inv hv; exact ⟨c, rfl⟩) b W.heap.size T.length _ _ _ rfl hrg ?_ ?_)
      | gi_in)
    · intro hc0 hl0
      gi_wp2
      go_end0
      exact ⟨⟨_, rfl⟩, xs, hC.out.all HS.out hl0, hJs.out⟩
    · intro x c kl yd yp w2 cnt2 hkey hlk hv hat2 hrg2 hlt hg2 hs2 hen
      obtain ⟨x', ex, rfl, hwx⟩ := Maps.keyOf_str Try.underlying9 hkey
      obtain rfl : x = x' := encStr_inj ex
      obtain ⟨hcT, hcx⟩ := wr_entry HAT.out hwx hv hat2
      subst hcx
      have hC2 := Lib.hid (hC.out.step HS.out hcT hlk)
      have hcs2 : Hid (xs.length + 1 + cnt2 ≤ T.length) := by have := hcs.out; unfold Hid; omega
      have hJ2 : J xs w2 := HJ.out xs wr w2 (some W.heap.size) hJs.out hg2 (fun r e => by injection e with e; subst e; exact ⟨Nat.le_refl _, hrg.iter_walk⟩)
      have hJ3 : J xs (w2.alloc (.cells #[.string ⟨c.1.toArray⟩, .string ⟨c.2.1.toArray⟩, .bool c.2.2] 29)) := HJ.out xs w2 _ none hJ2 (World.grownBy_alloc _ _ _) (fun r e => by cases e)
      obtain ⟨fn, tmps, assign, body, hy, hR⟩ := HY.out xs c _ hJ3 (by have := hcs2.out; omega)
      have HR := Lib.hid hR
      have hms : Hid (w2.rangeLeft b W.heap.size < wr.rangeLeft b W.heap.size) := by unfold Hid; rw [hrg2.left_eq, hrg.left_eq]; omega
      have HRG := Lib.hid (hrg2.of_walks (KeepsWalks.alloc _ (.cells #[.string ⟨c.1.toArray⟩, .string ⟨c.2.1.toArray⟩, .bool c.2.2] 29)))
      have HRG2 := Lib.hid hrg2
      clear hs2 hR hJ2 hJ3 hv hat2 hkey hlk hcT hrg hrg2 hcs hC hJs hg2 hlt
      unfold wrV at hy hen ⊢
      gi_wp2
      refine HR.out.mono ?_
      rintro e W3 ⟨rfl, hJ3, hk3⟩
      have HJ3 := Lib.hid hJ3
      have hrg3 := HRG.out.of_walks hk3
      have hm3 : Hid (W3.rangeLeft b W.heap.size < wr.rangeLeft b W.heap.size) := by
        have h1 := hrg3.left_eq
        have h2 := HRG2.out.left_eq
        have h3 := hms.out
        unfold Hid
        omega
      have HRG3 := Lib.hid hrg3
      clear hJ3 hk3 hrg3 HRG HRG2 HR hms
      gi_wp2
      go_roundw
      case rel => exact ⟨_, cnt2, xs ++ [c], HRG3.out, (by have := hcs2.out; unfold Hid; rw [List.length_append, List.length_singleton]; exact this), hC2, HJ3⟩
      case measure => exact hm3.out

set_option maxRecDepth 100000 in
set_option maxHeartbeats 1600000 in
theorem vals_nil (Bm : Nat) (w : World) (hBm : Bm < w.heap.size) (hm : w.cell? ⟨Bm, 0, none⟩ = some (.map none)) (n : Nat) :
    SeqGives Fence.wide n Try.prog 68 #[.pointer (some ⟨Bm, 0, none⟩)] wrV (fun xs => xs.Perm []) 0 w := fun l J W hW hJ _ h0 => by
  have hm2 := (hW.cell (p := ⟨Bm, 0, none⟩) hBm).trans hm
  have h1 := hJ [] W (W.alloc (.mapIter none 0 #[] 0)) none h0 (World.grownBy_alloc W _ none) (fun r e => by cases e)
  have H1 := Lib.hid h1
  clear hJ h0 hW h1
  refine callsIn_of_wp Try.func68 rfl trivial ?_ rfl
  simp only [Try.ntmps68, List.size_toArray, List.length_cons, List.length_nil, Nat.reduceAdd, Nat.reduceSub, Array.replicate_succ, Array.replicate_zero, List.push_toArray, List.append_toArray, List.nil_append, List.cons_append]
  have hrg := run_range_nilMap (P := Try.prog) W 61 9 29 Try.underlying61
  have hnx : ∀ ty, (Instr.next (.pointer (some ⟨W.heap.size, 0, none⟩)) false ty).run Try.prog (W.alloc (.mapIter none 0 #[] 0)) = _ := fun ty => run_next_nilMap _ ty 0 0 #[]
  gi_wp2
  refine wpIn_loop_rounds 1 ?_
  rw [roundsIn_succ]
  gi_wp2
  go_end0
  exact ⟨⟨_, rfl⟩, [], List.Perm.refl _, H1.out⟩

end Go.Proofs.Ytcliknmcefcaeaa.Cd
