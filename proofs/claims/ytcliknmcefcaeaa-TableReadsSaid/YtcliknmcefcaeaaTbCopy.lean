/-
  maps.Copy of a table's map onto another one. Conditions: not too many; two blocks.
-/
import Derived.Test.YtcliknmcefcaeaaTbSeq
import Derived.Maps.RangeWalk
import Derived.Laws.IdiomRangeMap
namespace Go.Proofs.Ytcliknmcefcaeaa.Cd
open Go.RowKit Go.Maps Go.Shelf Go.Sort

theorem find_perm {l T : List Wr} (hs : SrtW T) (hp : l.Perm T) (k : List UInt8) : (l.find? fun w => w.1 == k) = getW T k := by
  cases hg : getW T k with
  | none =>
    rw [List.find?_eq_none]
    intro x hx
    have := getW_none.1 hg x (hp.mem_iff.1 hx)
    simpa using this
  | some w =>
    have hk := getW_key hg
    have hm := hp.mem_iff.2 (getW_mem hg)
    cases hf : l.find? (fun w => w.1 == k) with
    | none =>
      have := List.find?_eq_none.1 hf w hm
      simp [hk] at this
    | some x =>
      have hx := hp.mem_iff.1 (List.mem_of_find?_eq_some hf)
      have hxk : x.1 = k := by simpa using List.find?_some hf
      have := getW_of_mem hs hx
      rw [hxk, hg] at this
      exact this.symm
/-- In whatever order a table's writes are put in, the same stands behind them. -/
theorem from_perm {t l T : List Wr} (ht : SrtW t) (hs : SrtW T) (hp : l.Perm T) : ofFrom t l = ofFrom t T :=
  srt_ext (ofFrom_srt ht l) (ofFrom_srt ht T) fun k => by
    rw [getW_from, getW_from, find_perm hs ((List.reverse_perm l).trans hp), find_perm hs (List.reverse_perm T)]

set_option maxRecDepth 100000 in
set_option maxHeartbeats 3200000 in
theorem copy_tb (bd bs : Nat) (Td Ts : List Wr) (w : World) (hd : TabM w bd Td) (hs : TabM w bs Ts) (hne : bd ≠ bs) (hl : Td.length + Ts.length ≤ 1099511627776) :
    Calls Try.prog 43 #[.map (some bd), .map (some bs)] w fun e w' => e = .returned (.tuple #[]) ∧ TabM w' bd (ofFrom Td Ts) ∧ w.grownBy w' (some bd) := by
  have hbd := hd.lt
  have hbs := hs.lt
  have HD := Lib.hid hd
  have HSM := Lib.hid hs
  obtain ⟨⟨D, hown, hsz, hat⟩, hsr, hfl, hft⟩ := hs
  have HAT := Lib.hid hat
  have HS := Lib.hid hsr
  have HFL := Lib.hid hfl
  have HFT := Lib.hid hft
  have HST : Hid (Gath Ts (Maps.has D) []) := Gath.start fun p hp => by
    have := MapF.has (M := wrK) (hat p.1 (hft p hp).key)
    rw [getW_of_mem hsr hp] at this
    exact this
  clear hat hsr hfl hft hd
  go_enter Try.func43, Try.ntmps43
  go_wp2_with (at_range; refine wpList_range_own _ rfl _ 61 rfl 9 29 wrK.law wrK.under wrR bs Ts.length D rfl hown ?_; intro w0 hrg0 hg0 hs0)
  go_frame
  have hM0 := Lib.hid (HD.out.grown hg0 (by simp))
  have hG0 : Hid (w.grownBy w0 (some bd)) := hg0.but _
  have hsz0 : Hid (Maps.size D = Ts.length) := hsz
  clear hs0 hsz hg0
  go_loopw [4, 5] (fun _ _ wr => ∃ (left : Lit → Bool) (cnt : Nat) (xs : List Wr), wr.ranges Try.prog 9 wrR bs w.heap.size Ts.length D left cnt ∧ Hid (xs.length + cnt ≤ Ts.length) ∧ Hid (Gath Ts left xs) ∧ Hid (TabM wr bd (ofFrom Td xs)) ∧ Hid (w.grownBy wr (some bd))) (fun _ _ wr => wr.rangeLeft bs w.heap.size)
  case atStart => exact ⟨_, _, [], hrg0, by unfold Hid; rw [hsz0.out]; simp, HST.out, hM0.out, hG0.out⟩
  case round =>
    obtain ⟨left, cnt, xs, hrg, hcs, hC, hMx, hG⟩ := hrel
    go_wp2_with (at_next; refine wpList_next_ranges _ rfl _ rfl 9 wrK.law wrR encStr wrV (fun key kl hk => by obtain ⟨x, hx, _⟩ := Maps.keyOf_str Try.underlying9 hk; exact ⟨x, hx⟩) (fun v y hv => by obtain ⟨c, rfl, _⟩ := wrR_inv hv; exact ⟨c, rfl⟩) bs w.heap.size Ts.length _ _ _ rfl hrg ?_ ?_)
    · intro hc0 hl0
      have hxs := hC.out.all HS.out hl0
      have hfin : Hid (TabM wr bd (ofFrom Td Ts)) := by unfold Hid; rw [← from_perm HD.out.2.1 HS.out hxs]; exact hMx.out
      clear hxs hMx
      go_wp2_with fail
      go_end0
      exact ⟨rfl, hfin.out, hG.out⟩
    · intro x c kl yd yp w2 cnt2 hkey hlk hv hat2 hrg2 hlt hg2 hs2 hen
      obtain ⟨x', ex, rfl, hwx⟩ := Maps.keyOf_str Try.underlying9 hkey
      obtain rfl : x = x' := encStr_inj ex
      obtain ⟨hcT, hcx⟩ := wr_entry HAT.out hwx hv hat2
      subst hcx
      have hC2 := Lib.hid (hC.out.step HS.out hcT hlk)
      have hcs2 : Hid (xs.length + 1 + cnt2 ≤ Ts.length) := by have := hcs.out; unfold Hid; omega
      have hz : w.heap.size ≤ wr.heap.size := hG.out.size
      have hM2 := hMx.out.grown hg2 (fun e => by injection e with e; omega)
      have hb3 : Below w2.heap.size w2 (w2.alloc (.cells #[.string ⟨c.1.toArray⟩, .string ⟨c.2.1.toArray⟩, .bool c.2.2] 29)) := (Below.refl _ _).alloc (Nat.le_refl _) _
      have hln : (ofFrom Td xs).length < maxLen := by have := ofFrom_len HD.out.2.1 xs; have := hcs2.out; simp only [maxLen]; omega
      obtain ⟨w4, hrun4, hm4, hg4⟩ := (hM2.below hb3).put hln c (HFL.out c hcT) (HFT.out c hcT)
      have hsn : Hid (ofFrom Td (xs ++ [c]) = insW (ofFrom Td xs) c) := by unfold Hid; rw [ofFrom_snoc, HFL.out c hcT]
      have hgg : Hid (w.grownBy w4 (some bd)) := ((hG.out.andThen hg2 (fun j e => by injection e with e; exact .inl (by omega))).andThen (World.grownBy_alloc w2 _ none) (fun j e => by cases e)).andThen hg4 (fun j e => .inr e)
      have hrg4 := (hrg2.kept (World.grownBy_alloc w2 (.cells #[.string ⟨c.1.toArray⟩, .string ⟨c.2.1.toArray⟩, .bool c.2.2] 29) none) (by simp) (by simp)).kept hg4 (fun e => by injection e with e; omega) (fun e => by injection e with e; omega)
      have hms : Hid (w4.rangeLeft bs w.heap.size < wr.rangeLeft bs w.heap.size) := by unfold Hid; rw [hrg4.left_eq, hrg.left_eq]; exact hlt
      have HM4 := Lib.hid hm4
      have HRG4 := Lib.hid hrg4
      clear hs2 hv hat2 hkey hlk hcT hrg hrg2 hcs hC hMx hG hg2 hlt hM2 hb3 hm4 hg4 hrg4 hln
      unfold wrV at hen ⊢
      go_wp2_with fail
      go_roundw
      case rel => exact ⟨_, cnt2, xs ++ [c], HRG4.out, (by have := hcs2.out; unfold Hid; rw [List.length_append, List.length_singleton]; exact this), hC2, (by rw [hsn.out]; exact HM4.out), hgg⟩
      case measure => exact hms.out

set_option maxRecDepth 100000 in
set_option maxHeartbeats 1600000 in
theorem copy_nil (pd : Option Nat) (w : World) :
    Calls Try.prog 43 #[.map pd, .map none] w fun e w' => e = .returned (.tuple #[]) ∧ w' = w.alloc (.mapIter none 0 #[] 0) := by
  have hrg := run_range_nilMap (P := Try.prog) w 61 9 29 Try.underlying61
  have hnx : ∀ ty, (Instr.next (.pointer (some ⟨w.heap.size, 0, none⟩)) false ty).run Try.prog (w.alloc (.mapIter none 0 #[] 0)) = _ := fun ty => run_next_nilMap _ ty 0 0 #[]
  go_enter Try.func43, Try.ntmps43
  go_wp2_with fail
  refine wp_loop_rounds 1 ?_
  rw [rounds_succ]
  go_wp2_with fail
  go_end0
  exact ⟨rfl, rfl⟩

end Go.Proofs.Ytcliknmcefcaeaa.Cd
