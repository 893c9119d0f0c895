/-
  One side of the program's disk: counts and pages by file number. Conditions: none.
-/
import Derived.Test.YtbepanhndpkdhaaMaps
namespace Go.Proofs.Ytbepanhndpkdhaa.Cd
open Go.RowKit

abbrev Pages := Nat → List (List UInt8)
/-- Pages by place. -/
def lst (pg : Pages) : Nat × Int → Option (List UInt8) := fun x => if 0 ≤ x.2 then (pg x.1)[x.2.toNat]? else none
def setF (pg : Pages) (f : Nat) (l : List (List UInt8)) : Pages := fun g => if g = f then l else pg g
theorem setF_same (pg : Pages) (f : Nat) (l : List (List UInt8)) : setF pg f l f = l := if_pos rfl
theorem setF_other (pg : Pages) {f g : Nat} (h : g ≠ f) (l : List (List UInt8)) : setF pg f l g = pg g := if_neg h
theorem setF_self (pg : Pages) (f : Nat) : setF pg f (pg f) = pg := by
  funext g
  unfold setF
  split
  · rename_i e; rw [e]
  · rfl
theorem setF_twice (pg : Pages) (f : Nat) (l m : List (List UInt8)) : setF (setF pg f l) f m = setF pg f m := by
  funext g
  unfold setF
  split <;> rfl

/-- The blocks bc and bp are one side: the pages pg, n in all; at most k counts. -/
structure Side (w : World) (bc bp : Nat) (pg : Pages) (n k : Nat) : Prop where
  cnt : ∃ q j, MapF cntK w bc j q ∧ j ≤ k ∧ ∀ f, f ≤ lim → (q f).getD 0 = (pg f).length
  pgs : MapF pgK w bp n (lst pg)
  ne : bc ≠ bp

theorem Side.heap {w w' : World} {bc bp n k : Nat} {pg : Pages} (h : Side w bc bp pg n k) (h1 : w'.heap[bc]? = w.heap[bc]?) (h2 : w'.heap[bp]? = w.heap[bp]?) : Side w' bc bp pg n k := by
  obtain ⟨⟨q, j, r1, r2, r3⟩, r4, r5⟩ := h
  exact ⟨⟨q, j, r1.heap h1, r2, r3⟩, r4.heap h2, r5⟩
theorem Side.lt {w : World} {bc bp n k : Nat} {pg : Pages} (h : Side w bc bp pg n k) : bc < w.heap.size ∧ bp < w.heap.size := by
  obtain ⟨⟨q, j, r1, r2, r3⟩, r4, r5⟩ := h
  exact ⟨r1.lt, r4.lt⟩
theorem Side.apart {w w' : World} {S : Nat → Prop} {bc bp n k : Nat} {pg : Pages} (h : Side w bc bp pg n k) (hg : Apart S w w') (h1 : ¬ S bc) (h2 : ¬ S bp) : Side w' bc bp pg n k :=
  h.heap (hg.block bc h.lt.1 h1) (hg.block bp h.lt.2 h2)
theorem Side.below {w w' : World} {B : Nat} {bc bp n k : Nat} {pg : Pages} (h : Side w bc bp pg n k) (hg : Below B w w') (h1 : bc < B) (h2 : bp < B) : Side w' bc bp pg n k :=
  h.heap (hg.block bc h1) (hg.block bp h2)
theorem Side.mono {w : World} {bc bp n k k' : Nat} {pg : Pages} (h : Side w bc bp pg n k) (hk : k ≤ k') : Side w bc bp pg n k' := by
  obtain ⟨⟨q, j, r1, r2, r3⟩, r4, r5⟩ := h
  exact ⟨⟨q, j, r1, by omega, r3⟩, r4, r5⟩

/-- Two blocks. -/
def two (a b : Nat) : Nat → Prop := fun k => k = a ∨ k = b

theorem Apart.step {S : Nat → Prop} {w w1 w2 : World} {r : Option Nat} (h : Apart S w w1) (k : w1.grownBy w2 r) (hr : ∀ j, r = some j → S j ∨ w.heap.size ≤ j) : Apart S w w2 :=
  ⟨k.os.trans h.os, k.tape.trans h.tape, k.output.trans h.output, Nat.le_trans h.size k.size, fun i hi hn =>
    (k.block i (Nat.lt_of_lt_of_le hi h.size) (fun e => by rcases hr i e.symm with h1 | h1; exact hn h1; omega)).trans (h.block i hi hn)⟩
theorem Apart.alloc {S : Nat → Prop} {w w1 : World} (h : Apart S w w1) (o : Obj) : Apart S w (w1.alloc o) := h.step (World.grownBy_alloc w1 o none) (fun _ e => by cases e)
theorem Apart.drew {S : Nat → Prop} {w w1 : World} (h : Apart S w w1) : Apart S w w1.drew := ⟨h.os, h.tape, h.output, h.size, h.block⟩

theorem upd_place (pg : Pages) (f i : Nat) (p : List UInt8) (h : i ≤ (pg f).length) : upd (lst pg) (f, (i : Int)) (some p) = lst (setF pg f (setP (pg f) i p)) := by
  funext ⟨g, j⟩
  unfold upd lst setF
  by_cases hj : 0 ≤ j
  · obtain ⟨j, rfl⟩ := Int.eq_ofNat_of_zero_le hj
    by_cases hg : g = f
    · subst hg
      simp only [Prod.mk.injEq, true_and, if_true, Int.natCast_nonneg, Int.toNat_natCast]
      by_cases e : j = i
      · subst e
        rw [if_pos rfl, List.getElem?_eq_getElem (by rw [setP_len]; omega)]
        unfold setP
        simp
      · rw [if_neg (by omega)]
        unfold setP
        rw [List.getElem?_set_ne (fun h2 => e h2.symm)]
        by_cases hlt : j < (pg g).length
        · rw [List.getElem?_append_left hlt]
        · rw [List.getElem?_eq_none (by omega), List.getElem?_eq_none (by simp; omega)]
    · simp [hg]
  · have h1 : ¬ (g, j) = (f, (i : Int)) := by intro e; injection e with _ e; omega
    simp only [h1, hj, if_false]

theorem lst_some (pg : Pages) (f i : Nat) : (lst pg (f, (i : Int))).isSome = decide (i < (pg f).length) := by
  unfold lst
  simp only [Int.natCast_nonneg, if_true, Int.toNat_natCast]
  by_cases h : i < (pg f).length
  · simp [h]
  · simp [h]

theorem setP_more (l : List (List UInt8)) (j : Nat) (h : l.length ≤ j) : setP (l ++ List.replicate (j - l.length) nought) j nought = l ++ List.replicate (j + 1 - l.length) nought := by
  have : (l ++ List.replicate (j - l.length) nought).length = j := by simp; omega
  have h2 := setP_end (l ++ List.replicate (j - l.length) nought) nought
  rw [this] at h2
  rw [h2, List.append_assoc, ← List.replicate_succ', show j - l.length + 1 = j + 1 - l.length by omega]
theorem setP_over (l : List (List UInt8)) (i j : Nat) (p : List UInt8) (h : l.length ≤ j) (hj : j ≤ max l.length i) (hi : i ≤ j) : setP (l ++ List.replicate (j - l.length) nought) i p = setP l i p := by
  unfold setP
  rw [List.append_assoc, List.replicate_append_replicate]
  congr 3
  simp
  omega

/-- A write as cells. -/
def wv (f i : Nat) (p : List UInt8) : Array Value := (.int .i64 f :: .int .i64 i :: vb p).toArray
theorem wv_size (f i : Nat) {p : List UInt8} (h : p.length = 512) : (wv f i p).size = 514 := by simp [wv, vb, h]

/-- What side.put leaves. -/
def SidePut (bc bp : Nat) (f i : Nat) (p : List UInt8) (pg : Pages) (n k : Nat) (w : World) (e : Ending) (w' : World) : Prop :=
  e = .returned (.tuple #[]) ∧ Side w' bc bp (setF pg f (setP (pg f) i p)) (n + (i + 1 - (pg f).length)) (k + 1) ∧ Apart (two bc bp) w w'

theorem cnt_store {q : Nat → Option Nat} {pg : Pages} {f c : Nat} {l : List (List UInt8)} (h : ∀ g, g ≤ lim → (q g).getD 0 = (pg g).length) (hc : c = l.length) : ∀ g, g ≤ lim → (upd q f (some c) g).getD 0 = (setF pg f l g).length := by
  intro g hg
  unfold upd setF
  split
  · exact hc
  · exact h g hg

set_option maxRecDepth 100000 in
set_option maxHeartbeats 1600000 in
theorem sideput_any (bc bp f i : Nat) (p : List UInt8) (pg : Pages) (n k : Nat) (w : World) (h : Side w bc bp pg n k) (hp : p.length = 512) (hf : f ≤ lim) (hi : i ≤ 1048576) (hL : (pg f).length ≤ 1048576)
    (hn : n ≤ lim) (hk : k ≤ lim) : Calls Try.prog 66 #[.agg #[.map (some bc), .map (some bp)], .agg (wv f i p)] w (SidePut bc bp f i p pg n k w) := by
  have hlt := h.lt
  obtain ⟨⟨q, j0, hcnt, hjk, hq⟩, hpg, hne⟩ := h
  have HC := Lib.hid hcnt
  have HP := Lib.hid hpg
  have HQ := Lib.hid hq
  have hql := hq f hf
  obtain ⟨C, hC⟩ : ∃ C, wv f i p = C := ⟨_, rfl⟩
  rw [hC]
  have hsz : C.size = 514 := by rw [← hC]; exact wv_size f i hp
  have h0 : C[0] = .int .i64 f := by subst hC; rfl
  have h1 : C[1] = .int .i64 i := by subst hC; rfl
  clear hcnt hpg hq
  unfold lim at hf hn hk
  have HCC := Lib.hid hC
  clear hC
  go_enter Try.func66, Try.ntmps66
  have hl0 := cnt_look ((HC.out.alloc (.cells #[.map (some bc), .map (some bp)] 70)).alloc (.cells C 107)) hf hql
  go_wp2_with fail
  have e1 : ((w.alloc (.cells #[.map (some bc), .map (some bp)] 70)).alloc (.cells C 107)).heap[w.heap.size]? = some (.cells #[.map (some bc), .map (some bp)] 70) := by
    rw [Below.heap_alloc _ _ _ (by simp)]
    exact heap_alloc_new _ _
  have e2 : ((w.alloc (.cells #[.map (some bc), .map (some bp)] 70)).alloc (.cells C 107)).heap[w.heap.size + 1]? = some (.cells C 107) := by
    have := heap_alloc_new (w.alloc (.cells #[.map (some bc), .map (some bp)] 70)) (.cells C 107)
    rwa [asz] at this
  have hA : Apart (two bc bp) w ((w.alloc (.cells #[.map (some bc), .map (some bp)] 70)).alloc (.cells C 107)) := ((Apart.refl _ w).alloc _).alloc _
  have hP := (HP.out.alloc (.cells #[.map (some bc), .map (some bp)] 70)).alloc (.cells C 107)
  have hC2 := (HC.out.alloc (.cells #[.map (some bc), .map (some bp)] 70)).alloc (.cells C 107)
  have hsw : ((w.alloc (.cells #[.map (some bc), .map (some bp)] 70)).alloc (.cells C 107)).heap.size = w.heap.size + 2 := by simp
  clear hl0
  generalize (w.alloc (.cells #[.map (some bc), .map (some bp)] 70)).alloc (.cells C 107) = w2 at *
  have E1 := Lib.hid e1
  have E2 := Lib.hid e2
  have HA := Lib.hid hA
  have HP2 := Lib.hid hP
  have HC2 := Lib.hid hC2
  clear e1 e2 hA hP hC2 HP HC
  generalize hl : (pg f).length = L at *
  go_loopw [4] (fun a wr => ∃ j, a = .int .i64 (j : Nat) ∧ L ≤ j ∧ j ≤ max L i ∧ Hid (MapF pgK wr bp (n + (j - L)) (lst (setF pg f (pg f ++ List.replicate (j - L) nought)))) ∧ Hid (w2.grownBy wr (some bp))) (fun a _ => i - (intOf a).toNat)
  case atStart => exact ⟨L, rfl, Nat.le_refl _, by omega, by rw [Nat.sub_self, List.replicate_zero, List.append_nil, setF_self]; exact HP2.out, ⟨rfl, rfl, rfl, Nat.le_refl _, fun _ _ _ => rfl⟩⟩
  case round =>
    obtain ⟨j, rfl, hj1, hj2, hp2, hg⟩ := hrel
    have b1 : Hid (wr.heap[w.heap.size]? = some (.cells #[.map (some bc), .map (some bp)] 70)) := (hg.out.block w.heap.size (by omega) (by simp; omega)).trans E1.out
    have b2 : Hid (wr.heap[w.heap.size + 1]? = some (.cells C 107)) := (hg.out.block (w.heap.size + 1) (by omega) (by simp; omega)).trans E2.out
    have c0 : wr.cell? ⟨w.heap.size, 0, none⟩ = some (.map (some bc)) := cell_of_row _ _ _ _ _ _ b1.out
    have c1 : wr.cell? ⟨w.heap.size, 1, none⟩ = some (.map (some bp)) := cell_of_row _ _ _ _ _ _ b1.out
    have d0 : wr.cell? ⟨w.heap.size + 1, 0, none⟩ = some (.int .i64 f) := (cell_of_row _ _ _ _ _ _ b2.out).trans (by rw [← h0]; simp [hsz])
    have d1 : wr.cell? ⟨w.heap.size + 1, 1, none⟩ = some (.int .i64 i) := (cell_of_row _ _ _ _ _ _ b2.out).trans (by rw [← h1]; simp [hsz])
    by_cases hlt : j < i
    · have hlti : (j : Int) < i := by omega
      have hst : lst (setF pg f (pg f ++ List.replicate (j - L) nought)) (f, (j : Int)) = none := by
        have := lst_some (setF pg f (pg f ++ List.replicate (j - L) nought)) f j
        rw [setF_same, List.length_append, hl, List.length_replicate, decide_eq_false (by omega)] at this
        simpa using this
      have hup : upd (lst (setF pg f (pg f ++ List.replicate (j - L) nought))) (f, (j : Int)) (some nought) = lst (setF pg f (pg f ++ List.replicate (j + 1 - L) nought)) := by
        rw [upd_place _ _ _ _ (by rw [setF_same, List.length_append, hl, List.length_replicate]; omega), setF_same, setF_twice, ← hl, setP_more _ _ (by omega)]
      have HST := Lib.hid hst
      have HUP := Lib.hid hup
      clear hst hup
      go_wp2_with (first | (refine wp_store pgK rfl _ _ _ rfl bp _ _ rfl hp2.out (by unfold maxLen; omega) (f, (j : Int)) rfl ⟨by unfold lim; omega, WalkArith.wf_i64 (by omega)⟩ nought (by rw [zero_page]; rfl) List.length_replicate (n + (j + 1 - L)) (by rw [HST.out]; simp; omega) ?hK) | fail)
      intro w3 hp3 hg3
      rw [HUP.out] at hp3
      have HP3 := Lib.hid hp3
      have HG3 := Lib.hid hg3
      clear hp3 hg3
      go_wp2_with fail
      go_roundw
      case rel => exact ⟨j + 1, by go_num, by omega, by omega, HP3.out, hg.out.trans HG3.out⟩
      case measure => simp [intOf]; omega
    · have hge : (i : Int) ≤ j := by omega
      have hup : upd (lst (setF pg f (pg f ++ List.replicate (j - L) nought))) (f, (i : Int)) (some p) = lst (setF pg f (setP (pg f) i p)) := by
        rw [upd_place _ _ _ _ (by rw [setF_same, List.length_append, hl, List.length_replicate]; omega), setF_same, setF_twice, ← hl, setP_over _ _ _ _ (by omega) (by omega) (by omega)]
      have hq2 : (n + (j - L) + if (lst (setF pg f (pg f ++ List.replicate (j - L) nought)) (f, (i : Int))).isSome = true then 0 else 1) = n + (i + 1 - L) := by
        rw [lst_some, setF_same, List.length_append, hl, List.length_replicate]
        by_cases e : i < L + (j - L)
        · rw [if_pos (by simpa using e)]; omega
        · rw [if_neg (by simpa using e)]; omega
      have HUP := Lib.hid hup
      have HQ2 := Lib.hid hq2
      have r0 : Hid (wr.rangeAt (w.heap.size + 1) 0 [.int .i64 f, .int .i64 i]) := fun o v hv => by
        rw [Nat.zero_add]
        match o with
        | 0 => injection hv with hv; rw [← hv]; exact d0
        | 1 => injection hv with hv; rw [← hv]; exact d1
        | o + 2 => cases hv
      have r2 : Hid (wr.rangeAt (w.heap.size + 1) 2 (vb p)) := fun o v hv => by
        rw [cell_of_row _ _ _ _ _ _ b2.out, ← HCC.out]
        have := @List.getElem?_toArray _ (Value.int .i64 f :: Value.int .i64 i :: vb p) (2 + o)
        unfold wv
        rw [this, show 2 + o = o + 1 + 1 by omega, List.getElem?_cons_succ, List.getElem?_cons_succ]
        exact hv
      clear hup hq2
      go_wp2_with (first | (refine wpList_load_mid rfl 84 _ rfl (w.heap.size + 1) 0 rfl _ _ r0.out Try.underlying84 rfl (by kernel_rfl) ?_) | (refine wpList_load_mid rfl 81 _ rfl (w.heap.size + 1) 2 rfl _ _ r2.out Try.underlying81 rfl (by rw [vb_length, hp]; kernel_rfl) ?_) | (refine wp_store pgK rfl _ _ _ rfl bp _ _ rfl hp2.out (by unfold maxLen; omega) (f, (i : Int)) rfl ⟨by unfold lim; omega, WalkArith.wf_i64 (by omega)⟩ p rfl hp _ HQ2.out ?hK2) | fail)
      intro w3 hp3 hg3
      rw [HUP.out] at hp3
      have HP3 := Lib.hid hp3
      have hg2 := hg.out.trans hg3
      have HC3 := Lib.hid (HC2.out.grown hg2 (by simp; exact hne))
      have b3 : Hid (w3.heap[w.heap.size]? = some (.cells #[.map (some bc), .map (some bp)] 70)) := (hg2.block w.heap.size (by omega) (by simp; omega)).trans E1.out
      have b4 : Hid (w3.heap[w.heap.size + 1]? = some (.cells C 107)) := (hg2.block (w.heap.size + 1) (by omega) (by simp; omega)).trans E2.out
      have c2 : w3.cell? ⟨w.heap.size, 0, none⟩ = some (.map (some bc)) := cell_of_row _ _ _ _ _ _ b3.out
      have d2 : w3.cell? ⟨w.heap.size + 1, 0, none⟩ = some (.int .i64 f) := (cell_of_row _ _ _ _ _ _ b4.out).trans (by rw [← h0]; simp [hsz])
      have d3 : w3.cell? ⟨w.heap.size + 1, 1, none⟩ = some (.int .i64 i) := (cell_of_row _ _ _ _ _ _ b4.out).trans (by rw [← h1]; simp [hsz])
      have HG2 := Lib.hid hg2
      have hl3 := cnt_look HC3.out (f := f) (c := L) (by unfold lim; omega) (by rw [hql])
      have hj3 : j0 + (if (q f).isSome = true then 0 else 1) ≤ k + 1 := by split <;> omega
      obtain ⟨j4, hj4⟩ : ∃ j4, j0 + (if (q f).isSome = true then 0 else 1) = j4 := ⟨_, rfl⟩
      rw [hj4] at hj3
      have HJ4 := Lib.hid hj4
      have hlen : Hid ((setP (pg f) i p).length = max L (i + 1)) := by unfold Hid; rw [setP_len, hl]
      clear hp3 hg3 hg2 hj4
      by_cases hmx : i + 1 ≤ L
      · have hmx2 : (i : Int) + 1 ≤ L := by omega
        go_wp2_with (first | (refine wp_store cntK rfl _ _ _ rfl bc _ _ rfl HC3.out (by unfold maxLen; omega) f rfl (by unfold cntK lim; omega) L rfl trivial j4 HJ4.out ?hK3) | fail)
        intro w4 hc4 hg4
        have HC4 := Lib.hid hc4
        have HP4 := Lib.hid (HP3.out.grown hg4 (by simp; omega))
        have HA4 : Hid (Apart (two bc bp) w w4) := (HA.out.step HG2.out (fun x e => by injection e with e; exact .inl (.inr e.symm))).step hg4 (fun x e => by injection e with e; exact .inl (.inl e.symm))
        clear hc4 hg4
        go_wp2_with fail
        go_end0
        exact ⟨rfl, ⟨⟨_, j4, HC4.out, hj3, cnt_store HQ.out (by rw [hlen.out]; omega)⟩, (by rw [hl]; exact HP4.out), hne⟩, HA4.out⟩
      · have hmx2 : (L : Int) < (i : Int) + 1 := by omega
        go_wp2_with (first | (refine wp_store cntK rfl _ _ _ rfl bc _ _ rfl HC3.out (by unfold maxLen; omega) f rfl (by unfold cntK lim; omega) (i + 1) rfl trivial j4 HJ4.out ?hK4) | fail)
        intro w4 hc4 hg4
        have HC4 := Lib.hid hc4
        have HP4 := Lib.hid (HP3.out.grown hg4 (by simp; omega))
        have HA4 : Hid (Apart (two bc bp) w w4) := (HA.out.step HG2.out (fun x e => by injection e with e; exact .inl (.inr e.symm))).step hg4 (fun x e => by injection e with e; exact .inl (.inl e.symm))
        clear hc4 hg4
        go_wp2_with fail
        go_end0
        exact ⟨rfl, ⟨⟨_, j4, HC4.out, hj3, cnt_store HQ.out (by rw [hlen.out]; omega)⟩, (by rw [hl]; exact HP4.out), hne⟩, HA4.out⟩

end Go.Proofs.Ytbepanhndpkdhaa.Cd
