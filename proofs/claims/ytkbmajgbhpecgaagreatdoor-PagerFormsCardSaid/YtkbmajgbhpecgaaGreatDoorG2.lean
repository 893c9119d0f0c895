/-
  Rows of many cells: cells that are stored in one go, a page that is copied, a write that is appended. Conditions: none.
-/
import Derived.Test.YtkbmajgbhpecgaaGreatDoorG1
import Derived.Deep.WholeRow
import Derived.Maps.AppendAt
import Derived.Deep.RegionHeld3
import Derived.Deep.RegionLaw
/-
  One side of the program's disk: counts and pages by file number. Conditions: none.
-/
namespace Go.Proofs.YtkbmajgbhpecgaaGreatDoor.Cd
open Go.RowKit

abbrev Pages := Nat → List (List UInt8)
/-- Pages by place. -/
def lst (pg : Pages) : Nat × Int → Option (List UInt8) := fun x => if 0 ≤ x.2 then (pg x.1)[x.2.toNat]? else none
def setF (pg : Pages) (f : Nat) (l : List (List UInt8)) : Pages := fun g => if g = f then l else pg g
theorem setF_same (pg : Pages) (f : Nat) (l : List (List UInt8)) : setF pg f l f = l := if_pos rfl
theorem setF_other (pg : Pages) {f g : Nat} (h : g ≠ f) (l : List (List UInt8)) : setF pg f l g = pg g := if_neg h
theorem setF_self (pg : Pages) (f : Nat) : setF pg f (pg f) = pg := by
  funext g
  unfold setF
  split
  · rename_i e; rw [e]
  · rfl
theorem setF_twice (pg : Pages) (f : Nat) (l m : List (List UInt8)) : setF (setF pg f l) f m = setF pg f m := by
  funext g
  unfold setF
  split <;> rfl

/-- The blocks bc and bp are one side: the pages pg, n in all; at most k counts. -/
structure Side (w : World) (bc bp : Nat) (pg : Pages) (n k : Nat) : Prop where
  cnt : ∃ q j, MapF cntK w bc j q ∧ j ≤ k ∧ ∀ f, f ≤ lim → (q f).getD 0 = (pg f).length
  pgs : MapF pgK w bp n (lst pg)
  ne : bc ≠ bp

theorem Side.heap {w w' : World} {bc bp n k : Nat} {pg : Pages} (h : Side w bc bp pg n k) (h1 : w'.heap[bc]? = w.heap[bc]?) (h2 : w'.heap[bp]? = w.heap[bp]?) : Side w' bc bp pg n k := by
  obtain ⟨⟨q, j, r1, r2, r3⟩, r4, r5⟩ := h
  exact ⟨⟨q, j, r1.heap h1, r2, r3⟩, r4.heap h2, r5⟩
theorem Side.lt {w : World} {bc bp n k : Nat} {pg : Pages} (h : Side w bc bp pg n k) : bc < w.heap.size ∧ bp < w.heap.size := by
  obtain ⟨⟨q, j, r1, r2, r3⟩, r4, r5⟩ := h
  exact ⟨r1.lt, r4.lt⟩
theorem Side.apart {w w' : World} {S : Nat → Prop} {bc bp n k : Nat} {pg : Pages} (h : Side w bc bp pg n k) (hg : Apart S w w') (h1 : ¬ S bc) (h2 : ¬ S bp) : Side w' bc bp pg n k :=
  h.heap (hg.block bc h.lt.1 h1) (hg.block bp h.lt.2 h2)
theorem Side.below {w w' : World} {B : Nat} {bc bp n k : Nat} {pg : Pages} (h : Side w bc bp pg n k) (hg : Below B w w') (h1 : bc < B) (h2 : bp < B) : Side w' bc bp pg n k :=
  h.heap (hg.block bc h1) (hg.block bp h2)
theorem Side.mono {w : World} {bc bp n k k' : Nat} {pg : Pages} (h : Side w bc bp pg n k) (hk : k ≤ k') : Side w bc bp pg n k' := by
  obtain ⟨⟨q, j, r1, r2, r3⟩, r4, r5⟩ := h
  exact ⟨⟨q, j, r1, by omega, r3⟩, r4, r5⟩

/-- Two blocks. -/
def two (a b : Nat) : Nat → Prop := fun k => k = a ∨ k = b

theorem Apart.step {S : Nat → Prop} {w w1 w2 : World} {r : Option Nat} (h : Apart S w w1) (k : w1.grownBy w2 r) (hr : ∀ j, r = some j → S j ∨ w.heap.size ≤ j) : Apart S w w2 :=
  ⟨k.os.trans h.os, k.tape.trans h.tape, k.output.trans h.output, Nat.le_trans h.size k.size, fun i hi hn =>
    (k.block i (Nat.lt_of_lt_of_le hi h.size) (fun e => by rcases hr i e.symm with h1 | h1; exact hn h1; omega)).trans (h.block i hi hn)⟩
theorem Apart.alloc {S : Nat → Prop} {w w1 : World} (h : Apart S w w1) (o : Obj) : Apart S w (w1.alloc o) := h.step (World.grownBy_alloc w1 o none) (fun _ e => by cases e)
theorem Apart.drew {S : Nat → Prop} {w w1 : World} (h : Apart S w w1) : Apart S w w1.drew := ⟨h.os, h.tape, h.output, h.size, h.block⟩

theorem upd_place (pg : Pages) (f i : Nat) (p : List UInt8) (h : i ≤ (pg f).length) : upd (lst pg) (f, (i : Int)) (some p) = lst (setF pg f (setP (pg f) i p)) := by
  funext ⟨g, j⟩
  unfold upd lst setF
  by_cases hj : 0 ≤ j
  · obtain ⟨j, rfl⟩ := Int.eq_ofNat_of_zero_le hj
    by_cases hg : g = f
    · subst hg
      simp only [Prod.mk.injEq, true_and, if_true, Int.natCast_nonneg, Int.toNat_natCast]
      by_cases e : j = i
      · subst e
        rw [if_pos rfl, List.getElem?_eq_getElem (by rw [setP_len]; omega)]
        unfold setP
        simp
      · rw [if_neg (by omega)]
        unfold setP
        rw [List.getElem?_set_ne (fun h2 => e h2.symm)]
        by_cases hlt : j < (pg g).length
        · rw [List.getElem?_append_left hlt]
        · rw [List.getElem?_eq_none (by omega), List.getElem?_eq_none (by simp; omega)]
    · simp [hg]
  · have h1 : ¬ (g, j) = (f, (i : Int)) := by intro e; injection e with _ e; omega
    simp only [h1, hj, if_false]

theorem lst_some (pg : Pages) (f i : Nat) : (lst pg (f, (i : Int))).isSome = decide (i < (pg f).length) := by
  unfold lst
  simp only [Int.natCast_nonneg, if_true, Int.toNat_natCast]
  by_cases h : i < (pg f).length
  · simp [h]
  · simp [h]

theorem setP_more (l : List (List UInt8)) (j : Nat) (h : l.length ≤ j) : setP (l ++ List.replicate (j - l.length) nought) j nought = l ++ List.replicate (j + 1 - l.length) nought := by
  have : (l ++ List.replicate (j - l.length) nought).length = j := by simp; omega
  have h2 := setP_end (l ++ List.replicate (j - l.length) nought) nought
  rw [this] at h2
  rw [h2, List.append_assoc, ← List.replicate_succ', show j - l.length + 1 = j + 1 - l.length by omega]
theorem setP_over (l : List (List UInt8)) (i j : Nat) (p : List UInt8) (h : l.length ≤ j) (hj : j ≤ max l.length i) (hi : i ≤ j) : setP (l ++ List.replicate (j - l.length) nought) i p = setP l i p := by
  unfold setP
  rw [List.append_assoc, List.replicate_append_replicate]
  congr 3
  simp
  omega

/-- A write as cells. -/
def wv (f i : Nat) (p : List UInt8) : Array Value := (.int .i64 f :: .int .i64 i :: vb p).toArray
theorem wv_size (f i : Nat) {p : List UInt8} (h : p.length = 512) : (wv f i p).size = 514 := by simp [wv, vb, h]

/-- What side.put leaves. -/
def SidePut (bc bp : Nat) (f i : Nat) (p : List UInt8) (pg : Pages) (n k : Nat) (w : World) (e : Ending) (w' : World) : Prop :=
  e = .returned (.tuple #[]) ∧ Side w' bc bp (setF pg f (setP (pg f) i p)) (n + (i + 1 - (pg f).length)) (k + 1) ∧ Apart (two bc bp) w w'

theorem cnt_store {q : Nat → Option Nat} {pg : Pages} {f c : Nat} {l : List (List UInt8)} (h : ∀ g, g ≤ lim → (q g).getD 0 = (pg g).length) (hc : c = l.length) : ∀ g, g ≤ lim → (upd q f (some c) g).getD 0 = (setF pg f l g).length := by
  intro g hg
  unfold upd setF
  split
  · exact hc
  · exact h g hg

set_option maxRecDepth 100000 in
set_option maxHeartbeats 1600000 in
theorem sideput_any (bc bp f i : Nat) (p : List UInt8) (pg : Pages) (n k : Nat) (w : World) (h : Side w bc bp pg n k) (hp : p.length = 512) (hf : f ≤ lim) (hi : i ≤ 1048576) (hL : (pg f).length ≤ 1048576)
    (hn : n ≤ lim) (hk : k ≤ lim) : Calls Tryz.prog 66 #[.agg #[.map (some bc), .map (some bp)], .agg (wv f i p)] w (SidePut bc bp f i p pg n k w) := by
  have hlt := h.lt
  obtain ⟨⟨q, j0, hcnt, hjk, hq⟩, hpg, hne⟩ := h
  have HC := Lib.hid hcnt
  have HP := Lib.hid hpg
  have HQ := Lib.hid hq
  have hql := hq f hf
  obtain ⟨C, hC⟩ : ∃ C, wv f i p = C := ⟨_, rfl⟩
  rw [hC]
  have hsz : C.size = 514 := by rw [← hC]; exact wv_size f i hp
  have h0 : C[0] = .int .i64 f := by subst hC; rfl
  have h1 : C[1] = .int .i64 i := by subst hC; rfl
  clear hcnt hpg hq
  unfold lim at hf hn hk
  have HCC := Lib.hid hC
  clear hC
  go_enter Tryz.func66, Tryz.ntmps66
  have hl0 := cnt_look ((HC.out.alloc (.cells #[.map (some bc), .map (some bp)] 62)).alloc (.cells C 112)) hf hql
  go_wp2_with fail
  have e1 : ((w.alloc (.cells #[.map (some bc), .map (some bp)] 62)).alloc (.cells C 112)).heap[w.heap.size]? = some (.cells #[.map (some bc), .map (some bp)] 62) := by
    rw [Below.heap_alloc _ _ _ (by simp)]
    exact heap_alloc_new _ _
  have e2 : ((w.alloc (.cells #[.map (some bc), .map (some bp)] 62)).alloc (.cells C 112)).heap[w.heap.size + 1]? = some (.cells C 112) := by
    have := heap_alloc_new (w.alloc (.cells #[.map (some bc), .map (some bp)] 62)) (.cells C 112)
    rwa [asz] at this
  have hA : Apart (two bc bp) w ((w.alloc (.cells #[.map (some bc), .map (some bp)] 62)).alloc (.cells C 112)) := ((Apart.refl _ w).alloc _).alloc _
  have hP := (HP.out.alloc (.cells #[.map (some bc), .map (some bp)] 62)).alloc (.cells C 112)
  have hC2 := (HC.out.alloc (.cells #[.map (some bc), .map (some bp)] 62)).alloc (.cells C 112)
  have hsw : ((w.alloc (.cells #[.map (some bc), .map (some bp)] 62)).alloc (.cells C 112)).heap.size = w.heap.size + 2 := by simp
  clear hl0
  generalize (w.alloc (.cells #[.map (some bc), .map (some bp)] 62)).alloc (.cells C 112) = w2 at *
  have E1 := Lib.hid e1
  have E2 := Lib.hid e2
  have HA := Lib.hid hA
  have HP2 := Lib.hid hP
  have HC2 := Lib.hid hC2
  clear e1 e2 hA hP hC2 HP HC
  generalize hl : (pg f).length = L at *
  go_loopw [4] (fun a wr => ∃ j, a = .int .i64 (j : Nat) ∧ L ≤ j ∧ j ≤ max L i ∧ Hid (MapF pgK wr bp (n + (j - L)) (lst (setF pg f (pg f ++ List.replicate (j - L) nought)))) ∧ Hid (w2.grownBy wr (some bp))) (fun a _ => i - (intOf a).toNat)
  case atStart => exact ⟨L, rfl, Nat.le_refl _, by omega, by rw [Nat.sub_self, List.replicate_zero, List.append_nil, setF_self]; exact HP2.out, ⟨rfl, rfl, rfl, Nat.le_refl _, fun _ _ _ => rfl⟩⟩
  case round =>
    obtain ⟨j, rfl, hj1, hj2, hp2, hg⟩ := hrel
    have b1 : Hid (wr.heap[w.heap.size]? = some (.cells #[.map (some bc), .map (some bp)] 62)) := (hg.out.block w.heap.size (by omega) (by simp; omega)).trans E1.out
    have b2 : Hid (wr.heap[w.heap.size + 1]? = some (.cells C 112)) := (hg.out.block (w.heap.size + 1) (by omega) (by simp; omega)).trans E2.out
    have c0 : wr.cell? ⟨w.heap.size, 0, none⟩ = some (.map (some bc)) := cell_of_row _ _ _ _ _ _ b1.out
    have c1 : wr.cell? ⟨w.heap.size, 1, none⟩ = some (.map (some bp)) := cell_of_row _ _ _ _ _ _ b1.out
    have d0 : wr.cell? ⟨w.heap.size + 1, 0, none⟩ = some (.int .i64 f) := (cell_of_row _ _ _ _ _ _ b2.out).trans (by rw [← h0]; simp [hsz])
    have d1 : wr.cell? ⟨w.heap.size + 1, 1, none⟩ = some (.int .i64 i) := (cell_of_row _ _ _ _ _ _ b2.out).trans (by rw [← h1]; simp [hsz])
    by_cases hlt : j < i
    · have hlti : (j : Int) < i := by omega
      have hst : lst (setF pg f (pg f ++ List.replicate (j - L) nought)) (f, (j : Int)) = none := by
        have := lst_some (setF pg f (pg f ++ List.replicate (j - L) nought)) f j
        rw [setF_same, List.length_append, hl, List.length_replicate, decide_eq_false (by omega)] at this
        simpa using this
      have hup : upd (lst (setF pg f (pg f ++ List.replicate (j - L) nought))) (f, (j : Int)) (some nought) = lst (setF pg f (pg f ++ List.replicate (j + 1 - L) nought)) := by
        rw [upd_place _ _ _ _ (by rw [setF_same, List.length_append, hl, List.length_replicate]; omega), setF_same, setF_twice, ← hl, setP_more _ _ (by omega)]
      have HST := Lib.hid hst
      have HUP := Lib.hid hup
      clear hst hup
      go_wp2_with (first | (refine wp_store pgK rfl _ _ _ rfl bp _ _ rfl hp2.out (by unfold maxLen; omega) (f, (j : Int)) rfl ⟨by unfold lim; omega, WalkArith.wf_i64 (by omega)⟩ nought (by rw [zero_page]; rfl) List.length_replicate (n + (j + 1 - L)) (by rw [HST.out]; simp; omega) ?hK) | fail)
      intro w3 hp3 hg3
      rw [HUP.out] at hp3
      have HP3 := Lib.hid hp3
      have HG3 := Lib.hid hg3
      clear hp3 hg3
      go_wp2_with fail
      go_roundw
      case rel => exact ⟨j + 1, by go_num, by omega, by omega, HP3.out, hg.out.trans HG3.out⟩
      case measure => simp [intOf]; omega
    · have hge : (i : Int) ≤ j := by omega
      have hup : upd (lst (setF pg f (pg f ++ List.replicate (j - L) nought))) (f, (i : Int)) (some p) = lst (setF pg f (setP (pg f) i p)) := by
        rw [upd_place _ _ _ _ (by rw [setF_same, List.length_append, hl, List.length_replicate]; omega), setF_same, setF_twice, ← hl, setP_over _ _ _ _ (by omega) (by omega) (by omega)]
      have hq2 : (n + (j - L) + if (lst (setF pg f (pg f ++ List.replicate (j - L) nought)) (f, (i : Int))).isSome = true then 0 else 1) = n + (i + 1 - L) := by
        rw [lst_some, setF_same, List.length_append, hl, List.length_replicate]
        by_cases e : i < L + (j - L)
        · rw [if_pos (by simpa using e)]; omega
        · rw [if_neg (by simpa using e)]; omega
      have HUP := Lib.hid hup
      have HQ2 := Lib.hid hq2
      have r0 : Hid (wr.rangeAt (w.heap.size + 1) 0 [.int .i64 f, .int .i64 i]) := fun o v hv => by
        rw [Nat.zero_add]
        match o with
        | 0 => injection hv with hv; rw [← hv]; exact d0
        | 1 => injection hv with hv; rw [← hv]; exact d1
        | o + 2 => cases hv
      have r2 : Hid (wr.rangeAt (w.heap.size + 1) 2 (vb p)) := fun o v hv => by
        rw [cell_of_row _ _ _ _ _ _ b2.out, ← HCC.out]
        have := @List.getElem?_toArray _ (Value.int .i64 f :: Value.int .i64 i :: vb p) (2 + o)
        unfold wv
        rw [this, show 2 + o = o + 1 + 1 by omega, List.getElem?_cons_succ, List.getElem?_cons_succ]
        exact hv
      clear hup hq2
      go_wp2_with (first | (refine wpList_load_mid rfl 108 _ rfl (w.heap.size + 1) 0 rfl _ _ r0.out Tryz.underlying108 rfl (by kernel_rfl) ?_) | (refine wpList_load_mid rfl 110 _ rfl (w.heap.size + 1) 2 rfl _ _ r2.out Tryz.underlying110 rfl (by rw [vb_length, hp]; kernel_rfl) ?_) | (refine wp_store pgK rfl _ _ _ rfl bp _ _ rfl hp2.out (by unfold maxLen; omega) (f, (i : Int)) rfl ⟨by unfold lim; omega, WalkArith.wf_i64 (by omega)⟩ p rfl hp _ HQ2.out ?hK2) | fail)
      intro w3 hp3 hg3
      rw [HUP.out] at hp3
      have HP3 := Lib.hid hp3
      have hg2 := hg.out.trans hg3
      have HC3 := Lib.hid (HC2.out.grown hg2 (by simp; exact hne))
      have b3 : Hid (w3.heap[w.heap.size]? = some (.cells #[.map (some bc), .map (some bp)] 62)) := (hg2.block w.heap.size (by omega) (by simp; omega)).trans E1.out
      have b4 : Hid (w3.heap[w.heap.size + 1]? = some (.cells C 112)) := (hg2.block (w.heap.size + 1) (by omega) (by simp; omega)).trans E2.out
      have c2 : w3.cell? ⟨w.heap.size, 0, none⟩ = some (.map (some bc)) := cell_of_row _ _ _ _ _ _ b3.out
      have d2 : w3.cell? ⟨w.heap.size + 1, 0, none⟩ = some (.int .i64 f) := (cell_of_row _ _ _ _ _ _ b4.out).trans (by rw [← h0]; simp [hsz])
      have d3 : w3.cell? ⟨w.heap.size + 1, 1, none⟩ = some (.int .i64 i) := (cell_of_row _ _ _ _ _ _ b4.out).trans (by rw [← h1]; simp [hsz])
      have HG2 := Lib.hid hg2
      have hl3 := cnt_look HC3.out (f := f) (c := L) (by unfold lim; omega) (by rw [hql])
      have hj3 : j0 + (if (q f).isSome = true then 0 else 1) ≤ k + 1 := by split <;> omega
      obtain ⟨j4, hj4⟩ : ∃ j4, j0 + (if (q f).isSome = true then 0 else 1) = j4 := ⟨_, rfl⟩
      rw [hj4] at hj3
      have HJ4 := Lib.hid hj4
      have hlen : Hid ((setP (pg f) i p).length = max L (i + 1)) := by unfold Hid; rw [setP_len, hl]
      clear hp3 hg3 hg2 hj4
      by_cases hmx : i + 1 ≤ L
      · have hmx2 : (i : Int) + 1 ≤ L := by omega
        go_wp2_with (first | (refine wp_store cntK rfl _ _ _ rfl bc _ _ rfl HC3.out (by unfold maxLen; omega) f rfl (by unfold cntK lim; omega) L rfl trivial j4 HJ4.out ?hK3) | fail)
        intro w4 hc4 hg4
        have HC4 := Lib.hid hc4
        have HP4 := Lib.hid (HP3.out.grown hg4 (by simp; omega))
        have HA4 : Hid (Apart (two bc bp) w w4) := (HA.out.step HG2.out (fun x e => by injection e with e; exact .inl (.inr e.symm))).step hg4 (fun x e => by injection e with e; exact .inl (.inl e.symm))
        clear hc4 hg4
        go_wp2_with fail
        go_end0
        exact ⟨rfl, ⟨⟨_, j4, HC4.out, hj3, cnt_store HQ.out (by rw [hlen.out]; omega)⟩, (by rw [hl]; exact HP4.out), hne⟩, HA4.out⟩
      · have hmx2 : (L : Int) < (i : Int) + 1 := by omega
        go_wp2_with (first | (refine wp_store cntK rfl _ _ _ rfl bc _ _ rfl HC3.out (by unfold maxLen; omega) f rfl (by unfold cntK lim; omega) (i + 1) rfl trivial j4 HJ4.out ?hK4) | fail)
        intro w4 hc4 hg4
        have HC4 := Lib.hid hc4
        have HP4 := Lib.hid (HP3.out.grown hg4 (by simp; omega))
        have HA4 : Hid (Apart (two bc bp) w w4) := (HA.out.step HG2.out (fun x e => by injection e with e; exact .inl (.inr e.symm))).step hg4 (fun x e => by injection e with e; exact .inl (.inl e.symm))
        clear hc4 hg4
        go_wp2_with fail
        go_end0
        exact ⟨rfl, ⟨⟨_, j4, HC4.out, hj3, cnt_store HQ.out (by rw [hlen.out]; omega)⟩, (by rw [hl]; exact HP4.out), hne⟩, HA4.out⟩

end Go.Proofs.YtkbmajgbhpecgaaGreatDoor.Cd

/-
  The program's disk in memory. Conditions: none.
-/
namespace Go.Proofs.YtkbmajgbhpecgaaGreatDoor.Cd
open Go.RowKit

/-- A write of the program's. -/
structure Pw where
  file : Nat
  spot : Nat
  data : List UInt8
/-- The program's disk. -/
structure Pd where
  room : Nat
  files : List UInt8 → Option Nat
  made : Nat
  now : Pages
  nn : Nat
  safe : Pages
  ns : Nat
  late : List Pw
  off : Bool
  acts : Nat
  fuse : Nat
  keep : Nat

def wcs (l : List Pw) : List Value := l.flatMap fun x => (wv x.file x.spot x.data).toList
/-- What can be in the list of what waits. -/
def PwOk (m : Nat) (x : Pw) : Prop := x.file ≤ m ∧ x.spot < 4096 ∧ x.data.length = 512

/-- How great things are. -/
structure Fits (P : Pd) (N : Nat) : Prop where
  top : N ≤ 137438953472
  room : P.room ≤ 4096
  made : P.made ≤ N
  acts : P.acts ≤ N
  fuse : P.fuse ≤ 9223372036854775807
  keep : P.keep < 18446744073709551616
  late : ∀ x ∈ P.late, PwOk P.made x
  now : ∀ f, (P.now f).length ≤ 4096
  safe : ∀ f, (P.safe f).length ≤ 4096
  nns : P.nn ≤ P.room
  nss : P.ns + 4097 * P.late.length ≤ 4097 * N
  files : ∀ s k, P.files s = some k → k ≤ P.made
  fresh : ∀ f, P.made < f → P.now f = [] ∧ P.safe f = []

def dcells (P : Pd) (bf c1 p1 c2 p2 : Nat) (lv : Value) : Array Value :=
  #[.int .i64 P.room, .map (some bf), .int .i64 P.made, .map (some c1), .map (some p1), .map (some c2), .map (some p2), lv, .bool P.off, .int .i64 P.acts, .int .i64 P.fuse, .int .u64 P.keep]

/-- The disk P lies at block g; all of its blocks are in S. -/
structure DiskR (w : World) (g : Nat) (S : Nat → Prop) (P : Pd) (N bf c1 p1 c2 p2 : Nat) (lv : Value) : Prop where
  fits : Fits P N
  row : w.heap[g]? = some (.cells (dcells P bf c1 p1 c2 p2 lv) 66)
  fil : ∃ n, MapF filK w bf n P.files ∧ n ≤ N
  now : Side w c1 p1 P.now P.nn N
  safe : ∃ k, Side w c2 p2 P.safe P.ns k ∧ k + P.late.length ≤ N
  late : w.ownsRow 0 112 514 lv P.late.length (wcs P.late)
  neg : g ≠ bf ∧ g ≠ c1 ∧ g ≠ p1 ∧ g ≠ c2 ∧ g ≠ p2
  nef : bf ≠ c1 ∧ bf ≠ p1 ∧ bf ≠ c2 ∧ bf ≠ p2
  nes : c1 ≠ c2 ∧ c1 ≠ p2 ∧ p1 ≠ c2 ∧ p1 ≠ p2
  nel : ∀ b, lv.ownBlock = some b → b ≠ g ∧ b ≠ bf ∧ b ≠ c1 ∧ b ≠ p1 ∧ b ≠ c2 ∧ b ≠ p2
  ins : S g ∧ S bf ∧ S c1 ∧ S p1 ∧ S c2 ∧ S p2
  inl : ∀ b, lv.ownBlock = some b → S b
  lt : ∀ k, S k → k < w.heap.size

/-- The disk P lies at block g. -/
def Rep (w : World) (g : Nat) (S : Nat → Prop) (P : Pd) (N : Nat) : Prop := ∃ bf c1 p1 c2 p2 lv, DiskR w g S P N bf c1 p1 c2 p2 lv

section
variable {w w' : World} {g N bf c1 p1 c2 p2 : Nat} {S T : Nat → Prop} {P : Pd} {lv : Value}

theorem row_kept {e : TypeId} {size n : Nat} {xs : List Value} (h : w.ownsRow 0 e size lv n xs) (hk : ∀ b, lv.ownBlock = some b → w'.heap[b]? = w.heap[b]?) : w'.ownsRow 0 e size lv n xs := by
  refine ⟨h.1, ?_⟩
  rcases h.2 with h2 | ⟨b, cap, cur, rfl, h3, h4, r⟩
  · exact .inl h2
  · exact .inr ⟨b, cap, cur, rfl, h3, (hk b rfl).trans h4, r⟩

/-- What turns no block of the disk's leaves the disk. -/
theorem DiskR.keep (h : DiskR w g S P N bf c1 p1 c2 p2 lv) (hk : ∀ b, S b → w'.heap[b]? = w.heap[b]?) (hs : w.heap.size ≤ w'.heap.size) : DiskR w' g S P N bf c1 p1 c2 p2 lv := by
  obtain ⟨i1, i2, i3, i4, i5, i6⟩ := h.ins
  obtain ⟨n, hf, hn⟩ := h.fil
  obtain ⟨k, hsf, hkk⟩ := h.safe
  exact ⟨h.fits, (hk g i1).trans h.row, ⟨n, hf.heap (hk bf i2), hn⟩, h.now.heap (hk c1 i3) (hk p1 i4), ⟨k, hsf.heap (hk c2 i5) (hk p2 i6), hkk⟩, row_kept h.late (fun b hb => hk b (h.inl b hb)), h.neg, h.nef, h.nes, h.nel, h.ins, h.inl,
    fun k hk => Nat.lt_of_lt_of_le (h.lt k hk) hs⟩

theorem DiskR.below {B : Nat} (h : DiskR w g S P N bf c1 p1 c2 p2 lv) (hb : Below B w w') (hB : ∀ k, S k → k < B) : DiskR w' g S P N bf c1 p1 c2 p2 lv := h.keep (fun b hS => hb.block b (hB b hS)) hb.size
theorem DiskR.apart (h : DiskR w g S P N bf c1 p1 c2 p2 lv) (hg : Apart T w w') (hd : ∀ k, S k → ¬ T k) : DiskR w' g S P N bf c1 p1 c2 p2 lv := h.keep (fun b hS => hg.block b (h.lt b hS) (hd b hS)) hg.size
theorem DiskR.more (h : DiskR w g S P N bf c1 p1 c2 p2 lv) (hs : ∀ k, S k → T k) (ht : ∀ k, T k → k < w.heap.size) : DiskR w g T P N bf c1 p1 c2 p2 lv :=
  ⟨h.fits, h.row, h.fil, h.now, h.safe, h.late, h.neg, h.nef, h.nes, h.nel, ⟨hs _ h.ins.1, hs _ h.ins.2.1, hs _ h.ins.2.2.1, hs _ h.ins.2.2.2.1, hs _ h.ins.2.2.2.2.1, hs _ h.ins.2.2.2.2.2⟩, fun b hb => hs b (h.inl b hb), ht⟩
theorem Fits.mono {M : Nat} (h : Fits P N) (hN : N ≤ M) (hM : M ≤ 137438953472) : Fits P M :=
  ⟨hM, h.room, by have := h.made; omega, by have := h.acts; omega, h.fuse, h.keep, h.late, h.now, h.safe, h.nns, by have := h.nss; omega, h.files, h.fresh⟩
theorem DiskR.mono {M : Nat} (h : DiskR w g S P N bf c1 p1 c2 p2 lv) (hN : N ≤ M) (hM : M ≤ 137438953472) : DiskR w g S P M bf c1 p1 c2 p2 lv := by
  obtain ⟨n, hf, hn⟩ := h.fil
  obtain ⟨k, hsf, hkk⟩ := h.safe
  exact ⟨h.fits.mono hN hM, h.row, ⟨n, hf, by omega⟩, h.now.mono hN, ⟨k, hsf, by omega⟩, h.late, h.neg, h.nef, h.nes, h.nel, h.ins, h.inl, h.lt⟩
theorem Rep.keep (h : Rep w g S P N) (hk : ∀ b, S b → w'.heap[b]? = w.heap[b]?) (hs : w.heap.size ≤ w'.heap.size) : Rep w' g S P N := by
  obtain ⟨bf, c1, p1, c2, p2, lv, h⟩ := h
  exact ⟨_, _, _, _, _, _, h.keep hk hs⟩
theorem Rep.lt (h : Rep w g S P N) : ∀ k, S k → k < w.heap.size := by
  obtain ⟨bf, c1, p1, c2, p2, lv, h⟩ := h
  exact h.lt
theorem Rep.more (h : Rep w g S P N) (hs : ∀ k, S k → T k) (ht : ∀ k, T k → k < w.heap.size) : Rep w g T P N := by
  obtain ⟨bf, c1, p1, c2, p2, lv, h⟩ := h
  exact ⟨_, _, _, _, _, _, h.more hs ht⟩
theorem Rep.below {B : Nat} (h : Rep w g S P N) (hb : Below B w w') (hB : ∀ k, S k → k < B) : Rep w' g S P N := h.keep (fun b hS => hb.block b (hB b hS)) hb.size
theorem Rep.apart (h : Rep w g S P N) (hg : Apart T w w') (hd : ∀ k, S k → ¬ T k) : Rep w' g S P N := h.keep (fun b hS => hg.block b (h.lt b hS) (hd b hS)) hg.size
theorem Rep.mono {M : Nat} (h : Rep w g S P N) (hN : N ≤ M) (hM : M ≤ 137438953472) : Rep w g S P M := by
  obtain ⟨bf, c1, p1, c2, p2, lv, h⟩ := h
  exact ⟨_, _, _, _, _, _, h.mono hN hM⟩
theorem Rep.fits (h : Rep w g S P N) : Fits P N := by
  obtain ⟨bf, c1, p1, c2, p2, lv, h⟩ := h
  exact h.fits
end

/-- The error's number of a disk that can't be asked. -/
def errR (P : Pd) : Nat := if P.off = true then 8 else 0

/-- What a call leaves that turns nothing: it answers v. -/
def Says (v : Value) (w : World) (e : Ending) (w' : World) : Prop := e = .returned v ∧ Below w.heap.size w w'

set_option maxRecDepth 100000 in
theorem ready_any (g N : Nat) (S : Nat → Prop) (P : Pd) (w : World) (h : Rep w g S P N) :
    Calls Tryz.prog 40 #[.pointer (some ⟨g, 0, none⟩)] w (fun e w' => e = .returned (.int .i64 (errR P : Nat)) ∧ w' = w) := by
  obtain ⟨bf, c1, p1, c2, p2, lv, h⟩ := h
  have c8 : w.cell? ⟨g, 8, none⟩ = some (.bool P.off) := cell_of_row _ _ _ _ _ _ h.row
  clear h
  cases hoff : P.off
  · rw [hoff] at c8
    have he : errR P = 0 := by unfold errR; rw [hoff]; rfl
    go_enter Tryz.func40, Tryz.ntmps40
    go_wp2_with fail
    go_ret
    exact ⟨by rw [he]; rfl, rfl⟩
  · rw [hoff] at c8
    have he : errR P = 8 := by unfold errR; rw [hoff]; rfl
    go_enter Tryz.func40, Tryz.ntmps40
    go_wp2_with fail
    go_ret
    exact ⟨by rw [he]; rfl, rfl⟩

theorem ready_nil (w : World) : Calls Tryz.prog 40 #[.pointer none] w (fun e w' => e = .returned (.int .i64 2) ∧ w' = w) := by
  go_enter Tryz.func40, Tryz.ntmps40
  go_wp2_with fail
  go_ret
  exact ⟨rfl, rfl⟩

/-- What find answers. -/
def findR (P : Pd) (s : List UInt8) : Nat × Nat := if P.off = true then (0, 8) else match P.files s with
  | some k => (k, 0)
  | none => (0, 5)

set_option maxRecDepth 100000 in
set_option maxHeartbeats 800000 in
theorem find_any (g N : Nat) (S : Nat → Prop) (P : Pd) (s : List UInt8) (w : World) (h : Rep w g S P N) (hs : s.length ≤ 140737488355328) :
    Calls Tryz.prog 64 #[.pointer (some ⟨g, 0, none⟩), .string ⟨s.toArray⟩] w (fun e w' => e = .returned (.tuple #[.int .i64 ((findR P s).1 : Nat), .int .i64 ((findR P s).2 : Nat)]) ∧ w' = w) := by
  have hre := ready_any g N S P w h
  obtain ⟨bf, c1, p1, c2, p2, lv, h⟩ := h
  have c1 : w.cell? ⟨g, 1, none⟩ = some (.map (some bf)) := cell_of_row _ _ _ _ _ _ h.row
  obtain ⟨n, hf, _⟩ := h.fil
  have hl := fil_look hf (s := s) (by simp only [maxLen]; omega)
  clear h hf
  cases hoff : P.off
  · have he : errR P = 0 := by unfold errR; rw [hoff]; rfl
    rw [he] at hre
    cases hq : P.files s with
    | none =>
      rw [hq] at hl
      have he : findR P s = (0, 5) := by unfold findR; rw [hoff, hq]; rfl
      rw [he]
      have HR := Lib.hid hre
      clear hre
      go_enter Tryz.func64, Tryz.ntmps64
      go_wp2_with (go_at_call 40; refine HR.out.mono ?_; rintro e w' ⟨rfl, rfl⟩)
      go_ret2
      exact ⟨rfl, rfl⟩
    | some k =>
      rw [hq] at hl
      have he : findR P s = (k, 0) := by unfold findR; rw [hoff, hq]; rfl
      rw [he]
      have HR := Lib.hid hre
      clear hre
      go_enter Tryz.func64, Tryz.ntmps64
      go_wp2_with (go_at_call 40; refine HR.out.mono ?_; rintro e w' ⟨rfl, rfl⟩)
      go_ret2
      exact ⟨rfl, rfl⟩
  · have he : errR P = 8 := by unfold errR; rw [hoff]; rfl
    rw [he] at hre
    have he : findR P s = (0, 8) := by unfold findR; rw [hoff]; rfl
    rw [he]
    have HR := Lib.hid hre
    clear hre
    go_enter Tryz.func64, Tryz.ntmps64
    go_wp2_with (go_at_call 40; refine HR.out.mono ?_; rintro e w' ⟨rfl, rfl⟩)
    go_ret2
    exact ⟨rfl, rfl⟩

end Go.Proofs.YtkbmajgbhpecgaaGreatDoor.Cd

/-
  Free, Count, Has, Acts, Down; On, Arm; a nil disk. Conditions: none.
-/
namespace Go.Proofs.YtkbmajgbhpecgaaGreatDoor.Cd
open Go.RowKit

section
variable {w : World} {g N bf c1 p1 c2 p2 : Nat} {S : Nat → Prop} {P P' : Pd} {lv lv' : Value}

theorem row_set {w : World} {e : TypeId} {size n : Nat} {xs : List Value} {v : Value} {a : Addr} (h : w.ownsRow 0 e size v n xs) (u : Value) (hne : ∀ b, v.ownBlock = some b → b ≠ a.block) : (w.setCell a u).ownsRow 0 e size v n xs :=
  row_kept h fun b hb => heap_setCell_other _ _ _ _ (hne b hb)

/-- A cell of the disk's own block is written that leads nowhere. -/
theorem DiskR.cell (h : DiskR w g S P N bf c1 p1 c2 p2 lv) (k : Nat) (v : Value) (P' : Pd) (hd : (dcells P bf c1 p1 c2 p2 lv).setIfInBounds k v = dcells P' bf c1 p1 c2 p2 lv)
    (e : P'.files = P.files ∧ P'.now = P.now ∧ P'.nn = P.nn ∧ P'.safe = P.safe ∧ P'.ns = P.ns ∧ P'.late = P.late) (hf : Fits P' N) : DiskR (w.setCell ⟨g, k, none⟩ v) g S P' N bf c1 p1 c2 p2 lv := by
  obtain ⟨e1, e2, e3, e4, e5, e6⟩ := e
  obtain ⟨n1, n2, n3, n4, n5⟩ := h.neg
  obtain ⟨n, hfl, hn⟩ := h.fil
  obtain ⟨j, hsf, hjj⟩ := h.safe
  refine ⟨hf, ?_, ⟨n, by rw [e1]; exact hfl.setCell (fun e => n1 e.symm) v, hn⟩, ?_, ⟨j, ?_, by rw [e6]; exact hjj⟩, ?_, h.neg, h.nef, h.nes, h.nel, h.ins, h.inl, fun k hk => by rw [World.size_setCell]; exact h.lt k hk⟩
  · rw [← hd]
    exact heap_setCell_same _ _ _ _ _ _ h.row
  · rw [e2, e3]
    exact h.now.heap (heap_setCell_other _ _ _ _ (fun e => n2 e.symm)) (heap_setCell_other _ _ _ _ (fun e => n3 e.symm))
  · rw [e4, e5]
    exact hsf.heap (heap_setCell_other _ _ _ _ (fun e => n4 e.symm)) (heap_setCell_other _ _ _ _ (fun e => n5 e.symm))
  · rw [e6]
    exact row_set h.late _ (fun b hb => (h.nel b hb).1)

theorem DiskR.frozen (h : DiskR w g S P N bf c1 p1 c2 p2 lv) (k : Nat) : w.frozen? ⟨g, k, none⟩ = false := by simp [World.frozen?, h.row]

end

set_option maxRecDepth 100000 in
set_option maxHeartbeats 800000 in
theorem free_any (g N : Nat) (S : Nat → Prop) (P : Pd) (w : World) (h : Rep w g S P N) :
    Calls Tryz.prog 12 #[.pointer (some ⟨g, 0, none⟩)] w (Says (.int .i64 ((P.room : Int) - P.nn)) w) := by
  obtain ⟨bf, c1, p1, c2, p2, lv, h⟩ := h
  have c0 : w.cell? ⟨g, 0, none⟩ = some (.int .i64 P.room) := cell_of_row _ _ _ _ _ _ h.row
  have c4 : w.cell? ⟨g, 4, none⟩ = some (.map (some p1)) := cell_of_row _ _ _ _ _ _ h.row
  have hl := fun ty => h.now.pgs.len ty
  have hl : ∀ ty, (Builtin.len_ #[60] ty #[.map (some p1)]).run Tryz.prog w = .ok (.int .i64 P.nn) w := hl
  have hl2 : ∀ ty, (Builtin.len_ #[60] ty #[.map (some p1)]).run Tryz.prog w.drew = .ok (.int .i64 P.nn) w.drew := fun ty => MapF.len (M := pgK) (h.now.pgs.drew) ty
  have b1 := h.fits.room
  have b2 := h.fits.nns
  clear h
  go_enter Tryz.func12, Tryz.ntmps12
  go_wp2_with fail
  go_region
  all_goals
    go_wp2_with fail
    go_ret
    exact ⟨rfl, (Below.refl _ _).drew⟩

set_option maxRecDepth 100000 in
theorem acts_any (g N : Nat) (S : Nat → Prop) (P : Pd) (w : World) (h : Rep w g S P N) :
    Calls Tryz.prog 27 #[.pointer (some ⟨g, 0, none⟩)] w (fun e w' => e = .returned (.int .i64 P.acts) ∧ w' = w) := by
  obtain ⟨bf, c1, p1, c2, p2, lv, h⟩ := h
  have c9 : w.cell? ⟨g, 9, none⟩ = some (.int .i64 P.acts) := cell_of_row _ _ _ _ _ _ h.row
  clear h
  go_enter Tryz.func27, Tryz.ntmps27
  go_wp2_with fail
  go_ret
  exact ⟨rfl, rfl⟩

set_option maxRecDepth 100000 in
theorem down_any (g N : Nat) (S : Nat → Prop) (P : Pd) (w : World) (h : Rep w g S P N) :
    Calls Tryz.prog 16 #[.pointer (some ⟨g, 0, none⟩)] w (fun e w' => e = .returned (.bool P.off) ∧ w' = w) := by
  obtain ⟨bf, c1, p1, c2, p2, lv, h⟩ := h
  have c8 : w.cell? ⟨g, 8, none⟩ = some (.bool P.off) := cell_of_row _ _ _ _ _ _ h.row
  clear h
  go_enter Tryz.func16, Tryz.ntmps16
  go_wp2_with fail
  go_ret
  exact ⟨rfl, rfl⟩

/-- How many pages a file has. -/
def countR (P : Pd) (s : List UInt8) : Nat := if P.off = true then 0 else match P.files s with
  | some k => (P.now k).length
  | none => 0

set_option maxRecDepth 100000 in
set_option maxHeartbeats 800000 in
theorem count_any (g N : Nat) (S : Nat → Prop) (P : Pd) (s : List UInt8) (w : World) (h : Rep w g S P N) (hs : s.length ≤ 140737488355328) :
    Calls Tryz.prog 38 #[.pointer (some ⟨g, 0, none⟩), .string ⟨s.toArray⟩] w (fun e w' => e = .returned (.int .i64 (countR P s : Nat)) ∧ w' = w) := by
  have hre := find_any g N S P s w h hs
  obtain ⟨bf, c1, p1, c2, p2, lv, h⟩ := h
  have c3 : w.cell? ⟨g, 3, none⟩ = some (.map (some c1)) := cell_of_row _ _ _ _ _ _ h.row
  obtain ⟨q, j, hq, _, hq2⟩ := h.now.cnt
  cases hoff : P.off
  · cases hqs : P.files s with
    | none =>
      have he : findR P s = (0, 5) := by unfold findR; rw [hoff, hqs]; rfl
      have he2 : countR P s = 0 := by unfold countR; rw [hoff, hqs]; rfl
      rw [he] at hre
      rw [he2]
      have HR := Lib.hid hre
      clear hre h hq hq2
      go_enter Tryz.func38, Tryz.ntmps38
      go_wp2_with (go_at_call 64; refine HR.out.mono ?_; rintro e w' ⟨rfl, rfl⟩)
      go_ret
      exact ⟨rfl, rfl⟩
    | some k =>
      have he : findR P s = (k, 0) := by unfold findR; rw [hoff, hqs]; rfl
      have he2 : countR P s = (P.now k).length := by unfold countR; rw [hoff, hqs]; rfl
      rw [he] at hre
      rw [he2]
      have hk : k ≤ lim := by have h1 := h.fits.files s k hqs; have h2 := h.fits.made; have h3 := h.fits.top; unfold lim; omega
      have hl := cnt_look hq hk (hq2 k hk)
      have HR := Lib.hid hre
      clear hre h hq hq2 hk
      go_enter Tryz.func38, Tryz.ntmps38
      go_wp2_with (go_at_call 64; refine HR.out.mono ?_; rintro e w' ⟨rfl, rfl⟩)
      go_ret
      exact ⟨rfl, rfl⟩
  · have he : findR P s = (0, 8) := by unfold findR; rw [hoff]; rfl
    have he2 : countR P s = 0 := by unfold countR; rw [hoff]; rfl
    rw [he] at hre
    rw [he2]
    have HR := Lib.hid hre
    clear hre h hq hq2
    go_enter Tryz.func38, Tryz.ntmps38
    go_wp2_with (go_at_call 64; refine HR.out.mono ?_; rintro e w' ⟨rfl, rfl⟩)
    go_ret
    exact ⟨rfl, rfl⟩

/-- Whether a file is there. -/
def hasR (P : Pd) (s : List UInt8) : Bool := !P.off && (P.files s).isSome

set_option maxRecDepth 100000 in
set_option maxHeartbeats 800000 in
theorem has_any (g N : Nat) (S : Nat → Prop) (P : Pd) (s : List UInt8) (w : World) (h : Rep w g S P N) (hs : s.length ≤ 140737488355328) :
    Calls Tryz.prog 51 #[.pointer (some ⟨g, 0, none⟩), .string ⟨s.toArray⟩] w (fun e w' => e = .returned (.bool (hasR P s)) ∧ w' = w) := by
  have hre := find_any g N S P s w h hs
  have hv : hasR P s = (((findR P s).2 : Int) == 0) := by
    unfold hasR findR
    cases P.off <;> cases P.files s <;> rfl
  rw [hv]
  generalize (findR P s).1 = a at *
  generalize (findR P s).2 = b at *
  have HR := Lib.hid hre
  clear hre h hv
  go_enter Tryz.func51, Tryz.ntmps51
  go_wp2_with (go_at_call 64; refine HR.out.mono ?_; rintro e w' ⟨rfl, rfl⟩)
  all_goals
    go_ret
    exact ⟨by simp_all, rfl⟩

/-! ### What writes to the disk's own cells alone -/

/-- What a call leaves that makes another disk of it and answers v. -/
def Makes (g : Nat) (S : Nat → Prop) (P' : Pd) (N : Nat) (v : Value) (w : World) (e : Ending) (w' : World) : Prop :=
  e = .returned v ∧ Rep w' g (since S w w') P' N ∧ Apart S w w'

theorem since_lt {S : Nat → Prop} {w w' : World} (h : ∀ k, S k → k < w.heap.size) (hs : w.heap.size ≤ w'.heap.size) : ∀ k, since S w w' k → k < w'.heap.size := by
  rintro k (h1 | h1)
  · exact Nat.lt_of_lt_of_le (h k h1) hs
  · exact h1.2

theorem apart_setCell {S : Nat → Prop} {w w1 : World} (h : Apart S w w1) {a : Addr} (ha : S a.block) (u : Value) : Apart S w (w1.setCell a u) :=
  ⟨h.os, h.tape, h.output, by rw [World.size_setCell]; exact h.size, fun k hk hn => (heap_setCell_other _ _ _ _ (fun e => hn (by rw [e]; exact ha))).trans (h.block k hk hn)⟩

set_option maxRecDepth 100000 in
theorem on_any (g N : Nat) (S : Nat → Prop) (P : Pd) (w : World) (h : Rep w g S P N) :
    Calls Tryz.prog 17 #[.pointer (some ⟨g, 0, none⟩)] w (Makes g S { P with off := false } N (.tuple #[]) w) := by
  obtain ⟨bf, c1, p1, c2, p2, lv, h⟩ := h
  have c8 : w.cell? ⟨g, 8, none⟩ = some (.bool P.off) := cell_of_row _ _ _ _ _ _ h.row
  have f8 := h.frozen 8
  have H := Lib.hid h
  clear h
  go_enter Tryz.func17, Tryz.ntmps17
  go_wp2_with fail
  go_end0
  have h := H.out
  have hd := h.cell 8 (.bool false) { P with off := false } rfl ⟨rfl, rfl, rfl, rfl, rfl, rfl⟩ ⟨h.fits.top, h.fits.room, h.fits.made, h.fits.acts, h.fits.fuse, h.fits.keep, h.fits.late, h.fits.now, h.fits.safe, h.fits.nns, h.fits.nss, h.fits.files, h.fits.fresh⟩
  exact ⟨rfl, ⟨_, _, _, _, _, _, hd.more (fun _ => .inl) (since_lt h.lt (by simp))⟩, apart_setCell (.refl _ _) h.ins.1 _⟩

set_option maxRecDepth 100000 in
set_option maxHeartbeats 800000 in
theorem arm_any (g N : Nat) (S : Nat → Prop) (P : Pd) (n : Int) (k : Nat) (w : World) (h : Rep w g S P N) (hn : n ≤ 9223372036854775807) (hk : k < 18446744073709551616) :
    Calls Tryz.prog 13 #[.pointer (some ⟨g, 0, none⟩), .int .i64 n, .int .u64 k] w (Makes g S { P with fuse := n.toNat, keep := k } N (.tuple #[]) w) := by
  obtain ⟨bf, c1, p1, c2, p2, lv, h⟩ := h
  have c10 : w.cell? ⟨g, 10, none⟩ = some (.int .i64 P.fuse) := cell_of_row _ _ _ _ _ _ h.row
  have c11 : w.cell? ⟨g, 11, none⟩ = some (.int .u64 P.keep) := cell_of_row _ _ _ _ _ _ h.row
  have f10 := h.frozen 10
  have f11 := h.frozen 11
  have H := Lib.hid h
  clear h
  go_enter Tryz.func13, Tryz.ntmps13
  go_wp2_with fail
  all_goals
    go_end0
    have h := H.out
    have hd := h.cell 10 (.int .i64 (n.toNat : Nat)) { P with fuse := n.toNat } rfl ⟨rfl, rfl, rfl, rfl, rfl, rfl⟩ ⟨h.fits.top, h.fits.room, h.fits.made, h.fits.acts, (by show n.toNat ≤ _; omega), h.fits.keep, h.fits.late, h.fits.now, h.fits.safe, h.fits.nns, h.fits.nss, h.fits.files, h.fits.fresh⟩
    have hd2 := hd.cell 11 (.int .u64 k) { P with fuse := n.toNat, keep := k } rfl ⟨rfl, rfl, rfl, rfl, rfl, rfl⟩ ⟨h.fits.top, h.fits.room, h.fits.made, h.fits.acts, (by show n.toNat ≤ _; omega), hk, h.fits.late, h.fits.now, h.fits.safe, h.fits.nns, h.fits.nss, h.fits.files, h.fits.fresh⟩
    first | rw [show ((n.toNat : Nat) : Int) = 0 by omega] at hd2 | rw [show ((n.toNat : Nat) : Int) = n by omega] at hd2
    exact ⟨rfl, ⟨_, _, _, _, _, _, hd2.more (fun _ => .inl) (since_lt h.lt (by simp))⟩, apart_setCell (apart_setCell (.refl _ _) h.ins.1 _) h.ins.1 _⟩

/-! ### A nil disk -/

theorem find_nil (s : ByteArray) (w : World) : Calls Tryz.prog 64 #[.pointer none, .string s] w (fun e w' => e = .returned (.tuple #[.int .i64 0, .int .i64 2]) ∧ w' = w) := by
  go_enter Tryz.func64, Tryz.ntmps64
  go_wp2_with (go_at_call 40; refine (ready_nil _).mono ?_; rintro e w' ⟨rfl, rfl⟩)
  go_ret2
  exact ⟨rfl, rfl⟩

theorem free_nil (w : World) : Calls Tryz.prog 12 #[.pointer none] w (fun e w' => e = .returned (.int .i64 0) ∧ w' = w) := by
  go_enter Tryz.func12, Tryz.ntmps12
  go_wp2_with fail
  go_ret
  exact ⟨rfl, rfl⟩

theorem acts_nil (w : World) : Calls Tryz.prog 27 #[.pointer none] w (fun e w' => e = .returned (.int .i64 0) ∧ w' = w) := by
  go_enter Tryz.func27, Tryz.ntmps27
  go_wp2_with fail
  go_ret
  exact ⟨rfl, rfl⟩

theorem down_nil (w : World) : Calls Tryz.prog 16 #[.pointer none] w (fun e w' => e = .returned (.bool false) ∧ w' = w) := by
  go_enter Tryz.func16, Tryz.ntmps16
  go_wp2_with fail
  go_ret
  exact ⟨rfl, rfl⟩

theorem on_nil (w : World) : Calls Tryz.prog 17 #[.pointer none] w (fun e w' => e = .returned (.tuple #[]) ∧ w' = w) := by
  go_enter Tryz.func17, Tryz.ntmps17
  go_wp2_with fail
  go_end0
  exact ⟨rfl, rfl⟩

theorem arm_nil (n k : Int) (w : World) : Calls Tryz.prog 13 #[.pointer none, .int .i64 n, .int .u64 k] w (fun e w' => e = .returned (.tuple #[]) ∧ w' = w) := by
  go_enter Tryz.func13, Tryz.ntmps13
  go_wp2_with fail
  go_end0
  exact ⟨rfl, rfl⟩

theorem off_nil (k : Int) (w : World) : Calls Tryz.prog 20 #[.pointer none, .int .u64 k] w (fun e w' => e = .returned (.tuple #[]) ∧ w' = w) := by
  go_enter Tryz.func20, Tryz.ntmps20
  go_wp2_with (go_at_call 40; refine (ready_nil _).mono ?_; rintro e w' ⟨rfl, rfl⟩)
  go_end0
  exact ⟨rfl, rfl⟩

theorem count_nil (s : ByteArray) (w : World) : Calls Tryz.prog 38 #[.pointer none, .string s] w (fun e w' => e = .returned (.int .i64 0) ∧ w' = w) := by
  go_enter Tryz.func38, Tryz.ntmps38
  go_wp2_with (go_at_call 64; refine (find_nil _ _).mono ?_; rintro e w' ⟨rfl, rfl⟩)
  go_ret
  exact ⟨rfl, rfl⟩

theorem has_nil (s : ByteArray) (w : World) : Calls Tryz.prog 51 #[.pointer none, .string s] w (fun e w' => e = .returned (.bool false) ∧ w' = w) := by
  go_enter Tryz.func51, Tryz.ntmps51
  go_wp2_with (go_at_call 64; refine (find_nil _ _).mono ?_; rintro e w' ⟨rfl, rfl⟩)
  go_ret
  exact ⟨rfl, rfl⟩

theorem sync_nil (s : ByteArray) (w : World) : Calls Tryz.prog 62 #[.pointer none, .string s] w (fun e w' => e = .returned (.int .i64 2) ∧ Below w.heap.size w w') := by
  go_enter Tryz.func62, Tryz.ntmps62
  go_wp2_with (go_at_call 64; refine (find_nil _ _).mono ?_; rintro e w' ⟨rfl, rfl⟩)
  go_ret
  exact ⟨rfl, ((Below.refl _ _).alloc (Nat.le_refl _) _).alloc (by simp) _⟩

theorem rename_nil (s t : ByteArray) (w : World) : Calls Tryz.prog 63 #[.pointer none, .string s, .string t] w (fun e w' => e = .returned (.int .i64 2) ∧ Below w.heap.size w w') := by
  go_enter Tryz.func63, Tryz.ntmps63
  go_wp2_with (go_at_call 64; refine (find_nil _ _).mono ?_; rintro e w' ⟨rfl, rfl⟩)
  go_ret
  exact ⟨rfl, by first | exact (((Below.refl _ _).alloc (Nat.le_refl _) _).alloc (by simp) _).alloc (by simp; omega) _ | exact (((((Below.refl _ _).alloc (Nat.le_refl _) _).alloc (by simp) _).alloc (by simp; omega) _).alloc (by simp; omega) _)⟩

theorem remove_nil (s : ByteArray) (w : World) : Calls Tryz.prog 53 #[.pointer none, .string s] w (fun e w' => e = .returned (.int .i64 2) ∧ Below w.heap.size w w') := by
  go_enter Tryz.func53, Tryz.ntmps53
  go_wp2_with (go_at_call 64; refine (find_nil _ _).mono ?_; rintro e w' ⟨rfl, rfl⟩)
  go_ret
  exact ⟨rfl, ((Below.refl _ _).alloc (Nat.le_refl _) _).alloc (by simp) _⟩

theorem write_nil (s : ByteArray) (n : Int) (b : Value) (w : World) : Calls Tryz.prog 26 #[.pointer none, .string s, .int .i64 n, b] w (fun e w' => e = .returned (.int .i64 2) ∧ w' = w) := by
  go_enter Tryz.func26, Tryz.ntmps26
  go_wp2_with (go_at_call 40; refine (ready_nil _).mono ?_; rintro e w' ⟨rfl, rfl⟩)
  go_ret
  exact ⟨rfl, rfl⟩

theorem names_nil (w : World) : Calls Tryz.prog 21 #[.pointer none] w (fun e w' => e = .returned (.slice none 0 0) ∧ w' = w) := by
  go_enter Tryz.func21, Tryz.ntmps21
  go_wp2_with (go_at_call 40; refine (ready_nil _).mono ?_; rintro e w' ⟨rfl, rfl⟩)
  go_ret
  exact ⟨rfl, rfl⟩

theorem read_nil (s : ByteArray) (n : Int) (w : World) : Calls Tryz.prog 65 #[.pointer none, .string s, .int .i64 n] w (fun e w' => e = .returned (.tuple #[.slice none 0 0, .int .i64 2]) ∧ Below w.heap.size w w') := by
  go_enter Tryz.func65, Tryz.ntmps65
  go_wp2_with (go_at_call 64; refine (find_nil _ _).mono ?_; rintro e w' ⟨rfl, rfl⟩)
  go_ret2
  exact ⟨rfl, by first | exact Below.refl _ _ | exact (Below.refl _ _).alloc (Nat.le_refl _) _⟩

end Go.Proofs.YtkbmajgbhpecgaaGreatDoor.Cd

/-
  Rows of many cells: cells that are stored in one go, a page that is copied, a write that is appended. Conditions: none.
-/
namespace Go.Proofs.YtkbmajgbhpecgaaGreatDoor.Cd
open Go.RowKit

/-- Cells of a list that are others. -/
def laid (c : List Value) : Nat → List Value → List Value
  | _, [] => c
  | o, v :: r => laid (c.set o v) (o + 1) r
theorem laid_length (vs : List Value) : ∀ (c : List Value) (o : Nat), (laid c o vs).length = c.length := by
  induction vs with
  | nil => intro c o; rfl
  | cons v r ih => intro c o; rw [laid, ih, List.length_set]
theorem laid_at (vs : List Value) : ∀ (c : List Value) (o j : Nat), (laid c o vs)[j]? = if o ≤ j ∧ j < o + vs.length ∧ j < c.length then vs[j - o]? else c[j]? := by
  induction vs with
  | nil => intro c o j; rw [laid, if_neg (by simp; omega)]
  | cons v r ih =>
    intro c o j
    rw [laid, ih, List.length_set, List.length_cons]
    by_cases h1 : o + 1 ≤ j ∧ j < o + 1 + r.length ∧ j < c.length
    · rw [if_pos h1, if_pos (by omega), show j - o = j - (o + 1) + 1 by omega, List.getElem?_cons_succ]
    · rw [if_neg h1]
      by_cases h2 : j = o
      · subst h2
        by_cases h3 : j < c.length
        · rw [if_pos (by omega), Nat.sub_self, List.getElem?_cons_zero, List.getElem?_set_self h3]
        · rw [if_neg (by omega), List.getElem?_eq_none (by rw [List.length_set]; omega), List.getElem?_eq_none (by omega)]
      · rw [if_neg (by omega), List.getElem?_set_ne (fun e => h2 e.symm)]
theorem setCells_row (g : Nat) (T : TypeId) (vs : List Value) : ∀ (w : World) (c : List Value) (o : Nat), w.heap[g]? = some (.cells c.toArray T (0, 0)) → (w.setCells g o vs).heap[g]? = some (.cells (laid c o vs).toArray T (0, 0)) := by
  induction vs with
  | nil => intro w c o h; exact h
  | cons v r ih =>
    intro w c o h
    rw [World.setCells, laid]
    refine ih _ _ _ ?_
    have := heap_setCell_same w g o _ T v h
    rw [List.setIfInBounds_toArray] at this
    exact this
theorem setCells_grown (g : Nat) (vs : List Value) : ∀ (w : World) (o : Nat), w.grownBy (w.setCells g o vs) (some g) := by
  induction vs with
  | nil => intro w o; exact ⟨rfl, rfl, rfl, Nat.le_refl _, fun _ _ _ => rfl⟩
  | cons v r ih =>
    intro w o
    rw [World.setCells]
    have h1 : w.grownBy (w.setCell ⟨g, o, none⟩ v) (some g) := ⟨rfl, rfl, rfl, by simp, fun k _ hk => heap_setCell_other _ _ _ _ (fun e => hk (by rw [e]))⟩
    exact h1.trans (ih _ _)

theorem laid_mid (pre old post vs : List Value) (h : vs.length = old.length) : laid (pre ++ old ++ post) pre.length vs = pre ++ vs ++ post := by
  apply List.ext_getElem?
  intro j
  rw [laid_at]
  simp only [List.length_append]
  by_cases h1 : pre.length ≤ j ∧ j < pre.length + vs.length ∧ j < pre.length + old.length + post.length
  · rw [if_pos h1, List.append_assoc, List.getElem?_append_right h1.1, List.getElem?_append_left (by omega)]
  · rw [if_neg h1]
    by_cases h2 : j < pre.length
    · rw [List.append_assoc, List.getElem?_append_left h2, List.append_assoc, List.getElem?_append_left h2]
    · rw [List.getElem?_append_right (by simp; omega), List.getElem?_append_right (by simp; omega)]
      simp only [List.length_append, h]

theorem nought_len : nought.length = 512 := List.length_replicate

/-- What copy leaves of a page of noughts. -/
theorem wp_copy_pad {w : World} {ops : Array Oper} {rest : List Oper} {o : Oper} {a : Act} {Q : Exit → Act → World → Prop} (hgd : o.guard = none) (d x : Operand)
    (hop : o.op = Op.call { callee := Callee.builtin Builtin.copy, args := #[d, x], argTypes := #[49, 49] }) (g k i : Nat) (hrow : w.heap[g]? = some (.cells (wv k i nought) 112))
    (hd : a.eval d = .slice (some ⟨g, 2, none⟩) 512 512) (y : Value) (B : Nat) (bs : List UInt8) (hx : a.eval x = y) (hy : Sl w B y bs) (hb : bs.length ≤ 512)
    (hK : ∀ w' v, w'.heap[g]? = some (.cells (wv k i (pad bs)) 112) → w.grownBy w' (some g) → wpList Tryz.prog ops Q rest (a.put o.dst v) w') : wpList Tryz.prog ops Q (o :: rest) a w := by
  refine wpList_plain hgd fun K hK' => ?_
  obtain ⟨v, w', hrun, r1, r2⟩ : ∃ v w', (Builtin.copy_ #[49, 49] o.type #[.slice (some ⟨g, 2, none⟩) 512 512, y]).run Tryz.prog w = .ok v w' ∧ w'.heap[g]? = some (.cells (wv k i (pad bs)) 112) ∧ w.grownBy w' (some g) := by
    obtain ⟨A, c, rfl, h2, h3, h4, h5, h6⟩ := hy
    by_cases h0 : bs.length = 0
    · have hbs : bs = [] := List.eq_nil_of_length_eq_zero h0
      subst hbs
      exact ⟨_, _, run_copy_none w _ _ _ 5 _ _ _ _ _ _ Tryz.underlying49 (by kernel_rfl) (by simp), hrow, ⟨rfl, rfl, rfl, Nat.le_refl _, fun _ _ _ => rfl⟩⟩
    · cases A with
      | none => have := h4 rfl; omega
      | some ad =>
        have hcell : ∀ j, j < 514 → (w.cell? ⟨g, j, none⟩).isSome = true := fun j hj => by
          rw [cell_of_row _ _ _ _ _ _ hrow, Array.getElem?_eq_getElem (by rw [wv_size k i nought_len]; exact hj)]
          rfl
        have hrun := run_copy_cells (P := Tryz.prog) w 49 49 o.type 5 g 2 512 512 ad bs.length c (vb bs) Tryz.underlying49 (by kernel_rfl) (by rw [vb_length]; exact (Nat.min_eq_left hb).symm)
          (h6 ad rfl) (fun j hj => hcell _ (by rw [vb_length] at hj; omega)) (fun j hj => by simp [World.frozen?, hrow]) (vb_one bs)
        refine ⟨_, _, hrun, ?_, setCells_grown _ _ _ _⟩
        have h7 := setCells_row g _ (vb bs) w _ 2 hrow
        rw [h7]
        have hsp : (Value.int .i64 k :: Value.int .i64 i :: vb nought : List Value) = [Value.int .i64 k, Value.int .i64 i] ++ vb (List.replicate bs.length 0) ++ vb (List.replicate (512 - bs.length) 0) := by
          show _ = Value.int .i64 k :: Value.int .i64 i :: (vb (List.replicate bs.length 0) ++ vb (List.replicate (512 - bs.length) 0))
          rw [← vb_append, List.replicate_append_replicate, show bs.length + (512 - bs.length) = 512 by omega]
          rfl
        rw [hsp]
        have h8 := laid_mid [Value.int .i64 k, Value.int .i64 i] (vb (List.replicate bs.length 0)) (vb (List.replicate (512 - bs.length) 0)) (vb bs) (by simp [vb])
        rw [show ([Value.int .i64 k, Value.int .i64 i] : List Value).length = 2 from rfl] at h8
        rw [h8]
        unfold wv pad
        rw [vb_append]
        rfl
  unfold Oper.wp
  simp [execOp, hop, resolve, invoke, builtin, hd, hx, hrun, Result.andThen]
  exact hK' _ _ (hK w' v r1 r2)

theorem info_pw : (Tryz.prog.info? 112).map (fun i => (i.zero, i.size, i.bytes)) = some (some (.agg Tryz.zeroCells112), 514, 528) := by kernel_rfl
theorem zero_pw : Tryz.zeroCells112 = wv 0 0 nought := by kernel_rfl

theorem wv_one (f i : Nat) (p : List UInt8) : ∀ u ∈ (wv f i p).toList, u.oneCell' = true := by
  intro u hu
  rw [show (wv f i p).toList = Value.int .i64 f :: Value.int .i64 i :: vb p from rfl] at hu
  rcases List.mem_cons.1 hu with rfl | hu
  · rfl
  · rcases List.mem_cons.1 hu with rfl | hu
    · rfl
    · exact vb_one p u hu

/-- A write that lies in a block of its own is loaded whole. -/
theorem load_pw {b : Nat} {C : Array Value} (hC : C.size = 514) (W : World) (h : W.heap[b]? = some (.cells C 112)) : (Instr.loadAt 112 (.pointer (some ⟨b, 0, none⟩))).run Tryz.prog W = .ok (.agg C) W := by
  simp only [Instr.loadAt, Instr.sureAddr, Sem.run_bind, Sem.run_pure, Result.andThen]
  exact run_loadVar_row (P := Tryz.prog) W b _ 112 C _ _ h Tryz.underlying112 rfl (by rw [hC]; kernel_rfl)
theorem load_pw2 {b : Nat} {C : Array Value} (hC : C.size = 514) (W : World) (h : W.heap[b]? = some (.cells C 112)) : (loadCellsFrom ⟨b, 0, none⟩ 0 514 #[]).run Tryz.prog W = .ok C W := by
  have := run_loadCells_list (P := Tryz.prog) W ⟨b, 0, none⟩ C.toList (fun j v hv => by
    rw [Addr.add_lit, Nat.zero_add, cell_of_row _ _ _ _ _ _ h]
    simpa using hv)
  rw [Array.length_toList, hC] at this
  simpa [loadCells] using this

theorem run_load_pw {b : Nat} {C : Array Value} (hC : C.size = 514) (W : World) (h : W.heap[b]? = some (.cells C 112)) {op : Oper} {a : Act} (x : Operand) (ho : op.op = .load 112 x) (hx : a.eval x = .pointer (some ⟨b, 0, none⟩)) :
    (execOp a.eval op).run Tryz.prog W = .ok (.value (.agg C)) W := by
  have := run_loadVar_row (P := Tryz.prog) W b _ 112 C _ _ h Tryz.underlying112 rfl (by rw [hC]; kernel_rfl)
  unfold execOp
  simp only [ho, hx, Instr.loadAt, Instr.sureAddr, Sem.run_bind, Sem.run_pure, Result.andThen_ok, this]
theorem yieldsIf_load_pw {ops : Array Oper} {S : World → Prop} {op : Oper} {a : Act} (hw : Region.wanted op (yielded ops a.tmps) = true) (x : Operand) (ho : op.op = .load 112 x) (b : Nat) (hx : a.eval x = .pointer (some ⟨b, 0, none⟩))
    {C : Array Value} (hC : C.size = 514) (hS : ∀ w, S w → w.heap[b]? = some (.cells C 112)) : YieldsIf Tryz.prog ops S op (.agg C) a := .inl ⟨hw, fun w hw' => run_load_pw hC w (hS w hw') x ho hx⟩
/-- As a step of a region that draws. -/
theorem step_load_pw {ops : Array Oper} {op : Oper} {a : Act} {w : World} {K : Act → World → Prop} {Q : Exit → Act → World → Prop} {E : Prop} (hgd : op.guard = none) (x : Operand) (ho : op.op = .load 112 x) (b : Nat) (hx : a.eval x = .pointer (some ⟨b, 0, none⟩))
    {C : Array Value} (hC : C.size = 514) (h : w.heap[b]? = some (.cells C 112)) (hK : K (a.put op.dst (.agg C)) w) : if Region.wanted op (yielded ops a.tmps) = true then Oper.wp Tryz.prog op a w K Q else E := by
  have hw : Region.wanted op (yielded ops a.tmps) = true := by simp [Region.wanted, hgd]
  rw [if_pos hw]
  simp only [Oper.wp, run_load_pw hC w h x ho hx, Oper.upon]
  exact hK

theorem foldl_lay (l : List Value) : ∀ (k : Nat) (B : List Value), k + l.length ≤ B.length → (l.zipIdx k).foldl (fun cs x => Array.setIfInBounds cs (0 + x.2) x.1) B.toArray = (laid B k l).toArray := by
  induction l with
  | nil => intro k B _; rfl
  | cons v r ih =>
    intro k B h
    rw [List.length_cons] at h
    rw [List.zipIdx_cons, List.foldl_cons, laid, Nat.zero_add, List.setIfInBounds_toArray]
    exact ih (k + 1) (B.set k v) (by rw [List.length_set]; omega)
theorem laid_all (B l : List Value) (h : l.length = B.length) : laid B 0 l = l := by
  apply List.ext_getElem?
  intro j
  rw [laid_at]
  by_cases hj : j < l.length
  · rw [if_pos (by omega), Nat.sub_zero]
  · rw [if_neg (by omega), List.getElem?_eq_none (by omega), List.getElem?_eq_none (by omega)]

/-- []write of one write. -/
theorem run_build_one {C : Array Value} (hC : C.size = 514) (W : World) : (Instr.buildSlice 64 1 #[(0, .agg C)]).run Tryz.prog W = .ok (.slice (some ⟨W.heap.size, 0, none⟩) 1 1) (W.alloc (.cells C 112)) := by
  obtain ⟨l, rfl⟩ : ∃ l : List Value, C = l.toArray := ⟨C.toList, by simp⟩
  have hl : l.length = 514 := by simpa using hC
  have hb : ((Array.range (1 * 514)).map (Tryz.zeroCells112[· % Tryz.zeroCells112.size]!)) = (((List.range 514).map (Tryz.zeroCells112[· % Tryz.zeroCells112.size]!))).toArray := by
    rw [Nat.one_mul, ← List.toArray_range, List.map_toArray]
  have hz : (Value.agg Tryz.zeroCells112).cells = Tryz.zeroCells112 := rfl
  have hf : ∀ B : List Value, B.length = 514 → Instr.fill (fun i => some (i * 514, 514)) B.toArray [(0, .agg l.toArray)] = some l.toArray := by
    intro B hB
    unfold Instr.fill
    simp only [Nat.zero_mul, Value.cells, List.size_toArray, hl, hB, Nat.zero_add, ne_eq, not_true_eq_false, decide_false, Bool.false_or, Nat.lt_irrefl, gt_iff_lt, Bool.false_eq_true, if_false]
    unfold Instr.fill
    have := foldl_lay l 0 B (by omega)
    rw [laid_all B l (by omega)] at this
    simp only [Nat.zero_add] at this
    rw [← Array.foldl_toList, Array.toList_zipIdx]
    simp only []
    rw [this]
  unfold Instr.buildSlice
  rw [Sem.run_bind, run_underlying Tryz.underlying64, Result.andThen_ok]
  simp only
  rw [Sem.run_bind, Tryz.sizeOf112, Result.andThen_ok, if_neg (by decide), if_neg (by decide), Sem.run_bind]
  rw [Tryz.zeroValue112, Result.andThen_ok, Sem.run_bind, Sem.run_pure, Result.andThen_ok]
  simp only [hz]
  rw [hb, hf _ (by rw [List.length_map, List.length_range])]
  simp only [newRow, newObj, Sem.run_bind, Sem.run_pure]
  rfl

/-- .. as a step of a region that draws. -/
theorem step_build_pw {ops : Array Oper} {op : Oper} {a : Act} {w : World} {K : Act → World → Prop} {Q : Exit → Act → World → Prop} {E : Prop} (hgd : op.guard = none) (x : Operand) (ho : op.op = .buildSlice 64 1 #[(0, x)])
    {C : Array Value} (hx : a.eval x = .agg C) (hC : C.size = 514) (hK : K (a.put op.dst (.slice (some ⟨w.heap.size, 0, none⟩) 1 1)) (w.alloc (.cells C 112))) : if Region.wanted op (yielded ops a.tmps) = true then Oper.wp Tryz.prog op a w K Q else E := by
  have hw : Region.wanted op (yielded ops a.tmps) = true := by simp [Region.wanted, hgd]
  rw [if_pos hw]
  have hrun : (execOp a.eval op).run Tryz.prog w = .ok (.value (.slice (some ⟨w.heap.size, 0, none⟩) 1 1)) (w.alloc (.cells C 112)) := by
    unfold execOp
    simp only [ho, List.map_toArray, List.map_cons, List.map_nil, hx, Sem.run_bind, Sem.run_pure, Result.andThen_ok, run_build_one hC w]
  simp only [Oper.wp, hrun, Oper.upon]
  exact hK

/-- append of one write, as a step of a region that draws. -/
theorem step_append_pw {w : World} {ops : Array Oper} {o : Oper} {a : Act} {K : Act → World → Prop} {Q : Exit → Act → World → Prop} {E : Prop} (hgd : o.guard = none) (s x : Operand)
    (hop : o.op = .call { callee := .builtin .append, args := #[s, x], argTypes := #[64, 64] })
    (v : Value) (n : Nat) (xs : List Value) (hs : a.eval s = v) (ho : w.ownsRow 0 112 514 v n xs) (b f i : Nat) (p : List UInt8) (hp : p.length = 512) (hx : a.eval x = .slice (some ⟨b, 0, none⟩) 1 1) (hb : w.heap[b]? = some (.cells (wv f i p) 112))
    (hm : n ≤ 137438953472)
    (h : ∀ v' w', w'.ownsRow 0 112 514 v' (n + 1) (xs ++ (wv f i p).toList) → w.grownBy w' v.ownBlock → (v'.ownBlock = v.ownBlock ∨ v'.ownBlock = some w.heap.size) → K (a.put o.dst v') w') : if Region.wanted o (yielded ops a.tmps) = true then Oper.wp Tryz.prog o a w K Q else E := by
  have hw : Region.wanted o (yielded ops a.tmps) = true := by simp [Region.wanted, hgd]
  rw [if_pos hw]
  obtain ⟨i0, hi, hz0, hz1, hz2⟩ := info_parts info_pw
  obtain ⟨v', w', hrun, r1, r2, _, r3⟩ := run_append_own_at (P := Tryz.prog) w 0 64 o.type 112 i0 _ 514 528 Tryz.underlying64 hi hz0 hz1 hz2 (by rw [zero_pw]; exact wv_size 0 0 nought_len) (by omega) v n xs ho
    ⟨b, 0, none⟩ 1 1 (wv f i p).toList (by rw [Array.length_toList, wv_size f i hp]) (fun j u hu => by rw [Addr.add_lit, Nat.zero_add, cell_of_row _ _ _ _ _ _ hb]; simpa using hu) (wv_one f i p) (by simp only [maxLen]; omega) (by omega) (Nat.zero_le _)
  unfold Oper.wp
  simp [execOp, hop, resolve, invoke, builtin, hs, hx, hrun, Result.andThen]
  exact h v' w' r1 r2 r3

end Go.Proofs.YtkbmajgbhpecgaaGreatDoor.Cd
