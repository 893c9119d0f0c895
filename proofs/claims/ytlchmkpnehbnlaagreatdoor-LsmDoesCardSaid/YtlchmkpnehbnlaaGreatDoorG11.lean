/-
  A table's bytes: the program's and the document's. Conditions: not too many.
-/
import Derived.Test.YtlchmkpnehbnlaaGreatDoorG8
import Derived.Test.YtlchmkpnehbnlaaGreatDoorG7
import Derived.Test.YtlchmkpnehbnlaaGreatDoorG10
import Derived.Test.YtlchmkpnehbnlaaGreatDoorG6
import Derived.Deep.LoopGhost
import Derived.Test.YtlchmkpnehbnlaaGreatDoorG13
import Derived.Test.YtlchmkpnehbnlaaGreatDoorG3
import Derived.Deep.RegionHeld3
/-
  All and Get: a table's writes by rising keys, and that of a key. Conditions: not too many.
-/
namespace Go.Proofs.YtlchmkpnehbnlaaGreatDoor.Cd
open Go.RowKit Go.Maps Go.Shelf Go.Sort

def NewTb (w : World) (B : Nat) (v : Value) (l : List Wr) : Prop :=
  ∃ A c, v = .slice A l.length c ∧ l.length ≤ c ∧ c ≤ maxLen ∧ (A = none → c = 0) ∧
    (0 < l.length → ∃ g, A = some ⟨g, 0, none⟩ ∧ B ≤ g ∧ g < w.heap.size ∧ (∃ cs fr, w.heap[g]? = some (.cells cs 52 fr)) ∧ ∀ (i : Nat) p, l[i]? = some p → ∀ (j : Nat) x, (wrC p)[j]? = some x → w.cell? ⟨g, i * 3 + j, none⟩ = some x ∧ w.frozen? ⟨g, i * 3 + j, none⟩ = false)

theorem NewTb.tbIn {w : World} {B : Nat} {v : Value} {l : List Wr} (h : NewTb w B v l) : TbIn w w.heap.size v l := by
  obtain ⟨A, c, h1, h2, h3, h4, h5⟩ := h
  refine ⟨A, c, h1, h2, h3, h4, fun h0 => ?_⟩
  obtain ⟨g, e, _, hg, _, hc⟩ := h5 h0
  exact ⟨g, 0, e, hg, fun i p hi j x hx => by rw [Nat.zero_add]; exact (hc i p hi j x hx).1⟩

theorem holds_own {w : World} {g : Nat} {xs : List Wr} {cur : Array Value} (hg : w.heap[g]? = some (.cells cur 52 (0, 0))) (ht : cur.toList.take (xs.length * 3) = wrCs xs) :
    HoldsK wrC 3 w g 0 xs.toArray := by
  intro j hj
  have hj : j < xs.length * 3 := by simpa using hj
  have hcu : cur[j]? = (wrCs xs)[j]? := by
    rw [← ht, List.getElem?_take, if_pos hj]
    simp
  have hd : j / 3 < xs.length := by omega
  have hw : (wrC xs[j / 3])[j % 3]? = some ((wrC xs[j / 3])[j % 3]'(by rw [wrC_len]; omega)) := List.getElem?_eq_getElem _
  have hm := wrCs_at xs (j / 3) xs[j / 3] (List.getElem?_eq_getElem hd) (j % 3) _ hw
  rw [show j / 3 * 3 + j % 3 = j by omega] at hm
  have hc := cell_of_row w g j _ _ _ hg
  have hfl : (flatK wrC 3 xs.toArray)[j]! = (wrC xs[j / 3])[j % 3]'(by rw [wrC_len]; omega) := by
    rw [get_flatK _ _ _ _ (by simpa using hj)]
    rw [getElem!_pos xs.toArray (j / 3) (by simpa using hd)]
    rw [getElem!_pos (wrC _) (j % 3) (by rw [wrC_len]; omega)]
    simp
  refine ⟨?_, ?_⟩
  · rw [Nat.zero_add, hc, hcu, hm, hfl]
    rfl
  · simp [World.frozen?, hg]

theorem low_sorted {w : World} {B g n : Nat} {d : Array Wr} {os : Array Obj} (hB : B ≤ g) (hg : g < w.heap.size) : Below B w (sortWorldK wrC 3 w g 0 n d os) := by
  refine ⟨rfl, rfl, rfl, size_sortWorldK_c wrC 3 w g 0 n d os, fun k hk => ?_⟩
  unfold sortWorldK putRowK putRow mapBlock
  rw [heap_grow_old _ _ (by simp; omega)]
  simp only [heap_ahead]
  rw [Array.getElem?_modify, if_neg (by omega)]

theorem kind_sorted {w : World} {g n : Nat} {d : Array Wr} {os : Array Obj} {cur : Array Value} {T : TypeId} {fr : Nat × Nat} (hg : w.heap[g]? = some (.cells cur T fr)) : ∃ cs fr, (sortWorldK wrC 3 w g 0 n d os).heap[g]? = some (.cells cs T fr) := by
  have hlt := (Array.getElem?_eq_some_iff.1 hg).1
  unfold sortWorldK putRowK putRow mapBlock
  rw [heap_grow_old _ _ (by simp; omega)]
  simp only [heap_ahead]
  rw [Array.getElem?_modify, if_pos rfl, hg]
  exact ⟨_, _, rfl⟩

theorem sorted_is {T : List Wr} (hs : SrtW T) {xs : List Wr} (hx : xs.Perm T) {d : Array Wr} (hp : PermIn 0 xs.toArray.size xs.toArray d) (hd : SortedIn (ltOf cfW) 0 xs.toArray.size d) : d.toList = T := by
  obtain ⟨h1, _, h3⟩ := hp
  have hperm : d.toList.Perm T := by
    have e1 : (d.extract 0 xs.toArray.size) = d := by rw [← h1]; simp
    have e2 : (xs.toArray.extract 0 xs.toArray.size) = xs.toArray := by simp
    rw [e1, e2] at h3
    exact h3.trans (by simpa using hx)
  have hnd : d.toList.Nodup := hperm.nodup_iff.2 (srt_nodup hs)
  have hpw : d.toList.Pairwise fun a b => a.1 < b.1 := by
    rw [List.pairwise_iff_getElem]
    intro i j hi hj hij
    have hdi : i < d.size := by simpa using hi
    have hdj : j < d.size := by simpa using hj
    have h := hd i j (Nat.zero_le _) hij (by rw [← h1]; exact hdj)
    rw [ltOf_cfW, getElem!_pos d j hdj, getElem!_pos d i hdi] at h
    have hle : ¬ d[j].1 < d[i].1 := by simpa using h
    simp only [Array.getElem_toList]
    refine Decidable.byContradiction fun hn => ?_
    have hk := less_tri hn hle
    have hm : ∀ (k : Nat) (hk : k < d.size), d[k] ∈ T := fun k hk => hperm.mem_iff.1 (by simp)
    have := srt_key hs (hm i hdi) (hm j hdj) hk
    have hne := (List.nodup_iff_pairwise_ne.1 hnd)
    rw [List.pairwise_iff_getElem] at hne
    exact hne i j hi hj hij (by simpa using this)
  exact srt_ext hpw hs fun k => by
    cases h1 : getW d.toList k with
    | none =>
      cases h2 : getW T k with
      | none => rfl
      | some p =>
        have := getW_none.1 h1 p (hperm.mem_iff.2 (getW_mem h2))
        exact absurd (getW_key h2) this
    | some p =>
      have hm := hperm.mem_iff.1 (getW_mem h1)
      have := getW_of_mem hs hm
      rw [getW_key h1] at this
      rw [this]

theorem agg_wr (w : World) : (isAgg (Tryz.sortf154_ren.t 24)).run Tryz.prog w = .ok true w := by
  have h : (isAgg 52).run Tryz.prog w = .ok true w := by
    simp [isAgg, run_underlying Tryz.underlying52]
  exact h
theorem size_wr (w : World) : (Go.sizeOf (Tryz.sortf154_ren.t 24)).run Tryz.prog w = .ok 3 w := by
  obtain ⟨i0, hi, _, hz1, _⟩ := info_parts info_wr
  have h : (Go.sizeOf 52).run Tryz.prog w = .ok 3 w := by
    simp [Go.sizeOf, typeInfo, hi, hz1]
  exact h

set_option maxRecDepth 100000 in
theorem sort_tb (v : Value) (xs T : List Wr) (w : World) (B : Nat) (ho : OwnTb w B v xs) (hs : SrtW T) (hx : xs.Perm T) (hl : T.length < 1099511627776) :
    Calls Tryz.prog 154 #[v, .func (.func 115) #[] #[]] w fun e w' => e = .returned (.tuple #[]) ∧ NewTb w' B v T ∧ Below B w w' := by
  have hlen := hx.length_eq
  rcases ho.2 with ⟨rfl, h0⟩ | ⟨g, cap, cur, rfl, hBg, hg, hn, hm, hcs, htk⟩
  · have hT : T = [] := List.eq_nil_of_length_eq_zero (by omega)
    subst hT
    refine (AnyF.slices_SortFunc_none Tryz.sortf154 none 0 (.func (.func 115) #[] #[]) w).mono ?_
    rintro e w' ⟨rfl, h⟩
    obtain rfl := h.symm
    exact ⟨rfl, ⟨none, 0, rfl, Nat.le_refl _, Nat.zero_le _, fun _ => rfl, fun h => by simp at h⟩, Below.refl _ _⟩
  · have hgl := (Array.getElem?_eq_some_iff.1 hg).1
    have hH := holds_own hg htk
    have hsz : xs.toArray.size = xs.length := by simp
    have h := AnyQ.slices_SortFunc (α := Wr) Tryz.sortf154 3 agg_wr size_wr wrC wrC_len wrC_one cfW swoW 115 #[] g 0 cap xs.toArray w
      (enters_of Tryz.func115 (by kernel_rfl) rfl) (fun m os dk _ x y => less_any x y _) hH hgl (by rw [hsz]; omega)
    rw [hsz] at h
    refine h.mono ?_
    rintro e w' ⟨rfl, d', n, os, hp, hd, rfl⟩
    have hd1 := hp.1
    have hT := sorted_is hs hx (by rw [hsz]; exact hp) (by rw [hsz]; exact hd)
    have hK := holdsK_sortWorldK_c wrC 3 w g 0 xs.toArray d' n os hH hgl hd1
    have hds : d'.size = T.length := by rw [← hT]; simp
    refine ⟨rfl, ⟨some ⟨g, 0, none⟩, cap, by rw [hlen], by omega, hm, (fun h => by cases h), fun _ => ⟨g, rfl, hBg, Nat.lt_of_lt_of_le hgl (size_sortWorldK_c wrC 3 w g 0 n d' os), kind_sorted hg, fun i p hi j x hj => ?_⟩⟩, low_sorted hBg hgl⟩
    obtain ⟨hi1, hi2⟩ := List.getElem?_eq_some_iff.1 hi
    obtain ⟨hj1, hj2⟩ := List.getElem?_eq_some_iff.1 hj
    have hc := hK.cell (i := i) (c := j) (by rw [hds]; exact hi1) hj1
    rw [Nat.zero_add] at hc
    have e1 : d'[i]! = p := by
      rw [getElem!_pos d' i (by rw [hds]; exact hi1), ← hi2]
      have : d'[i]'(by rw [hds]; exact hi1) = d'.toList[i]'(by simpa using (by rw [hds]; exact hi1 : i < d'.size)) := by simp
      rw [this]
      simp only [hT]
    rw [e1, getElem!_pos (wrC p) j hj1, hj2] at hc
    exact hc

end Go.Proofs.YtlchmkpnehbnlaaGreatDoor.Cd

/-
  A table's map, Get, All. Conditions: not too many.
-/
namespace Go.Proofs.YtlchmkpnehbnlaaGreatDoor.Cd
open Go.RowKit Go.Maps Go.Shelf Go.Sort

def MapV (w : World) (v : Value) (T : List Wr) : Prop := (v = .map none ∧ T = []) ∨ ∃ b, v = .map (some b) ∧ TabM w b T
theorem MapV.below {w w' : World} {v : Value} {T : List Wr} (h : MapV w v T) (hb : Below w.heap.size w w') : MapV w' v T := by
  rcases h with h | ⟨b, h1, h2⟩
  · exact .inl h
  · exact .inr ⟨b, h1, h2.below hb⟩

set_option maxRecDepth 100000 in
set_option maxHeartbeats 1600000 in
theorem held_was (v : Value) (T : List Wr) (w0 w : World) (h : TabV w0 v T) (hb : Below w0.heap.size w0 w) : Calls Tryz.prog 114 #[v] w fun e w' => ∃ m, e = .returned m ∧ MapV w0 m T ∧ w' = w := by
  rcases h with ⟨rfl, hT⟩ | ⟨g, rfl, b, hg, hc, hm⟩
  · have HT := Lib.hid hT
    clear hT hb
    go_enter Tryz.func114, Tryz.ntmps114
    go_wp2_with fail
    go_ret
    exact ⟨_, rfl, .inl ⟨rfl, HT.out⟩, rfl⟩
  · have HM := Lib.hid hm
    have hc2 : w.cell? ⟨g, 0, none⟩ = some (.map (some b)) := (hb.cell (p := ⟨g, 0, none⟩) hg).trans hc
    clear hm hc hb
    go_enter Tryz.func114, Tryz.ntmps114
    go_wp2_with fail
    go_ret
    exact ⟨_, rfl, .inr ⟨b, rfl, HM.out⟩, rfl⟩
theorem held_any (v : Value) (T : List Wr) (w : World) (h : TabV w v T) : Calls Tryz.prog 114 #[v] w fun e w' => ∃ m, e = .returned m ∧ MapV w m T ∧ w' = w := held_was v T w w h (Below.refl _ _)

theorem results_wr {fn : Func} {p u : Tmp} (h : fn.results = #[.cell p 52, .tmp u]) (tmps : Array Value) (w : World) (g : Nat) (x y z : Value) (fr : Nat × Nat) (r : Value)
    (hp : tmps.getD p undef = .pointer (some ⟨g, 0, none⟩)) (hr : tmps.getD u undef = r) (hg : w.heap[g]? = some (.cells #[x, y, z] 52 fr)) :
    (results fn tmps).run Tryz.prog w = .ok (.tuple #[.agg #[x, y, z], r]) w := by
  rw [results_cell_tmp h, hp, hr]
  simp [asAddr, Result.andThen, run_loadVar_row (P := Tryz.prog) w g _ _ _ fr _ hg Tryz.underlying52 rfl (by kernel_rfl)]
theorem wr_row {w : World} {g : Nat} {a b c x y z : Value} {T : TypeId} {fr : Nat × Nat} (h : w.heap[g]? = some (.cells #[a, b, c] T fr)) :
    (((w.setCell ⟨g, 0, none⟩ x).setCell ⟨g, 1, none⟩ y).setCell ⟨g, 2, none⟩ z).heap[g]? = some (.cells #[x, y, z] T fr) := by
  simp [World.setCell, Array.getElem?_modify, h]
theorem values_any (m : Value) (T : List Wr) (w : World) (hm : MapV w m T) :
    CallsIn Fence.wide 5 Tryz.prog 113 #[m] w fun e w' => e = .returned (.func (.func 155) #[] #[.pointer (some ⟨w.heap.size, 0, none⟩)]) ∧ w' = w.alloc (.cells #[m] 104) := by
  rcases hm with ⟨rfl, _⟩ | ⟨b, rfl, _⟩
  · exact (callsIn_wide (n := 5)).2 ((callsIn_wide (n := 2)).1 (values_tb none w))
  · exact (callsIn_wide (n := 5)).2 ((callsIn_wide (n := 2)).1 (values_tb (some b) w))

set_option maxRecDepth 100000 in
set_option maxHeartbeats 3200000 in
theorem sorted_tb (m : Value) (T : List Wr) (w w1 : World) (Bm : Nat) (hm : MapV w m T) (hw1 : w1 = w.alloc (.cells #[m] 104)) (hB : Bm = w.heap.size) (hl : T.length < 1099511627775) :
    CallsIn Fence.wide 5 Tryz.prog 112 #[.func (.func 155) #[] #[.pointer (some ⟨Bm, 0, none⟩)], .func (.func 115) #[] #[]] w1 fun e w' => ∃ v, e = .returned v ∧ NewTb w' w1.heap.size v T ∧ Below w1.heap.size w1 w' := by
  have hm1 : MapV w1 m T := by rw [hw1]; exact hm.below ((Below.refl _ _).alloc (Nat.le_refl _) _)
  have hc : w1.cell? ⟨Bm, 0, none⟩ = some m := by rw [hw1, hB]; exact cell_of_row _ _ 0 _ _ _ (heap_alloc_new _ _)
  have hBm : Bm < w1.heap.size := by rw [hw1, hB]; simp
  have hseq : SeqGives Fence.wide 2 Tryz.prog 155 #[.pointer (some ⟨Bm, 0, none⟩)] wrV (fun xs => xs.Perm T) T.length w1 := by
    rcases hm1 with ⟨rfl, rfl⟩ | ⟨b, rfl, hM⟩
    · exact vals_nil Bm w1 hBm hc 2
    · exact vals_gives Bm b T w1 hBm hc hM 2 (by omega)
  have hsrt : SrtW T := by
    rcases hm1 with ⟨rfl, rfl⟩ | ⟨b, rfl, hM⟩
    · exact List.Pairwise.nil
    · exact hM.2.1
  have hcol := Lib.hid (collect_tb 4 (by omega) 155 #[.pointer (some ⟨Bm, 0, none⟩)] (enters_of Tryz.func155 (by kernel_rfl) rfl) _ T.length (by omega) w1 hseq)
  have HS := Lib.hid hsrt
  clear hseq hsrt hm1 hm hw1 hc hB
  have hfA : Fence.wide.fn 153 := trivial
  have hfB : Fence.wide.fn 154 := trivial
  refine callsIn_of_wp Tryz.func112 rfl trivial ?_ rfl
  simp only [Tryz.ntmps112, List.size_toArray, List.length_cons, List.length_nil, Nat.reduceAdd, Nat.reduceSub, Array.replicate_succ, Array.replicate_zero, List.push_toArray, List.append_toArray, List.nil_append, List.cons_append]
  gi_wp2_with (first
    | (gi_at_call 153; refine hcol.out.mono ?_; rintro e w2 ⟨v, xs, rfl, hS, ho, hb⟩; have CS := Lib.hid (callsIn_wide (n := 4) |>.2 (sort_tb v xs T w2 w1.heap.size ho HS.out hS (by omega))); have HB2 := Lib.hid hb; clear hS ho hb)
    | (gi_at_call 154; refine CS.out.mono ?_; rintro e w3 ⟨rfl, hn, hb3⟩))
  go_ret
  exact ⟨_, rfl, hn, HB2.out.trans hb3⟩

def Alls (w : World) (T : List Wr) (e : Ending) (w' : World) : Prop := ∃ v, e = .returned v ∧ NewTb w' w.heap.size v T ∧ Below w.heap.size w w'

theorem NewTb.lower {w : World} {B B' : Nat} {v : Value} {l : List Wr} (h : NewTb w B v l) (hB : B' ≤ B) : NewTb w B' v l := by
  obtain ⟨A, c, h1, h2, h3, h4, h5⟩ := h
  refine ⟨A, c, h1, h2, h3, h4, fun h0 => ?_⟩
  obtain ⟨g, e, hg, r⟩ := h5 h0
  exact ⟨g, e, Nat.le_trans hB hg, r⟩

set_option maxRecDepth 100000 in
set_option maxHeartbeats 1600000 in
theorem tall_any (v : Value) (T : List Wr) (w : World) (h : TabV w v T) (hl : T.length < 1099511627775) : Calls Tryz.prog 67 #[v] w (Alls w T) := by
  have CH := Lib.hid (callsIn_wide (n := 5) |>.2 (held_any v T w h))
  have hfA : Fence.wide.fn 114 := trivial
  have hfB : Fence.wide.fn 113 := trivial
  have hfC : Fence.wide.fn 112 := trivial
  clear h
  refine (callsIn_wide (n := 6)).1 ?_
  refine callsIn_of_wp Tryz.func67 rfl trivial ?_ rfl
  simp only [Tryz.ntmps67, List.size_toArray, List.length_cons, List.length_nil, Nat.reduceAdd, Nat.reduceSub, Array.replicate_succ, Array.replicate_zero, List.push_toArray, List.append_toArray, List.nil_append, List.cons_append]
  gi_wp2_with (first
    | (gi_at_call 114; refine CH.out.mono ?_; rintro e w2 ⟨m, rfl, hm, h⟩; obtain rfl := h.symm; have CV := Lib.hid (values_any m T w hm); have CS := Lib.hid (sorted_tb m T w _ _ hm rfl rfl hl); clear hm)
    | (gi_at_call 113; refine CV.out.mono ?_; rintro e w2 ⟨rfl, h2⟩; obtain rfl := h2; clear CV)
    | (gi_at_call 112; refine CS.out.mono ?_; rintro e w3 ⟨v3, rfl, hn, hb⟩))
  go_ret
  have hb0 : Below w.heap.size w (w.alloc (.cells #[m] 104)) := (Below.refl _ _).alloc (Nat.le_refl _) _
  exact ⟨_, rfl, hn.lower hb0.size, hb0.trans (hb.mono hb0.size)⟩

end Go.Proofs.YtlchmkpnehbnlaaGreatDoor.Cd

/-
  Merge: a table of tables. Conditions: not too many.
-/
namespace Go.Proofs.YtlchmkpnehbnlaaGreatDoor.Cd
open Go.RowKit Go.Maps Go.Shelf Go.Sort

set_option maxRecDepth 100000 in
set_option maxHeartbeats 1600000 in
theorem gone_any (c : Wr) (k : Value) (w : World) : Calls Tryz.prog 122 #[k, .agg #[.string ⟨c.1.toArray⟩, .string ⟨c.2.1.toArray⟩, .bool c.2.2]] w fun e w' => e = .returned (.bool c.2.2) ∧ w' = w.alloc (.cells #[.string ⟨c.1.toArray⟩, .string ⟨c.2.1.toArray⟩, .bool c.2.2] 52) := by
  go_enter Tryz.func122, Tryz.ntmps122
  go_wp2_with fail
  go_ret
  exact ⟨rfl, rfl⟩

def midW (T : List Wr) (left : Lit → Bool) (x : List UInt8) : Option Wr := (getW T x).bind fun p => if p.2.2 && !left (.string x) then none else some p
theorem midW_start {T : List Wr} {left : Lit → Bool} (h : ∀ p ∈ T, left (.string p.1) = true) (x : List UInt8) : midW T left x = getW T x := by
  unfold midW
  cases hg : getW T x with
  | none => rfl
  | some p =>
    have := h p (getW_mem hg)
    rw [getW_key hg] at this
    simp [this]
theorem midW_end {T : List Wr} {left : Lit → Bool} (hs : SrtW T) (h : ∀ z, left z = false) (x : List UInt8) : midW T left x = getW (keepW true T) x := by
  rw [getW_keep hs]
  unfold midW
  simp [h]
theorem midW_step {T : List Wr} {left : Lit → Bool} {c : Wr} (hc : getW T c.1 = some c) (x : List UInt8) :
    midW T (fun z => left z && !z.sameKey (.string c.1)) x = if x = c.1 then (if c.2.2 then none else some c) else midW T left x := by
  unfold midW
  by_cases e : x = c.1
  · subst e
    rw [hc, if_pos rfl]
    simp [Lit.sameKey]
  · rw [if_neg e]
    have : (Lit.string x).sameKey (.string c.1) = false := by simpa [Lit.sameKey] using e
    simp [this]
def goneN (l : List Wr) : Nat := (l.filter fun w => w.2.2).length
theorem keep_len (T : List Wr) : (keepW true T).length + goneN T = T.length := by
  unfold keepW goneN
  induction T with
  | nil => rfl
  | cons p r ih =>
    simp only [Bool.not_true, Bool.false_or] at ih ⊢
    rw [List.filter_cons, List.filter_cons]
    cases hp : p.2.2 <;> simp <;> omega

set_option maxRecDepth 100000 in
set_option maxHeartbeats 3200000 in
theorem delete_tb (b : Nat) (T : List Wr) (w : World) (hd : TabM w b T) :
    Calls Tryz.prog 121 #[.map (some b), .func (.func 122) #[] #[]] w fun e w' => e = .returned (.tuple #[]) ∧ TabM w' b (keepW true T) ∧ w.grownBy w' (some b) := by
  have hbd := hd.lt
  have HD := Lib.hid hd
  obtain ⟨⟨D, hown, hsz, hat⟩, hsr, hfl, hft⟩ := hd
  have HAT := Lib.hid hat
  have HS := Lib.hid hsr
  have hst : ∀ p ∈ T, Maps.has D (.string p.1) = true := fun p hp => by
    have := MapF.has (M := wrK) (hat p.1 (hft p hp).key)
    rw [getW_of_mem hsr hp] at this
    exact this
  have HST : Hid (Gath T (Maps.has D) []) := Gath.start hst
  have hq0 : Hid (∀ x, wrK.ok x → ∀ z, D.atKey (wrK.lit x) z = ((midW T (Maps.has D) x).map wrK.dat).getD z) := fun x hx z => by rw [midW_start hst]; exact hat x hx z
  have hsz0 : Hid (Maps.size D = T.length) := hsz
  clear hat hsr hfl hft hst hsz
  go_enter Tryz.func121, Tryz.ntmps121
  go_wp2_with (at_range; refine wpList_range_own _ rfl _ 104 rfl 9 52 wrK.law wrK.under wrR b T.length D rfl hown ?_; intro w0 hrg0 hg0 hs0)
  go_frame
  have hG0 : Hid (w.grownBy w0 (some b)) := hg0.but _
  clear hs0 hg0
  go_loopw [4, 5] (fun _ _ wr => ∃ (left : Lit → Bool) (cnt : Nat) (xs : List Wr) (Dc : DataW Unit), wr.ranges Tryz.prog 9 wrR b w.heap.size T.length Dc left cnt ∧ Hid (Maps.size Dc + goneN xs = T.length) ∧ Hid (Gath T left xs) ∧ Hid (∀ x, wrK.ok x → ∀ z, Dc.atKey (wrK.lit x) z = ((midW T left x).map wrK.dat).getD z) ∧ Hid (w.grownBy wr (some b))) (fun _ _ wr => wr.rangeLeft b w.heap.size)
  case atStart => exact ⟨_, _, [], D, hrg0, by unfold Hid; rw [hsz0.out]; rfl, HST.out, hq0.out, hG0.out⟩
  case round =>
    obtain ⟨left, cnt, xs, Dc, hrg, hcs, hC, hQ, hG⟩ := hrel
    go_wp2_with (at_next; refine wpList_next_ranges _ rfl _ rfl 9 wrK.law wrR encStr wrV (fun key kl hk => by obtain ⟨x, hx, _⟩ := Maps.keyOf_str Tryz.underlying9 hk; exact ⟨x, hx⟩) (fun v y hv => by obtain ⟨c, rfl, _⟩ := wrR_inv hv; exact ⟨c, rfl⟩) b w.heap.size T.length _ _ _ rfl hrg ?_ ?_)
    · intro hc0 hl0
      have hxs := hC.out.all HS.out hl0
      have hfin : Hid (TabM wr b (keepW true T)) := by
        have hgn : goneN xs = goneN T := (hxs.filter _).length_eq
        have h1 := keep_len T
        have h2 := hcs.out
        have hlen : Maps.size Dc = (keepW true T).length := by omega
        have ho := ownsMap_tight hrg.owns
        rw [hlen] at ho
        exact ⟨⟨Dc, ho, hlen, fun x hx z => by rw [← midW_end HS.out hl0]; exact hQ.out x hx z⟩, keep_srt HD.out.2.1 _, keep_flat HD.out.2.2.1 _, fun p hp => HD.out.2.2.2 p (List.mem_filter.1 hp).1⟩
      clear hxs hQ hcs
      go_wp2_with fail
      go_end0
      exact ⟨rfl, hfin.out, hG.out⟩
    · intro x c kl yd yp w2 cnt2 hkey hlk hv hat2 hrg2 hlt hg2 hs2 hen
      obtain ⟨x', ex, rfl, hwx⟩ := Maps.keyOf_str Tryz.underlying9 hkey
      obtain rfl : x = x' := encStr_inj ex
      have hcT : c ∈ T ∧ c.1 = x := by
        rw [wrR_val] at hv
        simp only [Option.some.injEq, Prod.mk.injEq] at hv
        obtain ⟨rfl, _⟩ := hv
        have hq := hQ.out x hwx
        have h1 := (hat2 (.lit (.bool true))).symm.trans (hq (.lit (.bool true)))
        have h2 := (hat2 (.lit (.bool false))).symm.trans (hq (.lit (.bool false)))
        cases hm : midW T left x with
        | none => rw [hm] at h1 h2; rw [h1] at h2; cases h2
        | some p =>
          rw [hm] at h1
          have e2 := wrD_inj (show wrD c = wrD p from h1)
          subst e2
          unfold midW at hm
          cases hg : getW T x with
          | none => rw [hg] at hm; cases hm
          | some q =>
            rw [hg] at hm
            have : q = c := by
              simp only [Option.bind_some] at hm
              split at hm
              · cases hm
              · injection hm
            subst this
            exact ⟨getW_mem hg, getW_key hg⟩
      obtain ⟨hcT, hcx⟩ := hcT
      subst hcx
      have hgc := getW_of_mem HS.out hcT
      have hC2 := Lib.hid (hC.out.step HS.out hcT hlk)
      have hz : w.heap.size ≤ wr.heap.size := hG.out.size
      have hgn : goneN (xs ++ [c]) = goneN xs + if c.2.2 = true then 1 else 0 := by
        unfold goneN
        rw [List.filter_append, List.length_append]
        cases hc2 : c.2.2 <;> simp [hc2]
      have hgw := hG.out.andThen hg2 (fun j e => by injection e with e; exact .inl (by omega))
      have hhas : Maps.has Dc (.string c.1) = true := by
        have := MapF.has (M := wrK) (q := midW T left) (hQ.out c.1 hwx)
        have hm : midW T left c.1 = some c := by unfold midW; rw [hgc, Option.bind_some, hlk]; simp
        rw [hm] at this
        exact this
      have htd := hrg2.owns.tidy wrK.law
      have hsd : Maps.size (Dc.del (.string c.1)) + 1 = Maps.size Dc := by
        have := Maps.size_del (k := .string c.1) htd
        rw [hhas, if_pos rfl] at this
        exact this
      have HGC := Lib.hid hgc
      have HGN := Lib.hid hgn
      have HSD := Lib.hid hsd
      have HGW := Lib.hid hgw
      have HK := Lib.hid hkey
      have HWX := Lib.hid hwx
      have HLK := Lib.hid hlk
      have hms : Hid (cnt2 < wr.rangeLeft b w.heap.size) := by unfold Hid; rw [hrg.left_eq]; exact hlt
      have hrg3 := (hrg2.kept (World.grownBy_alloc w2 (.cells #[.string ⟨c.1.toArray⟩, .string ⟨c.2.1.toArray⟩, .bool c.2.2] 52) none) (by simp) (by simp)).kept (World.grownBy_alloc (w2.alloc (.cells #[.string ⟨c.1.toArray⟩, .string ⟨c.2.1.toArray⟩, .bool c.2.2] 52)) (.cells #[.string ⟨c.1.toArray⟩, .string ⟨c.2.1.toArray⟩, .bool c.2.2] 52) none) (by simp) (by simp)
      have hg3 := (hgw.andThen (World.grownBy_alloc w2 (.cells #[.string ⟨c.1.toArray⟩, .string ⟨c.2.1.toArray⟩, .bool c.2.2] 52) none) (fun j e => by cases e)).andThen (World.grownBy_alloc (w2.alloc (.cells #[.string ⟨c.1.toArray⟩, .string ⟨c.2.1.toArray⟩, .bool c.2.2] 52)) (.cells #[.string ⟨c.1.toArray⟩, .string ⟨c.2.1.toArray⟩, .bool c.2.2] 52) none) (fun j e => by cases e)
      have CG := fun W => Lib.hid (gone_any c (.string ⟨c.1.toArray⟩) W)
      have HRG3 := Lib.hid hrg3
      have HG3 := Lib.hid hg3
      clear hs2 hv hat2 hkey hlk hcT hrg hrg2 hC hG hg2 hlt hgc hgn hgw hhas htd hsd hrg3 hg3 hwx
      unfold wrV at hen ⊢
      obtain ⟨go, hgo⟩ : ∃ g, c.2.2 = g := ⟨_, rfl⟩
      cases go
      · have hq2 : Hid (∀ x, wrK.ok x → ∀ z, Dc.atKey (wrK.lit x) z = ((midW T (fun z => left z && !z.sameKey (.string c.1)) x).map wrK.dat).getD z) := fun x hx z => by
          rw [midW_step HGC.out, hgo]
          split
          · rename_i e
            have := hQ.out x hx z
            unfold midW at this
            rw [e, HGC.out, Option.bind_some, HLK.out] at this
            rw [e]
            simpa using this
          · exact hQ.out x hx z
        have hcs2 : Hid (Maps.size Dc + goneN (xs ++ [c]) = T.length) := by have := hcs.out; unfold Hid; rw [HGN.out, hgo]; exact this
        clear hQ hcs HGN HSD
        rw [hgo] at hen HRG3 HG3 CG ⊢
        go_wp2_with (go_at_call 122; refine (CG _).out.mono ?_; rintro e w3 ⟨rfl, h3⟩; obtain rfl := h3)
        go_roundw
        case rel => exact ⟨_, cnt2, xs ++ [c], Dc, HRG3.out, hcs2, hC2, hq2, HG3.out⟩
        case measure => rw [HRG3.out.left_eq]; exact hms.out
      · have hq2 : Hid (∀ x, wrK.ok x → ∀ z, (Dc.del (.string c.1)).atKey (wrK.lit x) z = ((midW T (fun z => left z && !z.sameKey (.string c.1)) x).map wrK.dat).getD z) := fun x hx z => by
          rw [midW_step HGC.out, hgo]
          split
          · rename_i e
            subst e
            rw [show (wrK.lit c.1) = .string c.1 from rfl, Maps.atKey_del_same]
            rfl
          · rename_i e
            have hne : wrK.lit x ≠ wrK.lit c.1 := fun hl => e (wrK.lit_one hx HWX.out hl)
            exact Eq.trans (Maps.atKey_del_other (D := Dc) hne _) (hQ.out x hx z)
        have hcs2 : Hid (Maps.size (Dc.del (.string c.1)) + goneN (xs ++ [c]) = T.length) := by have h1 := hcs.out; have h2 := HSD.out; unfold Hid; rw [HGN.out, hgo, if_pos rfl]; omega
        clear hQ hcs HGN HSD
        rw [hgo] at hen HRG3 HG3 CG ⊢
        go_wp2_with (first
          | (go_at_call 122; refine (CG _).out.mono ?_; rintro e w3 ⟨rfl, h3⟩; obtain rfl := h3)
          | (at_delete; refine wpList_delete_ranges _ rfl _ _ 104 9 rfl 52 wrK.law wrK.under wrR b w.heap.size T.length _ _ _ rfl HRG3.out _ _ rfl HK.out ?_; intro w5 cnt5 hrg5 hle hturn; go_frame))
        rw [strike_twice] at hrg5
        have HRG5 := Lib.hid hrg5
        have HG5 := Lib.hid (HG3.out.andThen hturn.grown (fun j hj => .inr hj))
        clear hrg5 hturn
        go_roundw
        case rel => exact ⟨_, cnt5, xs ++ [c], _, HRG5.out, hcs2, hC2, hq2, HG5.out⟩
        case measure => rw [HRG5.out.left_eq]; exact Nat.lt_of_le_of_lt hle hms.out

def TabsIn (w : World) (B : Nat) (v : Value) (Ts : List (List Wr)) : Prop :=
  ∃ A c, v = .slice A Ts.length c ∧ Ts.length ≤ c ∧ c ≤ maxLen ∧
    (0 < Ts.length → ∃ b off, A = some ⟨b, off, none⟩ ∧ b < B ∧ ∀ (i : Nat) T, Ts[i]? = some T → ∃ u, TabV w u T ∧ w.cell? ⟨b, off + i, none⟩ = some u)
section
variable {w w' : World} {B : Nat} {v : Value} {Ts : List (List Wr)}
theorem TabsIn.len (h : TabsIn w B v Ts) : ∃ A c, v = .slice A Ts.length c ∧ Ts.length ≤ c ∧ c ≤ 9223372036854775807 := by
  obtain ⟨A, c, h1, h2, h3, _⟩ := h
  exact ⟨A, c, h1, h2, h3⟩
theorem TabsIn.at {A : Option Addr} {n c : Nat} (h : TabsIn w B (.slice A n c) Ts) {k : Nat} {T : List Wr} (hk : Ts[k]? = some T) :
    ∃ b off u, A = some ⟨b, off, none⟩ ∧ b < B ∧ TabV w u T ∧ w.cell? ⟨b, off + k, none⟩ = some u := by
  obtain ⟨A0, c0, e, _, _, h5⟩ := h
  injection e with e1 e2 e3
  have hlt := (List.getElem?_eq_some_iff.1 hk).1
  obtain ⟨b, off, e, hB, hc⟩ := h5 (by omega)
  obtain ⟨u, h6, h7⟩ := hc k T hk
  exact ⟨b, off, u, e1.trans e, hB, h6, h7⟩
end
theorem ofW_flat_take {Ts : List (List Wr)} {k : Nat} {T : List Wr} (h : Ts[k]? = some T) : ofW (Ts.take (k + 1)).flatten = ofFrom (ofW (Ts.take k).flatten) T := by
  obtain ⟨hk, rfl⟩ := List.getElem?_eq_some_iff.1 h
  rw [List.take_succ_eq_append_getElem hk, List.flatten_append]
  unfold ofW
  rw [ofFrom_append]
  simp
theorem flatG_take_len {Ts : List (List Wr)} {k : Nat} {T : List Wr} (h : Ts[k]? = some T) : (Ts.take k).flatten.length + T.length ≤ Ts.flatten.length := by
  obtain ⟨hk, rfl⟩ := List.getElem?_eq_some_iff.1 h
  have h1 : Ts.flatten.length = ((Ts.take k).flatten ++ (Ts.drop k).flatten).length := by rw [← List.flatten_append, List.take_append_drop]
  rw [h1, List.length_append, List.drop_eq_getElem_cons hk, List.flatten_cons, List.length_append]
  omega

theorem copy_any (bd : Nat) (m : Value) (Td Ts : List Wr) (w : World) (hd : TabM w bd Td) (hm : MapV w m Ts) (hne : ∀ b, m = .map (some b) → bd ≠ b) (hl : Td.length + Ts.length ≤ 1099511627776) :
    Calls Tryz.prog 120 #[.map (some bd), m] w fun e w' => e = .returned (.tuple #[]) ∧ TabM w' bd (ofFrom Td Ts) ∧ w.grownBy w' (some bd) := by
  rcases hm with ⟨rfl, rfl⟩ | ⟨b, rfl, hM⟩
  · refine (copy_nil (some bd) w).mono ?_
    rintro e w' ⟨rfl, h⟩
    subst h
    exact ⟨rfl, hd.below ((Below.refl _ _).alloc (Nat.le_refl _) _), World.grownBy_alloc _ _ _⟩
  · exact copy_tb bd b Td Ts w hd hM (hne b rfl) hl

set_option maxRecDepth 100000 in
set_option maxHeartbeats 3200000 in
theorem tmerge_any (whole : Bool) (v : Value) (Ts : List (List Wr)) (w : World) (h : TabsIn w w.heap.size v Ts) (hl : Ts.flatten.length ≤ 1099511627776) :
    Calls Tryz.prog 70 #[.bool whole, v] w (Made w (mergeW whole Ts)) := by
  obtain ⟨A, c, rfl, hc1, hc2⟩ := h.len
  have H := Lib.hid h
  clear h
  have CO := Lib.hid (tof_any (.slice none 0 0) [] w (TbIn.nil _ _) (fun _ h => by cases h) (by simp))
  go_enter Tryz.func70, Tryz.ntmps70
  go_wp2_with (go_at_call 32; refine CO.out.mono ?_; rintro e w1 ⟨g, b, rfl, hg1, hg2, hgc, hb1, hbg, hbm, hb⟩; have HGC := Lib.hid hgc; have HBM := Lib.hid hbm; have HB := Lib.hid hb; clear hgc hbm hb)
  go_loopw [7, 11] (fun _ i wr => ∃ k : Nat, i = .int .i64 k ∧ k ≤ Ts.length ∧ Hid (TabM wr b (ofW (Ts.take k).flatten)) ∧ Hid (Below w.heap.size w wr) ∧ Hid (wr.cell? ⟨g, 0, none⟩ = some (.map (some b))) ∧ g < wr.heap.size) (fun _ i _ => Ts.length - (intOf i).toNat)
  case atStart => exact ⟨0, rfl, by omega, HBM.out, HB.out, HGC.out, hg2⟩
  case round =>
    obtain ⟨k, rfl, hk, hmp, hbl, hgc, hgl⟩ := hrel
    have c0 := hgc.out
    by_cases hlt : k < Ts.length
    · obtain ⟨T, hTk⟩ : ∃ T, Ts[k]? = some T := ⟨Ts[k], List.getElem?_eq_getElem hlt⟩
      obtain ⟨b2, off2, u, e2, hB2, hu, d0⟩ := H.out.at hTk
      subst e2
      have d0 : wr.cell? ⟨b2, off2 + k, none⟩ = some u := (hbl.out.cell (p := ⟨b2, off2 + k, none⟩) hB2).trans d0
      have CH := Lib.hid (held_was u T w wr.drew hu (hbl.out.trans (Below.refl _ _).drew))
      have hln := flatG_take_len hTk
      have htk := ofW_flat_take hTk
      have hlo := ofW_len (Ts.take k).flatten
      have CC : Hid (∀ m, MapV w m T → Calls Tryz.prog 120 #[.map (some b), m] wr.drew fun e w' => e = .returned (.tuple #[]) ∧ TabM w' b (ofW (Ts.take (k + 1)).flatten) ∧ wr.drew.grownBy w' (some b)) := fun m hm => by
        rw [htk]
        refine copy_any b m _ T wr.drew (hmp.out.below (Below.refl _ _).drew) (hm.below (hbl.out.trans (Below.refl _ _).drew)) (fun b' e => ?_) (by omega)
        rcases hm with ⟨h1, _⟩ | ⟨b3, h1, h2⟩
        · rw [h1] at e; cases e
        · rw [h1] at e
          injection e with e
          injection e with e
          have := h2.lt
          omega
      have HTK := Lib.hid hTk
      clear hu hln htk hlo hTk
      go_wp2_with fail
      go_region_held3 (fun W => W.cell? ⟨g, 0, none⟩ = some (.map (some b))) (first | exact c0 | assumption) (first
        | (go_at_call 114; refine CH.out.mono ?_; rintro e w5 ⟨m, rfl, hm, h5⟩; obtain rfl := h5; have CM := Lib.hid (CC.out m hm))
        | (go_at_call 120; refine CM.out.mono ?_; rintro e w6 ⟨rfl, hm6, hg6⟩; have HM6 := Lib.hid hm6; have HG6 := Lib.hid hg6; have c6 : w6.cell? ⟨g, 0, none⟩ = some (.map (some b)) := (World.cell?_of_block (a := ⟨g, 0, none⟩) (hg6.block g hgl (fun e => by injection e with e; omega))).trans c0; clear hm6 hg6))
      all_goals go_wp2_with fail
      all_goals go_roundw
      case rel => exact ⟨k + 1, by go_num, by omega, HM6.out, (hbl.out.trans (Below.refl _ _).drew).grown HG6.out hbl.out.size (fun j e => by injection e with e; omega), c6, Nat.lt_of_lt_of_le hgl HG6.out.size⟩
      case measure => simp [intOf]; omega
    · have hm2 : Hid (TabM wr b (ofW Ts.flatten)) := by
        have := hmp.out
        rw [List.take_of_length_le (by omega)] at this
        exact this
      clear hmp
      cases whole
      · go_wp2_with fail
        go_ret
        exact ⟨g, b, rfl, hg1, hgl, hgc.out, hb1, hbg, by unfold mergeW; rw [keep_false]; exact hm2.out, hbl.out⟩
      · have CD := Lib.hid (delete_tb b _ wr hm2.out)
        go_wp2_with (go_at_call 121; refine CD.out.mono ?_; rintro e w6 ⟨rfl, hm6, hg6⟩)
        have HG6 := Lib.hid hg6
        have HM6 := Lib.hid hm6
        clear hm6 hg6
        go_ret
        exact ⟨g, b, rfl, hg1, Nat.lt_of_lt_of_le hgl HG6.out.size, (World.cell?_of_block (a := ⟨g, 0, none⟩) (HG6.out.block g hgl (fun e => by injection e with e; omega))).trans hgc.out, hb1, hbg, HM6.out, hbl.out.grown HG6.out hbl.out.size (fun j e => by injection e with e; omega)⟩

end Go.Proofs.YtlchmkpnehbnlaaGreatDoor.Cd

/-
  Rows that were laid out a moment ago: of writes, of tables; what the document tells (alive). Conditions: none.
-/
namespace Go.Proofs.YtlchmkpnehbnlaaGreatDoor.Cd
open Go.RowKit

theorem tb_new (w : World) (l : List Wr) (h0 : l.length ≤ 1048576) (T : TypeId) :
    TbIn (w.alloc (.cells (wrCs l).toArray T)) (w.alloc (.cells (wrCs l).toArray T)).heap.size (.slice (some ⟨w.heap.size, 0, none⟩) l.length l.length) l :=
  ⟨_, l.length, rfl, Nat.le_refl _, by simp only [maxLen]; omega, (fun h => by cases h), fun _ => ⟨w.heap.size, 0, rfl, by simp, fun i p hi j x hj => by
    rw [Nat.zero_add, cell_of_row _ _ (i * 3 + j) _ _ _ (heap_alloc_new w (.cells (wrCs l).toArray T))]
    simpa using wrCs_at l i p hi j x hj⟩⟩

end Go.Proofs.YtlchmkpnehbnlaaGreatDoor.Cd

/-
  A table's bytes: the program's and the document's. Conditions: not too many.
-/
namespace Go.Proofs.YtlchmkpnehbnlaaGreatDoor.Cd
open Go.RowKit

def goneB (g : Bool) : Nat := if g then 1 else 0
def wrB (p : Wr) : List UInt8 := (enc (goneB p.2.2) ++ (enc p.1.length ++ p.1)) ++ (enc p.2.1.length ++ p.2.1)
def recW (T : List Wr) : List UInt8 := enc T.length ++ (T.map wrB).flatten
def recK10 (T : List Wr) (k : Nat) : List UInt8 := enc T.length ++ ((T.take k).map wrB).flatten
theorem recK10_succ {T : List Wr} {k : Nat} {p : Wr} (h : T[k]? = some p) : recK10 T (k + 1) = recK10 T k ++ wrB p := by
  obtain ⟨hk, rfl⟩ := List.getElem?_eq_some_iff.1 h
  unfold recK10
  rw [List.take_succ_eq_append_getElem hk, List.map_append, List.flatten_append, ← List.append_assoc]
  simp
theorem recK10_all {T : List Wr} {k : Nat} (h : T.length ≤ k) : recK10 T k = recW T := by
  unfold recK10 recW
  rw [List.take_of_length_le h]
theorem goneB_lt (g : Bool) : goneB g < 128 := by cases g <;> simp [goneB]
theorem wrB_len (p : Wr) (h1 : p.1.length < 18446744073709551616) (h2 : p.2.1.length < 18446744073709551616) : 1 ≤ (wrB p).length ∧ (wrB p).length ≤ 30 + p.1.length + p.2.1.length := by
  have e0 := enc_u64 (goneB p.2.2) (by have := goneB_lt p.2.2; omega)
  have e1 := enc_u64 p.1.length h1
  have e2 := enc_u64 p.2.1.length h2
  have e3 := enc_pos (goneB p.2.2)
  unfold wrB
  simp only [List.length_append]
  omega
theorem sumW_cons (p : Wr) (r : List Wr) : sumW (p :: r) = (1 + p.1.length + p.2.1.length) + sumW r := by simp [sumW]
theorem recW_flat (T : List Wr) (h : sumW T ≤ 1048576) : ((T.map wrB).flatten).length ≤ 30 * sumW T := by
  induction T with
  | nil => simp
  | cons p r ih =>
    rw [sumW_cons] at h ⊢
    have h1 := ih (by omega)
    have h2 := (wrB_len p (by omega) (by omega)).2
    rw [List.map_cons, List.flatten_cons, List.length_append]
    omega
theorem sumW_take (T : List Wr) (k : Nat) : sumW (T.take k) ≤ sumW T := by
  induction T generalizing k with
  | nil => simp
  | cons p r ih =>
    cases k with
    | zero => simp [sumW]
    | succ k =>
      rw [List.take_succ_cons, sumW_cons, sumW_cons]
      have := ih k
      omega
theorem recK10_len (T : List Wr) (k : Nat) (h : sumW T ≤ 1048576) : (recK10 T k).length ≤ 31457290 := by
  have h1 := recW_flat (T.take k) (Nat.le_trans (sumW_take T k) h)
  have h2 := sumW_take T k
  have h3 := enc_u64 T.length (by have := sumW_len T; omega)
  unfold recK10
  rw [List.length_append]
  omega
theorem recW_len (T : List Wr) (h : sumW T ≤ 1048576) : (recW T).length ≤ 31457290 := by
  have := recK10_len T T.length h
  rwa [recK10_all (Nat.le_refl _)] at this
theorem sumW_flat (p : Wr) (r : List Wr) : sumW (flatG p :: r) ≤ sumW (p :: r) := by
  rw [sumW_cons, sumW_cons, flatG_key]
  have : (flatG p).2.1.length ≤ p.2.1.length := by unfold flatG; split <;> simp
  omega
theorem sumW_filter (t : List Wr) (f : Wr → Bool) : sumW (t.filter f) ≤ sumW t := by
  induction t with
  | nil => simp
  | cons p r ih =>
    rw [List.filter_cons]
    split
    · rw [sumW_cons, sumW_cons]; omega
    · rw [sumW_cons]; omega
theorem sumW_ins (t : List Wr) (p : Wr) : sumW (insW t p) ≤ sumW (p :: t) := by
  induction t with
  | nil => exact Nat.le_refl _
  | cons x r ih =>
    unfold insW
    split
    · rw [sumW_cons, sumW_cons, sumW_cons]
      rw [sumW_cons] at ih
      omega
    · rw [sumW_cons, sumW_cons]
      have := sumW_filter (x :: r) (fun y => y.1 != p.1)
      omega
theorem sumW_of (l : List Wr) : sumW (ofW l) ≤ sumW l := by
  have : ∀ t : List Wr, sumW (ofFrom t l) ≤ sumW t + sumW l := by
    induction l with
    | nil => intro t; simp [ofFrom, sumW]
    | cons p r ih =>
      intro t
      have h1 := ih (insW t (flatG p))
      have h2 := sumW_ins t (flatG p)
      have h3 := sumW_flat p t
      rw [sumW_cons] at h2 h3
      show sumW (ofFrom (insW t (flatG p)) r) ≤ _
      rw [sumW_cons] at h3 ⊢
      omega
  have h := this []
  simpa [ofW, sumW] using h

theorem nil_sl10 (w : World) (B : Nat) : Sl w B (.slice none 0 0) [] := ⟨none, 0, rfl, Nat.le_refl _, by decide, fun _ => rfl, (fun _ h => by cases h), (fun _ h => by cases h)⟩

set_option maxRecDepth 100000 in
set_option maxHeartbeats 3200000 in
theorem bytesOf_any (p : Wr) (w : World) (h1 : p.1.length ≤ 1048576) (h2 : p.2.1.length ≤ 1048576) :
    Calls Tryz.prog 152 #[.agg #[.string ⟨p.1.toArray⟩, .string ⟨p.2.1.toArray⟩, .bool p.2.2]] w (Wrote w (wrB p)) := by
  obtain ⟨b1, hb1⟩ : ∃ x, enc (goneB p.2.2) = x := ⟨_, rfl⟩
  obtain ⟨b2, hb2⟩ : ∃ x, b1 ++ (enc p.1.length ++ p.1) = x := ⟨_, rfl⟩
  have hwb : Hid (wrB p = b2 ++ (enc p.2.1.length ++ p.2.1)) := by unfold Hid wrB; rw [hb1, hb2]
  have l1 : b1.length ≤ 10 := by rw [← hb1]; exact enc_u64 _ (by have := goneB_lt p.2.2; omega)
  have l2 : b2.length ≤ 1048596 := by
    have := enc_u64 p.1.length (by omega)
    rw [← hb2, List.length_append, List.length_append]
    omega
  obtain ⟨W1, hW1⟩ : ∃ x, w.alloc (.cells #[.string ⟨p.1.toArray⟩, .string ⟨p.2.1.toArray⟩, .bool p.2.2] 52) = x := ⟨_, rfl⟩
  have hbw : Below w.heap.size w W1 := by rw [← hW1]; exact (Below.refl _ _).alloc (Nat.le_refl _) _
  have hrw : W1.heap[w.heap.size]? = some (.cells #[.string ⟨p.1.toArray⟩, .string ⟨p.2.1.toArray⟩, .bool p.2.2] 52) := by rw [← hW1]; exact heap_alloc_new _ _
  have hz : w.heap.size < W1.heap.size := by rw [← hW1]; simp
  have c0 := cell_of_row _ _ 0 _ _ _ hrw
  have c1 := cell_of_row _ _ 1 _ _ _ hrw
  have c2 := cell_of_row _ _ 2 _ _ _ hrw
  have HB := Lib.hid hbw
  have C1 := Lib.hid (fun W => uint_any (.slice none 0 0) [] (goneB p.2.2) W (nil_sl10 _ _) (by have := goneB_lt p.2.2; omega) (by simp))
  rw [show ([] : List UInt8) ++ enc (goneB p.2.2) = b1 from hb1] at C1
  have C2 : Hid (∀ v W, Sl W W.heap.size v b1 → Calls Tryz.prog 64 #[v, .string ⟨p.1.toArray⟩] W (Wrote W b2)) := fun v W h => by rw [← hb2]; exact text_of v b1 p.1 W h (by omega)
  have C3 : Hid (∀ v W, Sl W W.heap.size v b2 → Calls Tryz.prog 64 #[v, .string ⟨p.2.1.toArray⟩] W (Wrote W (wrB p))) := fun v W h => by rw [hwb.out]; exact text_of v b2 p.2.1 W h (by omega)
  clear hbw hrw hb1 hb2 hwb l1 l2
  go_enter Tryz.func152, Tryz.ntmps152
  obtain ⟨key, val, gone⟩ := p
  cases gone
  all_goals dsimp only at *
  all_goals go_wp2_with fail
  all_goals clear hW1 c2
  all_goals
    go_region_held3 (fun W => W.cell? ⟨w.heap.size, 0, none⟩ = some (.string ⟨key.toArray⟩) ∧ W.cell? ⟨w.heap.size, 1, none⟩ = some (.string ⟨val.toArray⟩)) (first | exact ⟨c0, c1⟩ | exact hS2 | exact hS3 | exact hS4 | assumption) (first
      | (go_at_call 110
         refine (C1.out _).mono ?_
         rintro e w2 ⟨v2, rfl, ho2, hb2⟩
         have hb2 : Below W1.heap.size W1 w2 := (Below.refl _ _).drew.trans hb2
         have hS2 : w2.cell? ⟨w.heap.size, 0, none⟩ = some (.string ⟨key.toArray⟩) ∧ w2.cell? ⟨w.heap.size, 1, none⟩ = some (.string ⟨val.toArray⟩) := ⟨(hb2.cell (p := ⟨w.heap.size, 0, none⟩) hz).trans c0, (hb2.cell (p := ⟨w.heap.size, 1, none⟩) hz).trans c1⟩
         have HB2 := Lib.hid hb2
         have S2 := ho2.sl
         have C2a := Lib.hid (C2.out v2 w2 S2)
         clear ho2 hb2 S2)
      | (go_at_call 64
         (with_reducible refine C2a.out.mono ?_)
         rintro e w3 ⟨v3, rfl, ho3, hb3⟩
         have hb3 : Below W1.heap.size W1 w3 := HB2.out.trans (hb3.mono HB2.out.size)
         have hS3 : w3.cell? ⟨w.heap.size, 0, none⟩ = some (.string ⟨key.toArray⟩) ∧ w3.cell? ⟨w.heap.size, 1, none⟩ = some (.string ⟨val.toArray⟩) := ⟨(hb3.cell (p := ⟨w.heap.size, 0, none⟩) hz).trans c0, (hb3.cell (p := ⟨w.heap.size, 1, none⟩) hz).trans c1⟩
         have HB3 := Lib.hid hb3
         have S3 := ho3.sl
         have C3a := Lib.hid (C3.out v3 w3 S3)
         clear ho3 hb3 S3)
      | (go_at_call 64
         (with_reducible refine C3a.out.mono ?_)
         rintro e w4 ⟨v4, rfl, ho4, hb4⟩
         have hb4 : Below W1.heap.size W1 w4 := HB3.out.trans (hb4.mono HB3.out.size)
         have hS4 : w4.cell? ⟨w.heap.size, 0, none⟩ = some (.string ⟨key.toArray⟩) ∧ w4.cell? ⟨w.heap.size, 1, none⟩ = some (.string ⟨val.toArray⟩) := ⟨(hb4.cell (p := ⟨w.heap.size, 0, none⟩) hz).trans c0, (hb4.cell (p := ⟨w.heap.size, 1, none⟩) hz).trans c1⟩
         have HB4 := Lib.hid hb4
         have HO4 := Lib.hid (ho4.lower (Nat.le_trans (Nat.le_of_lt hz) HB3.out.size))
         clear ho4 hb4))
    all_goals go_wp2_with fail
    all_goals go_ret
    all_goals exact ⟨_, rfl, HO4.out, HB.out.trans (HB4.out.mono (Nat.le_of_lt hz))⟩

set_option maxRecDepth 100000 in
set_option maxHeartbeats 3200000 in
theorem trecord_any (v : Value) (T : List Wr) (w : World) (h : TabV w v T) (hs : sumW T ≤ 1048576) :
    Calls Tryz.prog 111 #[v] w fun e w' => e = .returned (.string ⟨(recW T).toArray⟩) ∧ Below w.heap.size w w' := by
  have hTl := sumW_len T
  have CA := Lib.hid (tall_any v T w h (by omega))
  have H := Lib.hid h
  clear h
  go_enter Tryz.func111, Tryz.ntmps111
  go_wp2_with fail
  refine CA.out.mono ?_
  rintro e w1 ⟨vl, rfl, hn, hb⟩
  obtain ⟨A, c, rfl, hc1, hc2⟩ := hn.tbIn.len
  have HL := Lib.hid hn.tbIn
  have HB := Lib.hid hb
  have hfit := Lib.hid H.out.fit
  have CU := uint_any (.slice none 0 0) [] T.length w1 (nil_sl10 _ _) (by omega) (by simp)
  have hr0 : ([] : List UInt8) ++ enc T.length = recK10 T 0 := by simp [recK10]
  rw [hr0] at CU
  have CU := Lib.hid CU
  have hwr : IntKind.u64.wrap (T.length : Int) = T.length := by simp [IntKind.wrap, IntKind.bits, IntKind.signed]; omega
  clear hn hb hr0 CA H
  go_wp2_with (go_at_call 110; refine CU.out.mono ?_; rintro e w2 ⟨v2, rfl, ho2, hb2⟩; have HO2 := Lib.hid ho2; have HB2 := Lib.hid hb2; clear ho2 hb2)
  have hkl : ∀ j, (recK10 T j).length ≤ 31457290 := fun j => recK10_len T j hs
  have HKL := Lib.hid hkl
  have hsum := Lib.hid hs
  clear hkl hs CU hwr
  go_loopw [4, 15] (fun b i wr => ∃ (k : Nat), i = .int .i64 k ∧ k ≤ T.length ∧ Hid (Own wr w1.heap.size b (recK10 T k)) ∧ Hid (Below w1.heap.size w1 wr)) (fun _ i _ => T.length - (intOf i).toNat)
  case atStart => exact ⟨0, rfl, by omega, HO2.out, HB2.out⟩
  case round =>
    obtain ⟨k, rfl, hk, ho, hbl⟩ := hrel
    have hz1 := hbl.out.size
    by_cases hlt : k < T.length
    · obtain ⟨p, hpk⟩ : ∃ p, T[k]? = some p := ⟨T[k], List.getElem?_eq_getElem hlt⟩
      obtain ⟨b2, off2, e2, hB2, d0, d1, d2⟩ := (HL.out.below hbl.out).at hpk
      subst e2
      have hpm := sumW_mem (List.mem_of_getElem? hpk)
      have hsm := hsum.out
      have hp1 : p.1.length ≤ 1048576 := by omega
      have hp2 : p.2.1.length ≤ 1048576 := by omega
      have hrs := Lib.hid (recK10_succ hpk)
      have hr1 := HKL.out k
      have hwl := (wrB_len p (by omega) (by omega)).2
      have CB := Lib.hid (fun W => bytesOf_any p W hp1 hp2)
      obtain ⟨r, hr⟩ : ∃ r, recK10 T k = r := ⟨_, rfl⟩
      obtain ⟨wb, hwb⟩ : ∃ r, wrB p = r := ⟨_, rfl⟩
      rw [hr] at ho hr1 hrs
      rw [hwb] at hwl hrs
      have HWB := Lib.hid hwb
      have hb1 : Below wr.heap.size wr (wr.alloc (.cells #[.string ⟨p.1.toArray⟩, .string ⟨p.2.1.toArray⟩, .bool p.2.2] 52)) := (Below.refl _ _).alloc (Nat.le_refl _) _
      have HB1 := Lib.hid hb1
      clear hpk hpm hsm hr hb1 hwb
      go_wp2_with (first
        | (go_at_call 152; refine (CB.out _).mono ?_; rintro e w3 ⟨v3, rfl, ho3, hb3⟩; have hb3 : Below wr.heap.size wr w3 := HB1.out.trans (hb3.mono HB1.out.size); rw [HWB.out] at ho3; have HO3 := Lib.hid ho3.sl; have HB3 := Lib.hid hb3; have HOb := Lib.hid (ho.out.keep hb3); have hz3 := hb3.size; clear ho3 hb3)
        | (at_builtin; refine wp_append_sl rfl _ _ rfl w1.heap.size _ r rfl HOb.out (by omega) _ _ wb rfl HO3.out (by omega) ?_; intro v5 w5 ho5 hb5; have HO5 := Lib.hid ho5; have HB5 := Lib.hid ((hbl.out.trans (HB3.out.mono hz1)).trans hb5); clear ho5 hb5))
      go_roundw
      case rel => exact ⟨k + 1, by go_num, by omega, by unfold Hid; rw [hrs.out]; exact HO5.out, HB5.out⟩
      case measure => simp [intOf]; omega
    · have hfin : Hid (Own wr w1.heap.size u4 (recW T)) := by
        have := ho.out
        rwa [recK10_all (by omega)] at this
      have ht := run_text_of wr _ _ _ hfin.out.sl
      clear ho
      go_wp2_with fail
      go_ret
      exact ⟨rfl, HB.out.trans (hbl.out.mono HB.out.size)⟩

def bytesW (T : List Wr) : List UInt8 := frm (recW T)

set_option maxRecDepth 100000 in
set_option maxHeartbeats 1600000 in
theorem tbytes_any (v : Value) (T : List Wr) (w : World) (h : TabV w v T) (hs : sumW T ≤ 1048576) :
    Calls Tryz.prog 66 #[v] w (Wrote w (bytesW T)) := by
  have CR := Lib.hid (trecord_any v T w h hs)
  have hl := recW_len T hs
  have CP := Lib.hid (fun W => put_any (.slice none 0 0) [] (recW T) W (nil_sl10 _ _) (by simp; omega))
  clear h
  go_enter Tryz.func66, Tryz.ntmps66
  go_wp2_with fail
  refine CR.out.mono ?_
  rintro e w1 ⟨rfl, hb⟩
  have HB := Lib.hid hb
  clear hb CR
  go_wp2_with fail
  refine (CP.out _).mono ?_
  rintro e w2 ⟨v2, rfl, ho2, hb2⟩
  have HO := Lib.hid (ho2.lower HB.out.size)
  have HB2 := Lib.hid (HB.out.trans (hb2.mono HB.out.size))
  clear ho2 hb2 CP
  go_wp2_with fail
  go_ret
  exact ⟨_, rfl, HO.out, HB2.out⟩

end Go.Proofs.YtlchmkpnehbnlaaGreatDoor.Cd
