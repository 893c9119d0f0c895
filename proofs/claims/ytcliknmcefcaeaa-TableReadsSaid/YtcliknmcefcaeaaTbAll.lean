/-
  All and Get: a table's writes by rising keys, and that of a key. Conditions: not too many.
-/
import Derived.Test.YtcliknmcefcaeaaTbCollect
import Derived.Test.YtcliknmcefcaeaaTbOf
import Derived.Test.YtcliknmcefcaeaaTbCmp
namespace Go.Proofs.Ytcliknmcefcaeaa.Cd
open Go.RowKit Go.Maps Go.Shelf Go.Sort

/-- A row of writes that was laid at B or above, and may be written. -/
def NewTb (w : World) (B : Nat) (v : Value) (l : List Wr) : Prop :=
  ∃ A c, v = .slice A l.length c ∧ l.length ≤ c ∧ c ≤ maxLen ∧ (A = none → c = 0) ∧
    (0 < l.length → ∃ g, A = some ⟨g, 0, none⟩ ∧ B ≤ g ∧ g < w.heap.size ∧ ∀ (i : Nat) p, l[i]? = some p → ∀ (j : Nat) x, (wrC p)[j]? = some x → w.cell? ⟨g, i * 3 + j, none⟩ = some x ∧ w.frozen? ⟨g, i * 3 + j, none⟩ = false)

theorem NewTb.tbIn {w : World} {B : Nat} {v : Value} {l : List Wr} (h : NewTb w B v l) : TbIn w w.heap.size v l := by
  obtain ⟨A, c, h1, h2, h3, h4, h5⟩ := h
  refine ⟨A, c, h1, h2, h3, h4, fun h0 => ?_⟩
  obtain ⟨g, e, _, hg, hc⟩ := h5 h0
  exact ⟨g, 0, e, hg, fun i p hi j x hx => by rw [Nat.zero_add]; exact (hc i p hi j x hx).1⟩

theorem holds_own {w : World} {g : Nat} {xs : List Wr} {cur : Array Value} (hg : w.heap[g]? = some (.cells cur 29 (0, 0))) (ht : cur.toList.take (xs.length * 3) = wrCs xs) :
    HoldsK wrC 3 w g 0 xs.toArray := by
  intro j hj
  have hj : j < xs.length * 3 := by simpa using hj
  have hcu : cur[j]? = (wrCs xs)[j]? := by
    rw [← ht, List.getElem?_take, if_pos hj]
    simp
  have hd : j / 3 < xs.length := by omega
  have hw : (wrC xs[j / 3])[j % 3]? = some ((wrC xs[j / 3])[j % 3]'(by rw [wrC_len]; omega)) := List.getElem?_eq_getElem _
  have hm := wrCs_at xs (j / 3) xs[j / 3] (List.getElem?_eq_getElem hd) (j % 3) _ hw
  rw [show j / 3 * 3 + j % 3 = j by omega] at hm
  have hc := cell_of_row w g j _ _ _ hg
  have hfl : (flatK wrC 3 xs.toArray)[j]! = (wrC xs[j / 3])[j % 3]'(by rw [wrC_len]; omega) := by
    rw [get_flatK _ _ _ _ (by simpa using hj)]
    rw [getElem!_pos xs.toArray (j / 3) (by simpa using hd)]
    rw [getElem!_pos (wrC _) (j % 3) (by rw [wrC_len]; omega)]
    simp
  refine ⟨?_, ?_⟩
  · rw [Nat.zero_add, hc, hcu, hm, hfl]
    rfl
  · simp [World.frozen?, hg]

theorem low_sorted {w : World} {B g n : Nat} {d : Array Wr} {os : Array Obj} (hB : B ≤ g) (hg : g < w.heap.size) : Below B w (sortWorldK wrC 3 w g 0 n d os) := by
  refine ⟨rfl, rfl, rfl, size_sortWorldK_c wrC 3 w g 0 n d os, fun k hk => ?_⟩
  unfold sortWorldK putRowK putRow mapBlock
  rw [heap_grow_old _ _ (by simp; omega)]
  simp only [heap_ahead]
  rw [Array.getElem?_modify, if_neg (by omega)]

/-- The sorted writes of a table are the table. -/
theorem sorted_is {T : List Wr} (hs : SrtW T) {xs : List Wr} (hx : xs.Perm T) {d : Array Wr} (hp : PermIn 0 xs.toArray.size xs.toArray d) (hd : SortedIn (ltOf cfW) 0 xs.toArray.size d) : d.toList = T := by
  obtain ⟨h1, _, h3⟩ := hp
  have hperm : d.toList.Perm T := by
    have e1 : (d.extract 0 xs.toArray.size) = d := by rw [← h1]; simp
    have e2 : (xs.toArray.extract 0 xs.toArray.size) = xs.toArray := by simp
    rw [e1, e2] at h3
    exact h3.trans (by simpa using hx)
  have hnd : d.toList.Nodup := hperm.nodup_iff.2 (srt_nodup hs)
  have hpw : d.toList.Pairwise fun a b => a.1 < b.1 := by
    rw [List.pairwise_iff_getElem]
    intro i j hi hj hij
    have hdi : i < d.size := by simpa using hi
    have hdj : j < d.size := by simpa using hj
    have h := hd i j (Nat.zero_le _) hij (by rw [← h1]; exact hdj)
    rw [ltOf_cfW, getElem!_pos d j hdj, getElem!_pos d i hdi] at h
    have hle : ¬ d[j].1 < d[i].1 := by simpa using h
    simp only [Array.getElem_toList]
    refine Decidable.byContradiction fun hn => ?_
    have hk := less_tri hn hle
    have hm : ∀ (k : Nat) (hk : k < d.size), d[k] ∈ T := fun k hk => hperm.mem_iff.1 (by simp)
    have := srt_key hs (hm i hdi) (hm j hdj) hk
    have hne := (List.nodup_iff_pairwise_ne.1 hnd)
    rw [List.pairwise_iff_getElem] at hne
    exact hne i j hi hj hij (by simpa using this)
  exact srt_ext hpw hs fun k => by
    cases h1 : getW d.toList k with
    | none =>
      cases h2 : getW T k with
      | none => rfl
      | some p =>
        have := getW_none.1 h1 p (hperm.mem_iff.2 (getW_mem h2))
        exact absurd (getW_key h2) this
    | some p =>
      have hm := hperm.mem_iff.1 (getW_mem h1)
      have := getW_of_mem hs hm
      rw [getW_key h1] at this
      rw [this]

theorem agg_wr (w : World) : (isAgg (Try.sortf67_ren.t 24)).run Try.prog w = .ok true w := by
  have h : (isAgg 29).run Try.prog w = .ok true w := by
    simp [isAgg, run_underlying Try.underlying29]
  exact h
theorem size_wr (w : World) : (Go.sizeOf (Try.sortf67_ren.t 24)).run Try.prog w = .ok 3 w := by
  obtain ⟨i0, hi, _, hz1, _⟩ := info_parts info_wr
  have h : (Go.sizeOf 29).run Try.prog w = .ok 3 w := by
    simp [Go.sizeOf, typeInfo, hi, hz1]
  exact h

set_option maxRecDepth 100000 in
/-- slices.SortFunc of a table's writes by the closure of All's. -/
theorem sort_tb (v : Value) (xs T : List Wr) (w : World) (B : Nat) (ho : OwnTb w B v xs) (hs : SrtW T) (hx : xs.Perm T) (hl : T.length < 1099511627776) :
    Calls Try.prog 67 #[v, .func (.func 36) #[] #[]] w fun e w' => e = .returned (.tuple #[]) ∧ NewTb w' B v T ∧ Below B w w' := by
  have hlen := hx.length_eq
  rcases ho.2 with ⟨rfl, h0⟩ | ⟨g, cap, cur, rfl, hBg, hg, hn, hm, hcs, htk⟩
  · have hT : T = [] := List.eq_nil_of_length_eq_zero (by omega)
    subst hT
    refine (AnyF.slices_SortFunc_none Try.sortf67 none 0 (.func (.func 36) #[] #[]) w).mono ?_
    rintro e w' ⟨rfl, h⟩
    obtain rfl := h.symm
    exact ⟨rfl, ⟨none, 0, rfl, Nat.le_refl _, Nat.zero_le _, fun _ => rfl, fun h => by simp at h⟩, Below.refl _ _⟩
  · have hgl := (Array.getElem?_eq_some_iff.1 hg).1
    have hH := holds_own hg htk
    have hsz : xs.toArray.size = xs.length := by simp
    have h := AnyQ.slices_SortFunc (α := Wr) Try.sortf67 3 agg_wr size_wr wrC wrC_len wrC_one cfW swoW 36 #[] g 0 cap xs.toArray w
      (enters_of Try.func36 (by kernel_rfl) rfl) (fun m os dk _ x y => less_any x y _) hH hgl (by rw [hsz]; omega)
    rw [hsz] at h
    refine h.mono ?_
    rintro e w' ⟨rfl, d', n, os, hp, hd, rfl⟩
    have hd1 := hp.1
    have hT := sorted_is hs hx (by rw [hsz]; exact hp) (by rw [hsz]; exact hd)
    have hK := holdsK_sortWorldK_c wrC 3 w g 0 xs.toArray d' n os hH hgl hd1
    have hds : d'.size = T.length := by rw [← hT]; simp
    refine ⟨rfl, ⟨some ⟨g, 0, none⟩, cap, by rw [hlen], by omega, hm, (fun h => by cases h), fun _ => ⟨g, rfl, hBg, Nat.lt_of_lt_of_le hgl (size_sortWorldK_c wrC 3 w g 0 n d' os), fun i p hi j x hj => ?_⟩⟩, low_sorted hBg hgl⟩
    obtain ⟨hi1, hi2⟩ := List.getElem?_eq_some_iff.1 hi
    obtain ⟨hj1, hj2⟩ := List.getElem?_eq_some_iff.1 hj
    have hc := hK.cell (i := i) (c := j) (by rw [hds]; exact hi1) hj1
    rw [Nat.zero_add] at hc
    have e1 : d'[i]! = p := by
      rw [getElem!_pos d' i (by rw [hds]; exact hi1), ← hi2]
      have : d'[i]'(by rw [hds]; exact hi1) = d'.toList[i]'(by simpa using (by rw [hds]; exact hi1 : i < d'.size)) := by simp
      rw [this]
      simp only [hT]
    rw [e1, getElem!_pos (wrC p) j hj1, hj2] at hc
    exact hc

end Go.Proofs.Ytcliknmcefcaeaa.Cd
