/-
  Rows that were laid out a moment ago: of writes, of tables; what the document tells (alive). Conditions: none.
-/
import Derived.Test.YtcliknmcefcaeaaTbMerge
import Derived.Test.YtcliknmcefcaeaaTbRefOf
namespace Go.Proofs.Ytcliknmcefcaeaa.Cd
open Go.RowKit

theorem tabs_new (w : World) (us : List Value) (Ts : List (List Wr)) (hl : us.length = Ts.length) (h0 : Ts.length ≤ 1048576) (h : ∀ (i : Nat) v T, us[i]? = some v → Ts[i]? = some T → TabV w v T) (T : TypeId) :
    TabsIn (w.alloc (.cells us.toArray T)) (w.alloc (.cells us.toArray T)).heap.size (.slice (some ⟨w.heap.size, 0, none⟩) Ts.length Ts.length) Ts := by
  have hb : Below w.heap.size w (w.alloc (.cells us.toArray T)) := (Below.refl _ _).alloc (Nat.le_refl _) _
  refine ⟨_, Ts.length, rfl, Nat.le_refl _, by simp only [maxLen]; omega, fun _ => ⟨w.heap.size, 0, rfl, by simp, fun i t hi => ?_⟩⟩
  have hi2 := (List.getElem?_eq_some_iff.1 hi).1
  obtain ⟨v, hv⟩ : ∃ v, us[i]? = some v := ⟨us[i], List.getElem?_eq_getElem (by omega)⟩
  refine ⟨v, (h i v t hv hi).below hb, ?_⟩
  rw [Nat.zero_add, cell_of_row _ _ i _ _ _ (heap_alloc_new w (.cells us.toArray T))]
  simpa using hv
theorem tabs_one {w : World} {v : Value} {A : List Wr} (h : TabV w v A) (T : TypeId) :
    TabsIn (w.alloc (.cells #[v] T)) (w.alloc (.cells #[v] T)).heap.size (.slice (some ⟨w.heap.size, 0, none⟩) 1 1) [A] :=
  tabs_new w [v] [A] rfl (by simp) (fun i u t h1 h2 => by
    match i with
    | 0 => simp at h1 h2; subst h1 h2; exact h
    | i + 1 => simp at h1) T
theorem tabs_two {w : World} {v u : Value} {A B : List Wr} (h : TabV w v A) (k : TabV w u B) (T : TypeId) :
    TabsIn (w.alloc (.cells #[v, u] T)) (w.alloc (.cells #[v, u] T)).heap.size (.slice (some ⟨w.heap.size, 0, none⟩) 2 2) [A, B] :=
  tabs_new w [v, u] [A, B] rfl (by simp) (fun i u t h1 h2 => by
    match i with
    | 0 => simp at h1 h2; subst h1 h2; exact h
    | 1 => simp at h1 h2; subst h1 h2; exact k
    | i + 2 => simp at h1) T
theorem tabs_three {w : World} {v u z : Value} {A B C : List Wr} (h : TabV w v A) (k : TabV w u B) (m : TabV w z C) (T : TypeId) :
    TabsIn (w.alloc (.cells #[v, u, z] T)) (w.alloc (.cells #[v, u, z] T)).heap.size (.slice (some ⟨w.heap.size, 0, none⟩) 3 3) [A, B, C] :=
  tabs_new w [v, u, z] [A, B, C] rfl (by simp) (fun i u t h1 h2 => by
    match i with
    | 0 => simp at h1 h2; subst h1 h2; exact h
    | 1 => simp at h1 h2; subst h1 h2; exact k
    | 2 => simp at h1 h2; subst h1 h2; exact m
    | i + 3 => simp at h1) T

theorem tb_new (w : World) (l : List Wr) (h0 : l.length ≤ 1048576) (T : TypeId) :
    TbIn (w.alloc (.cells (wrCs l).toArray T)) (w.alloc (.cells (wrCs l).toArray T)).heap.size (.slice (some ⟨w.heap.size, 0, none⟩) l.length l.length) l :=
  ⟨_, l.length, rfl, Nat.le_refl _, by simp only [maxLen]; omega, (fun h => by cases h), fun _ => ⟨w.heap.size, 0, rfl, by simp, fun i p hi j x hj => by
    rw [Nat.zero_add, cell_of_row _ _ (i * 3 + j) _ _ _ (heap_alloc_new w (.cells (wrCs l).toArray T))]
    simpa using wrCs_at l i p hi j x hj⟩⟩

/-- What the document's example tells. -/
def exW : List Wr := [⟨[97], [49], false⟩, ⟨[97], [], true⟩]
theorem ex_of : ofW exW = [⟨[97], [], true⟩] := by
  simp [exW, ofW, ofFrom, insW, flatG]
theorem ex_merge : mergeW true [ofW exW] = [] := by
  rw [ex_of]
  simp [mergeW, keepW, ofW, ofFrom, insW, flatG]
theorem ex_fit : FitW exW := fun p hp => by
  simp only [exW, List.mem_cons, List.not_mem_nil, or_false] at hp
  rcases hp with rfl | rfl <;> exact ⟨by simp, by simp⟩

set_option maxRecDepth 100000 in
set_option maxHeartbeats 3200000 in
theorem alive10 (w : World) : Calls Try.prog 10 #[] w fun e w' => e = .returned (.bool true) ∧ Below w.heap.size w w' := by
  have hb0 : Below w.heap.size w (w.alloc (.cells #[.string ⟨[97].toArray⟩, .string ⟨[49].toArray⟩, .bool false, .string ⟨[97].toArray⟩, .string ⟨[].toArray⟩, .bool true] 29)) := (Below.refl _ _).alloc (Nat.le_refl _) _
  have CO := tof_any _ exW _ (tb_new w exW (by simp [exW]) 29) ex_fit (by simp [exW])
  rw [ex_of] at CO
  have CO := Lib.hid CO
  have HB0 := Lib.hid hb0
  clear hb0
  go_enter Try.func10, Try.ntmps10
  go_wp2_with fail
  refine CO.out.mono ?_
  intro e w1 h1
  obtain ⟨v, rfl, ⟨g, rfl⟩, ht, hb⟩ := h1.tab
  have HT := Lib.hid ht
  have HB1 := Lib.hid (HB0.out.trans (hb.mono HB0.out.size))
  have CA := Lib.hid (tall_any _ _ w1 ht (by simp))
  clear ht hb h1 CO HB0
  go_wp2_with fail
  refine CA.out.mono ?_
  rintro e w2 ⟨v2, rfl, hn2, hb2⟩
  obtain ⟨A2, c2, rfl, _, _⟩ := hn2.tbIn.len
  have HT2 := Lib.hid (HT.out.below hb2)
  have HB2 := Lib.hid (HB1.out.trans (hb2.mono HB1.out.size))
  have CA := Lib.hid (tall_any _ _ w2 HT2.out (by simp))
  clear hn2 hb2 HT HB1
  go_wp2_with fail
  refine CA.out.mono ?_
  rintro e w3 ⟨v3, rfl, hn3, hb3⟩
  obtain ⟨A3, c3, rfl, _, _⟩ := hn3.tbIn.len
  obtain ⟨b3, off3, rfl, _, _, _, x2⟩ := hn3.tbIn.at (k := 0) (p := ⟨[97], [], true⟩) rfl
  simp only [Nat.zero_mul, Nat.add_zero] at x2
  have HT3 := Lib.hid (HT2.out.below hb3)
  have HB3 := Lib.hid (HB2.out.trans (hb3.mono HB2.out.size))
  have hm := tmerge_any true _ _ _ (tabs_one HT3.out 25) (by simp)
  rw [← ex_of, ex_merge] at hm
  have CM := Lib.hid hm
  have hz3 := HB3.out.size
  clear hn3 hb3 hm HT2 HB2 CA
  go_wp2_with fail
  refine CM.out.mono ?_
  intro e w4 h4
  obtain ⟨v4, rfl, ⟨g4, rfl⟩, ht4, hb4⟩ := h4.tab
  have HB4 := Lib.hid (HB3.out.trans (((Below.refl w3.heap.size w3).alloc (Nat.le_refl _) (.cells #[.pointer (some ⟨g, 0, none⟩)] 25)).mono hz3))
  have HB5 := Lib.hid (HB4.out.trans (hb4.mono HB4.out.size))
  have CA := Lib.hid (tall_any _ _ w4 ht4 (by simp))
  clear hb4 h4 ht4 CM
  go_wp2_with fail
  refine CA.out.mono ?_
  rintro e w5 ⟨v5, rfl, hn5, hb5⟩
  obtain ⟨A5, c5, rfl, _, _⟩ := hn5.tbIn.len
  have HB6 := Lib.hid (HB5.out.trans (hb5.mono HB5.out.size))
  clear hn5 hb5 CA
  go_wp2_with fail
  go_ret
  exact ⟨rfl, HB6.out⟩

end Go.Proofs.Ytcliknmcefcaeaa.Cd
