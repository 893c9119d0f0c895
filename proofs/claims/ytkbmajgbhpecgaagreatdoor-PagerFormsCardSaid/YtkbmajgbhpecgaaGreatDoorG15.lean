/-
  PagerForms answers true. Conditions: none.
-/
import Derived.Test.YtkbmajgbhpecgaaGreatDoorG14
import Derived.Test.YtkbmajgbhpecgaaGreatDoorG9
import Derived.Test.YtkbmajgbhpecgaaGreatDoorG11
import Derived.Test.YtkbmajgbhpecgaaGreatDoorG12
import Derived.Test.YtkbmajgbhpecgaaGreatDoorG6
import Derived.BigQuiet
/-
  A journal and a draft, laid by hand, and the opening behind it: no Go in sight. Conditions: none.
-/
namespace Go.Proofs.YtkbmajgbhpecgaaGreatDoor.Cd

theorem pfresh_range (g : Nat → List UInt8) (m : Nat) : ∀ c, freshN c ((List.range' c m).map fun (k : Nat) => ((k : Int), g k)) = some m := fresh_chunks_aux g m
theorem plaid_range (g : Nat → List UInt8) (m : Nat) : ∀ (P : List (List UInt8)), laidP P ((List.range' P.length m).map fun (k : Nat) => ((k : Int), g k)) = P ++ (List.range' P.length m).map fun k => pad (g k) := by
  induction m with
  | zero => intro P; simp [laidP]
  | succ m ih =>
    intro P
    rw [List.range'_succ, List.map_cons, List.map_cons]
    show laidP (setP P P.length (pad (g P.length))) _ = _
    rw [setP_end]
    have := ih (P ++ [pad (g P.length)])
    rw [List.length_append, List.length_singleton] at this
    rw [this, List.append_assoc]
    rfl

/-- i pages of the journal's bytes, and as many of a draft. -/
structure Lay2 (D : Dsk) (t : List UInt8) (i : Nat) : Prop where
  roomy : Roomy D 100 (2 * i)
  jp : pagesF D.now (jnl [102]) = (List.range i).map fun k => pad (chunk t k)
  dl : (pagesF D.now (drf [102])).length = i
  js : 0 < i → (getF D.now (jnl [102])).isSome = true
  ds : 0 < i → (getF D.now (drf [102])).isSome = true
  other : ∀ m, m ≠ jnl [102] → m ≠ drf [102] → (getF D.now m).isSome = false
theorem lay2_new (t : List UInt8) : Lay2 (newD 100) t 0 :=
  ⟨new_roomy (room := 100) (by omega), rfl, rfl, fun h => by omega, fun h => by omega, fun m _ _ => rfl⟩
theorem jd : jnl [102] ≠ drf [102] := by decide
theorem Lay2.next {D : Dsk} {t : List UInt8} {i : Nat} (h : Lay2 D t i) (hi : i < 50) : Lay2 (writeD (writeD D (jnl [102]) i (chunk t i)).1 (drf [102]) i [120]).1 t (i + 1) := by
  have hjl : (pagesF D.now (jnl [102])).length = i := by rw [h.jp]; simp
  obtain ⟨_, a2, a3, a4⟩ := h.roomy.put (n := jnl [102]) (b := chunk t i) (i := i) (by omega) (chunk_len t i) (fun _ => by omega)
  rw [if_pos hjl.symm] at a2
  have hdl : (pagesF (writeD D (jnl [102]) i (chunk t i)).1.now (drf [102])).length = i := by rw [a3, if_neg jd.symm]; exact h.dl
  obtain ⟨_, b2, b3, b4⟩ := a2.put (n := drf [102]) (b := [120]) (i := i) (by omega) (by simp) (fun _ => by omega)
  rw [if_pos hdl.symm] at b2
  refine ⟨by rw [show 2 * (i + 1) = 2 * i + 1 + 1 by omega]; exact b2, ?_, ?_, fun _ => ?_, fun _ => ?_, fun m h1 h2 => ?_⟩
  · rw [b3, if_neg jd, a3, if_pos rfl]
    have e := setP_end (pagesF D.now (jnl [102])) (pad (chunk t i))
    rw [hjl] at e
    rw [e, h.jp, List.range_succ, List.map_append]
    rfl
  · rw [b3, if_pos rfl, setP_len, hdl]
    omega
  · rw [b4, if_neg jd, a4, if_pos rfl]
  · rw [b4, if_pos rfl]
  · rw [b4, if_neg h2, a4, if_neg h1]
    exact h.other m h1 h2

/-- Behind the draft. -/
structure Post1 (D : Dsk) (t : List UInt8) (m : Nat) : Prop where
  roomy : Roomy D 100 m
  jp : pagesF D.now (jnl [102]) = (List.range m).map fun k => pad (chunk t k)
  js : (getF D.now (jnl [102])).isSome = true
  other : ∀ x, x ≠ jnl [102] → (getF D.now x).isSome = false
theorem Lay2.discard {D : Dsk} {t : List UInt8} {m : Nat} (h : Lay2 D t m) (hm : 0 < m) : (discardD D [102]).2 = 0 ∧ Post1 (discardD D [102]).1 t m := by
  obtain ⟨a1, a2, a3, a4⟩ := h.roomy.removed (h.ds hm)
  have e : discardD D [102] = removeD D (drf [102]) := by unfold discardD; rw [if_pos (h.ds hm)]
  rw [e]
  rw [h.dl, show 2 * m - m = m by omega] at a2
  refine ⟨a1, a2, ?_, ?_, fun x hx => ?_⟩
  · rw [← h.jp]
    exact pagesF_get (by rw [a4, if_neg jd])
  · rw [a4, if_neg jd]
    exact h.js hm
  · rw [a4]
    by_cases e : x = drf [102]
    · rw [if_pos e]; rfl
    · rw [if_neg e]
      exact h.other x hx e

/-- The pages' numbers are their places. -/
def wsF (g : Nat → List UInt8) (n : Nat) : Pgs := (List.range' 0 n).map fun (k : Nat) => ((k : Int), g k)
theorem wsF_len (g : Nat → List UInt8) (n : Nat) : (wsF g n).length = n := by simp [wsF]
theorem wsF_good {g : Nat → List UInt8} {n : Nat} (hn : n ≤ 4096) (hl : ∀ k, k < n → (g k).length ≤ 512) : Good6 (wsF g n) := by
  have hm : ∀ p ∈ wsF g n, ∃ k, k < n ∧ p = ((k : Int), g k) := fun p hp => by
    obtain ⟨k, hk, rfl⟩ := List.mem_map.1 hp
    rw [List.mem_range'_1] at hk
    exact ⟨k, by omega, rfl⟩
  refine ⟨⟨?_, fun p hp => ?_⟩, by rw [wsF_len]; exact hn, fun p hp => ?_⟩
  · unfold wsF
    refine List.pairwise_map.2 ((List.pairwise_lt_range' (s := 0) (n := n)).imp fun {a b} h => ?_)
    show (a : Int) < (b : Int)
    omega
  · obtain ⟨k, hk, rfl⟩ := hm p hp
    exact WalkArith.wf_i64 (by show _ ≤ (k : Int) ∧ (k : Int) ≤ _; omega)
  · obtain ⟨k, hk, rfl⟩ := hm p hp
    exact ⟨by show (0 : Int) ≤ (k : Int); omega, by show (k : Int) ≤ 4095; omega, hl k hk⟩
theorem wsF_fresh (g : Nat → List UInt8) (n : Nat) : freshN 0 (wsF g n) = some n := pfresh_range g n 0
theorem wsF_laid (g : Nat → List UInt8) (n : Nat) : laidP [] (wsF g n) = (List.range' 0 n).map fun k => pad (g k) := by
  have := plaid_range g n []
  simpa [wsF] using this

/-- A good journal is done. -/
theorem Post1.good {D : Dsk} {ws : Pgs} {f : Nat} (h : Post1 D (recF ws) (pagesOf (recF ws).length)) (hf : freshN 0 ws = some f) (hl : ∀ p ∈ ws, p.2.length ≤ 512) (hne : ws ≠ []) (hr : pagesOf (recF ws).length + f ≤ 100) :
    pagesF D.now (jnl [102]) = pagesB (recF ws) ∧ freshN (pagesF D.now [102]).length ws = some f ∧ ¬ freeD D < (f : Nat) ∧ (settleD D [102] ws).2 = 0 ∧ (settleD D [102] ws).1.off = false ∧ pagesF (settleD D [102] ws).1.now [102] = laidP [] ws ∧
      (getF (settleD D [102] ws).1.now [102]).isSome = true ∧ ∀ m, (getF (settleD D [102] ws).1.now m).isSome = true → m = [102] := by
  have h0 : pagesF D.now [102] = [] := pages_of_none (h.other _ (by decide))
  have hf2 : freshN (pagesF D.now [102]).length ws = some f := by rw [h0]; exact hf
  obtain ⟨s1, s2, s3, s4, s5⟩ := h.roomy.settle h.js (h.other _ jd.symm) hf2 hr hl
  have h6 := s5 [102] (by decide)
  rw [if_pos rfl, if_pos ⟨rfl, hne⟩, h0] at h6
  refine ⟨?_, hf2, ?_, s1, s2.off, h6.1, h6.2, fun m hm => ?_⟩
  · rw [h.jp]
    unfold pagesB chunks
    rw [List.map_map]
    rfl
  · rw [h.roomy.free]
    omega
  · by_cases e : m = jnl [102]
    · rw [e, s4.journal] at hm; cases hm
    · by_cases e2 : m = [102]
      · exact e2
      · have := (s5 m e).2
        rw [if_neg (fun h => e2 h.1), h.other m e] at this
        rw [this] at hm
        cases hm

/-- Bytes in which no record stands ahead of noughts are none with fewer noughts. -/
theorem none_fewer {t : List UInt8} {k : Nat} (hk : k ≤ 512) (h : ¬ HasRec (t ++ List.replicate 512 0)) {ds : List (List UInt8)} {cur : List UInt8} (hs : Splits (t ++ List.replicate k 0) ds cur) : ds = [] := by
  cases ds with
  | nil => rfl
  | cons x r =>
    obtain ⟨j, hj⟩ : ∃ j, 512 = k + j := ⟨512 - k, by omega⟩
    rw [hj] at h
    refine absurd ⟨x, flat r ++ cur ++ List.replicate j 0, ?_⟩ h
    have h1 := hs.1
    rw [flat_cons] at h1
    rw [← List.replicate_append_replicate, ← List.append_assoc t, h1]
    simp only [List.append_assoc]
/-- The journal's bytes. -/
theorem Post1.flat {D : Dsk} {t : List UInt8} {m : Nat} (h : Post1 D t m) (hm : m = max 1 (pagesOf t.length)) : ∃ k, k ≤ 512 ∧ (pagesF D.now (jnl [102])).flatten = t ++ List.replicate k 0 := by
  rw [h.jp, List.range_eq_range']
  by_cases h0 : t = []
  · subst h0
    have hm1 : m = 1 := by rw [hm]; decide
    subst hm1
    exact ⟨512, Nat.le_refl _, by rw [List.nil_append]; show (pad (chunk [] 0) ++ [] : List UInt8) = _; rw [List.append_nil]; show pad ([] : List UInt8) = _; rfl⟩
  · have hl : 0 < t.length := List.length_pos_iff.2 h0
    have hm2 : m = pagesOf t.length := by have := pagesOf_pos hl; omega
    have := ppages_flat_aux t m 0 (by rw [hm2]; unfold pagesOf; omega) (by rw [hm2]; unfold pagesOf; omega) (by omega)
    simp only [Nat.mul_zero, List.drop_zero, Nat.zero_add] at this
    exact ⟨512 * m - t.length, by rw [hm2]; unfold pagesOf; omega, this⟩

end Go.Proofs.YtkbmajgbhpecgaaGreatDoor.Cd

/-
  PagerForms' rows: the list copied, its numbers written over; one name. Conditions: none.
-/
namespace Go.Proofs.YtkbmajgbhpecgaaGreatDoor.Cd
open Go.RowKit

theorem ownPg_new (w : World) (B : Nat) (hB : B ≤ w.heap.size) : OwnPg (w.alloc (.cells #[] 51)) B (.slice (some ⟨w.heap.size, 0, none⟩) 0 0) [] :=
  ⟨(fun _ h => by cases h), World.ownsRow_made (base := B) (e := 51) (size := 2) w #[] 0 hB (by simp) rfl⟩

theorem pgCs_app (a b : Pgs) : pgCs (a ++ b) = pgCs a ++ pgCs b := by simp [pgCs]
theorem pgCs_len (a : Pgs) : (pgCs a).length = a.length * 2 := by
  induction a with
  | nil => rfl
  | cons q r ih =>
    show (pgC q ++ pgCs r).length = _
    rw [List.length_append, ih, List.length_cons]
    show 2 + _ = _
    omega
theorem pgs_cells {w : World} {b : Nat} : ∀ (ps : Pgs) (off : Nat), (∀ (i : Nat) p, ps[i]? = some p → ∀ (j : Nat) x, (pgC p)[j]? = some x → w.cell? ⟨b, off + i * 2 + j, none⟩ = some x) →
    ∀ (j : Nat) u, (pgCs ps)[j]? = some u → w.cell? ⟨b, off + j, none⟩ = some u
  | [], _, _, j, u, h => by simp [pgCs] at h
  | q :: r, off, hc, j, u, h => by
    have h : (pgC q ++ pgCs r)[j]? = some u := h
    by_cases hj : j < 2
    · rw [List.getElem?_append_left (by exact hj)] at h
      have := hc 0 q rfl j u h
      rwa [Nat.zero_mul, Nat.add_zero] at this
    · rw [List.getElem?_append_right (by show 2 ≤ j; omega)] at h
      have := pgs_cells r (off + 2) (fun i p hi k x hx => by
        have := hc (i + 1) p (by simpa using hi) k x hx
        rwa [show off + (i + 1) * 2 + k = off + 2 + i * 2 + k by omega] at this) (j - 2) u h
      rwa [show off + 2 + (j - 2) = off + j by omega] at this

/-- append of pages. -/
theorem run_append_pages (w : World) (B : Nat) (v : Value) (l : Pgs) (ho : OwnPg w B v l) (hB : B ≤ w.heap.size) (x : Value) (B' : Nat) (ns : Pgs) (hx : PgsIn w B' x ns) (hm : l.length + ns.length ≤ 8388608) (ty : TypeId) :
    ∃ v' w', (Builtin.append_ #[33, 33] ty #[v, x]).run Tryz.prog w = .ok v' w' ∧ OwnPg w' B v' (l ++ ns) ∧ Below B w w' := by
  obtain ⟨i0, hi, hz0, hz1, hz2⟩ := info_parts info_page
  have hmax : l.length + ns.length ≤ maxLen := by simp only [maxLen]; omega
  obtain ⟨A, c, rfl, _, _, hwf, h6⟩ := hx
  obtain ⟨h1, h2⟩ := ho
  have hwf2 : wfP (l ++ ns) := fun q hq => (List.mem_append.1 hq).elim (h1 q) (hwf q)
  by_cases h0 : 0 < ns.length
  · obtain ⟨b, off, rfl, _, hc⟩ := h6 h0
    obtain ⟨v', w', hr, h3, h4, _⟩ := run_append_own (P := Tryz.prog) w B 33 ty 51 i0 _ 2 24 Tryz.underlying33 hi hz0 hz1 hz2 rfl (by omega) v l.length (pgCs l) h2 ⟨b, off, none⟩ ns.length c (pgCs ns) (pgCs_len ns) (fun j u hu => by rw [Addr.add_lit]; exact pgs_cells ns off hc j u hu) (pgCs_one ns) hmax (by omega) hB
    refine ⟨v', w', hr, ⟨hwf2, ?_⟩, (Below.refl _ _).grown h4 hB (fun k hk => (h2.lt k hk).1)⟩
    rw [pgCs_app, List.length_append]
    exact h3
  · have hns : ns = [] := List.eq_nil_of_length_eq_zero (by omega)
    subst hns
    cases A with
    | some ad =>
      obtain ⟨v', w', hr, h3, h4, _⟩ := run_append_own (P := Tryz.prog) w B 33 ty 51 i0 _ 2 24 Tryz.underlying33 hi hz0 hz1 hz2 rfl (by omega) v l.length (pgCs l) h2 ad 0 c [] rfl (fun j u hu => by simp at hu) (by simp) hmax (by simp at *; omega) hB
      refine ⟨v', w', hr, ⟨hwf2, ?_⟩, (Below.refl _ _).grown h4 hB (fun k hk => (h2.lt k hk).1)⟩
      rw [pgCs_app, List.length_append]
      exact h3
    | none =>
      refine ⟨v, w, ?_, by simpa using ⟨h1, h2⟩, Below.refl _ _⟩
      rcases h2.2 with ⟨rfl, h0⟩ | ⟨g, cap, cur, rfl, _, _, hnc, _⟩
      · simp [Builtin.append_, run_underlying Tryz.underlying33, sizeOf, typeInfo, hi, Builtin.lenOf, Builtin.firstCells]
      · simp [Builtin.append_, run_underlying Tryz.underlying33, sizeOf, typeInfo, hi, Builtin.lenOf, Builtin.firstCells, hnc, storeCells]
theorem wp_append_pages {w : World} {ops : Array Oper} {rest : List Oper} {o : Oper} {a : Act} {Q : Exit → Act → World → Prop} (hgd : o.guard = none) (s x : Operand)
    (hop : o.op = .call { callee := .builtin .append, args := #[s, x], argTypes := #[33, 33] })
    (B : Nat) (v : Value) (l : Pgs) (hs : a.eval s = v) (ho : OwnPg w B v l) (hB : B ≤ w.heap.size) (y : Value) (B' : Nat) (ns : Pgs) (hx : a.eval x = y) (hy : PgsIn w B' y ns) (hm : l.length + ns.length ≤ 8388608)
    (hK : ∀ v' w', OwnPg w' B v' (l ++ ns) → Below B w w' → wpList Tryz.prog ops Q rest (a.put o.dst v') w') : wpList Tryz.prog ops Q (o :: rest) a w := by
  refine wpList_plain hgd fun K hK' => ?_
  obtain ⟨v', w', hrun, r1, r2⟩ := run_append_pages w B v l ho hB y B' ns hy hm o.type
  unfold Oper.wp
  simp [execOp, hop, resolve, invoke, builtin, hs, hx, hrun, Result.andThen]
  exact hK' _ _ (hK v' w' r1 r2)

section
variable {w w' : World} {B : Nat} {v : Value} {l : Pgs}
theorem OwnPg.open (h : OwnPg w B v l) (h0 : 0 < l.length) : ∃ g cap cur, v = .slice (some ⟨g, 0, none⟩) l.length cap ∧ B ≤ g ∧ g < w.heap.size ∧ w.heap[g]? = some (.cells cur 51 (0, 0)) ∧ l.length ≤ cap ∧ cap ≤ maxLen ∧
    ∀ (k : Nat) p, l[k]? = some p → w.cell? ⟨g, k * 2, none⟩ = some (.int .i64 p.1) ∧ w.cell? ⟨g, k * 2 + 1, none⟩ = some (.string ⟨p.2.toArray⟩) := by
  obtain ⟨_, h2⟩ := h
  have hlt := h2.lt
  have hc := fun g hg => h2.cells (g := g) hg
  rcases h2.2 with ⟨_, h1⟩ | ⟨g, cap, cur, rfl, hb, hh, hn, hm, _, _⟩
  · omega
  · have hat : ∀ (k : Nat) p, l[k]? = some p → ∀ (j : Nat) x, (pgC p)[j]? = some x → w.cell? ⟨g, k * 2 + j, none⟩ = some x := fun k p hp j x hx => by
      have := hc g rfl (k * 2 + j) _ (pgCs_at l k p hp j x hx)
      rwa [Addr.add_lit, Nat.zero_add] at this
    exact ⟨g, cap, cur, rfl, hb, (hlt g rfl).2, hh, hn, hm, fun k p hp => ⟨hat k p hp 0 _ rfl, hat k p hp 1 _ rfl⟩⟩
theorem pgCs_set : ∀ (l : Pgs) (k : Nat) (p : Int × List UInt8) (x : Int), l[k]? = some p → pgCs (l.set k (x, p.2)) = (pgCs l).set (k * 2) (.int .i64 x)
  | [], _, _, _, h => by simp at h
  | q :: r, 0, p, x, h => by
    obtain rfl : q = p := by simpa using h
    rfl
  | q :: r, k + 1, p, x, h => by
    show pgC q ++ pgCs (r.set k (x, p.2)) = (pgC q ++ pgCs r).set ((k + 1) * 2) _
    rw [pgCs_set r k p x (by simpa using h), show (k + 1) * 2 = k * 2 + 1 + 1 by omega]
    rfl
theorem OwnPg.stored {g cap : Nat} (h : OwnPg w B (.slice (some ⟨g, 0, none⟩) l.length cap) l) (k : Nat) (p : Int × List UInt8) (hp : l[k]? = some p) (x : Int) (hx : (Lit.int .i64 x).wf = true) :
    OwnPg (w.setCell ⟨g, k * 2, none⟩ (.int .i64 x)) B (.slice (some ⟨g, 0, none⟩) l.length cap) (l.set k (x, p.2)) := by
  obtain ⟨h1, h2⟩ := h
  have h3 := (World.ownsRow.stored h2 (k * 2) (.int .i64 x)).1
  refine ⟨fun q hq => ?_, ?_⟩
  · rcases List.mem_or_eq_of_mem_set hq with h | rfl
    · exact h1 q h
    · exact hx
  · rw [List.length_set, pgCs_set l k p x hp]
    exact h3
/-- The row's block is as it was. -/
theorem OwnPg.same (h : OwnPg w B v l) (hb : ∀ g, v.ownBlock = some g → w'.heap[g]? = w.heap[g]?) : OwnPg w' B v l := by
  obtain ⟨h0, h2⟩ := h
  refine ⟨h0, ⟨h2.1, ?_⟩⟩
  rcases h2.2 with h4 | ⟨g, cap, cur, rfl, hg, hh, r⟩
  · exact .inl h4
  · exact .inr ⟨g, cap, cur, rfl, hg, (hb g rfl).trans hh, r⟩
end

theorem apart_set (w : World) (g i : Nat) (x : Value) : Apart (fun k => k = g) w (w.setCell ⟨g, i, none⟩ x) :=
  ⟨rfl, rfl, rfl, by simp, fun k _ hn => heap_setCell_other _ _ _ _ hn⟩

/-- The pages by their places. -/
def gF (l : Pgs) (k : Nat) : List UInt8 := (l.getD k (0, [])).2
structure MixP (l M : Pgs) (k : Nat) : Prop where
  len : M.length = l.length
  lo : ∀ j, j < k → M[j]? = some ((j : Int), gF l j)
  hi : ∀ j, k ≤ j → M[j]? = l[j]?
theorem MixP.start (l : Pgs) : MixP l l 0 := ⟨rfl, (fun j h => by omega), fun _ _ => rfl⟩
theorem gF_at {l : Pgs} {k : Nat} {p : Int × List UInt8} (h : l[k]? = some p) : gF l k = p.2 := by unfold gF; rw [List.getD_eq_getElem?_getD, h]; rfl
theorem MixP.set {l M : Pgs} {k : Nat} {p : Int × List UInt8} (h : MixP l M k) (hp : l[k]? = some p) : MixP l (M.set k ((k : Int), p.2)) (k + 1) := by
  have hk := (List.getElem?_eq_some_iff.1 hp).1
  refine ⟨by rw [List.length_set]; exact h.len, fun j hj => ?_, fun j hj => ?_⟩
  · rw [List.getElem?_set]
    by_cases e : k = j
    · subst e
      rw [if_pos rfl, if_pos (by rw [h.len]; exact hk), gF_at hp]
    · rw [if_neg e]
      exact h.lo j (by omega)
  · rw [List.getElem?_set, if_neg (by omega)]
    exact h.hi j (by omega)

/-- The one file's name. -/
theorem names_one (g N : Nat) (S : Nat → Prop) (D : Dsk) (n : List UInt8) (w : World) (h : DkS w g N S D) (ho : D.off = false) (hn : n.length ≤ maxLen) (h1 : (getF D.now n).isSome = true) (hs : ∀ m, (getF D.now m).isSome = true → m = n) :
    Calls Tryz.prog 21 #[.pointer (some ⟨g, 0, none⟩)] w (fun e w' => ∃ v l, e = .returned v ∧ Below w.heap.size w w' ∧ OwnS w' w.heap.size v l ∧ l.length = 1) := by
  obtain ⟨P, hR, h2⟩ := h
  refine (names_any g N S P w hR).mono ?_
  rintro e w' ⟨hb, ⟨ho2, rfl⟩ | ⟨ho2, v, l, rfl, hown, hnd, hup, hmem⟩⟩
  · rw [h2.off, ho2] at ho; cases ho
  · refine ⟨v, l, rfl, hb, hown, ?_⟩
    have hall : ∀ x ∈ l, x = n := fun x hx => hs x (by rw [← h2.is]; exact ((hmem x).1 hx).2)
    have hin : n ∈ l := (hmem n).2 ⟨hn, by rw [h2.is]; exact h1⟩
    match l, hnd, hall, hin with
    | [], _, _, hin => cases hin
    | [_], _, _, _ => rfl
    | a :: b :: r, hnd, hall, _ =>
      have e : a = b := (hall a (by simp)).trans (hall b (by simp)).symm
      exact absurd (by rw [e]; simp) (List.nodup_cons.1 hnd).1

end Go.Proofs.YtkbmajgbhpecgaaGreatDoor.Cd

/-
  The reference's Reader: Fail, Good, End, Uint, Int, In, Take, Text. Conditions: none.
-/
namespace Go.Proofs.YtkbmajgbhpecgaaGreatDoor.Cd
open Go.RowKit

/-- Block g is the reference's reader that has the bytes 'bs' left. -/
def Rf (w : World) (g : Nat) (bs : List UInt8) (bad : Bool) : Prop := w.heap[g]? = some (.cells #[.string ⟨bs.toArray⟩, .bool bad] 88 (0, 0))

section
variable {w w' : World} {g : Nat} {bs : List UInt8} {bad : Bool}
theorem Rf.lt (h : Rf w g bs bad) : g < w.heap.size := by
  rcases Nat.lt_or_ge g w.heap.size with hlt | hge
  · exact hlt
  · unfold Rf at h; rw [Array.getElem?_eq_none hge] at h; cases h
theorem Rf.cell0 (h : Rf w g bs bad) : w.cell? ⟨g, 0, none⟩ = some (.string ⟨bs.toArray⟩) := cell_of_row w g 0 _ _ (0, 0) h
theorem Rf.cell1 (h : Rf w g bs bad) : w.cell? ⟨g, 1, none⟩ = some (.bool bad) := cell_of_row w g 1 _ _ (0, 0) h
theorem Rf.frozen (h : Rf w g bs bad) (i : Nat) : w.frozen? ⟨g, i, none⟩ = false := by
  unfold Rf at h
  simp [World.frozen?, h]
theorem Rf.drew (h : Rf w g bs bad) : Rf w.drew g bs bad := h
theorem Rf.set0 (h : Rf w g bs bad) {v : Value} (cs : List UInt8) (hv : v = .string ⟨cs.toArray⟩) : Rf (w.setCell ⟨g, 0, none⟩ v) g cs bad := by
  subst hv
  unfold Rf at h ⊢
  simp [World.setCell, Array.getElem?_modify, h]
theorem Rf.set1 (h : Rf w g bs bad) (b : Bool) : Rf (w.setCell ⟨g, 1, none⟩ (.bool b)) g bs b := by
  unfold Rf at h ⊢
  simp [World.setCell, Array.getElem?_modify, h]
theorem Rf.below {B : Nat} (h : Rf w g bs bad) (hb : Below B w w') (hg : g < B) : Rf w' g bs bad := (hb.block g hg).trans h
theorem Rf.new (h : Rf w g bs bad) (o : Obj) : Rf (w.alloc o) g bs bad :=
  h.below ((Below.refl w.heap.size w).alloc (Nat.le_refl _) o) h.lt
/-- Another block's writes leave it. -/
theorem Rf.far {g' : Nat} (h : Rf w g bs bad) (hg : w.grownBy w' (some g')) (hne : g ≠ g') : Rf w' g bs bad := (hg.block g h.lt (fun e => hne (by injection e))).trans h
theorem Rd.far {g' : Nat} (h : Rd w g bs bad) (hg : w.grownBy w' (some g')) (hne : g ≠ g') : Rd w' g bs bad := (hg.block g h.lt (fun e => hne (by injection e))).trans h
end

def LeftF (w : World) (g : Nat) (bs : List UInt8) (bad : Bool) (w' : World) : Prop := Rf w' g bs bad ∧ w.grownBy w' (some g)
def AnsF (v : Value) (w : World) (g : Nat) (bs : List UInt8) (bad : Bool) (e : Ending) (w' : World) : Prop := e = .returned v ∧ LeftF w g bs bad w'
theorem leftF_trans {w w1 w2 : World} {g : Nat} {a b : List UInt8} {x y : Bool} (h : LeftF w g a x w1) (k : LeftF w1 g b y w2) : LeftF w g b y w2 := ⟨k.1, grown_trans h.2 k.2⟩

set_option maxHeartbeats 400000 in
theorem ffail_any (g : Nat) (bs : List UInt8) (bad : Bool) (w : World) (hr : Rf w g bs bad) :
    Calls Tryz.prog 73 #[.pointer (some ⟨g, 0, none⟩)] w fun e w' => e = .returned (.tuple #[]) ∧ LeftF w g [] true w' := by
  have hc0 := hr.cell0
  have hc1 := hr.cell1
  have hf0 := hr.frozen 0
  have hf1 := hr.frozen 1
  go_enter Tryz.func73, Tryz.ntmps73
  go_wp2_with fail
  go_end0
  exact ⟨rfl, (hr.set1 true).set0 [] rfl, grown_trans (grown_set _ _ _ _) (grown_set _ _ _ _)⟩

set_option maxHeartbeats 400000 in
theorem fgood_any (g : Nat) (bs : List UInt8) (bad : Bool) (w : World) (hr : Rf w g bs bad) :
    Calls Tryz.prog 48 #[.pointer (some ⟨g, 0, none⟩)] w fun e w' => e = .returned (.bool !bad) ∧ w = w' := by
  have hc := hr.cell1
  go_enter Tryz.func48, Tryz.ntmps48
  go_wp2_with fail
  go_ret
  exact ⟨rfl, rfl⟩

theorem at8_list (l : List UInt8) (k : Nat) (h : k < (ByteArray.mk l.toArray).size) : (ByteArray.mk l.toArray)[k].toNat = at8 l k := at8_of ⟨l.toArray⟩ k h

theorem stop_at (l : List UInt8) (k : Nat) (h : k < stop l) : 128 ≤ at8 l k := stop_lo l k h

/-- What the bytes from j on say, shifted down. -/
theorem val_split (l : List UInt8) (j m e : Nat) (h : val l (e + 1) = val l (j + 1) + m * 128 ^ (j + 1)) : val l (e + 1) = val l j + (m * 128 + at8 l j % 128) * 128 ^ j := by
  rw [h, val, Nat.pow_succ, Nat.add_mul, Nat.mul_assoc m 128, Nat.mul_comm 128 (128 ^ j)]
  omega

theorem part_lt (l : List UInt8) (j x e : Nat) (hb : val l (e + 1) < 18446744073709551616) (h : val l (e + 1) = val l j + x * 128 ^ j) : x < 18446744073709551616 := by
  have h1 : x * 1 ≤ x * 128 ^ j := Nat.mul_le_mul_left _ (Nat.pow_pos (by omega))
  omega

set_option maxRecDepth 100000 in
set_option maxHeartbeats 1000000 in
theorem fuint_any (g : Nat) (bs : List UInt8) (bad : Bool) (w : World) (hr : Rf w g bs bad) (hbb : Sane bad bs) (hs : bs.length ≤ 140737488355328) :
    Calls Tryz.prog 72 #[.pointer (some ⟨g, 0, none⟩)] w (AnsF (.int .u64 (nv bs : Nat)) w g (uB bs) (uX bs)) := by
  have HR := Lib.hid hr
  have HBB := Lib.hid hbb
  have hc0 := hr.cell0
  have hf0 := hr.frozen 0
  have hsl := stop_le bs
  clear hr hbb
  go_enter Tryz.func72, Tryz.ntmps72
  go_wp2
  go_loop [3] (fun i => ∃ k : Nat, i = .int .i64 k ∧ k ≤ stop bs) (fun i => stop bs - (intOf i).toNat)
  case atStart => exact ⟨0, rfl, by omega⟩
  case round =>
    obtain ⟨k, rfl, hk⟩ := hrel
    by_cases hlt : k < stop bs
    · have hkl : k < bs.length := by omega
      have h8 := stop_at bs k hlt
      rw [← at8_list bs k hkl] at h8
      obtain ⟨c, hc⟩ : ∃ c, (ByteArray.mk bs.toArray)[k]'hkl = c := ⟨_, rfl⟩
      rw [hc] at h8
      go_wp2_with fail
      go_round
      case rel => exact ⟨k + 1, by go_num, by omega⟩
      case measure => simp [intOf]; omega
    · have hkk : k = stop bs := by omega
      subst hkk
      clear hlt hk
      have HSL := Lib.hid hsl
      by_cases hend : bs.length ≤ stop bs
      · have hbad : Hid (Bad bs) := .inl hend
        have hnl : ¬ stop bs < bs.length := by omega
        go_wp2_with (go_at_call 73; refine (ffail_any g bs bad _ HR.out).mono ?_; rintro e w1 ⟨rfl, hl⟩)
        go_ret
        rw [show uB bs = [] from if_pos hbad.out, show uX bs = true from decide_eq_true hbad.out, nv_bad hbad.out]
        exact ⟨rfl, hl⟩
      · have hkl : stop bs < bs.length := by omega
        have h8 := stop_hi bs hkl
        rw [← at8_list bs _ hkl] at h8
        obtain ⟨c, hc⟩ : ∃ c, (ByteArray.mk bs.toArray)[stop bs]'hkl = c := ⟨_, rfl⟩
        have hat : Hid (c.toNat = at8 bs (stop bs)) := by unfold Hid; rw [← at8_list bs _ hkl, hc]
        rw [hc] at h8
        have hbadc : bad = false := by
          cases bad with
          | false => rfl
          | true => have := HBB.out rfl; rw [this] at hkl; simp at hkl
        subst hbadc
        by_cases h9 : 9 < stop bs
        · have hbad : Hid (Bad bs) := .inr (.inl h9)
          go_wp2_with (go_at_call 73; refine (ffail_any g bs _ _ HR.out).mono ?_; rintro e w1 ⟨rfl, hl⟩)
          go_ret
          rw [show uB bs = [] from if_pos hbad.out, show uX bs = true from decide_eq_true hbad.out, nv_bad hbad.out]
          exact ⟨rfl, hl⟩
        · by_cases hz : 0 < stop bs ∧ c.toNat = 0
          · have hbad : Hid (Bad bs) := .inr (.inr (.inl ⟨hz.1, by rw [← hat.out]; exact hz.2⟩))
            have h0 := hz.1
            have hq : ((c.toNat : Int) == 0) = true := by simp; omega
            clear hz
            go_wp2_with (go_at_call 73; refine (ffail_any g bs _ _ HR.out).mono ?_; rintro e w1 ⟨rfl, hl⟩)
            go_ret
            rw [show uB bs = [] from if_pos hbad.out, show uX bs = true from decide_eq_true hbad.out, nv_bad hbad.out]
            exact ⟨rfl, hl⟩
          · by_cases hn9 : stop bs = 9 ∧ 1 < c.toNat
            · obtain ⟨e9, hc1⟩ := hn9
              have hbad : Hid (Bad bs) := .inr (.inr (.inr ⟨e9, by have := hat.out; rw [e9] at this; omega⟩))
              have hq : ((c.toNat : Int) == 0) = false := by simp; omega
              have hE : ((stop bs : Int) == 9) = true := by simp; omega
              have h0 : 0 < stop bs := by omega
              have h9l : 9 < bs.length := by omega
              have hc9 : (ByteArray.mk bs.toArray)[9]'h9l = c := by rw [← hc]; congr 1; exact e9.symm
              clear e9 hz
              go_wp2_with (go_at_call 73; refine (ffail_any g bs _ _ HR.out).mono ?_; rintro e w1 ⟨rfl, hl⟩)
              go_ret
              rw [show uB bs = [] from if_pos hbad.out, show uX bs = true from decide_eq_true hbad.out, nv_bad hbad.out]
              exact ⟨rfl, hl⟩
            · have hgood : ¬ Bad bs := by
                have := hat.out
                unfold Bad
                rintro (h | h | ⟨h, h'⟩ | ⟨h, h'⟩)
                · omega
                · omega
                · exact hz ⟨h, by omega⟩
                · exact hn9 ⟨h, by rw [← h] at h'; omega⟩
              have hval := val_u64 hgood
              have HV := Lib.hid hval
              have hx : Hid (uB bs = bs.drop (stop bs + 1) ∧ uX bs = false ∧ nv bs = val bs (stop bs + 1)) := ⟨by unfold uB; rw [if_neg hgood, ns_good hgood], decide_eq_false hgood, nv_good hgood⟩
              clear hgood hval
              have HAT := Lib.hid hat.out
              have HC := Lib.hid hc
              have hlen : (ByteArray.mk bs.toArray).size = bs.length := rfl
              have hways : (¬ 0 < stop bs ∧ ((stop bs : Int) == 9) = false) ∨ (0 < stop bs ∧ ((c.toNat : Int) == 0) = false ∧ ((stop bs : Int) == 9) = false) ∨
                  (0 < stop bs ∧ ((c.toNat : Int) == 0) = false ∧ ((stop bs : Int) == 9) = true ∧ ¬ 1 < c.toNat ∧ ∃ h9l : 9 < bs.length, (ByteArray.mk bs.toArray)[9]'h9l = c) := by
                by_cases a0 : 0 < stop bs
                · have hcz : ((c.toNat : Int) == 0) = false := by simp; omega
                  by_cases a9 : stop bs = 9
                  · exact .inr (.inr ⟨a0, hcz, by simp; omega, by omega, by omega, by rw [← hc]; congr 1; exact a9.symm⟩)
                  · exact .inr (.inl ⟨a0, hcz, by simp; omega⟩)
                · exact .inl ⟨a0, by simp; omega⟩
              rcases hways with ⟨hs0, hE⟩ | ⟨hs0, hq, hE⟩ | ⟨hs0, hq, hE, hc1, h9l, hc9⟩
              all_goals
                clear hz hn9
                go_wp2_with fail
                go_loop [4, 5] (fun n i => ∃ (j m : Nat), i = .int .i64 ((j : Int) - 1) ∧ n = .int .u64 m ∧ j ≤ stop bs + 1 ∧ Hid (val bs (stop bs + 1) = val bs j + m * 128 ^ j)) (fun _ i => (intOf i + 1).toNat)
                case atStart => exact ⟨stop bs + 1, 0, congrArg (Value.int .i64) (by omega), rfl, by omega, by unfold Hid; omega⟩
                case round =>
                  obtain ⟨j, m, rfl, rfl, hj, hv⟩ := hrel
                  cases j with
                  | succ j =>
                    have hjl : j < bs.length := by omega
                    obtain ⟨d, hd⟩ : ∃ d, (ByteArray.mk bs.toArray)[j]'hjl = d := ⟨_, rfl⟩
                    have hdat : Hid (d.toNat = at8 bs j) := by unfold Hid; rw [← at8_list bs _ hjl, hd]
                    have hnew : Hid (val bs (stop bs + 1) = val bs j + (m * 128 + d.toNat % 128) * 128 ^ j) := by
                      unfold Hid
                      rw [hdat.out]
                      exact val_split bs j m (stop bs) hv.out
                    have hlt64 : m * 128 + d.toNat % 128 < 18446744073709551616 := part_lt bs j _ (stop bs) HV.out hnew.out
                    have hd8 := d.toNat_lt
                    rw [show ((j + 1 : Nat) : Int) - 1 = (j : Int) by omega]
                    clear hv
                    go_wp2_with fail
                    go_round
                    case rel => exact ⟨j, m * 128 + d.toNat % 128, rfl, by go_num, by omega, hnew⟩
                    case measure => simp [intOf]
                  | zero =>
                    have hm0 : Hid (nv bs = m) := by
                      have h1 := hv.out
                      have h2 := hx.out.2.2
                      rw [val, Nat.pow_zero, Nat.mul_one, Nat.zero_add] at h1
                      rw [← h2] at h1
                      exact h1
                    go_wp2_with fail
                    go_ret
                    obtain ⟨x1, x2, x3⟩ := hx.out
                    rw [x1, x2, hm0.out]
                    refine ⟨rfl, HR.out.set0 _ ?_, grown_set _ _ _ _⟩
                    rw [extract_tail _ _ _ rfl]

end Go.Proofs.YtkbmajgbhpecgaaGreatDoor.Cd

/-
  The reference's Reader: Int, In, Take, Text. Conditions: none.
-/
namespace Go.Proofs.YtkbmajgbhpecgaaGreatDoor.Cd
open Go.RowKit

set_option maxHeartbeats 400000 in
theorem ftake_any (g : Nat) (n : Int) (bs : List UInt8) (bad : Bool) (w : World) (hr : Rf w g bs bad) (_hs : bs.length ≤ 140737488355328) :
    Calls Tryz.prog 74 #[.pointer (some ⟨g, 0, none⟩), .int .i64 n] w (AnsF (.string ⟨(tkV bad n bs).toArray⟩) w g (tkB bad n bs) (tkX bad n bs)) := by
  have HR := Lib.hid hr
  have hc0 := hr.cell0
  have hc1 := hr.cell1
  have hf0 := hr.frozen 0
  have hsz : (ByteArray.mk bs.toArray).size = bs.length := rfl
  clear hr
  by_cases hbad : TkBad bad n bs
  · have hx : Hid (tkB bad n bs = [] ∧ tkX bad n bs = true ∧ tkV bad n bs = []) := ⟨if_pos hbad, decide_eq_true hbad, if_pos hbad⟩
    rcases (by rcases hbad with h | h | h; (by_cases h0 : n < 0; exact .inl h0; by_cases h1 : (bs.length : Int) < n; exact .inr (.inl ⟨h0, h1⟩); exact .inr (.inr ⟨h0, h1, h⟩)); exact .inl h; (by_cases h0 : n < 0; exact .inl h0; exact .inr (.inl ⟨h0, h⟩)) : n < 0 ∨ (¬ n < 0 ∧ (bs.length : Int) < n) ∨ (¬ n < 0 ∧ ¬ (bs.length : Int) < n ∧ bad = true)) with h0 | ⟨h0, h1⟩ | ⟨h0, h1, rfl⟩
    all_goals
      clear hbad
      go_enter Tryz.func74, Tryz.ntmps74
      go_wp2_with (go_at_call 73; refine (ffail_any g bs _ _ HR.out).mono ?_; rintro e w1 ⟨rfl, hl⟩)
      go_ret
      obtain ⟨h1, h2, h3⟩ := hx.out
      rw [h1, h2, h3]
      exact ⟨rfl, hl⟩
  · have hx : Hid (tkB bad n bs = bs.drop n.toNat ∧ tkX bad n bs = false ∧ tkV bad n bs = bs.take n.toNat) := ⟨if_neg hbad, decide_eq_false hbad, if_neg hbad⟩
    have h0 : ¬ n < 0 := fun h => hbad (.inr (.inl h))
    have h1 : ¬ (bs.length : Int) < n := fun h => hbad (.inr (.inr h))
    have hbf : bad = false := by
      cases bad with
      | false => rfl
      | true => exact absurd (.inl rfl) hbad
    clear hbad
    subst hbf
    obtain ⟨k, rfl⟩ := Int.eq_ofNat_of_zero_le (by omega : 0 ≤ n)
    have h2 : k ≤ bs.length := by omega
    go_enter Tryz.func74, Tryz.ntmps74
    go_wp2_with fail
    go_ret
    obtain ⟨h1, h2, h3⟩ := hx.out
    rw [h1, h2, h3, Int.toNat_natCast]
    refine ⟨?_, HR.out.set0 _ ?_, grown_set _ _ _ _⟩
    · rw [← extract_head]; rfl
    · rw [extract_tail _ _ _ rfl]

theorem tx_is_tk {most : Int} {bs : List UInt8} (hb : ¬ Bad bs) (h0 : ¬ most < 0) (h1 : ¬ most < (nv bs : Nat)) :
    txB most bs = tkB false (nv bs : Nat) (uB bs) ∧ txX most bs = tkX false (nv bs : Nat) (uB bs) ∧ txV most bs = tkV false (nv bs : Nat) (uB bs) := by
  have e : uB bs = bs.drop (ns bs) := if_neg hb
  have hiff : TxBad most bs ↔ TkBad false (nv bs : Nat) (uB bs) := by
    unfold TxBad TkBad
    rw [e]
    simp only [Bool.false_eq_true, false_or]
    constructor
    · rintro (h | h | h | h)
      · exact absurd h hb
      · exact absurd h h0
      · exact absurd h h1
      · exact .inr (by omega)
    · rintro (h | h)
      · omega
      · exact .inr (.inr (.inr (by omega)))
  unfold txB txX txV tkB tkX tkV
  by_cases hk : TkBad false (nv bs : Nat) (uB bs)
  · rw [if_pos hk, if_pos hk, if_pos (hiff.2 hk), if_pos (hiff.2 hk), decide_eq_true hk, decide_eq_true (hiff.2 hk)]
    exact ⟨rfl, rfl, rfl⟩
  · have hk2 := fun h => hk (hiff.1 h)
    rw [if_neg hk, if_neg hk, if_neg hk2, if_neg hk2, decide_eq_false hk, decide_eq_false hk2, e, Int.toNat_natCast]
    exact ⟨rfl, rfl, rfl⟩

set_option maxRecDepth 100000 in
set_option maxHeartbeats 400000 in
theorem ftext_any (g : Nat) (most : Int) (bs : List UInt8) (bad : Bool) (w : World) (hr : Rf w g bs bad) (hbb : Sane bad bs) (hs : bs.length ≤ 140737488355328) (hm : most ≤ 9223372036854775807) :
    Calls Tryz.prog 47 #[.pointer (some ⟨g, 0, none⟩), .int .i64 most] w (AnsF (.string ⟨(txV most bs).toArray⟩) w g (txB most bs) (txX most bs)) := by
  have hu := Lib.hid (fuint_any g bs bad w hr hbb hs)
  clear hr hbb
  have hlen := uB_len bs
  have hn := nv_u64 bs
  by_cases ho : Bad bs ∨ most < 0 ∨ most < (nv bs : Nat)
  · have ht : TxBad most bs := by
      rcases ho with h | h | h
      · exact .inl h
      · exact .inr (.inl h)
      · exact .inr (.inr (.inl h))
    have hx : Hid (txB most bs = [] ∧ txX most bs = true ∧ txV most bs = []) := ⟨if_pos ht, decide_eq_true ht, if_pos ht⟩
    have hways : uX bs = true ∨ (uX bs = false ∧ most < 0) ∨ (uX bs = false ∧ ¬ most < 0 ∧ most < (nv bs : Nat)) := by
      by_cases hb : Bad bs
      · exact .inl (decide_eq_true hb)
      · have hx2 : uX bs = false := decide_eq_false hb
        by_cases h0 : most < 0
        · exact .inr (.inl ⟨hx2, h0⟩)
        · refine .inr (.inr ⟨hx2, h0, ?_⟩)
          rcases ho with h | h | h
          · exact absurd h hb
          · exact absurd h h0
          · exact h
    clear ht ho
    generalize nv bs = n at hu hn hways
    generalize uX bs = x at hu hways
    generalize uB bs = c at hu hlen
    rcases hways with hw | ⟨hw, h0⟩ | ⟨hw, h0, h1⟩
    all_goals
      subst hw
      go_enter Tryz.func47, Tryz.ntmps47
      go_wp2_with (first | (go_at_call 72; refine hu.out.mono ?_; rintro e w1 ⟨rfl, hl⟩; have hc1 := hl.1.cell1) | (go_at_call 73; refine (ffail_any g _ _ _ hl.1).mono ?_; rintro e w2 ⟨rfl, hl2⟩))
      go_ret
      obtain ⟨h1, h2, h3⟩ := hx.out
      rw [h1, h2, h3]
      exact ⟨rfl, leftF_trans hl hl2⟩
  · have hb : ¬ Bad bs := fun h => ho (.inl h)
    have h0 : ¬ most < 0 := fun h => ho (.inr (.inl h))
    have h1 : ¬ most < (nv bs : Nat) := fun h => ho (.inr (.inr h))
    have hx2 : uX bs = false := decide_eq_false hb
    have hx : Hid (txB most bs = tkB false (nv bs : Nat) (uB bs) ∧ txX most bs = tkX false (nv bs : Nat) (uB bs) ∧ txV most bs = tkV false (nv bs : Nat) (uB bs)) := tx_is_tk hb h0 h1
    rw [hx2] at hu
    clear hb ho hx2
    generalize nv bs = n at hu h1 hn hx
    go_enter Tryz.func47, Tryz.ntmps47
    go_wp2_with (first | (go_at_call 72; refine hu.out.mono ?_; rintro e w1 ⟨rfl, hl⟩; have hc1 := hl.1.cell1) | (go_at_call 74; refine (ftake_any g _ _ _ _ hl.1 (by omega)).mono ?_; rintro e w2 ⟨rfl, hl2⟩))
    go_ret
    obtain ⟨h1, h2, h3⟩ := hx.out
    rw [h1, h2, h3]
    exact ⟨rfl, leftF_trans hl hl2⟩

end Go.Proofs.YtkbmajgbhpecgaaGreatDoor.Cd

/-
  The document's Split. Conditions: none.
-/
namespace Go.Proofs.YtkbmajgbhpecgaaGreatDoor.Cd
open Go.RowKit

/-- What the document's Split answers. -/
def RSplitIs (w : World) (bs : List UInt8) (e : Ending) (w' : World) : Prop :=
  ∃ u ds cur, Splits bs ds cur ∧ e = .returned (.tuple #[u, .string ⟨cur.toArray⟩]) ∧ OwnS w' w.heap.size u ds ∧ Below w.heap.size w w'

/-- A row stays while a block is written that is younger. -/
theorem OwnS.past {w w' : World} {B : Nat} {v : Value} {l : List (List UInt8)} (h : OwnS w B v l) (o : Obj) (hg : (w.alloc o).grownBy w' (some w.heap.size)) : OwnS w' B v l :=
  World.ownsRow.kept (World.ownsRow.alloc h o) hg (.inr fun e => by have := (World.ownsRow.lt h _ e).2; omega)

def textLen : Value → Nat
  | .string s => s.size
  | _ => 0

theorem rec_tx {c : List UInt8} (hc : c.length < 18446744073709551616) (h : ¬ frm (txV c.length c) <+: c) : ¬ HasRec c := by
  rintro ⟨x, hx⟩
  have := (pre_tx hx hc).2.1
  rw [this] at h
  exact h hx

theorem pre_take {f c : List UInt8} : f <+: c ↔ c.take f.length = f := by
  rw [List.prefix_iff_eq_take]
  exact ⟨fun h => h.symm, fun h => h.symm⟩

set_option maxRecDepth 100000 in
set_option maxHeartbeats 1600000 in
theorem rsplit_any (bs : List UInt8) (w : World) (hb : bs.length ≤ 1048576) :
    Calls Tryz.prog 25 #[.string ⟨bs.toArray⟩] w (RSplitIs w bs) := by
  go_enter Tryz.func25, Tryz.ntmps25
  go_wp2_with fail
  go_loopw [0, 4] (fun s o wr => ∃ ds cur, Hid (bs = flat ds ++ cur) ∧ s = .string ⟨cur.toArray⟩ ∧ Hid (OwnS wr w.heap.size o ds) ∧ Below w.heap.size w wr) (fun s _ _ => textLen s)
  case atStart => exact ⟨[], bs, rfl, rfl, OwnS.nil _ _, Below.refl _ _⟩
  case round =>
    obtain ⟨ds, cur, he, rfl, ho, hbel⟩ := hrel
    have hsz := hbel.size
    have hlen : (flat ds).length + cur.length = bs.length := by have := congrArg List.length he.out; rw [List.length_append] at this; omega
    have hds := flat_ge ds
    have hcsz : (ByteArray.mk cur.toArray).size = cur.length := rfl
    generalize hn : (flat ds).length = n at *
    clear hn
    have HRF : Hid (Rf (wr.alloc (.cells #[.string ⟨cur.toArray⟩, .bool false] 88)) wr.heap.size cur false) := heap_alloc_new wr _
    have hft := Lib.hid (ftext_any wr.heap.size cur.length cur false _ HRF.out (Sane.start _) (by omega) (by omega))
    have h64 : cur.length < 18446744073709551616 := by omega
    have HB0 := Lib.hid (hbel.alloc hsz (.cells #[.string ⟨cur.toArray⟩, .bool false] 88))
    have htl := txV_len (cur.length : Int) cur
    clear HRF
    cases hX : txX cur.length cur
    · have hrec := Lib.hid (fun h => rec_tx h64 h)
      have hTl := frm_len (txV (cur.length : Int) cur)
      rw [hX] at hft
      generalize hT : txV (cur.length : Int) cur = T at *
      have HFR := Lib.hid (fun W => rframe_any T W (by omega))
      have hge := frm_ge T
      obtain ⟨f, hf⟩ : ∃ f, frm T = f := ⟨_, rfl⟩
      have hle := frm_le T (by omega)
      rw [hf] at hge hle
      have HF := Lib.hid hf
      have hfsz : (ByteArray.mk f.toArray).size = f.length := rfl
      clear hX hT hTl hf
      by_cases hlt : cur.length < f.length
      · have hno : Hid (¬ HasRec cur) := hrec.out (fun h => by rw [HF.out] at h; have := h.length_le; omega)
        clear hrec
        go_wp2_with (first | (go_at_call 47; refine hft.out.mono ?_; rintro e w1 ⟨rfl, hl1⟩) | (go_at_call 48; refine (fgood_any _ _ _ _ hl1.1).mono ?_; rintro e w2 ⟨rfl, rfl⟩) | (go_at_call 23; refine (HFR.out w1).mono ?_; rintro e w3 ⟨rfl, hb3⟩; rw [HF.out]))
        go_ret2
        have HB := below_grown HB0.out hl1.2 (by simp; omega) (by omega)
        exact ⟨_, ds, cur, ⟨he.out, hno.out⟩, rfl, (ho.out.past _ hl1.2).keep hb3, HB.trans (hb3.mono HB.size)⟩
      · have hx1 := extract_head cur f.length
        have hx2 := extract_tail cur f.length cur.length rfl
        by_cases hq : cur.take f.length = f
        · have hpre : Hid (f <+: cur) := pre_take.2 hq
          have hq2 : (f == f) = true := by simp
          rw [hq] at hx1
          have HE : Hid (bs = flat (ds ++ [T]) ++ cur.drop f.length) := by
            unfold Hid
            obtain ⟨t, ht⟩ := hpre.out
            rw [flat_append, flat_one, List.append_assoc, HF.out, ← ht, List.drop_left, ht]
            exact he.out
          have hdl : (cur.drop f.length).length = cur.length - f.length := List.length_drop
          clear hrec hq
          go_wp2_with (first | (go_at_call 47; refine hft.out.mono ?_; rintro e w1 ⟨rfl, hl1⟩) | (go_at_call 48; refine (fgood_any _ _ _ _ hl1.1).mono ?_; rintro e w2 ⟨rfl, rfl⟩) | (go_at_call 23; refine (HFR.out w1).mono ?_; rintro e w3 ⟨rfl, hb3⟩; rw [HF.out]) | (at_builtin; refine wp_append_strs rfl _ _ rfl w.heap.size _ ds rfl ?ho ?hB _ (w3.heap.size + 1) [T] rfl ?hn ?hm ?hK))
          case ho => exact ((ho.out.past _ hl1.2).keep hb3).alloc _
          case hB => have := hl1.2.size; have := hb3.size; simp at *; omega
          case hn => exact strs_one _ _ _
          case hm => simp; omega
          case hK =>
            intro v4 w4 ho4 hb4
            go_wp2_with fail
            have HB := below_grown HB0.out hl1.2 (by simp; omega) (by omega)
            have HB3 := HB.trans (hb3.mono HB.size)
            go_roundw
            case rel => exact ⟨ds ++ [T], cur.drop f.length, HE.out, rfl, ho4, (HB3.alloc HB3.size _).trans hb4⟩
            case measure =>
              have hdz : (ByteArray.mk (cur.drop f.length).toArray).size = cur.length - f.length := hdl
              simp [textLen]
              omega
        · have hno : Hid (¬ HasRec cur) := hrec.out (fun h => hq (pre_take.1 (by rw [HF.out] at h; exact h)))
          generalize cur.take f.length = q at *
          have hq2 : (q == f) = false := by simpa using hq
          clear hrec hq
          go_wp2_with (first | (go_at_call 47; refine hft.out.mono ?_; rintro e w1 ⟨rfl, hl1⟩) | (go_at_call 48; refine (fgood_any _ _ _ _ hl1.1).mono ?_; rintro e w2 ⟨rfl, rfl⟩) | (go_at_call 23; refine (HFR.out w1).mono ?_; rintro e w3 ⟨rfl, hb3⟩; rw [HF.out]))
          go_ret2
          have HB := below_grown HB0.out hl1.2 (by simp; omega) (by omega)
          exact ⟨_, ds, cur, ⟨he.out, hno.out⟩, rfl, (ho.out.past _ hl1.2).keep hb3, HB.trans (hb3.mono HB.size)⟩
    · have hno := Lib.hid (no_rec h64 (.inl hX))
      rw [hX] at hft
      clear hX
      go_wp2_with (first | (go_at_call 47; refine hft.out.mono ?_; rintro e w1 ⟨rfl, hl1⟩) | (go_at_call 48; refine (fgood_any _ _ _ _ hl1.1).mono ?_; rintro e w2 ⟨rfl, rfl⟩))
      go_ret2
      exact ⟨_, ds, cur, ⟨he.out, hno.out⟩, rfl, ho.out.past _ hl1.2, below_grown HB0.out hl1.2 (by simp; omega) (by omega)⟩

end Go.Proofs.YtkbmajgbhpecgaaGreatDoor.Cd

/-
  PagerForms answers true. Conditions: none.
-/
namespace Go.Proofs.YtkbmajgbhpecgaaGreatDoor.Cd
open Go.RowKit
set_option linter.unusedVariables false

theorem MixP.done {l M : Pgs} (h : MixP l M l.length) : M = wsF (gF l) l.length := by
  refine List.ext_getElem? fun j => ?_
  by_cases hj : j < l.length
  · rw [h.lo j hj]
    unfold wsF
    rw [List.getElem?_map, List.getElem?_range' hj]
    simp
  · rw [List.getElem?_eq_none (by rw [h.len]; omega), List.getElem?_eq_none (by rw [wsF_len]; omega)]

/-- The text that is laid, and whether it is a journal. -/
def padsF (l : Pgs) : List (List UInt8) := (List.range l.length).map fun k => pad (gF l k)

set_option maxRecDepth 100000 in
set_option maxHeartbeats 25600000 in
theorem pf_main (bs : List UInt8) (l : Pgs) (bv lv : Value) (w : World) (h : Sl w w.heap.size bv bs) (hp : PgsIn w w.heap.size lv l) (hfit : fitP l) :
    Calls Tryz.prog 4 #[bv, lv] w (Gives (.bool true) w) := by
  obtain ⟨A, c, rfl, h2, h3⟩ := h.len
  have h3 : c ≤ 9223372036854775807 := h3
  obtain ⟨A2, c2, rfl, h22, h23⟩ := hp.len
  have H := Lib.hid h
  have HP := Lib.hid hp
  have HFIT := Lib.hid hfit
  clear h hp hfit
  go_enter Tryz.func4, Tryz.ntmps4
  go_wp2_with fail
  refine (palive_any w).mono ?_
  rintro e w1 ⟨rfl, hb1⟩
  have hs1 := hb1.size
  have HB1 := Lib.hid hb1
  have H1 := Lib.hid (H.out.below hb1)
  have HP1 := Lib.hid (HP.out.below hb1)
  clear hb1
  by_cases hbl : 4096 < bs.length
  · have hbl' : (4096 : Int) < bs.length := by omega
    go_wp2_with fail
    go_ret
    exact ⟨rfl, HB1.out⟩
  have hbl' : ¬ (4096 : Int) < bs.length := by omega
  by_cases hll : 6 < l.length
  · have hll' : (6 : Int) < l.length := by omega
    go_wp2_with fail
    go_ret
    exact ⟨rfl, HB1.out⟩
  have hll' : ¬ (6 : Int) < l.length := by omega
  have hcv := run_text_of w1 _ _ _ H1.out
  go_wp2_with (at_builtin; refine wp_append_pages rfl _ _ rfl w1.heap.size _ [] rfl (ownPg_new w1 _ (Nat.le_refl _)) (by simp) _ _ l rfl (HP1.out.below ((Below.refl _ _).alloc (by simpa using hs1) _)) (by simp; omega) ?_)
  intro v2 w2 ho2 hb2
  have hba : Below w1.heap.size w1 w2 := ((Below.refl _ _).alloc (Nat.le_refl _) _).trans hb2
  have HB2 := Lib.hid (HB1.out.trans (hba.mono hs1))
  have HO2 := Lib.hid ho2
  have hz2 := hba.size
  obtain ⟨A3, c3, rfl, h32, h33⟩ := ho2.pgs.len
  have HS2 := Lib.hid (fun g (hg : (Value.slice A3 l.length c3).ownBlock = some g) => (ho2.2.lt g hg))
  clear hcv hb2 hba ho2 hbl' hll' h2 h3 h22 h23 HB1 H1 HP1
  go_wp2_with fail
  go_loopw [7, 33] (fun ov i wr => ∃ (k : Nat) (M : Pgs), i = .int .i64 k ∧ k ≤ l.length ∧ Hid (MixP l M k) ∧ Hid (OwnPg wr w1.heap.size (.slice A3 l.length c3) M) ∧ Hid (OwnS wr w2.heap.size ov ((List.range k).map fun j => pad (gF l j))) ∧ Hid (∀ j, j < k → (gF l j).length ≤ 512) ∧ Hid (Below w.heap.size w wr) ∧ w2.heap.size ≤ wr.heap.size) (fun _ i _ => l.length - (intOf i).toNat)
  case atStart => exact ⟨0, l, rfl, Nat.zero_le _, MixP.start l, HO2.out, OwnS.nil _ _, (fun j h => by omega), HB2.out, Nat.le_refl _⟩
  case round =>
    obtain ⟨k, M, rfl, hk, hmix, hown, hpg, hsh, hbl2, hwz⟩ := hrel
    by_cases hlt : k < l.length
    · obtain ⟨p, hpk⟩ : ∃ p, l[k]? = some p := ⟨l[k], List.getElem?_eq_getElem hlt⟩
      have hMk : M[k]? = some p := (hmix.out.hi k (Nat.le_refl _)).trans hpk
      have hlen := hmix.out.len
      obtain ⟨g, cap, cur, e5, hg1, hg2, hgh, hg3, hg4, hat⟩ := hown.out.open (by omega)
      rw [hlen] at e5 hg3
      injection e5 with e5 _ e6
      subst e5 e6
      have hgw : g < w2.heap.size := (HS2.out g rfl).2
      obtain ⟨d0, d1⟩ := hat k p hMk
      have hkw : (Lit.int .i64 (k : Int)).wf = true := WalkArith.wf_i64 (by omega)
      obtain ⟨w3, hw3⟩ : ∃ x, wr.alloc (.cells #[.int .i64 p.1, .string ⟨p.2.toArray⟩] 51) = x := ⟨_, rfl⟩
      have hb3 : Below wr.heap.size wr w3 := by rw [← hw3]; exact (Below.refl _ _).alloc (Nat.le_refl _) _
      have hz3 : w3.heap.size = wr.heap.size + 1 := by rw [← hw3]; simp
      have hrow3 : w3.heap[wr.heap.size]? = some (.cells #[.int .i64 p.1, .string ⟨p.2.toArray⟩] 51) := by rw [← hw3]; exact heap_alloc_new _ _
      obtain ⟨pb, hpb⟩ : ∃ x, wr.heap.size = x := ⟨_, rfl⟩
      have hpbg : pb ≠ g := by omega
      have hbw := hbl2.out.size
      have HB3 := Lib.hid (hbl2.out.trans (hb3.mono hbw))
      rw [hpb] at hrow3
      have c0 : w3.cell? ⟨pb, 0, none⟩ = some (.int .i64 p.1) := cell_of_row _ pb 0 _ _ _ hrow3
      have c1 : w3.cell? ⟨pb, 1, none⟩ = some (.string ⟨p.2.toArray⟩) := cell_of_row _ pb 1 _ _ _ hrow3
      by_cases hq : 512 < p.2.length
      · have hq' : (512 : Int) < p.2.length := by omega
        clear hpk hMk hlen hat hkw hg3 hg4 hgh hmix hown hpg hsh
        go_wp2_with fail
        go_ret
        exact ⟨rfl, HB3.out⟩
      have hq' : ¬ (512 : Int) < p.2.length := by omega
      have hfc : w3.cell? ⟨g, k * 2, none⟩ = some (.int .i64 p.1) := (hb3.cell (p := ⟨g, k * 2, none⟩) hg2).trans d0
      have hff : w3.frozen? ⟨g, k * 2, none⟩ = false := by simp [World.frozen?, (hb3.block g hg2).trans hgh]
      obtain ⟨w4, hw4⟩ : ∃ x, w3.setCell ⟨g, k * 2, none⟩ (.int .i64 k) = x := ⟨_, rfl⟩
      have ha4 : Apart (fun k => k = g) w3 w4 := by rw [← hw4]; exact apart_set _ _ _ _
      have c4 : w4.cell? ⟨pb, 1, none⟩ = some (.string ⟨p.2.toArray⟩) := (ha4.cell (p := ⟨pb, 1, none⟩) (by show pb < _; omega) hpbg).trans c1
      have HO4 : Hid (OwnPg w4 w1.heap.size (.slice (some ⟨g, 0, none⟩) l.length c3) (M.set k ((k : Int), p.2))) := by
        have h := (show OwnPg w3 w1.heap.size (.slice (some ⟨g, 0, none⟩) M.length c3) M by rw [hlen]; exact hown.out.keep hb3).stored k p hMk (k : Int) hkw
        rw [hlen, hw4] at h
        exact h
      have HP4 := Lib.hid ((hpg.out.keep hb3).off ha4 (fun b hb e => by have := (hpg.out.lt b hb).1; omega))
      have HB4 := Lib.hid (HB3.out.trans (ha4.low (by omega) (fun k e => by omega)))
      have hz4 : wr.heap.size + 1 ≤ w4.heap.size := by have := ha4.size; omega
      have HM4 := Lib.hid (hmix.out.set hpk)
      have HSH4 : Hid (∀ j, j < k + 1 → (gF l j).length ≤ 512) := fun j hj => by
        by_cases e : j = k
        · rw [e, gF_at hpk]; omega
        · exact hsh.out j (by omega)
      have HGF := Lib.hid (gF_at hpk)
      have HFI := Lib.hid (filled_any p.2 (by omega) w4)
      clear hpk hMk hlen hat hkw hg3 hg4 hgh hmix hown hpg hsh hb3 hrow3 HO2 HB3 ha4
      go_wp2_with fail
      refine HFI.out.mono ?_
      rintro e w5 ⟨rfl, hb5⟩
      have HO5 := Lib.hid (HO4.out.keep hb5)
      have HP5 := Lib.hid (HP4.out.keep hb5)
      have HB5 := Lib.hid (HB4.out.trans (hb5.mono HB4.out.size))
      have hz5 := hb5.size
      have hal := heap_alloc_new w5 (.cells #[.string ⟨(pad p.2).toArray⟩] 9)
      have HBA : Hid (Below w5.heap.size w5 (w5.alloc (.cells #[.string ⟨(pad p.2).toArray⟩] 9))) := (Below.refl _ _).alloc (Nat.le_refl _) _
      clear hb5 HFI HO4 HP4 HB4 c0 c1 c4 hfc hff d0 d1 hw3 hw4
      go_wp2_with (at_builtin; refine wp_append_one rfl _ _ rfl rfl (HP5.out.keep HBA.out) (by simp; omega) w5.heap.size 0 _ (pad p.2) rfl (cell_of_row _ _ 0 _ _ _ hal) (by simp; omega) ?_)
      intro v6 w6 ho6 hb6 _
      have hz6 := hb6.size
      have HO6 : Hid (OwnPg w6 w1.heap.size (.slice (some ⟨g, 0, none⟩) l.length c3) (M.set k ((k : Int), p.2))) := (HO5.out.keep HBA.out).same (fun b hb => by
        have e : g = b := by injection hb
        rw [← e]
        exact hb6.block g hgw)
      have HP6 : Hid (OwnS w6 w2.heap.size v6 ((List.range (k + 1)).map fun j => pad (gF l j))) := by
        unfold Hid
        rw [List.range_succ, List.map_append, List.map_singleton, HGF.out]
        exact ho6
      have HB6 := Lib.hid ((HB5.out.trans (HBA.out.mono HB5.out.size)).trans (hb6.mono HB2.out.size))
      have hz66 : w2.heap.size ≤ w6.heap.size := by have : (w5.alloc (.cells #[.string ⟨(pad p.2).toArray⟩] 9)).heap.size = w5.heap.size + 1 := (by simp); omega
      clear ho6 hb6 HO5 HP5 HB5 hal HBA
      go_wp2_with fail
      go_roundw
      case rel => exact ⟨k + 1, M.set k ((k : Int), p.2), by go_num, by omega, HM4.out, HO6.out, HP6.out, HSH4.out, HB6.out, hz66⟩
      case measure => simp [intOf]; omega
    · obtain rfl : k = l.length := by omega
      obtain ⟨ws, hws⟩ : ∃ x, wsF (gF l) l.length = x := ⟨_, rfl⟩
      have HW := Lib.hid (hmix.out.done.trans hws)
      have HOW : Hid (OwnPg wr w1.heap.size (.slice A3 l.length c3) ws) := by unfold Hid; rw [← HW.out]; exact hown.out
      have hwl : ws.length = l.length := by rw [← hws, wsF_len]
      have HG := Lib.hid (wsF_good (g := gF l) (n := l.length) (by omega) hsh.out)
      rw [hws] at HG
      clear hmix hown HO2 HS2
      have HPW : Hid (OwnS wr w.heap.size _ (padsF l)) := hpg.out.lower HB2.out.size
      obtain ⟨Ap, cp, rfl, _, _⟩ := HPW.out.strs.len
      by_cases hgood : (bs.length : Int) % 2 = 0 ∧ (0 : Int) < l.length
      · obtain ⟨hev, h0⟩ := hgood
        have hl5 : ∀ p ∈ ws, p.2.length ≤ 512 := fun p hp => (HG.out.lim p hp).2.2
        obtain ⟨hr1, hr2⟩ := recF_len (ws := ws) (fun p hp => HOW.out.1 p hp) hl5 (by omega)
        have HR := Lib.hid (precord_any _ ws wr HOW.out.pgs hl5 (by omega))
        obtain ⟨t, ht⟩ : ∃ t, recF ws = t := ⟨_, rfl⟩
        have HRF := Lib.hid (fun W => rframe_any (recT ws) W (by have := frm_ge (recT ws); have : (recF ws).length = (frm (recT ws)).length := rfl; omega))
        rw [show frm (recT ws) = t from ht] at HRF
        rw [ht] at hr1 hr2
        have HT := Lib.hid ht
        obtain ⟨m, hmt⟩ : ∃ m, m = max 1 (pagesOf t.length) := ⟨_, rfl⟩
        have hmb : m ≤ 10 := by rw [hmt]; unfold pagesOf; omega
        clear hl5 ht HOW
        go_wp2_with fail
        refine HR.out.mono ?_
        rintro e wa ⟨rfl, hba⟩
        have HBA := Lib.hid hba
        clear hba HR
        go_wp2_with fail
        refine (HRF.out wa).mono ?_
        rintro e wq ⟨rfl, hbq⟩
        have HPQ := Lib.hid ((HPW.out.keep HBA.out).keep hbq)
        have HBQ := Lib.hid ((hbl2.out.trans (HBA.out.mono hbl2.out.size)).trans (hbq.mono (Nat.le_trans hbl2.out.size HBA.out.size)))
        clear hbq HBA HPW hpg hbl2 HRF
        go_wp2_with fail
        have hm1 : 1 ≤ m := by omega
        have hm2 : m ≤ 10 := by omega
        refine (new_dks 100 wq (by omega) (by omega)).mono ?_
        rintro e wd ⟨g, S, rfl, hd, hS, hbd⟩
        have HD := Lib.hid hd
        have HS := Lib.hid hS
        have HBD := Lib.hid hbd
        clear hd hS hbd
        go_wp2_with fail
        go_loopw [13] (fun i wr => ∃ (k : Nat) (D : Dsk) (T : Nat → Prop), i = .int .i64 k ∧ k ≤ m ∧ Hid (Lay2 D t k) ∧ Hid (DkS wr g (8 * k) T D) ∧ Hid (∀ j, T j → wq.heap.size ≤ j) ∧ Hid (Below wq.heap.size wq wr)) (fun i _ => m - (intOf i).toNat)
        case atStart => exact ⟨0, newD 100, S, rfl, by omega, lay2_new t, HD.out, HS.out, HBD.out⟩
        case round =>
          obtain ⟨k, D, T, rfl, hk, hlay, hdk, hlow, hbw⟩ := hrel
          clear HD HS HBD
          by_cases hkm : k < m
          · have hk9 := hk
            rcases Nat.eq_zero_or_pos k with hk0 | hk0
            · subst hk0
              have hex : (ByteArray.mk t.toArray).extract 0 (min (512 : Int) (t.length : Int)).toNat = ⟨(chunk t 0).toArray⟩ := by
                rw [ByteArray.extract_mk]
                unfold chunk
                congr 2
                by_cases h5 : 512 ≤ t.length
                · rw [Int.min_eq_left (by omega)]; rfl
                · rw [Int.min_eq_right (by omega), List.take_of_length_le (by simp), List.take_of_length_le (by simp; omega)]
              have htsz : (ByteArray.mk t.toArray).size = t.length := rfl
              have hcl := chunk_len t 0
              have hmin : True := trivial
              go_wp2_with (refine wp_bytes_of rfl _ rfl (chunk t 0) ?hx ?hs ?_)
              case hx => first | rfl | (show Value.string ((ByteArray.mk t.toArray).extract 0 (min (512 : Int) (t.length : Int)).toNat) = _; rw [hex])
              case hs => omega
              intro b1 c1 wa hrow1 hg1 hba
              have hb1T : ¬ T b1 := fun ht => by have := hdk.out.lt b1 ht; omega
              have HWA := Lib.hid (hbw.out.trans (hba.mono hbw.out.size))
              have CW := Lib.hid (write_dks g (8 * 0) T D [102, 45, 106] wa (chunk t 0) (0) (.slice (some ⟨b1, 0, none⟩) (chunk t 0).length c1) (hdk.out.below hba) hrow1.sl (fun _ A n c e ht => by injection e with e _ _; injection e with e; subst e; exact hb1T ht) (by simp) (by omega) (by omega))
              clear hrow1 hba hex htsz hmin
              go_wp2_with fail
              refine CW.out.mono ?_
              intro e w1' hm
              obtain rfl := hm.1
              have HD1 := Lib.hid hm.2.1
              have HL1 : Hid (∀ j, since T wa w1' j → wq.heap.size ≤ j) := fun j hj => hj.elim (hlow.out j) (fun h => by have := HWA.out.size; omega)
              have HW1 := Lib.hid (HWA.out.trans (hm.2.2.low HWA.out.size hlow.out))
              have hbc := bytes_const w1' #[.int .u8 120] 1 1
              have hb2 : Below w1'.heap.size w1' (w1'.alloc (.cells #[.int .u8 120] 5 (1, 2))) := (Below.refl _ _).alloc (Nat.le_refl _) _
              have hs2 := sl_mark w1' [120] #[.int .u8 120] rfl (by simp [maxLen]) 1 rfl (1, 2)
              have hz2' : (w1'.alloc (.cells #[.int .u8 120] 5 (1, 2))).heap.size = w1'.heap.size + 1 := by simp
              obtain ⟨w2', hw2'⟩ : ∃ x, w1'.alloc (.cells #[.int .u8 120] 5 (1, 2)) = x := ⟨_, rfl⟩
              rw [show (#[Value.int .u8 120] : Array Value).size = 1 from rfl, hw2'] at hbc
              rw [hw2'] at hb2 hs2 hz2'
              have hb2T : ¬ since T wa w1' w1'.heap.size := fun ht => by have := hm.2.1.lt _ ht; omega
              have CW2 := Lib.hid (write_dks g (8 * 0 + 4) _ _ [102, 45, 116] w2' [120] (0) (.slice (some ⟨w1'.heap.size, 0, none⟩) 1 1) (HD1.out.below hb2) (by rw [hz2']; exact hs2) (fun _ A n c e ht => by injection e with e _ _; injection e with e; subst e; exact hb2T ht) (by simp) (by omega) (by omega))
              have HW2 := Lib.hid (HW1.out.trans (hb2.mono HW1.out.size))
              clear hb2 hs2 hm CW HD1 HW1
              go_wp2_with fail
              refine CW2.out.mono ?_
              intro e w3' hm
              obtain rfl := hm.1
              have HD3 := Lib.hid hm.2.1
              have HL3 : Hid (∀ j, since (since T wa w1') w2' w3' j → wq.heap.size ≤ j) := fun j hj => hj.elim (HL1.out j) (fun h => by have := HW2.out.size; omega)
              have HW3 := Lib.hid (HW2.out.trans (hm.2.2.low HW2.out.size HL1.out))
              have HLY := Lib.hid (hlay.out.next (by omega))
              clear hm CW2 HW2 hbc hw2' hz2'
              go_wp2_with fail
              go_roundw
              case rel => exact ⟨0 + 1, _, _, rfl, by omega, HLY.out, HD3.out, HL3.out, HW3.out⟩
              case measure => simp [intOf]; omega
            · have hk0' : ¬ (k : Int) = 0 := by omega
              have hk512 : (512 : Int) * (k : Int) < t.length := by have := hmt; unfold pagesOf at this; omega
              obtain ⟨e, he⟩ : ∃ e, min (512 * k + 512) t.length = e := ⟨_, rfl⟩
              have hmin : min ((512 : Int) * (k : Int) + 512) (t.length : Int) = (e : Int) := by omega
              have hke : 512 * k ≤ e := by have := hmt; unfold pagesOf at this; omega
              have hel : e ≤ t.length := by omega
              have hex : (ByteArray.mk t.toArray).extract (512 * k) e = ⟨(chunk t k).toArray⟩ := by
                rw [ByteArray.extract_mk]
                unfold chunk
                congr 2
                rw [← he]
                by_cases h5 : 512 * k + 512 ≤ t.length
                · rw [Nat.min_eq_left h5]; congr 1; omega
                · rw [Nat.min_eq_right (by omega), List.take_of_length_le (by simp), List.take_of_length_le (by simp; omega)]
              have htsz : (ByteArray.mk t.toArray).size = t.length := rfl
              have hcl := chunk_len t k
              clear he
              go_wp2_with (refine wp_bytes_of rfl _ rfl (chunk t k) ?hx ?hs ?_)
              case hx => first | rfl | (show Value.string ((ByteArray.mk t.toArray).extract (512 * k) e) = _; rw [hex])
              case hs => omega
              intro b1 c1 wa hrow1 hg1 hba
              have hb1T : ¬ T b1 := fun ht => by have := hdk.out.lt b1 ht; omega
              have HWA := Lib.hid (hbw.out.trans (hba.mono hbw.out.size))
              have CW := Lib.hid (write_dks g (8 * k) T D [102, 45, 106] wa (chunk t k) ((k : Int)) (.slice (some ⟨b1, 0, none⟩) (chunk t k).length c1) (hdk.out.below hba) hrow1.sl (fun _ A n c e ht => by injection e with e _ _; injection e with e; subst e; exact hb1T ht) (by simp) (by omega) (by omega))
              clear hrow1 hba hex htsz hmin
              go_wp2_with fail
              refine CW.out.mono ?_
              intro e w1' hm
              obtain rfl := hm.1
              have HD1 := Lib.hid hm.2.1
              have HL1 : Hid (∀ j, since T wa w1' j → wq.heap.size ≤ j) := fun j hj => hj.elim (hlow.out j) (fun h => by have := HWA.out.size; omega)
              have HW1 := Lib.hid (HWA.out.trans (hm.2.2.low HWA.out.size hlow.out))
              have hbc := bytes_const w1' #[.int .u8 120] 1 1
              have hb2 : Below w1'.heap.size w1' (w1'.alloc (.cells #[.int .u8 120] 5 (1, 2))) := (Below.refl _ _).alloc (Nat.le_refl _) _
              have hs2 := sl_mark w1' [120] #[.int .u8 120] rfl (by simp [maxLen]) 1 rfl (1, 2)
              have hz2' : (w1'.alloc (.cells #[.int .u8 120] 5 (1, 2))).heap.size = w1'.heap.size + 1 := by simp
              obtain ⟨w2', hw2'⟩ : ∃ x, w1'.alloc (.cells #[.int .u8 120] 5 (1, 2)) = x := ⟨_, rfl⟩
              rw [show (#[Value.int .u8 120] : Array Value).size = 1 from rfl, hw2'] at hbc
              rw [hw2'] at hb2 hs2 hz2'
              have hb2T : ¬ since T wa w1' w1'.heap.size := fun ht => by have := hm.2.1.lt _ ht; omega
              have CW2 := Lib.hid (write_dks g (8 * k + 4) _ _ [102, 45, 116] w2' [120] ((k : Int)) (.slice (some ⟨w1'.heap.size, 0, none⟩) 1 1) (HD1.out.below hb2) (by rw [hz2']; exact hs2) (fun _ A n c e ht => by injection e with e _ _; injection e with e; subst e; exact hb2T ht) (by simp) (by omega) (by omega))
              have HW2 := Lib.hid (HW1.out.trans (hb2.mono HW1.out.size))
              clear hb2 hs2 hm CW HD1 HW1
              go_wp2_with fail
              refine CW2.out.mono ?_
              intro e w3' hm
              obtain rfl := hm.1
              have HD3 := Lib.hid hm.2.1
              have HL3 : Hid (∀ j, since (since T wa w1') w2' w3' j → wq.heap.size ≤ j) := fun j hj => hj.elim (HL1.out j) (fun h => by have := HW2.out.size; omega)
              have HW3 := Lib.hid (HW2.out.trans (hm.2.2.low HW2.out.size HL1.out))
              have HLY := Lib.hid (hlay.out.next (by omega))
              clear hm CW2 HW2 hbc hw2' hz2'
              go_wp2_with fail
              go_roundw
              case rel => exact ⟨k + 1, _, _, by go_num, by omega, HLY.out, HD3.out, HL3.out, HW3.out⟩
              case measure => simp [intOf]; omega
          · have hkm' : k = m := by omega
            have hk0' : ¬ (k : Int) = 0 := by omega
            have hk512 : ¬ (512 : Int) * (k : Int) < t.length := by have := hmt; unfold pagesOf at this; omega
            rw [hkm'] at hlay hdk
            obtain ⟨hdc, hp1⟩ := hlay.out.discard (by omega)
            have hoff := hlay.out.roomy.off
            have hoff1 := hp1.roomy.off
            have hjs := hp1.js
            have hBW := HBQ.out.trans (hbw.out.mono HBQ.out.size)
            have hTl : ∀ j, T j → w.heap.size ≤ j := fun j hj => Nat.le_trans HBQ.out.size (hlow.out j hj)
            have hpl : pagesOf t.length = m := by have := hmt; unfold pagesOf at this ⊢; omega
            have hp2 : Post1 (discardD D [102]).1 (recF ws) (pagesOf (recF ws).length) := by rw [HT.out, hpl]; exact hp1
            have hf : freshN 0 ws = some l.length := by rw [← hws]; exact wsF_fresh _ _
            obtain ⟨q1, q2, q3, q4, q5, q6, q7, q8⟩ := hp2.good hf (fun p hp => (HG.out.lim p hp).2.2) (fun e => by rw [e] at hwl; simp at hwl; omega) (by rw [HT.out, hpl]; omega)
            obtain ⟨R, hR⟩ : ∃ x, settleD (discardD D [102]).1 [102] ws = x := ⟨_, rfl⟩
            rw [hR] at q4 q5 q6 q7 q8
            obtain ⟨E, cc⟩ := R
            obtain rfl : cc = 0 := q4
            dsimp only at q5 q6 q7 q8
            have CO := Lib.hid (open_gen g (8 * m) (8 * m + 4) 2000 [102] T D (E, 0) wr hdk.out hoff (by simp) (Nat.le_refl _) (by omega) hdc (fun W T2 p hpg2 hdk2 => by
              have := replay_good p g (8 * m + 4) 2000 l.length [102] ws T2 _ W hpg2 hdk2 hoff1 (by simp) hjs q1 HG.out (by rw [HT.out]; omega) q2 q3 (by omega) (by omega)
              rw [hR] at this
              exact this))
            have HEP := Lib.hid q6
            have HQ7 := Lib.hid q7
            have HQ8 := Lib.hid q8
            have HBW := Lib.hid hBW
            have HTL := Lib.hid hTl
            clear hmt hkm' hpl hp2 hp1 hdc hlay hdk q1 q2 q3 q6 q7 q8 hR hf hBW hTl hjs
            go_wp2_with fail
            refine CO.out.mono ?_
            rintro e wo ⟨v, T3, rfl, k1, k2, k3, ⟨_, p, rfl, _, hpg2⟩ | ⟨h4, _⟩⟩
            case inr => exact absurd rfl h4
            have hBO := HBW.out.trans (k3.low HBW.out.size HTL.out)
            have HBO := Lib.hid hBO
            have HPO := Lib.hid ((HPQ.out.keep hbw.out).off k3 (fun b hb ht => by have h1 := (HPQ.out.lt b hb).2; have := hlow.out b ht; omega))
            have CH := phas_any p g 2000 [102] _ (padsF l) T3 E wo hpg2 k1 q5 (by simp) HPO.out.strs
            rw [decide_eq_true (show pagesF E.now [102] = padsF l by rw [HEP.out, ← hws, wsF_laid, padsF, List.range_eq_range'])] at CH
            have CH := Lib.hid CH
            have HK1 := Lib.hid k1
            clear k1 k2 k3 hpg2 hBO CO
            dsimp only
            go_wp2_with fail
            refine CH.out.mono ?_
            rintro e wh ⟨rfl, hbh⟩
            have CN := Lib.hid (names_one g 2000 T3 E [102] wh (HK1.out.below hbh) q5 (by simp [maxLen]) HQ7.out HQ8.out)
            have HBH := Lib.hid (HBO.out.trans (hbh.mono HBO.out.size))
            clear hbh CH
            go_wp2_with fail
            refine CN.out.mono ?_
            rintro e wz ⟨vn, ln, rfl, hbz, hon, hl1⟩
            obtain ⟨An, cn, rfl, _, _⟩ := hon.strs.len
            rw [hl1]
            have HBZ := Lib.hid (HBH.out.trans (hbz.mono HBH.out.size))
            clear hbz hon CN
            go_wp2_with fail
            go_ret
            exact ⟨rfl, HBZ.out⟩

      · have hbad : ((bs.length : Int) % 2 = 0 ∧ ¬ (0 : Int) < l.length) ∨ ¬ (bs.length : Int) % 2 = 0 := by
          by_cases h : (bs.length : Int) % 2 = 0
          · exact .inl ⟨h, fun h0 => hgood ⟨h, h0⟩⟩
          · exact .inr h
        clear hgood
        have hk := fun W => (make_bytes 512 (by omega) W)
        have hmk : ∀ W, (Instr.makeSlice 49 (.int .i64 512) (.int .i64 512)).run Tryz.prog W = .ok (.slice (some ⟨W.heap.size, 0, none⟩) 512 512) (W.alloc (.cells (vb (noughts 512)).toArray 5)) := hk
        clear hk
        have htx := text_noughts wr 512 (by omega) _ rfl
        have ha := fun W => add_text W bs (noughts 512) (by rw [noughts_len]; omega)
        have hbn : Below wr.heap.size wr (wr.alloc (.cells (vb (noughts 512)).toArray 5)) := (Below.refl _ _).alloc (Nat.le_refl _) _
        obtain ⟨wn, hwn⟩ : ∃ x, wr.alloc (.cells (vb (noughts 512)).toArray 5) = x := ⟨_, rfl⟩
        rw [hwn] at hbn htx
        have HBN := Lib.hid hbn
        have HSP := Lib.hid (rsplit_any (bs ++ noughts 512) wn (by rw [List.length_append, noughts_len]; omega))
        obtain ⟨t, ht⟩ : ∃ t, t = bs := ⟨_, rfl⟩
        obtain ⟨m, hmt⟩ : ∃ m, m = max 1 (pagesOf t.length) := ⟨_, rfl⟩
        have hmb : m ≤ 10 := by rw [hmt, ht]; unfold pagesOf; omega
        subst ht
        clear hbn
        rcases hbad with ⟨hev, h0⟩ | hev
        all_goals
          go_wp2_with fail
          refine HSP.out.mono ?_
          rintro e wq ⟨u, ds, cur, hsp, rfl, hu, hbq⟩
          obtain ⟨Au, cu, rfl, _, _⟩ := hu.strs.len
          have HPQ := Lib.hid ((HPW.out.keep HBN.out).keep hbq)
          have HBQ := Lib.hid ((hbl2.out.trans (HBN.out.mono hbl2.out.size)).trans (hbq.mono (Nat.le_trans hbl2.out.size HBN.out.size)))
          have HSL := Lib.hid hsp
          clear hbq HBN HPW hpg hbl2 HSP hu hsp ha htx hmk hwn
          by_cases hds : 0 < ds.length
          · have hds' : (0 : Int) < ds.length := by omega
            go_wp2_with fail
            go_ret
            exact ⟨rfl, HBQ.out⟩
          have hds' : ¬ (0 : Int) < ds.length := by omega
          go_wp2_with fail
          have hm1 : 1 ≤ m := by omega
          have hm2 : m ≤ 10 := by omega
          refine (new_dks 100 wq (by omega) (by omega)).mono ?_
          rintro e wd ⟨g, S, rfl, hd, hS, hbd⟩
          have HD := Lib.hid hd
          have HS := Lib.hid hS
          have HBD := Lib.hid hbd
          clear hd hS hbd
          go_wp2_with fail
          go_loopw [13] (fun i wr => ∃ (k : Nat) (D : Dsk) (T : Nat → Prop), i = .int .i64 k ∧ k ≤ m ∧ Hid (Lay2 D t k) ∧ Hid (DkS wr g (8 * k) T D) ∧ Hid (∀ j, T j → wq.heap.size ≤ j) ∧ Hid (Below wq.heap.size wq wr)) (fun i _ => m - (intOf i).toNat)
          case atStart => exact ⟨0, newD 100, S, rfl, by omega, lay2_new t, HD.out, HS.out, HBD.out⟩
          case round =>
            obtain ⟨k, D, T, rfl, hk, hlay, hdk, hlow, hbw⟩ := hrel
            clear HD HS HBD
            by_cases hkm : k < m
            · have hk9 := hk
              rcases Nat.eq_zero_or_pos k with hk0 | hk0
              · subst hk0
                have hex : (ByteArray.mk t.toArray).extract 0 (min (512 : Int) (t.length : Int)).toNat = ⟨(chunk t 0).toArray⟩ := by
                  rw [ByteArray.extract_mk]
                  unfold chunk
                  congr 2
                  by_cases h5 : 512 ≤ t.length
                  · rw [Int.min_eq_left (by omega)]; rfl
                  · rw [Int.min_eq_right (by omega), List.take_of_length_le (by simp), List.take_of_length_le (by simp; omega)]
                have htsz : (ByteArray.mk t.toArray).size = t.length := rfl
                have hcl := chunk_len t 0
                have hmin : True := trivial
                go_wp2_with (refine wp_bytes_of rfl _ rfl (chunk t 0) ?hx ?hs ?_)
                case hx => first | rfl | (show Value.string ((ByteArray.mk t.toArray).extract 0 (min (512 : Int) (t.length : Int)).toNat) = _; rw [hex])
                case hs => omega
                intro b1 c1 wa hrow1 hg1 hba
                have hb1T : ¬ T b1 := fun ht => by have := hdk.out.lt b1 ht; omega
                have HWA := Lib.hid (hbw.out.trans (hba.mono hbw.out.size))
                have CW := Lib.hid (write_dks g (8 * 0) T D [102, 45, 106] wa (chunk t 0) (0) (.slice (some ⟨b1, 0, none⟩) (chunk t 0).length c1) (hdk.out.below hba) hrow1.sl (fun _ A n c e ht => by injection e with e _ _; injection e with e; subst e; exact hb1T ht) (by simp) (by omega) (by omega))
                clear hrow1 hba hex htsz hmin
                go_wp2_with fail
                refine CW.out.mono ?_
                intro e w1' hm
                obtain rfl := hm.1
                have HD1 := Lib.hid hm.2.1
                have HL1 : Hid (∀ j, since T wa w1' j → wq.heap.size ≤ j) := fun j hj => hj.elim (hlow.out j) (fun h => by have := HWA.out.size; omega)
                have HW1 := Lib.hid (HWA.out.trans (hm.2.2.low HWA.out.size hlow.out))
                have hbc := bytes_const w1' #[.int .u8 120] 1 1
                have hb2 : Below w1'.heap.size w1' (w1'.alloc (.cells #[.int .u8 120] 5 (1, 2))) := (Below.refl _ _).alloc (Nat.le_refl _) _
                have hs2 := sl_mark w1' [120] #[.int .u8 120] rfl (by simp [maxLen]) 1 rfl (1, 2)
                have hz2' : (w1'.alloc (.cells #[.int .u8 120] 5 (1, 2))).heap.size = w1'.heap.size + 1 := by simp
                obtain ⟨w2', hw2'⟩ : ∃ x, w1'.alloc (.cells #[.int .u8 120] 5 (1, 2)) = x := ⟨_, rfl⟩
                rw [show (#[Value.int .u8 120] : Array Value).size = 1 from rfl, hw2'] at hbc
                rw [hw2'] at hb2 hs2 hz2'
                have hb2T : ¬ since T wa w1' w1'.heap.size := fun ht => by have := hm.2.1.lt _ ht; omega
                have CW2 := Lib.hid (write_dks g (8 * 0 + 4) _ _ [102, 45, 116] w2' [120] (0) (.slice (some ⟨w1'.heap.size, 0, none⟩) 1 1) (HD1.out.below hb2) (by rw [hz2']; exact hs2) (fun _ A n c e ht => by injection e with e _ _; injection e with e; subst e; exact hb2T ht) (by simp) (by omega) (by omega))
                have HW2 := Lib.hid (HW1.out.trans (hb2.mono HW1.out.size))
                clear hb2 hs2 hm CW HD1 HW1
                go_wp2_with fail
                refine CW2.out.mono ?_
                intro e w3' hm
                obtain rfl := hm.1
                have HD3 := Lib.hid hm.2.1
                have HL3 : Hid (∀ j, since (since T wa w1') w2' w3' j → wq.heap.size ≤ j) := fun j hj => hj.elim (HL1.out j) (fun h => by have := HW2.out.size; omega)
                have HW3 := Lib.hid (HW2.out.trans (hm.2.2.low HW2.out.size HL1.out))
                have HLY := Lib.hid (hlay.out.next (by omega))
                clear hm CW2 HW2 hbc hw2' hz2'
                go_wp2_with fail
                go_roundw
                case rel => exact ⟨0 + 1, _, _, rfl, by omega, HLY.out, HD3.out, HL3.out, HW3.out⟩
                case measure => simp [intOf]; omega
              · have hk0' : ¬ (k : Int) = 0 := by omega
                have hk512 : (512 : Int) * (k : Int) < t.length := by have := hmt; unfold pagesOf at this; omega
                obtain ⟨e, he⟩ : ∃ e, min (512 * k + 512) t.length = e := ⟨_, rfl⟩
                have hmin : min ((512 : Int) * (k : Int) + 512) (t.length : Int) = (e : Int) := by omega
                have hke : 512 * k ≤ e := by have := hmt; unfold pagesOf at this; omega
                have hel : e ≤ t.length := by omega
                have hex : (ByteArray.mk t.toArray).extract (512 * k) e = ⟨(chunk t k).toArray⟩ := by
                  rw [ByteArray.extract_mk]
                  unfold chunk
                  congr 2
                  rw [← he]
                  by_cases h5 : 512 * k + 512 ≤ t.length
                  · rw [Nat.min_eq_left h5]; congr 1; omega
                  · rw [Nat.min_eq_right (by omega), List.take_of_length_le (by simp), List.take_of_length_le (by simp; omega)]
                have htsz : (ByteArray.mk t.toArray).size = t.length := rfl
                have hcl := chunk_len t k
                clear he
                go_wp2_with (refine wp_bytes_of rfl _ rfl (chunk t k) ?hx ?hs ?_)
                case hx => first | rfl | (show Value.string ((ByteArray.mk t.toArray).extract (512 * k) e) = _; rw [hex])
                case hs => omega
                intro b1 c1 wa hrow1 hg1 hba
                have hb1T : ¬ T b1 := fun ht => by have := hdk.out.lt b1 ht; omega
                have HWA := Lib.hid (hbw.out.trans (hba.mono hbw.out.size))
                have CW := Lib.hid (write_dks g (8 * k) T D [102, 45, 106] wa (chunk t k) ((k : Int)) (.slice (some ⟨b1, 0, none⟩) (chunk t k).length c1) (hdk.out.below hba) hrow1.sl (fun _ A n c e ht => by injection e with e _ _; injection e with e; subst e; exact hb1T ht) (by simp) (by omega) (by omega))
                clear hrow1 hba hex htsz hmin
                go_wp2_with fail
                refine CW.out.mono ?_
                intro e w1' hm
                obtain rfl := hm.1
                have HD1 := Lib.hid hm.2.1
                have HL1 : Hid (∀ j, since T wa w1' j → wq.heap.size ≤ j) := fun j hj => hj.elim (hlow.out j) (fun h => by have := HWA.out.size; omega)
                have HW1 := Lib.hid (HWA.out.trans (hm.2.2.low HWA.out.size hlow.out))
                have hbc := bytes_const w1' #[.int .u8 120] 1 1
                have hb2 : Below w1'.heap.size w1' (w1'.alloc (.cells #[.int .u8 120] 5 (1, 2))) := (Below.refl _ _).alloc (Nat.le_refl _) _
                have hs2 := sl_mark w1' [120] #[.int .u8 120] rfl (by simp [maxLen]) 1 rfl (1, 2)
                have hz2' : (w1'.alloc (.cells #[.int .u8 120] 5 (1, 2))).heap.size = w1'.heap.size + 1 := by simp
                obtain ⟨w2', hw2'⟩ : ∃ x, w1'.alloc (.cells #[.int .u8 120] 5 (1, 2)) = x := ⟨_, rfl⟩
                rw [show (#[Value.int .u8 120] : Array Value).size = 1 from rfl, hw2'] at hbc
                rw [hw2'] at hb2 hs2 hz2'
                have hb2T : ¬ since T wa w1' w1'.heap.size := fun ht => by have := hm.2.1.lt _ ht; omega
                have CW2 := Lib.hid (write_dks g (8 * k + 4) _ _ [102, 45, 116] w2' [120] ((k : Int)) (.slice (some ⟨w1'.heap.size, 0, none⟩) 1 1) (HD1.out.below hb2) (by rw [hz2']; exact hs2) (fun _ A n c e ht => by injection e with e _ _; injection e with e; subst e; exact hb2T ht) (by simp) (by omega) (by omega))
                have HW2 := Lib.hid (HW1.out.trans (hb2.mono HW1.out.size))
                clear hb2 hs2 hm CW HD1 HW1
                go_wp2_with fail
                refine CW2.out.mono ?_
                intro e w3' hm
                obtain rfl := hm.1
                have HD3 := Lib.hid hm.2.1
                have HL3 : Hid (∀ j, since (since T wa w1') w2' w3' j → wq.heap.size ≤ j) := fun j hj => hj.elim (HL1.out j) (fun h => by have := HW2.out.size; omega)
                have HW3 := Lib.hid (HW2.out.trans (hm.2.2.low HW2.out.size HL1.out))
                have HLY := Lib.hid (hlay.out.next (by omega))
                clear hm CW2 HW2 hbc hw2' hz2'
                go_wp2_with fail
                go_roundw
                case rel => exact ⟨k + 1, _, _, by go_num, by omega, HLY.out, HD3.out, HL3.out, HW3.out⟩
                case measure => simp [intOf]; omega
            · have hkm' : k = m := by omega
              have hk0' : ¬ (k : Int) = 0 := by omega
              have hk512 : ¬ (512 : Int) * (k : Int) < t.length := by have := hmt; unfold pagesOf at this; omega
              rw [hkm'] at hlay hdk
              obtain ⟨hdc, hp1⟩ := hlay.out.discard (by omega)
              have hoff := hlay.out.roomy.off
              have hoff1 := hp1.roomy.off
              have hjs := hp1.js
              have hBW := HBQ.out.trans (hbw.out.mono HBQ.out.size)
              have hTl : ∀ j, T j → w.heap.size ≤ j := fun j hj => Nat.le_trans HBQ.out.size (hlow.out j hj)
              have hno : ¬ HasRec (t ++ List.replicate 512 0) := by
                have h1 := HSL.out
                have e : ds = [] := List.eq_nil_of_length_eq_zero (by omega)
                subst e
                have h2 : t ++ List.replicate 512 0 = cur := h1.1
                rw [h2]
                exact h1.2
              obtain ⟨q, hq5, hfl⟩ := hp1.flat hmt
              have hpl : (pagesF (discardD D [102]).1.now (jnl [102])).length ≤ 2000 := by rw [hp1.jp]; simp; omega
              have CO := Lib.hid (open_gen g (8 * m) (8 * m + 4) (8 * m + 4) [102] T D ((discardD D [102]).1, 4) wr hdk.out hoff (by simp) (Nat.le_refl _) (by omega) hdc (fun W T2 p hpg2 hdk2 => replay_bad p g (8 * m + 4) [102] T2 _ W hpg2 hdk2 hoff1 (by simp) hjs hpl (fun ds cur hs => by rw [hfl] at hs; exact none_fewer hq5 hno hs) (by omega)))
              have HBW := Lib.hid hBW
              have HTL := Lib.hid hTl
              clear hmt hkm' hp1 hdc hlay hdk hBW hTl hjs hpl hno hfl
              go_wp2_with fail
              refine CO.out.mono ?_
              rintro e wo ⟨v, T3, rfl, k1, k2, k3, ⟨h4, _⟩ | ⟨_, rfl⟩⟩
              case inl => exact absurd h4 (by simp)
              have HBO := Lib.hid (HBW.out.trans (k3.low HBW.out.size HTL.out))
              clear k1 k2 k3 CO
              dsimp only
              go_wp2_with fail
              go_ret
              exact ⟨rfl, HBO.out⟩

end Go.Proofs.YtkbmajgbhpecgaaGreatDoor.Cd

namespace Go.Proofs.YtkbmajgbhpecgaaGreatDoor.PagerForms
open Go.RowKit Go.Proofs.YtkbmajgbhpecgaaGreatDoor.Cd

theorem walk (v : Value) (bs : List UInt8) (u : Value) (l : Cd.Pgs) (w : World) (h : Sl w w.heap.size v bs) (hp : Cd.PgsIn w w.heap.size u l ∧ fitP l) : Calls Tryz.prog 4 #[v, u] w (Gives (.bool true) w) :=
  pf_main bs l v u w h hp.1 hp.2

end Go.Proofs.YtkbmajgbhpecgaaGreatDoor.PagerForms
