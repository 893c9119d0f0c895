/-
  Rows of the call's own that are laid side by side in any order: texts, numbers, a box. Conditions: none.
-/
import Derived.Test.YtjilkpgbojjnfaaNodeBox
import Derived.Test.YtjilkpgbojjnfaaRegionInv
namespace Go.Proofs.Ytjilkpgbojjnfaa.Cd
open Go.RowKit

/-- append of texts onto a row of one's own: the row is the same block, or a new one. -/
theorem run_append_two (w : World) (B : Nat) (v : Value) (l : List (List UInt8)) (ho : OwnS w B v l) (hB : B ≤ w.heap.size) (x : Value) (B' : Nat) (ns : List (List UInt8)) (hx : Strs w B' x ns)
    (hm : l.length + ns.length ≤ 8796093022208) (ty : TypeId) :
    ∃ v' w', (Builtin.append_ #[22, 22] ty #[v, x]).run Try.prog w = .ok v' w' ∧ OwnS w' B v' (l ++ ns) ∧ w.grownBy w' v.ownBlock ∧ (v'.ownBlock = v.ownBlock ∨ ∀ k, v'.ownBlock = some k → w.heap.size ≤ k) := by
  obtain ⟨i0, hi, hz0, hz1, hz2⟩ := info_parts info_str
  have hmax : l.length + ns.length ≤ maxLen := by simp only [maxLen]; omega
  obtain ⟨A, c, rfl, _, _, h4, h6⟩ := hx
  cases A with
  | none =>
    have hc := h4 rfl
    subst hc
    have hns : ns = [] := List.eq_nil_of_length_eq_zero (Classical.byContradiction fun h => by obtain ⟨b, off, e, _⟩ := h6 (by omega); cases e)
    subst hns
    refine ⟨v, w, ?_, by simpa using ho, ⟨rfl, rfl, rfl, Nat.le_refl _, fun _ _ _ => rfl⟩, .inl rfl⟩
    rcases ho.2 with ⟨rfl, h0⟩ | ⟨g, cap, cur, rfl, _, _, hnc, _⟩
    · simp [Builtin.append_, run_underlying Try.underlying22, sizeOf, typeInfo, hi, Builtin.lenOf, Builtin.firstCells]
    · simp [Builtin.append_, run_underlying Try.underlying22, sizeOf, typeInfo, hi, Builtin.lenOf, Builtin.firstCells, hnc, storeCells]
  | some ad =>
    have hnews : ∀ j u, (vs ns)[j]? = some u → w.cell? (ad.add j) = some u := fun j u hu => by
      have hj := (List.getElem?_eq_some_iff.1 hu).1
      rw [vs_length] at hj
      obtain ⟨b, off, e, _, hc⟩ := h6 (by omega)
      injection e with e
      subst e
      rw [Addr.add_lit]
      exact hc j u hu
    obtain ⟨v', w', hr, h2, h3, _⟩ := run_append_own (P := Try.prog) w B 22 ty 9 i0 _ 1 16 Try.underlying22 hi hz0 hz1 hz2 rfl (by omega) v l.length (vs l) ho ad ns.length c (vs ns) (by simp [vs]) hnews (vs_one ns) hmax (by omega) hB
    refine ⟨v', w', hr, by unfold OwnS; rw [vs_append, List.length_append]; exact h2, h3, ?_⟩
    rcases ho.2 with ⟨rfl, h0⟩ | ⟨g, cap, cur, rfl, hbg, hg, hnc, hcm, hcs, htake⟩
    · obtain ⟨v2, w2, hr2, k2, _⟩ := run_append_own (P := Try.prog) w w.heap.size 22 ty 9 i0 _ 1 16 Try.underlying22 hi hz0 hz1 hz2 rfl (by omega) (.slice none 0 0) 0 [] (World.ownsRow_nil w _ 9 1) ad ns.length c (vs ns) (by simp [vs]) hnews (vs_one ns) (by simp only [maxLen]; omega) (by omega) (Nat.le_refl _)
      rw [hr] at hr2
      injection hr2 with e1 e2
      subst e1 e2
      exact .inr fun k hk => (k2.lt k hk).1
    · by_cases hroom : l.length + ns.length ≤ cap
      · have hfit : l.length * i0.size + (vs ns).length ≤ cur.size := by rw [hcs, hz1, vs_length, Nat.mul_one, Nat.mul_one]; exact hroom
        have hr2 := run_append_room (P := Try.prog) w 22 ty 9 i0 Try.underlying22 hi g l.length cap cur hg ad ns.length c (vs ns) (by rw [hz1, vs_length, Nat.mul_one]) hnews (vs_one ns) hroom hfit
        rw [hr] at hr2
        injection hr2 with e1 e2
        subst e1
        exact .inl rfl
      · have holds : ∀ j u, (vs l)[j]? = some u → w.cell? ((⟨g, 0, none⟩ : Addr).add j) = some u := World.ownsRow.cells ho (g := g) rfl
        have hr2 := run_append_grow (P := Try.prog) w 22 ty 9 i0 _ Try.underlying22 hi hz0 ⟨g, 0, none⟩ l.length cap (vs l) (by rw [hz1]; exact ho.1) holds ad ns.length c (vs ns) (by rw [hz1, vs_length, Nat.mul_one]) hnews (by simp only [maxLen] at hmax; omega) (by omega) (growslice_fits (by omega) (by rw [hz2]; omega))
        rw [hr] at hr2
        injection hr2 with e1 e2
        subst e1
        refine .inr fun k hk => ?_
        have hk2 : some w.heap.size = some k := hk
        injection hk2 with hk2
        omega

/-- append of numbers onto a row of one's own. -/
theorem run_append_ints (w : World) (B : Nat) (v : Value) (l : List Int) (ho : OwnI w B v l) (hB : B ≤ w.heap.size) (x : Value) (B' : Nat) (ns : List Int) (hx : Flat vint w B' x ns)
    (hm : l.length + ns.length ≤ 8796093022208) (ty : TypeId) :
    ∃ v' w', (Builtin.append_ #[23, 23] ty #[v, x]).run Try.prog w = .ok v' w' ∧ OwnI w' B v' (l ++ ns) ∧ w.grownBy w' v.ownBlock := by
  obtain ⟨i0, hi, hz0, hz1, hz2⟩ := info_parts info_int
  have hmax : l.length + ns.length ≤ maxLen := by simp only [maxLen]; omega
  obtain ⟨A, c, rfl, _, _, h6⟩ := hx
  cases A with
  | none =>
    have hns : ns = [] := List.eq_nil_of_length_eq_zero (Classical.byContradiction fun h => by obtain ⟨b, off, e, _⟩ := h6 (by omega); cases e)
    subst hns
    refine ⟨v, w, ?_, by simpa using ho, ⟨rfl, rfl, rfl, Nat.le_refl _, fun _ _ _ => rfl⟩⟩
    rcases ho.2 with ⟨rfl, h0⟩ | ⟨g, cap, cur, rfl, _, _, hnc, _⟩
    · simp [Builtin.append_, run_underlying Try.underlying23, sizeOf, typeInfo, hi, Builtin.lenOf, Builtin.firstCells]
    · simp [Builtin.append_, run_underlying Try.underlying23, sizeOf, typeInfo, hi, Builtin.lenOf, Builtin.firstCells, hnc, storeCells]
  | some ad =>
    have hnews : ∀ j u, (vis ns)[j]? = some u → w.cell? (ad.add j) = some u := fun j u hu => by
      have hj := (List.getElem?_eq_some_iff.1 hu).1
      rw [vis_length] at hj
      obtain ⟨b, off, e, _, hc⟩ := h6 (by omega)
      injection e with e
      subst e
      rw [Addr.add_lit, hc j hj, ← hu]
      simp [vis, hj]
    obtain ⟨v', w', hr, h2, h3, _⟩ := run_append_own (P := Try.prog) w B 23 ty 3 i0 _ 1 8 Try.underlying23 hi hz0 hz1 hz2 rfl (by omega) v l.length (vis l) ho ad ns.length c (vis ns) (by simp [vis]) hnews (vis_one ns) hmax (by omega) hB
    exact ⟨v', w', hr, by unfold OwnI; rw [vis_append, List.length_append]; exact h2, h3⟩

theorem step_two {w : World} {ops : Array Oper} {o : Oper} {a : Act} {K : Act → World → Prop} {Q : Exit → Act → World → Prop} {E : Prop} (hgd : o.guard = none) (s x : Operand)
    (hop : o.op = .call { callee := .builtin .append, args := #[s, x], argTypes := #[22, 22] })
    (B : Nat) (v : Value) (l : List (List UInt8)) (hs : a.eval s = v) (ho : OwnS w B v l) (hB : B ≤ w.heap.size) (y : Value) (B' : Nat) (ns : List (List UInt8)) (hx : a.eval x = y) (hy : Strs w B' y ns) (hm : l.length + ns.length ≤ 8796093022208)
    (h : ∀ v' w', OwnS w' B v' (l ++ ns) → w.grownBy w' v.ownBlock → (v'.ownBlock = v.ownBlock ∨ ∀ k, v'.ownBlock = some k → w.heap.size ≤ k) → K (a.put o.dst v') w') : if Region.wanted o (yielded ops a.tmps) = true then Oper.wp Try.prog o a w K Q else E := by
  have hw : Region.wanted o (yielded ops a.tmps) = true := by simp [Region.wanted, hgd]
  rw [if_pos hw]
  obtain ⟨v', w', hrun, r1, r2, r3⟩ := run_append_two w B v l ho hB y B' ns hy hm o.type
  unfold Oper.wp
  simp [execOp, hop, resolve, invoke, builtin, hs, hx, hrun, Result.andThen]
  exact h v' w' r1 r2 r3
theorem step_ints {w : World} {ops : Array Oper} {o : Oper} {a : Act} {K : Act → World → Prop} {Q : Exit → Act → World → Prop} {E : Prop} (hgd : o.guard = none) (s x : Operand)
    (hop : o.op = .call { callee := .builtin .append, args := #[s, x], argTypes := #[23, 23] })
    (B : Nat) (v : Value) (l : List Int) (hs : a.eval s = v) (ho : OwnI w B v l) (hB : B ≤ w.heap.size) (y : Value) (B' : Nat) (ns : List Int) (hx : a.eval x = y) (hy : Flat vint w B' y ns) (hm : l.length + ns.length ≤ 8796093022208)
    (h : ∀ v' w', OwnI w' B v' (l ++ ns) → w.grownBy w' v.ownBlock → K (a.put o.dst v') w') : if Region.wanted o (yielded ops a.tmps) = true then Oper.wp Try.prog o a w K Q else E := by
  have hw : Region.wanted o (yielded ops a.tmps) = true := by simp [Region.wanted, hgd]
  rw [if_pos hw]
  obtain ⟨v', w', hrun, r1, r2⟩ := run_append_ints w B v l ho hB y B' ns hy hm o.type
  unfold Oper.wp
  simp [execOp, hop, resolve, invoke, builtin, hs, hx, hrun, Result.andThen]
  exact h v' w' r1 r2

/-- Rows of texts, each in a block of its own, a row of numbers, a box: all laid since w1. -/
structure Cp (w1 w : World) (B : Nat) (rs : List (Value × List (List UInt8))) (y : Value) (l : List Int) (gb : Option Nat) : Prop where
  below : Below B w1 w
  base : B ≤ w1.heap.size
  own : ∀ (i : Nat) (r : Value × List (List UInt8)), rs[i]? = some r → OwnS w B r.1 r.2
  two : ∀ (i j : Nat) (r s : Value × List (List UInt8)), i ≠ j → rs[i]? = some r → rs[j]? = some s → TwoBlocks r.1 s.1
  ints : OwnI w B y l
  box : ∀ G, gb = some G → B ≤ G ∧ Bx w G false (.slice none 0 0) (.slice none 0 0) (.slice none 0 0)

section
variable {w1 w w' : World} {B : Nat} {rs : List (Value × List (List UInt8))} {y : Value} {l : List Int} {gb : Option Nat}
theorem Cp.size (h : Cp w1 w B rs y l gb) : B ≤ w.heap.size := Nat.le_trans h.base h.below.size
theorem apart_is {v u : Value} {l : List (List UInt8)} {m : List Int} (h : OwnS w B v l) (k : OwnI w B u m) : u.ownBlock = none ∨ u.ownBlock ≠ v.ownBlock := by
  rcases apart_si h k with e | e
  · cases hu : u.ownBlock
    · exact .inl rfl
    · exact .inr (by rw [e]; simp)
  · exact .inr fun e2 => e e2.symm
theorem bx_own {v : Value} {l : List (List UInt8)} {G : Nat} {b : Bool} {vk vv vi : Value} (h : OwnS w B v l) (k : Bx w G b vk vv vi) : some G ≠ v.ownBlock := by
  rcases h.2 with ⟨rfl, _⟩ | ⟨g, cap, cur, rfl, _, hg, _⟩
  · simp [Value.ownBlock]
  · intro e
    have e : some G = some g := e
    injection e with e
    subst e
    unfold Bx at k
    rw [k] at hg
    simp at hg
theorem bx_ownI {v : Value} {l : List Int} {G : Nat} {b : Bool} {vk vv vi : Value} (h : OwnI w B v l) (k : Bx w G b vk vv vi) : some G ≠ v.ownBlock := by
  rcases h.2 with ⟨rfl, _⟩ | ⟨g, cap, cur, rfl, _, hg, _⟩
  · simp [Value.ownBlock]
  · intro e
    have e : some G = some g := e
    injection e with e
    subst e
    unfold Bx at k
    rw [k] at hg
    simp at hg

/-- A row is laid, or grows. -/
theorem Cp.set (h : Cp w1 w B rs y l gb) (i : Nat) (r : Value × List (List UInt8)) (hi : rs[i]? = some r) (v' : Value) (l' : List (List UInt8)) (ho : OwnS w' B v' l') (hg : w.grownBy w' r.1.ownBlock)
    (hf : v'.ownBlock = r.1.ownBlock ∨ ∀ k, v'.ownBlock = some k → w.heap.size ≤ k) : Cp w1 w' B (rs.set i (v', l')) y l gb := by
  have hr := h.own i r hi
  have hlt := World.ownsRow.lt hr
  have key : ∀ j s, j ≠ i → rs[j]? = some s → TwoBlocks s.1 v' := fun j s hj hs => two_after (h.own j s hs) (h.two j i s r hj hs hi) hf
  refine ⟨h.below.grown hg h.size (fun k hk => (hlt k hk).1), h.base, fun j s hs => ?_, fun j k s t hjk hs ht => ?_, World.ownsRow.kept h.ints hg (apart_is hr h.ints), fun G hG => ?_⟩
  · rw [List.getElem?_set] at hs
    split at hs
    · split at hs
      · injection hs with hs
        subst hs
        exact ho
      · cases hs
    · rename_i hij
      exact World.ownsRow.kept (h.own j s hs) hg (h.two j i s r (fun e => hij e.symm) hs hi)
  · rw [List.getElem?_set] at hs ht
    split at hs
    · rename_i hij
      split at hs
      · injection hs with hs
        subst hs hij
        split at ht
        · rename_i hik
          exact absurd hik hjk
        · rename_i hik
          exact (key k t (fun e => hik e.symm) ht).symm
      · cases hs
    · rename_i hij
      split at ht
      · rename_i hik
        split at ht
        · injection ht with ht
          subst ht hik
          exact key j s (fun e => hij e.symm) hs
        · cases ht
      · exact h.two j k s t hjk hs ht
  · obtain ⟨h1, h2⟩ := h.box G hG
    exact ⟨h1, (hg.block G h2.lt (bx_own hr h2)).trans h2⟩
/-- The row of numbers. -/
theorem Cp.seti (h : Cp w1 w B rs y l gb) (v' : Value) (l' : List Int) (ho : OwnI w' B v' l') (hg : w.grownBy w' y.ownBlock) : Cp w1 w' B rs v' l' gb := by
  have hlt := World.ownsRow.lt h.ints
  refine ⟨h.below.grown hg h.size (fun k hk => (hlt k hk).1), h.base, fun j s hs => World.ownsRow.kept (h.own j s hs) hg (apart_si (h.own j s hs) h.ints), h.two, ho, fun G hG => ?_⟩
  obtain ⟨h1, h2⟩ := h.box G hG
  exact ⟨h1, (hg.block G h2.lt (bx_ownI h.ints h2)).trans h2⟩
/-- The box is laid. -/
theorem Cp.lay (h : Cp w1 w B rs y l gb) : Cp w1 (w.alloc (.cells #[.bool false, .slice none 0 0, .slice none 0 0, .slice none 0 0] 25)) B rs y l (some w.heap.size) :=
  ⟨h.below.alloc h.size _, h.base, fun j s hs => (h.own j s hs).keep (new_below _ _), h.two, h.ints.keep (new_below _ _), fun G hG => by injection hG with hG; subst hG; exact ⟨h.size, heap_alloc_new w _⟩⟩
/-- The box is filled. -/
theorem Cp.fill {G : Nat} (h : Cp w1 w B rs y l (some G)) (b : Bool) (vk vv vi : Value) :
    Cp w1 ((((w.setCell ⟨G, 0, none⟩ (.bool b)).setCell ⟨G, 1, none⟩ vk).setCell ⟨G, 2, none⟩ vv).setCell ⟨G, 3, none⟩ vi) B rs y l none ∧ Bx ((((w.setCell ⟨G, 0, none⟩ (.bool b)).setCell ⟨G, 1, none⟩ vk).setCell ⟨G, 2, none⟩ vv).setCell ⟨G, 3, none⟩ vi) G b vk vv vi := by
  obtain ⟨hB, hx⟩ := h.box G rfl
  have hg : w.grownBy ((((w.setCell ⟨G, 0, none⟩ (.bool b)).setCell ⟨G, 1, none⟩ vk).setCell ⟨G, 2, none⟩ vv).setCell ⟨G, 3, none⟩ vi) (some G) := ⟨rfl, rfl, rfl, by simp, fun k _ hk => by
    have hne : k ≠ G := fun e => hk (by rw [e])
    rw [heap_setCell_other _ _ _ _ hne, heap_setCell_other _ _ _ _ hne, heap_setCell_other _ _ _ _ hne, heap_setCell_other _ _ _ _ hne]⟩
  refine ⟨⟨h.below.grown hg h.size (fun k hk => by injection hk with hk; omega), h.base, fun j s hs => World.ownsRow.kept (h.own j s hs) hg (.inr fun e => bx_own (h.own j s hs) hx e.symm), h.two, World.ownsRow.kept h.ints hg (.inr fun e => bx_ownI h.ints hx e.symm), fun _ e => by cases e⟩, hx.whole b vk vv vi⟩
theorem grown_new (w : World) (o : Obj) (r : Option Nat) : w.grownBy (w.alloc o) r := World.grownBy_alloc w o r
end

theorem bit_ne {l : Array Bool} {i j : Nat} (hne : i ≠ j) (h : (l.setIfInBounds i true).getD j false = true) : l.getD j false = true := by
  rcases bit_set.1 h with ⟨e, _⟩ | h
  · exact absurd e hne
  · exact h
theorem bit_keep {l : Array Bool} {i j : Nat} (h : l.getD j false = true) : (l.setIfInBounds i true).getD j false = true := bit_set.2 (.inr h)
theorem bit_self {l : Array Bool} {i : Nat} (h : i < l.size) : (l.setIfInBounds i true).getD i false = true := bit_set.2 (.inl ⟨rfl, h⟩)
theorem bit_off {l : Array Bool} {i : Nat} (h : l.getD i true = false) : ¬ l.getD i false = true := by
  obtain ⟨h1, h2⟩ := getD_false h
  rw [Array.getElem?_eq_getElem h1] at h2
  injection h2 with h2
  simp [h1, h2]

/-- An empty row, laid a moment ago; a row of one text; an empty row of numbers. -/
theorem owns_one (w : World) (B : Nat) (hB : B ≤ w.heap.size) (s : List UInt8) : OwnS (w.alloc (.cells #[.string ⟨s.toArray⟩] 9)) B (.slice (some ⟨w.heap.size, 0, none⟩) 1 1) [s] :=
  ⟨rfl, .inr ⟨w.heap.size, 1, #[.string ⟨s.toArray⟩], rfl, hB, heap_alloc_new w _, Nat.le_refl _, by simp [maxLen], rfl, rfl⟩⟩
theorem owni_new (w : World) (B : Nat) (hB : B ≤ w.heap.size) : OwnI (w.alloc (.cells #[] 3)) B (.slice (some ⟨w.heap.size, 0, none⟩) 0 0) [] :=
  World.ownsRow_made (base := B) (e := 3) (size := 1) w #[] 0 hB (by simp) rfl

end Go.Proofs.Ytjilkpgbojjnfaa.Cd
