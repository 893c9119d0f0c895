/-
  TreeCounts answers true. Conditions: the rounds' numbers lie in their variable.
-/
import Derived.Test.YthbahbcihaebeaaDoorG16
import Derived.Test.YthbahbcihaebeaaDoorG17
import Derived.Test.YthbahbcihaebeaaDoorG18
import Derived.Shelf.Abstract
import Derived.Shelf.RegionOpen
import Derived.WalkKit
import Derived.OwnWalkIn
import Derived.TacticsInMore
import Derived.LoopNIn
import Derived.LoopIn
import Derived.BigRegionIn
import Derived.Test.YthbahbcihaebeaaDoorG5
import Derived.Test.YthbahbcihaebeaaDoorG13
import Derived.Test.YthbahbcihaebeaaDoorG6
import Derived.Test.YthbahbcihaebeaaDoorG15
import Derived.Test.YthbahbcihaebeaaDoorG11
/-
  slices.Chunk of pairs by fours: what it hands over. Conditions: there are pairs.
-/
namespace Go.Proofs.YthbahbcihaebeaaDoor.Cd
open Go.RowKit Go.Shelf
attribute [local go_sem] Oper.semAt_some
set_option linter.unusedVariables false

theorem pchunk_any (A : Option Addr) (n c : Nat) (w : World) :
    Calls Tryd.prog 24 #[.slice A n c, .int .i64 4] w (fun e w' => e = .returned (.func (.func 32) #[] #[.pointer (some ⟨w.heap.size, 0, none⟩), .pointer (some ⟨w.heap.size + 1, 0, none⟩)]) ∧
      w' = (w.alloc (.cells #[.slice A n c] 22)).alloc (.cells #[.int .i64 4] 3)) := by
  go_enter Tryd.func24, Tryd.ntmps24
  go_wp2_with fail
  go_ret
  exact ⟨by simp, rfl⟩

/-- The k-th four of n pairs at b, off. -/
def tgP (b off n k : Nat) : Value := .slice (some ⟨b, off + 4 * k * 2, none⟩) (min 4 (n - 4 * k)) (min 4 (n - 4 * k))
def foursN (n : Nat) : Nat := (n + 3) / 4
/-- The two boxes of the iterator's. -/
def BoxesP (bs bn : Nat) (b off n c : Nat) (W : World) : Prop := W.cell? ⟨bs, 0, none⟩ = some (.slice (some ⟨b, off, none⟩) n c) ∧ W.cell? ⟨bn, 0, none⟩ = some (.int .i64 4)

set_option maxRecDepth 100000 in
set_option maxHeartbeats 3200000 in
theorem pchunk_hands (m bs bn b off n c : Nat) (hn : n ≤ c) (hc : c ≤ 9223372036854775807) (hn2 : n ≤ 140737488355328) :
    Hands Fence.wide m Tryd.prog 32 #[.pointer (some ⟨bs, 0, none⟩), .pointer (some ⟨bn, 0, none⟩)] (fun k => #[tgP b off n k]) (List.range (foursN n)) (BoxesP bs bn b off n c) := by
  intro l J Jx W hJ hJx hB hY h0
  have HJ := Lib.hid hJ
  have HJX := Lib.hid hJx
  have HBX := Lib.hid hB
  have HY := Lib.hid hY
  have H0 := Lib.hid h0
  clear hJ hJx hB hY h0
  refine callsIn_of_wp Tryd.func32 rfl trivial ?_ rfl
  simp only [Tryd.ntmps32, List.size_toArray, List.length_cons, List.length_nil, Nat.reduceAdd, Nat.reduceSub, Array.replicate_succ, Array.replicate_zero, List.push_toArray, List.append_toArray, List.nil_append, List.cons_append]
  gi_wp2
  gi_loopw [4] (fun p wr => ∃ i k : Nat, p = .int .i64 i ∧ Hid (i = 4 * k) ∧ i ≤ n + 4 ∧ Hid (k ≤ foursN n) ∧ Hid (J k wr)) (fun p _ => n + 1024 - (intOf p).toNat)
  case atStart => exact ⟨0, 0, rfl, rfl, by omega, Nat.zero_le _, H0⟩
  case round =>
    obtain ⟨i, k, rfl, hi, hi2, hk, hJk⟩ := hrel
    obtain ⟨x1, x2⟩ := HBX.out k wr hJk.out
    have hn' : (n : Int) ≤ 140737488355328 := by omega
    by_cases hlt : i < n
    · have hlt' : (i : Int) < n := by omega
      have hJ1 : J k wr.drew := HJ.out k wr wr.drew hJk.out (Below.refl _ _).drew
      obtain ⟨y1, y2⟩ := HBX.out k wr.drew hJ1
      have hkl : k < foursN n := by have := hi.out; unfold foursN; omega
      obtain ⟨fn, tmps, assign, body, hy, hR⟩ := HY.out k k wr.drew (List.getElem?_range hkl) hJ1
      obtain ⟨e, he⟩ : ∃ e, min 4 (n - 4 * k) = e := ⟨_, rfl⟩
      have hpv : tgP b off n k = .slice (some ⟨b, off + i * 2, none⟩) e e := by unfold tgP; rw [he, hi.out]
      have he' : e = min 4 (n - i) := by rw [hi.out]; exact he.symm
      have hmin : min (4 : Int) ((n - i : Nat) : Int) = (e : Int) := by omega
      have hsl : ((i : Int) + (e : Int)).toNat - i = e := by omega
      have he1 : i + e ≤ n := by omega
      have he2 : 1 ≤ e ∧ e ≤ 4 := by omega
      rw [hpv] at hy
      have HR := Lib.hid hR
      have HE := Lib.hid he'
      have HKL := Lib.hid hkl
      clear hR he' he hpv hJ1 hkl
      have hic : (i : Int) ≤ c := by omega
      have hcase : (e = n - i ∧ ((n - i : Nat) : Int) < 4) ∨ (e = 4 ∧ (4 : Int) ≤ ((n - i : Nat) : Int)) := by have := HE.out; omega
      have hsl2 : ((i : Int) + 4).toNat - i = 4 := by omega
      rcases hcase with ⟨rfl, hle⟩ | ⟨rfl, hle⟩
      all_goals
        gi_wp2
        gi_region
        all_goals gi_wp2
        refine ⟨fun h => (by cases h), HR.out.mono ?_⟩
        rintro e2 W3 (⟨rfl, hJ3⟩ | ⟨rfl, hJx3⟩)
        · have HJ3 := Lib.hid hJ3
          obtain ⟨z1, z2⟩ := HBX.out _ W3 hJ3
          clear hJ3
          gi_wp2
          go_roundw
          case rel =>
            have h1 := hi.out
            have h2 := HKL.out
            exact ⟨i + 4, k + 1, by go_num, by unfold Hid; omega, by omega, by unfold Hid; omega, HJ3⟩
          case measure => simp [intOf]; omega
        · have HX3 := Lib.hid hJx3
          clear hJx3
          gi_wp2
          refine bodyPost_ret (results_none rfl _ _ _) rfl ?_
          exact ⟨⟨_, rfl⟩, .inr ⟨k + 1, by rw [List.length_range]; exact HKL.out, HX3.out⟩⟩
    · have hlt' : (n : Int) ≤ i := by omega
      have hke : k = foursN n := by
        have h1 := hi.out
        have h2 := hk.out
        unfold foursN at *
        omega
      gi_wp2
      go_end0
      exact ⟨⟨_, rfl⟩, .inl (by rw [List.length_range, ← hke]; exact hJk.out)⟩

theorem quads_at {α : Type} : ∀ (n : Nat) (l : List α), l.length = n → ∀ k, k < foursN n → (quads l)[k]? = some ((l.drop (4 * k)).take 4) := by
  intro n
  induction n using Nat.strongRecOn with
  | ind n ih =>
    intro l hl k hk
    have h : l ≠ [] := fun e => by subst e; simp at hl; subst hl; simp [foursN] at hk
    have h1 := List.length_pos_iff.2 h
    rw [quads_cons h]
    cases k with
    | zero => rfl
    | succ k =>
      rw [List.getElem?_cons_succ, ih (n - 4) (by omega) _ (by rw [List.length_drop, hl]) k (by unfold foursN at hk ⊢; omega), List.drop_drop, show 4 + 4 * k = 4 * (k + 1) by omega]

end Go.Proofs.YthbahbcihaebeaaDoor.Cd

/-
  (*maker).parts: the leaves. Conditions: none. (Printed by tools/gen_tr_parts.py.)
-/
namespace Go.Proofs.YthbahbcihaebeaaDoor.Cd
open Go.RowKit Go.Shelf
attribute [local go_sem] Oper.semAt_some

section
variable {α : Type} {f : α → List Value} {n : Nat} {T : TypeId} {w w' : World} {B : Nat} {v : Value} {l : List α}
theorem OwnRw.single (hn : ∀ x, (f x).length = n) (w : World) (p : α) (hB : B ≤ w.heap.size) : OwnRw f n T (w.alloc (.cells (f p).toArray T)) B (.slice (some ⟨w.heap.size, 0, none⟩) 1 1) [p] :=
  ⟨by simp [rowC, hn], .inr ⟨w.heap.size, 1, (f p).toArray, rfl, hB, heap_alloc_new _ _, Nat.le_refl _, by simp [maxLen], by simp [hn], by simp [rowC, ← hn p]⟩⟩
theorem OwnRw.same (h : OwnRw f n T w B v l) (hk : ∀ k, v.ownBlock = some k → w'.heap[k]? = w.heap[k]?) : OwnRw f n T w' B v l := by
  refine ⟨h.1, ?_⟩
  rcases h.2 with h4 | ⟨g, cap, cur, rfl, hg, hh, r⟩
  · exact .inl h4
  · exact .inr ⟨g, cap, cur, rfl, hg, (hk g rfl).trans hh, r⟩
theorem RwIn.cap {A : Option Addr} {m c c' : Nat} (h : RwIn f n w B (.slice A m c) l) (h1 : m ≤ c') (h2 : c' ≤ 9223372036854775807) (hA : A ≠ none) : RwIn f n w B (.slice A m c') l := by
  obtain ⟨A0, c0, e, k2, k3, k4, k5⟩ := h
  injection e with e1 e2 e3
  subst e1 e2
  exact ⟨A, c', rfl, h1, h2, fun e => absurd e hA, k5⟩
end

/-- What lies between two rounds: the maker, what it has made, the row in its box at q; the boxes that were laid since the call began. -/
structure PartF (B g q : Nat) (K : Int) (w w3 W : World) (mv rv : Value) (M : List Ob) (row : List Kd) : Prop where
  keep : Makes B g w W
  box : ∀ j, w.heap.size ≤ j → j < w3.heap.size → j ≠ q → W.heap[j]? = w3.heap[j]?
  size : w3.heap.size ≤ W.heap.size
  ma : MkAt W g K mv
  ob : OwnRw obC 34 35 W B mv M
  cell : W.heap[q]? = some (.cells #[rv] 48 (0, 0))
  row : OwnRw kkC 34 52 W w3.heap.size rv row
section
variable {B g q : Nat} {K : Int} {w w3 W W' : World} {mv rv mv' v2 : Value} {M M' : List Ob} {row row2 : List Kd}
theorem PartF.below (h : PartF B g q K w w3 W mv rv M row) (hB : B ≤ w.heap.size) (hb : Below W.heap.size W W') : PartF B g q K w w3 W' mv rv M row :=
  ⟨h.keep.trans (Makes.of hb (Nat.le_trans hB h.keep.below.size)), fun j h1 h2 h3 => (hb.block j (Nat.lt_of_lt_of_le h2 h.size)).trans (h.box j h1 h2 h3), Nat.le_trans h.size hb.size, h.ma.on hb, h.ob.keep hb, (hb.block q (Array.getElem?_eq_some_iff.1 h.cell).1).trans h.cell, h.row.keep hb⟩
theorem PartF.makes (h : PartF B g q K w w3 W mv rv M row) (hg : g < w.heap.size) (hq : w.heap.size ≤ q) (hbox : ∀ j, w.heap.size ≤ j → j < w3.heap.size → ∃ C T fr, w3.heap[j]? = some (.cells C T fr) ∧ T ≠ 35)
    (hm : Makes B g W W') (hs : W.heap.size ≤ W'.heap.size) (ha : MkAt W' g K mv') (ho : OwnRw obC 34 35 W' B mv' M') : PartF B g q K w w3 W' mv' rv M' row := by
  refine ⟨h.keep.trans hm, fun j h1 h2 h3 => ?_, Nat.le_trans h.size hs, ha, ho, hm.keep q _ _ _ h.cell (by omega) (by decide), OwnRw.makes h.row h.ma hm (by decide) (by decide)⟩
  obtain ⟨C, T, fr, k1, k2⟩ := hbox j h1 h2
  exact (hm.keep j C T fr ((h.box j h1 h2 h3).trans k1) (by omega) k2).trans k1.symm
theorem PartF.next (h : PartF B g q K w w3 W mv rv M row) (hg : g < w.heap.size) (hq : w.heap.size ≤ q) (hq3 : q < w3.heap.size) (hw : w.heap.size ≤ w3.heap.size) (hB : B ≤ w.heap.size) (hb : Below w3.heap.size W W') (hgr : W.grownBy W' rv.ownBlock) (ho : OwnRw kkC 34 52 W' w3.heap.size v2 row2) :
    PartF B g q K w w3 (W'.setCell ⟨q, 0, none⟩ v2) mv v2 M row2 := by
  have hat : W'.heap[q]? = some (.cells #[rv] 48 (0, 0)) := (hb.block q hq3).trans h.cell
  have hoth : ∀ j, j ≠ q → (W'.setCell ⟨q, 0, none⟩ v2).heap[j]? = W'.heap[j]? := fun j hj => heap_setCell_other W' ⟨q, 0, none⟩ j v2 hj
  have hob : OwnRw obC 34 35 W' B mv M := by
    refine h.ob.same fun k hk => hgr.block k (World.ownsRow.lt h.ob k hk).2 fun e => ?_
    rcases h.ob.2 with ⟨e1, _⟩ | ⟨g1, cap, cur, e1, _, hg1, _⟩
    · rw [e1] at hk; cases hk
    · have hk1 : g1 = k := by rw [e1] at hk; injection hk
      subst hk1
      exact box_apart h.row hg1 (by decide) e
  have hmk : Makes B g w W' := ⟨h.keep.below.trans (hb.mono (by omega)), fun j C T fr hj hjg hT => (hb.block j (by have := (Array.getElem?_eq_some_iff.1 hj).1; omega)).trans (h.keep.keep j C T fr hj hjg hT), fun j o hj hT => (hb.block j (by have := (Array.getElem?_eq_some_iff.1 hj).1; omega)).trans (h.keep.other j o hj hT)⟩
  refine ⟨⟨⟨hmk.below.os, hmk.below.tape, hmk.below.output, by simpa using hmk.below.size, fun k hk => (hoth k (by omega)).trans (hmk.below.block k hk)⟩, fun j C T fr hj hjg hT => (hoth j (by have := (Array.getElem?_eq_some_iff.1 hj).1; omega)).trans (hmk.keep j C T fr hj hjg hT), fun j o hj hT => (hoth j (by have := (Array.getElem?_eq_some_iff.1 hj).1; omega)).trans (hmk.other j o hj hT)⟩, fun j h1 h2 h3 => (hoth j h3).trans ((hb.block j h2).trans (h.box j h1 h2 h3)), ?_, ?_, ?_, ?_, ?_⟩
  · simpa using Nat.le_trans h.size hgr.size
  · exact (hoth g (by omega)).trans ((hb.block g (by omega)).trans h.ma)
  · exact hob.same fun k hk => hoth k fun e => by subst e; exact box_apart hob hat (by decide) hk.symm
  · exact heap_setCell_same _ q 0 _ _ v2 hat
  · exact ho.same fun k hk => hoth k fun e => by subst e; exact box_apart ho hat (by decide) hk.symm
theorem PartF.put (h : PartF B g q K w w3 W mv rv M row) (hg : g < w.heap.size) (hq3 : q < w3.heap.size) (hw : w.heap.size ≤ w3.heap.size) (hB : B ≤ w.heap.size) {r : Nat} (o : Obj) (hr : w3.heap.size ≤ r) (h1 : mv.ownBlock ≠ some r) (h2 : rv.ownBlock ≠ some r) : PartF B g q K w w3 (W.putObj r o) mv rv M row := by
  have hoth : ∀ j, j ≠ r → (W.putObj r o).heap[j]? = W.heap[j]? := fun j hj => World.putObj_heap_other hj
  have hk := h.keep
  refine ⟨⟨⟨hk.below.os, hk.below.tape, hk.below.output, by rw [World.putObj_size]; exact hk.below.size, fun k hk2 => (hoth k (by omega)).trans (hk.below.block k hk2)⟩, fun j C T fr hj hjg hT => (hoth j (by have := (Array.getElem?_eq_some_iff.1 hj).1; omega)).trans (hk.keep j C T fr hj hjg hT), fun j o2 hj hT => (hoth j (by have := (Array.getElem?_eq_some_iff.1 hj).1; omega)).trans (hk.other j o2 hj hT)⟩, fun j k1 k2 k3 => (hoth j (by omega)).trans (h.box j k1 k2 k3), by rw [World.putObj_size]; exact h.size, (hoth g (by omega)).trans h.ma, h.ob.same fun k e => hoth k fun e2 => h1 (by rw [e, e2]), (hoth q (by omega)).trans h.cell, h.row.same fun k e => hoth k fun e2 => h2 (by rw [e, e2])⟩
end

theorem built_tr0 : Tryd.prog.built 56 [] = some #[.slice none 0 0, .slice none 0 0] := by kernel_rfl
theorem built_trp (A : Option Addr) (m c : Nat) : Tryd.prog.built 56 [(0, .slice A m c)] = some #[.slice A m c, .slice none 0 0] := by kernel_rfl
theorem exec_build_trp {op : Oper} {a : Act} {w : World} (x : Operand) (ho : op.op = .build 56 #[(0, x)]) (A : Option Addr) (m c : Nat) (hx : a.eval x = .slice A m c) : (execOp a.eval op).run Tryd.prog w = .ok (.value (.agg #[.slice A m c, .slice none 0 0])) w := by
  have h := run_build (P := Tryd.prog) w 56 #[(0, .slice A m c)] _ (built_trp A m c)
  unfold execOp
  simp [ho, hx, h, Result.andThen]
theorem good_none : GoodT ⟨[], []⟩ := .inl ⟨rfl, Nat.zero_le _, fun p h => absurd h (by simp), fun p h => absurd h (by simp), fun j a b h => absurd h (by simp)⟩

set_option maxRecDepth 100000 in
set_option maxHeartbeats 6400000 in
theorem mparts_none (g B : Nat) (K : Int) (nm : List UInt8 → Idn) (mv : Value) (A : Option Addr) (c : Nat) (made : List Ob) (w : World) (hn : NameOf K nm) (hk : KeysIs keysL w) (hm : MkAt w g K mv) (ho : OwnRw obC 34 35 w B mv made) (hB : B ≤ w.heap.size) (hBg : B ≤ g) (hB0 : 0 < B) (hl : made.length ≤ 4096) :
    Calls Tryd.prog 16 #[.pointer (some ⟨g, 0, none⟩), .slice A 0 c] w fun e w' => ∃ v', e = .returned v' ∧ Makes B g w w' ∧ OwnRw kkC 34 52 w' w.heap.size v' (rowL nm []) ∧ ∃ mv', MkAt w' g K mv' ∧ OwnRw obC 34 35 w' B mv' (made ++ obsL nm []) := by
  obtain ⟨p5, hp5⟩ : ∃ p : Kd, (([] : List UInt8), nm (treeB ⟨[], []⟩)) = p := ⟨_, rfl⟩
  have hb1 : Below w.heap.size w (w.alloc (.cells #[.pointer (some ⟨g, 0, none⟩)] 45)) := new_below _ _
  have HM1 : Hid (MkAt (w.alloc (.cells #[.pointer (some ⟨g, 0, none⟩)] 45)) g K mv) := hm.on hb1
  have HO1 : Hid (OwnRw obC 34 35 (w.alloc (.cells #[.pointer (some ⟨g, 0, none⟩)] 45)) B mv made) := ho.keep hb1
  have HK1 : Hid (KeysIs keysL (w.alloc (.cells #[.pointer (some ⟨g, 0, none⟩)] 45))) := hk.below hb1 (by omega)
  have HB1 := Lib.hid hb1
  have HN := Lib.hid hn
  clear hb1 hm ho hk hn
  have hz1 : (w.alloc (.cells #[.pointer (some ⟨g, 0, none⟩)] 45)).heap.size = w.heap.size + 1 := asz _ _
  go_enter Tryd.func16, Tryd.ntmps16
  go_wp2_with (refine wp_build_row rfl _ rfl _ built_tr0 (by simp) ?_)
  refine (madd_any g B K nm mv made [] (.agg #[.slice none 0 0, .slice none 0 0]) ⟨[], []⟩ _ HN.out HK1.out HM1.out HO1.out (by omega) hBg hB0 ⟨_, _, rfl, RwIn.nil _ _, RwIn.nil _ _⟩ good_none hl).mono ?_
  rintro e w5 ⟨rfl, hmk5, mv5, hma5, hob5⟩
  have HMK5 : Hid (Makes B g w w5) := (Makes.of HB1.out hB).trans hmk5
  have HMA5 := Lib.hid hma5
  have HOB5 := Lib.hid hob5
  rw [hp5]
  have HP5 := Lib.hid hp5
  clear hmk5 hma5 hob5 hp5 HM1 HO1 HK1 hz1
  go_wp2_with (refine wp_one kind_kk (by omega) rfl _ rfl p5 rfl ?_)
  go_ret
  have hz5 := HMK5.out.below.size
  have hs5 : w.heap.size ≤ w5.heap.size := by
    rcases Nat.lt_or_ge w5.heap.size w.heap.size with h | h
    · exact absurd h (by have := HB1.out.size; omega)
    · exact h
  refine ⟨_, rfl, HMK5.out.trans (Makes.of (new_below _ _) (by omega)), ?_, mv5, HMA5.out.on (new_below _ _), HOB5.out.alloc _⟩
  have h9 : rowL nm [] = [p5] := by rw [← HP5.out]; rfl
  rw [h9]
  exact OwnRw.single kind_kk.len w5 p5 hs5

set_option maxRecDepth 100000 in
set_option maxHeartbeats 6400000 in
theorem mparts_some (g B : Nat) (K : Int) (nm : List UInt8 → Idn) (mv v : Value) (made : List Ob) (ps : List Bp) (w : World) (hn : NameOf K nm) (hk : KeysIs keysL w) (hm : MkAt w g K mv) (ho : OwnRw obC 34 35 w B mv made) (hB : B ≤ w.heap.size) (hBg : B ≤ g) (hB0 : 0 < B)
    (hps : PsIn w B v ps) (hgood : GoodW ps) (h0 : 0 < ps.length) (hl : made.length ≤ 1000) :
    Calls Tryd.prog 16 #[.pointer (some ⟨g, 0, none⟩), v] w fun e w' => ∃ v', e = .returned v' ∧ Makes B g w w' ∧ OwnRw kkC 34 52 w' w.heap.size v' (rowL nm ps) ∧ ∃ mv', MkAt w' g K mv' ∧ OwnRw obC 34 35 w' B mv' (made ++ obsL nm ps) := by
  obtain ⟨A, c, rfl, hm1, hm2⟩ := hps.len
  have hfew := hgood.few
  have hgl := hm.lt
  obtain ⟨b, off, eA⟩ : ∃ b off, A = some ⟨b, off, none⟩ := by
    obtain ⟨b, off, e, _⟩ := PsIn.at2 hps (List.getElem?_eq_getElem h0)
    exact ⟨b, off, e⟩
  subst eA
  obtain ⟨n, hnn⟩ : ∃ n, ps.length = n := ⟨_, rfl⟩
  rw [hnn] at hps h0 hm1 hfew ⊢
  obtain ⟨W2, hW2⟩ : ∃ x, (w.alloc (.cells #[.pointer (some ⟨g, 0, none⟩)] 45)).alloc (.cells #[.slice none 0 0] 48) = x := ⟨_, rfl⟩
  have hz2 : W2.heap.size = w.heap.size + 2 := by rw [← hW2]; simp
  have hb2 : Below w.heap.size w W2 := by rw [← hW2]; exact ((Below.refl _ _).alloc (Nat.le_refl _) _).alloc (by simp) _
  have hm2 : W2.heap[w.heap.size]? = some (.cells #[.pointer (some ⟨g, 0, none⟩)] 45) := by
    rw [← hW2]
    exact ((new_below (w.alloc (.cells #[.pointer (some ⟨g, 0, none⟩)] 45)) _).block _ (by simp)).trans (heap_alloc_new _ _)
  have hq2 : W2.heap[w.heap.size + 1]? = some (.cells #[.slice none 0 0] 48) := by
    have h := heap_alloc_new (w.alloc (.cells #[.pointer (some ⟨g, 0, none⟩)] 45)) (.cells #[.slice none 0 0] 48)
    rw [asz] at h
    rw [← hW2]
    exact h
  have HN := Lib.hid hn
  have HK := Lib.hid hk
  have HM := Lib.hid hm
  have HO := Lib.hid ho
  have HPS := Lib.hid hps
  have HG := Lib.hid hgood
  have HB2 := Lib.hid hb2
  have HM2 := Lib.hid hm2
  have HQ2 := Lib.hid hq2
  have HNN := Lib.hid hnn
  clear hn hk hm ho hps hgood hb2 hm2 hq2 hnn
  refine (callsIn_wide (n := 6)).1 ?_
  refine callsIn_of_wp_marks Tryd.func16 rfl trivial ?_ rfl
  simp only [Tryd.ntmps16, List.size_toArray, List.length_cons, List.length_nil, Nat.reduceAdd, Nat.reduceSub, Array.replicate_succ, Array.replicate_zero, List.push_toArray, List.append_toArray, List.nil_append, List.cons_append]
  gi_wp2_with fail
  refine ⟨trivial, (callsIn_wide.2 (pchunk_any _ _ _ _)).mono ?_⟩
  rintro e W3 ⟨rfl, hW3⟩
  gi_wp2_with fail
  rw [← hW3]
  have hz3 : W3.heap.size = w.heap.size + 4 := by rw [hW3]; simp; omega
  have hb3 : Below W2.heap.size W2 W3 := by rw [hW3]; exact ((Below.refl _ _).alloc (Nat.le_refl _) _).alloc (by simp) _
  have hc3 : W3.heap[w.heap.size + 2]? = some (.cells #[.slice (some ⟨b, off, none⟩) n c] 22) := by
    rw [hW3, ← hz2]
    exact ((new_below (W2.alloc (.cells #[.slice (some ⟨b, off, none⟩) n c] 22)) _).block _ (by simp)).trans (heap_alloc_new _ _)
  have hc4 : W3.heap[w.heap.size + 2 + 1]? = some (.cells #[.int .i64 4] 3) := by
    have h := heap_alloc_new (W2.alloc (.cells #[.slice (some ⟨b, off, none⟩) n c] 22)) (.cells #[.int .i64 4] 3)
    rw [asz, hz2] at h
    rw [hW3]
    exact h
  have hq3 := (hb3.block _ (by omega)).trans HQ2.out
  have hm3 := (hb3.block _ (by omega)).trans HM2.out
  have hbw : Below w.heap.size w W3 := HB2.out.trans (hb3.mono (by omega))
  have hbox : ∀ j, w.heap.size ≤ j → j < W3.heap.size → ∃ C T fr, W3.heap[j]? = some (.cells C T fr) ∧ T ≠ 35 := by
    intro j h1 h2
    have h3 : j = w.heap.size ∨ j = w.heap.size + 1 ∨ j = w.heap.size + 2 ∨ j = w.heap.size + 2 + 1 := by omega
    rcases h3 with rfl | rfl | rfl | rfl
    · exact ⟨_, _, _, hm3, by decide⟩
    · exact ⟨_, _, _, hq3, by decide⟩
    · exact ⟨_, _, _, hc3, by decide⟩
    · exact ⟨_, _, _, hc4, by decide⟩
  obtain ⟨q, hq⟩ : ∃ q, w.heap.size + 1 = q := ⟨_, rfl⟩
  have hqa : w.heap.size ≤ q := by omega
  have hqb : q < W3.heap.size := by omega
  have hwz : w.heap.size ≤ W3.heap.size := by omega
  have hqm : q ≠ w.heap.size := by omega
  have hqm2 : w.heap.size + 2 ≠ q := by omega
  have hqm3 : w.heap.size + 2 + 1 ≠ q := by omega
  rw [hq] at hq3 ⊢
  have hp0 : PartF B g q K w W3 W3 mv (.slice none 0 0) made [] := ⟨Makes.of hbw hB, fun _ _ _ _ => rfl, Nat.le_refl _, HM.out.on hbw, HO.out.keep hbw, hq3, OwnRw.nil _ _⟩
  obtain ⟨qs, hqs⟩ : ∃ qs, quads ps = qs := ⟨_, rfl⟩
  have hql : qs.length = foursN n := by rw [← hqs]; exact quads_len n ps HNN.out
  obtain ⟨r, hr⟩ : ∃ r, W3.heap.size + 1 = r := ⟨_, rfl⟩
  obtain ⟨I, hI⟩ : ∃ I : Nat → World → Prop, ∀ k X, I k X ↔ ∃ mv rv, PartF B g q K w W3 X mv rv (made ++ (qs.take k).map (leafO nm)) ((qs.take k).map (leafK nm)) ∧ mv.ownBlock ≠ some r ∧ rv.ownBlock ≠ some r := ⟨_, fun _ _ => Iff.rfl⟩
  have HI := Lib.hid hI
  have HP0 := Lib.hid hp0
  have HBOX := Lib.hid hbox
  have HM3 := Lib.hid hm3
  have HC3 := Lib.hid hc3
  have HC4 := Lib.hid hc4
  have HQS := Lib.hid hqs
  have HQL := Lib.hid hql
  have HR := Lib.hid hr
  have HBW := Lib.hid hbw
  have HW3 := Lib.hid hW3
  have HW2 := Lib.hid hW2
  clear hI hp0 hbox hm3 hc3 hc4 hq3 hqs hql hr hbw hb3 hW3 hW2 HB2 HM2 HQ2 HM HO hq
  refine wpIn_range_c rfl (by omega) (gf := 32) (lb := #[.pointer (some ⟨w.heap.size + 2, 0, none⟩), .pointer (some ⟨w.heap.size + 2 + 1, 0, none⟩)]) rfl trivial (enters_of Tryd.func32 (by kernel_rfl) rfl) (encs := fun k => #[tgP b off n k]) (fun _ => rfl)
    (List.range (foursN n)) (BoxesP (w.heap.size + 2) (w.heap.size + 2 + 1) b off n c) (pchunk_hands _ _ _ _ _ _ _ hm1 hm2 (by omega)) I (fun _ _ _ => False) ?hI (fun c k => ⟨fun _ _ h _ => h, fun _ _ h => h⟩) ?hBox ?h0
    (fun k => (⟨#[.pointer (some ⟨g, 0, none⟩), .slice (some ⟨b, off, none⟩) n c, .pointer (some ⟨w.heap.size, 0, none⟩), undef, .slice none 0 0, .pointer (some ⟨q, 0, none⟩), tgP b off n k, .slice (some ⟨b, off, none⟩) n c, .int .i64 n, .bool false, undef, undef, undef, undef, .slice (some ⟨b, off, none⟩) n c,
      .func (.func 32) #[] #[.pointer (some ⟨w.heap.size + 2, 0, none⟩), .pointer (some ⟨w.heap.size + 2 + 1, 0, none⟩)], tgP b off n k, undef, undef, undef, undef, undef, undef, undef, undef, undef, undef, undef, undef], []⟩ : Act)) ?assign ?body ?done ?stop
  case hI =>
    intro k
    refine ⟨fun A B9 hA hb => ?_, fun A o hA => ?_⟩
    · obtain ⟨mv, rv, a1, a2, a3⟩ := (HI.out _ _).1 hA
      exact (HI.out _ _).2 ⟨mv, rv, a1.below hB hb, a2, a3⟩
    · obtain ⟨mv, rv, a1, a2, a3⟩ := (HI.out _ _).1 hA
      rw [HR.out]
      exact (HI.out _ _).2 ⟨mv, rv, a1.put hgl hqb hwz hB o (by have := HR.out; omega) a2 a3, a2, a3⟩
  case hBox =>
    intro k A hA
    obtain ⟨mv, rv, a1, a2, a3⟩ := (HI.out _ _).1 hA
    exact ⟨cell_of_row _ _ _ _ _ _ ((a1.box _ (by omega) (by omega) hqm2).trans HC3.out), cell_of_row _ _ _ _ _ _ ((a1.box _ (by omega) (by omega) hqm3).trans HC4.out)⟩
  case h0 =>
    intro o
    refine (HI.out _ _).2 ⟨mv, .slice none 0 0, ?_, fun e => ?_, fun e => by cases e⟩
    · rw [List.take_zero, List.map_nil, List.map_nil, List.append_nil]
      exact HP0.out.below hB (((Below.refl _ _).alloc (Nat.le_refl _) _).alloc (by simp) _)
    · have h1 := (World.ownsRow.lt HP0.out.ob _ e).2
      have h2 := HR.out
      omega
  case assign =>
    intro l x X K9 hK
    gi_wp2
    exact hK
  case body =>
    intro k x X hx hIk hlt3 hnc1 hnc2
    obtain ⟨hk1, hk2⟩ := List.getElem?_eq_some_iff.1 hx
    rw [List.length_range] at hk1
    rw [List.getElem_range] at hk2
    subst hk2
    obtain ⟨mv, rv, hP, hne1, hne2⟩ := (HI.out _ _).1 hIk
    have hkn : 4 * k < n := by unfold foursN at hk1; omega
    obtain ⟨q4, hq4⟩ : ∃ q4, (ps.drop (4 * k)).take 4 = q4 := ⟨_, rfl⟩
    have hqk : qs[k]? = some q4 := by rw [← HQS.out, ← hq4]; exact quads_at n ps HNN.out k hk1
    obtain ⟨e, he⟩ : ∃ e, min 4 (n - 4 * k) = e := ⟨_, rfl⟩
    obtain ⟨of, hof⟩ : ∃ of, off + 4 * k * 2 = of := ⟨_, rfl⟩
    have hqe : q4.length = e := by rw [← hq4, List.length_take, List.length_drop, HNN.out, he]
    have hpart : ∀ k2, k2 = k → tgP b off n k2 = .slice (some ⟨b, of, none⟩) e e := fun k2 e2 => by rw [e2]; unfold tgP; rw [he, hof]
    have hX : Below B w X := hP.keep.below
    have hpsX : PsIn X B (.slice (some ⟨b, of, none⟩) e e) q4 := by
      have h1 := RwIn.dropN (HPS.out.below hX) (k := 4 * k) (by rw [HNN.out]; omega)
      have h2 := RwIn.takeN h1 (k := e) (by rw [List.length_drop, HNN.out]; omega)
      have h3 : (ps.drop (4 * k)).take e = q4 := by
        rw [← hq4, List.take_eq_take_iff, List.length_drop, HNN.out]
        omega
      rw [h3, hof] at h2
      exact RwIn.cap h2 (Nat.le_refl _) (by omega) (by simp)
    obtain ⟨p0, hp0⟩ : ∃ p, q4[0]? = some p := ⟨_, List.getElem?_eq_getElem (by omega)⟩
    have hGT : GoodT ⟨q4, []⟩ := leaf_good HG.out (by rw [HQS.out]; exact List.mem_of_getElem? hqk)
    simp only [hpart k rfl]
    obtain ⟨M, hM⟩ : ∃ M, made ++ (qs.take k).map (leafO nm) = M := ⟨_, rfl⟩
    obtain ⟨row, hrow⟩ : ∃ row, (qs.take k).map (leafK nm) = row := ⟨_, rfl⟩
    have hMl : M.length ≤ 2000 := by
      rw [← hM, List.length_append, List.length_map, List.length_take]
      unfold foursN at hk1
      omega
    have hrl : row.length ≤ 2000 := by
      rw [← hrow, List.length_map, List.length_take]
      unfold foursN at hk1
      omega
    rw [hM, hrow] at hP
    have hM2 : made ++ (qs.take (k + 1)).map (leafO nm) = M ++ [(nm (treeB ⟨q4, []⟩), treeB ⟨q4, []⟩)] := by
      rw [List.take_add_one, hqk, List.map_append, ← List.append_assoc, hM]
      rfl
    have hp1 : headK q4 = p0.1 := by
      unfold headK
      rw [List.head?_eq_getElem?, hp0]
      rfl
    have hrow2 : (qs.take (k + 1)).map (leafK nm) = row ++ [(p0.1, nm (treeB ⟨q4, []⟩))] := by
      rw [List.take_add_one, hqk, List.map_append, hrow, ← hp1]
      rfl
    have he1 : 1 ≤ e := by omega
    have he0 : 0 < e := by omega
    have hpi : (0 : Int) < (e : Int) := by omega
    gi_wp2_with fail
    obtain ⟨W0, hW0⟩ : ∃ x, X.drew = x := ⟨_, rfl⟩
    have HPS0 : Hid (PsIn W0 B (.slice (some ⟨b, of, none⟩) e e) q4) := by rw [← hW0]; exact hpsX
    have HP9 : Hid (PartF B g q K w W3 W0 mv rv M row) := by rw [← hW0]; exact hP.below hB (Below.refl _ _).drew
    have HT0 : Hid (Two W3.heap.size X W0) := by rw [← hW0]; exact ⟨rfl, rfl⟩
    have hlt0 : W3.heap.size + 1 < W0.heap.size := by rw [← hW0]; exact hlt3
    have HN1 : Hid (∀ C T fr, W0.heap[W3.heap.size]? ≠ some (.cells C T fr)) := by rw [← hW0]; exact hnc1
    have HN2 : Hid (∀ C T fr, W0.heap[W3.heap.size + 1]? ≠ some (.cells C T fr)) := by rw [← hW0]; exact hnc2
    have HM2 := Lib.hid hM2
    have HROW2 := Lib.hid hrow2
    have HGT := Lib.hid hGT
    have HP1 := Lib.hid hp0
    clear hpsX hP hnc1 hnc2 hx hIk hpart hM hrow hM2 hrow2 hGT hqk hq4 hX hp0 hp1 hne1 hne2
    obtain ⟨hbB, hkey⟩ : b < B ∧ W0.cell? ⟨b, of, none⟩ = some (.string ⟨p0.1.toArray⟩) := by
      obtain ⟨b9, o9, e9, hB9, d0, _⟩ := PsIn.at2 HPS0.out HP1.out
      injection e9 with e9
      injection e9 with e9 e8
      subst e9 e8
      exact ⟨hB9, by rwa [show of + 0 * 2 = of by omega] at d0⟩
    have hmb : W0.cell? ⟨w.heap.size, 0, none⟩ = some (.pointer (some ⟨g, 0, none⟩)) := cell_of_row _ _ _ _ _ _ ((HP9.out.box _ (Nat.le_refl _) (by omega) (by omega)).trans HM3.out)
    have hS0 := And.intro hkey hmb
    have hq0 : W0.cell? ⟨q, 0, none⟩ = some rv := cell_of_row _ _ _ _ _ _ HP9.out.cell
    have hk0 : KeysIs keysL W0 := HK.out.below HP9.out.keep.below hB0
    refine region_round (S := fun W => W.cell? ⟨b, of, none⟩ = some (.string ⟨p0.1.toArray⟩) ∧ W.cell? ⟨w.heap.size, 0, none⟩ = some (.pointer (some ⟨g, 0, none⟩))) hW0 (by kernel_rfl) ?hlo (by kernel_rfl) hS0 (fun hHeld => ?_)
    case hlo => rintro ⟨a', w', h⟩; exact h
    clear hW0 hHeld hkey hmb
    have hHeld := hS0
    refine take_at (i := 1) (.pointer (some ⟨g, 0, none⟩)) (some 18) (by decide) (by rfl) (by kernel_rfl) (by kernel_rfl) (by kernel_rfl) (fun _ _ _ h => h) (by rfl) (fun W hW => by obtain ⟨hW1, hW2⟩ := hW; go_simp) (by assumption) ?_
    try simp only [Act.put, List.setIfInBounds_toArray, List.set_cons_zero, List.set_cons_succ]
    refine take_at (i := 2) (.slice (some ⟨b, of, none⟩) e e) (some 19) (by decide) (by rfl) (by kernel_rfl) (by kernel_rfl) (by kernel_rfl) (fun _ _ _ h => h) (by rfl) (fun W hW => by go_simp) (by assumption) ?_
    try simp only [Act.put, List.setIfInBounds_toArray, List.set_cons_zero, List.set_cons_succ]
    refine take_at (i := 3) (.pointer (some ⟨b, of, none⟩)) (some 20) (by decide) (by rfl) (by kernel_rfl) (by kernel_rfl) (by kernel_rfl) (fun _ _ _ h => h) (by rfl) (fun W hW => by go_simp) (by assumption) ?_
    try simp only [Act.put, List.setIfInBounds_toArray, List.set_cons_zero, List.set_cons_succ]
    refine take_at (i := 4) (.pointer (some ⟨b, of, none⟩)) (some 21) (by decide) (by rfl) (by kernel_rfl) (by kernel_rfl) (by kernel_rfl) (fun _ _ _ h => h) (by rfl) (fun W hW => by go_simp) (by assumption) ?_
    try simp only [Act.put, List.setIfInBounds_toArray, List.set_cons_zero, List.set_cons_succ]
    refine take_at (i := 5) (.string ⟨p0.1.toArray⟩) (some 22) (by decide) (by rfl) (by kernel_rfl) (by kernel_rfl) (by kernel_rfl) (fun _ _ _ h => h) (by rfl) (fun W hW => by obtain ⟨hW1, hW2⟩ := hW; go_simp) (by assumption) ?_
    try simp only [Act.put, List.setIfInBounds_toArray, List.set_cons_zero, List.set_cons_succ]
    refine take_at (i := 6) (.slice (some ⟨b, of, none⟩) e e) (some 23) (by decide) (by rfl) (by kernel_rfl) (by kernel_rfl) (by kernel_rfl) (fun _ _ _ h => h) (by rfl) (fun W hW => by go_simp) (by assumption) ?_
    try simp only [Act.put, List.setIfInBounds_toArray, List.set_cons_zero, List.set_cons_succ]
    refine take_at (i := 7) (.agg #[.slice (some ⟨b, of, none⟩) e e, .slice none 0 0]) (some 24) (by decide) (by rfl) (by kernel_rfl) (by kernel_rfl) (by kernel_rfl) (fun _ _ _ h => h) (by rfl) (fun W hW => by exact exec_build_trp _ rfl _ _ _ rfl) (by assumption) ?_
    try simp only [Act.put, List.setIfInBounds_toArray, List.set_cons_zero, List.set_cons_succ]
    refine wpAnyH_ready (rs := [0, 8]) (by kernel_rfl) (by simp) (come (i := 0) rv W0 (some 17) (by decide) (by rfl) (by rfl) (by have h9 := hq0; go_simp) hS0 ?_ (AllReadyH.cons (Array.getElem?_eq_getElem (i := 8) (by decide)) (fun K9 hK => ?_) AllReadyH.nil))
    · try simp only [Act.put, List.setIfInBounds_toArray, List.set_cons_zero, List.set_cons_succ]
      refine wpAnyH_ready (rs := [8]) (by kernel_rfl) (by simp) (AllReadyH.cons (Array.getElem?_eq_getElem (i := 8) (by decide)) (fun K9 hK => ?_) AllReadyH.nil)
      go_simp
      refine (madd_any g B K nm mv M p0.1 (.agg #[.slice (some ⟨b, of, none⟩) e e, .slice none 0 0]) ⟨q4, []⟩ W0 HN.out hk0 HP9.out.ma HP9.out.ob (by have := HP9.out.keep.below.size; omega) hBg hB0 ⟨_, _, rfl, HPS0.out.more (by have := HP9.out.keep.below.size; omega), RwIn.nil _ _⟩ HGT.out (by omega)).mono ?_
      rintro e5 w5 ⟨rfl, hmk5, mv5, hma5, hob5⟩
      obtain ⟨p5, hp5⟩ : ∃ p : Kd, (p0.1, nm (treeB ⟨q4, []⟩)) = p := ⟨_, rfl⟩
      rw [hp5]
      have HP5 : Hid (PartF B g q K w W3 w5 mv5 rv (M ++ [(nm (treeB ⟨q4, []⟩), treeB ⟨q4, []⟩)]) row) := HP9.out.makes hgl hqa HBOX.out hmk5 hmk5.below.size hma5 hob5
      have HT5 : Hid (Two W3.heap.size X w5) := by
        obtain ⟨o1, ho1⟩ : ∃ o, W0.heap[W3.heap.size]? = some o := ⟨_, Array.getElem?_eq_getElem (by omega)⟩
        obtain ⟨o2, ho2⟩ : ∃ o, W0.heap[W3.heap.size + 1]? = some o := ⟨_, Array.getElem?_eq_getElem hlt0⟩
        exact ⟨((hmk5.other _ _ ho1 fun C T fr e => HN1.out C T fr (by rw [ho1, e])).trans ho1.symm).trans HT0.out.1, ((hmk5.other _ _ ho2 fun C T fr e => HN2.out C T fr (by rw [ho2, e])).trans ho2.symm).trans HT0.out.2⟩
      have HN51 : Hid (∀ C T fr, w5.heap[W3.heap.size]? ≠ some (.cells C T fr)) := fun C T fr e => HN1.out C T fr (HT0.out.1.trans (HT5.out.1.symm.trans e))
      have HN52 : Hid (∀ C T fr, w5.heap[W3.heap.size + 1]? ≠ some (.cells C T fr)) := fun C T fr e => HN2.out C T fr (HT0.out.2.trans (HT5.out.2.symm.trans e))
      have hlt5 : W3.heap.size + 1 < w5.heap.size := Nat.lt_of_lt_of_le hlt0 hmk5.below.size
      have hkey5 : w5.cell? ⟨b, of, none⟩ = some (.string ⟨p0.1.toArray⟩) := (hmk5.below.cell (p := ⟨b, of, none⟩) hbB).trans hS0.1
      have hS5 := And.intro hkey5 (show w5.cell? ⟨w.heap.size, 0, none⟩ = some (.pointer (some ⟨g, 0, none⟩)) from cell_of_row _ _ _ _ _ _ ((HP5.out.box _ (Nat.le_refl _) (by omega) (by omega)).trans HM3.out))
      have hq5 : w5.cell? ⟨q, 0, none⟩ = some rv := cell_of_row _ _ _ _ _ _ HP5.out.cell
      have hPP5 := Lib.hid hp5
      clear hmk5 hma5 hob5 hp5 hkey5
      refine hK.out _ _ hS5 (fun hHeld => ?_)
      clear hK K9
      try simp only [Act.put, List.setIfInBounds_toArray, List.set_cons_zero, List.set_cons_succ]
      refine wpAnyH_ready (rs := [9]) (by kernel_rfl) (by simp) (AllReadyH.cons (Array.getElem?_eq_getElem (i := 9) (by decide)) (fun K9 hK => ?_) AllReadyH.nil)
      have hnb : Below w5.heap.size w5 (w5.alloc (.cells (kkC p5).toArray 52)) := new_below w5 _
      have hS6 : (w5.alloc (.cells (kkC p5).toArray 52)).cell? ⟨b, of, none⟩ = some (.string ⟨p0.1.toArray⟩) ∧ (w5.alloc (.cells (kkC p5).toArray 52)).cell? ⟨w.heap.size, 0, none⟩ = some (.pointer (some ⟨g, 0, none⟩)) := ⟨(hnb.cell (p := ⟨b, of, none⟩) (by show b < _; have := HP5.out.size; omega)).trans hS5.1, (hnb.cell (p := ⟨w.heap.size, 0, none⟩) (by show w.heap.size < _; omega)).trans hS5.2⟩
      have HP6 : Hid (PartF B g q K w W3 (w5.alloc (.cells (kkC p5).toArray 52)) mv5 rv (M ++ [(nm (treeB ⟨q4, []⟩), treeB ⟨q4, []⟩)]) row) := HP5.out.below hB hnb
      have HT6 : Hid (Two W3.heap.size X (w5.alloc (.cells (kkC p5).toArray 52))) := ⟨(hnb.block _ (by omega)).trans HT5.out.1, (hnb.block _ hlt5).trans HT5.out.2⟩
      have HX6 : Hid (RwIn kkC 34 (w5.alloc (.cells (kkC p5).toArray 52)) (w5.heap.size + 1) (.slice (some ⟨w5.heap.size, 0, none⟩) 1 1) [p5]) := rw_one kind_kk w5 p5 52 _ rfl
      have hq6 : (w5.alloc (.cells (kkC p5).toArray 52)).cell? ⟨q, 0, none⟩ = some rv := cell_of_row _ _ _ _ _ _ HP6.out.cell
      have hlt6 : W3.heap.size + 1 < (w5.alloc (.cells (kkC p5).toArray 52)).heap.size := by rw [asz]; omega
      refine step_one kind_kk (by omega) rfl _ rfl p5 rfl ?_
      refine hK.out _ _ hS6 (fun hHeld => ?_)
      clear hK K9
      try simp only [Act.put, List.setIfInBounds_toArray, List.set_cons_zero, List.set_cons_succ]
      generalize (w5.alloc (.cells (kkC p5).toArray 52)) = w6 at *
      refine wpAnyH_ready (rs := [10]) (by kernel_rfl) (by simp) (AllReadyH.cons (Array.getElem?_eq_getElem (i := 10) (by decide)) (fun K9 hK => ?_) AllReadyH.nil)
      refine step_append_rw kind_kk rfl _ _ rfl rfl HP6.out.row (by omega) (.slice (some ⟨w5.heap.size, 0, none⟩) 1 1) _ [p5] rfl HX6.out (by simp; omega) ?_
      intro v2 w7 ho7 hb7 hg7
      obtain ⟨R2, hR2⟩ : ∃ R2, row ++ [p5] = R2 := ⟨_, rfl⟩
      rw [hR2] at ho7
      obtain ⟨A7, c7, e7, _, _⟩ := (ho7.rwIn kind_kk).len
      subst e7
      have hS7 : w7.cell? ⟨b, of, none⟩ = some (.string ⟨p0.1.toArray⟩) ∧ w7.cell? ⟨w.heap.size, 0, none⟩ = some (.pointer (some ⟨g, 0, none⟩)) := ⟨(hb7.cell (p := ⟨b, of, none⟩) (by show b < _; omega)).trans hS6.1, (hb7.cell (p := ⟨w.heap.size, 0, none⟩) (by show w.heap.size < _; omega)).trans hS6.2⟩
      have hq7 : w7.heap[q]? = some (.cells #[rv] 48 (0, 0)) := (hb7.block q hqb).trans HP6.out.cell
      have HP8 : Hid (PartF B g q K w W3 (w7.setCell ⟨q, 0, none⟩ (.slice A7 R2.length c7)) mv5 (.slice A7 R2.length c7) (M ++ [(nm (treeB ⟨q4, []⟩), treeB ⟨q4, []⟩)]) R2) := HP6.out.next hgl hqa hqb hwz hB hb7 hg7 ho7
      have hT8 : Two W3.heap.size X (w7.setCell ⟨q, 0, none⟩ (.slice A7 R2.length c7)) := by
        have h1 : ∀ C T fr, w6.heap[W3.heap.size]? ≠ some (.cells C T fr) := fun C T fr e => HN51.out C T fr (HT5.out.1.trans (HT6.out.1.symm.trans e))
        have h2 : ∀ C T fr, w6.heap[W3.heap.size + 1]? ≠ some (.cells C T fr) := fun C T fr e => HN52.out C T fr (HT5.out.2.trans (HT6.out.2.symm.trans e))
        exact ⟨((heap_setCell_other _ _ _ _ (by show W3.heap.size ≠ q; omega)).trans (hg7.block _ (by omega) (row_box HP6.out.row h1))).trans HT6.out.1, ((heap_setCell_other _ _ _ _ (by show W3.heap.size + 1 ≠ q; omega)).trans (hg7.block _ hlt6 (row_box HP6.out.row h2))).trans HT6.out.2⟩
      have hn8 : ∀ C T fr, (w7.setCell ⟨q, 0, none⟩ (.slice A7 R2.length c7)).heap[r]? ≠ some (.cells C T fr) := fun C T fr e => HN52.out C T fr (by rw [← HR.out] at e; exact HT5.out.2.trans (hT8.2.symm.trans e))
      have HF8 : Hid (Two W3.heap.size X (w7.setCell ⟨q, 0, none⟩ (.slice A7 R2.length c7)) ∧ I (k + 1) (w7.setCell ⟨q, 0, none⟩ (.slice A7 R2.length c7))) := ⟨hT8, (HI.out _ _).2 ⟨mv5, _, by rw [HM2.out, HROW2.out, hPP5.out, hR2]; exact HP8.out, fun e => row_box HP8.out.ob hn8 e.symm, fun e => row_box HP8.out.row hn8 e.symm⟩⟩
      have q3 : w7.cell? ⟨q, 0, none⟩ = some rv := cell_of_row _ _ _ _ _ _ hq7
      have q4b : w7.frozen? ⟨q, 0, none⟩ = false := frozen_of_row _ _ _ _ _ hq7
      have oth : ∀ p : Addr, p.block ≠ q → (w7.setCell ⟨q, 0, none⟩ (.slice A7 R2.length c7)).cell? p = w7.cell? p := fun p h => World.cell?_of_block (heap_setCell_other _ _ _ _ h)
      have hS8 : (w7.setCell ⟨q, 0, none⟩ (.slice A7 R2.length c7)).cell? ⟨b, of, none⟩ = some (.string ⟨p0.1.toArray⟩) ∧ (w7.setCell ⟨q, 0, none⟩ (.slice A7 R2.length c7)).cell? ⟨w.heap.size, 0, none⟩ = some (.pointer (some ⟨g, 0, none⟩)) := ⟨(oth ⟨b, of, none⟩ (by show b ≠ q; omega)).trans hS7.1, (oth ⟨w.heap.size, 0, none⟩ (by show w.heap.size ≠ q; omega)).trans hS7.2⟩
      clear ho7 hb7 hg7 hq7 hT8 hn8 HP8 hR2 oth
      refine hK.out _ _ hS7 (fun hHeld => ?_)
      clear hK K9
      try simp only [Act.put, List.setIfInBounds_toArray, List.set_cons_zero, List.set_cons_succ]
      refine wpAnyH_ready (rs := [11]) (by kernel_rfl) (by simp) (AllReadyH.cons (Array.getElem?_eq_getElem (i := 11) (by decide)) (fun K9 hK => ?_) AllReadyH.nil)
      rw [if_pos (by rfl)]
      unfold Oper.wp
      go_simp
      refine hK.out _ _ hS8 (fun hHeld => ?_)
      clear hK K9
      try simp only [Act.put, List.setIfInBounds_toArray, List.set_cons_zero, List.set_cons_succ]
      refine wpAnyH_done (by kernel_rfl) ?_ _
      try simp only [Act.put, List.setIfInBounds_toArray, List.set_cons_zero, List.set_cons_succ]
      gi_wp2_with fail
      exact HF8.out
    · go_simp
      refine (madd_any g B K nm mv M p0.1 (.agg #[.slice (some ⟨b, of, none⟩) e e, .slice none 0 0]) ⟨q4, []⟩ W0 HN.out hk0 HP9.out.ma HP9.out.ob (by have := HP9.out.keep.below.size; omega) hBg hB0 ⟨_, _, rfl, HPS0.out.more (by have := HP9.out.keep.below.size; omega), RwIn.nil _ _⟩ HGT.out (by omega)).mono ?_
      rintro e5 w5 ⟨rfl, hmk5, mv5, hma5, hob5⟩
      obtain ⟨p5, hp5⟩ : ∃ p : Kd, (p0.1, nm (treeB ⟨q4, []⟩)) = p := ⟨_, rfl⟩
      rw [hp5]
      have HP5 : Hid (PartF B g q K w W3 w5 mv5 rv (M ++ [(nm (treeB ⟨q4, []⟩), treeB ⟨q4, []⟩)]) row) := HP9.out.makes hgl hqa HBOX.out hmk5 hmk5.below.size hma5 hob5
      have HT5 : Hid (Two W3.heap.size X w5) := by
        obtain ⟨o1, ho1⟩ : ∃ o, W0.heap[W3.heap.size]? = some o := ⟨_, Array.getElem?_eq_getElem (by omega)⟩
        obtain ⟨o2, ho2⟩ : ∃ o, W0.heap[W3.heap.size + 1]? = some o := ⟨_, Array.getElem?_eq_getElem hlt0⟩
        exact ⟨((hmk5.other _ _ ho1 fun C T fr e => HN1.out C T fr (by rw [ho1, e])).trans ho1.symm).trans HT0.out.1, ((hmk5.other _ _ ho2 fun C T fr e => HN2.out C T fr (by rw [ho2, e])).trans ho2.symm).trans HT0.out.2⟩
      have HN51 : Hid (∀ C T fr, w5.heap[W3.heap.size]? ≠ some (.cells C T fr)) := fun C T fr e => HN1.out C T fr (HT0.out.1.trans (HT5.out.1.symm.trans e))
      have HN52 : Hid (∀ C T fr, w5.heap[W3.heap.size + 1]? ≠ some (.cells C T fr)) := fun C T fr e => HN2.out C T fr (HT0.out.2.trans (HT5.out.2.symm.trans e))
      have hlt5 : W3.heap.size + 1 < w5.heap.size := Nat.lt_of_lt_of_le hlt0 hmk5.below.size
      have hkey5 : w5.cell? ⟨b, of, none⟩ = some (.string ⟨p0.1.toArray⟩) := (hmk5.below.cell (p := ⟨b, of, none⟩) hbB).trans hS0.1
      have hS5 := And.intro hkey5 (show w5.cell? ⟨w.heap.size, 0, none⟩ = some (.pointer (some ⟨g, 0, none⟩)) from cell_of_row _ _ _ _ _ _ ((HP5.out.box _ (Nat.le_refl _) (by omega) (by omega)).trans HM3.out))
      have hq5 : w5.cell? ⟨q, 0, none⟩ = some rv := cell_of_row _ _ _ _ _ _ HP5.out.cell
      have hPP5 := Lib.hid hp5
      clear hmk5 hma5 hob5 hp5 hkey5
      refine hK.out _ _ hS5 (fun hHeld => ?_)
      clear hK K9
      try simp only [Act.put, List.setIfInBounds_toArray, List.set_cons_zero, List.set_cons_succ]
      refine wpAnyH_ready (rs := [0, 9]) (by kernel_rfl) (by simp) (come (i := 0) rv w5 (some 17) (by decide) (by rfl) (by rfl) (by have h9 := hq5; go_simp) hS5 ?_ (AllReadyH.cons (Array.getElem?_eq_getElem (i := 9) (by decide)) (fun K9 hK => ?_) AllReadyH.nil))
      · try simp only [Act.put, List.setIfInBounds_toArray, List.set_cons_zero, List.set_cons_succ]
        refine wpAnyH_ready (rs := [9]) (by kernel_rfl) (by simp) (AllReadyH.cons (Array.getElem?_eq_getElem (i := 9) (by decide)) (fun K9 hK => ?_) AllReadyH.nil)
        have hnb : Below w5.heap.size w5 (w5.alloc (.cells (kkC p5).toArray 52)) := new_below w5 _
        have hS6 : (w5.alloc (.cells (kkC p5).toArray 52)).cell? ⟨b, of, none⟩ = some (.string ⟨p0.1.toArray⟩) ∧ (w5.alloc (.cells (kkC p5).toArray 52)).cell? ⟨w.heap.size, 0, none⟩ = some (.pointer (some ⟨g, 0, none⟩)) := ⟨(hnb.cell (p := ⟨b, of, none⟩) (by show b < _; have := HP5.out.size; omega)).trans hS5.1, (hnb.cell (p := ⟨w.heap.size, 0, none⟩) (by show w.heap.size < _; omega)).trans hS5.2⟩
        have HP6 : Hid (PartF B g q K w W3 (w5.alloc (.cells (kkC p5).toArray 52)) mv5 rv (M ++ [(nm (treeB ⟨q4, []⟩), treeB ⟨q4, []⟩)]) row) := HP5.out.below hB hnb
        have HT6 : Hid (Two W3.heap.size X (w5.alloc (.cells (kkC p5).toArray 52))) := ⟨(hnb.block _ (by omega)).trans HT5.out.1, (hnb.block _ hlt5).trans HT5.out.2⟩
        have HX6 : Hid (RwIn kkC 34 (w5.alloc (.cells (kkC p5).toArray 52)) (w5.heap.size + 1) (.slice (some ⟨w5.heap.size, 0, none⟩) 1 1) [p5]) := rw_one kind_kk w5 p5 52 _ rfl
        have hq6 : (w5.alloc (.cells (kkC p5).toArray 52)).cell? ⟨q, 0, none⟩ = some rv := cell_of_row _ _ _ _ _ _ HP6.out.cell
        have hlt6 : W3.heap.size + 1 < (w5.alloc (.cells (kkC p5).toArray 52)).heap.size := by rw [asz]; omega
        refine step_one kind_kk (by omega) rfl _ rfl p5 rfl ?_
        refine hK.out _ _ hS6 (fun hHeld => ?_)
        clear hK K9
        try simp only [Act.put, List.setIfInBounds_toArray, List.set_cons_zero, List.set_cons_succ]
        generalize (w5.alloc (.cells (kkC p5).toArray 52)) = w6 at *
        refine wpAnyH_ready (rs := [10]) (by kernel_rfl) (by simp) (AllReadyH.cons (Array.getElem?_eq_getElem (i := 10) (by decide)) (fun K9 hK => ?_) AllReadyH.nil)
        refine step_append_rw kind_kk rfl _ _ rfl rfl HP6.out.row (by omega) (.slice (some ⟨w5.heap.size, 0, none⟩) 1 1) _ [p5] rfl HX6.out (by simp; omega) ?_
        intro v2 w7 ho7 hb7 hg7
        obtain ⟨R2, hR2⟩ : ∃ R2, row ++ [p5] = R2 := ⟨_, rfl⟩
        rw [hR2] at ho7
        obtain ⟨A7, c7, e7, _, _⟩ := (ho7.rwIn kind_kk).len
        subst e7
        have hS7 : w7.cell? ⟨b, of, none⟩ = some (.string ⟨p0.1.toArray⟩) ∧ w7.cell? ⟨w.heap.size, 0, none⟩ = some (.pointer (some ⟨g, 0, none⟩)) := ⟨(hb7.cell (p := ⟨b, of, none⟩) (by show b < _; omega)).trans hS6.1, (hb7.cell (p := ⟨w.heap.size, 0, none⟩) (by show w.heap.size < _; omega)).trans hS6.2⟩
        have hq7 : w7.heap[q]? = some (.cells #[rv] 48 (0, 0)) := (hb7.block q hqb).trans HP6.out.cell
        have HP8 : Hid (PartF B g q K w W3 (w7.setCell ⟨q, 0, none⟩ (.slice A7 R2.length c7)) mv5 (.slice A7 R2.length c7) (M ++ [(nm (treeB ⟨q4, []⟩), treeB ⟨q4, []⟩)]) R2) := HP6.out.next hgl hqa hqb hwz hB hb7 hg7 ho7
        have hT8 : Two W3.heap.size X (w7.setCell ⟨q, 0, none⟩ (.slice A7 R2.length c7)) := by
          have h1 : ∀ C T fr, w6.heap[W3.heap.size]? ≠ some (.cells C T fr) := fun C T fr e => HN51.out C T fr (HT5.out.1.trans (HT6.out.1.symm.trans e))
          have h2 : ∀ C T fr, w6.heap[W3.heap.size + 1]? ≠ some (.cells C T fr) := fun C T fr e => HN52.out C T fr (HT5.out.2.trans (HT6.out.2.symm.trans e))
          exact ⟨((heap_setCell_other _ _ _ _ (by show W3.heap.size ≠ q; omega)).trans (hg7.block _ (by omega) (row_box HP6.out.row h1))).trans HT6.out.1, ((heap_setCell_other _ _ _ _ (by show W3.heap.size + 1 ≠ q; omega)).trans (hg7.block _ hlt6 (row_box HP6.out.row h2))).trans HT6.out.2⟩
        have hn8 : ∀ C T fr, (w7.setCell ⟨q, 0, none⟩ (.slice A7 R2.length c7)).heap[r]? ≠ some (.cells C T fr) := fun C T fr e => HN52.out C T fr (by rw [← HR.out] at e; exact HT5.out.2.trans (hT8.2.symm.trans e))
        have HF8 : Hid (Two W3.heap.size X (w7.setCell ⟨q, 0, none⟩ (.slice A7 R2.length c7)) ∧ I (k + 1) (w7.setCell ⟨q, 0, none⟩ (.slice A7 R2.length c7))) := ⟨hT8, (HI.out _ _).2 ⟨mv5, _, by rw [HM2.out, HROW2.out, hPP5.out, hR2]; exact HP8.out, fun e => row_box HP8.out.ob hn8 e.symm, fun e => row_box HP8.out.row hn8 e.symm⟩⟩
        have q3 : w7.cell? ⟨q, 0, none⟩ = some rv := cell_of_row _ _ _ _ _ _ hq7
        have q4b : w7.frozen? ⟨q, 0, none⟩ = false := frozen_of_row _ _ _ _ _ hq7
        have oth : ∀ p : Addr, p.block ≠ q → (w7.setCell ⟨q, 0, none⟩ (.slice A7 R2.length c7)).cell? p = w7.cell? p := fun p h => World.cell?_of_block (heap_setCell_other _ _ _ _ h)
        have hS8 : (w7.setCell ⟨q, 0, none⟩ (.slice A7 R2.length c7)).cell? ⟨b, of, none⟩ = some (.string ⟨p0.1.toArray⟩) ∧ (w7.setCell ⟨q, 0, none⟩ (.slice A7 R2.length c7)).cell? ⟨w.heap.size, 0, none⟩ = some (.pointer (some ⟨g, 0, none⟩)) := ⟨(oth ⟨b, of, none⟩ (by show b ≠ q; omega)).trans hS7.1, (oth ⟨w.heap.size, 0, none⟩ (by show w.heap.size ≠ q; omega)).trans hS7.2⟩
        clear ho7 hb7 hg7 hq7 hT8 hn8 HP8 hR2 oth
        refine hK.out _ _ hS7 (fun hHeld => ?_)
        clear hK K9
        try simp only [Act.put, List.setIfInBounds_toArray, List.set_cons_zero, List.set_cons_succ]
        refine wpAnyH_ready (rs := [11]) (by kernel_rfl) (by simp) (AllReadyH.cons (Array.getElem?_eq_getElem (i := 11) (by decide)) (fun K9 hK => ?_) AllReadyH.nil)
        rw [if_pos (by rfl)]
        unfold Oper.wp
        go_simp
        refine hK.out _ _ hS8 (fun hHeld => ?_)
        clear hK K9
        try simp only [Act.put, List.setIfInBounds_toArray, List.set_cons_zero, List.set_cons_succ]
        refine wpAnyH_done (by kernel_rfl) ?_ _
        try simp only [Act.put, List.setIfInBounds_toArray, List.set_cons_zero, List.set_cons_succ]
        gi_wp2_with fail
        exact HF8.out
      · have hnb : Below w5.heap.size w5 (w5.alloc (.cells (kkC p5).toArray 52)) := new_below w5 _
        have hS6 : (w5.alloc (.cells (kkC p5).toArray 52)).cell? ⟨b, of, none⟩ = some (.string ⟨p0.1.toArray⟩) ∧ (w5.alloc (.cells (kkC p5).toArray 52)).cell? ⟨w.heap.size, 0, none⟩ = some (.pointer (some ⟨g, 0, none⟩)) := ⟨(hnb.cell (p := ⟨b, of, none⟩) (by show b < _; have := HP5.out.size; omega)).trans hS5.1, (hnb.cell (p := ⟨w.heap.size, 0, none⟩) (by show w.heap.size < _; omega)).trans hS5.2⟩
        have HP6 : Hid (PartF B g q K w W3 (w5.alloc (.cells (kkC p5).toArray 52)) mv5 rv (M ++ [(nm (treeB ⟨q4, []⟩), treeB ⟨q4, []⟩)]) row) := HP5.out.below hB hnb
        have HT6 : Hid (Two W3.heap.size X (w5.alloc (.cells (kkC p5).toArray 52))) := ⟨(hnb.block _ (by omega)).trans HT5.out.1, (hnb.block _ hlt5).trans HT5.out.2⟩
        have HX6 : Hid (RwIn kkC 34 (w5.alloc (.cells (kkC p5).toArray 52)) (w5.heap.size + 1) (.slice (some ⟨w5.heap.size, 0, none⟩) 1 1) [p5]) := rw_one kind_kk w5 p5 52 _ rfl
        have hq6 : (w5.alloc (.cells (kkC p5).toArray 52)).cell? ⟨q, 0, none⟩ = some rv := cell_of_row _ _ _ _ _ _ HP6.out.cell
        have hlt6 : W3.heap.size + 1 < (w5.alloc (.cells (kkC p5).toArray 52)).heap.size := by rw [asz]; omega
        refine step_one kind_kk (by omega) rfl _ rfl p5 rfl ?_
        refine hK.out _ _ hS6 (fun hHeld => ?_)
        clear hK K9
        try simp only [Act.put, List.setIfInBounds_toArray, List.set_cons_zero, List.set_cons_succ]
        refine wpAnyH_ready (rs := [0]) (by kernel_rfl) (by simp) (come (i := 0) rv (w5.alloc (.cells (kkC p5).toArray 52)) (some 17) (by decide) (by rfl) (by rfl) (by have h9 := hq6; go_simp) hS6 ?_ AllReadyH.nil)
        try simp only [Act.put, List.setIfInBounds_toArray, List.set_cons_zero, List.set_cons_succ]
        generalize (w5.alloc (.cells (kkC p5).toArray 52)) = w6 at *
        refine wpAnyH_ready (rs := [10]) (by kernel_rfl) (by simp) (AllReadyH.cons (Array.getElem?_eq_getElem (i := 10) (by decide)) (fun K9 hK => ?_) AllReadyH.nil)
        refine step_append_rw kind_kk rfl _ _ rfl rfl HP6.out.row (by omega) (.slice (some ⟨w5.heap.size, 0, none⟩) 1 1) _ [p5] rfl HX6.out (by simp; omega) ?_
        intro v2 w7 ho7 hb7 hg7
        obtain ⟨R2, hR2⟩ : ∃ R2, row ++ [p5] = R2 := ⟨_, rfl⟩
        rw [hR2] at ho7
        obtain ⟨A7, c7, e7, _, _⟩ := (ho7.rwIn kind_kk).len
        subst e7
        have hS7 : w7.cell? ⟨b, of, none⟩ = some (.string ⟨p0.1.toArray⟩) ∧ w7.cell? ⟨w.heap.size, 0, none⟩ = some (.pointer (some ⟨g, 0, none⟩)) := ⟨(hb7.cell (p := ⟨b, of, none⟩) (by show b < _; omega)).trans hS6.1, (hb7.cell (p := ⟨w.heap.size, 0, none⟩) (by show w.heap.size < _; omega)).trans hS6.2⟩
        have hq7 : w7.heap[q]? = some (.cells #[rv] 48 (0, 0)) := (hb7.block q hqb).trans HP6.out.cell
        have HP8 : Hid (PartF B g q K w W3 (w7.setCell ⟨q, 0, none⟩ (.slice A7 R2.length c7)) mv5 (.slice A7 R2.length c7) (M ++ [(nm (treeB ⟨q4, []⟩), treeB ⟨q4, []⟩)]) R2) := HP6.out.next hgl hqa hqb hwz hB hb7 hg7 ho7
        have hT8 : Two W3.heap.size X (w7.setCell ⟨q, 0, none⟩ (.slice A7 R2.length c7)) := by
          have h1 : ∀ C T fr, w6.heap[W3.heap.size]? ≠ some (.cells C T fr) := fun C T fr e => HN51.out C T fr (HT5.out.1.trans (HT6.out.1.symm.trans e))
          have h2 : ∀ C T fr, w6.heap[W3.heap.size + 1]? ≠ some (.cells C T fr) := fun C T fr e => HN52.out C T fr (HT5.out.2.trans (HT6.out.2.symm.trans e))
          exact ⟨((heap_setCell_other _ _ _ _ (by show W3.heap.size ≠ q; omega)).trans (hg7.block _ (by omega) (row_box HP6.out.row h1))).trans HT6.out.1, ((heap_setCell_other _ _ _ _ (by show W3.heap.size + 1 ≠ q; omega)).trans (hg7.block _ hlt6 (row_box HP6.out.row h2))).trans HT6.out.2⟩
        have hn8 : ∀ C T fr, (w7.setCell ⟨q, 0, none⟩ (.slice A7 R2.length c7)).heap[r]? ≠ some (.cells C T fr) := fun C T fr e => HN52.out C T fr (by rw [← HR.out] at e; exact HT5.out.2.trans (hT8.2.symm.trans e))
        have HF8 : Hid (Two W3.heap.size X (w7.setCell ⟨q, 0, none⟩ (.slice A7 R2.length c7)) ∧ I (k + 1) (w7.setCell ⟨q, 0, none⟩ (.slice A7 R2.length c7))) := ⟨hT8, (HI.out _ _).2 ⟨mv5, _, by rw [HM2.out, HROW2.out, hPP5.out, hR2]; exact HP8.out, fun e => row_box HP8.out.ob hn8 e.symm, fun e => row_box HP8.out.row hn8 e.symm⟩⟩
        have q3 : w7.cell? ⟨q, 0, none⟩ = some rv := cell_of_row _ _ _ _ _ _ hq7
        have q4b : w7.frozen? ⟨q, 0, none⟩ = false := frozen_of_row _ _ _ _ _ hq7
        have oth : ∀ p : Addr, p.block ≠ q → (w7.setCell ⟨q, 0, none⟩ (.slice A7 R2.length c7)).cell? p = w7.cell? p := fun p h => World.cell?_of_block (heap_setCell_other _ _ _ _ h)
        have hS8 : (w7.setCell ⟨q, 0, none⟩ (.slice A7 R2.length c7)).cell? ⟨b, of, none⟩ = some (.string ⟨p0.1.toArray⟩) ∧ (w7.setCell ⟨q, 0, none⟩ (.slice A7 R2.length c7)).cell? ⟨w.heap.size, 0, none⟩ = some (.pointer (some ⟨g, 0, none⟩)) := ⟨(oth ⟨b, of, none⟩ (by show b ≠ q; omega)).trans hS7.1, (oth ⟨w.heap.size, 0, none⟩ (by show w.heap.size ≠ q; omega)).trans hS7.2⟩
        clear ho7 hb7 hg7 hq7 hT8 hn8 HP8 hR2 oth
        refine hK.out _ _ hS7 (fun hHeld => ?_)
        clear hK K9
        try simp only [Act.put, List.setIfInBounds_toArray, List.set_cons_zero, List.set_cons_succ]
        refine wpAnyH_ready (rs := [11]) (by kernel_rfl) (by simp) (AllReadyH.cons (Array.getElem?_eq_getElem (i := 11) (by decide)) (fun K9 hK => ?_) AllReadyH.nil)
        rw [if_pos (by rfl)]
        unfold Oper.wp
        go_simp
        refine hK.out _ _ hS8 (fun hHeld => ?_)
        clear hK K9
        try simp only [Act.put, List.setIfInBounds_toArray, List.set_cons_zero, List.set_cons_succ]
        refine wpAnyH_done (by kernel_rfl) ?_ _
        try simp only [Act.put, List.setIfInBounds_toArray, List.set_cons_zero, List.set_cons_succ]
        gi_wp2_with fail
        exact HF8.out
  case done =>
    intro X hIk hd
    rw [List.length_range] at hIk
    obtain ⟨mv, rv, hP, _, _⟩ := (HI.out _ _).1 hIk
    have h9 : qs.take (foursN n) = qs := List.take_of_length_le (by rw [HQL.out]; exact Nat.le_refl _)
    rw [h9] at hP
    have x0 : X.cell? ⟨q, 0, none⟩ = some rv := cell_of_row _ _ _ _ _ _ hP.cell
    have HP := Lib.hid hP
    have HD := Lib.hid hd
    have hnc : ∀ C T fr, X.heap[W3.heap.size]? ≠ some (.cells C T fr) := fun C T fr e => by rw [hd] at e; injection e with e; cases e
    have hb1 : mv.ownBlock ≠ some W3.heap.size := fun e => row_box hP.ob hnc e.symm
    have hb2 : rv.ownBlock ≠ some W3.heap.size := fun e => row_box hP.row hnc e.symm
    have hps : ps ≠ [] := fun e => by have := HNN.out; rw [e] at this; simp at this; omega
    have HL : Hid (obsL nm ps = qs.map (leafO nm) ∧ rowL nm ps = qs.map (leafK nm)) := by
      rw [← HQS.out]
      exact ⟨if_neg hps, if_neg hps⟩
    clear hP hd hIk hnc h9
    gi_wp2
    refine ⟨by simp, .inl ⟨_, _, rfl, run_takeDeferred HD.out, ?_⟩⟩
    have hfin := HP.out.put hgl hqb hwz hB (.deferred none) (Nat.le_refl _) hb1 hb2
    refine ⟨_, results_tmp rfl _ _ _, rv, rfl, hfin.keep, ?_, mv, hfin.ma, ?_⟩
    · rw [HL.out.2]
      exact hfin.row.lower hwz
    · rw [HL.out.1]
      exact hfin.ob
  case stop =>
    intro c k X _ h
    exact h.elim

end Go.Proofs.YthbahbcihaebeaaDoor.Cd

/-
  tree.Build. Conditions: the rounds' numbers lie in their variable. (Printed by tools/gen_tr_build.py.)
-/
namespace Go.Proofs.YthbahbcihaebeaaDoor.Cd
open Go.RowKit

theorem mparts_any (g B : Nat) (K : Int) (nm : List UInt8 → Idn) (mv v : Value) (made : List Ob) (ps : List Bp) (w : World) (hn : NameOf K nm) (hk : KeysIs keysL w) (hm : MkAt w g K mv) (ho : OwnRw obC 34 35 w B mv made) (hB : B ≤ w.heap.size) (hBg : B ≤ g) (hB0 : 0 < B)
    (hps : PsIn w B v ps) (hgood : GoodW ps) (hl : made.length ≤ 1000) :
    Calls Tryd.prog 16 #[.pointer (some ⟨g, 0, none⟩), v] w fun e w' => ∃ v', e = .returned v' ∧ Makes B g w w' ∧ OwnRw kkC 34 52 w' w.heap.size v' (rowL nm ps) ∧ ∃ mv', MkAt w' g K mv' ∧ OwnRw obC 34 35 w' B mv' (made ++ obsL nm ps) := by
  by_cases h0 : ps = []
  · subst h0
    obtain ⟨A, c, rfl, _, _⟩ := hps.len
    exact mparts_none g B K nm mv A c made w hn hk hm ho hB hBg hB0 (by omega)
  · exact mparts_some g B K nm mv v made ps w hn hk hm ho hB hBg hB0 hps hgood (List.length_pos_iff.2 h0) hl

/-- Three answers: a name out of a block of its own, and two more. -/
theorem ret_id3 {fn : Func} {p q r : Tmp} (hf : fn.results = #[.cell p 27, .tmp q, .tmp r]) (tmps : Array Value) (w : World) (g : Nat) (l : List UInt8) (hl : l.length = 33) (x y : Value)
    (hp : tmps.getD p undef = .pointer (some ⟨g, 0, none⟩)) (hg : IdAt w g l) (hq : tmps.getD q undef = x) (hr : tmps.getD r undef = y) : (results fn tmps).run Tryd.prog w = .ok (.tuple #[idV l, x, y]) w := by
  have hp' : tmps[p]?.getD undef = .pointer (some ⟨g, 0, none⟩) := by simpa using hp
  have hq' : tmps[q]?.getD undef = x := by simpa using hq
  have hr' : tmps[r]?.getD undef = y := by simpa using hr
  have hld := run_loadVar_row (P := Tryd.prog) w g _ 27 _ _ _ hg Tryd.underlying27 rfl (by rw [vb_size, hl]; exact cells_id)
  simp [results, hf, hp', hq', hr', asAddr, hld, idV]

/-- What Build answers of good pairs. -/
def Built (nm : List UInt8 → Idn) (ps : List Bp) (w : World) (e : Ending) (w' : World) : Prop :=
  ∃ (vl : Value) (p : Kd), e = .returned (.tuple #[idV p.2.1, vl, .int .i64 0]) ∧ Below w.heap.size w w' ∧ OwnRw obC 34 35 w' w.heap.size vl (obsA nm ps) ∧ (upAll nm (rowL nm ps)).1 = [p]

theorem climb_le : ∀ n, climb n ≤ n := by
  intro n
  induction n using Nat.strongRecOn with
  | ind n ih =>
    by_cases h : n ≤ 1
    · rw [climb_one h]
      omega
    · rw [climb_more h]
      have := ih ((n + 2) / 3) (by omega)
      by_cases h3 : n ≤ 3
      · have h4 : (n + 2) / 3 = 1 := by omega
        rw [h4, climb_one (Nat.le_refl _)]
        omega
      · omega
theorem obsA_few (nm : List UInt8 → Idn) (ps : List Bp) (h : ps.length ≤ 256) : (obsA nm ps).length ≤ 130 := by
  rw [obsA_len]
  have := climb_le (max ((ps.length + 3) / 4) 1)
  omega

set_option maxRecDepth 100000 in
set_option maxHeartbeats 3200000 in
theorem build_none (k : UInt8) (v : Value) (w : World) (hs : sizeI k = 0) :
    Calls Tryd.prog 7 #[.int .u8 k.toNat, v] w (Gives (.tuple #[idV (zer 33), .slice none 0 0, .int .i64 1]) w) := by
  have hsz := fun W => size_any k W
  rw [hs] at hsz
  have HSZ := Lib.hid hsz
  clear hsz hs
  go_enter Tryd.func7, Tryd.ntmps7
  go_wp2_with (refine wp_alloc_row zero_id rfl rfl ?_)
  refine (HSZ.out _).mono ?_
  rintro e w2 ⟨rfl, rfl⟩
  go_wp2_with (first
    | (refine wp_build_row rfl _ rfl _ built_id0 (by simp) ?_)
    | (refine wp_put_id rfl _ _ rfl w.heap.size rfl (zer 33) (zer_length _) rfl (zer 33) (zer_length _) (IdAt.new w (zer 33)) ?_))
  intro w3 h3 hg3
  have hb3 : Below w.heap.size w w3 := ((Below.refl _ _).alloc (Nat.le_refl _) _).grown hg3 (by rw [asz]; omega) (fun k hk => by injection hk with hk; omega)
  go_wp2_with fail
  exact bodyPost_ret (ret_id3 Tryd.results7 _ _ w.heap.size (zer 33) (zer_length _) (.slice none 0 0) (.int .i64 1) rfl h3 rfl rfl) rfl ⟨rfl, hb3⟩

set_option maxRecDepth 100000 in
set_option maxHeartbeats 3200000 in
theorem build_long (k : UInt8) (v : Value) (ps : List Bp) (w : World) (hs : 0 < sizeI k) (h : PsIn w w.heap.size v ps) (hl : 256 < ps.length) :
    Calls Tryd.prog 7 #[.int .u8 k.toNat, v] w (Gives (.tuple #[idV (zer 33), .slice none 0 0, .int .i64 3]) w) := by
  obtain ⟨A, c, rfl, hm1, hm2⟩ := h.len
  have hsz := fun W => size_any k W
  generalize sizeI k = sz at hs hsz
  have HSZ := Lib.hid hsz
  have hl' : (256 : Int) < ps.length := by omega
  clear hsz h
  go_enter Tryd.func7, Tryd.ntmps7
  go_wp2_with (refine wp_alloc_row zero_id rfl rfl ?_)
  refine (HSZ.out _).mono ?_
  rintro e w2 ⟨rfl, rfl⟩
  go_wp2_with (first
    | (refine wp_build_row rfl _ rfl _ built_id0 (by simp) ?_)
    | (refine wp_put_id rfl _ _ rfl w.heap.size rfl (zer 33) (zer_length _) rfl (zer 33) (zer_length _) (IdAt.new w (zer 33)) ?_))
  intro w3 h3 hg3
  have hb3 : Below w.heap.size w w3 := ((Below.refl _ _).alloc (Nat.le_refl _) _).grown hg3 (by rw [asz]; omega) (fun k hk => by injection hk with hk; omega)
  go_wp2_with fail
  exact bodyPost_ret (ret_id3 Tryd.results7 _ _ w.heap.size (zer 33) (zer_length _) (.slice none 0 0) (.int .i64 3) rfl h3 rfl rfl) rfl ⟨rfl, hb3⟩

set_option maxRecDepth 100000 in
set_option maxHeartbeats 3200000 in
theorem build_bad (k : UInt8) (v : Value) (ps : List Bp) (w : World) (hs : 0 < sizeI k) (h : PsIn w w.heap.size v ps) (hl : ps.length ≤ 256) (hg : ¬ GoodW ps) :
    Calls Tryd.prog 7 #[.int .u8 k.toNat, v] w (Gives (.tuple #[idV (zer 33), .slice none 0 0, .int .i64 1]) w) := by
  have hgd := fun W (hb : Below w.heap.size w W) => goodw_any v ps W ((h.below hb).more hb.size)
  obtain ⟨A, c, rfl, hm1, hm2⟩ := h.len
  have hsz := fun W => size_any k W
  generalize sizeI k = sz at hs hsz
  have HSZ := Lib.hid hsz
  have HGD := Lib.hid hgd
  have HNG := Lib.hid hg
  have hl' : ¬ (256 : Int) < ps.length := by omega
  clear hsz h hgd hg
  go_enter Tryd.func7, Tryd.ntmps7
  go_wp2_with (refine wp_alloc_row zero_id rfl rfl ?_)
  refine (HSZ.out _).mono ?_
  rintro e w2 ⟨rfl, rfl⟩
  go_wp2_with fail
  refine (HGD.out _ (new_below _ _)).mono ?_
  rintro e w3 ⟨s, rfl, hs3, hb3⟩
  have hsf : s = false := by
    cases s with
    | false => rfl
    | true => exact absurd (hs3.1 rfl) HNG.out
  subst hsf
  have HI3 : Hid (IdAt w3 w.heap.size (zer 33)) := (hb3.block _ (by rw [asz]; omega)).trans (IdAt.new w (zer 33))
  have HB3 : Hid (Below w.heap.size w w3) := (new_below w _).trans (hb3.mono (by rw [asz]; omega))
  clear hs3 hb3
  go_wp2_with (first
    | (refine wp_build_row rfl _ rfl _ built_id0 (by simp) ?_)
    | (refine wp_put_id rfl _ _ rfl w.heap.size rfl (zer 33) (zer_length _) rfl (zer 33) (zer_length _) HI3.out ?_))
  intro w4 h4 hg4
  have hb4 : Below w.heap.size w w4 := HB3.out.grown hg4 HB3.out.size (fun k hk => by injection hk with hk; omega)
  go_wp2_with fail
  exact bodyPost_ret (ret_id3 Tryd.results7 _ _ w.heap.size (zer 33) (zer_length _) (.slice none 0 0) (.int .i64 1) rfl h4 rfl rfl) rfl ⟨rfl, hb4⟩

set_option maxRecDepth 100000 in
set_option maxHeartbeats 6400000 in
theorem build_good (k : UInt8) (nm : List UInt8 → Idn) (hn : NameOf k.toNat nm) (hone : OneKind k nm) (hs : 0 < sizeI k) (v : Value) (ps : List Bp) (w : World) (hk : KeysIs keysL w) (h : PsIn w w.heap.size v ps) (hg : GoodW ps) :
    Calls Tryd.prog 7 #[.int .u8 k.toNat, v] w (Built nm ps w) := by
  have hgd := fun W (hb : Below w.heap.size w W) => goodw_any v ps W ((h.below hb).more hb.size)
  have hfew := hg.few
  have hrl := rowL_len nm ps
  have hoa := obsA_few nm ps hfew
  have HPS : Hid (PsIn w w.heap.size v ps) := h
  obtain ⟨A, c, rfl, hm1, hm2⟩ := h.len
  have hsz := fun W => size_any k W
  generalize sizeI k = sz at hs hsz
  have HSZ := Lib.hid hsz
  have HGD := Lib.hid hgd
  have HG := Lib.hid hg
  have HN := Lib.hid hn
  have HONE := Lib.hid hone
  have HK := Lib.hid hk
  have HRL := Lib.hid hrl
  have hl' : ¬ (256 : Int) < ps.length := by omega
  have hKb := k.toNat_lt
  clear hsz h hgd hg hn hone hk hrl
  go_enter Tryd.func7, Tryd.ntmps7
  go_wp2_with (refine wp_alloc_row zero_id rfl rfl ?_)
  refine (HSZ.out _).mono ?_
  rintro e w2 ⟨rfl, rfl⟩
  go_wp2_with fail
  refine (HGD.out _ (new_below _ _)).mono ?_
  rintro e w3 ⟨s, rfl, hs3, hb3⟩
  have hsf : s = true := hs3.2 HG.out
  subst hsf
  have HI3 : Hid (IdAt w3 w.heap.size (zer 33)) := (hb3.block _ (by rw [asz]; omega)).trans (IdAt.new w (zer 33))
  have HB3 : Hid (Below w.heap.size w w3) := (new_below w _).trans (hb3.mono (by rw [asz]; omega))
  have hlt3 : w.heap.size < w3.heap.size := (Array.getElem?_eq_some_iff.1 HI3.out).1
  obtain ⟨W4, hW4⟩ : ∃ x, w3.alloc (.cells #[.int .u8 k.toNat, .slice none 0 0] 47) = x := ⟨_, rfl⟩
  have hz4 : W4.heap.size = w3.heap.size + 1 := by rw [← hW4]; simp
  have hb4 : Below w3.heap.size w3 W4 := by rw [← hW4]; exact new_below _ _
  have HMA4 : Hid (MkAt W4 w3.heap.size k.toNat (.slice none 0 0)) := by rw [← hW4]; exact heap_alloc_new _ _
  have HB4 : Hid (Below w.heap.size w W4) := HB3.out.trans (hb4.mono (by omega))
  have HB34 := Lib.hid hb4
  clear hs3 hb3 hb4
  go_wp2_with fail
  refine (mparts_any w3.heap.size w3.heap.size k.toNat nm (.slice none 0 0) _ [] ps W4 HN.out (HK.out.below HB4.out HK.out.1) HMA4.out (OwnRw.nil _ _) (by omega) (Nat.le_refl _) (by omega) (((HPS.out.below HB4.out).more (by omega))) HG.out (by simp)).mono ?_
  rintro e w5 ⟨v5, rfl, hmk5, hrow5, mv5, hma5, hob5⟩
  rw [List.nil_append] at hob5
  have HMK5 := Lib.hid hmk5
  have HROW5 := Lib.hid hrow5
  have HMA5 := Lib.hid hma5
  have HOB5 := Lib.hid hob5
  obtain ⟨A5, c5, e5, _, _⟩ := (hrow5.rwIn kind_kk).len
  subst e5
  clear hmk5 hrow5 hma5 hob5 hW4
  go_wp2_with fail
  go_loopw [8] (fun v8 wr => ∃ (ks : List Kd) (mv : Value) (made : List Ob) (A c : _), v8 = .slice A ks.length c ∧ 1 ≤ ks.length ∧ ks.length ≤ 65 ∧ Hid (OwnRw kkC 34 52 wr W4.heap.size v8 ks) ∧ Hid (GoodRow k ks) ∧ Hid (Makes w3.heap.size w3.heap.size W4 wr) ∧ Hid (MkAt wr w3.heap.size k.toNat mv) ∧ Hid (OwnRw obC 34 35 wr w3.heap.size mv made) ∧ Hid (obsA nm ps = made ++ (upAll nm ks).2) ∧ Hid ((upAll nm (rowL nm ps)).1 = (upAll nm ks).1)) (fun v8 _ => lenOf v8)
  case atStart => exact ⟨rowL nm ps, mv5, obsL nm ps, A5, c5, rfl, by have := HRL.out; omega, by have := HRL.out; omega, HROW5.out, GoodRow.leaf HG.out HONE.out, HMK5.out, HMA5.out, HOB5.out, rfl, rfl⟩
  case round =>
    obtain ⟨ks, mv, made, A, c, rfl, hk1, hk2, hrow, hgr, hmk, hma, hob, hoa2, hup⟩ := hrel
    have hmade : made.length ≤ 130 := by
      have h9 := congrArg List.length hoa2.out
      rw [List.length_append] at h9
      omega
    by_cases hlen : ks.length ≤ 1
    · have hl1 : ks.length = 1 := by omega
      obtain ⟨p, hp⟩ : ∃ p, ks = [p] := by
        match ks, hl1 with
        | [p], _ => exact ⟨p, rfl⟩
      have hu1 := upAll_one (nm := nm) hlen
      obtain ⟨b1, off1, e1, _, hr1⟩ := KsIn.range (hrow.out.rwIn kind_kk) (k := 0) (p := p) (by rw [hp]; rfl)
      subst e1
      rw [show off1 + 0 * 34 = off1 by omega] at hr1
      have hb1W : W4.heap.size ≤ b1 := by
        rcases hrow.out.2 with ⟨e9, _⟩ | ⟨g9, cap9, cur9, e9, hg9, _⟩
        · injection e9 with e9; cases e9
        · injection e9 with e9; injection e9 with e9; injection e9 with e9 _; omega
      rw [hl1] at *
      have hdone : Hid (obsA nm ps = made ∧ (upAll nm (rowL nm ps)).1 = [p]) := ⟨by rw [hoa2.out, hu1, List.append_nil], by rw [hup.out, hu1, hp]⟩
      have HI : Hid (IdAt wr w.heap.size (zer 33)) := (hmk.out.below.block _ hlt3).trans ((HB34.out.block _ hlt3).trans HI3.out)
      have HBW : Hid (Below w.heap.size w wr) := HB4.out.trans (hmk.out.below.mono (by omega))
      have HR1 := Lib.hid hr1
      clear hr1 hrow hgr hmk hup hoa2 hu1 hp hlen HROW5 HMK5 HMA5 HOB5 HRL
      go_wp2_with fail
      obtain ⟨W0, hW0⟩ : ∃ x, wr.drew = x := ⟨_, rfl⟩
      have HI0 : Hid (IdAt W0 w.heap.size (zer 33)) := by rw [← hW0]; exact HI.out
      have HBW0 : Hid (Below w.heap.size w W0) := by rw [← hW0]; exact HBW.out.drew
      have HOB0 : Hid (OwnRw obC 34 35 W0 w3.heap.size mv made) := by rw [← hW0]; exact hob.out
      have hS0 : W0.rangeAt b1 off1 (kkC p) ∧ W0.cell? ⟨w3.heap.size, 1, none⟩ = some mv := by
        rw [← hW0]
        exact ⟨HR1.out, hma.out.c1⟩
      clear HI HBW hob hma HR1
      refine region_begin hW0 (S := fun W => W.rangeAt b1 off1 (kkC p) ∧ W.cell? ⟨w3.heap.size, 1, none⟩ = some mv) (by kernel_rfl) hS0 (fun hHeld => ?_)
      clear hW0
      refine take_at (i := 0) (.slice (some ⟨b1, off1, none⟩) 1 c) (some 36) (by decide) (by rfl) (by kernel_rfl) (by kernel_rfl) (by kernel_rfl) (fun _ _ _ h => h) (by rfl) (fun W hW => by go_simp) (by assumption) ?_
      try simp only [Act.put, List.setIfInBounds_toArray, List.set_cons_zero, List.set_cons_succ]
      refine take_at (i := 1) (.pointer (some ⟨b1, off1, none⟩)) (some 37) (by decide) (by rfl) (by kernel_rfl) (by kernel_rfl) (by kernel_rfl) (fun _ _ _ h => h) (by rfl) (fun W hW => by go_simp) (by assumption) ?_
      try simp only [Act.put, List.setIfInBounds_toArray, List.set_cons_zero, List.set_cons_succ]
      refine take_at (i := 2) (.pointer (some ⟨b1, off1 + 1, none⟩)) (some 38) (by decide) (by rfl) (by kernel_rfl) (by kernel_rfl) (by kernel_rfl) (fun _ _ _ h => h) (by rfl) (fun W hW => by go_simp) (by assumption) ?_
      try simp only [Act.put, List.setIfInBounds_toArray, List.set_cons_zero, List.set_cons_succ]
      refine take_at (i := 3) (idV p.2.1) (some 39) (by decide) (by rfl) (by kernel_rfl) (by kernel_rfl) (by kernel_rfl) (fun _ _ _ h => h) (by rfl) (fun W hW => by exact exec_load_mid _ _ rfl b1 (off1 + 1) rfl (vb p.2.1) _ (range_id hW.1) Tryd.underlying27 rfl (cells_ii p.2)) (by assumption) ?_
      try simp only [Act.put, List.setIfInBounds_toArray, List.set_cons_zero, List.set_cons_succ]
      refine take_at (i := 4) (.pointer (some ⟨w3.heap.size, 0, none⟩)) (some 40) (by decide) (by rfl) (by kernel_rfl) (by kernel_rfl) (by kernel_rfl) (fun _ _ _ h => h) (by rfl) (fun W hW => by go_simp) (by assumption) ?_
      try simp only [Act.put, List.setIfInBounds_toArray, List.set_cons_zero, List.set_cons_succ]
      refine take_at (i := 5) (.pointer (some ⟨w3.heap.size, 0, none⟩)) (some 41) (by decide) (by rfl) (by kernel_rfl) (by kernel_rfl) (by kernel_rfl) (fun _ _ _ h => h) (by rfl) (fun W hW => by go_simp) (by assumption) ?_
      try simp only [Act.put, List.setIfInBounds_toArray, List.set_cons_zero, List.set_cons_succ]
      refine take_at (i := 6) (.pointer (some ⟨w3.heap.size, 1, none⟩)) (some 42) (by decide) (by rfl) (by kernel_rfl) (by kernel_rfl) (by kernel_rfl) (fun _ _ _ h => h) (by rfl) (fun W hW => by go_simp) (by assumption) ?_
      try simp only [Act.put, List.setIfInBounds_toArray, List.set_cons_zero, List.set_cons_succ]
      refine take_at (i := 7) (mv) (some 43) (by decide) (by rfl) (by kernel_rfl) (by kernel_rfl) (by kernel_rfl) (fun _ _ _ h => h) (by rfl) (fun W hW => by obtain ⟨hW1, hW2⟩ := hW; go_simp) (by assumption) ?_
      try simp only [Act.put, List.setIfInBounds_toArray, List.set_cons_zero, List.set_cons_succ]
      refine wpAnyH_ready (rs := [8]) (by kernel_rfl) (by simp) (AllReadyH.cons (Array.getElem?_eq_getElem (i := 8) (by decide)) (fun K9 hK => ?_) AllReadyH.nil)
      refine step_put_id rfl _ _ rfl w.heap.size rfl p.2.1 p.2.2 rfl (zer 33) (zer_length _) HI0.out ?_
      intro w8 h8 hg8
      have hS8 : w8.rangeAt b1 off1 (kkC p) ∧ w8.cell? ⟨w3.heap.size, 1, none⟩ = some mv := by
        have hb8 : ∀ j o, j ≠ w.heap.size → ∀ y, W0.cell? ⟨j, o, none⟩ = some y → w8.cell? ⟨j, o, none⟩ = some y := fun j o hj y hy => by
          have h9 := World.block_lt_of_cell? W0 _ hy
          exact (World.cell?_of_block (hg8.block j h9 (fun e => by injection e with e; exact hj e))).trans hy
        exact ⟨fun j y hy => hb8 _ _ (by omega) y (hS0.1 j y hy), hb8 _ _ (by omega) _ hS0.2⟩
      have HF : Hid (Below w.heap.size w w8 ∧ OwnRw obC 34 35 w8 w.heap.size mv made) := ⟨HBW0.out.grown hg8 HBW0.out.size (fun k hk => by injection hk with hk; omega), (HOB0.out.apart hg8 (.inr fun e => box_apart (T' := 27) HOB0.out HI0.out (by decide) e.symm)).lower (by omega)⟩
      have HI8 := Lib.hid h8
      clear hg8 h8 HI0 HBW0 HOB0
      refine hK.out _ _ hS8 (fun hHeld => ?_)
      clear hK K9
      try simp only [Act.put, List.setIfInBounds_toArray, List.set_cons_zero, List.set_cons_succ]
      refine take_at (i := 9) (mv) (some 5) (by decide) (by rfl) (by kernel_rfl) (by kernel_rfl) (by kernel_rfl) (fun _ _ _ h => h) (by rfl) (fun W hW => by go_simp) (by assumption) ?_
      try simp only [Act.put, List.setIfInBounds_toArray, List.set_cons_zero, List.set_cons_succ]
      refine take_at (i := 10) (.int .i64 0) (some 6) (by decide) (by rfl) (by kernel_rfl) (by kernel_rfl) (by kernel_rfl) (fun _ _ _ h => h) (by rfl) (fun W hW => by go_simp) (by assumption) ?_
      try simp only [Act.put, List.setIfInBounds_toArray, List.set_cons_zero, List.set_cons_succ]
      refine wpAnyH_done (by kernel_rfl) ?_ _
      try simp only [Act.put, List.setIfInBounds_toArray, List.set_cons_zero, List.set_cons_succ]
      go_wp2_with fail
      exact bodyPost_ret (ret_id3 Tryd.results7 _ _ w.heap.size p.2.1 p.2.2 mv (.int .i64 0) rfl HI8.out rfl rfl) rfl ⟨mv, p, rfl, HF.out.1, by rw [hdone.out.1]; exact HF.out.2, hdone.out.2⟩
    · have h2 : 2 ≤ ks.length := by omega
      have hgt : (1 : Int) < ks.length := by omega
      have hKW : KeysIs keysL wr := HK.out.below (HB4.out.trans (hmk.out.below.mono (by omega))) HK.out.1
      have hwr : W4.heap.size ≤ wr.heap.size := hmk.out.below.size
      have HT := Lib.hid (mtog_any w3.heap.size w3.heap.size k.toNat k nm mv _ made ks wr HN.out HONE.out hKW hma.out hob.out (by omega) (Nat.le_refl _) (by omega) (hrow.out.rwIn kind_kk) (OwnRw.inKind hrow.out (by omega)) hgr.out h2 (by omega))
      have HGR := Lib.hid (GoodRow.up hgr.out HONE.out h2)
      have HUP : Hid (obsA nm ps = (made ++ obsU nm ks) ++ (upAll nm (rowU nm ks)).2 ∧ (upAll nm (rowL nm ps)).1 = (upAll nm (rowU nm ks)).1) := by
        have h9 := upAll_more (nm := nm) hlen
        exact ⟨by rw [hoa2.out, h9, List.append_assoc], by rw [hup.out, h9]⟩
      have hru : (rowU nm ks).length = (ks.length + 2) / 3 := rowU_len nm ks
      clear hrow hgr hma hob hoa2 hup hKW
      go_wp2_with fail
      refine HT.out.mono ?_
      rintro e w6 ⟨v6, rfl, hmk6, hrow6, mv6, hma6, hob6⟩
      obtain ⟨A6, c6, e6, _, _⟩ := (hrow6.rwIn kind_kk).len
      subst e6
      have HMK6 := Lib.hid (hmk.out.trans hmk6)
      have HROW6 := Lib.hid (hrow6.lower hwr)
      have HMA6 := Lib.hid hma6
      have HOB6 := Lib.hid hob6
      clear hmk6 hrow6 hma6 hob6 hmk HT
      obtain ⟨ku, hku⟩ : ∃ ku, rowU nm ks = ku := ⟨_, rfl⟩
      rw [hku] at hru HROW6 HGR HUP ⊢
      have HRU := Lib.hid hru
      clear hru
      go_wp2_with fail
      go_roundw
      case rel => exact ⟨ku, mv6, made ++ obsU nm ks, A6, c6, rfl, by have := HRU.out; omega, by have := HRU.out; omega, HROW6.out, HGR.out, HMK6.out, HMA6.out, HOB6.out, HUP.out.1, HUP.out.2⟩
      case measure => have := HRU.out; simp [lenOf]; omega

end Go.Proofs.YthbahbcihaebeaaDoor.Cd

/-
  What law16 asks first: the document's example. Conditions: the rounds' numbers lie in their variable.
-/
namespace Go.Proofs.YthbahbcihaebeaaDoor.Cd
open Go.RowKit

def ps5 : List Bp := ps5a ++ ps5b
theorem good5 : GoodW ps5 := ⟨by decide, by decide, by decide, by
  intro j a b ha hb
  match j, ha, hb with
  | 0, ha, hb => injection ha with ha; injection hb with hb; subst ha hb; decide
  | 1, ha, hb => injection ha with ha; injection hb with hb; subst ha hb; decide
  | 2, ha, hb => injection ha with ha; injection hb with hb; subst ha hb; decide
  | 3, ha, hb => injection ha with ha; injection hb with hb; subst ha hb; decide
  | j + 4, ha, hb => simp [ps5, ps5a, ps5b] at hb⟩
theorem oneS : OneKind 2 nmS := fun bs => ⟨good_ofS _ (shaS_length _ _), rfl⟩
theorem quads5 : quads ps5 = [ps5a, ps5b] := by
  rw [quads_cons (by decide), show ps5.drop 4 = ps5b from rfl, quads_cons (by decide), show ps5b.drop 4 = [] from rfl, quads_nil]
  rfl
theorem row5 : rowL nmS ps5 = ks5 := by
  unfold rowL
  rw [if_neg (by decide), quads5]
  rfl
theorem obs5 : obsL nmS ps5 = [ob5a, ob5b] := by
  unfold obsL
  rw [if_neg (by decide), quads5]
  rfl
theorem groups5 : groups ks5 = [ks5] := by
  have h : ks5 ≠ [] := by unfold ks5; simp
  rw [groups_cons h, show ks5.length = 2 from rfl, show nextN 2 = 2 from rfl, show ks5.drop 2 = [] from rfl, groups_nil]
  rfl
theorem up5 : upAll nmS ks5 = ([upK nmS ks5], [ob5]) := by
  rw [upAll_more (by unfold ks5; simp)]
  unfold rowU obsU
  rw [groups5, upAll_one (by simp)]
  rfl
theorem obsA5 : obsA nmS ps5 = [ob5a, ob5b, ob5] := by
  unfold obsA
  rw [obs5, row5, up5]
  rfl
theorem up5a : (upAll nmS (rowL nmS ps5)).1 = [upK nmS ks5] := by rw [row5, up5]
theorem good5b : GoodT ⟨ps5b, []⟩ := leaf_good good5 (by rw [quads5]; simp)
theorem good5k : GoodT ⟨[], ks5⟩ := by
  have h : GoodRow 2 ks5 := by rw [← row5]; exact GoodRow.leaf good5 oneS
  exact up_good h (by unfold ks5; simp) (by rw [groups5]; simp)
theorem look5 : putQ (fun _ => none) [ob5a, ob5b, ob5] (nmS (treeB ⟨[], ks5⟩)) = some (treeB ⟨[], ks5⟩) ∧ putQ (fun _ => none) [ob5a, ob5b, ob5] (nmS (treeB ⟨ps5b, []⟩)) = some (treeB ⟨ps5b, []⟩) := by
  have h : ob5b.1 ≠ ob5.1 := fun e => by have h := ob5_names; rw [e] at h; simp at h
  have e : ∀ x, putQ (fun _ => none) [ob5a, ob5b, ob5] x = upd (upd (upd (fun _ => none) ob5a.1 (some ob5a.2)) ob5b.1 (some ob5b.2)) ob5.1 (some ob5.2) x := fun x => rfl
  constructor
  · rw [e]
    unfold upd
    exact if_pos rfl
  · rw [e]
    unfold upd
    rw [if_neg (show ¬ (nmS (treeB ⟨ps5b, []⟩) = ob5.1) from h)]
    exact if_pos rfl

theorem ps5_in (w : World) : PsIn (w.alloc (.cells #[.string ⟨#[97]⟩, .string ⟨#[]⟩, .string ⟨#[98]⟩, .string ⟨#[]⟩, .string ⟨#[99]⟩, .string ⟨#[]⟩, .string ⟨#[100]⟩, .string ⟨#[]⟩, .string ⟨#[101]⟩, .string ⟨#[53]⟩] 38)) (w.heap.size + 1) (.slice (some ⟨w.heap.size, 0, none⟩) 5 5) ps5 := by
  refine ⟨_, 5, rfl, Nat.le_refl _, by simp [maxLen], (fun e => by cases e), fun _ => ⟨w.heap.size, 0, rfl, Nat.lt_succ_self _, fun i p hi j x hj => ?_⟩⟩
  have hb := heap_alloc_new w (.cells #[.string ⟨#[97]⟩, .string ⟨#[]⟩, .string ⟨#[98]⟩, .string ⟨#[]⟩, .string ⟨#[99]⟩, .string ⟨#[]⟩, .string ⟨#[100]⟩, .string ⟨#[]⟩, .string ⟨#[101]⟩, .string ⟨#[53]⟩] 38)
  rw [cell_of_row _ _ _ _ _ _ hb]
  match i, j, hi, hj with
  | 0, 0, hi, hj => injection hi with hi; subst hi; exact hj
  | 0, 1, hi, hj => injection hi with hi; subst hi; exact hj
  | 1, 0, hi, hj => injection hi with hi; subst hi; exact hj
  | 1, 1, hi, hj => injection hi with hi; subst hi; exact hj
  | 2, 0, hi, hj => injection hi with hi; subst hi; exact hj
  | 2, 1, hi, hj => injection hi with hi; subst hi; exact hj
  | 3, 0, hi, hj => injection hi with hi; subst hi; exact hj
  | 3, 1, hi, hj => injection hi with hi; subst hi; exact hj
  | 4, 0, hi, hj => injection hi with hi; subst hi; exact hj
  | 4, 1, hi, hj => injection hi with hi; subst hi; exact hj
  | i + 5, _, hi, _ => simp [ps5, ps5a, ps5b] at hi
  | i, j + 2, _, hj => simp [ppC] at hj

set_option maxRecDepth 100000 in
set_option maxHeartbeats 6400000 in
theorem alive16_any (w : World) (hk : KeysIs keysL w) : Calls Tryd.prog 5 #[] w (Gives (.bool true) w) := by
  have hp1 := ps5_in w
  have hb1 : Below w.heap.size w (w.alloc (.cells #[.string ⟨#[97]⟩, .string ⟨#[]⟩, .string ⟨#[98]⟩, .string ⟨#[]⟩, .string ⟨#[99]⟩, .string ⟨#[]⟩, .string ⟨#[100]⟩, .string ⟨#[]⟩, .string ⟨#[101]⟩, .string ⟨#[53]⟩] 38)) := new_below _ _
  have hz1 : (w.alloc (.cells #[.string ⟨#[97]⟩, .string ⟨#[]⟩, .string ⟨#[98]⟩, .string ⟨#[]⟩, .string ⟨#[99]⟩, .string ⟨#[]⟩, .string ⟨#[100]⟩, .string ⟨#[]⟩, .string ⟨#[101]⟩, .string ⟨#[53]⟩] 38)).heap.size = w.heap.size + 1 := asz _ _
  have HP1 := Lib.hid hp1
  have HB1 := Lib.hid hb1
  have HK := Lib.hid hk
  clear hp1 hb1 hk
  go_enter Tryd.func5, Tryd.ntmps5
  go_wp2_with fail
  generalize (w.alloc (.cells #[.string ⟨#[97]⟩, .string ⟨#[]⟩, .string ⟨#[98]⟩, .string ⟨#[]⟩, .string ⟨#[99]⟩, .string ⟨#[]⟩, .string ⟨#[100]⟩, .string ⟨#[]⟩, .string ⟨#[101]⟩, .string ⟨#[53]⟩] 38)) = w1 at HP1 HB1 hz1 ⊢
  refine (build_good 2 nmS name_sha oneS (by decide) _ ps5 w1 (HK.out.below HB1.out HK.out.1) (by rw [hz1]; exact HP1.out) good5).mono ?_
  rintro e w2 ⟨vl, p, rfl, hb2, ho2, hup⟩
  rw [obsA5] at ho2
  have hpp : p = upK nmS ks5 := by
    rw [up5a] at hup
    injection hup with hup
    exact hup.symm
  have hpn : p.2 = nmS (treeB ⟨[], ks5⟩) := by rw [hpp]; rfl
  obtain ⟨x, hx⟩ : ∃ x, p.2 = x := ⟨_, rfl⟩
  rw [hx] at hpn ⊢
  have HX := Lib.hid hpn
  have hx33 : x.1.length = 33 := x.2
  obtain ⟨A2, c2, e2, _, _⟩ := (ho2.rwIn kind_ob).len
  subst e2
  have HB2 := Lib.hid (HB1.out.trans (hb2.mono (by omega)))
  have HO2 := Lib.hid ho2
  have hz2 : w.heap.size ≤ w2.heap.size := HB2.out.size
  clear hb2 ho2 hup hpp hx hpn HP1 HB1 hz1
  go_wp2_with (first
    | (refine wp_alloc_row zero_id rfl rfl ?_)
    | (refine wp_fill_id rfl _ _ rfl rfl (by first | rfl | simp [Act.eval, Act.put]) x.1 hx33 (by first | rfl | simp [Act.eval, Act.put]) ?_))
  have HI3 : Hid (IdAt (w2.alloc (.cells (vb x.1).toArray 27)) w2.heap.size x.1) := IdAt.new _ _
  have HB3 : Hid (Below w.heap.size w (w2.alloc (.cells (vb x.1).toArray 27))) := HB2.out.alloc hz2 _
  have HO3 := Lib.hid ((HO2.out.alloc (.cells (vb x.1).toArray 27)).rwIn kind_ob)
  generalize w2.alloc (.cells (vb x.1).toArray 27) = w3 at HI3 HB3 HO3 ⊢
  obtain ⟨ia, hia⟩ : ∃ ia, w2.heap.size = ia := ⟨_, rfl⟩
  rw [hia] at HI3 ⊢
  clear HO2 HB2
  go_wp2_with fail
  refine (pnew_any _).mono ?_
  rintro e w4 ⟨rfl, hp4, hb4⟩
  have HP4 := Lib.hid hp4
  have HB4 := Lib.hid (HB3.out.trans (hb4.mono HB3.out.size))
  have hz3 : w.heap.size ≤ w3.heap.size := HB3.out.size
  have HI4 : Hid (IdAt w4 ia x.1) := (hb4.block _ (Array.getElem?_eq_some_iff.1 HI3.out).1).trans HI3.out
  have HO4 := Lib.hid (HO3.out.below hb4)
  have hz34 : w3.heap.size ≤ w4.heap.size := hb4.size
  have hia3 : ia < w3.heap.size := (Array.getElem?_eq_some_iff.1 HI3.out).1
  clear hp4 hb4 HB3 HI3 HO3
  go_wp2_with fail
  refine (pput_any _ _ 0 _ _ _ w4 HP4.out (HO4.out.more hz34) w3.heap.size (by omega) (Nat.le_refl _) HO4.out (by simp)).mono ?_
  rintro e w5 ⟨rfl, ⟨n5, _, hp5⟩, hb5⟩
  have HP5 := Lib.hid hp5
  have HB5 := Lib.hid (HB4.out.trans (hb5.mono hz3))
  have HI5 : Hid (IdAt w5 ia x.1) := (hb5.block _ hia3).trans HI4.out
  have HK5 := Lib.hid (HK.out.below HB5.out HK.out.1)
  clear hp5 hb5 HB4 HI4 HO4 HP4
  have HF := Lib.hid (find_two _ _ n5 _ ([97], ob5a.1) [([101], ob5b.1)] ps5b [101] w5 HP5.out good5k good5b look5.1 look5.2 rfl HK5.out)
  have hF2 : (valP ps5b [101]) = ([53], true) := rfl
  rw [hF2] at HF
  have HF3 : Hid (Calls Tryd.prog 14 #[.iface 39 (.pointer (some ⟨w3.heap.size + 1, 0, none⟩)), idV x.1, .string ⟨#[101]⟩] w5 fun e w' => e = .returned (.tuple #[.string ⟨#[53]⟩, .bool true, .int .i64 0]) ∧ Below w5.heap.size w5 w') := by rw [HX.out]; exact HF.out
  clear HF HX
  go_wp2_with (refine wpList_load_row rfl 27 _ rfl ia rfl 27 (vb x.1).toArray (0, 0) _ HI5.out Tryd.underlying27 rfl (by rw [vb_size, hx33]; exact cells_id) ?_)
  refine HF3.out.mono ?_
  rintro e w6 ⟨rfl, hb6⟩
  have HB6 := Lib.hid (HB5.out.trans (hb6.mono HB5.out.size))
  clear hb6
  go_wp2_with fail
  go_ret
  exact ⟨rfl, HB6.out⟩

end Go.Proofs.YthbahbcihaebeaaDoor.Cd

/-
  TreeCounts answers true. Conditions: the rounds' numbers lie in their variable.
-/
namespace Go.Proofs.YthbahbcihaebeaaDoor.Cd
open Go.RowKit

def nmF (bs : List UInt8) : Idn := ⟨ofF bs, ofF_length bs⟩
theorem oneF : OneKind 1 nmF := fun bs => ⟨good_ofF bs, rfl⟩
/-- A hash's names. -/
def nmK (k : UInt8) : List UInt8 → Idn := if k.toNat = 1 then nmF else nmS
theorem nmK_is (k : UInt8) (h : 0 < sizeI k) : NameOf k.toNat (nmK k) ∧ OneKind k (nmK k) := by
  unfold sizeI at h
  unfold nmK
  split at h
  · next h1 =>
    obtain rfl : k = 1 := UInt8.toNat_inj.1 h1
    exact ⟨name_fnv, oneF⟩
  · split at h
    · next h1 h2 =>
      obtain rfl : k = 2 := UInt8.toNat_inj.1 h2
      exact ⟨name_sha, oneS⟩
    · omega

/-- Build, whatever is asked: an error, or all is made. -/
theorem build_any (k : UInt8) (v : Value) (ps : List Bp) (w : World) (hk : KeysIs keysL w) (h : PsIn w w.heap.size v ps) :
    Calls Tryd.prog 7 #[.int .u8 k.toNat, v] w fun e w' => (∃ n : Int, (n = 1 ∨ n = 3) ∧ Gives (.tuple #[idV (zer 33), .slice none 0 0, .int .i64 n]) w e w' ∧ (n = 1 ↔ sizeI k = 0 ∨ ps.length ≤ 256)) ∧ ¬ (0 < sizeI k ∧ GoodW ps) ∨ (0 < sizeI k ∧ GoodW ps ∧ Built (nmK k) ps w e w') := by
  by_cases hs : sizeI k = 0
  · exact (build_none k v w hs).mono fun e w' he => .inl ⟨⟨1, .inl rfl, he, by simp [hs]⟩, fun h => by omega⟩
  · have hs1 : 0 < sizeI k := by omega
    by_cases hl : 256 < ps.length
    · exact (build_long k v ps w hs1 h hl).mono fun e w' he => .inl ⟨⟨3, .inr rfl, he, by constructor <;> omega⟩, fun h9 => by have := h9.2.few; omega⟩
    · by_cases hg : GoodW ps
      · exact (build_good k (nmK k) (nmK_is k hs1).1 (nmK_is k hs1).2 hs1 v ps w hk h hg).mono fun e w' he => .inr ⟨hs1, hg, he⟩
      · exact (build_bad k v ps w hs1 h (by omega) hg).mono fun e w' he => .inl ⟨⟨1, .inl rfl, he, by constructor <;> omega⟩, fun h9 => hg h9.2⟩

set_option maxRecDepth 100000 in
set_option maxHeartbeats 6400000 in
theorem counts_walk (a0 : Int) (v : Value) (ps : List Bp) (w : World) (hk : KeysIs keysL w) (w0 : (Lit.int .u8 a0).wf = true) (h : PsIn w w.heap.size v ps) : Calls Tryd.prog 4 #[.int .u8 a0, v] w (Gives (.bool true) w) := by
  have hb := bounds_u8 w0
  obtain ⟨k, rfl⟩ := byte_of a0 hb.1 hb.2
  have hal := alive16_any w hk
  have HK := Lib.hid hk
  have HPS := Lib.hid h
  have HAL := Lib.hid hal
  obtain ⟨A, c, rfl, hm1, hm2⟩ := h.len
  clear hal hk h hb w0
  go_enter Tryd.func4, Tryd.ntmps4
  go_wp2_with fail
  refine HAL.out.mono ?_
  rintro e w1 ⟨rfl, hb1⟩
  have HB1 := Lib.hid hb1
  clear hb1
  go_wp2_with fail
  refine (great16_any _ ps w1 ((HPS.out.below HB1.out).more HB1.out.size)).mono ?_
  rintro e w2 ⟨s, rfl, hs, hb2⟩
  have HB2 := Lib.hid (HB1.out.trans (hb2.mono HB1.out.size))
  clear hb2
  cases s with
  | true =>
    go_wp2_with fail
    go_ret
    exact ⟨rfl, HB2.out⟩
  | false =>
    have hl := hs rfl
    clear hs
    go_wp2_with fail
    refine (build_any k _ ps w2 (HK.out.below HB2.out HK.out.1) ((HPS.out.below HB2.out).more HB2.out.size)).mono ?_
    rintro e w3 (⟨⟨n, hn, ⟨rfl, hb3⟩, _⟩, _⟩ | ⟨hs1, hg, vl, p, rfl, hb3, ho3, hup⟩)
    · have HB3 := Lib.hid (HB2.out.trans (hb3.mono HB2.out.size))
      clear hb3
      have hz3 := HB3.out.size
      have hn0 : (n == 0) = false := by rw [beq_eq_false_iff_ne]; omega
      have hn00 : n ≠ 0 := by omega
      have hz33 : (zer 33).length = 33 := zer_length _
      generalize zer 33 = x at hz33 ⊢
      have hbb : Below w.heap.size w (w3.alloc (.cells (vb x).toArray 27)) := HB3.out.alloc hz3 _
      have HBB := Lib.hid hbb
      clear hbb
      go_wp2_with (first
        | (refine wp_alloc_row zero_id rfl rfl ?_)
        | (refine wp_fill_id rfl _ _ rfl rfl (by first | rfl | simp [Act.eval, Act.put]) x hz33 (by first | rfl | simp [Act.eval, Act.put]) ?_))
      go_ret
      exact ⟨rfl, HBB.out⟩
    · have HB3 := Lib.hid (HB2.out.trans (hb3.mono HB2.out.size))
      have hz3 := HB3.out.size
      have hfew := hg.few
      have hoa := obsA_few (nmK k) ps hfew
      have hol := obsA_len (nmK k) ps
      obtain ⟨L, hL⟩ : ∃ L, (obsA (nmK k) ps).length = L := ⟨_, rfl⟩
      obtain ⟨A2, c2, e2, _, _⟩ := (ho3.rwIn kind_ob).len
      subst e2
      rw [hL] at hol hoa ⊢
      obtain ⟨R0, hR0⟩ : ∃ R0, max ((ps.length + 3) / 4) 1 = R0 := ⟨_, rfl⟩
      rw [hR0] at hol
      have HOL := Lib.hid hol
      have hR1 : 1 ≤ R0 ∧ R0 ≤ 65 := by omega
      have hx33 : p.2.1.length = 33 := p.2.2
      obtain ⟨x, hx⟩ : ∃ x, p.2.1 = x := ⟨_, rfl⟩
      rw [hx] at hx33 ⊢
      have HBB : Hid (Below w.heap.size w (w3.alloc (.cells (vb x).toArray 27))) := HB3.out.alloc hz3 _
      obtain ⟨m, hm⟩ : ∃ m, ps.length = m := ⟨_, rfl⟩
      rw [hm] at hl hm1 hfew hR0 ⊢
      have hq : max (((m : Int) + 3) / 4) 1 = (R0 : Int) := by
        have h1 : ((m : Int) + 3) / 4 = (((m + 3) / 4 : Nat) : Int) := by omega
        rw [h1, ← hR0]
        rcases Nat.le_total ((m + 3) / 4) 1 with h9 | h9
        · rw [Nat.max_eq_right h9, Int.max_eq_right (by omega)]
          rfl
        · rw [Nat.max_eq_left h9, Int.max_eq_left (by omega)]
      have HQ := Lib.hid hq
      clear hq
      clear hb3 ho3 hup hol hx hL hm hR0
      go_wp2_with (first
        | (refine wp_alloc_row zero_id rfl rfl ?_)
        | (refine wp_fill_id rfl _ _ rfl rfl (by first | rfl | simp [Act.eval, Act.put]) x hx33 (by first | rfl | simp [Act.eval, Act.put]) ?_))
      rw [HQ.out]
      go_loopw [8, 9] (fun r n wr => ∃ R N : Nat, r = .int .i64 R ∧ n = .int .i64 N ∧ Hid (N + climb R = L) ∧ 1 ≤ R ∧ R ≤ 80 ∧ N ≤ 200 ∧ Hid (Below w.heap.size w wr)) (fun r _ _ => (intOf r).toNat)
      case atStart => exact ⟨R0, R0, rfl, rfl, HOL.out.symm, hR1.1, by omega, by omega, HBB.out⟩
      case round =>
        obtain ⟨R, N, rfl, rfl, hcl, hR1, hR2, hN, hbl⟩ := hrel
        by_cases hR : R ≤ 1
        · have hNL : N = L := by
            have h9 := hcl.out
            rw [climb_one hR] at h9
            omega
          subst hNL
          have hRi : ¬ (1 : Int) < R := by omega
          go_wp2_with fail
          go_ret
          exact ⟨rfl, hbl.out⟩
        · have hRi : (1 : Int) < R := by omega
          have hcm := climb_more hR
          obtain ⟨R2, hR2'⟩ : ∃ R2, (R + 2) / 3 = R2 := ⟨_, rfl⟩
          have hd : ((R : Int) + 2) / 3 = (R2 : Int) := by omega
          have hclx := hcl.out
          rw [hcm, hR2'] at hclx
          have HCL : Hid ((N + R2) + climb R2 = L) := by unfold Hid; omega
          have hR2a : 1 ≤ R2 ∧ R2 < R := by omega
          clear hcm hclx hcl hR2'
          have hNL : N + R2 ≤ L := by have := HCL.out; omega
          have hwr : IntKind.i64.wrap ((N : Int) + ((R : Int) + 2) / 3) = (N : Int) + ((R : Int) + 2) / 3 := by rw [IntKind.wrap_i64]; omega
          go_wp2_with fail
          go_roundw
          case rel => exact ⟨R2, N + R2, by go_num, by go_num, HCL.out, hR2a.1, by omega, by omega, hbl.out⟩
          case measure => simp [intOf]; omega

end Go.Proofs.YthbahbcihaebeaaDoor.Cd

namespace Go.Proofs.YthbahbcihaebeaaDoor.TreeCounts
open Go.RowKit Go.Proofs.YthbahbcihaebeaaDoor.Cd

theorem walk (a0 : Int) (v1 : Value) (l : List Bp) (w : World) (hk : KeysIs keysL w) (w0 : (Lit.int .u8 a0).wf = true) (h : PsIn w w.heap.size v1 l ∧ ∀ p ∈ l, FitP p) : Calls Tryd.prog 4 #[.int .u8 a0, v1] w (Gives (.bool true) w) :=
  counts_walk a0 v1 l w hk w0 h.1

end Go.Proofs.YthbahbcihaebeaaDoor.TreeCounts
