/-
  A node in a box of the call's own, whose lists grow: rows of texts, a row of numbers. Conditions: none.
-/
import Derived.Test.YtjilkpgbojjnfaaLeafGood
import Derived.Test.YtjilkpgbojjnfaaLeafDec
import Derived.Test.YtjilkpgbojjnfaaTwoRows
namespace Go.Proofs.Ytjilkpgbojjnfaa.Cd
open Go.RowKit

/-! ### Rows of numbers -/

def vis (l : List Int) : List Value := l.map vint
theorem vis_length (l : List Int) : (vis l).length = l.length := by simp [vis]
theorem vis_append (a b : List Int) : vis (a ++ b) = vis a ++ vis b := by simp [vis]
theorem vis_one (l : List Int) : ∀ u ∈ vis l, u.oneCell' = true := by
  intro u hu
  simp only [vis, List.mem_map] at hu
  obtain ⟨b, _, rfl⟩ := hu
  rfl
theorem info_int : (Try.prog.info? 3).map (fun i => (i.zero, i.size, i.bytes)) = some (some (.int .i64 0), 1, 8) := by kernel_rfl

/-- A row of numbers of the call's own. -/
def OwnI (w : World) (B : Nat) (v : Value) (l : List Int) : Prop := w.ownsRow B 3 1 v l.length (vis l)
theorem OwnI.nil (w : World) (B : Nat) : OwnI w B (.slice none 0 0) [] := World.ownsRow_nil _ _ _ _
theorem OwnI.keep {w w' : World} {B : Nat} {v : Value} {l : List Int} (h : OwnI w B v l) (hb : Below w.heap.size w w') : OwnI w' B v l :=
  World.ownsRow.kept h (row := none) ⟨hb.os, hb.tape, hb.output, hb.size, fun k hk _ => hb.block k hk⟩ (by
    cases v.ownBlock
    · exact .inl rfl
    · exact .inr (by simp))
theorem OwnI.far {w w' : World} {B g : Nat} {v : Value} {l : List Int} (h : OwnI w B v l) (hg : w.grownBy w' (some g)) (hlt : g < B) : OwnI w' B v l :=
  World.ownsRow.kept h hg (by
    cases hv : v.ownBlock with
    | none => exact .inl rfl
    | some k => exact .inr fun e => by injection e with e; have := (World.ownsRow.lt h k hv).1; omega)
theorem OwnI.flat {w : World} {B : Nat} {v : Value} {l : List Int} (h : OwnI w B v l) : Flat vint w w.heap.size v l := by
  have hlt := World.ownsRow.lt h
  have hc := fun g hg => World.ownsRow.cells h (g := g) hg
  rcases h.2 with ⟨rfl, h0⟩ | ⟨g, cap, cur, rfl, _, hg, hn, hm, _, _⟩
  · have : l = [] := List.eq_nil_of_length_eq_zero h0
    subst this
    exact ⟨none, 0, rfl, by simp, by simp, fun h => by simp at h⟩
  · refine ⟨_, cap, rfl, hn, hm, fun _ => ⟨g, 0, rfl, (hlt g rfl).2, fun j hj => ?_⟩⟩
    have := hc g rfl j (vint l[j]) (by simp [vis, hj])
    rwa [Addr.add_lit] at this

theorem run_append_int1 (w : World) (B : Nat) (v : Value) (l : List Int) (ho : OwnI w B v l) (hB : B ≤ w.heap.size) (b off c : Nat) (s : Int) (hx : w.cell? ⟨b, off, none⟩ = some (vint s))
    (hm : l.length + 1 ≤ 8796093022208) (ty : TypeId) :
    ∃ v' w', (Builtin.append_ #[23, 23] ty #[v, .slice (some ⟨b, off, none⟩) 1 c]).run Try.prog w = .ok v' w' ∧ OwnI w' B v' (l ++ [s]) ∧ w.grownBy w' v.ownBlock ∧ Below B w w' := by
  obtain ⟨i0, hi, hz0, hz1, hz2⟩ := info_parts info_int
  have hmax : l.length + 1 ≤ maxLen := by simp only [maxLen]; omega
  have hnews : ∀ j u, (vis [s])[j]? = some u → w.cell? ((⟨b, off, none⟩ : Addr).add j) = some u := fun j u hu => by
    have hj := (List.getElem?_eq_some_iff.1 hu).1
    rw [vis_length] at hj
    obtain rfl : j = 0 := by simp at hj; omega
    rw [Addr.add_lit]
    simp [vis] at hu
    rw [← hu]
    exact hx
  obtain ⟨v', w', hr, h2, h3, h4⟩ := run_append_own (P := Try.prog) w B 23 ty 3 i0 _ 1 8 Try.underlying23 hi hz0 hz1 hz2 rfl (by omega) v l.length (vis l) ho ⟨b, off, none⟩ 1 c (vis [s]) rfl hnews (vis_one [s]) hmax (by omega) hB
  refine ⟨v', w', hr, ?_, h3, (Below.refl _ _).grown h3 hB (fun k hk => (World.ownsRow.lt ho k hk).1)⟩
  unfold OwnI
  rw [vis_append, List.length_append]
  exact h2

theorem wp_append_int1 {w : World} {ops : Array Oper} {rest : List Oper} {o : Oper} {a : Act} {Q : Exit → Act → World → Prop} (hgd : o.guard = none) (s x : Operand)
    (hop : o.op = .call { callee := .builtin .append, args := #[s, x], argTypes := #[23, 23] })
    (B : Nat) (v : Value) (l : List Int) (hs : a.eval s = v) (ho : OwnI w B v l) (hB : B ≤ w.heap.size) (b off c : Nat) (t : Int) (hx : a.eval x = .slice (some ⟨b, off, none⟩) 1 c)
    (hc : w.cell? ⟨b, off, none⟩ = some (vint t)) (hm : l.length + 1 ≤ 8796093022208)
    (hK : ∀ v' w', OwnI w' B v' (l ++ [t]) → w.grownBy w' v.ownBlock → Below B w w' → wpList Try.prog ops Q rest (a.put o.dst v') w') : wpList Try.prog ops Q (o :: rest) a w := by
  refine wpList_plain hgd fun K hK' => ?_
  obtain ⟨v', w', hrun, r1, r2, r3⟩ := run_append_int1 w B v l ho hB b off c t hc hm o.type
  unfold Oper.wp
  simp [execOp, hop, resolve, invoke, builtin, hs, hx, hrun, Result.andThen]
  exact hK' _ _ (hK v' w' r1 r2 r3)
theorem step_append_int1 {w : World} {ops : Array Oper} {o : Oper} {a : Act} {K : Act → World → Prop} {Q : Exit → Act → World → Prop} {E : Prop} (hgd : o.guard = none) (s x : Operand)
    (hop : o.op = .call { callee := .builtin .append, args := #[s, x], argTypes := #[23, 23] })
    (B : Nat) (v : Value) (l : List Int) (hs : a.eval s = v) (ho : OwnI w B v l) (hB : B ≤ w.heap.size) (b off c : Nat) (t : Int) (hx : a.eval x = .slice (some ⟨b, off, none⟩) 1 c)
    (hc : w.cell? ⟨b, off, none⟩ = some (vint t)) (hm : l.length + 1 ≤ 8796093022208)
    (h : ∀ v' w', OwnI w' B v' (l ++ [t]) → w.grownBy w' v.ownBlock → Below B w w' → K (a.put o.dst v') w') : if Region.wanted o (yielded ops a.tmps) = true then Oper.wp Try.prog o a w K Q else E := by
  have hw : Region.wanted o (yielded ops a.tmps) = true := by simp [Region.wanted, hgd]
  rw [if_pos hw]
  obtain ⟨v', w', hrun, r1, r2, r3⟩ := run_append_int1 w B v l ho hB b off c t hc hm o.type
  unfold Oper.wp
  simp [execOp, hop, resolve, invoke, builtin, hs, hx, hrun, Result.andThen]
  exact h v' w' r1 r2 r3

/-! ### The box -/

section
variable {w w' : World} {G : Nat} {b : Bool} {vk vv vi : Value}
theorem Bx.set1 (h : Bx w G b vk vv vi) (v : Value) : Bx (w.setCell ⟨G, 1, none⟩ v) G b v vv vi := by
  unfold Bx at h ⊢
  simp [World.setCell, Array.getElem?_modify, h]
theorem Bx.set2 (h : Bx w G b vk vv vi) (v : Value) : Bx (w.setCell ⟨G, 2, none⟩ v) G b vk v vi := by
  unfold Bx at h ⊢
  simp [World.setCell, Array.getElem?_modify, h]
theorem Bx.set3 (h : Bx w G b vk vv vi) (v : Value) : Bx (w.setCell ⟨G, 3, none⟩ v) G b vk vv v := by
  unfold Bx at h ⊢
  simp [World.setCell, Array.getElem?_modify, h]
theorem Bx.other (h : Bx w G b vk vv vi) (p : Addr) (u : Value) (hne : G ≠ p.block) : Bx (w.setCell p u) G b vk vv vi := (heap_setCell_other _ _ _ _ hne).trans h
theorem Rd.other {g : Nat} {bs : List UInt8} {bad : Bool} (h : Rd w g bs bad) (p : Addr) (u : Value) (hne : g ≠ p.block) : Rd (w.setCell p u) g bs bad := (heap_setCell_other _ _ _ _ hne).trans h
theorem Rd.on {g : Nat} {bs : List UInt8} {bad : Bool} (h : Rd w g bs bad) (hb : Below w.heap.size w w') : Rd w' g bs bad := h.below hb h.lt
theorem grown_on {w0 : World} {r : Option Nat} (h : w0.grownBy w r) (hb : Below w.heap.size w w') : w0.grownBy w' r :=
  ⟨hb.os.trans h.os, hb.tape.trans h.tape, hb.output.trans h.output, Nat.le_trans h.size hb.size, fun k hk hn => (hb.block k (Nat.lt_of_lt_of_le hk h.size)).trans (h.block k hk hn)⟩
theorem Bx.frozen (h : Bx w G b vk vv vi) (i : Nat) : w.frozen? ⟨G, i, none⟩ = false := by
  unfold Bx at h
  simp [World.frozen?, h]
theorem Bx.far {g : Nat} (h : Bx w G b vk vv vi) (hg : w.grownBy w' (some g)) (hne : G ≠ g) : Bx w' G b vk vv vi := (hg.block G h.lt (fun e => hne (by injection e))).trans h
end

/-- The lists of a node that is being read: the texts in rows of the call's own from B on, behind the box. -/
structure Grow (w : World) (G B : Nat) (n : Nd) (vk vv vi : Value) : Prop where
  box : Bx w G n.leaf vk vv vi
  low : G < B
  top : B ≤ w.heap.size
  keys : OwnS w B vk n.keys
  vals : OwnS w B vv n.vals
  two : TwoBlocks vv vk

section
variable {w w' : World} {G B : Nat} {n : Nd} {vk vv vi : Value}
theorem OwnS.put {v : Value} {l : List (List UInt8)} (h : OwnS w B v l) (p : Addr) (u : Value) (hp : p.block < B) : OwnS (w.setCell p u) B v l :=
  World.ownsRow.kept h (row := some p.block) ⟨rfl, rfl, rfl, by simp, fun k _ hk => heap_setCell_other _ _ _ _ (fun e => hk (by rw [e]))⟩ (by
    cases hv : v.ownBlock with
    | none => exact .inl rfl
    | some k => exact .inr fun e => by injection e with e; have := (World.ownsRow.lt h k hv).1; omega)
theorem OwnI.put {v : Value} {l : List Int} (h : OwnI w B v l) (p : Addr) (u : Value) (hp : p.block < B) : OwnI (w.setCell p u) B v l :=
  World.ownsRow.kept h (row := some p.block) ⟨rfl, rfl, rfl, by simp, fun k _ hk => heap_setCell_other _ _ _ _ (fun e => hk (by rw [e]))⟩ (by
    cases hv : v.ownBlock with
    | none => exact .inl rfl
    | some k => exact .inr fun e => by injection e with e; have := (World.ownsRow.lt h k hv).1; omega)
theorem Grow.far {g : Nat} (h : Grow w G B n vk vv vi) (hg : w.grownBy w' (some g)) (hlt : g < G) : Grow w' G B n vk vv vi :=
  ⟨h.box.far hg (by omega), h.low, Nat.le_trans h.top hg.size, h.keys.far hg (by have := h.low; omega), h.vals.far hg (by have := h.low; omega), h.two⟩
theorem Grow.on (h : Grow w G B n vk vv vi) (hb : Below w.heap.size w w') : Grow w' G B n vk vv vi :=
  ⟨h.box.on hb, h.low, Nat.le_trans h.top hb.size, h.keys.keep hb, h.vals.keep hb, h.two⟩
theorem Grow.drew (h : Grow w G B n vk vv vi) : Grow w.drew G B n vk vv vi := h.on (Below.refl _ _).drew
theorem Grow.alloc (h : Grow w G B n vk vv vi) (o : Obj) : Grow (w.alloc o) G B n vk vv vi := h.on (new_below w o)
/-- Behind an append of a key. -/
theorem Grow.key {v' : Value} {s : List UInt8} (h : Grow w G B n vk vv vi) (hb : Below B w w') (hk : OwnS w' B v' (n.keys ++ [s])) (hv : OwnS w' B vv n.vals) (ht : TwoBlocks vv v') :
    Grow (w'.setCell ⟨G, 1, none⟩ v') G B ⟨n.leaf, n.keys ++ [s], n.vals, n.kids⟩ v' vv vi :=
  ⟨(h.box.below hb h.low).set1 _, h.low, by rw [World.size_setCell]; exact Nat.le_trans h.top hb.size, hk.put _ _ h.low, hv.put _ _ h.low, ht⟩
theorem Grow.val {v' : Value} {s : List UInt8} (h : Grow w G B n vk vv vi) (hb : Below B w w') (hv : OwnS w' B v' (n.vals ++ [s])) (hk : OwnS w' B vk n.keys) (ht : TwoBlocks vk v') :
    Grow (w'.setCell ⟨G, 2, none⟩ v') G B ⟨n.leaf, n.keys, n.vals ++ [s], n.kids⟩ vk v' vi :=
  ⟨(h.box.below hb h.low).set2 _, h.low, by rw [World.size_setCell]; exact Nat.le_trans h.top hb.size, hk.put _ _ h.low, hv.put _ _ h.low, ht.symm⟩
theorem apart_si {v u : Value} {l : List (List UInt8)} {m : List Int} (h : OwnS w B v l) (k : OwnI w B u m) : v.ownBlock = none ∨ v.ownBlock ≠ u.ownBlock := by
  rcases h.2 with ⟨rfl, _⟩ | ⟨g, cap, cur, rfl, _, hg, _⟩
  · exact .inl rfl
  · rcases k.2 with ⟨rfl, _⟩ | ⟨g2, cap2, cur2, rfl, _, hg2, _⟩
    · exact .inr (by simp [Value.ownBlock])
    · refine .inr fun e => ?_
      have e : some g = some g2 := e
      injection e with e
      subst e
      rw [hg] at hg2
      simp at hg2
/-- Behind an append of a kid. -/
theorem Grow.kid {v' : Value} {m : List Int} (h : Grow w G B n vk vv vi) (hk : OwnI w B vi m) (hg : w.grownBy w' vi.ownBlock) (hb : Below B w w') (l : List Int) :
    Grow (w'.setCell ⟨G, 3, none⟩ v') G B ⟨n.leaf, n.keys, n.vals, l⟩ vk vv v' :=
  ⟨(h.box.below hb h.low).set3 _, h.low, by rw [World.size_setCell]; exact Nat.le_trans h.top hb.size, OwnS.put (World.ownsRow.kept h.keys hg (apart_si h.keys hk)) _ _ h.low, OwnS.put (World.ownsRow.kept h.vals hg (apart_si h.vals hk)) _ _ h.low, h.two⟩
theorem Bx.set0 {b : Bool} (h : Bx w G b vk vv vi) (c : Bool) : Bx (w.setCell ⟨G, 0, none⟩ (.bool c)) G c vk vv vi := by
  unfold Bx at h ⊢
  simp [World.setCell, Array.getElem?_modify, h]
/-- A node stored whole. -/
theorem Bx.whole {b : Bool} (h : Bx w G b vk vv vi) (c : Bool) (x y z : Value) : Bx ((((w.setCell ⟨G, 0, none⟩ (.bool c)).setCell ⟨G, 1, none⟩ x).setCell ⟨G, 2, none⟩ y).setCell ⟨G, 3, none⟩ z) G c x y z := (((h.set0 c).set1 x).set2 y).set3 z
theorem node_load {b : Bool} (h : Bx w G b vk vv vi) : (loadVar 25 ⟨G, 0, none⟩).run Try.prog w = .ok (.agg #[.bool b, vk, vv, vi]) w :=
  run_loadVar_row (P := Try.prog) w G _ _ _ (0, 0) _ h Try.underlying25 rfl (by kernel_rfl)
/-- What was there, but for the reader and the box, stays. -/
theorem grown_box {w0 w1 : World} {g : Nat} (h : w0.grownBy w (some g)) (hb : Below B w w1) (hB : w0.heap.size ≤ G) (hG : G < B) (hBw : B ≤ w.heap.size) (i : Nat) (v : Value) : w0.grownBy (w1.setCell ⟨G, i, none⟩ v) (some g) :=
  ⟨hb.os.trans h.os, hb.tape.trans h.tape, hb.output.trans h.output, by rw [World.size_setCell]; exact Nat.le_trans h.size hb.size, fun k hk hn => by
    rw [heap_setCell_other _ _ _ _ (by show k ≠ G; omega)]
    exact (hb.block k (by omega)).trans (h.block k hk hn)⟩
end

theorem grown_drew {w w' : World} {r : Option Nat} (h : w.grownBy w' r) : w.grownBy w'.drew r := ⟨h.os, h.tape, h.output, h.size, h.block⟩

theorem result_node {fn : Func} {p : Tmp} (h : fn.results = #[.cell p 25]) (tmps : Array Value) (w : World) (g : Nat) (b : Bool) (vk vv vi : Value)
    (hp : tmps.getD p undef = .pointer (some ⟨g, 0, none⟩)) (hg : Bx w g b vk vv vi) :
    (results fn tmps).run Try.prog w = .ok (.agg #[.bool b, vk, vv, vi]) w :=
  results_cell_row h tmps w g _ _ (0, 0) _ hp hg Try.underlying25 rfl (by kernel_rfl)
theorem results_node {fn : Func} {p u : Tmp} (h : fn.results = #[.cell p 25, .tmp u]) (tmps : Array Value) (w : World) (g : Nat) (b : Bool) (vk vv vi r : Value)
    (hp : tmps.getD p undef = .pointer (some ⟨g, 0, none⟩)) (hr : tmps.getD u undef = r) (hg : Bx w g b vk vv vi) :
    (results fn tmps).run Try.prog w = .ok (.tuple #[.agg #[.bool b, vk, vv, vi], r]) w := by
  rw [results_cell_tmp h, hp, hr]
  simp [asAddr, Result.andThen, run_loadVar_row (P := Try.prog) w g _ _ _ (0, 0) _ hg Try.underlying25 rfl (by kernel_rfl)]

/-- Behind the store of the whole: what else was there stays. -/
theorem grown_whole {w0 w : World} {g G : Nat} (h : w0.grownBy w (some g)) (hG : w0.heap.size ≤ G) (a b c d : Value) : w0.grownBy ((((w.setCell ⟨G, 0, none⟩ a).setCell ⟨G, 1, none⟩ b).setCell ⟨G, 2, none⟩ c).setCell ⟨G, 3, none⟩ d) (some g) :=
  ⟨h.os, h.tape, h.output, by simp only [World.size_setCell]; exact h.size, fun k hk hn => by
    rw [heap_setCell_other _ _ _ _ (by show k ≠ G; omega), heap_setCell_other _ _ _ _ (by show k ≠ G; omega), heap_setCell_other _ _ _ _ (by show k ≠ G; omega), heap_setCell_other _ _ _ _ (by show k ≠ G; omega)]
    exact h.block k hk hn⟩
theorem Rd.whole {w : World} {g G : Nat} {bs : List UInt8} {bad : Bool} (h : Rd w g bs bad) (hne : g ≠ G) (a b c d : Value) : Rd ((((w.setCell ⟨G, 0, none⟩ a).setCell ⟨G, 1, none⟩ b).setCell ⟨G, 2, none⟩ c).setCell ⟨G, 3, none⟩ d) g bs bad :=
  (((h.other _ _ hne).other _ _ hne).other _ _ hne).other _ _ hne
theorem OwnS.whole {w : World} {B G : Nat} {v : Value} {l : List (List UInt8)} (h : OwnS w B v l) (hG : G < B) (a b c d : Value) : OwnS ((((w.setCell ⟨G, 0, none⟩ a).setCell ⟨G, 1, none⟩ b).setCell ⟨G, 2, none⟩ c).setCell ⟨G, 3, none⟩ d) B v l :=
  (((h.put _ _ hG).put _ _ hG).put _ _ hG).put _ _ hG
theorem OwnI.whole {w : World} {B G : Nat} {v : Value} {l : List Int} (h : OwnI w B v l) (hG : G < B) (a b c d : Value) : OwnI ((((w.setCell ⟨G, 0, none⟩ a).setCell ⟨G, 1, none⟩ b).setCell ⟨G, 2, none⟩ c).setCell ⟨G, 3, none⟩ d) B v l :=
  (((h.put _ _ hG).put _ _ hG).put _ _ hG).put _ _ hG
/-- A node of the call's own: its lists lie in rows from B on. -/
def NodeF (w : World) (B : Nat) (v : Value) (n : Nd) : Prop := ∃ vk vv vi, v = .agg #[.bool n.leaf, vk, vv, vi] ∧ OwnS w B vk n.keys ∧ OwnS w B vv n.vals ∧ OwnI w B vi n.kids
section
variable {w w' : World} {B : Nat} {v : Value} {n : Nd}
theorem NodeF.node (h : NodeF w B v n) : Node w w.heap.size v n := by
  obtain ⟨vk, vv, vi, h1, h2, h3, h4⟩ := h
  exact ⟨vk, vv, vi, h1, h2.strs, h3.strs, h4.flat⟩
theorem NodeF.keep (h : NodeF w B v n) (hb : Below w.heap.size w w') : NodeF w' B v n := by
  obtain ⟨vk, vv, vi, h1, h2, h3, h4⟩ := h
  exact ⟨vk, vv, vi, h1, h2.keep hb, h3.keep hb, h4.keep hb⟩
theorem NodeF.put (h : NodeF w B v n) (p : Addr) (u : Value) (hp : p.block < B) : NodeF (w.setCell p u) B v n := by
  obtain ⟨vk, vv, vi, h1, h2, h3, h4⟩ := h
  exact ⟨vk, vv, vi, h1, h2.put p u hp, h3.put p u hp, h4.put p u hp⟩
theorem NodeF.far {g : Nat} (h : NodeF w B v n) (hg : w.grownBy w' (some g)) (hlt : g < B) : NodeF w' B v n := by
  obtain ⟨vk, vv, vi, h1, h2, h3, h4⟩ := h
  exact ⟨vk, vv, vi, h1, h2.far hg hlt, h3.far hg hlt, h4.far hg hlt⟩
theorem OwnI.lower {B' : Nat} {l : List Int} (h : OwnI w B v l) (hB : B' ≤ B) : OwnI w B' v l := by
  refine ⟨h.1, ?_⟩
  rcases h.2 with h2 | ⟨g, cap, cur, hv, hg, r⟩
  · exact .inl h2
  · exact .inr ⟨g, cap, cur, hv, Nat.le_trans hB hg, r⟩
theorem NodeF.lower {B' : Nat} (h : NodeF w B v n) (hB : B' ≤ B) : NodeF w B' v n := by
  obtain ⟨vk, vv, vi, h1, h2, h3, h4⟩ := h
  exact ⟨vk, vv, vi, h1, h2.lower hB, h3.lower hB, h4.lower hB⟩
theorem NodeF.whole (h : NodeF w B v n) {G : Nat} (hG : G < B) (a b c d : Value) : NodeF ((((w.setCell ⟨G, 0, none⟩ a).setCell ⟨G, 1, none⟩ b).setCell ⟨G, 2, none⟩ c).setCell ⟨G, 3, none⟩ d) B v n :=
  (((h.put _ _ hG).put _ _ hG).put _ _ hG).put _ _ hG
/-- Its parts as slices. -/
theorem NodeF.len (h : NodeF w B v n) : ∃ A c A2 c2 A3 c3, v = .agg #[.bool n.leaf, .slice A n.keys.length c, .slice A2 n.vals.length c2, .slice A3 n.kids.length c3] := by
  obtain ⟨vk, vv, vi, rfl, h2, h3, h4⟩ := h
  obtain ⟨A, c, rfl, _⟩ := h2.strs.len
  obtain ⟨A2, c2, rfl, _⟩ := h3.strs.len
  obtain ⟨A3, c3, rfl, _⟩ := h4.flat.len
  exact ⟨A, c, A2, c2, A3, c3, rfl⟩
end
theorem nodeF_bare (b : Bool) (w : World) (B : Nat) : NodeF w B (.agg #[.bool b, .slice none 0 0, .slice none 0 0, .slice none 0 0]) ⟨b, [], [], []⟩ := ⟨_, _, _, rfl, OwnS.nil _ _, OwnS.nil _ _, OwnI.nil _ _⟩
/-- The node in the box, when it is handed out. -/
theorem Grow.node {w : World} {G B R : Nat} {n : Nd} {vk vv vi : Value} (h : Grow w G B n vk vv vi) (hi : OwnI w B vi n.kids) (hR : R < B) (a b c d : Value) :
    NodeF ((((w.setCell ⟨R, 0, none⟩ a).setCell ⟨R, 1, none⟩ b).setCell ⟨R, 2, none⟩ c).setCell ⟨R, 3, none⟩ d) B (.agg #[.bool n.leaf, vk, vv, vi]) n :=
  ⟨vk, vv, vi, rfl, h.keys.whole hR a b c d, h.vals.whole hR a b c d, hi.whole hR a b c d⟩

theorem strs_nil (w : World) (B : Nat) : Strs w B (.slice none 0 0) [] := ⟨none, 0, rfl, by simp, by simp, fun _ => rfl, fun h => by simp at h⟩
theorem ints_nil (w : World) (B : Nat) : Flat vint w B (.slice none 0 0) [] := ⟨none, 0, rfl, by simp, by simp, fun h => by simp at h⟩
def zeroN : Nd := ⟨false, [], [], []⟩
theorem node_bare (b : Bool) (w : World) (B : Nat) : Node w B (.agg #[.bool b, .slice none 0 0, .slice none 0 0, .slice none 0 0]) ⟨b, [], [], []⟩ := ⟨_, _, _, rfl, strs_nil _ _, strs_nil _ _, ints_nil _ _⟩
/-- What Decode leaves. -/
def DecIs (w : World) (o : Option Nd) (r : Value) (e : Ending) (w' : World) : Prop := Below w.heap.size w w' ∧ ∃ y, e = .returned (.tuple #[y, r]) ∧ NodeF w' w.heap.size y (o.getD zeroN)
theorem below_whole {w0 w : World} {G : Nat} (h : Below w0.heap.size w0 w) (hG : w0.heap.size ≤ G) (a b c d : Value) : Below w0.heap.size w0 ((((w.setCell ⟨G, 0, none⟩ a).setCell ⟨G, 1, none⟩ b).setCell ⟨G, 2, none⟩ c).setCell ⟨G, 3, none⟩ d) :=
  (((h.setCell (p := ⟨G, 0, none⟩) hG _).setCell (p := ⟨G, 1, none⟩) hG _).setCell (p := ⟨G, 2, none⟩) hG _).setCell (p := ⟨G, 3, none⟩) hG _
theorem below_of_left {w0 w w' : World} {g : Nat} (h : Below w0.heap.size w0 w) (hg : w.grownBy w' (some g)) (hl : w0.heap.size ≤ g) : Below w0.heap.size w0 w' := below_of_grown h hg h.size hl
theorem stK_len (s : St) : (stK s).bs.length ≤ s.bs.length := by
  unfold stK
  split
  · exact Nat.le_trans (txB_len _ _) (txB_len _ _)
  · exact txB_len _ _
theorem itK_len (s : St) (k : Nat) : (itK s k).bs.length ≤ s.bs.length := by
  induction k with
  | zero => exact Nat.le_refl _
  | succ k ih => exact Nat.le_trans (stK_len _) ih
theorem itP_len (s : St) (k : Nat) : (itP s k).bs.length ≤ s.bs.length := by
  induction k with
  | zero => exact Nat.le_refl _
  | succ k ih => exact Nat.le_trans (uB_len _) ih

end Go.Proofs.Ytjilkpgbojjnfaa.Cd
