/-
  Maps of the program as functions: what a look-up, a store, a delete and len do. Conditions: none.
-/
import Derived.Test.YthbahbcihaebeaaDoorG3
import Derived.Maps.OwnSet
import Derived.DeepKeys4
import Derived.Deep.MidRow
namespace Go.Proofs.YthbahbcihaebeaaDoor.Cd
open Go.RowKit Go.Maps

theorem laid_out : laidOutB Tryd.prog = true := by kernel_rfl

/-- A kind of maps: how keys and elements are values. -/
structure MKind (κ ν : Type) where
  T : TypeId
  K : TypeId
  E : TypeId
  R : Value → Option (DataW Unit × List MemPlace)
  key : κ → Value
  ok : κ → Prop
  lit : κ → Lit
  val : ν → Value
  okv : ν → Prop
  dat : ν → DataW Unit
  z0 : ν
  law : Keyed Tryd.prog K
  under : Tryd.prog.underlying T = some (.map K E)
  keyed : ∀ {x}, ok x → keyOf Tryd.prog K (key x) = some (lit x)
  one : ∀ {x y}, key x = key y → x = y
  read : ∀ {v}, okv v → R (val v) = some (dat v, [])
  inv : ∀ {u v ps}, R u = some (dat v, ps) → u = val v ∧ okv v
  okz : okv z0
  zero : ∀ w, (zeroValue E).run Tryd.prog w = .ok (val z0) w

section
variable {κ ν : Type} (M : MKind κ ν)

theorem MKind.lit_one {x y : κ} (hx : M.ok x) (hy : M.ok y) (h : M.lit x = M.lit y) : x = y :=
  M.one (M.law.inj (M.keyed hx) (by rw [h]; exact M.keyed hy))

/-- Block b is a map of n entries: the function q. -/
def MapF (w : World) (b n : Nat) (q : κ → Option ν) : Prop :=
  ∃ D : DataW Unit, w.ownsMap Tryd.prog M.K M.R b n D ∧ Maps.size D = n ∧ ∀ x, M.ok x → ∀ z, D.atKey (M.lit x) z = ((q x).map M.dat).getD z

variable {M} {w : World} {b n : Nat} {q : κ → Option ν}

theorem MapF.lt (h : MapF M w b n q) : b < w.heap.size := h.elim fun _ hD => hD.1.lt
theorem MapF.heap {w' : World} (h : MapF M w b n q) (hb : w'.heap[b]? = w.heap[b]?) : MapF M w' b n q := by
  obtain ⟨D, ⟨es, clock, h1, h2⟩, h3⟩ := h
  exact ⟨D, ⟨es, clock, hb.trans h1, h2⟩, h3⟩
theorem MapF.grown {w' : World} {r : Option Nat} (h : MapF M w b n q) (hg : w.grownBy w' r) (hne : some b ≠ r) : MapF M w' b n q := h.heap (hg.block b h.lt hne)
theorem MapF.apart {w' : World} {S : Nat → Prop} (h : MapF M w b n q) (hg : Apart S w w') (hne : ¬ S b) : MapF M w' b n q := h.heap (hg.block b h.lt hne)
theorem MapF.below {w' : World} {B : Nat} (h : MapF M w b n q) (hg : Below B w w') (hlt : b < B) : MapF M w' b n q := h.heap (hg.block b hlt)
theorem MapF.alloc (h : MapF M w b n q) (o : Obj) : MapF M (w.alloc o) b n q := h.grown (World.grownBy_alloc w o none) (by simp)
theorem MapF.drew (h : MapF M w b n q) : MapF M w.drew b n q := h
theorem MapF.setCell (h : MapF M w b n q) {a : Addr} (ha : b ≠ a.block) (u : Value) : MapF M (w.setCell a u) b n q := by
  obtain ⟨D, h1, h2⟩ := h
  exact ⟨D, h1.setCell ha u, h2⟩
theorem MapF.congr {q' : κ → Option ν} (h : MapF M w b n q) (hq : ∀ x, M.ok x → q' x = q x) : MapF M w b n q' := by
  obtain ⟨D, h1, h2, h3⟩ := h
  exact ⟨D, h1, h2, fun x hx z => by rw [hq x hx]; exact h3 x hx z⟩

theorem MapF.made (M : MKind κ ν) (w : World) : MapF M (w.alloc (.map #[] 0)) w.heap.size 0 (fun _ => none) :=
  ⟨_, World.ownsMap_made w Tryd.prog M.K M.R, rfl, fun _ _ _ => rfl⟩

theorem MapF.val (h : MapF M w b n q) {x : κ} (_hx : M.ok x) {u : Value} {ps : List MemPlace} {D : DataW Unit} (hD : ∀ z, D.atKey (M.lit x) z = ((q x).map M.dat).getD z)
    (hu : M.R u = some (D.atKey (M.lit x) (M.dat M.z0), ps)) : u = M.val ((q x).getD M.z0) := by
  have := h
  rw [hD] at hu
  cases hq : q x with
  | none => rw [hq] at hu; exact (M.inv hu).1
  | some v => rw [hq] at hu; exact (M.inv hu).1

theorem MapF.okv (h : MapF M w b n q) {x : κ} (hx : M.ok x) {v : ν} (hv : q x = some v) : M.okv v := by
  obtain ⟨D, h1, _, h3⟩ := h
  obtain ⟨u, ps, _, hu⟩ := h1.lookup M.law M.under (M.zero w) (M.read M.okz) (M.keyed hx)
  rw [h3 x hx, hv] at hu
  exact (M.inv hu).2

theorem MapF.look (h : MapF M w b n q) {x : κ} (hx : M.ok x) : (Instr.lookup M.T (.map (some b)) (M.key x) false).run Tryd.prog w = .ok (M.val ((q x).getD M.z0)) w := by
  have h0 := h
  obtain ⟨D, h1, _, h3⟩ := h
  obtain ⟨u, ps, hr, hu⟩ := h1.lookup M.law M.under (M.zero w) (M.read M.okz) (M.keyed hx)
  rw [← h0.val hx (h3 x hx) hu]
  exact hr

theorem MapF.has {D : DataW Unit} {x : κ} (h : ∀ z, D.atKey (M.lit x) z = ((q x).map M.dat).getD z) : Maps.has D (M.lit x) = (q x).isSome := by
  cases hq : q x with
  | none => exact Maps.has_false_of_atKey fun z => by rw [h z, hq]; rfl
  | some v => exact Maps.has_true_of_atKey (y := M.dat v) fun z => by rw [h z, hq]; rfl

theorem MapF.look_ok (h : MapF M w b n q) {x : κ} (hx : M.ok x) :
    (Instr.lookup M.T (.map (some b)) (M.key x) true).run Tryd.prog w = .ok (.tuple #[M.val ((q x).getD M.z0), .bool (q x).isSome]) w := by
  have h0 := h
  obtain ⟨D, h1, _, h3⟩ := h
  obtain ⟨u, ps, hr, hu⟩ := h1.look_ok M.law M.under (M.zero w) (M.read M.okz) (M.keyed hx)
  rw [← h0.val hx (h3 x hx) hu, ← MapF.has (h3 x hx)]
  exact hr

theorem MapF.len (h : MapF M w b n q) (ty : TypeId) : (Builtin.len_ #[M.T] ty #[.map (some b)]).run Tryd.prog w = .ok (.int .i64 n) w := by
  obtain ⟨D, h1, h2, _⟩ := h
  rw [← h2]
  exact h1.len M.under ty

theorem ownsMap_tight {P : Program} {k : TypeId} {R : Value → Option (DataW Unit × List MemPlace)} {D : DataW Unit} (h : w.ownsMap P k R b n D) : w.ownsMap P k R b (Maps.size D) D := by
  obtain ⟨es, clock, h1, h2, h3, rfl⟩ := h
  exact ⟨es, clock, h1, h2, by simp [Maps.size, length_sorted], rfl⟩

/-- One place of a function is another. -/
def upd [DecidableEq κ] (q : κ → Option ν) (x : κ) (v : Option ν) : κ → Option ν := fun y => if y = x then v else q y

theorem MapF.store [DecidableEq κ] (h : MapF M w b n q) (hn : n < maxLen) {x : κ} (hx : M.ok x) {v : ν} (hv : M.okv v) :
    ∃ w', (Instr.mapUpdate M.T (.map (some b)) (M.key x) (M.val v)).run Tryd.prog w = .ok () w' ∧ MapF M w' b (n + if (q x).isSome = true then 0 else 1) (upd q x (some v)) ∧ w.mapTurned w' b := by
  obtain ⟨D, h1, h2, h3⟩ := h
  have ht := h1.tidy M.law
  have hk := M.law.key (M.keyed hx)
  obtain ⟨w', hr, r1, r2⟩ := h1.store M.law M.under hn (M.keyed hx) (M.read hv)
  have hs : Maps.size (D.put (M.lit x) (M.dat v)) = n + if (q x).isSome = true then 0 else 1 := by
    rw [Maps.size_put ht, MapF.has (h3 x hx), h2]
    split <;> rfl
  refine ⟨w', hr, ⟨_, ?_, hs, fun y hy z => ?_⟩, r2⟩
  · rw [← hs]
    exact ownsMap_tight r1
  · unfold upd
    by_cases e : y = x
    · subst e
      rw [if_pos rfl, Maps.atKey_put_same ht.isMap hk]
      rfl
    · rw [if_neg e, Maps.atKey_put_other (fun hl => e (M.lit_one hy hx hl))]
      exact h3 y hy z

theorem MapF.drop [DecidableEq κ] (h : MapF M w b n q) {x : κ} (hx : M.ok x) (ty : TypeId) :
    ∃ w', (Builtin.delete_ #[M.T, M.K] ty #[.map (some b), M.key x]).run Tryd.prog w = .ok (.tuple #[]) w' ∧ MapF M w' b (n - if (q x).isSome = true then 1 else 0) (upd q x none) ∧ w.mapTurned w' b := by
  obtain ⟨D, h1, h2, h3⟩ := h
  have ht := h1.tidy M.law
  obtain ⟨w', hr, r1, r2⟩ := h1.drop M.law M.under (M.keyed hx) ty
  have hs : Maps.size (D.del (M.lit x)) = n - if (q x).isSome = true then 1 else 0 := by
    have := Maps.size_del (k := M.lit x) ht
    rw [MapF.has (h3 x hx), h2] at this
    omega
  refine ⟨w', hr, ⟨_, ?_, hs, fun y hy z => ?_⟩, r2⟩
  · rw [← hs]
    exact ownsMap_tight r1
  · unfold upd
    by_cases e : y = x
    · subst e
      rw [if_pos rfl, Maps.atKey_del_same]
      rfl
    · rw [if_neg e, Maps.atKey_del_other (fun hl => e (M.lit_one hy hx hl))]
      exact h3 y hy z

end

/-! ### At the operation, for the walk -/
section
variable {κ ν : Type} [DecidableEq κ] {M : MKind κ ν} {w : World} {ops : Array Oper} {rest : List Oper} {o : Oper} {a : Act} {Q : Exit → Act → World → Prop} {b n : Nat} {q : κ → Option ν}

theorem wp_store (M : MKind κ ν) (hgd : o.guard = none) (m x v : Operand) (hop : o.op = Op.mapUpdate M.T m x v) (b n : Nat) (q : κ → Option ν) (hm : a.eval m = .map (some b)) (h : MapF M w b n q) (hn : n < maxLen)
    (k : κ) (hx : a.eval x = M.key k) (hok : M.ok k) (u : ν) (hv : a.eval v = M.val u) (hu : M.okv u) (n' : Nat) (hn' : (n + if (q k).isSome = true then 0 else 1) = n')
    (hK : ∀ w', MapF M w' b n' (upd q k (some u)) → w.grownBy w' (some b) → wpList Tryd.prog ops Q rest (a.put o.dst undef) w') : wpList Tryd.prog ops Q (o :: rest) a w := by
  subst hn'
  refine wpList_plain hgd fun K' hK' => ?_
  obtain ⟨w', hrun, r1, r2⟩ := h.store hn hok hu
  unfold Oper.wp
  simp [execOp, hop, hm, hx, hv, hrun, Result.andThen]
  exact hK' _ _ (hK w' r1 r2.grown)

theorem wp_drop (M : MKind κ ν) (hgd : o.guard = none) (m x : Operand) (hop : o.op = Op.call { callee := Callee.builtin Builtin.delete, args := #[m, x], argTypes := #[M.T, M.K] }) (b n : Nat) (q : κ → Option ν) (hm : a.eval m = .map (some b)) (h : MapF M w b n q)
    (k : κ) (hx : a.eval x = M.key k) (hok : M.ok k) (n' : Nat) (hn' : (n - if (q k).isSome = true then 1 else 0) = n')
    (hK : ∀ w', MapF M w' b n' (upd q k none) → w.grownBy w' (some b) → wpList Tryd.prog ops Q rest (a.put o.dst (.tuple #[])) w') : wpList Tryd.prog ops Q (o :: rest) a w := by
  subst hn'
  refine wpList_plain hgd fun K' hK' => ?_
  obtain ⟨w', hrun, r1, r2⟩ := h.drop hok o.type
  unfold Oper.wp
  simp [execOp, hop, resolve, invoke, builtin, hm, hx, hrun, Result.andThen]
  exact hK' _ _ (hK w' r1 r2.grown)
end

end Go.Proofs.YthbahbcihaebeaaDoor.Cd
