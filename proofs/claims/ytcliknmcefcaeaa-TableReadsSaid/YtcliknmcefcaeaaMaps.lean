/-
  Maps of the program as functions: what a look-up, a store, a delete and len do. Conditions: none.
-/
import Derived.Test.YtcliknmcefcaeaaApart
import Derived.Test.YtcliknmcefcaeaaDiskModel
import Derived.Maps.OwnSet
import Derived.DeepKeys4
import Derived.Deep.MidRow
namespace Go.Proofs.Ytcliknmcefcaeaa.Cd
open Go.RowKit Go.Maps

theorem laid_out : laidOutB Try.prog = true := by kernel_rfl

/-- A kind of maps: how keys and elements are values. -/
structure MKind (κ ν : Type) where
  T : TypeId
  K : TypeId
  E : TypeId
  R : Value → Option (DataW Unit × List MemPlace)
  key : κ → Value
  ok : κ → Prop
  lit : κ → Lit
  val : ν → Value
  okv : ν → Prop
  dat : ν → DataW Unit
  z0 : ν
  law : Keyed Try.prog K
  under : Try.prog.underlying T = some (.map K E)
  keyed : ∀ {x}, ok x → keyOf Try.prog K (key x) = some (lit x)
  one : ∀ {x y}, key x = key y → x = y
  read : ∀ {v}, okv v → R (val v) = some (dat v, [])
  inv : ∀ {u v ps}, R u = some (dat v, ps) → u = val v ∧ okv v
  okz : okv z0
  zero : ∀ w, (zeroValue E).run Try.prog w = .ok (val z0) w

section
variable {κ ν : Type} (M : MKind κ ν)

theorem MKind.lit_one {x y : κ} (hx : M.ok x) (hy : M.ok y) (h : M.lit x = M.lit y) : x = y :=
  M.one (M.law.inj (M.keyed hx) (by rw [h]; exact M.keyed hy))

/-- Block b is a map of n entries: the function q. -/
def MapF (w : World) (b n : Nat) (q : κ → Option ν) : Prop :=
  ∃ D : DataW Unit, w.ownsMap Try.prog M.K M.R b n D ∧ Maps.size D = n ∧ ∀ x, M.ok x → ∀ z, D.atKey (M.lit x) z = ((q x).map M.dat).getD z

variable {M} {w : World} {b n : Nat} {q : κ → Option ν}

theorem MapF.lt (h : MapF M w b n q) : b < w.heap.size := h.elim fun _ hD => hD.1.lt
theorem MapF.heap {w' : World} (h : MapF M w b n q) (hb : w'.heap[b]? = w.heap[b]?) : MapF M w' b n q := by
  obtain ⟨D, ⟨es, clock, h1, h2⟩, h3⟩ := h
  exact ⟨D, ⟨es, clock, hb.trans h1, h2⟩, h3⟩
theorem MapF.grown {w' : World} {r : Option Nat} (h : MapF M w b n q) (hg : w.grownBy w' r) (hne : some b ≠ r) : MapF M w' b n q := h.heap (hg.block b h.lt hne)
theorem MapF.apart {w' : World} {S : Nat → Prop} (h : MapF M w b n q) (hg : Apart S w w') (hne : ¬ S b) : MapF M w' b n q := h.heap (hg.block b h.lt hne)
theorem MapF.below {w' : World} {B : Nat} (h : MapF M w b n q) (hg : Below B w w') (hlt : b < B) : MapF M w' b n q := h.heap (hg.block b hlt)
theorem MapF.alloc (h : MapF M w b n q) (o : Obj) : MapF M (w.alloc o) b n q := h.grown (World.grownBy_alloc w o none) (by simp)
theorem MapF.drew (h : MapF M w b n q) : MapF M w.drew b n q := h
theorem MapF.setCell (h : MapF M w b n q) {a : Addr} (ha : b ≠ a.block) (u : Value) : MapF M (w.setCell a u) b n q := by
  obtain ⟨D, h1, h2⟩ := h
  exact ⟨D, h1.setCell ha u, h2⟩
theorem MapF.congr {q' : κ → Option ν} (h : MapF M w b n q) (hq : ∀ x, M.ok x → q' x = q x) : MapF M w b n q' := by
  obtain ⟨D, h1, h2, h3⟩ := h
  exact ⟨D, h1, h2, fun x hx z => by rw [hq x hx]; exact h3 x hx z⟩

theorem MapF.made (M : MKind κ ν) (w : World) : MapF M (w.alloc (.map #[] 0)) w.heap.size 0 (fun _ => none) :=
  ⟨_, World.ownsMap_made w Try.prog M.K M.R, rfl, fun _ _ _ => rfl⟩

theorem MapF.val (h : MapF M w b n q) {x : κ} (_hx : M.ok x) {u : Value} {ps : List MemPlace} {D : DataW Unit} (hD : ∀ z, D.atKey (M.lit x) z = ((q x).map M.dat).getD z)
    (hu : M.R u = some (D.atKey (M.lit x) (M.dat M.z0), ps)) : u = M.val ((q x).getD M.z0) := by
  have := h
  rw [hD] at hu
  cases hq : q x with
  | none => rw [hq] at hu; exact (M.inv hu).1
  | some v => rw [hq] at hu; exact (M.inv hu).1

theorem MapF.okv (h : MapF M w b n q) {x : κ} (hx : M.ok x) {v : ν} (hv : q x = some v) : M.okv v := by
  obtain ⟨D, h1, _, h3⟩ := h
  obtain ⟨u, ps, _, hu⟩ := h1.lookup M.law M.under (M.zero w) (M.read M.okz) (M.keyed hx)
  rw [h3 x hx, hv] at hu
  exact (M.inv hu).2

theorem MapF.look (h : MapF M w b n q) {x : κ} (hx : M.ok x) : (Instr.lookup M.T (.map (some b)) (M.key x) false).run Try.prog w = .ok (M.val ((q x).getD M.z0)) w := by
  have h0 := h
  obtain ⟨D, h1, _, h3⟩ := h
  obtain ⟨u, ps, hr, hu⟩ := h1.lookup M.law M.under (M.zero w) (M.read M.okz) (M.keyed hx)
  rw [← h0.val hx (h3 x hx) hu]
  exact hr

theorem MapF.has {D : DataW Unit} {x : κ} (h : ∀ z, D.atKey (M.lit x) z = ((q x).map M.dat).getD z) : Maps.has D (M.lit x) = (q x).isSome := by
  cases hq : q x with
  | none => exact Maps.has_false_of_atKey fun z => by rw [h z, hq]; rfl
  | some v => exact Maps.has_true_of_atKey (y := M.dat v) fun z => by rw [h z, hq]; rfl

theorem MapF.look_ok (h : MapF M w b n q) {x : κ} (hx : M.ok x) :
    (Instr.lookup M.T (.map (some b)) (M.key x) true).run Try.prog w = .ok (.tuple #[M.val ((q x).getD M.z0), .bool (q x).isSome]) w := by
  have h0 := h
  obtain ⟨D, h1, _, h3⟩ := h
  obtain ⟨u, ps, hr, hu⟩ := h1.look_ok M.law M.under (M.zero w) (M.read M.okz) (M.keyed hx)
  rw [← h0.val hx (h3 x hx) hu, ← MapF.has (h3 x hx)]
  exact hr

theorem MapF.len (h : MapF M w b n q) (ty : TypeId) : (Builtin.len_ #[M.T] ty #[.map (some b)]).run Try.prog w = .ok (.int .i64 n) w := by
  obtain ⟨D, h1, h2, _⟩ := h
  rw [← h2]
  exact h1.len M.under ty

theorem ownsMap_tight {P : Program} {k : TypeId} {R : Value → Option (DataW Unit × List MemPlace)} {D : DataW Unit} (h : w.ownsMap P k R b n D) : w.ownsMap P k R b (Maps.size D) D := by
  obtain ⟨es, clock, h1, h2, h3, rfl⟩ := h
  exact ⟨es, clock, h1, h2, by simp [Maps.size, length_sorted], rfl⟩

/-- One place of a function is another. -/
def upd [DecidableEq κ] (q : κ → Option ν) (x : κ) (v : Option ν) : κ → Option ν := fun y => if y = x then v else q y

theorem MapF.store [DecidableEq κ] (h : MapF M w b n q) (hn : n < maxLen) {x : κ} (hx : M.ok x) {v : ν} (hv : M.okv v) :
    ∃ w', (Instr.mapUpdate M.T (.map (some b)) (M.key x) (M.val v)).run Try.prog w = .ok () w' ∧ MapF M w' b (n + if (q x).isSome = true then 0 else 1) (upd q x (some v)) ∧ w.mapTurned w' b := by
  obtain ⟨D, h1, h2, h3⟩ := h
  have ht := h1.tidy M.law
  have hk := M.law.key (M.keyed hx)
  obtain ⟨w', hr, r1, r2⟩ := h1.store M.law M.under hn (M.keyed hx) (M.read hv)
  have hs : Maps.size (D.put (M.lit x) (M.dat v)) = n + if (q x).isSome = true then 0 else 1 := by
    rw [Maps.size_put ht, MapF.has (h3 x hx), h2]
    split <;> rfl
  refine ⟨w', hr, ⟨_, ?_, hs, fun y hy z => ?_⟩, r2⟩
  · rw [← hs]
    exact ownsMap_tight r1
  · unfold upd
    by_cases e : y = x
    · subst e
      rw [if_pos rfl, Maps.atKey_put_same ht.isMap hk]
      rfl
    · rw [if_neg e, Maps.atKey_put_other (fun hl => e (M.lit_one hy hx hl))]
      exact h3 y hy z

theorem MapF.drop [DecidableEq κ] (h : MapF M w b n q) {x : κ} (hx : M.ok x) (ty : TypeId) :
    ∃ w', (Builtin.delete_ #[M.T, M.K] ty #[.map (some b), M.key x]).run Try.prog w = .ok (.tuple #[]) w' ∧ MapF M w' b (n - if (q x).isSome = true then 1 else 0) (upd q x none) ∧ w.mapTurned w' b := by
  obtain ⟨D, h1, h2, h3⟩ := h
  have ht := h1.tidy M.law
  obtain ⟨w', hr, r1, r2⟩ := h1.drop M.law M.under (M.keyed hx) ty
  have hs : Maps.size (D.del (M.lit x)) = n - if (q x).isSome = true then 1 else 0 := by
    have := Maps.size_del (k := M.lit x) ht
    rw [MapF.has (h3 x hx), h2] at this
    omega
  refine ⟨w', hr, ⟨_, ?_, hs, fun y hy z => ?_⟩, r2⟩
  · rw [← hs]
    exact ownsMap_tight r1
  · unfold upd
    by_cases e : y = x
    · subst e
      rw [if_pos rfl, Maps.atKey_del_same]
      rfl
    · rw [if_neg e, Maps.atKey_del_other (fun hl => e (M.lit_one hy hx hl))]
      exact h3 y hy z

end

/-! ### At the operation, for the walk -/
section
variable {κ ν : Type} [DecidableEq κ] {M : MKind κ ν} {w : World} {ops : Array Oper} {rest : List Oper} {o : Oper} {a : Act} {Q : Exit → Act → World → Prop} {b n : Nat} {q : κ → Option ν}

theorem wp_store (M : MKind κ ν) (hgd : o.guard = none) (m x v : Operand) (hop : o.op = Op.mapUpdate M.T m x v) (b n : Nat) (q : κ → Option ν) (hm : a.eval m = .map (some b)) (h : MapF M w b n q) (hn : n < maxLen)
    (k : κ) (hx : a.eval x = M.key k) (hok : M.ok k) (u : ν) (hv : a.eval v = M.val u) (hu : M.okv u) (n' : Nat) (hn' : (n + if (q k).isSome = true then 0 else 1) = n')
    (hK : ∀ w', MapF M w' b n' (upd q k (some u)) → w.grownBy w' (some b) → wpList Try.prog ops Q rest (a.put o.dst undef) w') : wpList Try.prog ops Q (o :: rest) a w := by
  subst hn'
  refine wpList_plain hgd fun K' hK' => ?_
  obtain ⟨w', hrun, r1, r2⟩ := h.store hn hok hu
  unfold Oper.wp
  simp [execOp, hop, hm, hx, hv, hrun, Result.andThen]
  exact hK' _ _ (hK w' r1 r2.grown)

theorem wp_drop (M : MKind κ ν) (hgd : o.guard = none) (m x : Operand) (hop : o.op = Op.call { callee := Callee.builtin Builtin.delete, args := #[m, x], argTypes := #[M.T, M.K] }) (b n : Nat) (q : κ → Option ν) (hm : a.eval m = .map (some b)) (h : MapF M w b n q)
    (k : κ) (hx : a.eval x = M.key k) (hok : M.ok k) (n' : Nat) (hn' : (n - if (q k).isSome = true then 1 else 0) = n')
    (hK : ∀ w', MapF M w' b n' (upd q k none) → w.grownBy w' (some b) → wpList Try.prog ops Q rest (a.put o.dst (.tuple #[])) w') : wpList Try.prog ops Q (o :: rest) a w := by
  subst hn'
  refine wpList_plain hgd fun K' hK' => ?_
  obtain ⟨w', hrun, r1, r2⟩ := h.drop hok o.type
  unfold Oper.wp
  simp [execOp, hop, resolve, invoke, builtin, hm, hx, hrun, Result.andThen]
  exact hK' _ _ (hK w' r1 r2.grown)
end

/-! ### The three kinds -/

abbrev lim : Nat := 4611686018427387904

theorem wf_nat {f : Nat} (h : f ≤ lim) : (Lit.int .i64 (f : Int)).wf = true := WalkArith.wf_i64 (by unfold lim at h; omega)

/-- map[int]int. -/
def cntK : MKind Nat Nat where
  T := 91
  K := 3
  E := 3
  R := fun v => match v with
    | .int .i64 n => if 0 ≤ n then some (.lit (.int .i64 n), []) else none
    | _ => none
  key := fun f => .int .i64 f
  ok := fun f => f ≤ lim
  lit := fun f => .int .i64 f
  val := fun n => .int .i64 n
  okv := fun _ => True
  dat := fun n => .lit (.int .i64 n)
  z0 := 0
  law := int_keyed Try.underlying3
  under := Try.underlying91
  keyed := fun h => keyOf_int_mk Try.underlying3 (wf_nat h)
  one := fun h => by injection h with _ h; omega
  read := fun {v} _ => by
    show (if (0 : Int) ≤ (v : Int) then _ else _) = _
    rw [if_pos (by omega)]
  inv := fun {u v ps} h => by
    split at h
    · split at h
      · simp only [Option.some.injEq, Prod.mk.injEq, DataW.lit.injEq, Lit.int.injEq, true_and] at h
        exact ⟨by rw [h.1], trivial⟩
      · cases h
    · cases h
  okz := trivial
  zero := fun w => Try.zeroValue3 w

/-- map[string]int. -/
def filK : MKind (List UInt8) Nat where
  T := 90
  K := 9
  E := 3
  R := fun v => match v with
    | .int .i64 n => if 0 ≤ n then some (.lit (.int .i64 n), []) else none
    | _ => none
  key := fun s => .string ⟨s.toArray⟩
  ok := fun s => s.length ≤ maxLen
  lit := fun s => .string s
  val := fun n => .int .i64 n
  okv := fun _ => True
  dat := fun n => .lit (.int .i64 n)
  z0 := 0
  law := string_keyed Try.underlying9
  under := Try.underlying90
  keyed := fun h => by
    have := WideMaps.keyOf_string_mk Try.underlying9 (s := ⟨(_ : List UInt8).toArray⟩) h
    simpa using this
  one := fun h => by
    injection h with h
    injection h with h
    simpa using congrArg Array.toList h
  read := fun {v} _ => by
    show (if (0 : Int) ≤ (v : Int) then _ else _) = _
    rw [if_pos (by omega)]
  inv := fun {u v ps} h => by
    split at h
    · split at h
      · simp only [Option.some.injEq, Prod.mk.injEq, DataW.lit.injEq, Lit.int.injEq, true_and] at h
        exact ⟨by rw [h.1], trivial⟩
      · cases h
    · cases h
  okz := trivial
  zero := fun w => Try.zeroValue3 w

/-! Pages by place -/

/-- Cells that are bytes. -/
def bytesIn : List Value → Option (List UInt8)
  | [] => some []
  | .int .u8 n :: r => if 0 ≤ n ∧ n < 256 then (bytesIn r).map (UInt8.ofNat n.toNat :: ·) else none
  | _ :: _ => none
theorem bytesIn_vb (p : List UInt8) : bytesIn (vb p) = some p := by
  induction p with
  | nil => rfl
  | cons x r ih =>
    have hx := x.toNat_lt
    show (if 0 ≤ (x.toNat : Int) ∧ (x.toNat : Int) < 256 then (bytesIn (vb r)).map _ else none) = _
    rw [if_pos (by omega), ih]
    simp
theorem vb_of_bytesIn : ∀ {l : List Value} {p : List UInt8}, bytesIn l = some p → l = vb p := by
  intro l
  induction l with
  | nil => intro p h; injection h with h; subst h; rfl
  | cons v r ih =>
    intro p h
    unfold bytesIn at h
    split at h
    · rename_i e; cases e
    · rename_i n r' e
      injection e with e1 e2
      subst e1 e2
      split at h
      · rename_i hn
        cases hr : bytesIn r with
        | none => rw [hr] at h; cases h
        | some p' =>
          rw [hr] at h
          injection h with h
          subst h
          rw [ih hr]
          have : ((UInt8.ofNat n.toNat).toNat : Int) = n := by
            rw [UInt8.toNat_ofNat_of_lt' (by show n.toNat < 256; omega)]
            omega
          show Value.int .u8 n :: vb p' = Value.int .u8 ((UInt8.ofNat n.toNat).toNat : Int) :: vb p'
          rw [this]
      · cases h
    · cases h
theorem vb_inj {a b : List UInt8} (h : vb a = vb b) : a = b := by
  have := congrArg bytesIn h
  rw [bytesIn_vb, bytesIn_vb] at this
  injection this

def pageR (v : Value) : Option (DataW Unit × List MemPlace) := match v with
  | .agg cs => if cs.size = 512 then (bytesIn cs.toList).map fun p => (.lit (.string p), []) else none
  | _ => none

theorem zero_page : Try.zeroCells133 = (vb nought).toArray := by kernel_rfl

/-- A place as a value. -/
def placeV (x : Nat × Int) : Value := .agg #[.int .i64 x.1, .int .i64 x.2]
theorem place_key {x : Nat × Int} (h : x.1 ≤ lim) (hi : (Lit.int .i64 x.2).wf = true) : keyOf Try.prog 131 (placeV x) = some (.string (keyBytes [.int .i64 x.1, .int .i64 x.2])) := by
  have h1 := wf_nat h
  have hk : Try.prog.keyType 131 = true := by kernel_rfl
  have hc : Try.prog.cellsOf 131 = 2 := by kernel_rfl
  have hc2 : Try.prog.cellsOf 3 = 1 := by kernel_rfl
  have hf : (placeV x).formed Try.prog 131 = true := by simp [Value.formed, placeV, Try.underlying131, hc]
  obtain ⟨m, hm⟩ : ∃ m, Try.prog.types.size = m + 1 := ⟨_, (by kernel_rfl : Try.prog.types.size = (Try.prog.types.size - 1) + 1)⟩
  unfold keyOf
  rw [Try.underlying131]
  simp only [hk, hf, hm, Bool.and_self, if_true]
  simp [placeV, Value.cells, Program.keyLits, Try.underlying131, Try.underlying3, hc, hc2, h1, hi]

/-- map[place]page. -/
def pgK : MKind (Nat × Int) (List UInt8) where
  T := 92
  K := 131
  E := 133
  R := pageR
  key := placeV
  ok := fun x => x.1 ≤ lim ∧ (Lit.int .i64 x.2).wf = true
  lit := fun x => .string (keyBytes [.int .i64 x.1, .int .i64 x.2])
  val := fun p => .agg (vb p).toArray
  okv := fun p => p.length = 512
  dat := fun p => .lit (.string p)
  z0 := nought
  law := Keyed.of_law (deep_law_laid laid_out (m := 3) (by omega) (of_decide_eq_true (by kernel_rfl)) (by kernel_rfl) (by kernel_rfl))
  under := Try.underlying92
  keyed := fun h => place_key h.1 h.2
  one := fun {x y} h => by
    obtain ⟨f, i⟩ := x
    obtain ⟨g, j⟩ := y
    simp only [placeV, Value.agg.injEq, Array.mk.injEq, List.cons.injEq, Value.int.injEq, true_and, and_true] at h
    have h1 : f = g := by omega
    rw [h1, h.2]
  read := fun {v} h => by
    show (if (vb v).toArray.size = 512 then _ else _) = _
    rw [if_pos (by simpa [vb] using h), show (vb v).toArray.toList = vb v by simp, bytesIn_vb]
    rfl
  inv := fun {u v ps} h => by
    unfold pageR at h
    split at h
    · rename_i cs
      split at h
      · rename_i hs
        cases hb : bytesIn cs.toList with
        | none => rw [hb] at h; cases h
        | some p =>
          rw [hb] at h
          simp only [Option.map_some, Option.some.injEq, Prod.mk.injEq, DataW.lit.injEq, Lit.string.injEq] at h
          have h1 := vb_of_bytesIn hb
          rw [← h.1]
          refine ⟨by rw [← h1], ?_⟩
          have := congrArg List.length h1
          rw [vb_length] at this
          simpa using this.symm.trans hs
      · cases h
    · cases h
  okz := List.length_replicate
  zero := fun w => by rw [← zero_page]; exact Try.zeroValue133 w

theorem cnt_look {w : World} {b n f c : Nat} {q : Nat → Option Nat} (h : MapF cntK w b n q) (hf : f ≤ lim) (hq : (q f).getD 0 = c) :
    (Instr.lookup 91 (.map (some b)) (.int .i64 f) false).run Try.prog w = .ok (.int .i64 c) w := by
  rw [← hq]
  exact h.look (x := f) hf
theorem fil_look {w : World} {b n : Nat} {s : List UInt8} {q : List UInt8 → Option Nat} (h : MapF filK w b n q) (hs : s.length ≤ maxLen) :
    (Instr.lookup 90 (.map (some b)) (.string ⟨s.toArray⟩) true).run Try.prog w = .ok (.tuple #[.int .i64 ((q s).getD 0 : Nat), .bool (q s).isSome]) w := h.look_ok (x := s) hs
theorem pg_look {w : World} {b n f : Nat} {i : Int} {q : Nat × Int → Option (List UInt8)} (h : MapF pgK w b n q) (hf : f ≤ lim) (hi : (Lit.int .i64 i).wf = true) :
    (Instr.lookup 92 (.map (some b)) (.agg #[.int .i64 f, .int .i64 i]) true).run Try.prog w = .ok (.tuple #[.agg (vb ((q (f, i)).getD nought)).toArray, .bool (q (f, i)).isSome]) w := h.look_ok (x := (f, i)) ⟨hf, hi⟩

end Go.Proofs.Ytcliknmcefcaeaa.Cd
