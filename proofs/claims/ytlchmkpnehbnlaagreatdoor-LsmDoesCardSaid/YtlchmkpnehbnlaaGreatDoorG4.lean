/-
  side.cut: the pages from n on are taken out, from the first on. Conditions: none.
-/
import Derived.Test.YtlchmkpnehbnlaaGreatDoorG3
import Derived.Test.YtlchmkpnehbnlaaGreatDoorG1
import Derived.Maps.OwnSet
import Derived.DeepKeys4
import Derived.Deep.MidRow
/-
  Maps of the program as functions: what a look-up, a store, a delete and len do. Conditions: none.
-/
namespace Go.Proofs.YtlchmkpnehbnlaaGreatDoor.Cd
open Go.RowKit Go.Maps

theorem laid_out : laidOutB Tryz.prog = true := by kernel_rfl

structure MKind (κ ν : Type) where
  T : TypeId
  K : TypeId
  E : TypeId
  R : Value → Option (DataW Unit × List MemPlace)
  key : κ → Value
  ok : κ → Prop
  lit : κ → Lit
  val : ν → Value
  okv : ν → Prop
  dat : ν → DataW Unit
  z0 : ν
  law : Keyed Tryz.prog K
  under : Tryz.prog.underlying T = some (.map K E)
  keyed : ∀ {x}, ok x → keyOf Tryz.prog K (key x) = some (lit x)
  one : ∀ {x y}, key x = key y → x = y
  read : ∀ {v}, okv v → R (val v) = some (dat v, [])
  inv : ∀ {u v ps}, R u = some (dat v, ps) → u = val v ∧ okv v
  okz : okv z0
  zero : ∀ w, (zeroValue E).run Tryz.prog w = .ok (val z0) w

section
variable {κ ν : Type} (M : MKind κ ν)

theorem MKind.lit_one {x y : κ} (hx : M.ok x) (hy : M.ok y) (h : M.lit x = M.lit y) : x = y :=
  M.one (M.law.inj (M.keyed hx) (by rw [h]; exact M.keyed hy))

def MapF (w : World) (b n : Nat) (q : κ → Option ν) : Prop :=
  ∃ D : DataW Unit, w.ownsMap Tryz.prog M.K M.R b n D ∧ Maps.size D = n ∧ ∀ x, M.ok x → ∀ z, D.atKey (M.lit x) z = ((q x).map M.dat).getD z

variable {M} {w : World} {b n : Nat} {q : κ → Option ν}

theorem MapF.lt (h : MapF M w b n q) : b < w.heap.size := h.elim fun _ hD => hD.1.lt
theorem MapF.heap {w' : World} (h : MapF M w b n q) (hb : w'.heap[b]? = w.heap[b]?) : MapF M w' b n q := by
  obtain ⟨D, ⟨es, clock, h1, h2⟩, h3⟩ := h
  exact ⟨D, ⟨es, clock, hb.trans h1, h2⟩, h3⟩
theorem MapF.grown {w' : World} {r : Option Nat} (h : MapF M w b n q) (hg : w.grownBy w' r) (hne : some b ≠ r) : MapF M w' b n q := h.heap (hg.block b h.lt hne)
theorem MapF.apart {w' : World} {S : Nat → Prop} (h : MapF M w b n q) (hg : Apart S w w') (hne : ¬ S b) : MapF M w' b n q := h.heap (hg.block b h.lt hne)
theorem MapF.below {w' : World} {B : Nat} (h : MapF M w b n q) (hg : Below B w w') (hlt : b < B) : MapF M w' b n q := h.heap (hg.block b hlt)
theorem MapF.alloc (h : MapF M w b n q) (o : Obj) : MapF M (w.alloc o) b n q := h.grown (World.grownBy_alloc w o none) (by simp)
theorem MapF.drew (h : MapF M w b n q) : MapF M w.drew b n q := h
theorem MapF.setCell (h : MapF M w b n q) {a : Addr} (ha : b ≠ a.block) (u : Value) : MapF M (w.setCell a u) b n q := by
  obtain ⟨D, h1, h2⟩ := h
  exact ⟨D, h1.setCell ha u, h2⟩
theorem MapF.congr {q' : κ → Option ν} (h : MapF M w b n q) (hq : ∀ x, M.ok x → q' x = q x) : MapF M w b n q' := by
  obtain ⟨D, h1, h2, h3⟩ := h
  exact ⟨D, h1, h2, fun x hx z => by rw [hq x hx]; exact h3 x hx z⟩

theorem MapF.made (M : MKind κ ν) (w : World) : MapF M (w.alloc (.map #[] 0)) w.heap.size 0 (fun _ => none) :=
  ⟨_, World.ownsMap_made w Tryz.prog M.K M.R, rfl, fun _ _ _ => rfl⟩

theorem MapF.val (h : MapF M w b n q) {x : κ} (_hx : M.ok x) {u : Value} {ps : List MemPlace} {D : DataW Unit} (hD : ∀ z, D.atKey (M.lit x) z = ((q x).map M.dat).getD z)
    (hu : M.R u = some (D.atKey (M.lit x) (M.dat M.z0), ps)) : u = M.val ((q x).getD M.z0) := by
  have := h
  rw [hD] at hu
  cases hq : q x with
  | none => rw [hq] at hu; exact (M.inv hu).1
  | some v => rw [hq] at hu; exact (M.inv hu).1

theorem MapF.okv (h : MapF M w b n q) {x : κ} (hx : M.ok x) {v : ν} (hv : q x = some v) : M.okv v := by
  obtain ⟨D, h1, _, h3⟩ := h
  obtain ⟨u, ps, _, hu⟩ := h1.lookup M.law M.under (M.zero w) (M.read M.okz) (M.keyed hx)
  rw [h3 x hx, hv] at hu
  exact (M.inv hu).2

theorem MapF.look (h : MapF M w b n q) {x : κ} (hx : M.ok x) : (Instr.lookup M.T (.map (some b)) (M.key x) false).run Tryz.prog w = .ok (M.val ((q x).getD M.z0)) w := by
  have h0 := h
  obtain ⟨D, h1, _, h3⟩ := h
  obtain ⟨u, ps, hr, hu⟩ := h1.lookup M.law M.under (M.zero w) (M.read M.okz) (M.keyed hx)
  rw [← h0.val hx (h3 x hx) hu]
  exact hr

theorem MapF.has {D : DataW Unit} {x : κ} (h : ∀ z, D.atKey (M.lit x) z = ((q x).map M.dat).getD z) : Maps.has D (M.lit x) = (q x).isSome := by
  cases hq : q x with
  | none => exact Maps.has_false_of_atKey fun z => by rw [h z, hq]; rfl
  | some v => exact Maps.has_true_of_atKey (y := M.dat v) fun z => by rw [h z, hq]; rfl

theorem MapF.look_ok (h : MapF M w b n q) {x : κ} (hx : M.ok x) :
    (Instr.lookup M.T (.map (some b)) (M.key x) true).run Tryz.prog w = .ok (.tuple #[M.val ((q x).getD M.z0), .bool (q x).isSome]) w := by
  have h0 := h
  obtain ⟨D, h1, _, h3⟩ := h
  obtain ⟨u, ps, hr, hu⟩ := h1.look_ok M.law M.under (M.zero w) (M.read M.okz) (M.keyed hx)
  rw [← h0.val hx (h3 x hx) hu, ← MapF.has (h3 x hx)]
  exact hr

theorem MapF.len (h : MapF M w b n q) (ty : TypeId) : (Builtin.len_ #[M.T] ty #[.map (some b)]).run Tryz.prog w = .ok (.int .i64 n) w := by
  obtain ⟨D, h1, h2, _⟩ := h
  rw [← h2]
  exact h1.len M.under ty

theorem ownsMap_tight {P : Program} {k : TypeId} {R : Value → Option (DataW Unit × List MemPlace)} {D : DataW Unit} (h : w.ownsMap P k R b n D) : w.ownsMap P k R b (Maps.size D) D := by
  obtain ⟨es, clock, h1, h2, h3, rfl⟩ := h
  exact ⟨es, clock, h1, h2, by simp [Maps.size, length_sorted], rfl⟩

def upd [DecidableEq κ] (q : κ → Option ν) (x : κ) (v : Option ν) : κ → Option ν := fun y => if y = x then v else q y

theorem MapF.store [DecidableEq κ] (h : MapF M w b n q) (hn : n < maxLen) {x : κ} (hx : M.ok x) {v : ν} (hv : M.okv v) :
    ∃ w', (Instr.mapUpdate M.T (.map (some b)) (M.key x) (M.val v)).run Tryz.prog w = .ok () w' ∧ MapF M w' b (n + if (q x).isSome = true then 0 else 1) (upd q x (some v)) ∧ w.mapTurned w' b := by
  obtain ⟨D, h1, h2, h3⟩ := h
  have ht := h1.tidy M.law
  have hk := M.law.key (M.keyed hx)
  obtain ⟨w', hr, r1, r2⟩ := h1.store M.law M.under hn (M.keyed hx) (M.read hv)
  have hs : Maps.size (D.put (M.lit x) (M.dat v)) = n + if (q x).isSome = true then 0 else 1 := by
    rw [Maps.size_put ht, MapF.has (h3 x hx), h2]
    split <;> rfl
  refine ⟨w', hr, ⟨_, ?_, hs, fun y hy z => ?_⟩, r2⟩
  · rw [← hs]
    exact ownsMap_tight r1
  · unfold upd
    by_cases e : y = x
    · subst e
      rw [if_pos rfl, Maps.atKey_put_same ht.isMap hk]
      rfl
    · rw [if_neg e, Maps.atKey_put_other (fun hl => e (M.lit_one hy hx hl))]
      exact h3 y hy z

theorem MapF.drop [DecidableEq κ] (h : MapF M w b n q) {x : κ} (hx : M.ok x) (ty : TypeId) :
    ∃ w', (Builtin.delete_ #[M.T, M.K] ty #[.map (some b), M.key x]).run Tryz.prog w = .ok (.tuple #[]) w' ∧ MapF M w' b (n - if (q x).isSome = true then 1 else 0) (upd q x none) ∧ w.mapTurned w' b := by
  obtain ⟨D, h1, h2, h3⟩ := h
  have ht := h1.tidy M.law
  obtain ⟨w', hr, r1, r2⟩ := h1.drop M.law M.under (M.keyed hx) ty
  have hs : Maps.size (D.del (M.lit x)) = n - if (q x).isSome = true then 1 else 0 := by
    have := Maps.size_del (k := M.lit x) ht
    rw [MapF.has (h3 x hx), h2] at this
    omega
  refine ⟨w', hr, ⟨_, ?_, hs, fun y hy z => ?_⟩, r2⟩
  · rw [← hs]
    exact ownsMap_tight r1
  · unfold upd
    by_cases e : y = x
    · subst e
      rw [if_pos rfl, Maps.atKey_del_same]
      rfl
    · rw [if_neg e, Maps.atKey_del_other (fun hl => e (M.lit_one hy hx hl))]
      exact h3 y hy z

end

section
variable {κ ν : Type} [DecidableEq κ] {M : MKind κ ν} {w : World} {ops : Array Oper} {rest : List Oper} {o : Oper} {a : Act} {Q : Exit → Act → World → Prop} {b n : Nat} {q : κ → Option ν}

theorem wp_store (M : MKind κ ν) (hgd : o.guard = none) (m x v : Operand) (hop : o.op = Op.mapUpdate M.T m x v) (b n : Nat) (q : κ → Option ν) (hm : a.eval m = .map (some b)) (h : MapF M w b n q) (hn : n < maxLen)
    (k : κ) (hx : a.eval x = M.key k) (hok : M.ok k) (u : ν) (hv : a.eval v = M.val u) (hu : M.okv u) (n' : Nat) (hn' : (n + if (q k).isSome = true then 0 else 1) = n')
    (hK : ∀ w', MapF M w' b n' (upd q k (some u)) → w.grownBy w' (some b) → wpList Tryz.prog ops Q rest (a.put o.dst undef) w') : wpList Tryz.prog ops Q (o :: rest) a w := by
  subst hn'
  refine wpList_plain hgd fun K' hK' => ?_
  obtain ⟨w', hrun, r1, r2⟩ := h.store hn hok hu
  unfold Oper.wp
  simp [execOp, hop, hm, hx, hv, hrun, Result.andThen]
  exact hK' _ _ (hK w' r1 r2.grown)

theorem wp_drop (M : MKind κ ν) (hgd : o.guard = none) (m x : Operand) (hop : o.op = Op.call { callee := Callee.builtin Builtin.delete, args := #[m, x], argTypes := #[M.T, M.K] }) (b n : Nat) (q : κ → Option ν) (hm : a.eval m = .map (some b)) (h : MapF M w b n q)
    (k : κ) (hx : a.eval x = M.key k) (hok : M.ok k) (n' : Nat) (hn' : (n - if (q k).isSome = true then 1 else 0) = n')
    (hK : ∀ w', MapF M w' b n' (upd q k none) → w.grownBy w' (some b) → wpList Tryz.prog ops Q rest (a.put o.dst (.tuple #[])) w') : wpList Tryz.prog ops Q (o :: rest) a w := by
  subst hn'
  refine wpList_plain hgd fun K' hK' => ?_
  obtain ⟨w', hrun, r1, r2⟩ := h.drop hok o.type
  unfold Oper.wp
  simp [execOp, hop, resolve, invoke, builtin, hm, hx, hrun, Result.andThen]
  exact hK' _ _ (hK w' r1 r2.grown)
end

abbrev lim : Nat := 4611686018427387904

theorem wf_nat {f : Nat} (h : f ≤ lim) : (Lit.int .i64 (f : Int)).wf = true := WalkArith.wf_i64 (by unfold lim at h; omega)

def cntK : MKind Nat Nat where
  T := 66
  K := 3
  E := 3
  R := fun v => match v with
    | .int .i64 n => if 0 ≤ n then some (.lit (.int .i64 n), []) else none
    | _ => none
  key := fun f => .int .i64 f
  ok := fun f => f ≤ lim
  lit := fun f => .int .i64 f
  val := fun n => .int .i64 n
  okv := fun _ => True
  dat := fun n => .lit (.int .i64 n)
  z0 := 0
  law := int_keyed Tryz.underlying3
  under := Tryz.underlying66
  keyed := fun h => keyOf_int_mk Tryz.underlying3 (wf_nat h)
  one := fun h => by injection h with _ h; omega
  read := fun {v} _ => by
    show (if (0 : Int) ≤ (v : Int) then _ else _) = _
    rw [if_pos (by omega)]
  inv := fun {u v ps} h => by
    split at h
    · split at h
      · simp only [Option.some.injEq, Prod.mk.injEq, DataW.lit.injEq, Lit.int.injEq, true_and] at h
        exact ⟨by rw [h.1], trivial⟩
      · cases h
    · cases h
  okz := trivial
  zero := fun w => Tryz.zeroValue3 w

def filK : MKind (List UInt8) Nat where
  T := 65
  K := 9
  E := 3
  R := fun v => match v with
    | .int .i64 n => if 0 ≤ n then some (.lit (.int .i64 n), []) else none
    | _ => none
  key := fun s => .string ⟨s.toArray⟩
  ok := fun s => s.length ≤ maxLen
  lit := fun s => .string s
  val := fun n => .int .i64 n
  okv := fun _ => True
  dat := fun n => .lit (.int .i64 n)
  z0 := 0
  law := string_keyed Tryz.underlying9
  under := Tryz.underlying65
  keyed := fun h => by
    have := WideMaps.keyOf_string_mk Tryz.underlying9 (s := ⟨(_ : List UInt8).toArray⟩) h
    simpa using this
  one := fun h => by
    injection h with h
    injection h with h
    simpa using congrArg Array.toList h
  read := fun {v} _ => by
    show (if (0 : Int) ≤ (v : Int) then _ else _) = _
    rw [if_pos (by omega)]
  inv := fun {u v ps} h => by
    split at h
    · split at h
      · simp only [Option.some.injEq, Prod.mk.injEq, DataW.lit.injEq, Lit.int.injEq, true_and] at h
        exact ⟨by rw [h.1], trivial⟩
      · cases h
    · cases h
  okz := trivial
  zero := fun w => Tryz.zeroValue3 w

def bytesIn : List Value → Option (List UInt8)
  | [] => some []
  | .int .u8 n :: r => if 0 ≤ n ∧ n < 256 then (bytesIn r).map (UInt8.ofNat n.toNat :: ·) else none
  | _ :: _ => none
theorem bytesIn_vb (p : List UInt8) : bytesIn (vb p) = some p := by
  induction p with
  | nil => rfl
  | cons x r ih =>
    have hx := x.toNat_lt
    show (if 0 ≤ (x.toNat : Int) ∧ (x.toNat : Int) < 256 then (bytesIn (vb r)).map _ else none) = _
    rw [if_pos (by omega), ih]
    simp
theorem vb_of_bytesIn : ∀ {l : List Value} {p : List UInt8}, bytesIn l = some p → l = vb p := by
  intro l
  induction l with
  | nil => intro p h; injection h with h; subst h; rfl
  | cons v r ih =>
    intro p h
    unfold bytesIn at h
    split at h
    · rename_i e; cases e
    · rename_i n r' e
      injection e with e1 e2
      subst e1 e2
      split at h
      · rename_i hn
        cases hr : bytesIn r with
        | none => rw [hr] at h; cases h
        | some p' =>
          rw [hr] at h
          injection h with h
          subst h
          rw [ih hr]
          have : ((UInt8.ofNat n.toNat).toNat : Int) = n := by
            rw [UInt8.toNat_ofNat_of_lt' (by show n.toNat < 256; omega)]
            omega
          show Value.int .u8 n :: vb p' = Value.int .u8 ((UInt8.ofNat n.toNat).toNat : Int) :: vb p'
          rw [this]
      · cases h
    · cases h
def pageR (v : Value) : Option (DataW Unit × List MemPlace) := match v with
  | .agg cs => if cs.size = 512 then (bytesIn cs.toList).map fun p => (.lit (.string p), []) else none
  | _ => none

theorem zero_page : Tryz.zeroCells124 = (vb nought).toArray := by kernel_rfl

def placeV (x : Nat × Int) : Value := .agg #[.int .i64 x.1, .int .i64 x.2]
theorem place_key {x : Nat × Int} (h : x.1 ≤ lim) (hi : (Lit.int .i64 x.2).wf = true) : keyOf Tryz.prog 122 (placeV x) = some (.string (keyBytes [.int .i64 x.1, .int .i64 x.2])) := by
  have h1 := wf_nat h
  have hk : Tryz.prog.keyType 122 = true := by kernel_rfl
  have hc : Tryz.prog.cellsOf 122 = 2 := by kernel_rfl
  have hc2 : Tryz.prog.cellsOf 3 = 1 := by kernel_rfl
  have hf : (placeV x).formed Tryz.prog 122 = true := by simp [Value.formed, placeV, Tryz.underlying122, hc]
  obtain ⟨m, hm⟩ : ∃ m, Tryz.prog.types.size = m + 1 := ⟨_, (by kernel_rfl : Tryz.prog.types.size = (Tryz.prog.types.size - 1) + 1)⟩
  unfold keyOf
  rw [Tryz.underlying122]
  simp only [hk, hf, hm, Bool.and_self, if_true]
  simp [placeV, Value.cells, Program.keyLits, Tryz.underlying122, Tryz.underlying3, hc, hc2, h1, hi]

def pgK : MKind (Nat × Int) (List UInt8) where
  T := 67
  K := 122
  E := 124
  R := pageR
  key := placeV
  ok := fun x => x.1 ≤ lim ∧ (Lit.int .i64 x.2).wf = true
  lit := fun x => .string (keyBytes [.int .i64 x.1, .int .i64 x.2])
  val := fun p => .agg (vb p).toArray
  okv := fun p => p.length = 512
  dat := fun p => .lit (.string p)
  z0 := nought
  law := Keyed.of_law (deep_law_laid laid_out (m := 3) (by omega) (of_decide_eq_true (by kernel_rfl)) (by kernel_rfl) (by kernel_rfl))
  under := Tryz.underlying67
  keyed := fun h => place_key h.1 h.2
  one := fun {x y} h => by
    obtain ⟨f, i⟩ := x
    obtain ⟨g, j⟩ := y
    simp only [placeV, Value.agg.injEq, Array.mk.injEq, List.cons.injEq, Value.int.injEq, true_and, and_true] at h
    have h1 : f = g := by omega
    rw [h1, h.2]
  read := fun {v} h => by
    show (if (vb v).toArray.size = 512 then _ else _) = _
    rw [if_pos (by simpa [vb] using h), show (vb v).toArray.toList = vb v by simp, bytesIn_vb]
    rfl
  inv := fun {u v ps} h => by
    unfold pageR at h
    split at h
    · rename_i cs
      split at h
      · rename_i hs
        cases hb : bytesIn cs.toList with
        | none => rw [hb] at h; cases h
        | some p =>
          rw [hb] at h
          simp only [Option.map_some, Option.some.injEq, Prod.mk.injEq, DataW.lit.injEq, Lit.string.injEq] at h
          have h1 := vb_of_bytesIn hb
          rw [← h.1]
          refine ⟨by rw [← h1], ?_⟩
          have := congrArg List.length h1
          rw [vb_length] at this
          simpa using this.symm.trans hs
      · cases h
    · cases h
  okz := List.length_replicate
  zero := fun w => by rw [← zero_page]; exact Tryz.zeroValue124 w

theorem cnt_look {w : World} {b n f c : Nat} {q : Nat → Option Nat} (h : MapF cntK w b n q) (hf : f ≤ lim) (hq : (q f).getD 0 = c) :
    (Instr.lookup 66 (.map (some b)) (.int .i64 f) false).run Tryz.prog w = .ok (.int .i64 c) w := by
  rw [← hq]
  exact h.look (x := f) hf
theorem fil_look {w : World} {b n : Nat} {s : List UInt8} {q : List UInt8 → Option Nat} (h : MapF filK w b n q) (hs : s.length ≤ maxLen) :
    (Instr.lookup 65 (.map (some b)) (.string ⟨s.toArray⟩) true).run Tryz.prog w = .ok (.tuple #[.int .i64 ((q s).getD 0 : Nat), .bool (q s).isSome]) w := h.look_ok (x := s) hs
theorem pg_look {w : World} {b n f : Nat} {i : Int} {q : Nat × Int → Option (List UInt8)} (h : MapF pgK w b n q) (hf : f ≤ lim) (hi : (Lit.int .i64 i).wf = true) :
    (Instr.lookup 67 (.map (some b)) (.agg #[.int .i64 f, .int .i64 i]) true).run Tryz.prog w = .ok (.tuple #[.agg (vb ((q (f, i)).getD nought)).toArray, .bool (q (f, i)).isSome]) w := h.look_ok (x := (f, i)) ⟨hf, hi⟩

end Go.Proofs.YtlchmkpnehbnlaaGreatDoor.Cd

/-
  A table in the program: a map of writes by their keys. Conditions: none.
-/
namespace Go.Proofs.YtlchmkpnehbnlaaGreatDoor.Cd
open Go.RowKit Go.Maps

def wrD (p : Wr) : DataW Unit := .agg [.lit (.string p.1), .lit (.string p.2.1), .lit (.bool p.2.2)]
theorem wrD_inj {p q : Wr} (h : wrD p = wrD q) : p = q := by
  obtain ⟨a, b, c⟩ := p
  obtain ⟨a', b', c'⟩ := q
  simp only [wrD, DataW.agg.injEq, List.cons.injEq, DataW.lit.injEq, Lit.string.injEq, Lit.bool.injEq, and_true] at h
  obtain ⟨rfl, rfl, rfl⟩ := h
  rfl
def wrR (v : Value) : Option (DataW Unit × List MemPlace) := match v with
  | .agg ⟨[.string k, .string x, .bool g]⟩ => some (wrD ⟨k.data.toList, x.data.toList, g⟩, [])
  | _ => none
theorem wrR_val (p : Wr) : wrR (wrV p) = some (wrD p, []) := by
  obtain ⟨a, b, c⟩ := p
  show some (wrD ⟨a.toArray.toList, b.toArray.toList, c⟩, []) = _
  simp
theorem wrR_inv {u : Value} {x : DataW Unit × List MemPlace} (h : wrR u = some x) : ∃ p : Wr, u = wrV p ∧ x = (wrD p, []) := by
  unfold wrR at h
  split at h
  · injection h with h
    rename_i k x' g
    refine ⟨⟨k.data.toList, x'.data.toList, g⟩, ?_, h.symm⟩
    unfold wrV
    simp
  · cases h

def wrK : MKind (List UInt8) Wr where
  T := 104
  K := 9
  E := 52
  R := wrR
  key := fun s => .string ⟨s.toArray⟩
  ok := fun s => s.length ≤ maxLen
  lit := fun s => .string s
  val := wrV
  okv := fun _ => True
  dat := wrD
  z0 := ⟨[], [], false⟩
  law := string_keyed Tryz.underlying9
  under := Tryz.underlying104
  keyed := fun h => by
    have := WideMaps.keyOf_string_mk Tryz.underlying9 (s := ⟨(_ : List UInt8).toArray⟩) h
    simpa using this
  one := fun h => by
    injection h with h
    injection h with h
    simpa using congrArg Array.toList h
  read := fun {v} _ => wrR_val v
  inv := fun {u v ps} h => by
    obtain ⟨p, rfl, e⟩ := wrR_inv h
    injection e with e1 e2
    rw [wrD_inj e1]
    exact ⟨rfl, trivial⟩
  okz := trivial
  zero := fun w => Tryz.zeroValue52 w

theorem Fit.key {p : Wr} (h : Fit p) : p.1.length ≤ maxLen := by have := h.1; simp only [maxLen]; omega

def TabM (w : World) (b : Nat) (T : List Wr) : Prop := MapF wrK w b T.length (getW T) ∧ SrtW T ∧ FlatW T ∧ FitW T
def TabAt (w : World) (g : Nat) (T : List Wr) : Prop := ∃ b, g < w.heap.size ∧ w.cell? ⟨g, 0, none⟩ = some (.map (some b)) ∧ TabM w b T
def TabV (w : World) (v : Value) (T : List Wr) : Prop := (v = .pointer none ∧ T = []) ∨ ∃ g, v = .pointer (some ⟨g, 0, none⟩) ∧ TabAt w g T

section
variable {w w' : World} {b g : Nat} {T : List Wr} {v : Value}
theorem TabM.lt (h : TabM w b T) : b < w.heap.size := h.1.lt
theorem TabM.below (h : TabM w b T) (hb : Below w.heap.size w w') : TabM w' b T := ⟨h.1.below hb h.lt, h.2⟩
theorem TabM.grown {r : Option Nat} (h : TabM w b T) (hg : w.grownBy w' r) (hne : some b ≠ r) : TabM w' b T := ⟨h.1.grown hg hne, h.2⟩
theorem TabAt.below (h : TabAt w g T) (hb : Below w.heap.size w w') : TabAt w' g T := by
  obtain ⟨b, h1, h2, h3⟩ := h
  exact ⟨b, Nat.lt_of_lt_of_le h1 hb.size, (hb.cell (p := ⟨g, 0, none⟩) h1).trans h2, h3.below hb⟩
theorem TabV.below (h : TabV w v T) (hb : Below w.heap.size w w') : TabV w' v T := by
  rcases h with h | ⟨g, h1, h2⟩
  · exact .inl h
  · exact .inr ⟨g, h1, h2.below hb⟩
theorem TabV.fit (h : TabV w v T) : FitW T := by
  rcases h with ⟨_, rfl⟩ | ⟨g, _, _, _, _, h⟩
  · exact fun _ h => by cases h
  · exact h.2.2.2
theorem TabM.made (w : World) : TabM (w.alloc (.map #[] 0)) w.heap.size [] := ⟨MapF.made wrK w, List.Pairwise.nil, (fun _ h => by cases h), (fun _ h => by cases h)⟩

theorem TabM.put (h : TabM w b T) (hn : T.length < maxLen) (p : Wr) (hp : flatG p = p) (hf : Fit p) :
    ∃ w', (Instr.mapUpdate 104 (.map (some b)) (.string ⟨p.1.toArray⟩) (.agg #[.string ⟨p.1.toArray⟩, .string ⟨p.2.1.toArray⟩, .bool p.2.2])).run Tryz.prog w = .ok () w' ∧ TabM w' b (insW T p) ∧ w.grownBy w' (some b) := by
  obtain ⟨h1, h2, h3, h4⟩ := h
  obtain ⟨w', hrun, r1, r2⟩ := MapF.store (M := wrK) h1 hn (x := p.1) hf.key (v := p) trivial
  refine ⟨w', hrun, ⟨?_, ins_srt h2 p, ins_flat h3 hp, h4.ins hf⟩, r2.grown⟩
  rw [ins_len h2 p]
  refine r1.congr fun k _ => ?_
  rw [getW_ins]
  unfold upd
  split <;> rfl
end

end Go.Proofs.YtlchmkpnehbnlaaGreatDoor.Cd

/-
  One side of the program's disk: counts and pages by file number. Conditions: none.
-/
namespace Go.Proofs.YtlchmkpnehbnlaaGreatDoor.Cd
open Go.RowKit

abbrev Pages := Nat → List (List UInt8)
def lst (pg : Pages) : Nat × Int → Option (List UInt8) := fun x => if 0 ≤ x.2 then (pg x.1)[x.2.toNat]? else none
def setF (pg : Pages) (f : Nat) (l : List (List UInt8)) : Pages := fun g => if g = f then l else pg g
theorem setF_same (pg : Pages) (f : Nat) (l : List (List UInt8)) : setF pg f l f = l := if_pos rfl
theorem setF_other (pg : Pages) {f g : Nat} (h : g ≠ f) (l : List (List UInt8)) : setF pg f l g = pg g := if_neg h
theorem setF_self (pg : Pages) (f : Nat) : setF pg f (pg f) = pg := by
  funext g
  unfold setF
  split
  · rename_i e; rw [e]
  · rfl
theorem setF_twice (pg : Pages) (f : Nat) (l m : List (List UInt8)) : setF (setF pg f l) f m = setF pg f m := by
  funext g
  unfold setF
  split <;> rfl

structure Side (w : World) (bc bp : Nat) (pg : Pages) (n k : Nat) : Prop where
  cnt : ∃ q j, MapF cntK w bc j q ∧ j ≤ k ∧ ∀ f, f ≤ lim → (q f).getD 0 = (pg f).length
  pgs : MapF pgK w bp n (lst pg)
  ne : bc ≠ bp

theorem Side.heap {w w' : World} {bc bp n k : Nat} {pg : Pages} (h : Side w bc bp pg n k) (h1 : w'.heap[bc]? = w.heap[bc]?) (h2 : w'.heap[bp]? = w.heap[bp]?) : Side w' bc bp pg n k := by
  obtain ⟨⟨q, j, r1, r2, r3⟩, r4, r5⟩ := h
  exact ⟨⟨q, j, r1.heap h1, r2, r3⟩, r4.heap h2, r5⟩
theorem Side.lt {w : World} {bc bp n k : Nat} {pg : Pages} (h : Side w bc bp pg n k) : bc < w.heap.size ∧ bp < w.heap.size := by
  obtain ⟨⟨q, j, r1, r2, r3⟩, r4, r5⟩ := h
  exact ⟨r1.lt, r4.lt⟩
theorem Side.apart {w w' : World} {S : Nat → Prop} {bc bp n k : Nat} {pg : Pages} (h : Side w bc bp pg n k) (hg : Apart S w w') (h1 : ¬ S bc) (h2 : ¬ S bp) : Side w' bc bp pg n k :=
  h.heap (hg.block bc h.lt.1 h1) (hg.block bp h.lt.2 h2)
theorem Side.below {w w' : World} {B : Nat} {bc bp n k : Nat} {pg : Pages} (h : Side w bc bp pg n k) (hg : Below B w w') (h1 : bc < B) (h2 : bp < B) : Side w' bc bp pg n k :=
  h.heap (hg.block bc h1) (hg.block bp h2)
theorem Side.mono {w : World} {bc bp n k k' : Nat} {pg : Pages} (h : Side w bc bp pg n k) (hk : k ≤ k') : Side w bc bp pg n k' := by
  obtain ⟨⟨q, j, r1, r2, r3⟩, r4, r5⟩ := h
  exact ⟨⟨q, j, r1, by omega, r3⟩, r4, r5⟩

def two (a b : Nat) : Nat → Prop := fun k => k = a ∨ k = b

theorem Apart.step {S : Nat → Prop} {w w1 w2 : World} {r : Option Nat} (h : Apart S w w1) (k : w1.grownBy w2 r) (hr : ∀ j, r = some j → S j ∨ w.heap.size ≤ j) : Apart S w w2 :=
  ⟨k.os.trans h.os, k.tape.trans h.tape, k.output.trans h.output, Nat.le_trans h.size k.size, fun i hi hn =>
    (k.block i (Nat.lt_of_lt_of_le hi h.size) (fun e => by rcases hr i e.symm with h1 | h1; exact hn h1; omega)).trans (h.block i hi hn)⟩
theorem Apart.alloc {S : Nat → Prop} {w w1 : World} (h : Apart S w w1) (o : Obj) : Apart S w (w1.alloc o) := h.step (World.grownBy_alloc w1 o none) (fun _ e => by cases e)
theorem Apart.drew {S : Nat → Prop} {w w1 : World} (h : Apart S w w1) : Apart S w w1.drew := ⟨h.os, h.tape, h.output, h.size, h.block⟩

theorem upd_place (pg : Pages) (f i : Nat) (p : List UInt8) (h : i ≤ (pg f).length) : upd (lst pg) (f, (i : Int)) (some p) = lst (setF pg f (setP (pg f) i p)) := by
  funext ⟨g, j⟩
  unfold upd lst setF
  by_cases hj : 0 ≤ j
  · obtain ⟨j, rfl⟩ := Int.eq_ofNat_of_zero_le hj
    by_cases hg : g = f
    · subst hg
      simp only [Prod.mk.injEq, true_and, if_true, Int.natCast_nonneg, Int.toNat_natCast]
      by_cases e : j = i
      · subst e
        rw [if_pos rfl, List.getElem?_eq_getElem (by rw [setP_len]; omega)]
        unfold setP
        simp
      · rw [if_neg (by omega)]
        unfold setP
        rw [List.getElem?_set_ne (fun h2 => e h2.symm)]
        by_cases hlt : j < (pg g).length
        · rw [List.getElem?_append_left hlt]
        · rw [List.getElem?_eq_none (by omega), List.getElem?_eq_none (by simp; omega)]
    · simp [hg]
  · have h1 : ¬ (g, j) = (f, (i : Int)) := by intro e; injection e with _ e; omega
    simp only [h1, hj, if_false]

theorem lst_some (pg : Pages) (f i : Nat) : (lst pg (f, (i : Int))).isSome = decide (i < (pg f).length) := by
  unfold lst
  simp only [Int.natCast_nonneg, if_true, Int.toNat_natCast]
  by_cases h : i < (pg f).length
  · simp [h]
  · simp [h]

theorem setP_more (l : List (List UInt8)) (j : Nat) (h : l.length ≤ j) : setP (l ++ List.replicate (j - l.length) nought) j nought = l ++ List.replicate (j + 1 - l.length) nought := by
  have : (l ++ List.replicate (j - l.length) nought).length = j := by simp; omega
  have h2 := setP_end (l ++ List.replicate (j - l.length) nought) nought
  rw [this] at h2
  rw [h2, List.append_assoc, ← List.replicate_succ', show j - l.length + 1 = j + 1 - l.length by omega]
theorem setP_over (l : List (List UInt8)) (i j : Nat) (p : List UInt8) (h : l.length ≤ j) (hj : j ≤ max l.length i) (hi : i ≤ j) : setP (l ++ List.replicate (j - l.length) nought) i p = setP l i p := by
  unfold setP
  rw [List.append_assoc, List.replicate_append_replicate]
  congr 3
  simp
  omega

def wv (f i : Nat) (p : List UInt8) : Array Value := (.int .i64 f :: .int .i64 i :: vb p).toArray
theorem wv_size (f i : Nat) {p : List UInt8} (h : p.length = 512) : (wv f i p).size = 514 := by simp [wv, vb, h]

def SidePut (bc bp : Nat) (f i : Nat) (p : List UInt8) (pg : Pages) (n k : Nat) (w : World) (e : Ending) (w' : World) : Prop :=
  e = .returned (.tuple #[]) ∧ Side w' bc bp (setF pg f (setP (pg f) i p)) (n + (i + 1 - (pg f).length)) (k + 1) ∧ Apart (two bc bp) w w'

theorem cnt_store {q : Nat → Option Nat} {pg : Pages} {f c : Nat} {l : List (List UInt8)} (h : ∀ g, g ≤ lim → (q g).getD 0 = (pg g).length) (hc : c = l.length) : ∀ g, g ≤ lim → (upd q f (some c) g).getD 0 = (setF pg f l g).length := by
  intro g hg
  unfold upd setF
  split
  · exact hc
  · exact h g hg

set_option maxRecDepth 100000 in
set_option maxHeartbeats 1600000 in
theorem sideput_any (bc bp f i : Nat) (p : List UInt8) (pg : Pages) (n k : Nat) (w : World) (h : Side w bc bp pg n k) (hp : p.length = 512) (hf : f ≤ lim) (hi : i ≤ 1048576) (hL : (pg f).length ≤ 1048576)
    (hn : n ≤ lim) (hk : k ≤ lim) : Calls Tryz.prog 79 #[.agg #[.map (some bc), .map (some bp)], .agg (wv f i p)] w (SidePut bc bp f i p pg n k w) := by
  have hlt := h.lt
  obtain ⟨⟨q, j0, hcnt, hjk, hq⟩, hpg, hne⟩ := h
  have HC := Lib.hid hcnt
  have HP := Lib.hid hpg
  have HQ := Lib.hid hq
  have hql := hq f hf
  obtain ⟨C, hC⟩ : ∃ C, wv f i p = C := ⟨_, rfl⟩
  rw [hC]
  have hsz : C.size = 514 := by rw [← hC]; exact wv_size f i hp
  have h0 : C[0] = .int .i64 f := by subst hC; rfl
  have h1 : C[1] = .int .i64 i := by subst hC; rfl
  clear hcnt hpg hq
  unfold lim at hf hn hk
  have HCC := Lib.hid hC
  clear hC
  go_enter Tryz.func79, Tryz.ntmps79
  have hl0 := cnt_look ((HC.out.alloc (.cells #[.map (some bc), .map (some bp)] 69)).alloc (.cells C 126)) hf hql
  go_wp2_with fail
  have e1 : ((w.alloc (.cells #[.map (some bc), .map (some bp)] 69)).alloc (.cells C 126)).heap[w.heap.size]? = some (.cells #[.map (some bc), .map (some bp)] 69) := by
    rw [Below.heap_alloc _ _ _ (by simp)]
    exact heap_alloc_new _ _
  have e2 : ((w.alloc (.cells #[.map (some bc), .map (some bp)] 69)).alloc (.cells C 126)).heap[w.heap.size + 1]? = some (.cells C 126) := by
    have := heap_alloc_new (w.alloc (.cells #[.map (some bc), .map (some bp)] 69)) (.cells C 126)
    rwa [asz] at this
  have hA : Apart (two bc bp) w ((w.alloc (.cells #[.map (some bc), .map (some bp)] 69)).alloc (.cells C 126)) := ((Apart.refl _ w).alloc _).alloc _
  have hP := (HP.out.alloc (.cells #[.map (some bc), .map (some bp)] 69)).alloc (.cells C 126)
  have hC2 := (HC.out.alloc (.cells #[.map (some bc), .map (some bp)] 69)).alloc (.cells C 126)
  have hsw : ((w.alloc (.cells #[.map (some bc), .map (some bp)] 69)).alloc (.cells C 126)).heap.size = w.heap.size + 2 := by simp
  clear hl0
  generalize (w.alloc (.cells #[.map (some bc), .map (some bp)] 69)).alloc (.cells C 126) = w2 at *
  have E1 := Lib.hid e1
  have E2 := Lib.hid e2
  have HA := Lib.hid hA
  have HP2 := Lib.hid hP
  have HC2 := Lib.hid hC2
  clear e1 e2 hA hP hC2 HP HC
  generalize hl : (pg f).length = L at *
  go_loopw [4] (fun a wr => ∃ j, a = .int .i64 (j : Nat) ∧ L ≤ j ∧ j ≤ max L i ∧ Hid (MapF pgK wr bp (n + (j - L)) (lst (setF pg f (pg f ++ List.replicate (j - L) nought)))) ∧ Hid (w2.grownBy wr (some bp))) (fun a _ => i - (intOf a).toNat)
  case atStart => exact ⟨L, rfl, Nat.le_refl _, by omega, by rw [Nat.sub_self, List.replicate_zero, List.append_nil, setF_self]; exact HP2.out, ⟨rfl, rfl, rfl, Nat.le_refl _, fun _ _ _ => rfl⟩⟩
  case round =>
    obtain ⟨j, rfl, hj1, hj2, hp2, hg⟩ := hrel
    have b1 : Hid (wr.heap[w.heap.size]? = some (.cells #[.map (some bc), .map (some bp)] 69)) := (hg.out.block w.heap.size (by omega) (by simp; omega)).trans E1.out
    have b2 : Hid (wr.heap[w.heap.size + 1]? = some (.cells C 126)) := (hg.out.block (w.heap.size + 1) (by omega) (by simp; omega)).trans E2.out
    have c0 : wr.cell? ⟨w.heap.size, 0, none⟩ = some (.map (some bc)) := cell_of_row _ _ _ _ _ _ b1.out
    have c1 : wr.cell? ⟨w.heap.size, 1, none⟩ = some (.map (some bp)) := cell_of_row _ _ _ _ _ _ b1.out
    have d0 : wr.cell? ⟨w.heap.size + 1, 0, none⟩ = some (.int .i64 f) := (cell_of_row _ _ _ _ _ _ b2.out).trans (by rw [← h0]; simp [hsz])
    have d1 : wr.cell? ⟨w.heap.size + 1, 1, none⟩ = some (.int .i64 i) := (cell_of_row _ _ _ _ _ _ b2.out).trans (by rw [← h1]; simp [hsz])
    by_cases hlt : j < i
    · have hlti : (j : Int) < i := by omega
      have hst : lst (setF pg f (pg f ++ List.replicate (j - L) nought)) (f, (j : Int)) = none := by
        have := lst_some (setF pg f (pg f ++ List.replicate (j - L) nought)) f j
        rw [setF_same, List.length_append, hl, List.length_replicate, decide_eq_false (by omega)] at this
        simpa using this
      have hup : upd (lst (setF pg f (pg f ++ List.replicate (j - L) nought))) (f, (j : Int)) (some nought) = lst (setF pg f (pg f ++ List.replicate (j + 1 - L) nought)) := by
        rw [upd_place _ _ _ _ (by rw [setF_same, List.length_append, hl, List.length_replicate]; omega), setF_same, setF_twice, ← hl, setP_more _ _ (by omega)]
      have HST := Lib.hid hst
      have HUP := Lib.hid hup
      clear hst hup
      go_wp2_with (first | (refine wp_store pgK rfl _ _ _ rfl bp _ _ rfl hp2.out (by unfold maxLen; omega) (f, (j : Int)) rfl ⟨by unfold lim; omega, WalkArith.wf_i64 (by omega)⟩ nought (by rw [zero_page]; rfl) List.length_replicate (n + (j + 1 - L)) (by rw [HST.out]; simp; omega) ?hK) | fail)
      intro w3 hp3 hg3
      rw [HUP.out] at hp3
      have HP3 := Lib.hid hp3
      have HG3 := Lib.hid hg3
      clear hp3 hg3
      go_wp2_with fail
      go_roundw
      case rel => exact ⟨j + 1, by go_num, by omega, by omega, HP3.out, hg.out.trans HG3.out⟩
      case measure => simp [intOf]; omega
    · have hge : (i : Int) ≤ j := by omega
      have hup : upd (lst (setF pg f (pg f ++ List.replicate (j - L) nought))) (f, (i : Int)) (some p) = lst (setF pg f (setP (pg f) i p)) := by
        rw [upd_place _ _ _ _ (by rw [setF_same, List.length_append, hl, List.length_replicate]; omega), setF_same, setF_twice, ← hl, setP_over _ _ _ _ (by omega) (by omega) (by omega)]
      have hq2 : (n + (j - L) + if (lst (setF pg f (pg f ++ List.replicate (j - L) nought)) (f, (i : Int))).isSome = true then 0 else 1) = n + (i + 1 - L) := by
        rw [lst_some, setF_same, List.length_append, hl, List.length_replicate]
        by_cases e : i < L + (j - L)
        · rw [if_pos (by simpa using e)]; omega
        · rw [if_neg (by simpa using e)]; omega
      have HUP := Lib.hid hup
      have HQ2 := Lib.hid hq2
      have r0 : Hid (wr.rangeAt (w.heap.size + 1) 0 [.int .i64 f, .int .i64 i]) := fun o v hv => by
        rw [Nat.zero_add]
        match o with
        | 0 => injection hv with hv; rw [← hv]; exact d0
        | 1 => injection hv with hv; rw [← hv]; exact d1
        | o + 2 => cases hv
      have r2 : Hid (wr.rangeAt (w.heap.size + 1) 2 (vb p)) := fun o v hv => by
        rw [cell_of_row _ _ _ _ _ _ b2.out, ← HCC.out]
        have := @List.getElem?_toArray _ (Value.int .i64 f :: Value.int .i64 i :: vb p) (2 + o)
        unfold wv
        rw [this, show 2 + o = o + 1 + 1 by omega, List.getElem?_cons_succ, List.getElem?_cons_succ]
        exact hv
      clear hup hq2
      go_wp2_with (first | (refine wpList_load_mid rfl 122 _ rfl (w.heap.size + 1) 0 rfl _ _ r0.out Tryz.underlying122 rfl (by kernel_rfl) ?_) | (refine wpList_load_mid rfl 124 _ rfl (w.heap.size + 1) 2 rfl _ _ r2.out Tryz.underlying124 rfl (by rw [vb_length, hp]; kernel_rfl) ?_) | (refine wp_store pgK rfl _ _ _ rfl bp _ _ rfl hp2.out (by unfold maxLen; omega) (f, (i : Int)) rfl ⟨by unfold lim; omega, WalkArith.wf_i64 (by omega)⟩ p rfl hp _ HQ2.out ?hK2) | fail)
      intro w3 hp3 hg3
      rw [HUP.out] at hp3
      have HP3 := Lib.hid hp3
      have hg2 := hg.out.trans hg3
      have HC3 := Lib.hid (HC2.out.grown hg2 (by simp; exact hne))
      have b3 : Hid (w3.heap[w.heap.size]? = some (.cells #[.map (some bc), .map (some bp)] 69)) := (hg2.block w.heap.size (by omega) (by simp; omega)).trans E1.out
      have b4 : Hid (w3.heap[w.heap.size + 1]? = some (.cells C 126)) := (hg2.block (w.heap.size + 1) (by omega) (by simp; omega)).trans E2.out
      have c2 : w3.cell? ⟨w.heap.size, 0, none⟩ = some (.map (some bc)) := cell_of_row _ _ _ _ _ _ b3.out
      have d2 : w3.cell? ⟨w.heap.size + 1, 0, none⟩ = some (.int .i64 f) := (cell_of_row _ _ _ _ _ _ b4.out).trans (by rw [← h0]; simp [hsz])
      have d3 : w3.cell? ⟨w.heap.size + 1, 1, none⟩ = some (.int .i64 i) := (cell_of_row _ _ _ _ _ _ b4.out).trans (by rw [← h1]; simp [hsz])
      have HG2 := Lib.hid hg2
      have hl3 := cnt_look HC3.out (f := f) (c := L) (by unfold lim; omega) (by rw [hql])
      have hj3 : j0 + (if (q f).isSome = true then 0 else 1) ≤ k + 1 := by split <;> omega
      obtain ⟨j4, hj4⟩ : ∃ j4, j0 + (if (q f).isSome = true then 0 else 1) = j4 := ⟨_, rfl⟩
      rw [hj4] at hj3
      have HJ4 := Lib.hid hj4
      have hlen : Hid ((setP (pg f) i p).length = max L (i + 1)) := by unfold Hid; rw [setP_len, hl]
      clear hp3 hg3 hg2 hj4
      by_cases hmx : i + 1 ≤ L
      · have hmx2 : (i : Int) + 1 ≤ L := by omega
        go_wp2_with (first | (refine wp_store cntK rfl _ _ _ rfl bc _ _ rfl HC3.out (by unfold maxLen; omega) f rfl (by unfold cntK lim; omega) L rfl trivial j4 HJ4.out ?hK3) | fail)
        intro w4 hc4 hg4
        have HC4 := Lib.hid hc4
        have HP4 := Lib.hid (HP3.out.grown hg4 (by simp; omega))
        have HA4 : Hid (Apart (two bc bp) w w4) := (HA.out.step HG2.out (fun x e => by injection e with e; exact .inl (.inr e.symm))).step hg4 (fun x e => by injection e with e; exact .inl (.inl e.symm))
        clear hc4 hg4
        go_wp2_with fail
        go_end0
        exact ⟨rfl, ⟨⟨_, j4, HC4.out, hj3, cnt_store HQ.out (by rw [hlen.out]; omega)⟩, (by rw [hl]; exact HP4.out), hne⟩, HA4.out⟩
      · have hmx2 : (L : Int) < (i : Int) + 1 := by omega
        go_wp2_with (first | (refine wp_store cntK rfl _ _ _ rfl bc _ _ rfl HC3.out (by unfold maxLen; omega) f rfl (by unfold cntK lim; omega) (i + 1) rfl trivial j4 HJ4.out ?hK4) | fail)
        intro w4 hc4 hg4
        have HC4 := Lib.hid hc4
        have HP4 := Lib.hid (HP3.out.grown hg4 (by simp; omega))
        have HA4 : Hid (Apart (two bc bp) w w4) := (HA.out.step HG2.out (fun x e => by injection e with e; exact .inl (.inr e.symm))).step hg4 (fun x e => by injection e with e; exact .inl (.inl e.symm))
        clear hc4 hg4
        go_wp2_with fail
        go_end0
        exact ⟨rfl, ⟨⟨_, j4, HC4.out, hj3, cnt_store HQ.out (by rw [hlen.out]; omega)⟩, (by rw [hl]; exact HP4.out), hne⟩, HA4.out⟩

end Go.Proofs.YtlchmkpnehbnlaaGreatDoor.Cd

/-
  The program's disk in memory. Conditions: none.
-/
namespace Go.Proofs.YtlchmkpnehbnlaaGreatDoor.Cd
open Go.RowKit

structure Pw where
  file : Nat
  spot : Nat
  data : List UInt8
structure Pd where
  room : Nat
  files : List UInt8 → Option Nat
  made : Nat
  now : Pages
  nn : Nat
  safe : Pages
  ns : Nat
  late : List Pw
  off : Bool
  acts : Nat
  fuse : Nat
  keep : Nat

def wcs (l : List Pw) : List Value := l.flatMap fun x => (wv x.file x.spot x.data).toList
def PwOk (m : Nat) (x : Pw) : Prop := x.file ≤ m ∧ x.spot < 4096 ∧ x.data.length = 512

structure Fits (P : Pd) (N : Nat) : Prop where
  top : N ≤ 137438953472
  room : P.room ≤ 4096
  made : P.made ≤ N
  acts : P.acts ≤ N
  fuse : P.fuse ≤ 9223372036854775807
  keep : P.keep < 18446744073709551616
  late : ∀ x ∈ P.late, PwOk P.made x
  now : ∀ f, (P.now f).length ≤ 4096
  safe : ∀ f, (P.safe f).length ≤ 4096
  nns : P.nn ≤ P.room
  nss : P.ns + 4097 * P.late.length ≤ 4097 * N
  files : ∀ s k, P.files s = some k → k ≤ P.made
  fresh : ∀ f, P.made < f → P.now f = [] ∧ P.safe f = []

def dcells (P : Pd) (bf c1 p1 c2 p2 : Nat) (lv : Value) : Array Value :=
  #[.int .i64 P.room, .map (some bf), .int .i64 P.made, .map (some c1), .map (some p1), .map (some c2), .map (some p2), lv, .bool P.off, .int .i64 P.acts, .int .i64 P.fuse, .int .u64 P.keep]

structure DiskR (w : World) (g : Nat) (S : Nat → Prop) (P : Pd) (N bf c1 p1 c2 p2 : Nat) (lv : Value) : Prop where
  fits : Fits P N
  row : w.heap[g]? = some (.cells (dcells P bf c1 p1 c2 p2 lv) 73)
  fil : ∃ n, MapF filK w bf n P.files ∧ n ≤ N
  now : Side w c1 p1 P.now P.nn N
  safe : ∃ k, Side w c2 p2 P.safe P.ns k ∧ k + P.late.length ≤ N
  late : w.ownsRow 0 126 514 lv P.late.length (wcs P.late)
  neg : g ≠ bf ∧ g ≠ c1 ∧ g ≠ p1 ∧ g ≠ c2 ∧ g ≠ p2
  nef : bf ≠ c1 ∧ bf ≠ p1 ∧ bf ≠ c2 ∧ bf ≠ p2
  nes : c1 ≠ c2 ∧ c1 ≠ p2 ∧ p1 ≠ c2 ∧ p1 ≠ p2
  nel : ∀ b, lv.ownBlock = some b → b ≠ g ∧ b ≠ bf ∧ b ≠ c1 ∧ b ≠ p1 ∧ b ≠ c2 ∧ b ≠ p2
  ins : S g ∧ S bf ∧ S c1 ∧ S p1 ∧ S c2 ∧ S p2
  inl : ∀ b, lv.ownBlock = some b → S b
  lt : ∀ k, S k → k < w.heap.size

def Rep (w : World) (g : Nat) (S : Nat → Prop) (P : Pd) (N : Nat) : Prop := ∃ bf c1 p1 c2 p2 lv, DiskR w g S P N bf c1 p1 c2 p2 lv

section
variable {w w' : World} {g N bf c1 p1 c2 p2 : Nat} {S T : Nat → Prop} {P : Pd} {lv : Value}

theorem row_kept {e : TypeId} {size n : Nat} {xs : List Value} (h : w.ownsRow 0 e size lv n xs) (hk : ∀ b, lv.ownBlock = some b → w'.heap[b]? = w.heap[b]?) : w'.ownsRow 0 e size lv n xs := by
  refine ⟨h.1, ?_⟩
  rcases h.2 with h2 | ⟨b, cap, cur, rfl, h3, h4, r⟩
  · exact .inl h2
  · exact .inr ⟨b, cap, cur, rfl, h3, (hk b rfl).trans h4, r⟩

theorem DiskR.keep (h : DiskR w g S P N bf c1 p1 c2 p2 lv) (hk : ∀ b, S b → w'.heap[b]? = w.heap[b]?) (hs : w.heap.size ≤ w'.heap.size) : DiskR w' g S P N bf c1 p1 c2 p2 lv := by
  obtain ⟨i1, i2, i3, i4, i5, i6⟩ := h.ins
  obtain ⟨n, hf, hn⟩ := h.fil
  obtain ⟨k, hsf, hkk⟩ := h.safe
  exact ⟨h.fits, (hk g i1).trans h.row, ⟨n, hf.heap (hk bf i2), hn⟩, h.now.heap (hk c1 i3) (hk p1 i4), ⟨k, hsf.heap (hk c2 i5) (hk p2 i6), hkk⟩, row_kept h.late (fun b hb => hk b (h.inl b hb)), h.neg, h.nef, h.nes, h.nel, h.ins, h.inl,
    fun k hk => Nat.lt_of_lt_of_le (h.lt k hk) hs⟩

theorem DiskR.below {B : Nat} (h : DiskR w g S P N bf c1 p1 c2 p2 lv) (hb : Below B w w') (hB : ∀ k, S k → k < B) : DiskR w' g S P N bf c1 p1 c2 p2 lv := h.keep (fun b hS => hb.block b (hB b hS)) hb.size
theorem DiskR.more (h : DiskR w g S P N bf c1 p1 c2 p2 lv) (hs : ∀ k, S k → T k) (ht : ∀ k, T k → k < w.heap.size) : DiskR w g T P N bf c1 p1 c2 p2 lv :=
  ⟨h.fits, h.row, h.fil, h.now, h.safe, h.late, h.neg, h.nef, h.nes, h.nel, ⟨hs _ h.ins.1, hs _ h.ins.2.1, hs _ h.ins.2.2.1, hs _ h.ins.2.2.2.1, hs _ h.ins.2.2.2.2.1, hs _ h.ins.2.2.2.2.2⟩, fun b hb => hs b (h.inl b hb), ht⟩
theorem Fits.mono {M : Nat} (h : Fits P N) (hN : N ≤ M) (hM : M ≤ 137438953472) : Fits P M :=
  ⟨hM, h.room, by have := h.made; omega, by have := h.acts; omega, h.fuse, h.keep, h.late, h.now, h.safe, h.nns, by have := h.nss; omega, h.files, h.fresh⟩
theorem DiskR.mono {M : Nat} (h : DiskR w g S P N bf c1 p1 c2 p2 lv) (hN : N ≤ M) (hM : M ≤ 137438953472) : DiskR w g S P M bf c1 p1 c2 p2 lv := by
  obtain ⟨n, hf, hn⟩ := h.fil
  obtain ⟨k, hsf, hkk⟩ := h.safe
  exact ⟨h.fits.mono hN hM, h.row, ⟨n, hf, by omega⟩, h.now.mono hN, ⟨k, hsf, by omega⟩, h.late, h.neg, h.nef, h.nes, h.nel, h.ins, h.inl, h.lt⟩
theorem Rep.keep (h : Rep w g S P N) (hk : ∀ b, S b → w'.heap[b]? = w.heap[b]?) (hs : w.heap.size ≤ w'.heap.size) : Rep w' g S P N := by
  obtain ⟨bf, c1, p1, c2, p2, lv, h⟩ := h
  exact ⟨_, _, _, _, _, _, h.keep hk hs⟩
theorem Rep.lt (h : Rep w g S P N) : ∀ k, S k → k < w.heap.size := by
  obtain ⟨bf, c1, p1, c2, p2, lv, h⟩ := h
  exact h.lt
theorem Rep.more (h : Rep w g S P N) (hs : ∀ k, S k → T k) (ht : ∀ k, T k → k < w.heap.size) : Rep w g T P N := by
  obtain ⟨bf, c1, p1, c2, p2, lv, h⟩ := h
  exact ⟨_, _, _, _, _, _, h.more hs ht⟩
theorem Rep.below {B : Nat} (h : Rep w g S P N) (hb : Below B w w') (hB : ∀ k, S k → k < B) : Rep w' g S P N := h.keep (fun b hS => hb.block b (hB b hS)) hb.size
theorem Rep.apart (h : Rep w g S P N) (hg : Apart T w w') (hd : ∀ k, S k → ¬ T k) : Rep w' g S P N := h.keep (fun b hS => hg.block b (h.lt b hS) (hd b hS)) hg.size
theorem Rep.mono {M : Nat} (h : Rep w g S P N) (hN : N ≤ M) (hM : M ≤ 137438953472) : Rep w g S P M := by
  obtain ⟨bf, c1, p1, c2, p2, lv, h⟩ := h
  exact ⟨_, _, _, _, _, _, h.mono hN hM⟩
theorem Rep.fits (h : Rep w g S P N) : Fits P N := by
  obtain ⟨bf, c1, p1, c2, p2, lv, h⟩ := h
  exact h.fits
end

def errR (P : Pd) : Nat := if P.off = true then 8 else 0

def Says (v : Value) (w : World) (e : Ending) (w' : World) : Prop := e = .returned v ∧ Below w.heap.size w w'

set_option maxRecDepth 100000 in
theorem ready_any (g N : Nat) (S : Nat → Prop) (P : Pd) (w : World) (h : Rep w g S P N) :
    Calls Tryz.prog 43 #[.pointer (some ⟨g, 0, none⟩)] w (fun e w' => e = .returned (.int .i64 (errR P : Nat)) ∧ w' = w) := by
  obtain ⟨bf, c1, p1, c2, p2, lv, h⟩ := h
  have c8 : w.cell? ⟨g, 8, none⟩ = some (.bool P.off) := cell_of_row _ _ _ _ _ _ h.row
  clear h
  cases hoff : P.off
  · rw [hoff] at c8
    have he : errR P = 0 := by unfold errR; rw [hoff]; rfl
    go_enter Tryz.func43, Tryz.ntmps43
    go_wp2_with fail
    go_ret
    exact ⟨by rw [he]; rfl, rfl⟩
  · rw [hoff] at c8
    have he : errR P = 8 := by unfold errR; rw [hoff]; rfl
    go_enter Tryz.func43, Tryz.ntmps43
    go_wp2_with fail
    go_ret
    exact ⟨by rw [he]; rfl, rfl⟩

def findR (P : Pd) (s : List UInt8) : Nat × Nat := if P.off = true then (0, 8) else match P.files s with
  | some k => (k, 0)
  | none => (0, 5)

set_option maxRecDepth 100000 in
set_option maxHeartbeats 800000 in
theorem find_any (g N : Nat) (S : Nat → Prop) (P : Pd) (s : List UInt8) (w : World) (h : Rep w g S P N) (hs : s.length ≤ 140737488355328) :
    Calls Tryz.prog 101 #[.pointer (some ⟨g, 0, none⟩), .string ⟨s.toArray⟩] w (fun e w' => e = .returned (.tuple #[.int .i64 ((findR P s).1 : Nat), .int .i64 ((findR P s).2 : Nat)]) ∧ w' = w) := by
  have hre := ready_any g N S P w h
  obtain ⟨bf, c1, p1, c2, p2, lv, h⟩ := h
  have c1 : w.cell? ⟨g, 1, none⟩ = some (.map (some bf)) := cell_of_row _ _ _ _ _ _ h.row
  obtain ⟨n, hf, _⟩ := h.fil
  have hl := fil_look hf (s := s) (by simp only [maxLen]; omega)
  clear h hf
  cases hoff : P.off
  · have he : errR P = 0 := by unfold errR; rw [hoff]; rfl
    rw [he] at hre
    cases hq : P.files s with
    | none =>
      rw [hq] at hl
      have he : findR P s = (0, 5) := by unfold findR; rw [hoff, hq]; rfl
      rw [he]
      have HR := Lib.hid hre
      clear hre
      go_enter Tryz.func101, Tryz.ntmps101
      go_wp2_with (go_at_call 43; refine HR.out.mono ?_; rintro e w' ⟨rfl, rfl⟩)
      go_ret2
      exact ⟨rfl, rfl⟩
    | some k =>
      rw [hq] at hl
      have he : findR P s = (k, 0) := by unfold findR; rw [hoff, hq]; rfl
      rw [he]
      have HR := Lib.hid hre
      clear hre
      go_enter Tryz.func101, Tryz.ntmps101
      go_wp2_with (go_at_call 43; refine HR.out.mono ?_; rintro e w' ⟨rfl, rfl⟩)
      go_ret2
      exact ⟨rfl, rfl⟩
  · have he : errR P = 8 := by unfold errR; rw [hoff]; rfl
    rw [he] at hre
    have he : findR P s = (0, 8) := by unfold findR; rw [hoff]; rfl
    rw [he]
    have HR := Lib.hid hre
    clear hre
    go_enter Tryz.func101, Tryz.ntmps101
    go_wp2_with (go_at_call 43; refine HR.out.mono ?_; rintro e w' ⟨rfl, rfl⟩)
    go_ret2
    exact ⟨rfl, rfl⟩

end Go.Proofs.YtlchmkpnehbnlaaGreatDoor.Cd

/-
  Free, Count, Has, Acts, Down; On, Arm; a nil disk. Conditions: none.
-/
namespace Go.Proofs.YtlchmkpnehbnlaaGreatDoor.Cd
open Go.RowKit

section
variable {w : World} {g N bf c1 p1 c2 p2 : Nat} {S : Nat → Prop} {P P' : Pd} {lv lv' : Value}

theorem row_set {w : World} {e : TypeId} {size n : Nat} {xs : List Value} {v : Value} {a : Addr} (h : w.ownsRow 0 e size v n xs) (u : Value) (hne : ∀ b, v.ownBlock = some b → b ≠ a.block) : (w.setCell a u).ownsRow 0 e size v n xs :=
  row_kept h fun b hb => heap_setCell_other _ _ _ _ (hne b hb)

theorem DiskR.cell (h : DiskR w g S P N bf c1 p1 c2 p2 lv) (k : Nat) (v : Value) (P' : Pd) (hd : (dcells P bf c1 p1 c2 p2 lv).setIfInBounds k v = dcells P' bf c1 p1 c2 p2 lv)
    (e : P'.files = P.files ∧ P'.now = P.now ∧ P'.nn = P.nn ∧ P'.safe = P.safe ∧ P'.ns = P.ns ∧ P'.late = P.late) (hf : Fits P' N) : DiskR (w.setCell ⟨g, k, none⟩ v) g S P' N bf c1 p1 c2 p2 lv := by
  obtain ⟨e1, e2, e3, e4, e5, e6⟩ := e
  obtain ⟨n1, n2, n3, n4, n5⟩ := h.neg
  obtain ⟨n, hfl, hn⟩ := h.fil
  obtain ⟨j, hsf, hjj⟩ := h.safe
  refine ⟨hf, ?_, ⟨n, by rw [e1]; exact hfl.setCell (fun e => n1 e.symm) v, hn⟩, ?_, ⟨j, ?_, by rw [e6]; exact hjj⟩, ?_, h.neg, h.nef, h.nes, h.nel, h.ins, h.inl, fun k hk => by rw [World.size_setCell]; exact h.lt k hk⟩
  · rw [← hd]
    exact heap_setCell_same _ _ _ _ _ _ h.row
  · rw [e2, e3]
    exact h.now.heap (heap_setCell_other _ _ _ _ (fun e => n2 e.symm)) (heap_setCell_other _ _ _ _ (fun e => n3 e.symm))
  · rw [e4, e5]
    exact hsf.heap (heap_setCell_other _ _ _ _ (fun e => n4 e.symm)) (heap_setCell_other _ _ _ _ (fun e => n5 e.symm))
  · rw [e6]
    exact row_set h.late _ (fun b hb => (h.nel b hb).1)

theorem DiskR.frozen (h : DiskR w g S P N bf c1 p1 c2 p2 lv) (k : Nat) : w.frozen? ⟨g, k, none⟩ = false := by simp [World.frozen?, h.row]

end

set_option maxRecDepth 100000 in
set_option maxHeartbeats 800000 in
theorem free_any (g N : Nat) (S : Nat → Prop) (P : Pd) (w : World) (h : Rep w g S P N) :
    Calls Tryz.prog 62 #[.pointer (some ⟨g, 0, none⟩)] w (Says (.int .i64 ((P.room : Int) - P.nn)) w) := by
  obtain ⟨bf, c1, p1, c2, p2, lv, h⟩ := h
  have c0 : w.cell? ⟨g, 0, none⟩ = some (.int .i64 P.room) := cell_of_row _ _ _ _ _ _ h.row
  have c4 : w.cell? ⟨g, 4, none⟩ = some (.map (some p1)) := cell_of_row _ _ _ _ _ _ h.row
  have hl := fun ty => h.now.pgs.len ty
  have hl : ∀ ty, (Builtin.len_ #[67] ty #[.map (some p1)]).run Tryz.prog w = .ok (.int .i64 P.nn) w := hl
  have hl2 : ∀ ty, (Builtin.len_ #[67] ty #[.map (some p1)]).run Tryz.prog w.drew = .ok (.int .i64 P.nn) w.drew := fun ty => MapF.len (M := pgK) (h.now.pgs.drew) ty
  have b1 := h.fits.room
  have b2 := h.fits.nns
  clear h
  go_enter Tryz.func62, Tryz.ntmps62
  go_wp2_with fail
  go_region
  all_goals
    go_wp2_with fail
    go_ret
    exact ⟨rfl, (Below.refl _ _).drew⟩

set_option maxRecDepth 100000 in
theorem down_any (g N : Nat) (S : Nat → Prop) (P : Pd) (w : World) (h : Rep w g S P N) :
    Calls Tryz.prog 45 #[.pointer (some ⟨g, 0, none⟩)] w (fun e w' => e = .returned (.bool P.off) ∧ w' = w) := by
  obtain ⟨bf, c1, p1, c2, p2, lv, h⟩ := h
  have c8 : w.cell? ⟨g, 8, none⟩ = some (.bool P.off) := cell_of_row _ _ _ _ _ _ h.row
  clear h
  go_enter Tryz.func45, Tryz.ntmps45
  go_wp2_with fail
  go_ret
  exact ⟨rfl, rfl⟩

def countR (P : Pd) (s : List UInt8) : Nat := if P.off = true then 0 else match P.files s with
  | some k => (P.now k).length
  | none => 0

set_option maxRecDepth 100000 in
set_option maxHeartbeats 800000 in
theorem count_any (g N : Nat) (S : Nat → Prop) (P : Pd) (s : List UInt8) (w : World) (h : Rep w g S P N) (hs : s.length ≤ 140737488355328) :
    Calls Tryz.prog 81 #[.pointer (some ⟨g, 0, none⟩), .string ⟨s.toArray⟩] w (fun e w' => e = .returned (.int .i64 (countR P s : Nat)) ∧ w' = w) := by
  have hre := find_any g N S P s w h hs
  obtain ⟨bf, c1, p1, c2, p2, lv, h⟩ := h
  have c3 : w.cell? ⟨g, 3, none⟩ = some (.map (some c1)) := cell_of_row _ _ _ _ _ _ h.row
  obtain ⟨q, j, hq, _, hq2⟩ := h.now.cnt
  cases hoff : P.off
  · cases hqs : P.files s with
    | none =>
      have he : findR P s = (0, 5) := by unfold findR; rw [hoff, hqs]; rfl
      have he2 : countR P s = 0 := by unfold countR; rw [hoff, hqs]; rfl
      rw [he] at hre
      rw [he2]
      have HR := Lib.hid hre
      clear hre h hq hq2
      go_enter Tryz.func81, Tryz.ntmps81
      go_wp2_with (go_at_call 101; refine HR.out.mono ?_; rintro e w' ⟨rfl, rfl⟩)
      go_ret
      exact ⟨rfl, rfl⟩
    | some k =>
      have he : findR P s = (k, 0) := by unfold findR; rw [hoff, hqs]; rfl
      have he2 : countR P s = (P.now k).length := by unfold countR; rw [hoff, hqs]; rfl
      rw [he] at hre
      rw [he2]
      have hk : k ≤ lim := by have h1 := h.fits.files s k hqs; have h2 := h.fits.made; have h3 := h.fits.top; unfold lim; omega
      have hl := cnt_look hq hk (hq2 k hk)
      have HR := Lib.hid hre
      clear hre h hq hq2 hk
      go_enter Tryz.func81, Tryz.ntmps81
      go_wp2_with (go_at_call 101; refine HR.out.mono ?_; rintro e w' ⟨rfl, rfl⟩)
      go_ret
      exact ⟨rfl, rfl⟩
  · have he : findR P s = (0, 8) := by unfold findR; rw [hoff]; rfl
    have he2 : countR P s = 0 := by unfold countR; rw [hoff]; rfl
    rw [he] at hre
    rw [he2]
    have HR := Lib.hid hre
    clear hre h hq hq2
    go_enter Tryz.func81, Tryz.ntmps81
    go_wp2_with (go_at_call 101; refine HR.out.mono ?_; rintro e w' ⟨rfl, rfl⟩)
    go_ret
    exact ⟨rfl, rfl⟩

def hasR (P : Pd) (s : List UInt8) : Bool := !P.off && (P.files s).isSome

set_option maxRecDepth 100000 in
set_option maxHeartbeats 800000 in
theorem has_any (g N : Nat) (S : Nat → Prop) (P : Pd) (s : List UInt8) (w : World) (h : Rep w g S P N) (hs : s.length ≤ 140737488355328) :
    Calls Tryz.prog 94 #[.pointer (some ⟨g, 0, none⟩), .string ⟨s.toArray⟩] w (fun e w' => e = .returned (.bool (hasR P s)) ∧ w' = w) := by
  have hre := find_any g N S P s w h hs
  have hv : hasR P s = (((findR P s).2 : Int) == 0) := by
    unfold hasR findR
    cases P.off <;> cases P.files s <;> rfl
  rw [hv]
  generalize (findR P s).1 = a at *
  generalize (findR P s).2 = b at *
  have HR := Lib.hid hre
  clear hre h hv
  go_enter Tryz.func94, Tryz.ntmps94
  go_wp2_with (go_at_call 101; refine HR.out.mono ?_; rintro e w' ⟨rfl, rfl⟩)
  all_goals
    go_ret
    exact ⟨by simp_all, rfl⟩

def Makes (g : Nat) (S : Nat → Prop) (P' : Pd) (N : Nat) (v : Value) (w : World) (e : Ending) (w' : World) : Prop :=
  e = .returned v ∧ Rep w' g (since S w w') P' N ∧ Apart S w w'

theorem since_lt {S : Nat → Prop} {w w' : World} (h : ∀ k, S k → k < w.heap.size) (hs : w.heap.size ≤ w'.heap.size) : ∀ k, since S w w' k → k < w'.heap.size := by
  rintro k (h1 | h1)
  · exact Nat.lt_of_lt_of_le (h k h1) hs
  · exact h1.2

theorem apart_setCell {S : Nat → Prop} {w w1 : World} (h : Apart S w w1) {a : Addr} (ha : S a.block) (u : Value) : Apart S w (w1.setCell a u) :=
  ⟨h.os, h.tape, h.output, by rw [World.size_setCell]; exact h.size, fun k hk hn => (heap_setCell_other _ _ _ _ (fun e => hn (by rw [e]; exact ha))).trans (h.block k hk hn)⟩

set_option maxRecDepth 100000 in
theorem on_any (g N : Nat) (S : Nat → Prop) (P : Pd) (w : World) (h : Rep w g S P N) :
    Calls Tryz.prog 23 #[.pointer (some ⟨g, 0, none⟩)] w (Makes g S { P with off := false } N (.tuple #[]) w) := by
  obtain ⟨bf, c1, p1, c2, p2, lv, h⟩ := h
  have c8 : w.cell? ⟨g, 8, none⟩ = some (.bool P.off) := cell_of_row _ _ _ _ _ _ h.row
  have f8 := h.frozen 8
  have H := Lib.hid h
  clear h
  go_enter Tryz.func23, Tryz.ntmps23
  go_wp2_with fail
  go_end0
  have h := H.out
  have hd := h.cell 8 (.bool false) { P with off := false } rfl ⟨rfl, rfl, rfl, rfl, rfl, rfl⟩ ⟨h.fits.top, h.fits.room, h.fits.made, h.fits.acts, h.fits.fuse, h.fits.keep, h.fits.late, h.fits.now, h.fits.safe, h.fits.nns, h.fits.nss, h.fits.files, h.fits.fresh⟩
  exact ⟨rfl, ⟨_, _, _, _, _, _, hd.more (fun _ => .inl) (since_lt h.lt (by simp))⟩, apart_setCell (.refl _ _) h.ins.1 _⟩

end Go.Proofs.YtlchmkpnehbnlaaGreatDoor.Cd

/-
  side.cut: the pages from n on are taken out, from the first on. Conditions: none.
-/
namespace Go.Proofs.YtlchmkpnehbnlaaGreatDoor.Cd
open Go.RowKit

def hole (pg : Pages) (f n a : Nat) : Nat × Int → Option (List UInt8) := fun x => if x.1 = f ∧ (n : Int) ≤ x.2 ∧ x.2 < a then none else lst pg x
theorem hole_none (pg : Pages) (f n : Nat) : hole pg f n n = lst pg := by
  funext x
  unfold hole
  rw [if_neg (by omega)]
theorem hole_upd (pg : Pages) (f n a : Nat) (h : n ≤ a) : upd (hole pg f n a) (f, (a : Int)) none = hole pg f n (a + 1) := by
  funext ⟨g, j⟩
  unfold upd hole
  simp only [Prod.mk.injEq]
  by_cases h1 : g = f ∧ j = a
  · rw [if_pos h1, if_pos (by omega)]
  · rw [if_neg h1]
    by_cases h2 : g = f ∧ (n : Int) ≤ j ∧ j < a
    · rw [if_pos h2, if_pos (by omega)]
    · rw [if_neg h2, if_neg (by omega)]
theorem hole_all (pg : Pages) (f n a : Nat) (h : (pg f).length ≤ a) : hole pg f n a = lst (setF pg f ((pg f).take n)) := by
  funext ⟨g, j⟩
  unfold hole lst setF
  simp only
  by_cases hg : g = f
  · subst hg
    rw [if_pos rfl]
    by_cases hj : 0 ≤ j
    · obtain ⟨j, rfl⟩ := Int.eq_ofNat_of_zero_le hj
      rw [if_pos hj, Int.toNat_natCast, if_pos hj, List.getElem?_take]
      by_cases h2 : j < n
      · rw [if_neg (by omega), if_pos h2]
      · rw [if_neg h2]
        by_cases h3 : j < a
        · rw [if_pos (by omega)]
        · rw [if_neg (by omega), List.getElem?_eq_none (by omega)]
    · rw [if_neg hj, if_neg (by omega), if_neg hj]
  · rw [if_neg hg, if_neg (by omega)]
theorem hole_some (pg : Pages) (f n a : Nat) (h : a < (pg f).length) : (hole pg f n a (f, (a : Int))).isSome = true := by
  unfold hole
  rw [if_neg (by simp)]
  rw [lst_some]
  simpa using h

def SideCut (bc bp : Nat) (f m : Nat) (pg : Pages) (n k : Nat) (w : World) (e : Ending) (w' : World) : Prop :=
  e = .returned (.tuple #[]) ∧ Side w' bc bp (setF pg f ((pg f).take m)) (n - ((pg f).length - m)) (k + 1) ∧ Apart (two bc bp) w w'

set_option maxRecDepth 100000 in
set_option maxHeartbeats 1600000 in
theorem sidecut_any (bc bp f m : Nat) (pg : Pages) (n k : Nat) (w : World) (h : Side w bc bp pg n k) (hf : f ≤ lim) (_hm : m ≤ 9223372036854775807) (hL : (pg f).length ≤ 1048576)
    (hk : k ≤ lim) : Calls Tryz.prog 164 #[.agg #[.map (some bc), .map (some bp)], .int .i64 f, .int .i64 m] w (SideCut bc bp f m pg n k w) := by
  have hlt := h.lt
  obtain ⟨⟨q, j0, hcnt, hjk, hq⟩, hpg, hne⟩ := h
  have HC := Lib.hid hcnt
  have HP := Lib.hid hpg
  have HQ := Lib.hid hq
  have hql := hq f hf
  clear hcnt hpg hq
  unfold lim at hf hk
  go_enter Tryz.func164, Tryz.ntmps164
  go_wp2_with fail
  have e1 : (w.alloc (.cells #[.map (some bc), .map (some bp)] 69)).heap[w.heap.size]? = some (.cells #[.map (some bc), .map (some bp)] 69) := heap_alloc_new _ _
  have hA : Apart (two bc bp) w (w.alloc (.cells #[.map (some bc), .map (some bp)] 69)) := (Apart.refl _ w).alloc _
  have hP := HP.out.alloc (.cells #[.map (some bc), .map (some bp)] 69)
  have hC2 := HC.out.alloc (.cells #[.map (some bc), .map (some bp)] 69)
  have hsw : (w.alloc (.cells #[.map (some bc), .map (some bp)] 69)).heap.size = w.heap.size + 1 := by simp
  generalize w.alloc (.cells #[.map (some bc), .map (some bp)] 69) = w2 at *
  have E1 := Lib.hid e1
  have HA := Lib.hid hA
  have HP2 := Lib.hid hP
  have HC2 := Lib.hid hC2
  clear e1 hA hP hC2 HP HC
  generalize hl : (pg f).length = L at *
  go_loopw [6] (fun a wr => ∃ j, a = .int .i64 (j : Nat) ∧ m ≤ j ∧ j ≤ max L m ∧ Hid (MapF pgK wr bp (n - (j - m)) (hole pg f m j)) ∧ Hid (w2.grownBy wr (some bp))) (fun a _ => L - (intOf a).toNat)
  case atStart => exact ⟨m, rfl, Nat.le_refl _, by omega, by rw [Nat.sub_self, hole_none]; exact HP2.out, ⟨rfl, rfl, rfl, Nat.le_refl _, fun _ _ _ => rfl⟩⟩
  case round =>
    obtain ⟨j, rfl, hj1, hj2, hp2, hg⟩ := hrel
    have b1 : Hid (wr.heap[w.heap.size]? = some (.cells #[.map (some bc), .map (some bp)] 69)) := (hg.out.block w.heap.size (by omega) (by simp; omega)).trans E1.out
    have c0 : wr.cell? ⟨w.heap.size, 0, none⟩ = some (.map (some bc)) := cell_of_row _ _ _ _ _ _ b1.out
    have c1 : wr.cell? ⟨w.heap.size, 1, none⟩ = some (.map (some bp)) := cell_of_row _ _ _ _ _ _ b1.out
    have HC3 := Lib.hid (HC2.out.grown hg.out (by simp; exact hne))
    have hl3 := cnt_look HC3.out (f := f) (c := L) (by unfold lim; omega) (by rw [hql])
    by_cases hlt : j < L
    · have hlti : (j : Int) < L := by omega
      have HST := Lib.hid (hole_some pg f m j (by omega))
      have HUP := Lib.hid (hole_upd pg f m j hj1)
      go_wp2_with (first | (refine wp_drop pgK rfl _ _ rfl bp _ _ rfl hp2.out (f, (j : Int)) rfl ⟨by unfold lim; omega, WalkArith.wf_i64 (by omega)⟩ (n - (j + 1 - m)) (by rw [HST.out]; simp; omega) ?hK) | fail)
      intro w3 hp3 hg3
      rw [HUP.out] at hp3
      have HP3 := Lib.hid hp3
      have HG3 := Lib.hid hg3
      clear hp3 hg3
      go_wp2_with fail
      go_roundw
      case rel => exact ⟨j + 1, by go_num, by omega, by omega, HP3.out, hg.out.trans HG3.out⟩
      case measure => simp [intOf]; omega
    · have hge : (L : Int) ≤ j := by omega
      have hall := hole_all pg f m j (by omega)
      have hnn : n - (j - m) = n - (L - m) := by omega
      have hp4 := hp2.out
      rw [hall, hnn] at hp4
      have HP3 := Lib.hid hp4
      have hj3 : j0 + (if (q f).isSome = true then 0 else 1) ≤ k + 1 := by split <;> omega
      obtain ⟨j4, hj4⟩ : ∃ j4, j0 + (if (q f).isSome = true then 0 else 1) = j4 := ⟨_, rfl⟩
      rw [hj4] at hj3
      have HJ4 := Lib.hid hj4
      have hlen : Hid (((pg f).take m).length = min m L) := by unfold Hid; rw [List.length_take, hl]
      clear hj4 hall hp4
      by_cases hmx : L ≤ m
      · have hmx2 : (L : Int) ≤ m := by omega
        go_wp2_with (first | (refine wp_store cntK rfl _ _ _ rfl bc _ _ rfl HC3.out (by unfold maxLen; omega) f rfl (by unfold cntK lim; omega) L rfl trivial j4 HJ4.out ?hK3) | fail)
        intro w4 hc4 hg4
        have HC4 := Lib.hid hc4
        have HP4 := Lib.hid (HP3.out.grown hg4 (by simp; omega))
        have HA4 : Hid (Apart (two bc bp) w w4) := (HA.out.step hg.out (fun x e => by injection e with e; exact .inl (.inr e.symm))).step hg4 (fun x e => by injection e with e; exact .inl (.inl e.symm))
        clear hc4 hg4
        go_wp2_with fail
        go_end0
        exact ⟨rfl, ⟨⟨_, j4, HC4.out, hj3, cnt_store HQ.out (by rw [hlen.out]; omega)⟩, (by rw [hl]; exact HP4.out), hne⟩, HA4.out⟩
      · have hmx2 : (m : Int) < L := by omega
        go_wp2_with (first | (refine wp_store cntK rfl _ _ _ rfl bc _ _ rfl HC3.out (by unfold maxLen; omega) f rfl (by unfold cntK lim; omega) m rfl trivial j4 HJ4.out ?hK4) | fail)
        intro w4 hc4 hg4
        have HC4 := Lib.hid hc4
        have HP4 := Lib.hid (HP3.out.grown hg4 (by simp; omega))
        have HA4 : Hid (Apart (two bc bp) w w4) := (HA.out.step hg.out (fun x e => by injection e with e; exact .inl (.inr e.symm))).step hg4 (fun x e => by injection e with e; exact .inl (.inl e.symm))
        clear hc4 hg4
        go_wp2_with fail
        go_end0
        exact ⟨rfl, ⟨⟨_, j4, HC4.out, hj3, cnt_store HQ.out (by rw [hlen.out]; omega)⟩, (by rw [hl]; exact HP4.out), hne⟩, HA4.out⟩

end Go.Proofs.YtlchmkpnehbnlaaGreatDoor.Cd
