/-
  A table in the program: a map of writes by their keys. Conditions: none.
-/
import Derived.Test.YtcliknmcefcaeaaTbRows
import Derived.Test.YtcliknmcefcaeaaMaps
namespace Go.Proofs.Ytcliknmcefcaeaa.Cd
open Go.RowKit Go.Maps

def wrD (p : Wr) : DataW Unit := .agg [.lit (.string p.1), .lit (.string p.2.1), .lit (.bool p.2.2)]
theorem wrD_inj {p q : Wr} (h : wrD p = wrD q) : p = q := by
  obtain ⟨a, b, c⟩ := p
  obtain ⟨a', b', c'⟩ := q
  simp only [wrD, DataW.agg.injEq, List.cons.injEq, DataW.lit.injEq, Lit.string.injEq, Lit.bool.injEq, and_true] at h
  obtain ⟨rfl, rfl, rfl⟩ := h
  rfl
def wrR (v : Value) : Option (DataW Unit × List MemPlace) := match v with
  | .agg ⟨[.string k, .string x, .bool g]⟩ => some (wrD ⟨k.data.toList, x.data.toList, g⟩, [])
  | _ => none
theorem wrR_val (p : Wr) : wrR (wrV p) = some (wrD p, []) := by
  obtain ⟨a, b, c⟩ := p
  show some (wrD ⟨a.toArray.toList, b.toArray.toList, c⟩, []) = _
  simp
theorem wrR_inv {u : Value} {x : DataW Unit × List MemPlace} (h : wrR u = some x) : ∃ p : Wr, u = wrV p ∧ x = (wrD p, []) := by
  unfold wrR at h
  split at h
  · injection h with h
    rename_i k x' g
    refine ⟨⟨k.data.toList, x'.data.toList, g⟩, ?_, h.symm⟩
    unfold wrV
    simp
  · cases h

/-- map[string]Write. -/
def wrK : MKind (List UInt8) Wr where
  T := 61
  K := 9
  E := 29
  R := wrR
  key := fun s => .string ⟨s.toArray⟩
  ok := fun s => s.length ≤ maxLen
  lit := fun s => .string s
  val := wrV
  okv := fun _ => True
  dat := wrD
  z0 := ⟨[], [], false⟩
  law := string_keyed Try.underlying9
  under := Try.underlying61
  keyed := fun h => by
    have := WideMaps.keyOf_string_mk Try.underlying9 (s := ⟨(_ : List UInt8).toArray⟩) h
    simpa using this
  one := fun h => by
    injection h with h
    injection h with h
    simpa using congrArg Array.toList h
  read := fun {v} _ => wrR_val v
  inv := fun {u v ps} h => by
    obtain ⟨p, rfl, e⟩ := wrR_inv h
    injection e with e1 e2
    rw [wrD_inj e1]
    exact ⟨rfl, trivial⟩
  okz := trivial
  zero := fun w => Try.zeroValue29 w

theorem wr_look {w : World} {b n : Nat} {k : List UInt8} {q : List UInt8 → Option Wr} (h : MapF wrK w b n q) (hk : k.length ≤ maxLen) :
    (Instr.lookup 61 (.map (some b)) (.string ⟨k.toArray⟩) true).run Try.prog w = .ok (.tuple #[wrV ((q k).getD ⟨[], [], false⟩), .bool (q k).isSome]) w := h.look_ok (x := k) hk

theorem Fit.key {p : Wr} (h : Fit p) : p.1.length ≤ maxLen := by have := h.1; simp only [maxLen]; omega

/-- Block b is a table's map. -/
def TabM (w : World) (b : Nat) (T : List Wr) : Prop := MapF wrK w b T.length (getW T) ∧ SrtW T ∧ FlatW T ∧ FitW T
/-- At g lies the table T. -/
def TabAt (w : World) (g : Nat) (T : List Wr) : Prop := ∃ b, g < w.heap.size ∧ w.cell? ⟨g, 0, none⟩ = some (.map (some b)) ∧ TabM w b T
/-- A pointer to the table T, or nil, a table of no writes. -/
def TabV (w : World) (v : Value) (T : List Wr) : Prop := (v = .pointer none ∧ T = []) ∨ ∃ g, v = .pointer (some ⟨g, 0, none⟩) ∧ TabAt w g T

section
variable {w w' : World} {b g : Nat} {T : List Wr} {v : Value}
theorem TabM.lt (h : TabM w b T) : b < w.heap.size := h.1.lt
theorem TabM.below (h : TabM w b T) (hb : Below w.heap.size w w') : TabM w' b T := ⟨h.1.below hb h.lt, h.2⟩
theorem TabM.low {B : Nat} (h : TabM w b T) (hb : Below B w w') (hlt : b < B) : TabM w' b T := ⟨h.1.below hb hlt, h.2⟩
theorem TabM.grown {r : Option Nat} (h : TabM w b T) (hg : w.grownBy w' r) (hne : some b ≠ r) : TabM w' b T := ⟨h.1.grown hg hne, h.2⟩
theorem TabAt.below (h : TabAt w g T) (hb : Below w.heap.size w w') : TabAt w' g T := by
  obtain ⟨b, h1, h2, h3⟩ := h
  exact ⟨b, Nat.lt_of_lt_of_le h1 hb.size, (hb.cell (p := ⟨g, 0, none⟩) h1).trans h2, h3.below hb⟩
theorem TabV.below (h : TabV w v T) (hb : Below w.heap.size w w') : TabV w' v T := by
  rcases h with h | ⟨g, h1, h2⟩
  · exact .inl h
  · exact .inr ⟨g, h1, h2.below hb⟩
theorem TabAt.srt (h : TabAt w g T) : SrtW T := by obtain ⟨_, _, _, h⟩ := h; exact h.2.1
theorem TabV.srt (h : TabV w v T) : SrtW T := by
  rcases h with ⟨_, rfl⟩ | ⟨g, _, h⟩
  · exact List.Pairwise.nil
  · exact h.srt
theorem TabV.flat (h : TabV w v T) : FlatW T := by
  rcases h with ⟨_, rfl⟩ | ⟨g, _, _, _, _, h⟩
  · exact fun _ h => by cases h
  · exact h.2.2.1
theorem TabV.fit (h : TabV w v T) : FitW T := by
  rcases h with ⟨_, rfl⟩ | ⟨g, _, _, _, _, h⟩
  · exact fun _ h => by cases h
  · exact h.2.2.2
/-- An empty map that was made a moment ago. -/
theorem TabM.made (w : World) : TabM (w.alloc (.map #[] 0)) w.heap.size [] := ⟨MapF.made wrK w, List.Pairwise.nil, (fun _ h => by cases h), (fun _ h => by cases h)⟩

/-- A write is put in. -/
theorem wp_put_wr {ops : Array Oper} {rest : List Oper} {o : Oper} {a : Act} {Q : Exit → Act → World → Prop} (hgd : o.guard = none) (m x y : Operand) (hop : o.op = Op.mapUpdate 61 m x y) (b : Nat) (T : List Wr) (hm : a.eval m = .map (some b)) (h : TabM w b T) (hn : T.length < maxLen)
    (p : Wr) (hx : a.eval x = .string ⟨p.1.toArray⟩) (hv : a.eval y = wrV p) (hp : flatG p = p) (hf : Fit p)
    (hK : ∀ w', TabM w' b (insW T p) → w.grownBy w' (some b) → wpList Try.prog ops Q rest (a.put o.dst undef) w') : wpList Try.prog ops Q (o :: rest) a w := by
  obtain ⟨h1, h2, h3, h4⟩ := h
  refine wp_store wrK hgd m x y hop b _ _ hm h1 hn p.1 hx hf.key p hv trivial _ (ins_len h2 p).symm fun w' hw' hg => hK w' ⟨hw'.congr fun k _ => ?_, ins_srt h2 p, ins_flat h3 hp, h4.ins hf⟩ hg
  rw [getW_ins]
  unfold upd
  split <;> rfl
/-- The same, for a region that draws its order. -/
theorem TabM.put (h : TabM w b T) (hn : T.length < maxLen) (p : Wr) (hp : flatG p = p) (hf : Fit p) :
    ∃ w', (Instr.mapUpdate 61 (.map (some b)) (.string ⟨p.1.toArray⟩) (.agg #[.string ⟨p.1.toArray⟩, .string ⟨p.2.1.toArray⟩, .bool p.2.2])).run Try.prog w = .ok () w' ∧ TabM w' b (insW T p) ∧ w.grownBy w' (some b) := by
  obtain ⟨h1, h2, h3, h4⟩ := h
  obtain ⟨w', hrun, r1, r2⟩ := MapF.store (M := wrK) h1 hn (x := p.1) hf.key (v := p) trivial
  refine ⟨w', hrun, ⟨?_, ins_srt h2 p, ins_flat h3 hp, h4.ins hf⟩, r2.grown⟩
  rw [ins_len h2 p]
  refine r1.congr fun k _ => ?_
  rw [getW_ins]
  unfold upd
  split <;> rfl
end

end Go.Proofs.Ytcliknmcefcaeaa.Cd
