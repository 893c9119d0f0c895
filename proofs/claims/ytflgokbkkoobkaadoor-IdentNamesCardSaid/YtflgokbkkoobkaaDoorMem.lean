/-
  Slices of bytes that read as a list of bytes; what append and a conversion do to them. Conditions: none.
-/
import Derived.Test.YtflgokbkkoobkaaDoorRows
import Derived.WalkKit
import Derived.WalkSpells
import Derived.WalkLawsBesides
import Derived.Outline
import Derived.ArgAppend
import Derived.Laws.BytesString
import Derived.Laws.IdiomStrings
import Derived.Lib.AppendStr
import Derived.Lib.ConvBytes
import Derived.Lib.BufferRead
import Derived.Lib.Hide
import Derived.Test.YtflgokbkkoobkaaDoorMath
namespace Go.Proofs.YtflgokbkkoobkaaDoor.Cd
open Go.RowKit

/-- Bytes as cells. -/
def vb (bs : List UInt8) : List Value := bs.map fun b => Value.int .u8 b.toNat

theorem vb_length (bs : List UInt8) : (vb bs).length = bs.length := by simp [vb]
theorem vb_append (a b : List UInt8) : vb (a ++ b) = vb a ++ vb b := by simp [vb]
theorem vb_at (bs : List UInt8) (j : Nat) (hj : j < bs.length) : (vb bs)[j]? = some (.int .u8 (bs[j]).toNat) := by simp [vb, hj]
theorem vb_one (bs : List UInt8) : ∀ u ∈ vb bs, u.oneCell' = true := by
  intro u hu
  simp only [vb, List.mem_map] at hu
  obtain ⟨b, _, rfl⟩ := hu
  rfl

/-- A slice value that reads as the bytes 'bs'; where it has bytes its block lies below B. -/
def Sl (w : World) (B : Nat) (v : Value) (bs : List UInt8) : Prop :=
  ∃ A c, v = .slice A bs.length c ∧ bs.length ≤ c ∧ c ≤ maxLen ∧ (A = none → c = 0) ∧ (∀ ad, A = some ad → 0 < bs.length → ad.block < B) ∧
    ∀ ad, A = some ad → ∀ j u, (vb bs)[j]? = some u → w.cell? (ad.add j) = some u

theorem Sl.nil (w : World) (B : Nat) : Sl w B (.slice none 0 0) [] := ⟨none, 0, rfl, by simp, by simp, fun _ => rfl, fun _ h => by simp at h, fun _ h => by simp at h⟩

theorem block_of_add (a : Addr) (n : Nat) : (a.add n).block = a.block := by unfold Addr.add; split <;> rfl

theorem Sl.keep {w w' : World} {B : Nat} {v : Value} {bs : List UInt8} (h : Sl w B v bs) (hk : ∀ p : Addr, p.block < B → w'.cell? p = w.cell? p) : Sl w' B v bs := by
  obtain ⟨A, c, h1, h2, h3, h4, h5, h6⟩ := h
  refine ⟨A, c, h1, h2, h3, h4, h5, fun ad e j u hu => ?_⟩
  have hj : j < bs.length := by
    have := (List.getElem?_eq_some_iff.1 hu).1
    rwa [vb_length] at this
  rw [hk _ (by rw [block_of_add]; exact h5 ad e (by omega))]
  exact h6 ad e j u hu

theorem Sl.below {w w' : World} {B : Nat} {v : Value} {bs : List UInt8} (h : Sl w B v bs) (hb : Below B w w') : Sl w' B v bs := h.keep fun _ hp => hb.cell hp

theorem Sl.more {w : World} {B B' : Nat} {v : Value} {bs : List UInt8} (h : Sl w B v bs) (hB : B ≤ B') : Sl w B' v bs := by
  obtain ⟨A, c, h1, h2, h3, h4, h5, h6⟩ := h
  exact ⟨A, c, h1, h2, h3, h4, fun ad e hn => Nat.lt_of_lt_of_le (h5 ad e hn) hB, h6⟩

/-- A row of the call's own that holds the bytes. -/
def Own (w : World) (B : Nat) (v : Value) (bs : List UInt8) : Prop := w.ownsRow B 5 1 v bs.length (vb bs)

theorem Own.sl {w : World} {B : Nat} {v : Value} {bs : List UInt8} (h : Own w B v bs) : Sl w w.heap.size v bs := by
  have hlt := h.lt
  have hc := fun g hg => h.cells (g := g) hg
  rcases h.2 with ⟨rfl, h0⟩ | ⟨g, cap, cur, rfl, _, hg, hn, hm, _, _⟩
  · have : bs = [] := List.eq_nil_of_length_eq_zero h0
    subst this
    exact Sl.nil _ _
  · exact ⟨_, cap, rfl, hn, hm, (fun h => by cases h), (fun ad e _ => by injection e with e; subst e; exact (hlt g rfl).2), fun ad e => by injection e with e; subst e; exact hc g rfl⟩

theorem Own.lower {w : World} {B B' : Nat} {v : Value} {bs : List UInt8} (h : Own w B v bs) (hB : B' ≤ B) : Own w B' v bs := by
  refine ⟨h.1, ?_⟩
  rcases h.2 with h2 | ⟨g, cap, cur, hv, hg, r⟩
  · exact .inl h2
  · exact .inr ⟨g, cap, cur, hv, Nat.le_trans hB hg, r⟩

/-- What a writer leaves: the bytes in a row of its own, and all that was there as it was. -/
def Wrote (w : World) (bs : List UInt8) (e : Ending) (w' : World) : Prop :=
  ∃ v, e = .returned v ∧ Own w' w.heap.size v bs ∧ Below w.heap.size w w'

theorem info5 : (Tryd.prog.info? 5).map (fun i => (i.zero, i.size, i.bytes)) = some (some (.int .u8 0), 1, 1) := by kernel_rfl

/-- Either a row of the call's own, or a slice without spare room. -/
def Out (w : World) (B : Nat) (v : Value) (bs : List UInt8) : Prop :=
  Own w B v bs ∨ ∃ A, v = .slice A bs.length bs.length ∧ (A = none → bs = []) ∧ ∀ ad, A = some ad → ∀ j u, (vb bs)[j]? = some u → w.cell? (ad.add j) = some u

theorem cell_kept {w w' : World} (hb : Below w.heap.size w w') {p : Addr} {u : Value} (h : w.cell? p = some u) : w'.cell? p = some u :=
  (hb.cell (World.block_lt_of_cell? w p h)).trans h

theorem Out.alloc {w : World} {B : Nat} {v : Value} {bs : List UInt8} (h : Out w B v bs) (o : Obj) : Out (w.alloc o) B v bs := by
  rcases h with h | ⟨A, h1, h2, h3⟩
  · exact .inl (World.ownsRow.alloc h o)
  · exact .inr ⟨A, h1, h2, fun ad e j u hu => cell_kept ((Below.refl _ _).alloc (Nat.le_refl _) _) (h3 ad e j u hu)⟩

theorem run_append_out (w : World) (B : Nat) (v : Value) (bs : List UInt8) (ho : Out w B v bs) (hB : B ≤ w.heap.size) (ad : Addr) (c : Nat) (ns : List UInt8) (h1 : 1 ≤ ns.length)
    (hnews : ∀ j u, (vb ns)[j]? = some u → w.cell? (ad.add j) = some u) (hm : bs.length + ns.length ≤ 140737488355328) (ty : TypeId) :
    ∃ v' w', (Builtin.append_ #[22, 22] ty #[v, .slice (some ad) ns.length c]).run Tryd.prog w = .ok v' w' ∧ Own w' B v' (bs ++ ns) ∧ Below B w w' := by
  obtain ⟨i0, hi, hz0, hz1, hz2⟩ := info_parts info5
  have hmax : bs.length + ns.length ≤ maxLen := by simp only [maxLen]; omega
  rcases ho with ho | ⟨A, rfl, hA, hc⟩
  · obtain ⟨v', w', hr, h2, h3, _⟩ := run_append_own (P := Tryd.prog) w B 22 ty 5 i0 _ 1 1 Tryd.underlying22 hi hz0 hz1 hz2 rfl (by omega) v bs.length (vb bs) ho ad ns.length c (vb ns) (by simp [vb]) hnews (vb_one ns) hmax (by omega) hB
    refine ⟨v', w', hr, ?_, (Below.refl _ _).grown h3 hB (fun k hk => (ho.lt k hk).1)⟩
    unfold Own
    rw [vb_append, List.length_append]
    exact h2
  · cases A with
    | some b =>
      obtain ⟨v', w', hrun, r1, r2⟩ := run_append_arg_grows (P := Tryd.prog) w 22 ty 5 i0 _ 1 1 Tryd.underlying22 hi hz0 hz1 hz2 rfl (by omega) b bs.length bs.length (vb bs) (by simp [vb]) (hc b rfl) ad ns.length c (vb ns) (by simp [vb]) hnews (by omega) hmax (by omega)
      refine ⟨v', w', hrun, ?_, (Below.refl _ _).grown r2 hB (fun k hk => by cases hk)⟩
      refine Own.lower (B := w.heap.size) ?_ hB
      unfold Own
      rw [vb_append, List.length_append]
      exact r1
    | none =>
      obtain rfl := hA rfl
      obtain ⟨v', w', hrun, r1, r2, _⟩ := run_append_own (P := Tryd.prog) w B 22 ty 5 i0 _ 1 1 Tryd.underlying22 hi hz0 hz1 hz2 rfl (by omega) (.slice none 0 0) 0 [] (World.ownsRow_nil w _ 5 1) ad ns.length c (vb ns) (by simp [vb]) hnews (vb_one ns) (by simpa using hmax) (by simpa using hm) hB
      refine ⟨v', w', hrun, ?_, (Below.refl _ _).grown r2 hB (fun k hk => by cases hk)⟩
      unfold Own
      simpa using r1

/-- append of bytes, for the walk. -/
theorem wp_append_out {w : World} {ops : Array Oper} {rest : List Oper} {o : Oper} {a : Act} {Q : Exit → Act → World → Prop} (hgd : o.guard = none) (s x : Operand)
    (hop : o.op = .call { callee := .builtin .append, args := #[s, x], argTypes := #[22, 22] })
    (B : Nat) (v : Value) (bs : List UInt8) (hs : a.eval s = v) (ho : Out w B v bs) (hB : B ≤ w.heap.size) (ad : Addr) (c : Nat) (ns : List UInt8) (hx : a.eval x = .slice (some ad) ns.length c)
    (h1 : 1 ≤ ns.length) (hnews : ∀ j u, (vb ns)[j]? = some u → w.cell? (ad.add j) = some u) (hm : bs.length + ns.length ≤ 140737488355328)
    (hK : ∀ v' w', Own w' B v' (bs ++ ns) → Below B w w' → wpList Tryd.prog ops Q rest (a.put o.dst v') w') : wpList Tryd.prog ops Q (o :: rest) a w := by
  refine wpList_plain hgd fun K hK' => ?_
  obtain ⟨v', w', hrun, r1, r2⟩ := run_append_out w B v bs ho hB ad c ns h1 hnews hm o.type
  unfold Oper.wp
  simp [execOp, hop, resolve, invoke, builtin, hs, hx, hrun, Result.andThen]
  exact hK' _ _ (hK v' w' r1 r2)

/-- append of a string's bytes, for the walk. -/
theorem wp_append_text {w : World} {ops : Array Oper} {rest : List Oper} {o : Oper} {a : Act} {Q : Exit → Act → World → Prop} (hgd : o.guard = none) (s x : Operand)
    (hop : o.op = .call { callee := .builtin .append, args := #[s, x], argTypes := #[22, 9] })
    (B : Nat) (v : Value) (bs : List UInt8) (hs : a.eval s = v) (ho : Own w B v bs) (hB : B ≤ w.heap.size) (t : ByteArray) (hx : a.eval x = .string t)
    (hm : bs.length + t.size ≤ 140737488355328)
    (hK : ∀ v' w', Own w' B v' (bs ++ t.data.toList) → Below B w w' → wpList Tryd.prog ops Q rest (a.put o.dst v') w') : wpList Tryd.prog ops Q (o :: rest) a w := by
  obtain ⟨i0, hi, hz0, hz1, hz2⟩ := info_parts info5
  have hmax : bs.length + t.size ≤ maxLen := by simp only [maxLen]; omega
  refine wpList_plain hgd fun K hK' => ?_
  obtain ⟨v', w', hrun, r1, r2⟩ := Lib.run_append_own_string (P := Tryd.prog) w B 22 9 o.type 5 i0 Tryd.underlying22 Tryd.underlying9 hi hz0 hz1 hz2 v bs.length (vb bs) ho t hmax (by omega) hB
  unfold Oper.wp
  simp [execOp, hop, resolve, invoke, builtin, hs, hx, hrun, Result.andThen]
  refine hK' _ _ (hK v' w' ?_ ((Below.refl _ _).grown r2.1 hB (fun k hk => (ho.lt k hk).1)))
  unfold Own
  rw [vb_append, List.length_append]
  exact r1

/-- string(b), of bytes. -/
theorem run_text_of (w : World) (B : Nat) (v : Value) (bs : List UInt8) (h : Sl w B v bs) : (convert 22 9 v).run Tryd.prog w = .ok (.string ⟨bs.toArray⟩) w := by
  obtain ⟨A, c, rfl, _, _, h4, _, h6⟩ := h
  cases A with
  | some ad => exact run_convert_bytes_back w 22 9 5 ad c bs Tryd.underlying22 Tryd.underlying5 Tryd.underlying9 fun j hj => h6 ad rfl j _ (vb_at bs j hj)
  | none =>
    have hc := h4 rfl
    subst hc
    have : bs = [] := List.eq_nil_of_length_eq_zero (by omega)
    subst this
    exact Lib.run_convert_nil_bytes w 22 9 5 0 Tryd.underlying22 Tryd.underlying5 Tryd.underlying9

/-- string([]byte{..}) of one byte that lies in a block of its own. -/
theorem run_text_one (w : World) (g c : Nat) (x : Int) (b : UInt8) (hx : x = (b.toNat : Int)) (hc : w.cell? ⟨g, 0, none⟩ = some (.int .u8 x)) :
    (convert 22 9 (.slice (some ⟨g, 0, none⟩) 1 c)).run Tryd.prog w = .ok (.string ⟨#[b]⟩) w := by
  subst hx
  exact run_convert_bytes_back w 22 9 5 ⟨g, 0, none⟩ c [b] Tryd.underlying22 Tryd.underlying5 Tryd.underlying9 fun j hj => by
    obtain rfl : j = 0 := by simp at hj; omega
    simpa [Addr.add] using hc

end Go.Proofs.YtflgokbkkoobkaaDoor.Cd
