/-
  code.Uint: a number's bytes behind bytes. Conditions: none.
-/
import Derived.Test.YthbahbcihaebeaaDoorRows
import Derived.WalkKit
import Derived.WalkSpells
import Derived.WalkLawsBesides
import Derived.Outline
import Derived.ArgAppend
import Derived.Laws.BytesString
import Derived.Laws.IdiomStrings
import Derived.Lib.AppendStr
import Derived.Lib.ConvBytes
import Derived.Lib.BufferRead
import Derived.Lib.Hide
import Derived.Test.YthbahbcihaebeaaDoorG1
import Derived.LoopTactic
import Derived.IntWalk
import Derived.Laws.BitsAllLaws
/-
  Slices of bytes that read as a list of bytes; what append and a conversion do to them. Conditions: none.
-/
namespace Go.Proofs.YthbahbcihaebeaaDoor.Cd
open Go.RowKit

/-- Bytes as cells. -/
def vb (bs : List UInt8) : List Value := bs.map fun b => Value.int .u8 b.toNat

theorem vb_length (bs : List UInt8) : (vb bs).length = bs.length := by simp [vb]
theorem vb_append (a b : List UInt8) : vb (a ++ b) = vb a ++ vb b := by simp [vb]
theorem vb_at (bs : List UInt8) (j : Nat) (hj : j < bs.length) : (vb bs)[j]? = some (.int .u8 (bs[j]).toNat) := by simp [vb, hj]
theorem vb_one (bs : List UInt8) : ∀ u ∈ vb bs, u.oneCell' = true := by
  intro u hu
  simp only [vb, List.mem_map] at hu
  obtain ⟨b, _, rfl⟩ := hu
  rfl

/-- A slice value that reads as the bytes 'bs'; where it has bytes its block lies below B. -/
def Sl (w : World) (B : Nat) (v : Value) (bs : List UInt8) : Prop :=
  ∃ A c, v = .slice A bs.length c ∧ bs.length ≤ c ∧ c ≤ maxLen ∧ (A = none → c = 0) ∧ (∀ ad, A = some ad → 0 < bs.length → ad.block < B) ∧
    ∀ ad, A = some ad → ∀ j u, (vb bs)[j]? = some u → w.cell? (ad.add j) = some u

theorem Sl.nil (w : World) (B : Nat) : Sl w B (.slice none 0 0) [] := ⟨none, 0, rfl, by simp, by simp, fun _ => rfl, fun _ h => by simp at h, fun _ h => by simp at h⟩

theorem block_of_add (a : Addr) (n : Nat) : (a.add n).block = a.block := by unfold Addr.add; split <;> rfl

theorem Sl.keep {w w' : World} {B : Nat} {v : Value} {bs : List UInt8} (h : Sl w B v bs) (hk : ∀ p : Addr, p.block < B → w'.cell? p = w.cell? p) : Sl w' B v bs := by
  obtain ⟨A, c, h1, h2, h3, h4, h5, h6⟩ := h
  refine ⟨A, c, h1, h2, h3, h4, h5, fun ad e j u hu => ?_⟩
  have hj : j < bs.length := by
    have := (List.getElem?_eq_some_iff.1 hu).1
    rwa [vb_length] at this
  rw [hk _ (by rw [block_of_add]; exact h5 ad e (by omega))]
  exact h6 ad e j u hu

theorem Sl.below {w w' : World} {B : Nat} {v : Value} {bs : List UInt8} (h : Sl w B v bs) (hb : Below B w w') : Sl w' B v bs := h.keep fun _ hp => hb.cell hp

theorem Sl.more {w : World} {B B' : Nat} {v : Value} {bs : List UInt8} (h : Sl w B v bs) (hB : B ≤ B') : Sl w B' v bs := by
  obtain ⟨A, c, h1, h2, h3, h4, h5, h6⟩ := h
  exact ⟨A, c, h1, h2, h3, h4, fun ad e hn => Nat.lt_of_lt_of_le (h5 ad e hn) hB, h6⟩

/-- A row of the call's own that holds the bytes. -/
def Own (w : World) (B : Nat) (v : Value) (bs : List UInt8) : Prop := w.ownsRow B 5 1 v bs.length (vb bs)

theorem Own.sl {w : World} {B : Nat} {v : Value} {bs : List UInt8} (h : Own w B v bs) : Sl w w.heap.size v bs := by
  have hlt := h.lt
  have hc := fun g hg => h.cells (g := g) hg
  rcases h.2 with ⟨rfl, h0⟩ | ⟨g, cap, cur, rfl, _, hg, hn, hm, _, _⟩
  · have : bs = [] := List.eq_nil_of_length_eq_zero h0
    subst this
    exact Sl.nil _ _
  · exact ⟨_, cap, rfl, hn, hm, (fun h => by cases h), (fun ad e _ => by injection e with e; subst e; exact (hlt g rfl).2), fun ad e => by injection e with e; subst e; exact hc g rfl⟩

theorem Own.lower {w : World} {B B' : Nat} {v : Value} {bs : List UInt8} (h : Own w B v bs) (hB : B' ≤ B) : Own w B' v bs := by
  refine ⟨h.1, ?_⟩
  rcases h.2 with h2 | ⟨g, cap, cur, hv, hg, r⟩
  · exact .inl h2
  · exact .inr ⟨g, cap, cur, hv, Nat.le_trans hB hg, r⟩

/-- What a writer leaves: the bytes in a row of its own, and all that was there as it was. -/
def Wrote (w : World) (bs : List UInt8) (e : Ending) (w' : World) : Prop :=
  ∃ v, e = .returned v ∧ Own w' w.heap.size v bs ∧ Below w.heap.size w w'

theorem info5 : (Tryd.prog.info? 5).map (fun i => (i.zero, i.size, i.bytes)) = some (some (.int .u8 0), 1, 1) := by kernel_rfl

/-- Either a row of the call's own, or a slice without spare room. -/
def Out (w : World) (B : Nat) (v : Value) (bs : List UInt8) : Prop :=
  Own w B v bs ∨ ∃ A, v = .slice A bs.length bs.length ∧ (A = none → bs = []) ∧ ∀ ad, A = some ad → ∀ j u, (vb bs)[j]? = some u → w.cell? (ad.add j) = some u

theorem cell_kept {w w' : World} (hb : Below w.heap.size w w') {p : Addr} {u : Value} (h : w.cell? p = some u) : w'.cell? p = some u :=
  (hb.cell (World.block_lt_of_cell? w p h)).trans h

theorem Out.alloc {w : World} {B : Nat} {v : Value} {bs : List UInt8} (h : Out w B v bs) (o : Obj) : Out (w.alloc o) B v bs := by
  rcases h with h | ⟨A, h1, h2, h3⟩
  · exact .inl (World.ownsRow.alloc h o)
  · exact .inr ⟨A, h1, h2, fun ad e j u hu => cell_kept ((Below.refl _ _).alloc (Nat.le_refl _) _) (h3 ad e j u hu)⟩

theorem run_append_out (w : World) (B : Nat) (v : Value) (bs : List UInt8) (ho : Out w B v bs) (hB : B ≤ w.heap.size) (ad : Addr) (c : Nat) (ns : List UInt8) (h1 : 1 ≤ ns.length)
    (hnews : ∀ j u, (vb ns)[j]? = some u → w.cell? (ad.add j) = some u) (hm : bs.length + ns.length ≤ 140737488355328) (ty : TypeId) :
    ∃ v' w', (Builtin.append_ #[73, 73] ty #[v, .slice (some ad) ns.length c]).run Tryd.prog w = .ok v' w' ∧ Own w' B v' (bs ++ ns) ∧ Below B w w' := by
  obtain ⟨i0, hi, hz0, hz1, hz2⟩ := info_parts info5
  have hmax : bs.length + ns.length ≤ maxLen := by simp only [maxLen]; omega
  rcases ho with ho | ⟨A, rfl, hA, hc⟩
  · obtain ⟨v', w', hr, h2, h3, _⟩ := run_append_own (P := Tryd.prog) w B 73 ty 5 i0 _ 1 1 Tryd.underlying73 hi hz0 hz1 hz2 rfl (by omega) v bs.length (vb bs) ho ad ns.length c (vb ns) (by simp [vb]) hnews (vb_one ns) hmax (by omega) hB
    refine ⟨v', w', hr, ?_, (Below.refl _ _).grown h3 hB (fun k hk => (ho.lt k hk).1)⟩
    unfold Own
    rw [vb_append, List.length_append]
    exact h2
  · cases A with
    | some b =>
      obtain ⟨v', w', hrun, r1, r2⟩ := run_append_arg_grows (P := Tryd.prog) w 73 ty 5 i0 _ 1 1 Tryd.underlying73 hi hz0 hz1 hz2 rfl (by omega) b bs.length bs.length (vb bs) (by simp [vb]) (hc b rfl) ad ns.length c (vb ns) (by simp [vb]) hnews (by omega) hmax (by omega)
      refine ⟨v', w', hrun, ?_, (Below.refl _ _).grown r2 hB (fun k hk => by cases hk)⟩
      refine Own.lower (B := w.heap.size) ?_ hB
      unfold Own
      rw [vb_append, List.length_append]
      exact r1
    | none =>
      obtain rfl := hA rfl
      obtain ⟨v', w', hrun, r1, r2, _⟩ := run_append_own (P := Tryd.prog) w B 73 ty 5 i0 _ 1 1 Tryd.underlying73 hi hz0 hz1 hz2 rfl (by omega) (.slice none 0 0) 0 [] (World.ownsRow_nil w _ 5 1) ad ns.length c (vb ns) (by simp [vb]) hnews (vb_one ns) (by simpa using hmax) (by simpa using hm) hB
      refine ⟨v', w', hrun, ?_, (Below.refl _ _).grown r2 hB (fun k hk => by cases hk)⟩
      unfold Own
      simpa using r1

/-- append of bytes, for the walk. -/
theorem wp_append_out {w : World} {ops : Array Oper} {rest : List Oper} {o : Oper} {a : Act} {Q : Exit → Act → World → Prop} (hgd : o.guard = none) (s x : Operand)
    (hop : o.op = .call { callee := .builtin .append, args := #[s, x], argTypes := #[73, 73] })
    (B : Nat) (v : Value) (bs : List UInt8) (hs : a.eval s = v) (ho : Out w B v bs) (hB : B ≤ w.heap.size) (ad : Addr) (c : Nat) (ns : List UInt8) (hx : a.eval x = .slice (some ad) ns.length c)
    (h1 : 1 ≤ ns.length) (hnews : ∀ j u, (vb ns)[j]? = some u → w.cell? (ad.add j) = some u) (hm : bs.length + ns.length ≤ 140737488355328)
    (hK : ∀ v' w', Own w' B v' (bs ++ ns) → Below B w w' → wpList Tryd.prog ops Q rest (a.put o.dst v') w') : wpList Tryd.prog ops Q (o :: rest) a w := by
  refine wpList_plain hgd fun K hK' => ?_
  obtain ⟨v', w', hrun, r1, r2⟩ := run_append_out w B v bs ho hB ad c ns h1 hnews hm o.type
  unfold Oper.wp
  simp [execOp, hop, resolve, invoke, builtin, hs, hx, hrun, Result.andThen]
  exact hK' _ _ (hK v' w' r1 r2)

/-- append of a string's bytes, for the walk. -/
theorem wp_append_text {w : World} {ops : Array Oper} {rest : List Oper} {o : Oper} {a : Act} {Q : Exit → Act → World → Prop} (hgd : o.guard = none) (s x : Operand)
    (hop : o.op = .call { callee := .builtin .append, args := #[s, x], argTypes := #[73, 9] })
    (B : Nat) (v : Value) (bs : List UInt8) (hs : a.eval s = v) (ho : Own w B v bs) (hB : B ≤ w.heap.size) (t : ByteArray) (hx : a.eval x = .string t)
    (hm : bs.length + t.size ≤ 140737488355328)
    (hK : ∀ v' w', Own w' B v' (bs ++ t.data.toList) → Below B w w' → wpList Tryd.prog ops Q rest (a.put o.dst v') w') : wpList Tryd.prog ops Q (o :: rest) a w := by
  obtain ⟨i0, hi, hz0, hz1, hz2⟩ := info_parts info5
  have hmax : bs.length + t.size ≤ maxLen := by simp only [maxLen]; omega
  refine wpList_plain hgd fun K hK' => ?_
  obtain ⟨v', w', hrun, r1, r2⟩ := Lib.run_append_own_string (P := Tryd.prog) w B 73 9 o.type 5 i0 Tryd.underlying73 Tryd.underlying9 hi hz0 hz1 hz2 v bs.length (vb bs) ho t hmax (by omega) hB
  unfold Oper.wp
  simp [execOp, hop, resolve, invoke, builtin, hs, hx, hrun, Result.andThen]
  refine hK' _ _ (hK v' w' ?_ ((Below.refl _ _).grown r2.1 hB (fun k hk => (ho.lt k hk).1)))
  unfold Own
  rw [vb_append, List.length_append]
  exact r1

/-- string(b), of bytes. -/
theorem run_text_of (w : World) (B : Nat) (v : Value) (bs : List UInt8) (h : Sl w B v bs) : (convert 73 9 v).run Tryd.prog w = .ok (.string ⟨bs.toArray⟩) w := by
  obtain ⟨A, c, rfl, _, _, h4, _, h6⟩ := h
  cases A with
  | some ad => exact run_convert_bytes_back w 73 9 5 ad c bs Tryd.underlying73 Tryd.underlying5 Tryd.underlying9 fun j hj => h6 ad rfl j _ (vb_at bs j hj)
  | none =>
    have hc := h4 rfl
    subst hc
    have : bs = [] := List.eq_nil_of_length_eq_zero (by omega)
    subst this
    exact Lib.run_convert_nil_bytes w 73 9 5 0 Tryd.underlying73 Tryd.underlying5 Tryd.underlying9

/-- string([]byte{..}) of one byte that lies in a block of its own. -/
theorem run_text_one (w : World) (g c : Nat) (x : Int) (b : UInt8) (hx : x = (b.toNat : Int)) (hc : w.cell? ⟨g, 0, none⟩ = some (.int .u8 x)) :
    (convert 73 9 (.slice (some ⟨g, 0, none⟩) 1 c)).run Tryd.prog w = .ok (.string ⟨#[b]⟩) w := by
  subst hx
  exact run_convert_bytes_back w 73 9 5 ⟨g, 0, none⟩ c [b] Tryd.underlying73 Tryd.underlying5 Tryd.underlying9 fun j hj => by
    obtain rfl : j = 0 := by simp at hj; omega
    simpa [Addr.add] using hc

end Go.Proofs.YthbahbcihaebeaaDoor.Cd

/-
  []byte(s), and slices of byte slices. Conditions: none.
-/
namespace Go.Proofs.YthbahbcihaebeaaDoor.Cd
open Go.RowKit

/-- A byte slice in a block that is known by its number. -/
def Row (w : World) (g c : Nat) (bs : List UInt8) : Prop := bs.length ≤ c ∧ c ≤ maxLen ∧ g < w.heap.size ∧ ∀ j u, (vb bs)[j]? = some u → w.cell? ⟨g, j, none⟩ = some u

theorem Row.keep {w w' : World} {g c B : Nat} {bs : List UInt8} (h : Row w g c bs) (hb : Below B w w') (hB : g < B) : Row w' g c bs :=
  ⟨h.1, h.2.1, Nat.lt_of_lt_of_le h.2.2.1 hb.size, fun j u hu => (hb.cell (p := ⟨g, j, none⟩) hB).trans (h.2.2.2 j u hu)⟩

theorem Row.sl {w : World} {g c : Nat} {bs : List UInt8} (h : Row w g c bs) : Sl w w.heap.size (.slice (some ⟨g, 0, none⟩) bs.length c) bs :=
  ⟨_, c, rfl, h.1, h.2.1, (fun h => by cases h), (fun ad e _ => by injection e with e; subst e; exact h.2.2.1), fun ad e j u hu => by
    injection e with e
    subst e
    rw [Addr.add_lit, Nat.zero_add]
    exact h.2.2.2 j u hu⟩

theorem Row.take {w : World} {g c : Nat} {bs : List UInt8} (h : Row w g c bs) (k : Nat) : Row w g c (bs.take k) :=
  ⟨by have := h.1; rw [List.length_take]; omega, h.2.1, h.2.2.1, fun j u hu => h.2.2.2 j u (by
    have hj := (List.getElem?_eq_some_iff.1 hu).1
    rw [vb_length, List.length_take] at hj
    rw [← hu]
    simp only [vb, List.map_take]
    rw [List.getElem?_take, if_pos (by omega)])⟩

theorem Row.slTake {w : World} {g c : Nat} {bs : List UInt8} (h : Row w g c bs) {k : Nat} (hk : k ≤ bs.length) : Sl w w.heap.size (.slice (some ⟨g, 0, none⟩) k c) (bs.take k) := by
  have h2 := (h.take k).sl
  rwa [List.length_take, Nat.min_eq_left hk] at h2

/-- []byte(s), for the walk. -/
theorem wp_bytes_of {w : World} {ops : Array Oper} {rest : List Oper} {o : Oper} {a : Act} {Q : Exit → Act → World → Prop} (hgd : o.guard = none) (x : Operand)
    (hop : o.op = .convert 9 73 x) (s : List UInt8) (hx : a.eval x = .string ⟨s.toArray⟩) (hs : s.length ≤ 140737488355328)
    (hK : ∀ g c w', Row w' g c s → w.heap.size ≤ g → Below w.heap.size w w' → wpList Tryd.prog ops Q rest (a.put o.dst (.slice (some ⟨g, 0, none⟩) s.length c)) w') : wpList Tryd.prog ops Q (o :: rest) a w := by
  refine wpList_plain hgd fun K hK' => ?_
  have hrun := Lib.run_convert_string_bytes (P := Tryd.prog) w 9 73 5 ⟨s.toArray⟩ Tryd.underlying9 Tryd.underlying73 Tryd.underlying5
  have hsz : (ByteArray.mk s.toArray).size = s.length := rfl
  rw [hsz] at hrun
  unfold Oper.wp
  simp [execOp, hop, hx, hrun, Result.andThen]
  refine hK' _ _ (hK _ _ _ ⟨grownCap_ge w s.length 0 5, grownCap_le_maxLen w s.length 0 5 (by simp only [maxLen]; omega), by rw [Lib.bytesWorld_size]; omega, fun j u hu => ?_⟩ (Nat.le_refl _) ⟨rfl, rfl, rfl, by rw [Lib.bytesWorld_size]; omega, fun k hk => Lib.bytesWorld_at_old w _ _ k hk⟩)
  have hj := (List.getElem?_eq_some_iff.1 hu).1
  rw [vb_length] at hj
  rw [Lib.bytesWorld_cell w 5 ⟨s.toArray⟩ j hj]
  rw [vb_at s j hj] at hu
  rw [← hu]
  simp [List.getD, hj]

end Go.Proofs.YthbahbcihaebeaaDoor.Cd

/-
  code.number: the number that a text begins with. Conditions: none.
-/
namespace Go.Proofs.YthbahbcihaebeaaDoor.Cd
open Go.RowKit

/-- What number answers. -/
def NumIs (l : List UInt8) (w : World) (e : Ending) (w' : World) : Prop := e = .returned (.tuple #[.int .u64 (nv l : Nat), .int .i64 (ns l : Nat)]) ∧ w = w'

theorem NumIs.bad {l : List UInt8} {w : World} {e : Ending} (h : Bad l) (he : e = .returned (.tuple #[.int .u64 0, .int .i64 0])) : NumIs l w e w :=
  ⟨by rw [he, nv_bad h, ns_bad h]; rfl, rfl⟩

theorem NumIs.good {l : List UInt8} {w : World} {e : Ending} {k x : Nat} (h : ¬ Bad l ∧ stop l = k ∧ x = val l (k + 1)) (he : e = .returned (.tuple #[.int .u64 (x : Nat), .int .i64 ((k : Int) + 1)])) : NumIs l w e w := by
  obtain ⟨h1, rfl, rfl⟩ := h
  refine ⟨?_, rfl⟩
  rw [he, nv_good h1, ns_good h1]
  rfl

theorem part_byte (c : UInt8) : IntKind.u64.wrap (bits BinOp.and IntKind.u8 (c.toNat : Int) 127) = ((c.toNat % 128 : Nat) : Int) := by
  have h := u8_and_nat c.toNat 127 c.toNat_lt (by omega)
  have h2 : c.toNat &&& 127 = c.toNat % 128 := Nat.and_two_pow_sub_one_eq_mod _ 7
  rw [show (127 : Int) = ((127 : Nat) : Int) from rfl, h, h2, IntKind.wrap_u64]
  omega

theorem shl_part (p k : Nat) : Op.shift .shl .u64 (p : Int) .i64 (7 * (k : Int)) = pure (.int .u64 (up p k : Nat)) := by
  have h : ¬ (7 * (k : Int) < 0) := by omega
  have h2 : (7 * (k : Int)).toNat = 7 * k := by omega
  simp only [Op.shift, if_neg h, h2, IntKind.bits, IntKind.wrap_u64]
  congr 2

theorem shr_part (y k : Nat) : Op.shift .shr .u64 (y : Int) .i64 (7 * (k : Int)) = pure (.int .u64 (down y k : Nat)) := by
  have h : ¬ (7 * (k : Int) < 0) := by omega
  have h2 : (7 * (k : Int)).toNat = 7 * k := by omega
  simp only [Op.shift, if_neg h, h2, IntKind.bits]
  congr 2
  unfold down
  rw [Int.natCast_ediv, Int.natCast_pow, Int.fdiv_eq_ediv_of_nonneg _ (Int.pow_nonneg (by omega))]
  rfl

theorem at8_of (s : ByteArray) (k : Nat) (h : k < s.size) : s[k].toNat = at8 s.data.toList k := by
  have h2 : k < s.data.toList.length := h
  unfold at8
  rw [List.getD_eq_getElem?_getD, List.getElem?_eq_getElem h2]
  rfl

set_option maxRecDepth 100000 in
set_option maxHeartbeats 800000 in
theorem number_any (s : ByteArray) (w : World) (hs : s.size ≤ 140737488355328) :
    Calls Tryd.prog 77 #[.string s] w (NumIs s.data.toList w) := by
  go_enter Tryd.func77, Tryd.ntmps77
  go_wp2
  go_loop [4, 5] (fun n i => ∃ (m k : Nat), n = .int .u64 m ∧ i = .int .i64 k ∧ k ≤ s.size ∧ m < 18446744073709551616 ∧ Hid (More s.data.toList k) ∧ Hid (k ≤ 9 → m = val s.data.toList k)) (fun _ i => s.size - (intOf i).toNat)
  case atStart => exact ⟨0, 0, rfl, rfl, by omega, by omega, More.zero _, fun _ => rfl⟩
  case round =>
    obtain ⟨m, k, rfl, rfl, hk, hm, hb, hv⟩ := hrel
    by_cases hlt : k < s.size
    · obtain ⟨c, hc⟩ : ∃ c, c = s[k] := ⟨_, rfl⟩
      have hat : c.toNat = at8 s.data.toList k := by rw [hc]; exact at8_of s k hlt
      have hc2 : s[k] = c := hc.symm
      have HAT := Lib.hid hat
      have HC := Lib.hid hc
      clear hat hc
      have E1 := part_byte c
      have E2 := shl_part (c.toNat % 128) k
      have E3 := shr_part (up (c.toNat % 128) k) k
      have E4 := u64_or_nat m (up (c.toNat % 128) k) hm (up_lt _ _)
      generalize hp : c.toNat % 128 = p at E1 E2 E3 E4
      generalize hy : up p k = y at E2 E3 E4
      generalize hz : down y k = z at E3
      have HP := Lib.hid hp
      have HY := Lib.hid hy
      have HZ := Lib.hid hz
      clear hp hy hz
      have hlen : Hid (k < s.data.toList.length) := hlt
      by_cases ha : 0 < k ∧ c.toNat = 0
      · obtain ⟨h0, hcz⟩ := ha
        have hbad : Hid (Bad s.data.toList) := num_zero hb.out hlen.out h0 (by rw [← HAT.out]; exact hcz)
        have hq : ((c.toNat : Int) == 0) = true := by simp; omega
        clear hcz hb hv E2 E3 E4 E1
        go_wp2
        go_ret2
        exact NumIs.bad hbad.out rfl
      · by_cases hzp : z = p
        · have hq : ((z : Int) != (p : Int)) = false := by simp; omega
          by_cases h8 : c.toNat < 128
          · have hdone := num_done hb.out hlen.out (by rw [← HAT.out]; exact h8) (by rw [← HAT.out]; omega) (by rw [← HAT.out, HP.out, HY.out, HZ.out]; exact hzp) hv.out
            rw [← HAT.out, HP.out, HY.out] at hdone
            have HD := Lib.hid hdone
            clear hdone hzp hb hv
            by_cases h0 : 0 < k
            · have hq2 : ((c.toNat : Int) == 0) = false := by simp; omega
              clear ha
              go_wp2
              go_ret2
              exact NumIs.good HD.out rfl
            · have hk0 : decide (0 < k) = false := by simpa using h0
              clear ha h0
              go_wp2
              go_ret2
              exact NumIs.good HD.out rfl
          · have hstep : Hid (k + 1 ≤ 9 → m ||| y = val s.data.toList (k + 1)) := fun h9 => by
              have := num_step hv.out (by omega)
              rw [← HAT.out, HP.out, HY.out] at this
              exact this
            have hmore : Hid (More s.data.toList (k + 1)) := hb.out.succ (by rw [← HAT.out]; omega)
            have hor : m ||| y < 18446744073709551616 := Nat.or_lt_two_pow (n := 64) hm (by rw [← HY.out]; exact up_lt _ _)
            have hq2 : ((c.toNat : Int) == 0) = false := by simp; omega
            clear hzp hb hv ha
            by_cases h0 : 0 < k
            · go_wp2
              go_round
              case rel => exact ⟨m ||| y, k + 1, by go_num, by go_num, by omega, hor, hmore, hstep⟩
              case measure => simp [intOf]; omega
            · have hk0 : decide (0 < k) = false := by simpa using h0
              clear h0
              go_wp2
              go_round
              case rel => exact ⟨m ||| y, k + 1, by go_num, by go_num, by omega, hor, hmore, hstep⟩
              case measure => simp [intOf]; omega
        · have hq : ((z : Int) != (p : Int)) = true := by simp; omega
          have hbad : Hid (Bad s.data.toList) := num_over hb.out hlen.out (by rw [← HAT.out, HP.out, HY.out, HZ.out]; exact hzp)
          clear hzp hb hv
          by_cases h0 : 0 < k
          · have hq2 : ((c.toNat : Int) == 0) = false := by simp; omega
            clear ha
            go_wp2
            go_ret2
            exact NumIs.bad hbad.out rfl
          · have hk0 : decide (0 < k) = false := by simpa using h0
            clear ha h0
            go_wp2
            go_ret2
            exact NumIs.bad hbad.out rfl
    · have : k = s.size := by omega
      have hbad : Hid (Bad s.data.toList) := num_end (by have := hb.out; subst k; exact this)
      clear this hb hv
      go_wp2
      go_ret2
      exact NumIs.bad hbad.out rfl

end Go.Proofs.YthbahbcihaebeaaDoor.Cd

/-
  code.Uint: a number's bytes behind bytes. Conditions: none.
-/
namespace Go.Proofs.YthbahbcihaebeaaDoor.Cd
open Go.RowKit

theorem hi_byte (n : Nat) (hn : n < 18446744073709551616) : bits BinOp.or IntKind.u64 (bits BinOp.and IntKind.u64 (n : Int) 127) 128 % 256 = ((hi8 n).toNat : Int) := by
  have h1 := u64_and_nat n 127 hn (by omega)
  have h2 : n &&& 127 = n % 128 := Nat.and_two_pow_sub_one_eq_mod n 7
  have h3 := u64_or_nat (n % 128) 128 (by omega) (by omega)
  have h4 : n % 128 ||| 128 = 128 + n % 128 := by
    have := Nat.two_pow_add_eq_or_of_lt (i := 7) (b := n % 128) (by omega) 1
    rw [Nat.or_comm]
    simpa using this.symm
  rw [h2] at h1
  rw [h4] at h3
  rw [show (127 : Int) = ((127 : Nat) : Int) from rfl, h1, show (128 : Int) = ((128 : Nat) : Int) from rfl, h3, hi8_nat]
  omega

/-- One new cell that is a byte. -/
theorem one_byte (w : World) (x : Int) (b : UInt8) (hx : x = (b.toNat : Int)) : ∀ j u, (vb [b])[j]? = some u → (w.alloc (.cells #[.int .u8 x] 5)).cell? (({ block := w.heap.size, off := 0 } : Addr).add j) = some u := by
  subst hx
  intro j u hu
  have hj := (List.getElem?_eq_some_iff.1 hu).1
  simp [vb] at hj
  subst hj
  simp [vb] at hu
  subst hu
  exact cell_one_new _ _ _ 0 _ rfl

set_option maxHeartbeats 400000 in
theorem uint_any (v : Value) (bs : List UInt8) (k : Nat) (w : World) (hs : Sl w w.heap.size v bs) (hk : k < 18446744073709551616) (hb : bs.length + 10 ≤ 140737488355328) :
    Calls Tryd.prog 73 #[v, .int .u64 k] w (Wrote w (bs ++ enc k)) := by
  have hl := enc_u64 k hk
  obtain ⟨A, c, rfl, h2, h3, h4, h5, h6⟩ := hs
  have H4 := Lib.hid h4
  have H6 := Lib.hid h6
  have H5 := Lib.hid h5
  clear h4 h6 h5
  go_enter Tryd.func73, Tryd.ntmps73
  go_wp2
  go_loopw [1, 5] (fun m o wr => ∃ (n : Nat) (ds : List UInt8), m = .int .u64 n ∧ n < 18446744073709551616 ∧ ds.length + (enc n).length ≤ 10 ∧ Hid (enc k = ds ++ enc n) ∧ Out wr w.heap.size o (bs ++ ds) ∧ Below w.heap.size w wr) (fun m _ _ => (intOf m).toNat)
  case atStart => exact ⟨k, [], rfl, hk, by simpa using hl, rfl, .inr ⟨A, by simp, fun hA => by have := H4.out hA; simpa using List.eq_nil_of_length_eq_zero (by omega : bs.length = 0), by simpa using H6.out⟩, Below.refl _ _⟩
  case round =>
    obtain ⟨n, ds, rfl, hn, hd, hh, ho, hbel⟩ := hrel
    have hB := hbel.size
    by_cases hc : 127 < n
    · have hx := hi_byte n hn
      have HX := Lib.hid hx
      have HE : Hid (enc n = hi8 n :: enc (n / 128)) := enc_hi (by omega)
      have HL : ds.length + 1 + (enc (n / 128)).length ≤ 10 := by have := HE.out; rw [this] at hd; simp at hd; omega
      clear hx
      go_wp2_with (at_builtin; refine wp_append_out rfl _ _ rfl w.heap.size _ (bs ++ ds) rfl ?ho ?hB ⟨wr.heap.size, 0, none⟩ 1 [hi8 n] rfl ?h1 ?hn ?hm ?hK)
      case ho => exact ho.alloc _
      case hB => simp; omega
      case h1 => simp
      case hn => exact one_byte _ _ _ HX.out
      case hm => simp; omega
      case hK =>
        intro v' w' hown hb'
        go_wp2
        go_roundw
        case rel =>
          refine ⟨n / 128, ds ++ [hi8 n], by go_num, by omega, by simp; omega, ?_, .inl (by simpa using hown), (hbel.alloc hB _).trans hb'⟩
          have := hh.out
          unfold Hid
          rw [this, HE.out]
          simp
        case measure => simp [intOf]; omega
    · have HX : Hid ((n : Int) % 256 = ((lo8 n).toNat : Int)) := by unfold Hid; rw [lo8_nat (by omega)]; omega
      have HE : Hid (enc n = [lo8 n]) := enc_lo (by omega)
      have HL : ds.length + 1 ≤ 10 := by have := HE.out; rw [this] at hd; simpa using hd
      go_wp2_with (at_builtin; refine wp_append_out rfl _ _ rfl w.heap.size _ (bs ++ ds) rfl ?ho ?hB ⟨wr.heap.size, 0, none⟩ 1 [lo8 n] rfl ?h1 ?hn ?hm ?hK)
      case ho => exact ho.alloc _
      case hB => simp; omega
      case h1 => simp
      case hn => exact one_byte _ _ _ (by have := HX.out; omega)
      case hm => simp; omega
      case hK =>
        intro v' w' hown hb'
        go_wp2
        go_ret
        refine ⟨v', rfl, ?_, (hbel.alloc hB _).trans hb'⟩
        have := hh.out
        rw [this, HE.out]
        simpa using hown

end Go.Proofs.YthbahbcihaebeaaDoor.Cd
