/-
  Slices of pairs: how they read, how they grow. Conditions: none.
-/
import Derived.Test.YtlchmkpnehbnlaaGreatDoorG2
import Derived.Deep.Slices
import Derived.Deep.Fields
import Derived.Deep.RegionLaw
import Derived.RegionTactic
import Derived.BigRegion
import Derived.OpenShut
import Derived.ChangeSame
import Derived.LoopTactic
import Derived.Laws.Rows
import Derived.SizedLaws
import Derived.Lib.SlBytesConst
import Derived.Test.YtlchmkpnehbnlaaGreatDoorG1
import Derived.IntWalk
import Derived.Laws.BitsAllLaws
import Derived.Test.YtlchmkpnehbnlaaGreatDoorG14
import Derived.Test.YtlchmkpnehbnlaaGreatDoorG16
/-
  What every seat's texts lean on: what a call gives, slices of bytes that grow, the reading of an argument of bytes. Conditions: none.
-/
namespace Go.Proofs.YtlchmkpnehbnlaaGreatDoor.Cd
open Go.RowKit Go.ChangeShapes Go.WideShapes Go.Deep

def Gives (v : Value) (w : World) (e : Ending) (w' : World) : Prop := e = .returned v ∧ Below w.heap.size w w'

theorem below_drewN {B : Nat} {a w : World} (h : Below B a w) (n : Nat) : Below B a (w.drewN n) := ⟨h.os, h.tape, h.output, h.size, h.block⟩

theorem asz (w : World) (o : Obj) : (w.alloc o).heap.size = w.heap.size + 1 := by simp

theorem sl_mark (w : World) (cs : List UInt8) (xs : Array Value) (hx : xs = (vb cs).toArray) (hm : cs.length ≤ maxLen) (n : Nat) (hn : n = cs.length) (fr : Nat × Nat) :
    Sl (w.alloc (.cells xs 5 fr)) (w.heap.size + 1) (.slice (some ⟨w.heap.size, 0, none⟩) n n) cs := by
  subst hx hn
  refine ⟨_, cs.length, rfl, Nat.le_refl _, hm, (fun h => by cases h), (fun ad e _ => by injection e with e; subst e; simp), fun ad e j u hu => ?_⟩
  injection e with e
  subst e
  rw [Addr.add_lit, Nat.zero_add]
  have := cell_of_row (w.alloc (.cells (vb cs).toArray 5 fr)) w.heap.size j (vb cs).toArray 5 fr (heap_alloc_new w _)
  rw [this]
  simpa using hu

theorem sl_new (w : World) (cs : List UInt8) (xs : Array Value) (hx : xs = (vb cs).toArray) (hm : cs.length ≤ maxLen) (n : Nat) (hn : n = cs.length) :
    Sl (w.alloc (.cells xs 5)) (w.heap.size + 1) (.slice (some ⟨w.heap.size, 0, none⟩) n n) cs := sl_mark w cs xs hx hm n hn (0, 0)

theorem Own.alloc {w : World} {B : Nat} {v : Value} {bs : List UInt8} (h : Own w B v bs) (o : Obj) : Own (w.alloc o) B v bs := World.ownsRow.alloc h o
theorem Own.keep {w w' : World} {B : Nat} {v : Value} {bs : List UInt8} (h : Own w B v bs) (hb : Below w.heap.size w w') : Own w' B v bs := by
  have hlt := h.lt
  refine ⟨h.1, ?_⟩
  rcases h.2 with h2 | ⟨g, cap, cur, rfl, hg, hh, r⟩
  · exact .inl h2
  · exact .inr ⟨g, cap, cur, rfl, hg, (hb.block g (hlt g rfl).2).trans hh, r⟩

theorem run_append_sl (w : World) (B : Nat) (v : Value) (bs : List UInt8) (ho : Own w B v bs) (hB : B ≤ w.heap.size) (x : Value) (B' : Nat) (ns : List UInt8) (hx : Sl w B' x ns)
    (hm : bs.length + ns.length ≤ 140737488355328) (ty : TypeId) :
    ∃ v' w', (Builtin.append_ #[88, 88] ty #[v, x]).run Tryz.prog w = .ok v' w' ∧ Own w' B v' (bs ++ ns) ∧ Below B w w' := by
  obtain ⟨i0, hi, hz0, hz1, hz2⟩ := info_parts info5
  have hmax : bs.length + ns.length ≤ maxLen := by simp only [maxLen]; omega
  obtain ⟨A, c, rfl, _, _, h4, _, h6⟩ := hx
  cases A with
  | some ad =>
    obtain ⟨v', w', hr, h2, h3, _⟩ := run_append_own (P := Tryz.prog) w B 88 ty 5 i0 _ 1 1 Tryz.underlying88 hi hz0 hz1 hz2 rfl (by omega) v bs.length (vb bs) ho ad ns.length c (vb ns) (by simp [vb]) (h6 ad rfl) (vb_one ns) hmax (by omega) hB
    refine ⟨v', w', hr, ?_, (Below.refl _ _).grown h3 hB (fun k hk => (ho.lt k hk).1)⟩
    unfold Own
    rw [vb_append, List.length_append]
    exact h2
  | none =>
    have hc := h4 rfl
    subst hc
    have : ns = [] := List.eq_nil_of_length_eq_zero (by omega)
    subst this
    refine ⟨v, w, ?_, by simpa using ho, Below.refl _ _⟩
    rcases ho.2 with ⟨rfl, h0⟩ | ⟨g, cap, cur, rfl, _, _, hnc, _⟩
    · simp [Builtin.append_, run_underlying Tryz.underlying88, sizeOf, typeInfo, hi, Builtin.lenOf, Builtin.firstCells]
    · simp [Builtin.append_, run_underlying Tryz.underlying88, sizeOf, typeInfo, hi, Builtin.lenOf, Builtin.firstCells, hnc, storeCells]

theorem Sl.at {w : World} {B : Nat} {v : Value} {bs : List UInt8} (h : Sl w B v bs) (h0 : 0 < bs.length) :
    ∃ b off c, v = .slice (some ⟨b, off, none⟩) bs.length c ∧ bs.length ≤ c ∧ c ≤ maxLen ∧ b < B ∧ ∀ j (hj : j < bs.length), w.cell? ⟨b, off + j, none⟩ = some (.int .u8 (bs[j]).toNat) := by
  obtain ⟨A, c, rfl, h2, h3, h4, h5, h6⟩ := h
  cases A with
  | none => have := h4 rfl; omega
  | some a =>
    obtain ⟨b, off, spot⟩ := a
    have hc := h6 _ rfl 0 _ (vb_at bs 0 h0)
    have hspot : spot = none := by simpa [Addr.add] using World.cell?_spot hc
    subst hspot
    refine ⟨b, off, c, rfl, h2, h3, h5 _ rfl h0, fun j hj => ?_⟩
    have := h6 _ rfl j _ (vb_at bs j hj)
    rwa [Addr.add_lit] at this

theorem Sl.len {w : World} {B : Nat} {v : Value} {bs : List UInt8} (h : Sl w B v bs) : ∃ A c, v = .slice A bs.length c ∧ bs.length ≤ c ∧ c ≤ maxLen := by
  obtain ⟨A, c, rfl, h2, h3, _⟩ := h
  exact ⟨A, c, rfl, h2, h3⟩

theorem wp_append_sl {w : World} {ops : Array Oper} {rest : List Oper} {o : Oper} {a : Act} {Q : Exit → Act → World → Prop} (hgd : o.guard = none) (s x : Operand)
    (hop : o.op = .call { callee := .builtin .append, args := #[s, x], argTypes := #[88, 88] })
    (B : Nat) (v : Value) (bs : List UInt8) (hs : a.eval s = v) (ho : Own w B v bs) (hB : B ≤ w.heap.size) (y : Value) (B' : Nat) (ns : List UInt8) (hx : a.eval x = y) (hy : Sl w B' y ns)
    (hm : bs.length + ns.length ≤ 140737488355328)
    (hK : ∀ v' w', Own w' B v' (bs ++ ns) → Below B w w' → wpList Tryz.prog ops Q rest (a.put o.dst v') w') : wpList Tryz.prog ops Q (o :: rest) a w := by
  refine wpList_plain hgd fun K hK' => ?_
  obtain ⟨v', w', hrun, r1, r2⟩ := run_append_sl w B v bs ho hB y B' ns hy hm o.type
  unfold Oper.wp
  simp [execOp, hop, resolve, invoke, builtin, hs, hx, hrun, Result.andThen]
  exact hK' _ _ (hK v' w' r1 r2)

theorem own_new (w : World) (B : Nat) (hB : B ≤ w.heap.size) : Own (w.alloc (.cells #[] 5)) B (.slice (some ⟨w.heap.size, 0, none⟩) 0 0) [] :=
  World.ownsRow_made (base := B) (e := 5) (size := 1) w #[] 0 hB (by simp) rfl

theorem own_block {w : World} {B : Nat} {v : Value} {bs : List UInt8} (h : Own w B v bs) (h0 : 0 < bs.length) :
    ∃ (g cap : Nat) (cur : Array Value), v = .slice (some ⟨g, 0, none⟩) bs.length cap ∧ B ≤ g ∧ g < w.heap.size ∧ w.heap[g]? = some (.cells cur 5 (0, 0)) ∧ bs.length ≤ cap ∧ cap ≤ maxLen ∧ ∀ (j : Nat) (u : Value), (vb bs)[j]? = some u → cur[j]? = some u := by
  have hlt := h.lt
  rcases h.2 with ⟨_, h1⟩ | ⟨g, cap, cur, rfl, hb, hh, hn, hm, hc, ht⟩
  · omega
  · refine ⟨g, cap, cur, rfl, hb, (hlt g rfl).2, hh, hn, hm, fun j u hu => ?_⟩
    have hj := (List.getElem?_eq_some_iff.1 hu).1
    rw [vb_length] at hj
    rw [← ht] at hu
    rw [List.getElem?_take, if_pos (by omega)] at hu
    simpa using hu

theorem weightsAll_mem {H : Type} {P : Program} {e : TypeId} {d : DataW H} {l : List (DataW H)} (hd : d ∈ l) {n : Nat} (hn : n ∈ d.weights P e) : n ∈ DataW.weightsAll P e l := by
  induction l with
  | nil => cases hd
  | cons x r ih =>
    simp only [DataW.weightsAll, List.mem_append]
    rcases List.mem_cons.1 hd with rfl | h
    · exact .inl hn
    · exact .inr (ih h)

instance : Inhabited (List UInt8) := ⟨[]⟩
end Go.Proofs.YtlchmkpnehbnlaaGreatDoor.Cd

/-
  Footprints: what a call leaves that writes to the blocks of a set alone, and to new ones. Conditions: none.
-/
namespace Go.Proofs.YtlchmkpnehbnlaaGreatDoor.Cd
open Go.RowKit

structure Apart (S : Nat → Prop) (w w' : World) : Prop where
  os : w'.os = w.os
  tape : w'.tape = w.tape
  output : w'.output = w.output
  size : w.heap.size ≤ w'.heap.size
  block : ∀ k, k < w.heap.size → ¬ S k → w'.heap[k]? = w.heap[k]?

def since (S : Nat → Prop) (w w' : World) : Nat → Prop := fun k => S k ∨ (w.heap.size ≤ k ∧ k < w'.heap.size)

theorem Apart.refl (S : Nat → Prop) (w : World) : Apart S w w := ⟨rfl, rfl, rfl, Nat.le_refl _, fun _ _ _ => rfl⟩
theorem Apart.mono {S T : Nat → Prop} {w w' : World} (h : Apart S w w') (hs : ∀ k, S k → T k) : Apart T w w' :=
  ⟨h.os, h.tape, h.output, h.size, fun k hk hn => h.block k hk (fun e => hn (hs k e))⟩
theorem Apart.trans {S : Nat → Prop} {w w1 w2 : World} (h : Apart S w w1) (k : Apart (since S w w1) w1 w2) : Apart S w w2 :=
  ⟨k.os.trans h.os, k.tape.trans h.tape, k.output.trans h.output, Nat.le_trans h.size k.size, fun i hi hn =>
    (k.block i (Nat.lt_of_lt_of_le hi h.size) (fun e => e.elim hn (fun e => by omega))).trans (h.block i hi hn)⟩
theorem Apart.below {S : Nat → Prop} {w w' : World} (h : Below w.heap.size w w') : Apart S w w' := ⟨h.os, h.tape, h.output, h.size, fun k hk _ => h.block k hk⟩
theorem Apart.cell {S : Nat → Prop} {w w' : World} (h : Apart S w w') {p : Addr} (hp : p.block < w.heap.size) (hn : ¬ S p.block) : w'.cell? p = w.cell? p := World.cell?_of_block (h.block p.block hp hn)
theorem Apart.low {S : Nat → Prop} {w w' : World} {B : Nat} (h : Apart S w w') (hB : B ≤ w.heap.size) (hs : ∀ k, S k → B ≤ k) : Below B w w' :=
  ⟨h.os, h.tape, h.output, h.size, fun k hk => h.block k (Nat.lt_of_lt_of_le hk hB) (fun e => by have := hs k e; omega)⟩

theorem since_trans {S : Nat → Prop} {w w1 w2 : World} (h1 : w.heap.size ≤ w1.heap.size) (h2 : w1.heap.size ≤ w2.heap.size) (k : Nat) : since (since S w w1) w1 w2 k ↔ since S w w2 k := by
  unfold since
  constructor
  · rintro ((h | h) | h)
    · exact .inl h
    · exact .inr ⟨h.1, by omega⟩
    · exact .inr ⟨by omega, h.2⟩
  · rintro (h | h)
    · exact .inl (.inl h)
    · by_cases hk : k < w1.heap.size
      · exact .inl (.inr ⟨h.1, hk⟩)
      · exact .inr ⟨by omega, h.2⟩
theorem since_old {S : Nat → Prop} {w w' : World} {k : Nat} (hk : k < w.heap.size) : since S w w' k ↔ S k := ⟨fun h => h.elim id (fun e => by omega), .inl⟩

end Go.Proofs.YtlchmkpnehbnlaaGreatDoor.Cd

/-
  Slices of writes: how they read, how they grow. Conditions: none.
-/
namespace Go.Proofs.YtlchmkpnehbnlaaGreatDoor.Cd
open Go.RowKit Go.ChangeShapes Go.WideShapes Go.Deep

def wrC (p : Wr) : List Value := [.string ⟨p.1.toArray⟩, .string ⟨p.2.1.toArray⟩, .bool p.2.2]
def wrV (p : Wr) : Value := .agg #[.string ⟨p.1.toArray⟩, .string ⟨p.2.1.toArray⟩, .bool p.2.2]
theorem wrC_len (p : Wr) : (wrC p).length = 3 := rfl
theorem wrC_one (p : Wr) : ∀ u ∈ wrC p, u.oneCell' = true := by
  intro u hu
  simp only [wrC, List.mem_cons, List.not_mem_nil, or_false] at hu
  rcases hu with rfl | rfl | rfl <;> rfl
def Fit (p : Wr) : Prop := p.1.length ≤ 140737488351232 ∧ p.2.1.length ≤ 140737488351232
def FitW (l : List Wr) : Prop := ∀ p ∈ l, Fit p
theorem FitW.ins {t : List Wr} (h : FitW t) {p : Wr} (hp : Fit p) : FitW (insW t p) := fun q hq => by
  rcases mem_ins hq with rfl | hq
  · exact hp
  · exact h q hq
def TbIn (w : World) (B : Nat) (v : Value) (l : List Wr) : Prop :=
  ∃ A c, v = .slice A l.length c ∧ l.length ≤ c ∧ c ≤ maxLen ∧ (A = none → c = 0) ∧
    (0 < l.length → ∃ b off, A = some ⟨b, off, none⟩ ∧ b < B ∧ ∀ (i : Nat) p, l[i]? = some p → ∀ (j : Nat) x, (wrC p)[j]? = some x → w.cell? ⟨b, off + i * 3 + j, none⟩ = some x)

section
variable {w w' : World} {B B' : Nat} {v : Value} {l : List Wr}
theorem TbIn.below (h : TbIn w B v l) (hb : Below B w w') : TbIn w' B v l := by
  obtain ⟨A, c, h1, h2, h3, h4, h5⟩ := h
  refine ⟨A, c, h1, h2, h3, h4, fun hp => ?_⟩
  obtain ⟨b, off, e, hB, hc⟩ := h5 hp
  exact ⟨b, off, e, hB, fun i p hi j x hj => (hb.cell (p := ⟨b, off + i * 3 + j, none⟩) hB).trans (hc i p hi j x hj)⟩
theorem TbIn.more (h : TbIn w B v l) (hB : B ≤ B') : TbIn w B' v l := by
  obtain ⟨A, c, h1, h2, h3, h4, h5⟩ := h
  refine ⟨A, c, h1, h2, h3, h4, fun hp => ?_⟩
  obtain ⟨b, off, e, hb, hc⟩ := h5 hp
  exact ⟨b, off, e, Nat.lt_of_lt_of_le hb hB, hc⟩
theorem TbIn.nil (w : World) (B : Nat) : TbIn w B (.slice none 0 0) [] := ⟨none, 0, rfl, Nat.le_refl _, Nat.zero_le _, fun _ => rfl, fun h => by simp at h⟩
theorem TbIn.len (h : TbIn w B v l) : ∃ A c, v = .slice A l.length c ∧ l.length ≤ c ∧ c ≤ 9223372036854775807 := by
  obtain ⟨A, c, h1, h2, h3, _⟩ := h
  exact ⟨A, c, h1, h2, h3⟩
theorem TbIn.at {A : Option Addr} {n c : Nat} (h : TbIn w B (.slice A n c) l) {k : Nat} {p : Wr} (hk : l[k]? = some p) :
    ∃ b off, A = some ⟨b, off, none⟩ ∧ b < B ∧ w.cell? ⟨b, off + k * 3, none⟩ = some (.string ⟨p.1.toArray⟩) ∧ w.cell? ⟨b, off + k * 3 + 1, none⟩ = some (.string ⟨p.2.1.toArray⟩) ∧ w.cell? ⟨b, off + k * 3 + 2, none⟩ = some (.bool p.2.2) := by
  obtain ⟨A0, c0, e, _, _, _, h5⟩ := h
  injection e with e1 e2 e3
  have hlt := (List.getElem?_eq_some_iff.1 hk).1
  obtain ⟨b, off, e, hB, hc⟩ := h5 (by omega)
  exact ⟨b, off, e1.trans e, hB, hc k p hk 0 _ rfl, hc k p hk 1 _ rfl, hc k p hk 2 _ rfl⟩
end

theorem cells_wr : Tryz.prog.cellsOf 52 = 3 := by kernel_rfl
theorem cells_strw : Tryz.prog.cellsOf 9 = 1 := by kernel_rfl
theorem cells_boolw : Tryz.prog.cellsOf 4 = 1 := by kernel_rfl
def WrAt {H : Type} (w : World) (a : Addr) (i : Nat) (d : DataW H) (p : Wr) : Prop :=
  ((∀ n ∈ d.weights Tryz.prog 52, n ≤ reachBytes) → Fit p) ∧ ∀ (j : Nat) v, (wrC p)[j]? = some v → w.cell? (a.add (i * 3 + j)) = some v

set_option maxRecDepth 100000 in
theorem wr_of {H : Type} {enc : TypeId × Value → H} {w : World} {a : Addr} {i n : Nat} {cs : List Value} {x : DataW H × List MemPlace} (hc : w.cells? 0 (a.add (i * 3)) 3 = some cs)
    (ht : DataW.trod enc Tryz.prog w 0 (fun _ => true) true n 52 cs = some x) : ∃ p, WrAt w a i x.1 p := by
  obtain ⟨_, hlen, hat⟩ := World.cells?_some hc
  obtain ⟨xs, m, _, hx, _, hxl, hfld⟩ := DataW.trod_struct Tryz.underlying52 ht
  match cs, hlen, xs, hxl with
  | [z0, z1, z2], _, [y0, y1, y2], _ =>
    have f0 : DataW.trod enc Tryz.prog w 0 (fun _ => true) true m 9 (([z0, z1, z2].drop 0).take (Tryz.prog.cellsOf 9)) = some y0 := hfld 0 _ rfl
    have f1 : DataW.trod enc Tryz.prog w 0 (fun _ => true) true m 9 (([z0, z1, z2].drop 1).take (Tryz.prog.cellsOf 9)) = some y1 := hfld 1 _ rfl
    rw [cells_strw] at f0 f1
    have f2 : DataW.trod enc Tryz.prog w 0 (fun _ => true) true m 4 (([z0, z1, z2].drop 2).take (Tryz.prog.cellsOf 4)) = some y2 := hfld 2 _ rfl
    rw [cells_boolw] at f2
    obtain ⟨x0, q0, e0, _⟩ := DataW.trod_string (cs := [z0]) Tryz.underlying9 f0
    obtain ⟨x1, q1, e1, _⟩ := DataW.trod_string (cs := [z1]) Tryz.underlying9 f1
    obtain ⟨x2, q2, e2⟩ := DataW.trod_bool (cs := [z2]) Tryz.underlying4 f2
    simp only [List.cons.injEq, and_true] at q0 q1 q2
    have hxd : x.1 = .agg [y0.1, y1.1, y2.1] := by rw [hx]; rfl
    refine ⟨⟨x0.data.toList, x1.data.toList, x2⟩, fun hw => ?_, fun j v hv => ?_⟩
    · have hw' : ∀ n ∈ DataW.weightsEach Tryz.prog [9, 9, 4] [y0.1, y1.1, y2.1], n ≤ reachBytes := by
        intro n hn
        refine hw n ?_
        rw [hxd]
        simpa [DataW.weights, Tryz.underlying52] using hn
      have w0 := fun n hn => hw' n (DataW.weights_mem_each (j := 0) (t := 9) (d := y0.1) rfl rfl n hn)
      have w1 := fun n hn => hw' n (DataW.weights_mem_each (j := 1) (t := 9) (d := y1.1) rfl rfl n hn)
      have l0 := w0 x0.data.toList.length (by rw [e0]; simp [DataW.weights])
      have l1 := w1 x1.data.toList.length (by rw [e1]; simp [DataW.weights])
      simp only [reachBytes] at l0 l1
      exact ⟨by show x0.data.toList.length ≤ _; omega, by show x1.data.toList.length ≤ _; omega⟩
    · have hj : j < 3 := (List.getElem?_eq_some_iff.1 hv).1
      rw [← Go.Deep.add_add, hat j hj]
      rw [q0, q1, q2]
      exact hv

instance : Inhabited Wr := ⟨⟨[], [], false⟩⟩

theorem wrs_of_cells {H : Type} {enc : TypeId × Value → H} {w : World} {fuel : Nat} {cs : List Value} {x : DataW H × List MemPlace} (hf : DataW.trod enc Tryz.prog w 0 (fun _ => true) true fuel 32 cs = some x) :
    ∃ A n c ps, cs = [.slice A n c] ∧ TbIn w w.heap.size (.slice A n c) ps ∧ ((∀ m ∈ x.1.weights Tryz.prog 32, m ≤ reachBytes) → FitW ps) := by
  rcases open_slice Tryz.underlying32 hf with ⟨hcs, _⟩ | ⟨a, n0, c0, m, n, D, Pl, hcs, _, hl, hm, hmm, hx, hi⟩
  · exact ⟨none, 0, 0, [], hcs, TbIn.nil _ _, fun _ p hp => by cases hp⟩
  · have hone : ∀ i, i < n0 → ∃ p : Wr, WrAt w a i (D i) p := by
      intro i hin
      obtain ⟨cs', hcc, htt⟩ := hi i (by rw [hmm]; simp; omega)
      rw [cells_wr] at hcc
      exact wr_of hcc htt
    obtain ⟨f, hf2⟩ := choose_lt hone
    have hget : ∀ (i : Nat) p, ((List.range n0).map f)[i]? = some p → i < n0 ∧ p = f i := by
      intro i p hip
      obtain ⟨hlt, rfl⟩ := List.getElem?_eq_some_iff.1 hip
      simp at hlt
      exact ⟨hlt, by simp⟩
    refine ⟨some a, n0, c0, (List.range n0).map f, hcs, ⟨some a, c0, by simp, by simpa using hl, hm, (fun h => by cases h), fun hp => ?_⟩, fun hw => ?_⟩
    · have hp0 : 0 < n0 := by simpa using hp
      obtain ⟨b, off, spot⟩ := a
      have hc := (hf2 0 hp0).2 0 _ rfl
      have hspot : spot = none := by simpa [Addr.add] using World.cell?_spot hc
      subst hspot
      refine ⟨b, off, rfl, ?_, ?_⟩
      · have := World.block_lt_of_cell? w _ hc
        rwa [block_of_add] at this
      · intro i p hip j x hj
        obtain ⟨hlt, rfl⟩ := hget i p hip
        have := (hf2 i hlt).2 j x hj
        rwa [Addr.add_lit, ← Nat.add_assoc] at this
    · intro p hp
      obtain ⟨i, hi2, rfl⟩ := List.mem_map.1 hp
      have hlt := List.mem_range.1 hi2
      refine (hf2 i hlt).1 fun n hn => hw n ?_
      have hd : x.1 = .slice ((List.range n0).map D) ((List.range (m - n0)).map fun j => D (n0 + j)) := by rw [hx]
      rw [hd]
      simp only [DataW.weights, Tryz.underlying32]
      exact List.mem_cons_of_mem _ (List.mem_append_left _ (weightsAll_mem (d := D i) (List.mem_map.2 ⟨i, hi2, rfl⟩) hn))

def TbsIn (w : World) (B : Nat) (v : Value) (ls : List (List Wr)) : Prop :=
  ∃ A c, v = .slice A ls.length c ∧ ls.length ≤ c ∧ c ≤ maxLen ∧
    (0 < ls.length → ∃ b off, A = some ⟨b, off, none⟩ ∧ b < B ∧ ∀ (i : Nat) l, ls[i]? = some l → ∃ u, TbIn w B u l ∧ w.cell? ⟨b, off + i, none⟩ = some u)

section
variable {w w' : World} {B B' : Nat} {v : Value} {ls : List (List Wr)}
theorem TbsIn.below (h : TbsIn w B v ls) (hb : Below B w w') : TbsIn w' B v ls := by
  obtain ⟨A, c, h1, h2, h3, h5⟩ := h
  refine ⟨A, c, h1, h2, h3, fun hp => ?_⟩
  obtain ⟨b, off, e, hB, hc⟩ := h5 hp
  refine ⟨b, off, e, hB, fun i l hi => ?_⟩
  obtain ⟨u, h6, h7⟩ := hc i l hi
  exact ⟨u, h6.below hb, (hb.cell (p := ⟨b, off + i, none⟩) hB).trans h7⟩
theorem TbsIn.len (h : TbsIn w B v ls) : ∃ A c, v = .slice A ls.length c ∧ ls.length ≤ c ∧ c ≤ 9223372036854775807 := by
  obtain ⟨A, c, h1, h2, h3, _⟩ := h
  exact ⟨A, c, h1, h2, h3⟩
theorem TbsIn.at {A : Option Addr} {n c : Nat} (h : TbsIn w B (.slice A n c) ls) {k : Nat} {l : List Wr} (hk : ls[k]? = some l) :
    ∃ b off u, A = some ⟨b, off, none⟩ ∧ b < B ∧ TbIn w B u l ∧ w.cell? ⟨b, off + k, none⟩ = some u := by
  obtain ⟨A0, c0, e, _, _, h5⟩ := h
  injection e with e1 e2 e3
  have hlt := (List.getElem?_eq_some_iff.1 hk).1
  obtain ⟨b, off, e, hB, hc⟩ := h5 (by omega)
  obtain ⟨u, h6, h7⟩ := hc k l hk
  exact ⟨b, off, u, e1.trans e, hB, h6, h7⟩
end

def wrCs (l : List Wr) : List Value := (l.map wrC).flatten
theorem wrCs_append (a b : List Wr) : wrCs (a ++ b) = wrCs a ++ wrCs b := by simp [wrCs]
theorem wrCs_len (l : List Wr) : (wrCs l).length = l.length * 3 := by
  induction l with
  | nil => rfl
  | cons p r ih =>
    show (wrC p ++ wrCs r).length = _
    rw [List.length_append, ih, wrC_len, List.length_cons]
    omega
theorem wrCs_at : ∀ (l : List Wr) (i : Nat) (p : Wr), l[i]? = some p → ∀ (j : Nat) x, (wrC p)[j]? = some x → (wrCs l)[i * 3 + j]? = some x
  | [], _, _, h, _, _, _ => by simp at h
  | q :: r, 0, p, h, j, x, hx => by
    have e : q = p := by simpa using h
    subst e
    have hj : j < (wrC q).length := (List.getElem?_eq_some_iff.1 hx).1
    show (wrC q ++ wrCs r)[0 * 3 + j]? = some x
    rw [Nat.zero_mul, Nat.zero_add, List.getElem?_append_left hj]
    exact hx
  | q :: r, i + 1, p, h, j, x, hx => by
    have := wrCs_at r i p (by simpa using h) j x hx
    show (wrC q ++ wrCs r)[(i + 1) * 3 + j]? = some x
    rw [List.getElem?_append_right (by simp [wrC]; omega)]
    rw [show (i + 1) * 3 + j - (wrC q).length = i * 3 + j by simp [wrC]; omega]
    exact this
theorem wrCs_of : ∀ (l : List Wr) (j : Nat) x, (wrCs l)[j]? = some x → ∃ i p k, l[i]? = some p ∧ (wrC p)[k]? = some x ∧ j = i * 3 + k
  | [], _, _, h => by simp [wrCs] at h
  | q :: r, j, x, h => by
    have h : (wrC q ++ wrCs r)[j]? = some x := h
    by_cases hj : j < 3
    · rw [List.getElem?_append_left (by rw [wrC_len]; exact hj)] at h
      exact ⟨0, q, j, rfl, h, by omega⟩
    · rw [List.getElem?_append_right (by rw [wrC_len]; omega), wrC_len] at h
      obtain ⟨i, p, k, h1, h2, h3⟩ := wrCs_of r _ x h
      exact ⟨i + 1, p, k, by simpa using h1, h2, by omega⟩
theorem wrCs_one (l : List Wr) : ∀ u ∈ wrCs l, u.oneCell' = true := by
  intro u hu
  simp only [wrCs, List.mem_flatten, List.mem_map] at hu
  obtain ⟨_, ⟨p, _, rfl⟩, hu⟩ := hu
  exact wrC_one p u hu

theorem info_wr : (Tryz.prog.info? 52).map (fun i => (i.zero, i.size, i.bytes)) = some (some (.agg #[.string ByteArray.empty, .string ByteArray.empty, .bool false]), 3, 40) := by kernel_rfl

def OwnTb (w : World) (B : Nat) (v : Value) (l : List Wr) : Prop := w.ownsRow B 52 3 v l.length (wrCs l)

section
variable {w w' : World} {B : Nat} {v : Value} {l : List Wr}
theorem OwnTb.nil (w : World) (B : Nat) : OwnTb w B (.slice none 0 0) [] := World.ownsRow_nil _ _ _ _
theorem OwnTb.lower {B' : Nat} (h : OwnTb w B v l) (hB : B' ≤ B) : OwnTb w B' v l := by
  refine ⟨h.1, ?_⟩
  rcases h.2 with h2 | ⟨g, cap, cur, hv, hg, r⟩
  · exact .inl h2
  · exact .inr ⟨g, cap, cur, hv, Nat.le_trans hB hg, r⟩
theorem OwnTb.alloc (h : OwnTb w B v l) (o : Obj) : OwnTb (w.alloc o) B v l := World.ownsRow.alloc h o
theorem OwnTb.tbIn (h : OwnTb w B v l) : TbIn w w.heap.size v l := by
  have hlt := World.ownsRow.lt h
  have hc := fun g hg => World.ownsRow.cells h (g := g) hg
  rcases h.2 with ⟨rfl, h0⟩ | ⟨g, cap, cur, rfl, hBg, hg, hn, hm, _, _⟩
  · have : l = [] := List.eq_nil_of_length_eq_zero h0
    subst this
    exact TbIn.nil _ _
  · refine ⟨_, cap, rfl, hn, hm, (fun h => by cases h), fun _ => ⟨g, 0, rfl, (hlt g rfl).2, fun i p hi j x hj => ?_⟩⟩
    have := hc g rfl (i * 3 + j) _ (wrCs_at l i p hi j x hj)
    rw [Addr.add_lit] at this
    rwa [← Nat.add_assoc] at this

theorem run_append_tbs (ho : OwnTb w B v l) (hB : B ≤ w.heap.size) (x : Value) (B' : Nat) (ns : List Wr) (hx : TbIn w B' x ns) (hm : l.length + ns.length ≤ 1099511627776) (ty : TypeId) :
    ∃ v' w', (Builtin.append_ #[32, 32] ty #[v, x]).run Tryz.prog w = .ok v' w' ∧ OwnTb w' B v' (l ++ ns) ∧ Below B w w' ∧ w.grownBy w' v.ownBlock := by
  obtain ⟨i0, hi, hz0, hz1, hz2⟩ := info_parts info_wr
  have hmax : l.length + ns.length ≤ maxLen := by simp only [maxLen]; omega
  obtain ⟨A, c, rfl, _, _, h4, h6⟩ := hx
  by_cases h0 : 0 < ns.length
  · obtain ⟨b, off, rfl, _, hc⟩ := h6 h0
    obtain ⟨v', w', hr, h2, h3, _⟩ := run_append_own (P := Tryz.prog) w B 32 ty 52 i0 _ 3 40 Tryz.underlying32 hi hz0 hz1 hz2 rfl (by omega) v l.length (wrCs l) ho ⟨b, off, none⟩ ns.length c (wrCs ns) (wrCs_len ns)
      (fun j u hu => by
        rw [Addr.add_lit]
        obtain ⟨i, p, k, h1, h2, rfl⟩ := wrCs_of ns j u hu
        rw [← Nat.add_assoc]
        exact hc i p h1 k u h2) (wrCs_one ns) hmax (by omega) hB
    refine ⟨v', w', hr, ?_, (Below.refl _ _).grown h3 hB (fun k hk => (World.ownsRow.lt ho k hk).1), h3⟩
    unfold OwnTb
    rw [wrCs_append, List.length_append]
    exact h2
  · have hns : ns = [] := List.eq_nil_of_length_eq_zero (by omega)
    subst hns
    cases A with
    | some ad =>
      obtain ⟨v', w', hr, h2, h3, _⟩ := run_append_own (P := Tryz.prog) w B 32 ty 52 i0 _ 3 40 Tryz.underlying32 hi hz0 hz1 hz2 rfl (by omega) v l.length (wrCs l) ho ad 0 c [] rfl (fun j u hu => by simp at hu) (by simp) hmax (by simpa using by omega) hB
      refine ⟨v', w', hr, ?_, (Below.refl _ _).grown h3 hB (fun k hk => (World.ownsRow.lt ho k hk).1), h3⟩
      unfold OwnTb
      rw [wrCs_append, List.length_append]
      exact h2
    | none =>
      have hc := h4 rfl
      subst hc
      refine ⟨v, w, ?_, by simpa using ho, Below.refl _ _, ⟨rfl, rfl, rfl, Nat.le_refl _, fun _ _ _ => rfl⟩⟩
      rcases ho.2 with ⟨rfl, h0⟩ | ⟨g, cap, cur, rfl, _, _, hnc, _⟩
      · simp [Builtin.append_, run_underlying Tryz.underlying32, sizeOf, typeInfo, hi, Builtin.lenOf, Builtin.firstCells]
      · simp [Builtin.append_, run_underlying Tryz.underlying32, sizeOf, typeInfo, hi, Builtin.lenOf, Builtin.firstCells, hnc, storeCells]

theorem wp_append_tbs {ops : Array Oper} {rest : List Oper} {o : Oper} {a : Act} {Q : Exit → Act → World → Prop} (hgd : o.guard = none) (s x : Operand)
    (hop : o.op = .call { callee := .builtin .append, args := #[s, x], argTypes := #[32, 32] })
    (hs : a.eval s = v) (ho : OwnTb w B v l) (hB : B ≤ w.heap.size) (y : Value) (B' : Nat) (ns : List Wr) (hx : a.eval x = y) (hy : TbIn w B' y ns)
    (hm : l.length + ns.length ≤ 1099511627776)
    (hK : ∀ v' w', OwnTb w' B v' (l ++ ns) → Below B w w' → w.grownBy w' v.ownBlock → wpList Tryz.prog ops Q rest (a.put o.dst v') w') : wpList Tryz.prog ops Q (o :: rest) a w := by
  refine wpList_plain hgd fun K hK' => ?_
  obtain ⟨v', w', hrun, r1, r2, r3⟩ := run_append_tbs ho hB y B' ns hy hm o.type
  unfold Oper.wp
  simp [execOp, hop, resolve, invoke, builtin, hs, hx, hrun, Result.andThen]
  exact hK' _ _ (hK v' w' r1 r2 r3)
end

theorem tb_one (w : World) (p : Wr) (T : TypeId) : TbIn (w.alloc (.cells #[.string ⟨p.1.toArray⟩, .string ⟨p.2.1.toArray⟩, .bool p.2.2] T)) (w.heap.size + 1) (.slice (some ⟨w.heap.size, 0, none⟩) 1 1) [p] :=
  ⟨_, 1, rfl, by simp, by simp [maxLen], (fun h => by cases h), fun _ => ⟨w.heap.size, 0, rfl, by omega, fun i q hi j x hx => by
    have hlt := (List.getElem?_eq_some_iff.1 hi).1
    obtain rfl : i = 0 := by simp at hlt; omega
    obtain rfl : p = q := by simpa using hi
    have hrow := heap_alloc_new w (.cells #[.string ⟨p.1.toArray⟩, .string ⟨p.2.1.toArray⟩, .bool p.2.2] T)
    match j with
    | 0 => exact (cell_of_row _ _ 0 _ _ _ hrow).trans hx
    | 1 => exact (cell_of_row _ _ 1 _ _ _ hrow).trans hx
    | 2 => exact (cell_of_row _ _ 2 _ _ _ hrow).trans hx
    | j + 3 => simp [wrC] at hx⟩⟩

end Go.Proofs.YtlchmkpnehbnlaaGreatDoor.Cd

/-
  frame.Sum: the check of bytes. Conditions: none.
-/
namespace Go.Proofs.YtlchmkpnehbnlaaGreatDoor.Cd
open Go.RowKit

theorem ret_u32 {a b : Int} (h : a = b) : Ending.returned (.int .u32 a) = .returned (.int .u32 b) := by rw [h]

theorem wrap_byte32 (c : UInt8) : IntKind.u32.wrap (c.toNat : Int) = (c.toNat : Int) := by
  have := c.toNat_lt
  rw [IntKind.wrap_u32']
  omega

theorem and_one32 (s : Nat) (h : s < 4294967296) : bits BinOp.and IntKind.u32 (s : Int) 1 = ((s % 2 : Nat) : Int) := by
  have := u32_and_nat s 1 h (by omega)
  rw [nat_mask1] at this
  exact this

theorem bit1_xor (s : Nat) (h : s < 4294967296) (hs : s % 2 = 1) : bits BinOp.xor IntKind.u32 ((s : Int) / 2) 2197175160 = (bit1 s : Nat) := by
  have h2 := u32_xor_nat (s / 2) 2197175160 (by omega) (by omega)
  unfold bit1 fell
  rw [if_pos hs, ← h2]
  rfl
theorem bit1_none (s : Nat) (h : s < 4294967296) (hs : s % 2 = 0) : bits BinOp.xor IntKind.u32 ((s : Int) / 2) 0 = (bit1 s : Nat) := by
  have h2 := u32_xor_nat (s / 2) 0 (by omega) (by omega)
  unfold bit1 fell
  rw [if_neg (by omega), ← h2]
  rfl
theorem poly_all : bits BinOp.and IntKind.u32 2197175160 4294967295 = 2197175160 := by
  have := u32_and_nat 2197175160 4294967295 (by omega) (by omega)
  exact this.trans (by decide)
theorem poly_none : bits BinOp.and IntKind.u32 2197175160 0 = 0 := by
  have := u32_and_nat 2197175160 0 (by omega) (by omega)
  exact this.trans (by decide)

theorem xor_ones (s : Nat) (h : s < 4294967296) : 4294967295 ^^^ s = 4294967295 - s := by
  have e := congrArg BitVec.toNat (BitVec.allOnes_xor (x := BitVec.ofNat 32 s))
  rw [BitVec.toNat_xor, BitVec.toNat_not, BitVec.toNat_allOnes, BitVec.toNat_ofNat, Nat.mod_eq_of_lt (by omega)] at e
  exact e
theorem not32 (s : Nat) (h : s < 4294967296) : bits BinOp.xor IntKind.u32 IntKind.u32.max (s : Int) = ((4294967295 - s : Nat) : Int) := by
  rw [← xor_ones s h]
  exact u32_xor_nat 4294967295 s (by omega) h

set_option maxRecDepth 100000 in
set_option maxHeartbeats 1600000 in
theorem fsum_any (v : Value) (bs : List UInt8) (w : World) {B : Nat} (h : Sl w B v bs) :
    Calls Tryz.prog 162 #[v] w fun e w' => e = .returned (.int .u32 (crc bs : Nat)) ∧ w = w' := by
  have hat := fun h0 => h.at h0
  obtain ⟨A, c, rfl, h2, h3⟩ := h.len
  clear h
  have HAT := Lib.hid hat
  clear hat
  have hm2 : bs.length ≤ 9223372036854775807 := by unfold maxLen at h3; omega
  clear h3
  go_enter Tryz.func162, Tryz.ntmps162
  go_wp2
  go_loop [3, 9] (fun s1 i => ∃ k : Nat, k ≤ bs.length ∧ i = .int .i64 k ∧ s1 = .int .u32 (crcOn 4294967295 (bs.take k) : Nat)) (fun _ i => bs.length - (intOf i).toNat)
  case atStart => exact ⟨0, Nat.zero_le _, rfl, rfl⟩
  case round =>
    obtain ⟨k, hk, rfl, rfl⟩ := hrel
    by_cases hlt : k < bs.length
    · obtain ⟨b, off, c', he, _, _, _, hc⟩ := HAT.out (by omega)
      have hcell := hc k hlt
      have hsn := crcOn_snoc 4294967295 bs k hlt
      injection he with e1 _ e3
      subst e1 e3
      clear hc
      have hlt32 := crcOn_lt (s := 4294967295) (by omega) (bs.take k)
      generalize hx : bs[k] = x at hcell hsn
      generalize hm : crcOn 4294967295 (bs.take k) = m at hsn hlt32 ⊢
      have E1 := wrap_byte32 x
      have E2 := u32_xor_nat m x.toNat hlt32 (by have := x.toNat_lt; omega)
      have HX := Lib.hid (xor_byte_lt hlt32 x)
      have HSN := Lib.hid hsn
      clear hx hm hsn hlt32
      go_wp2
      go_loop [3, 17] (fun s1 i => ∃ j : Nat, j ≤ 8 ∧ i = .int .i64 j ∧ s1 = .int .u32 (bitsN j (m ^^^ x.toNat) : Nat)) (fun _ i => 8 - (intOf i).toNat)
      case atStart => exact ⟨0, Nat.zero_le _, rfl, rfl⟩
      case round =>
        obtain ⟨j, hj, rfl, rfl⟩ := hrel
        by_cases hjl : j < 8
        · have hl := bitsN_lt HX.out j
          have hnx : Hid (bitsN (j + 1) (m ^^^ x.toNat) = bit1 (bitsN j (m ^^^ x.toNat))) := rfl
          generalize bitsN j (m ^^^ x.toNat) = s at hl hnx ⊢
          have F1 := and_one32 s hl
          rcases (by omega : s % 2 = 0 ∨ s % 2 = 1) with h0 | h0
          · have F2 := bit1_none s hl h0
            have F3 := poly_none
            rw [h0] at F1
            clear h0
            go_wp2
            go_round
            case rel => exact ⟨j + 1, by omega, by go_num, by rw [hnx.out]⟩
            case measure => simp [intOf]; omega
          · have F2 := bit1_xor s hl h0
            have F3 := poly_all
            rw [h0] at F1
            clear h0
            go_wp2
            go_round
            case rel => exact ⟨j + 1, by omega, by go_num, by rw [hnx.out]⟩
            case measure => simp [intOf]; omega
        · have hj8 : j = 8 := by omega
          have hcb : Hid (bitsN j (m ^^^ x.toNat) = crcB m x) := by unfold Hid; rw [hj8]; rfl
          clear hj8
          go_wp2
          go_round
          case rel => exact ⟨k + 1, by omega, by go_num, by rw [HSN.out, hcb.out]⟩
          case measure => simp [intOf]; omega
    · have hkl : k = bs.length := by omega
      have htk : Hid (bs.take k = bs) := by unfold Hid; rw [hkl, List.take_of_length_le (Nat.le_refl _)]
      have hl := crcOn_lt (s := 4294967295) (by omega) (bs.take k)
      clear hkl
      go_wp2
      go_ret
      refine ⟨ret_u32 ?_, rfl⟩
      rw [htk.out] at hl ⊢
      exact not32 _ hl

end Go.Proofs.YtlchmkpnehbnlaaGreatDoor.Cd

/-
  The document's check: bit by bit. Conditions: none.
-/
namespace Go.Proofs.YtlchmkpnehbnlaaGreatDoor.Cd
open Go.RowKit

end Go.Proofs.YtlchmkpnehbnlaaGreatDoor.Cd

/-
  frame.tail, the document's record. Conditions: none.
-/
namespace Go.Proofs.YtlchmkpnehbnlaaGreatDoor.Cd
open Go.RowKit

theorem le4_at (n k : Nat) (h : k < 4) : (le4 n).take (k + 1) = (le4 n).take k ++ [b8 (n / 256 ^ k)] := by
  rcases (by omega : k = 0 ∨ k = 1 ∨ k = 2 ∨ k = 3) with rfl | rfl | rfl | rfl <;> simp [le4]

theorem one_byte8 (w : World) (x : Int) (b : UInt8) (hx : x = (b.toNat : Int)) : Sl (w.alloc (.cells #[.int .u8 x] 5)) (w.heap.size + 1) (.slice (some ⟨w.heap.size, 0, none⟩) 1 1) [b] :=
  sl_new w [b] #[.int .u8 x] (by rw [hx]; rfl) (by simp [maxLen]) 1 rfl

set_option maxRecDepth 100000 in
set_option maxHeartbeats 1600000 in
theorem tail_any (v : Value) (bs : List UInt8) (w : World) {B : Nat} (h : Sl w B v bs) :
    Calls Tryz.prog 131 #[v] w (Wrote w (le4 (crc bs))) := by
  have H := Lib.hid h
  clear h
  go_enter Tryz.func131, Tryz.ntmps131
  go_wp2_with fail
  refine (fsum_any v bs w H.out).mono ?_
  rintro e w1 ⟨rfl, rfl⟩
  have hcl := crc_lt bs
  have HCL := Lib.hid hcl
  generalize crc bs = n at *
  clear hcl
  go_wp2
  go_loopw [3, 4, 7] (fun s o i wr => ∃ k : Nat, k ≤ 4 ∧ i = .int .i64 k ∧ s = .int .u32 (n / 256 ^ k : Nat) ∧ Own wr w.heap.size o ((le4 n).take k) ∧ Below w.heap.size w wr) (fun _ _ i _ => 4 - (intOf i).toNat)
  case atStart => exact ⟨0, Nat.zero_le _, rfl, by rw [Nat.pow_zero, Nat.div_one], World.ownsRow_nil _ _ _ _, Below.refl _ _⟩
  case round =>
    obtain ⟨k, hk, rfl, rfl, ho, hbel⟩ := hrel
    have hB := hbel.size
    by_cases hlt : k < 4
    · have hat := le4_at n k hlt
      have hlen : ((le4 n).take k).length = k := by rw [List.length_take, le4_len]; omega
      have hdn : n / 256 ^ (k + 1) = n / 256 ^ k / 256 := by rw [Nat.pow_succ, Nat.div_div_eq_div_mul]
      have hsm : n / 256 ^ k < 4294967296 := Nat.lt_of_le_of_lt (Nat.div_le_self _ _) HCL.out
      generalize n / 256 ^ (k + 1) = m2 at hdn
      have HDN : Hid (n / 256 ^ (k + 1) = n / 256 ^ k / 256) := by unfold Hid; rw [Nat.pow_succ, Nat.div_div_eq_div_mul]
      generalize n / 256 ^ k = m at *
      have HX : Hid ((m : Int) % 256 = ((b8 m).toNat : Int)) := by unfold Hid; rw [b8_nat]; omega
      have HAT := Lib.hid hat
      have HL := Lib.hid hlen
      clear hat hdn hlen
      go_wp2_with (at_builtin; refine wp_append_sl rfl _ _ rfl w.heap.size _ ((le4 n).take k) rfl ?ho ?hB _ (wr.heap.size + 1) [b8 m] rfl ?hn ?hm ?hK)
      case ho => exact ho.alloc _
      case hB => simp; omega
      case hn => exact one_byte8 _ _ _ (by have := HX.out; omega)
      case hm => rw [HL.out]; simp; omega
      case hK =>
        intro v' w' hown hb'
        go_wp2
        go_roundw
        case rel => exact ⟨k + 1, by omega, by go_num, by rw [HDN.out]; go_num, by rw [HAT.out]; exact hown, (hbel.alloc hB _).trans hb'⟩
        case measure => simp [intOf]; omega
    · have hk4 : k = 4 := by omega
      have htk : Hid ((le4 n).take k = le4 n) := by unfold Hid; rw [hk4]; rfl
      clear hk4
      go_wp2
      go_ret
      exact ⟨_, rfl, by rw [← htk.out]; exact ho, hbel⟩

end Go.Proofs.YtlchmkpnehbnlaaGreatDoor.Cd

/-
  frame.Put, and the document's record. Conditions: none.
-/
namespace Go.Proofs.YtlchmkpnehbnlaaGreatDoor.Cd
open Go.RowKit

theorem text_of (v : Value) (bs s : List UInt8) (w : World) (hs : Sl w w.heap.size v bs) (hb : bs.length + 10 + s.length ≤ 140737488355328) :
    Calls Tryz.prog 64 #[v, .string ⟨s.toArray⟩] w (Wrote w (bs ++ (enc s.length ++ s))) := text_any v bs ⟨s.toArray⟩ w hs hb

theorem sl_drop {w : World} {B : Nat} {g off L cap : Nat} {bs : List UInt8} (h : Sl w B (.slice (some ⟨g, off, none⟩) L cap) bs) (k : Nat) (hk : k ≤ bs.length) (a : Nat) (ha : 0 < bs.length - k → a = off + k) (hB : g < B) :
    Sl w B (.slice (some ⟨g, a, none⟩) (L - k) (cap - k)) (bs.drop k) := by
  obtain ⟨A, c, e, h2, h3, h4, h5, h6⟩ := h
  injection e with e1 e2 e3
  subst e1 e2 e3
  refine ⟨some ⟨g, a, none⟩, cap - k, by rw [List.length_drop], by rw [List.length_drop]; omega, by omega, (fun hn => by cases hn), fun ad e h0 => ?_, fun ad e j u hu => ?_⟩
  · injection e with e
    subst e
    exact hB
  · have hj := (List.getElem?_eq_some_iff.1 hu).1
    rw [vb_length, List.length_drop] at hj
    have hu2 : (vb bs)[k + j]? = some u := by
      rw [← hu]
      simp only [vb, List.map_drop, List.getElem?_drop]
    have h7 := h6 _ rfl (k + j) u hu2
    injection e with e
    subst e
    rw [Addr.add_lit] at h7 ⊢
    rw [ha (by omega), Nat.add_assoc]
    exact h7

set_option maxRecDepth 100000 in
set_option maxHeartbeats 800000 in
theorem put_any (v : Value) (bs s : List UInt8) (w : World) (hs : Sl w w.heap.size v bs) (hb : bs.length + s.length + 14 ≤ 140737488355328) :
    Calls Tryz.prog 108 #[v, .string ⟨s.toArray⟩] w (Wrote w (bs ++ frm s)) := by
  have hl := enc_u64 s.length (by omega)
  have hp := enc_pos s.length
  obtain ⟨c, hc⟩ : ∃ c, bs ++ (enc s.length ++ s) = c := ⟨_, rfl⟩
  have hcl : bs.length + 1 ≤ c.length ∧ c.length ≤ bs.length + 10 + s.length := by rw [← hc, List.length_append, List.length_append]; omega
  have hcd : Hid (c.drop bs.length = enc s.length ++ s) := by unfold Hid; rw [← hc, List.drop_left]
  have HC := Lib.hid hc
  clear hc hl hp
  have HS := Lib.hid hs
  obtain ⟨A, k, rfl, h2, h3⟩ := hs.len
  have h3 : k ≤ 9223372036854775807 := h3
  clear hs
  go_enter Tryz.func108, Tryz.ntmps108
  go_wp2_with fail
  refine (text_of _ bs s w HS.out (by omega)).mono ?_
  rintro e w1 ⟨v1, rfl, ho1, hb1⟩
  rw [HC.out] at ho1
  obtain ⟨g, cap, cur, rfl, hg1, hg2, hg3, hg4, hg5, hg6⟩ := own_block ho1 (by omega)
  have hg5 : cap ≤ 9223372036854775807 := hg5
  have HO := Lib.hid ho1
  clear ho1 hg6 hg3
  go_wp2_with fail
  refine (tail_any _ (enc s.length ++ s) w1 (by have := sl_drop HO.out.sl bs.length (by omega) bs.length (fun _ => by omega) hg2; rw [hcd.out] at this; exact this)).mono ?_
  rintro e w2 ⟨v2, rfl, ho2, hb2⟩
  have hs1 := hb1.size
  have hs2 := hb2.size
  go_wp2_with (at_builtin; refine wp_append_sl rfl _ _ rfl w.heap.size _ c rfl ?ho ?hB _ w2.heap.size (le4 (crc (enc s.length ++ s))) rfl ?hn ?hm ?hK)
  case ho => exact HO.out.keep hb2
  case hB => omega
  case hn => exact ho2.sl
  case hm => rw [le4_len]; omega
  case hK =>
    intro v3 w3 ho3 hb3
    go_wp2_with fail
    go_ret
    refine ⟨v3, rfl, ?_, (hb1.trans (hb2.mono hs1)).trans hb3⟩
    have e : bs ++ frm s = c ++ le4 (crc (enc s.length ++ s)) := by rw [← HC.out]; simp [frm]
    rw [e]
    exact ho3

end Go.Proofs.YtlchmkpnehbnlaaGreatDoor.Cd

/-
  frame.first, frame.One: the record that bytes begin with. Conditions: none.
-/
namespace Go.Proofs.YtlchmkpnehbnlaaGreatDoor.Cd
open Go.RowKit

def FirstIs (w : World) (g : Nat) (bs : List UInt8) (e : Ending) (w' : World) : Prop :=
  ((∃ x, frm x <+: bs ∧ e = .returned (.tuple #[.string ⟨x.toArray⟩, .int .i64 ((frm x).length : Nat)]) ∧ Rd w' g (bs.drop (frm x).length) false) ∨
    (¬ HasRec bs ∧ e = .returned (.tuple #[.string ⟨#[]⟩, .int .i64 0]))) ∧ w.grownBy w' (some g)

theorem grown_below {a b c : World} {g : Nat} (h : a.grownBy b (some g)) (k : Below b.heap.size b c) : a.grownBy c (some g) :=
  ⟨k.os.trans h.os, k.tape.trans h.tape, k.output.trans h.output, Nat.le_trans h.size k.size, fun i hi hn => (k.block i (Nat.lt_of_lt_of_le hi h.size)).trans (h.block i hi hn)⟩

theorem sl_take {w : World} {B : Nat} {A : Option Addr} {L cap : Nat} {bs : List UInt8} (h : Sl w B (.slice A L cap) bs) (k : Nat) (hk : k ≤ bs.length) :
    Sl w B (.slice A k cap) (bs.take k) := by
  obtain ⟨A', c, e, h2, h3, h4, h5, h6⟩ := h
  injection e with e1 e2 e3
  subst e1 e2 e3
  have hl : (bs.take k).length = k := by rw [List.length_take]; omega
  refine ⟨A, cap, by rw [hl], by rw [hl]; omega, h3, h4, (fun ad e h0 => h5 ad e (by omega)), fun ad e j u hu => ?_⟩
  have hj := (List.getElem?_eq_some_iff.1 hu).1
  rw [vb_length, hl] at hj
  refine h6 ad e j u ?_
  rw [← hu]
  simp only [vb, List.map_take]
  rw [List.getElem?_take, if_pos hj]

theorem ret_pair {a : Value} {k : IntKind} {x y : Int} (h : x = y) : Ending.returned (.tuple #[a, .int k x]) = .returned (.tuple #[a, .int k y]) := by rw [h]

set_option maxRecDepth 100000 in
set_option maxHeartbeats 1600000 in
theorem first_any (g : Nat) (v : Value) (bs : List UInt8) (w : World) (hr : Rd w g bs false) (h : Sl w w.heap.size v bs) (hg : g < w.heap.size) (hs : ∀ W : World, w.grownBy W (some g) → Sl W W.heap.size v bs) (hb : bs.length ≤ 140737488355328) :
    Calls Tryz.prog 85 #[.pointer (some ⟨g, 0, none⟩), v] w (FirstIs w g bs) := by
  obtain ⟨A, c, rfl, h2, h3⟩ := h.len
  have h3 : c ≤ 9223372036854775807 := h3
  have htx := Lib.hid (rtext_any g bs.length bs false w hr (Sane.start _) hb (by omega))
  have HS := Lib.hid hs
  have HTL := Lib.hid (txV_len (bs.length : Int) bs)
  have HBL := Lib.hid (txB_len (bs.length : Int) bs)
  clear hr hs h
  have h64 : bs.length < 18446744073709551616 := by omega
  cases hX : txX bs.length bs
  · by_cases h4 : (txB (bs.length : Int) bs).length < 4
    · have hno : Hid (¬ HasRec bs) := no_rec h64 (.inr (.inl h4))
      generalize hR : txB (bs.length : Int) bs = R at *
      generalize txV (bs.length : Int) bs = T at *
      rw [hX] at htx
      have htk : Hid (tkX false 4 R = true) := decide_eq_true (.inr (.inr (by omega)))
      clear hR hX h4
      go_enter Tryz.func85, Tryz.ntmps85
      go_wp2_with (first | (go_at_call 98; refine htx.out.mono ?_; rintro e w1 ⟨rfl, hl1⟩) | (go_at_call 128; refine (rtake_any g 4 R false w1 hl1.1 (Sane.start _) (by have := HBL.out; omega)).mono ?_; rintro e w2 ⟨rfl, hl2⟩; rw [htk.out] at hl2) | (go_at_call 129; refine (good_any g _ _ _ hl2.1).mono ?_; rintro e w3 ⟨rfl, rfl⟩))
      go_ret2
      exact ⟨.inr ⟨hno.out, rfl⟩, (left_trans hl1 hl2).2⟩
    · have h4' : 4 ≤ (txB (bs.length : Int) bs).length := by omega
      have h1 := one_tx hX
      have hrec := Lib.hid (fun hk => rec_of hX hk)
      have hno := Lib.hid (fun hk => no_rec h64 (.inr (.inr hk)))
      generalize hR : txB (bs.length : Int) bs = R at *
      generalize hT : txV (bs.length : Int) bs = T at *
      rw [hX] at htx
      have htk : Hid (tkX false 4 R = false ∧ tkV false 4 R = R.take 4 ∧ tkB false 4 R = R.drop 4) := by
        have hn : ¬ TkBad false 4 R := by
          rintro (h | h | h)
          · cases h
          · omega
          · omega
        exact ⟨decide_eq_false hn, if_neg hn, if_neg hn⟩
      obtain ⟨n, hn⟩ : ∃ n, (enc T.length).length = n := ⟨_, rfl⟩
      have hsz : n + T.length + R.length = bs.length := by
        have := congrArg List.length h1
        rw [List.length_append, List.length_append] at this
        omega
      have htake : Hid (bs.take (n + T.length) = enc T.length ++ T) := by
        unfold Hid
        rw [← h1, List.take_append_of_le_length (by rw [List.length_append]; omega), List.take_of_length_le (by rw [List.length_append]; omega)]
      have hdrop : Hid (bs.drop (n + T.length + 4) = R.drop 4) := by
        unfold Hid
        have e : (enc T.length ++ T).length = n + T.length := by rw [List.length_append, hn]
        rw [← h1, ← e, List.drop_append]
        simp
      have hfl : Hid ((frm T).length = n + T.length + 4) := by unfold Hid; rw [frm_len, hn]
      have hszT := size_any T.length (by omega)
      rw [hn] at hszT
      have HN := Lib.hid hn
      have HSZ := Lib.hid hszT
      clear hR hT hX h4 h1 hn hszT
      by_cases hk : R.take 4 = le4 (crc (enc T.length ++ T))
      · have hpre := Lib.hid (hrec.out hk)
        have HK := Lib.hid hk
        clear hrec hno hk
        go_enter Tryz.func85, Tryz.ntmps85
        go_wp2_with (first | (go_at_call 98; refine htx.out.mono ?_; rintro e w1 ⟨rfl, hl1⟩) | (go_at_call 128; refine (rtake_any g 4 R false w1 hl1.1 (Sane.start _) (by have := HBL.out; omega)).mono ?_; rintro e w2 ⟨rfl, hl2⟩; rw [htk.out.1, htk.out.2.2] at hl2; rw [htk.out.2.1]) | (go_at_call 129; refine (good_any g _ _ _ hl2.1).mono ?_; rintro e w3 ⟨rfl, rfl⟩) | (go_at_call 130; refine (HSZ.out _).mono ?_; rintro e w4 ⟨rfl, rfl⟩))
        have hl3 := left_trans hl1 hl2
        refine (tail_any _ (enc T.length ++ T) w2 (by have := sl_take (HS.out w2 hl3.2) (n + T.length) (by omega); rw [htake.out] at this; exact this)).mono ?_
        rintro e w3 ⟨v3, rfl, ho3, hb3⟩
        have hcv := run_text_of w3 _ v3 _ ho3.sl
        generalize le4 (crc (enc T.length ++ T)) = P at *
        rw [HK.out]
        have hq : (P == P) = true := by simp
        go_wp2_with fail
        go_ret2
        exact ⟨.inl ⟨T, hpre.out, (by rw [hfl.out]; exact ret_pair rfl), by rw [hfl.out, hdrop.out]; exact hl3.1.below hb3 (by have := hl3.2.size; omega)⟩, grown_below hl3.2 hb3⟩
      · have hno2 := Lib.hid (hno.out hk)
        clear hrec hno
        go_enter Tryz.func85, Tryz.ntmps85
        go_wp2_with (first | (go_at_call 98; refine htx.out.mono ?_; rintro e w1 ⟨rfl, hl1⟩) | (go_at_call 128; refine (rtake_any g 4 R false w1 hl1.1 (Sane.start _) (by have := HBL.out; omega)).mono ?_; rintro e w2 ⟨rfl, hl2⟩; rw [htk.out.1, htk.out.2.2] at hl2; rw [htk.out.2.1]) | (go_at_call 129; refine (good_any g _ _ _ hl2.1).mono ?_; rintro e w3 ⟨rfl, rfl⟩) | (go_at_call 130; refine (HSZ.out _).mono ?_; rintro e w4 ⟨rfl, rfl⟩))
        have hl3 := left_trans hl1 hl2
        refine (tail_any _ (enc T.length ++ T) w2 (by have := sl_take (HS.out w2 hl3.2) (n + T.length) (by omega); rw [htake.out] at this; exact this)).mono ?_
        rintro e w3 ⟨v3, rfl, ho3, hb3⟩
        have hcv := run_text_of w3 _ v3 _ ho3.sl
        generalize le4 (crc (enc T.length ++ T)) = P at *
        generalize R.take 4 = Q at *
        have hq : (Q == P) = false := by simpa using hk
        clear hk
        go_wp2_with fail
        go_ret2
        exact ⟨.inr ⟨hno2.out, rfl⟩, grown_below hl3.2 hb3⟩
  · have hno : Hid (¬ HasRec bs) := no_rec h64 (.inl hX)
    have hR : txB (bs.length : Int) bs = [] := by unfold txB; rw [if_pos (of_decide_eq_true hX)]
    rw [hX, hR] at htx
    generalize txV (bs.length : Int) bs = T at *
    obtain ⟨k1, k2, k3⟩ := tk_nil_bad 4
    have K3 := Lib.hid k3
    clear hR hX k1 k2 k3 HBL
    go_enter Tryz.func85, Tryz.ntmps85
    go_wp2_with (first | (go_at_call 98; refine htx.out.mono ?_; rintro e w1 ⟨rfl, hl1⟩) | (go_at_call 128; refine (rtake_any g 4 [] true w1 hl1.1 (fun _ => rfl) (by simp)).mono ?_; rintro e w2 ⟨rfl, hl2⟩; rw [K3.out] at hl2) | (go_at_call 129; refine (good_any g _ _ _ hl2.1).mono ?_; rintro e w3 ⟨rfl, rfl⟩))
    go_ret2
    exact ⟨.inr ⟨hno.out, rfl⟩, (left_trans hl1 hl2).2⟩

theorem first_at (v : Value) (bs : List UInt8) (w : World) (g : Nat) (hr : Rd w g bs false) (h : Sl w g v bs) (hb : bs.length ≤ 140737488355328) :
    Calls Tryz.prog 85 #[.pointer (some ⟨g, 0, none⟩), v] w (FirstIs w g bs) := by
  have hg := hr.lt
  refine first_any g v bs w hr (h.more (by omega)) hg (fun W hW => ?_) hb
  have hk : ∀ p : Addr, p.block < g → W.cell? p = w.cell? p := fun p hp => World.cell?_of_block (hW.block p.block (by omega) (fun e => by injection e with e; omega))
  exact (h.keep hk).more (by have := hW.size; omega)

theorem below_grown {w0 w w' : World} {g B : Nat} (h : Below B w0 w) (hg : w.grownBy w' (some g)) (hB : B ≤ w.heap.size) (hr : B ≤ g) : Below B w0 w' :=
  h.grown hg hB (fun k hk => by injection hk with hk; omega)

end Go.Proofs.YtlchmkpnehbnlaaGreatDoor.Cd

/-
  Slices of pairs: how they read, how they grow. Conditions: none.
-/
namespace Go.Proofs.YtlchmkpnehbnlaaGreatDoor.Cd
open Go.RowKit Go.ChangeShapes Go.WideShapes Go.Deep

def prC (p : List UInt8 × List UInt8) : List Value := [.string ⟨p.1.toArray⟩, .string ⟨p.2.toArray⟩]
theorem prC_len (p : List UInt8 × List UInt8) : (prC p).length = 2 := rfl
theorem prC_one (p : List UInt8 × List UInt8) : ∀ u ∈ prC p, u.oneCell' = true := by
  intro u hu
  simp only [prC, List.mem_cons, List.not_mem_nil, or_false] at hu
  rcases hu with rfl | rfl <;> rfl

def PrIn (w : World) (B : Nat) (v : Value) (l : Prs) : Prop :=
  ∃ A c, v = .slice A l.length c ∧ l.length ≤ c ∧ c ≤ maxLen ∧ (A = none → c = 0) ∧
    (0 < l.length → ∃ b off, A = some ⟨b, off, none⟩ ∧ b < B ∧ ∀ (i : Nat) p, l[i]? = some p → ∀ (j : Nat) x, (prC p)[j]? = some x → w.cell? ⟨b, off + i * 2 + j, none⟩ = some x)

section
variable {w w' : World} {B B' : Nat} {v : Value} {l : Prs}
theorem PrIn.below (h : PrIn w B v l) (hb : Below B w w') : PrIn w' B v l := by
  obtain ⟨A, c, h1, h2, h3, h4, h5⟩ := h
  refine ⟨A, c, h1, h2, h3, h4, fun hp => ?_⟩
  obtain ⟨b, off, e, hB, hc⟩ := h5 hp
  exact ⟨b, off, e, hB, fun i p hi j x hj => (hb.cell (p := ⟨b, off + i * 2 + j, none⟩) hB).trans (hc i p hi j x hj)⟩
theorem PrIn.more (h : PrIn w B v l) (hB : B ≤ B') : PrIn w B' v l := by
  obtain ⟨A, c, h1, h2, h3, h4, h5⟩ := h
  refine ⟨A, c, h1, h2, h3, h4, fun hp => ?_⟩
  obtain ⟨b, off, e, hb, hc⟩ := h5 hp
  exact ⟨b, off, e, Nat.lt_of_lt_of_le hb hB, hc⟩
theorem PrIn.nil (w : World) (B : Nat) : PrIn w B (.slice none 0 0) [] := ⟨none, 0, rfl, Nat.le_refl _, Nat.zero_le _, fun _ => rfl, fun h => by simp at h⟩
theorem PrIn.len (h : PrIn w B v l) : ∃ A c, v = .slice A l.length c ∧ l.length ≤ c ∧ c ≤ 9223372036854775807 := by
  obtain ⟨A, c, h1, h2, h3, _⟩ := h
  exact ⟨A, c, h1, h2, h3⟩
theorem PrIn.at {A : Option Addr} {n c : Nat} (h : PrIn w B (.slice A n c) l) {k : Nat} {p : List UInt8 × List UInt8} (hk : l[k]? = some p) :
    ∃ b off, A = some ⟨b, off, none⟩ ∧ b < B ∧ w.cell? ⟨b, off + k * 2, none⟩ = some (.string ⟨p.1.toArray⟩) ∧ w.cell? ⟨b, off + k * 2 + 1, none⟩ = some (.string ⟨p.2.toArray⟩) := by
  obtain ⟨A0, c0, e, _, _, _, h5⟩ := h
  injection e with e1 e2 e3
  have hlt := (List.getElem?_eq_some_iff.1 hk).1
  obtain ⟨b, off, e, hB, hc⟩ := h5 (by omega)
  exact ⟨b, off, e1.trans e, hB, hc k p hk 0 _ rfl, hc k p hk 1 _ rfl⟩
end

def prCs (l : Prs) : List Value := (l.map prC).flatten
theorem prCs_append (a b : Prs) : prCs (a ++ b) = prCs a ++ prCs b := by simp [prCs]
theorem prCs_len (l : Prs) : (prCs l).length = l.length * 2 := by
  induction l with
  | nil => rfl
  | cons p r ih =>
    show (prC p ++ prCs r).length = _
    rw [List.length_append, ih, prC_len, List.length_cons]
    omega
theorem prCs_at : ∀ (l : Prs) (i : Nat) (p : List UInt8 × List UInt8), l[i]? = some p → ∀ (j : Nat) x, (prC p)[j]? = some x → (prCs l)[i * 2 + j]? = some x
  | [], _, _, h, _, _, _ => by simp at h
  | q :: r, 0, p, h, j, x, hx => by
    have e : q = p := by simpa using h
    subst e
    have hj : j < (prC q).length := (List.getElem?_eq_some_iff.1 hx).1
    show (prC q ++ prCs r)[0 * 2 + j]? = some x
    rw [Nat.zero_mul, Nat.zero_add, List.getElem?_append_left hj]
    exact hx
  | q :: r, i + 1, p, h, j, x, hx => by
    have := prCs_at r i p (by simpa using h) j x hx
    show (prC q ++ prCs r)[(i + 1) * 2 + j]? = some x
    rw [List.getElem?_append_right (by simp [prC]; omega)]
    rw [show (i + 1) * 2 + j - (prC q).length = i * 2 + j by simp [prC]; omega]
    exact this
theorem prCs_of : ∀ (l : Prs) (j : Nat) x, (prCs l)[j]? = some x → ∃ i p k, l[i]? = some p ∧ (prC p)[k]? = some x ∧ j = i * 2 + k
  | [], _, _, h => by simp [prCs] at h
  | q :: r, j, x, h => by
    have h : (prC q ++ prCs r)[j]? = some x := h
    by_cases hj : j < 2
    · rw [List.getElem?_append_left (by rw [prC_len]; exact hj)] at h
      exact ⟨0, q, j, rfl, h, by omega⟩
    · rw [List.getElem?_append_right (by rw [prC_len]; omega), prC_len] at h
      obtain ⟨i, p, k, h1, h2, h3⟩ := prCs_of r _ x h
      exact ⟨i + 1, p, k, by simpa using h1, h2, by omega⟩
theorem prCs_one (l : Prs) : ∀ u ∈ prCs l, u.oneCell' = true := by
  intro u hu
  simp only [prCs, List.mem_flatten, List.mem_map] at hu
  obtain ⟨_, ⟨p, _, rfl⟩, hu⟩ := hu
  exact prC_one p u hu

theorem info_pr : (Tryz.prog.info? 49).map (fun i => (i.zero, i.size, i.bytes)) = some (some (.agg #[.string ByteArray.empty, .string ByteArray.empty]), 2, 32) := by kernel_rfl

def OwnPr (w : World) (B : Nat) (v : Value) (l : Prs) : Prop := w.ownsRow B 49 2 v l.length (prCs l)

section
variable {w w' : World} {B : Nat} {v : Value} {l : Prs}
theorem OwnPr.nil (w : World) (B : Nat) : OwnPr w B (.slice none 0 0) [] := World.ownsRow_nil _ _ _ _
theorem OwnPr.keep (h : OwnPr w B v l) (hb : Below w.heap.size w w') : OwnPr w' B v l := by
  have hlt := World.ownsRow.lt h
  refine ⟨h.1, ?_⟩
  rcases h.2 with h4 | ⟨g, cap, cur, rfl, hg, hh, r⟩
  · exact .inl h4
  · exact .inr ⟨g, cap, cur, rfl, hg, (hb.block g (hlt g rfl).2).trans hh, r⟩
theorem OwnPr.lower {B' : Nat} (h : OwnPr w B v l) (hB : B' ≤ B) : OwnPr w B' v l := by
  refine ⟨h.1, ?_⟩
  rcases h.2 with h2 | ⟨g, cap, cur, hv, hg, r⟩
  · exact .inl h2
  · exact .inr ⟨g, cap, cur, hv, Nat.le_trans hB hg, r⟩
theorem OwnPr.alloc (h : OwnPr w B v l) (o : Obj) : OwnPr (w.alloc o) B v l := World.ownsRow.alloc h o
theorem OwnPr.off {T : Nat → Prop} (h : OwnPr w B v l) (ha : Apart T w w') (hT : ∀ b, v.ownBlock = some b → ¬ T b) : OwnPr w' B v l := by
  have hlt := World.ownsRow.lt h
  refine ⟨h.1, ?_⟩
  rcases h.2 with h4 | ⟨g, cap, cur, rfl, hg, hh, r⟩
  · exact .inl h4
  · exact .inr ⟨g, cap, cur, rfl, hg, (ha.block g (hlt g rfl).2 (hT g rfl)).trans hh, r⟩
theorem OwnPr.prIn (h : OwnPr w B v l) : PrIn w w.heap.size v l := by
  have hlt := World.ownsRow.lt h
  have hc := fun g hg => World.ownsRow.cells h (g := g) hg
  rcases h.2 with ⟨rfl, h0⟩ | ⟨g, cap, cur, rfl, hBg, hg, hn, hm, _, _⟩
  · have : l = [] := List.eq_nil_of_length_eq_zero h0
    subst this
    exact PrIn.nil _ _
  · refine ⟨_, cap, rfl, hn, hm, (fun h => by cases h), fun _ => ⟨g, 0, rfl, (hlt g rfl).2, fun i p hi j x hj => ?_⟩⟩
    have := hc g rfl (i * 2 + j) _ (prCs_at l i p hi j x hj)
    rw [Addr.add_lit] at this
    rwa [← Nat.add_assoc] at this

theorem run_append_prs (ho : OwnPr w B v l) (hB : B ≤ w.heap.size) (x : Value) (B' : Nat) (ns : Prs) (hx : PrIn w B' x ns) (hm : l.length + ns.length ≤ 1099511627776) (ty : TypeId) :
    ∃ v' w', (Builtin.append_ #[31, 31] ty #[v, x]).run Tryz.prog w = .ok v' w' ∧ OwnPr w' B v' (l ++ ns) ∧ Below B w w' ∧ w.grownBy w' v.ownBlock := by
  obtain ⟨i0, hi, hz0, hz1, hz2⟩ := info_parts info_pr
  have hmax : l.length + ns.length ≤ maxLen := by simp only [maxLen]; omega
  obtain ⟨A, c, rfl, _, _, h4, h6⟩ := hx
  by_cases h0 : 0 < ns.length
  · obtain ⟨b, off, rfl, _, hc⟩ := h6 h0
    obtain ⟨v', w', hr, h2, h3, _⟩ := run_append_own (P := Tryz.prog) w B 31 ty 49 i0 _ 2 32 Tryz.underlying31 hi hz0 hz1 hz2 rfl (by omega) v l.length (prCs l) ho ⟨b, off, none⟩ ns.length c (prCs ns) (prCs_len ns)
      (fun j u hu => by
        rw [Addr.add_lit]
        obtain ⟨i, p, k, h1, h2, rfl⟩ := prCs_of ns j u hu
        rw [← Nat.add_assoc]
        exact hc i p h1 k u h2) (prCs_one ns) hmax (by omega) hB
    refine ⟨v', w', hr, ?_, (Below.refl _ _).grown h3 hB (fun k hk => (World.ownsRow.lt ho k hk).1), h3⟩
    unfold OwnPr
    rw [prCs_append, List.length_append]
    exact h2
  · have hns : ns = [] := List.eq_nil_of_length_eq_zero (by omega)
    subst hns
    cases A with
    | some ad =>
      obtain ⟨v', w', hr, h2, h3, _⟩ := run_append_own (P := Tryz.prog) w B 31 ty 49 i0 _ 2 32 Tryz.underlying31 hi hz0 hz1 hz2 rfl (by omega) v l.length (prCs l) ho ad 0 c [] rfl (fun j u hu => by simp at hu) (by simp) hmax (by simpa using by omega) hB
      refine ⟨v', w', hr, ?_, (Below.refl _ _).grown h3 hB (fun k hk => (World.ownsRow.lt ho k hk).1), h3⟩
      unfold OwnPr
      rw [prCs_append, List.length_append]
      exact h2
    | none =>
      have hc := h4 rfl
      subst hc
      refine ⟨v, w, ?_, by simpa using ho, Below.refl _ _, ⟨rfl, rfl, rfl, Nat.le_refl _, fun _ _ _ => rfl⟩⟩
      rcases ho.2 with ⟨rfl, h0⟩ | ⟨g, cap, cur, rfl, _, _, hnc, _⟩
      · simp [Builtin.append_, run_underlying Tryz.underlying31, sizeOf, typeInfo, hi, Builtin.lenOf, Builtin.firstCells]
      · simp [Builtin.append_, run_underlying Tryz.underlying31, sizeOf, typeInfo, hi, Builtin.lenOf, Builtin.firstCells, hnc, storeCells]

theorem wp_append_prs {ops : Array Oper} {rest : List Oper} {o : Oper} {a : Act} {Q : Exit → Act → World → Prop} (hgd : o.guard = none) (s x : Operand)
    (hop : o.op = .call { callee := .builtin .append, args := #[s, x], argTypes := #[31, 31] })
    (hs : a.eval s = v) (ho : OwnPr w B v l) (hB : B ≤ w.heap.size) (y : Value) (B' : Nat) (ns : Prs) (hx : a.eval x = y) (hy : PrIn w B' y ns)
    (hm : l.length + ns.length ≤ 1099511627776)
    (hK : ∀ v' w', OwnPr w' B v' (l ++ ns) → Below B w w' → w.grownBy w' v.ownBlock → wpList Tryz.prog ops Q rest (a.put o.dst v') w') : wpList Tryz.prog ops Q (o :: rest) a w := by
  refine wpList_plain hgd fun K hK' => ?_
  obtain ⟨v', w', hrun, r1, r2, r3⟩ := run_append_prs ho hB y B' ns hy hm o.type
  unfold Oper.wp
  simp [execOp, hop, resolve, invoke, builtin, hs, hx, hrun, Result.andThen]
  exact hK' _ _ (hK v' w' r1 r2 r3)
end

theorem pr_one (w : World) (p : List UInt8 × List UInt8) (T : TypeId) : PrIn (w.alloc (.cells #[.string ⟨p.1.toArray⟩, .string ⟨p.2.toArray⟩] T)) (w.heap.size + 1) (.slice (some ⟨w.heap.size, 0, none⟩) 1 1) [p] :=
  ⟨_, 1, rfl, by simp, by simp [maxLen], (fun h => by cases h), fun _ => ⟨w.heap.size, 0, rfl, by omega, fun i q hi j x hx => by
    have hlt := (List.getElem?_eq_some_iff.1 hi).1
    obtain rfl : i = 0 := by simp at hlt; omega
    obtain rfl : p = q := by simpa using hi
    have hrow := heap_alloc_new w (.cells #[.string ⟨p.1.toArray⟩, .string ⟨p.2.toArray⟩] T)
    match j with
    | 0 => exact (cell_of_row _ _ 0 _ _ _ hrow).trans hx
    | 1 => exact (cell_of_row _ _ 1 _ _ _ hrow).trans hx
    | j + 2 => simp [prC] at hx⟩⟩

end Go.Proofs.YtlchmkpnehbnlaaGreatDoor.Cd
