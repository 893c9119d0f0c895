/-
  replay: what the log's records tell is remembered. Conditions: the records are as enter wrote them, and tell the next table.
-/
import Derived.Test.YtlchmkpnehbnlaaGreatDoorG17
import Derived.Test.YtlchmkpnehbnlaaGreatDoorG29
import Derived.Test.YtlchmkpnehbnlaaGreatDoorG3
import Derived.Test.YtlchmkpnehbnlaaGreatDoorG11
import Derived.Test.YtlchmkpnehbnlaaGreatDoorG13
import Derived.Test.YtlchmkpnehbnlaaGreatDoorG33
import Derived.BigQuiet
import Derived.Lib.SliceRun
import Derived.Deep.RegionHeld3
import Derived.BigRegion
import Derived.Test.YtlchmkpnehbnlaaGreatDoorG42
/-
  A tree as it lies: its block, its tables' row, memory; what is left of it where other blocks turn. Conditions: none.
-/
namespace Go.Proofs.YtlchmkpnehbnlaaGreatDoor.Cd
open Go.RowKit

def NotW (W : World) (k : Nat) : Prop := ∀ cs fr, W.heap[k]? ≠ some (.cells cs 52 fr)
def FarT (W : World) (S : Nat → Prop) (v : Value) (l : List Wr) : Prop :=
  TbIn W W.heap.size v l ∧ (0 < l.length → ∀ A m c, v = .slice (some A) m c → ¬ S A.block ∧ ∃ cs fr, W.heap[A.block]? = some (.cells cs 52 fr))

theorem FarT.nil (W : World) (S : Nat → Prop) : FarT W S (.slice none 0 0) [] := ⟨TbIn.nil _ _, fun h => by simp at h⟩

section
variable {W W' : World} {S S' U : Nat → Prop} {v : Value} {l : List Wr} {tabs : List (List Wr)}
theorem FarT.go (h : FarT W S v l) (ha : Apart U W W') (hU : ∀ k, k < W.heap.size → U k → S k ∨ NotW W k) (hS : ∀ k, k < W.heap.size → S' k → S k) : FarT W' S' v l := by
  obtain ⟨⟨A, c, h1, h2, h3, h4, h5⟩, h6⟩ := h
  have key : ∀ b off, A = some ⟨b, off, none⟩ → 0 < l.length → b < W.heap.size → W'.heap[b]? = W.heap[b]? := fun b off e h0 hb => by
    obtain ⟨q1, cs, fr, q2⟩ := h6 h0 ⟨b, off, none⟩ _ _ (by rw [h1, e])
    refine ha.block b hb fun hu => ?_
    rcases hU b hb hu with h | h
    · exact q1 h
    · exact h cs fr q2
  refine ⟨⟨A, c, h1, h2, h3, h4, fun h0 => ?_⟩, fun h0 A' m c' e => ?_⟩
  · obtain ⟨b, off, e, hb, hc⟩ := h5 h0
    have hk := key b off e h0 hb
    exact ⟨b, off, e, Nat.lt_of_lt_of_le hb ha.size, fun i p hi j x hx => (show W'.cell? ⟨b, off + i * 3 + j, none⟩ = W.cell? ⟨b, off + i * 3 + j, none⟩ from World.cell?_of_block hk).trans (hc i p hi j x hx)⟩
  · obtain ⟨b, off, e2, hb, _⟩ := h5 h0
    have hA : A' = ⟨b, off, none⟩ := by
      rw [h1, e2] at e
      injection e with e _ _
      injection e with e
      exact e.symm
    obtain ⟨q1, cs, fr, q2⟩ := h6 h0 A' m c' e
    subst hA
    exact ⟨fun hs => q1 (hS _ hb hs), cs, fr, (key b off e2 h0 hb).trans q2⟩
theorem FarT.below (h : FarT W S v l) (hb : Below W.heap.size W W') : FarT W' S v l :=
  h.go (U := fun _ => False) (Apart.below hb) (fun _ _ h => h.elim) (fun _ _ h => h)
def TabsAt (W : World) (S : Nat → Prop) (v : Value) (tabs : List (List Wr)) : Prop :=
  ∃ vs : List Value, W.ownsRow 0 32 1 v tabs.length vs ∧ (∀ r, v.ownBlock = some r → ¬ S r) ∧ ∀ (i : Nat) u T, vs[i]? = some u → tabs[i]? = some T → FarT W S u T
theorem TabsAt.nil (W : World) (S : Nat → Prop) : TabsAt W S (.slice none 0 0) [] := ⟨[], World.ownsRow_nil _ _ _ _, (fun _ h => by cases h), (fun _ _ _ h => by cases h)⟩
theorem TabsAt.lt (h : TabsAt W S v tabs) {r : Nat} (hr : v.ownBlock = some r) : r < W.heap.size ∧ ¬ S r ∧ ∃ cur, W.heap[r]? = some (.cells cur 32 (0, 0)) := by
  obtain ⟨vs, h1, h2, _⟩ := h
  have hlt := World.ownsRow.lt h1 r hr
  refine ⟨hlt.2, h2 r hr, ?_⟩
  rcases h1.2 with ⟨rfl, _⟩ | ⟨g, cap, cur, rfl, hg, hh, _⟩
  · cases hr
  · have : g = r := by simpa [Value.ownBlock] using hr
    subst this
    exact ⟨cur, hh⟩
theorem TabsAt.go (h : TabsAt W S v tabs) (ha : Apart U W W') (hU : ∀ k, k < W.heap.size → U k → S k ∨ (NotW W k ∧ v.ownBlock ≠ some k)) (hS : ∀ k, k < W.heap.size → S' k → S k) : TabsAt W' S' v tabs := by
  have hlt := fun r hr => h.lt (r := r) hr
  obtain ⟨vs, h1, h2, h3⟩ := h
  refine ⟨vs, ⟨h1.1, ?_⟩, fun r hr hs => h2 r hr (hS r (hlt r hr).1 hs), fun i u T hu hT => (h3 i u T hu hT).go ha (fun k hk hu => (hU k hk hu).imp id And.left) hS⟩
  rcases h1.2 with h4 | ⟨g, cap, cur, rfl, hg, hh, r⟩
  · exact .inl h4
  · refine .inr ⟨g, cap, cur, rfl, hg, (ha.block g (hlt g rfl).1 fun hu => ?_).trans hh, r⟩
    rcases hU g (hlt g rfl).1 hu with h | h
    · exact h2 g rfl h
    · exact h.2 rfl
theorem TabsAt.below (h : TabsAt W S v tabs) (hb : Below W.heap.size W W') : TabsAt W' S v tabs :=
  h.go (U := fun _ => False) (Apart.below hb) (fun _ _ h => h.elim) (fun _ _ h => h)
theorem TabsAt.len (h : TabsAt W S v tabs) : ∃ A c, v = .slice A tabs.length c ∧ tabs.length ≤ c ∧ c ≤ 9223372036854775807 := by
  obtain ⟨vs, h1, _⟩ := h
  rcases h1.2 with ⟨rfl, h⟩ | ⟨g, cap, cur, rfl, _, _, h2, h3, _⟩
  · exact ⟨none, 0, by rw [h], by omega, by omega⟩
  · exact ⟨_, cap, rfl, h2, h3⟩
theorem TabsAt.at {A : Option Addr} {m c : Nat} (h : TabsAt W S (.slice A m c) tabs) {i : Nat} {T : List Wr} (hT : tabs[i]? = some T) : ∃ r u, A = some ⟨r, 0, none⟩ ∧ r < W.heap.size ∧ W.cell? ⟨r, i, none⟩ = some u ∧ FarT W S u T := by
  have hlt := fun r hr => h.lt (r := r) hr
  obtain ⟨vs, h1, h2, h3⟩ := h
  have hi := (List.getElem?_eq_some_iff.1 hT).1
  have hl : vs.length = tabs.length := by have := h1.1; omega
  obtain ⟨u, hvi⟩ : ∃ u, vs[i]? = some u := ⟨vs[i], List.getElem?_eq_getElem (by omega)⟩
  rcases h1.2 with ⟨e, h⟩ | ⟨g, cap, cur, e, hg, hh, h4, h5, h6, h7⟩
  · omega
  · injection e with e1 _ _
    subst e1
    refine ⟨g, u, rfl, (hlt g rfl).1, ?_, h3 i _ T hvi hT⟩
    rw [cell_of_row _ _ _ _ _ _ hh]
    rw [← h7, List.getElem?_take, if_pos (by omega)] at hvi
    simpa using hvi
end

def treeU (S : Nat → Prop) (t l : Nat) (vt : Value) : Nat → Prop := fun k => S k ∨ k = l ∨ k = t ∨ vt.ownBlock = some k
structure TreeAt (w0 W : World) (S : Nat → Prop) (t l g : Nat) (vt vm : Value) (n s : List UInt8) (last cnt : Nat) (tight : Int) (tabs : List (List Wr)) (mem : List Wr) : Prop where
  log : LogAt W S l g n s
  row : W.heap[t]? = some (.cells #[.pointer (some ⟨g, 0, none⟩), .string ⟨n.toArray⟩, .pointer (some ⟨l, 0, none⟩), vt, .int .i64 last, vm, .int .i64 cnt, .int .i64 tight] 61)
  far : ¬ S t
  mem : FarT W S vm mem
  tabs : TabsAt W S vt tabs
  base : Below w0.heap.size w0 W
  low : ∀ k, treeU S t l vt k → w0.heap.size ≤ k

section
variable {w0 W W' : World} {S T U : Nat → Prop} {t l g N : Nat} {vt vm : Value} {n s : List UInt8} {last cnt : Nat} {tight : Int} {tabs : List (List Wr)} {mem : List Wr}
theorem TreeAt.lt (h : TreeAt w0 W S t l g vt vm n s last cnt tight tabs mem) : t < W.heap.size := (Array.getElem?_eq_some_iff.1 h.row).1
theorem TreeAt.kinds (h : TreeAt w0 W S t l g vt vm n s last cnt tight tabs mem) : NotW W t ∧ NotW W l ∧ t ≠ l ∧ vt.ownBlock ≠ some t ∧ vt.ownBlock ≠ some l ∧ (∀ cs fr, W.heap[t]? ≠ some (.cells cs 5 fr)) ∧ (∀ r, vt.ownBlock = some r → NotW W r ∧ ∀ cs fr, W.heap[r]? ≠ some (.cells cs 5 fr)) := by
  obtain ⟨v, hl⟩ : ∃ v, W.heap[l]? = some (.cells #[.pointer (some ⟨g, 0, none⟩), .string ⟨n.toArray⟩, .int .i64 s.length, v] 95) := by obtain ⟨_, v, h, _⟩ := h.log; exact ⟨v, h⟩
  have hr := h.row
  refine ⟨fun cs fr e => ?_, fun cs fr e => ?_, fun e => ?_, fun e => ?_, fun e => ?_, fun cs fr e => ?_, fun r hr2 => ⟨fun cs fr e => ?_, fun cs fr e => ?_⟩⟩
  · rw [hr] at e
    injection e with e; injection e with _ e _
    exact absurd e (by decide)
  · rw [hl] at e
    injection e with e; injection e with _ e _
    exact absurd e (by decide)
  · rw [e, hl] at hr
    injection hr with hr; injection hr with _ hr _
    exact absurd hr (by decide)
  · obtain ⟨_, _, cur, hc⟩ := h.tabs.lt e
    rw [hr] at hc
    injection hc with hc; injection hc with _ hc _
    exact absurd hc (by decide)
  · obtain ⟨_, _, cur, hc⟩ := h.tabs.lt e
    rw [hl] at hc
    injection hc with hc; injection hc with _ hc _
    exact absurd hc (by decide)
  · rw [hr] at e
    injection e with e; injection e with _ e _
    exact absurd e (by decide)
  · obtain ⟨_, _, cur, hc⟩ := h.tabs.lt hr2
    rw [hc] at e
    injection e with e; injection e with _ e _
    exact absurd e (by decide)
  · obtain ⟨_, _, cur, hc⟩ := h.tabs.lt hr2
    rw [hc] at e
    injection e with e; injection e with _ e _
    exact absurd e (by decide)
theorem TreeAt.below (h : TreeAt w0 W S t l g vt vm n s last cnt tight tabs mem) (hb : Below W.heap.size W W') : TreeAt w0 W' S t l g vt vm n s last cnt tight tabs mem :=
  ⟨h.log.below hb, (hb.block t h.lt).trans h.row, h.far, h.mem.below hb, h.tabs.below hb, h.base.trans (hb.mono h.base.size), h.low⟩
theorem TreeAt.apart (h : TreeAt w0 W S t l g vt vm n s last cnt tight tabs mem) (ha : Apart S W W') : TreeAt w0 W' (since S W W') t l g vt vm n s last cnt tight tabs mem := by
  have ho : ∀ k, k < W.heap.size → since S W W' k → S k := fun k hk h => (since_old hk).1 h
  refine ⟨h.log.apart ha, (ha.block t h.lt h.far).trans h.row, fun e => h.far (ho t h.lt e), h.mem.go ha (fun _ _ h => .inl h) ho, h.tabs.go ha (fun _ _ h => .inl h) ho, h.base.trans (ha.low h.base.size fun k hk => h.low k (.inl hk)), fun k hk => ?_⟩
  rcases hk with (hk | hk) | hk
  · exact h.low k (.inl hk)
  · have := h.base.size; omega
  · exact h.low k (.inr hk)
theorem TreeAt.logged {s' : List UInt8} (h : TreeAt w0 W S t l g vt vm n s last cnt tight tabs mem) (hl : LogAt W' T l g n s') (hT : ∀ k, T k → since S W W' k) (ha : Apart (plus S l) W W') : TreeAt w0 W' T t l g vt vm n s' last cnt tight tabs mem := by
  have ho : ∀ k, k < W.heap.size → T k → S k := fun k hk h => (since_old hk).1 (hT k h)
  obtain ⟨_, k2, k3, _, k5, _⟩ := h.kinds
  have hU : ∀ k, k < W.heap.size → plus S l k → S k ∨ NotW W k ∧ vt.ownBlock ≠ some k := fun k _ hk => by
    rcases hk with hk | hk
    · exact .inl hk
    · rw [hk]; exact .inr ⟨k2, k5⟩
  refine ⟨hl, (ha.block t h.lt (fun e => e.elim h.far k3)).trans h.row, fun e => h.far (ho t h.lt e), h.mem.go ha (fun k hk hu => (hU k hk hu).imp id And.left) ho, h.tabs.go ha hU ho, h.base.trans (ha.low h.base.size fun k hk => h.low k (hk.imp id .inl)), fun k hk => ?_⟩
  rcases hk with hk | hk
  · rcases hT k hk with hk | hk
    · exact h.low k (.inl hk)
    · have := h.base.size; omega
  · exact h.low k (.inr hk)
theorem TreeAt.less (h : TreeAt w0 W S t l g vt vm n s last cnt tight tabs mem) (ho : ∀ k, k < W.heap.size → T k → S k) (hl : ∀ k, T k → w0.heap.size ≤ k) : TreeAt w0 W T t l g vt vm n s last cnt tight tabs mem :=
  ⟨h.log.less ho, h.row, fun e => h.far (ho t h.lt e), h.mem.go (Apart.refl (fun _ => False) W) (fun _ _ h => h.elim) ho, h.tabs.go (Apart.refl (fun _ => False) W) (fun _ _ h => h.elim) ho, h.base, fun k hk => hk.elim (fun hk => hl k hk) (fun hk => h.low k (.inr hk))⟩
theorem TreeAt.cells (h : TreeAt w0 W S t l g vt vm n s last cnt tight tabs mem) : W.cell? ⟨t, 0, none⟩ = some (.pointer (some ⟨g, 0, none⟩)) ∧ W.cell? ⟨t, 1, none⟩ = some (.string ⟨n.toArray⟩) ∧ W.cell? ⟨t, 2, none⟩ = some (.pointer (some ⟨l, 0, none⟩)) ∧ W.cell? ⟨t, 3, none⟩ = some vt ∧ W.cell? ⟨t, 4, none⟩ = some (.int .i64 last) ∧ W.cell? ⟨t, 5, none⟩ = some vm ∧ W.cell? ⟨t, 6, none⟩ = some (.int .i64 cnt) ∧ W.cell? ⟨t, 7, none⟩ = some (.int .i64 tight) :=
  ⟨cell_of_row _ _ 0 _ _ _ h.row, cell_of_row _ _ 1 _ _ _ h.row, cell_of_row _ _ 2 _ _ _ h.row, cell_of_row _ _ 3 _ _ _ h.row, cell_of_row _ _ 4 _ _ _ h.row, cell_of_row _ _ 5 _ _ _ h.row, cell_of_row _ _ 6 _ _ _ h.row, cell_of_row _ _ 7 _ _ _ h.row⟩
theorem TreeAt.frozen (h : TreeAt w0 W S t l g vt vm n s last cnt tight tabs mem) (o : Nat) : W.frozen? ⟨t, o, none⟩ = false := by
  unfold World.frozen?
  simp only [h.row]
  rfl
theorem TreeAt.wrote {vt' vm' : Value} {last' cnt' : Nat} {tight' : Int} {tabs' : List (List Wr)} {mem' : List Wr} (h : TreeAt w0 W S t l g vt vm n s last cnt tight tabs mem) (ha : Apart (fun k => k = t ∨ vt.ownBlock = some k) W W')
    (hr : W'.heap[t]? = some (.cells #[.pointer (some ⟨g, 0, none⟩), .string ⟨n.toArray⟩, .pointer (some ⟨l, 0, none⟩), vt', .int .i64 last', vm', .int .i64 cnt', .int .i64 tight'] 61))
    (hm : FarT W' S vm' mem') (ht : TabsAt W' S vt' tabs') (hv : ∀ r, vt'.ownBlock = some r → w0.heap.size ≤ r) : TreeAt w0 W' S t l g vt' vm' n s last' cnt' tight' tabs' mem' := by
  obtain ⟨_, k2, k3, _, k5, k6, k7⟩ := h.kinds
  refine ⟨h.log.aside ha (fun e => e.elim (fun e => k3 e.symm) k5) (fun k hk _ => ?_), hr, h.far, hm, ht, h.base.trans (ha.low h.base.size fun k hk => hk.elim (fun e => h.low k (.inr (.inr (.inl e)))) (fun e => h.low k (.inr (.inr (.inr e))))), fun k hk => ?_⟩
  · rcases hk with hk | hk
    · rw [hk]; exact k6
    · exact (k7 k hk).2
  · rcases hk with hk | hk | hk | hk
    · exact h.low k (.inl hk)
    · exact h.low k (.inr (.inl hk))
    · exact h.low k (.inr (.inr (.inl hk)))
    · exact hv k hk
end

structure TreeTo (W : World) (S : Nat → Prop) (t l : Nat) (vt : Value) (W' : World) (T : Nat → Prop) (vt' : Value) : Prop where
  sets : ∀ k, T k → since S W W' k
  apart : Apart (treeU S t l vt) W W'
  row : ∀ r, vt'.ownBlock = some r → vt.ownBlock = some r ∨ W.heap.size ≤ r
theorem TreeTo.refl (W : World) (S : Nat → Prop) (t l : Nat) (vt : Value) : TreeTo W S t l vt W S vt := ⟨fun _ => .inl, Apart.refl _ _, fun _ => .inl⟩
theorem TreeTo.below {W W' : World} {S : Nat → Prop} {t l : Nat} {vt : Value} (h : Below W.heap.size W W') : TreeTo W S t l vt W' S vt := ⟨fun _ => .inl, Apart.below h, fun _ => .inl⟩
theorem TreeTo.trans {W W1 W2 : World} {S S1 S2 : Nat → Prop} {t l : Nat} {vt v1 v2 : Value} (h : TreeTo W S t l vt W1 S1 v1) (k : TreeTo W1 S1 t l v1 W2 S2 v2) (_ : ∀ r, v2.ownBlock = some r → r < W2.heap.size) : TreeTo W S t l vt W2 S2 v2 := by
  have z1 := h.apart.size
  have z2 := k.apart.size
  have hs : ∀ j, since S1 W1 W2 j → since S W W2 j := fun j hj => by
    rcases hj with hj | hj
    · rcases h.sets j hj with h1 | h1
      · exact .inl h1
      · exact .inr ⟨h1.1, by omega⟩
    · exact .inr ⟨by omega, hj.2⟩
  refine ⟨fun j hj => hs j (k.sets j hj), ⟨k.apart.os.trans h.apart.os, k.apart.tape.trans h.apart.tape, k.apart.output.trans h.apart.output, Nat.le_trans z1 z2, fun j hj hn => ?_⟩, fun r hr => ?_⟩
  · refine (k.apart.block j (Nat.lt_of_lt_of_le hj z1) fun hu => ?_).trans (h.apart.block j hj hn)
    rcases hu with hu | hu | hu | hu
    · rcases h.sets j hu with h1 | h1
      · exact hn (.inl h1)
      · omega
    · exact hn (.inr (.inl hu))
    · exact hn (.inr (.inr (.inl hu)))
    · rcases h.row j hu with h1 | h1
      · exact hn (.inr (.inr (.inr h1)))
      · omega
  · rcases k.row r hr with h1 | h1
    · exact h.row r h1
    · exact .inr (by omega)

end Go.Proofs.YtlchmkpnehbnlaaGreatDoor.Cd

/-
  A tree's own block, written cell by cell. Conditions: none.
-/
namespace Go.Proofs.YtlchmkpnehbnlaaGreatDoor.Cd
open Go.RowKit

section
variable {W : World} {l : Nat} {a0 a1 a2 a3 a4 a5 a6 a7 x : Value} {T : TypeId}
theorem eight_three (h : W.heap[l]? = some (.cells #[a0, a1, a2, a3, a4, a5, a6, a7] T)) : (W.setCell ⟨l, 3, none⟩ x).heap[l]? = some (.cells #[a0, a1, a2, x, a4, a5, a6, a7] T) := by
  unfold World.setCell
  simp [Array.getElem?_modify, h]
theorem eight_four (h : W.heap[l]? = some (.cells #[a0, a1, a2, a3, a4, a5, a6, a7] T)) : (W.setCell ⟨l, 4, none⟩ x).heap[l]? = some (.cells #[a0, a1, a2, a3, x, a5, a6, a7] T) := by
  unfold World.setCell
  simp [Array.getElem?_modify, h]
theorem eight_five (h : W.heap[l]? = some (.cells #[a0, a1, a2, a3, a4, a5, a6, a7] T)) : (W.setCell ⟨l, 5, none⟩ x).heap[l]? = some (.cells #[a0, a1, a2, a3, a4, x, a6, a7] T) := by
  unfold World.setCell
  simp [Array.getElem?_modify, h]
theorem eight_six (h : W.heap[l]? = some (.cells #[a0, a1, a2, a3, a4, a5, a6, a7] T)) : (W.setCell ⟨l, 6, none⟩ x).heap[l]? = some (.cells #[a0, a1, a2, a3, a4, a5, x, a7] T) := by
  unfold World.setCell
  simp [Array.getElem?_modify, h]
theorem eight_seven (h : W.heap[l]? = some (.cells #[a0, a1, a2, a3, a4, a5, a6, a7] T)) : (W.setCell ⟨l, 7, none⟩ x).heap[l]? = some (.cells #[a0, a1, a2, a3, a4, a5, a6, x] T) := by
  unfold World.setCell
  simp [Array.getElem?_modify, h]
end

section
variable {w0 W : World} {S : Nat → Prop} {t l g : Nat} {vt vm vt' vm' : Value} {n s : List UInt8} {last cnt last' cnt' : Nat} {tight tight' : Int} {tabs tabs' : List (List Wr)} {mem mem' : List Wr}
theorem TreeAt.put {x : Value} {o : Nat} (h : TreeAt w0 W S t l g vt vm n s last cnt tight tabs mem)
    (hr : (W.setCell ⟨t, o, none⟩ x).heap[t]? = some (.cells #[.pointer (some ⟨g, 0, none⟩), .string ⟨n.toArray⟩, .pointer (some ⟨l, 0, none⟩), vt', .int .i64 last', vm', .int .i64 cnt', .int .i64 tight'] 61))
    (hm : FarT W S vm' mem') (ht : TabsAt W S vt' tabs') (hv : ∀ r, vt'.ownBlock = some r → w0.heap.size ≤ r) : TreeAt w0 (W.setCell ⟨t, o, none⟩ x) S t l g vt' vm' n s last' cnt' tight' tabs' mem' := by
  obtain ⟨k1, _, _, _, _, _, _⟩ := h.kinds
  have hne : vt'.ownBlock ≠ some t := fun e => by
    obtain ⟨_, _, cur, hc⟩ := ht.lt e
    rw [h.row] at hc
    injection hc with hc; injection hc with _ hc _
    exact absurd hc (by decide)
  have ha := apart_set W t o x
  have hs : (W.setCell ⟨t, o, none⟩ x).heap.size = W.heap.size := by simp
  exact h.wrote (ha.mono fun k hk => .inl hk) hr (hm.go ha (fun k _ hk => by rw [hk]; exact .inr k1) (fun _ _ h => h)) (ht.go ha (fun k _ hk => by rw [hk]; exact .inr ⟨k1, hne⟩) (fun _ _ h => h)) hv
theorem TreeAt.lowv (h : TreeAt w0 W S t l g vt vm n s last cnt tight tabs mem) : ∀ r, vt.ownBlock = some r → w0.heap.size ≤ r := fun r hr => h.low r (.inr (.inr (.inr hr)))
theorem TreeAt.set3 (h : TreeAt w0 W S t l g vt vm n s last cnt tight tabs mem) (ht : TabsAt W S vt' tabs') (hv : ∀ r, vt'.ownBlock = some r → w0.heap.size ≤ r) : TreeAt w0 (W.setCell ⟨t, 3, none⟩ vt') S t l g vt' vm n s last cnt tight tabs' mem :=
  h.put (eight_three h.row) h.mem ht hv
theorem TreeAt.set4 (h : TreeAt w0 W S t l g vt vm n s last cnt tight tabs mem) (x : Nat) : TreeAt w0 (W.setCell ⟨t, 4, none⟩ (.int .i64 x)) S t l g vt vm n s x cnt tight tabs mem :=
  h.put (eight_four h.row) h.mem h.tabs h.lowv
theorem TreeAt.set5 (h : TreeAt w0 W S t l g vt vm n s last cnt tight tabs mem) (hm : FarT W S vm' mem') : TreeAt w0 (W.setCell ⟨t, 5, none⟩ vm') S t l g vt vm' n s last cnt tight tabs mem' :=
  h.put (eight_five h.row) hm h.tabs h.lowv
theorem TreeAt.set6 (h : TreeAt w0 W S t l g vt vm n s last cnt tight tabs mem) (x : Nat) : TreeAt w0 (W.setCell ⟨t, 6, none⟩ (.int .i64 x)) S t l g vt vm n s last x tight tabs mem :=
  h.put (eight_six h.row) h.mem h.tabs h.lowv
theorem TreeAt.set7 (h : TreeAt w0 W S t l g vt vm n s last cnt tight tabs mem) (x : Int) : TreeAt w0 (W.setCell ⟨t, 7, none⟩ (.int .i64 x)) S t l g vt vm n s last cnt x tabs mem :=
  h.put (eight_seven h.row) h.mem h.tabs h.lowv
theorem TreeAt.set0 (h : TreeAt w0 W S t l g vt vm n s last cnt tight tabs mem) : TreeAt w0 (W.setCell ⟨t, 7, none⟩ (.int .i64 0)) S t l g vt vm n s last cnt 0 tabs mem := h.set7 0
theorem DkS.put {N : Nat} {D : Dsk} {x : Value} {o : Nat} (h : DkS W g N S D) (ht : ¬ S t) : DkS (W.setCell ⟨t, o, none⟩ x) g N S D := h.apart (apart_set W t o x) (fun _ hk e => ht (e ▸ hk))
end

theorem farT_new {w : World} {B : Nat} {v : Value} {T : List Wr} {S : Nat → Prop} (h : NewTb w B v T) (hS : ∀ k, S k → k < B) : FarT w S v T := by
  refine ⟨h.tbIn, fun h0 A m c e => ?_⟩
  obtain ⟨A', c', h1, _, _, _, h5⟩ := h
  obtain ⟨g, e2, hB, _, hk, _⟩ := h5 h0
  rw [h1, e2] at e
  injection e with e _ _
  injection e with e
  rw [← e]
  exact ⟨fun hs => by have := hS _ hs; simp at this; omega, hk⟩

end Go.Proofs.YtlchmkpnehbnlaaGreatDoor.Cd

/-
  append onto a tree's row of tables. Conditions: not too many.
-/
namespace Go.Proofs.YtlchmkpnehbnlaaGreatDoor.Cd
open Go.RowKit

theorem info_slw : (Tryz.prog.info? 32).map (fun i => (i.zero, i.size, i.bytes)) = some (some (.slice none 0 0), 1, 24) := by kernel_rfl

theorem run_append_tab {w : World} {v u : Value} {n r : Nat} {vs : List Value} (ho : w.ownsRow 0 32 1 v n vs) (hc : w.cell? ⟨r, 0, none⟩ = some u) (hu : u.oneCell' = true) (hl : n ≤ 1000) (ty : TypeId) :
    ∃ v' w', (Builtin.append_ #[59, 59] ty #[v, .slice (some ⟨r, 0, none⟩) 1 1]).run Tryz.prog w = .ok v' w' ∧ w'.ownsRow 0 32 1 v' (n + 1) (vs ++ [u]) ∧ w.grownBy w' v.ownBlock ∧ (v'.ownBlock = v.ownBlock ∨ v'.ownBlock = some w.heap.size) := by
  obtain ⟨i0, hi, hz0, hz1, hz2⟩ := info_parts info_slw
  have hnew : ∀ j x, [u][j]? = some x → w.cell? ((⟨r, 0, none⟩ : Addr).add j) = some x := fun j x hx => by
    match j with
    | 0 => rw [Addr.add_lit]; simp at hx; rw [← hx]; exact hc
    | j + 1 => simp at hx
  have h1 : ∀ x ∈ [u], x.oneCell' = true := fun x hx => by rw [List.mem_singleton.1 hx]; exact hu
  obtain ⟨v', w', hr, h2, h3, _⟩ := run_append_own (P := Tryz.prog) w 0 59 ty 32 i0 _ 1 24 Tryz.underlying59 hi hz0 hz1 hz2 rfl (by omega) v n vs ho ⟨r, 0, none⟩ 1 1 [u] rfl hnew h1 (by simp only [maxLen]; omega) (by omega) (Nat.zero_le _)
  refine ⟨v', w', hr, h2, h3, ?_⟩
  rcases ho.2 with ⟨rfl, rfl⟩ | ⟨g, cap, cur, rfl, hbg, hg, hnc, hcm, hcs, htake⟩
  · have hr2 := run_append_nil (P := Tryz.prog) w 59 ty 32 i0 _ Tryz.underlying59 hi hz0 ⟨r, 0, none⟩ 1 1 [u] (by rw [hz1]; rfl) hnew (by omega) (by omega) (by rw [hz2]; omega)
    rw [hr] at hr2
    injection hr2 with e _
    exact .inr (by rw [e]; rfl)
  · have hcs : cur.size = cap := by simpa using hcs
    by_cases hroom : n + 1 ≤ cap
    · have hr2 := run_append_room (P := Tryz.prog) w 59 ty 32 i0 Tryz.underlying59 hi g n cap cur hg ⟨r, 0, none⟩ 1 1 [u] (by rw [hz1]; rfl) hnew h1 hroom (by rw [hz1]; simp; omega)
      rw [hr] at hr2
      injection hr2 with e _
      exact .inl (by rw [e]; rfl)
    · have holds : ∀ j x, vs[j]? = some x → w.cell? ((⟨g, 0, none⟩ : Addr).add j) = some x := World.ownsRow.cells ho (g := g) rfl
      have hr2 := run_append_grow (P := Tryz.prog) w 59 ty 32 i0 _ Tryz.underlying59 hi hz0 ⟨g, 0, none⟩ n cap vs (by rw [hz1]; exact ho.1) holds ⟨r, 0, none⟩ 1 1 [u] (by rw [hz1]; rfl) hnew (by omega) (by omega) (growslice_fits (by omega) (by rw [hz2]; omega))
      rw [hr] at hr2
      injection hr2 with e _
      exact .inr (by rw [e]; rfl)

section
variable {w : World} {S : Nat → Prop} {v u : Value} {tabs : List (List Wr)} {T : List Wr} {r : Nat}
theorem FarT.one (h : FarT w S v T) : v.oneCell' = true := by obtain ⟨⟨A, c, rfl, _⟩, _⟩ := h; rfl
theorem tabs_append (ho : TabsAt w S v tabs) (hc : w.cell? ⟨r, 0, none⟩ = some u) (hu : FarT w S u T) (hS : ∀ k, S k → k < w.heap.size) (hl : tabs.length ≤ 1000) (ty : TypeId) :
    ∃ v' w', (Builtin.append_ #[59, 59] ty #[v, .slice (some ⟨r, 0, none⟩) 1 1]).run Tryz.prog w = .ok v' w' ∧ TabsAt w' S v' (tabs ++ [T]) ∧ Apart (fun k => v.ownBlock = some k) w w' ∧ (v'.ownBlock = v.ownBlock ∨ v'.ownBlock = some w.heap.size) := by
  have hlt := fun q hq => ho.lt (r := q) hq
  obtain ⟨vs, h1, h2, h3⟩ := ho
  have hvl : vs.length = tabs.length := by have := h1.1; omega
  obtain ⟨v', w', hr, k1, k2, k3⟩ := run_append_tab h1 hc hu.one hl ty
  have ha : Apart (fun k => v.ownBlock = some k) w w' := ⟨k2.os, k2.tape, k2.output, k2.size, fun k hk hn => k2.block k hk (fun e => hn (by first | exact e | exact e.symm))⟩
  have hU : ∀ k, k < w.heap.size → v.ownBlock = some k → S k ∨ NotW w k := fun k _ hk => .inr fun cs fr e => by
    obtain ⟨_, _, cur, hcur⟩ := hlt k hk
    rw [hcur] at e
    injection e with e; injection e with _ e _
    exact absurd e (by decide)
  refine ⟨v', w', hr, ⟨vs ++ [u], by rw [List.length_append]; exact k1, fun q hq hs => ?_, fun i x U hx hT => ?_⟩, ha, k3⟩
  · rcases k3 with e | e
    · rw [e] at hq; exact h2 q hq hs
    · rw [e] at hq; injection hq with hq; have := hS q hs; omega
  · by_cases hi : i < vs.length
    · rw [List.getElem?_append_left hi] at hx
      rw [List.getElem?_append_left (by omega)] at hT
      exact (h3 i x U hx hT).go ha hU (fun _ _ h => h)
    · have hi2 := (List.getElem?_eq_some_iff.1 hx).1
      rw [List.length_append, List.length_singleton] at hi2
      rw [List.getElem?_append_right (by omega), show i - vs.length = 0 by omega] at hx
      rw [List.getElem?_append_right (by omega), show i - tabs.length = 0 by omega] at hT
      injection hx with hx
      injection hT with hT
      rw [← hx, ← hT]
      exact hu.go ha hU (fun _ _ h => h)

theorem step_append_tab {ops : Array Oper} {o : Oper} {a : Act} {K : Act → World → Prop} {Q : Exit → Act → World → Prop} {E : Prop} (hgd : o.guard = none) (s x : Operand)
    (hop : o.op = .call { callee := .builtin .append, args := #[s, x], argTypes := #[59, 59] })
    (hs : a.eval s = v) (ho : TabsAt w S v tabs) (hx : a.eval x = .slice (some ⟨r, 0, none⟩) 1 1) (hc : w.cell? ⟨r, 0, none⟩ = some u) (hu : FarT w S u T) (hS : ∀ k, S k → k < w.heap.size) (hl : tabs.length ≤ 1000)
    (h : ∀ v' w', TabsAt w' S v' (tabs ++ [T]) → Apart (fun k => v.ownBlock = some k) w w' → (v'.ownBlock = v.ownBlock ∨ v'.ownBlock = some w.heap.size) → K (a.put o.dst v') w') : if Region.wanted o (yielded ops a.tmps) = true then Oper.wp Tryz.prog o a w K Q else E := by
  have hw : Region.wanted o (yielded ops a.tmps) = true := by simp [Region.wanted, hgd]
  rw [if_pos hw]
  obtain ⟨v', w', hrun, r1, r2, r3⟩ := tabs_append ho hc hu hS hl o.type
  unfold Oper.wp
  simp [execOp, hop, resolve, invoke, builtin, hs, hx, hrun, Result.andThen]
  exact h v' w' r1 r2 r3
end

theorem TreeAt.appended {w0 w4 w5 : World} {T : Nat → Prop} {t l g : Nat} {vt vm v5 : Value} {n s : List UInt8} {last cnt : Nat} {tight : Int} {tabs : List (List Wr)} {mem X : List Wr} (h : TreeAt w0 w4 T t l g vt vm n s last cnt tight tabs mem)
    (hv5 : TabsAt w5 T v5 (tabs ++ [X])) (ha5 : Apart (fun k => vt.ownBlock = some k) w4 w5) (hr5 : v5.ownBlock = vt.ownBlock ∨ v5.ownBlock = some w4.heap.size) :
    TreeAt w0 (w5.setCell ⟨t, 3, none⟩ v5) T t l g v5 vm n s last cnt tight (tabs ++ [X]) mem ∧ w5.frozen? ⟨t, 3, none⟩ = false ∧ w5.cell? ⟨t, 3, none⟩ = some vt ∧ (∀ N D, DkS w4 g N T D → DkS (w5.setCell ⟨t, 3, none⟩ v5) g N T D) ∧ Apart (fun k => k = t ∨ vt.ownBlock = some k) w4 (w5.setCell ⟨t, 3, none⟩ v5) := by
  obtain ⟨k1, _, _, k4, _, _, k7⟩ := h.kinds
  have hrow : w5.heap[t]? = w4.heap[t]? := ha5.block t h.lt k4
  have ha : Apart (fun k => k = t ∨ vt.ownBlock = some k) w4 (w5.setCell ⟨t, 3, none⟩ v5) := (ha5.mono fun k hk => .inr hk).trans ((apart_set w5 t 3 v5).mono fun k hk => .inl (.inl hk))
  have k15 : NotW w5 t := fun cs fr e => k1 cs fr (hrow.symm.trans e)
  have hne : v5.ownBlock ≠ some t := fun e => by
    obtain ⟨_, _, cur, hc⟩ := hv5.lt e
    rw [hrow, h.row] at hc
    injection hc with hc; injection hc with _ hc _
    exact absurd hc (by decide)
  refine ⟨h.wrote ha (eight_three (hrow.trans h.row)) (h.mem.go ha (fun k _ hk => ?_) (fun _ _ h => h)) (hv5.go (apart_set w5 t 3 v5) (fun k _ hk => by rw [hk]; exact .inr ⟨k15, hne⟩) (fun _ _ h => h)) (fun r hr => ?_), ?_, cell_of_row _ _ 3 _ _ _ (hrow.trans h.row), fun N D hd => ?_, ha⟩
  · rcases hk with hk | hk
    · rw [hk]; exact .inr k1
    · exact .inr (k7 k hk).1
  · rcases hr5 with e | e
    · exact h.lowv r (e ▸ hr)
    · rw [e] at hr; injection hr with hr; have := h.base.size; omega
  · unfold World.frozen?
    simp only [hrow, h.row]
    rfl
  · refine (hd.apart ha5 fun k hk e => (h.tabs.lt e).2.1 hk).put h.far

end Go.Proofs.YtlchmkpnehbnlaaGreatDoor.Cd

/-
  slices.Grow and Concat of writes; areLong. Conditions: not too many.
-/
namespace Go.Proofs.YtlchmkpnehbnlaaGreatDoor.Cd
open Go.RowKit Go.Sort

set_option maxRecDepth 100000 in
theorem run_room_tb (w : World) (ty : TypeId) (n : Nat) (hn : n ≠ 0) (hm : n ≤ 1099511627776) :
    ∃ (cap : Nat) (X : Array Value), (Builtin.append_ #[32, 3] ty #[.slice none 0 0, .int .i64 n]).run Tryz.prog w = .ok (.slice (some ⟨w.heap.size, 0, none⟩) n cap) (w.drew.alloc (.cells X 52)) ∧ X.size = cap * 3 ∧ n ≤ cap ∧ cap ≤ maxLen := by
  obtain ⟨i0, hi, hz0, hz1, hz2⟩ := info_parts info_wr
  have h1 : ¬ ((281474976710656 : Int) < n * 40) := by omega
  have h63' : ¬ (9223372036854775807 < (n : Int)) := by omega
  have h48' : ¬ (281474976710656 < Builtin.nextslicecap n 0 * 40) := by rw [nextslicecap_zero (by omega)]; omega
  have hw : IntKind.i64.wrap (n : Int) = n := by rw [IntKind.wrap_i64]; omega
  have hn3 : ¬ (n * 3 = 0) := by omega
  have hneg : ¬ ((n : Int) < 0) := by omega
  have hai : (asInt (.int .i64 (n : Int))).run Tryz.prog w = .ok (n : Int) w := by simp [asInt, asIntOf]
  have hge := grownCap_ge w n 0 52
  have hcm2 : grownCap w n 0 52 ≤ maxLen := grownCap_le_maxLen w n 0 52 (by simp only [maxLen]; omega)
  refine ⟨grownCap w n 0 52, Builtin.zeroCells (Value.agg #[.string ByteArray.empty, .string ByteArray.empty, .bool false]).cells n ++ Builtin.zeroCells (Value.agg #[.string ByteArray.empty, .string ByteArray.empty, .bool false]).cells (grownCap w n 0 52 - n), ?_, ?_, hge, hcm2⟩
  · simp [hn3, Builtin.append_, run_underlying Tryz.underlying32, run_underlying Tryz.underlying3, sizeOf, typeInfo, zeroValue, hi, hz0, hz1, hz2, Builtin.lenOf, h1, hn, hw, hai, hneg, h63', h48', Question.forced, run_firstCells_none, newRow, grownCap]
  · simp [size_zeroCells, Value.cells]
    omega

theorem wp_room_tb {w : World} {ops : Array Oper} {rest : List Oper} {o : Oper} {a : Act} {Q : Exit → Act → World → Prop} (hgd : o.guard = none) (s x : Operand)
    (hop : o.op = .call { callee := .builtin .append, args := #[s, x], argTypes := #[32, 3] })
    (hs : a.eval s = .slice none 0 0) (n : Nat) (q : Int) (hq : q = n) (hx : a.eval x = .int .i64 q) (hn : n ≠ 0) (hm : n ≤ 1099511627776)
    (hK : ∀ cap w', OwnTb w' w.heap.size (.slice (some ⟨w.heap.size, 0, none⟩) 0 cap) [] → n ≤ cap → cap ≤ 9223372036854775807 → Below w.heap.size w w' → wpList Tryz.prog ops Q rest (a.put o.dst (.slice (some ⟨w.heap.size, 0, none⟩) n cap)) w') : wpList Tryz.prog ops Q (o :: rest) a w := by
  subst hq
  refine wpList_plain hgd fun K hK' => ?_
  obtain ⟨cap, X, hrun, r1, r2, r3⟩ := run_room_tb w o.type n hn hm
  unfold Oper.wp
  simp [execOp, hop, resolve, invoke, builtin, hs, hx, hrun, Result.andThen]
  refine hK' _ _ (hK cap _ ⟨rfl, .inr ⟨w.heap.size, cap, X, rfl, Nat.le_refl _, heap_alloc_new w.drew _, Nat.zero_le _, r3, r1, by simp [wrCs]⟩⟩ r2 r3 ⟨rfl, rfl, rfl, by simp, fun k hk => heap_alloc_old w.drew _ hk⟩)

set_option maxHeartbeats 800000 in
theorem grow_tb (n : Nat) (w : World) (hn : n ≤ 1099511627776) : Calls Tryz.prog 117 #[.slice none 0 0, .int .i64 n] w (fun e w' => ∃ v, e = .returned v ∧ OwnTb w' w.heap.size v [] ∧ Below w.heap.size w w') := by
  have hn2 : (n : Int) ≤ 1099511627776 := by omega
  by_cases h0 : n = 0
  · subst h0
    go_enter Tryz.func117, Tryz.ntmps117
    go_wp2
    go_ret
    exact ⟨_, rfl, OwnTb.nil _ _, Below.refl _ _⟩
  · have h1 : 0 < (n : Int) := by omega
    go_enter Tryz.func117, Tryz.ntmps117
    go_wp2_with (at_builtin; refine wp_room_tb rfl _ _ rfl rfl n (n : Int) rfl rfl h0 hn ?hK)
    case hK =>
      intro cap w' ho hc hm hb'
      have hg4' : (n : Int) ≤ cap := by omega
      have HO := Lib.hid ho
      clear ho hc
      go_wp2
      go_ret
      exact ⟨_, rfl, HO.out, hb'⟩

set_option maxRecDepth 100000 in
set_option maxHeartbeats 1600000 in
theorem concat_tb (v : Value) (ls : List (List Wr)) (w : World) (h : TbsIn w w.heap.size v ls) (hl : ls.flatten.length ≤ 1000000) (hl2 : ls.length ≤ 1000000) :
    Calls Tryz.prog 68 #[v] w (fun e w' => ∃ v', e = .returned v' ∧ OwnTb w' w.heap.size v' ls.flatten ∧ Below w.heap.size w w') := by
  obtain ⟨A, c, rfl, hc1, hc2⟩ := h.len
  have H := Lib.hid h
  clear h
  obtain ⟨F, hF⟩ : ∃ F, ls.flatten = F := ⟨_, rfl⟩
  rw [hF] at hl ⊢
  have HF := Lib.hid hF
  clear hF
  have hFi : (F.length : Int) ≤ 1000000 := by omega
  go_enter Tryz.func68, Tryz.ntmps68
  go_wp2
  go_loopw [3, 11] (fun s i wr => ∃ k m : Nat, i = .int .i64 k ∧ s = .int .i64 m ∧ k ≤ ls.length ∧ m ≤ 1000000 ∧ Hid (m = (ls.take k).flatten.length) ∧ Hid (wr = w)) (fun _ i _ => ls.length - (intOf i).toNat)
  case atStart => exact ⟨0, 0, rfl, rfl, by omega, by omega, rfl, by first | exact rfl | exact True.intro⟩
  case round =>
    obtain ⟨k, m, rfl, rfl, hk, hm, hmm, hwr⟩ := hrel
    obtain rfl := hwr.out
    by_cases hlt : k < ls.length
    · obtain ⟨T, hT⟩ : ∃ T, ls[k]? = some T := ⟨ls[k], List.getElem?_eq_getElem hlt⟩
      obtain ⟨b, off, u, rfl, hb, hu, d0⟩ := H.out.at hT
      obtain ⟨A2, c2, rfl, hu2, hu3⟩ := hu.len
      have hst : (ls.take (k + 1)).flatten.length = m + T.length := by
        obtain ⟨h1, h2⟩ := List.getElem?_eq_some_iff.1 hT
        rw [List.take_succ_eq_append_getElem h1, h2, List.flatten_append, List.length_append, ← hmm.out]
        simp
      have hle : m + T.length ≤ 1000000 := by
        rw [← hst]
        refine Nat.le_trans ?_ hl
        rw [← HF.out]
        conv => rhs; rw [← List.take_append_drop (k + 1) ls, List.flatten_append, List.length_append]
        omega
      have HST := Lib.hid hst
      clear hT hu hst
      go_wp2
      go_roundw
      case rel => exact ⟨k + 1, m + T.length, by go_num, by go_num, by omega, hle, HST.out.symm, by first | exact rfl | exact True.intro⟩
      case measure => simp [intOf]; omega
    · have hmF : m = F.length := by rw [hmm.out, List.take_of_length_le (by omega), HF.out]
      have HMF := Lib.hid hmF
      clear hmF hmm
      have CG := Lib.hid (grow_tb m wr (by omega))
      go_wp2_with fail
      refine CG.out.mono ?_
      rintro e w1 ⟨v1, rfl, ho1, hb1⟩
      have HO1 := Lib.hid ho1
      have HB1 := Lib.hid hb1
      clear ho1 hb1 CG
      go_wp2
      go_loopw [6, 27] (fun s i wq => ∃ k : Nat, i = .int .i64 k ∧ k ≤ ls.length ∧ Hid (Below wr.heap.size wr wq) ∧ Hid (OwnTb wq wr.heap.size s (ls.take k).flatten)) (fun _ i _ => ls.length - (intOf i).toNat)
      case atStart => exact ⟨0, rfl, by omega, HB1, HO1⟩
      case round =>
        obtain ⟨k, rfl, hk, hbl, ho⟩ := hrel
        by_cases hlt : k < ls.length
        · obtain ⟨T, hT⟩ : ∃ T, ls[k]? = some T := ⟨ls[k], List.getElem?_eq_getElem hlt⟩
          obtain ⟨b, off, u, rfl, hb, hu, d0⟩ := (H.out.below hbl.out).at hT
          have hst : (ls.take (k + 1)).flatten = (ls.take k).flatten ++ T := by
            obtain ⟨h1, h2⟩ := List.getElem?_eq_some_iff.1 hT
            rw [List.take_succ_eq_append_getElem h1, h2, List.flatten_append]
            simp
          have hle : (ls.take k).flatten.length + T.length ≤ 1000000 := by
            rw [← List.length_append, ← hst]
            refine Nat.le_trans ?_ hl
            rw [← HF.out]
            conv => rhs; rw [← List.take_append_drop (k + 1) ls, List.flatten_append, List.length_append]
            omega
          obtain ⟨G, hG⟩ : ∃ G, (ls.take k).flatten = G := ⟨_, rfl⟩
          rw [hG] at ho hst hle
          have HST := Lib.hid hst
          have HU := Lib.hid hu
          clear hT hst hG hu
          go_wp2_with (at_builtin; refine wp_append_tbs rfl _ _ rfl rfl ho.out hbl.out.size _ _ T rfl HU.out (by omega) ?hK)
          case hK =>
            intro v' w' ho' hb' _
            have HO := Lib.hid ho'
            have HB := Lib.hid (hbl.out.trans hb')
            clear ho' hb'
            go_wp2
            go_roundw
            case rel => exact ⟨k + 1, by go_num, by omega, HB, by unfold Hid; rw [HST.out]; exact HO.out⟩
            case measure => simp [intOf]; omega
        · have ho2 := ho.out
          rw [List.take_of_length_le (by omega), HF.out] at ho2
          have HO2 := Lib.hid ho2
          clear ho2 ho
          go_wp2
          go_ret
          exact ⟨_, rfl, HO2.out, hbl.out⟩

end Go.Proofs.YtlchmkpnehbnlaaGreatDoor.Cd

/-
  Writes that memory remembers. Conditions: not too many.
-/
namespace Go.Proofs.YtlchmkpnehbnlaaGreatDoor.Cd
open Go.RowKit

theorem tbs_two {w : World} {u v : Value} {a b : List Wr} (ha : TbIn w w.heap.size u a) (hb : TbIn w w.heap.size v b) : TbsIn (w.alloc (.cells #[u, v] 32)) (w.heap.size + 1) (.slice (some ⟨w.heap.size, 0, none⟩) 2 2) [a, b] := by
  have hbl : Below w.heap.size w (w.alloc (.cells #[u, v] 32)) := (Below.refl _ _).alloc (Nat.le_refl _) _
  have hrow := heap_alloc_new w (.cells #[u, v] 32)
  refine ⟨_, 2, rfl, Nat.le_refl _, by decide, fun _ => ⟨w.heap.size, 0, rfl, by omega, fun i l hi => ?_⟩⟩
  match i with
  | 0 => obtain rfl : a = l := by simpa using hi
         exact ⟨u, (ha.below hbl).more (by omega), cell_of_row _ _ 0 _ _ _ hrow⟩
  | 1 => obtain rfl : b = l := by simpa using hi
         exact ⟨v, (hb.below hbl).more (by omega), cell_of_row _ _ 1 _ _ _ hrow⟩
  | i + 2 => simp at hi

theorem LimT.append {a b : List Wr} {mk mv : Nat} (ha : LimT mk mv a) (hb : LimT mk mv b) : LimT mk mv (a ++ b) := fun p hp => (List.mem_append.1 hp).elim (ha p) (hb p)

def RemIs (w0 : World) (S : Nat → Prop) (t l g : Nat) (vt : Value) (n s : List UInt8) (last cnt : Nat) (tight : Int) (tabs : List (List Wr)) (mem : List Wr) (W : World) (e : Ending) (W' : World) : Prop :=
  e = .returned (.tuple #[]) ∧ ∃ vm, TreeAt w0 W' S t l g vt vm n s last cnt tight tabs mem ∧ Apart (fun k => k = t) W W'

set_option maxRecDepth 100000 in
set_option maxHeartbeats 3200000 in
theorem remember_s (q : Value) (X : List Wr) {w0 W : World} {S : Nat → Prop} {t l g : Nat} {vt vm : Value} {n s : List UInt8} {last cnt : Nat} {tight : Int} {tabs : List (List Wr)} {mem : List Wr} (h : TreeAt w0 W S t l g vt vm n s last cnt tight tabs mem) (hS : ∀ k, S k → k < W.heap.size)
    (hq : TabV W q X) (hX : LimT 48 160 X) (hm : LimT 48 160 mem) (hl : mem.length + X.length ≤ 100000) (hc : cnt ≤ 100000) :
    Calls Tryz.prog 35 #[.pointer (some ⟨t, 0, none⟩), q] W (RemIs w0 S t l g vt n s last (cnt + X.length) tight tabs (ofW (mem ++ X)) W) := by
  have CA := Lib.hid (tall_any q X W hq (by omega))
  obtain ⟨A0, k0, rfl, _, _⟩ := h.mem.1.len
  have H := Lib.hid h
  obtain ⟨m, hmm⟩ : ∃ m : Nat, cnt + X.length = m := ⟨_, rfl⟩
  rw [hmm]
  have hXl : (X.length : Int) ≤ 100000 := by omega
  have hci : (cnt : Int) ≤ 100000 := by omega
  have hfx := (hm.append hX).fit
  have hft : [mem, X].flatten = mem ++ X := by simp
  obtain ⟨Y, hY⟩ : ∃ Y, mem ++ X = Y := ⟨_, rfl⟩
  have hYl : Y.length ≤ 100000 := by rw [← hY, List.length_append]; exact hl
  rw [hY] at hfx hft ⊢
  have HFT := Lib.hid hft
  clear h hq hft hY
  go_enter Tryz.func35, Tryz.ntmps35
  go_wp2_with fail
  refine CA.out.mono ?_
  rintro e w1 ⟨v1, rfl, hn1, hb1⟩
  have h1 := H.out.below hb1
  obtain ⟨_, _, _, _, _, c5, c6, _⟩ := h1.cells
  have f6 := h1.frozen 6
  have hx1 := hn1.tbIn
  obtain ⟨A1, k1, rfl, hk1, hk2⟩ := hx1.len
  have hsum : (cnt : Int) + (X.length : Int) = (m : Int) := by omega
  have hwr : IntKind.i64.wrap (m : Int) = m := by rw [IntKind.wrap_i64]; omega
  have h2 := h1.set6 m
  obtain ⟨_, _, _, _, _, d5, _, _⟩ := h2.cells
  have ha2 : Apart (fun k => k = t) W (w1.setCell ⟨t, 6, none⟩ (.int .i64 m)) := (Apart.below hb1).trans ((apart_set w1 t 6 _).mono fun k hk => .inl hk)
  have hx2 : TbIn (w1.setCell ⟨t, 6, none⟩ (.int .i64 m)) (w1.setCell ⟨t, 6, none⟩ (.int .i64 m)).heap.size (.slice A1 X.length k1) X :=
    ((farT_new (S := S) hn1 hS).go (S' := S) (apart_set w1 t 6 _) (fun k _ hk => by rw [hk]; exact .inr h1.kinds.1) (fun _ _ h => h)).1
  have htw := tbs_two h2.mem.1 hx2
  have hz : (w1.setCell ⟨t, 6, none⟩ (.int .i64 m)).heap.size = w1.heap.size := by simp
  have hb3 : Below w1.heap.size (w1.setCell ⟨t, 6, none⟩ (.int .i64 m)) ((w1.setCell ⟨t, 6, none⟩ (.int .i64 m)).alloc (.cells #[.slice A0 mem.length k0, .slice A1 X.length k1] 32)) := (Below.refl _ _).alloc (by rw [hz]; exact Nat.le_refl _) _
  have h3 := h2.below (by rw [hz]; exact hb3)
  rw [hz] at htw
  have ha3 : Apart (fun k => k = t) W ((w1.setCell ⟨t, 6, none⟩ (.int .i64 m)).alloc (.cells #[.slice A0 mem.length k0, .slice A1 X.length k1] 32)) := ha2.trans (Apart.below (by rw [hz]; exact hb3))
  have CC := Lib.hid (concat_tb _ [mem, X] _ (by have hzz : ((w1.setCell ⟨t, 6, none⟩ (.int .i64 m)).alloc (.cells #[.slice A0 mem.length k0, .slice A1 X.length k1] 32)).heap.size = w1.heap.size + 1 := by simp
                                                 rw [hzz]; exact htw) (by simp; omega) (by simp))
  have H3 := Lib.hid h3
  have HA3 := Lib.hid ha3
  have HMM := Lib.hid hmm
  clear htw hb3 h3 ha3 hx2 ha2 h2 hmm hx1 hn1 CA
  go_wp2_with fail
  refine CC.out.mono ?_
  rintro e w4 ⟨v4, rfl, ho4, hb4⟩
  rw [HFT.out] at ho4
  have CO := Lib.hid (tof_any v4 Y w4 ho4.tbIn hfx (by omega))
  have H4 := Lib.hid (H3.out.below hb4)
  have HA4 := Lib.hid (HA3.out.trans (Apart.below hb4))
  obtain ⟨A4, k4, rfl, _, _⟩ := ho4.tbIn.len
  clear ho4 hb4 H3 HA3 CC d5 c5 c6 f6 h1 hz
  go_wp2_with fail
  refine CO.out.mono ?_
  intro e w5 hmade
  obtain ⟨v5, rfl, ⟨g5, rfl⟩, ht5, hb5⟩ := hmade.tab
  have hol := ofW_len Y
  obtain ⟨Z, hZ⟩ : ∃ Z, ofW Y = Z := ⟨_, rfl⟩
  rw [hZ] at ht5 hol
  have HZ := Lib.hid hZ
  clear hZ
  have CB := Lib.hid (tall_any _ Z w5 ht5 (by omega))
  have H5 := Lib.hid (H4.out.below hb5)
  have HA5 := Lib.hid (HA4.out.trans (Apart.below hb5))
  clear hmade ht5 hb5 H4 HA4 CO
  go_wp2_with fail
  refine CB.out.mono ?_
  rintro e w6 ⟨v6, rfl, hn6, hb6⟩
  have h6 := H5.out.below hb6
  obtain ⟨_, _, _, _, _, d5, _, _⟩ := h6.cells
  have f5 := h6.frozen 5
  have hf6 := farT_new (S := S) hn6 (fun k hk => Nat.lt_of_lt_of_le (hS k hk) HA5.out.size)
  have h7 := Lib.hid (h6.set5 hf6)
  have ha7 := Lib.hid ((HA5.out.trans (Apart.below hb6)).trans ((apart_set w6 t 5 v6).mono fun k hk => .inl hk))
  obtain ⟨A6, k6, rfl, _, _⟩ := hf6.1.len
  clear hn6 hb6 hf6 h6 H5 HA5 CB
  go_wp2_with fail
  refine bodyPost_ret (results_none rfl _ _ _) rfl ?_
  exact ⟨rfl, _, by rw [HZ.out]; exact h7.out, ha7.out⟩

end Go.Proofs.YtlchmkpnehbnlaaGreatDoor.Cd

/-
  The log's record of writes: written, read, entered. Conditions: few bytes.
-/
namespace Go.Proofs.YtlchmkpnehbnlaaGreatDoor.Cd
open Go.RowKit

set_option maxRecDepth 100000 in
set_option maxHeartbeats 1600000 in
theorem recordOf_s (i : Nat) (q : Value) (X : List Wr) (w : World) (hi : i ≤ 1000) (hq : TabV w q X) (hX : LimT 48 160 X) (hs : sumB X ≤ 300000) :
    Calls Tryz.prog 34 #[.int .i64 i, q] w (Gives (.string ⟨(recO i X).toArray⟩) w) := by
  have CI := Lib.hid (int_any (.slice none 0 0) [] i w (nil_sl10 _ _) (by omega) (by omega) (by simp))
  have hsw : sumW X ≤ 1048576 := by unfold sumB at hs; omega
  have hbl := (bytesW_len hX (by omega)).1
  have CB := Lib.hid (fun W (hb : Below w.heap.size w W) => tbytes_any q X W (TabV.below hq hb) hsw)
  have he := enc_u64 (zig i) (by unfold zig; split <;> omega)
  obtain ⟨R, hR⟩ : ∃ R, recO i X = R := ⟨_, rfl⟩
  rw [hR]
  unfold recO at hR
  obtain ⟨B, hB⟩ : ∃ B, bytesW X = B := ⟨_, rfl⟩
  rw [hB] at CB hR hbl
  obtain ⟨E, hE⟩ : ∃ E, enc (zig i) = E := ⟨_, rfl⟩
  rw [hE] at hR he
  have HE := Lib.hid hE
  have HR := Lib.hid hR
  clear hq hB hE hR
  go_enter Tryz.func34, Tryz.ntmps34
  go_wp2_with fail
  refine CI.out.mono ?_
  rintro e w1 ⟨v1, rfl, ho1, hb1⟩
  rw [List.nil_append, HE.out] at ho1
  have CB1 := Lib.hid (CB.out w1 hb1)
  have HO1 := Lib.hid ho1
  have HB1 := Lib.hid hb1
  clear ho1 hb1 CB CI
  go_wp2_with fail
  refine CB1.out.mono ?_
  rintro e w2 ⟨v2, rfl, ho2, hb2⟩
  have hcv := run_text_of w2 _ v2 B ho2.sl
  have CT := Lib.hid (text_any v1 E ⟨B.toArray⟩ w2 ((HO1.out.sl.below hb2).more hb2.size) (by have : (ByteArray.mk B.toArray).size = B.length := rfl; omega))
  have HB2 := Lib.hid (HB1.out.trans (hb2.mono HB1.out.size))
  obtain ⟨A2, c2, rfl, _, _⟩ := ho2.sl.len
  clear ho2 hb2 CB1 HO1 HB1
  go_wp2_with fail
  refine CT.out.mono ?_
  rintro e w3 ⟨v3, rfl, ho3, hb3⟩
  have HB3 := Lib.hid (HB2.out.trans (hb3.mono HB2.out.size))
  have he3 : E ++ (enc (ByteArray.mk B.toArray).size ++ (ByteArray.mk B.toArray).data.toList) = R := HR.out
  rw [he3] at ho3
  have hcv3 := run_text_of w3 _ v3 _ ho3.sl
  obtain ⟨A3, c3, rfl, _, _⟩ := ho3.sl.len
  clear ho3 hb3 CT HB2 hcv he3
  go_wp2_with fail
  go_ret
  exact ⟨rfl, HB3.out⟩

set_option maxRecDepth 100000 in
set_option maxHeartbeats 1600000 in
theorem readRecord_s (i : Nat) (most : Nat) (X : List Wr) (w : World) (hi1 : 1 ≤ i) (hi : i ≤ most) (hm : most ≤ 1000) (hX : GoodT X) (hs : sumB X ≤ 300000) :
    Calls Tryz.prog 55 #[.string ⟨(recO i X).toArray⟩, .int .i64 most] w (fun e w' => ∃ q, e = .returned (.tuple #[.int .i64 i, .pointer (some ⟨q, 0, none⟩), .bool true]) ∧ TabV w' (.pointer (some ⟨q, 0, none⟩)) X ∧ Below w.heap.size w w') := by
  have hbl := (bytesW_len hX.lim (by omega)).1
  have hrl := recO_len (i := i) (by omega) hX.lim (by omega)
  have hz : zig i < 18446744073709551616 := by unfold zig; split <;> omega
  have he : recO i X = enc (zig i) ++ (enc (bytesW X).length ++ (bytesW X ++ [])) := by unfold recO; rw [List.append_nil]
  have hzag : zag (nv (recO i X)) = i := by rw [he, nv_enc hz, zag_zig]
  have hnb : ¬ InBad 1 most (recO i X) := by
    rintro (h | h | h)
    · rw [he] at h; exact enc_good hz _ h
    · rw [hzag] at h; omega
    · rw [hzag] at h; omega
  have hv1 : inV 1 most (recO i X) = i := by unfold inV; rw [if_neg hnb, hzag]
  have hv2 : inB 1 most (recO i X) = enc (bytesW X).length ++ (bytesW X ++ []) := by unfold inB; rw [if_neg hnb, he, ns_enc hz, List.drop_left]
  have hv3 : inX 1 most (recO i X) = false := decide_eq_false hnb
  obtain ⟨ht1, ht2, ht3⟩ := tx_all [] (bytesW X) (by omega) ((recO i X).length : Nat) (by unfold recO; simp only [List.length_append]; omega)
  have hTB := isT_self hX.self (by have := hX; unfold sumB at hs; omega) hX.lim
  have hIB : IsB (bytesW X) X := by
    have := (isB_of (T := X) (U := X) (n := 0) (by have : (frm (recW X)).length = (bytesW X).length := rfl; omega)).2 hTB
    simpa [bytesW] using this
  have hbsz : (bytesW X).length < 18446744073709551616 := by omega
  obtain ⟨R, hR⟩ : ∃ R, recO i X = R := ⟨_, rfl⟩
  obtain ⟨B, hB⟩ : ∃ B, bytesW X = B := ⟨_, rfl⟩
  rw [hR, hB] at hv2
  rw [hR] at hv1 hv3 hrl ⊢
  rw [hR, hB] at ht1 ht2 ht3
  rw [hB] at hbl hIB hbsz
  have hRl : R.length ≤ 400000 := by omega
  have hBl : B.length ≤ 400000 := by omega
  have HV1 := Lib.hid hv1
  have HV2 := Lib.hid hv2
  have HV3 := Lib.hid hv3
  have HT := Lib.hid (And.intro ht1 (And.intro ht2 ht3))
  have HIB := Lib.hid hIB
  clear hX hs hz he hzag hnb hv1 hv2 hv3 ht1 ht2 ht3 hTB hIB hR hB
  go_enter Tryz.func55, Tryz.ntmps55
  go_wp2_with (refine wp_bytes_of rfl _ rfl R rfl (by omega) ?_)
  intro g0 c0 w1 hrow hg0 hb1
  have CR := Lib.hid (read_any _ R w1 hrow.sl)
  have HB1 := Lib.hid hb1
  clear hrow hb1 hg0
  go_wp2_with fail
  refine CR.out.mono ?_
  rintro e w2 ⟨rfl, hrd, hb2⟩
  have HB2 := Lib.hid (HB1.out.trans (hb2.mono HB1.out.size))
  have hgw := HB1.out.size
  have hlt2 := hrd.lt
  generalize w1.heap.size = g at *
  have CU := Lib.hid (rin_any g 1 most R false w2 hrd (Sane.start R) (by omega))
  rw [HV1.out, HV2.out, HV3.out] at CU
  clear CR hrd hb2 HB1
  go_wp2_with fail
  refine CU.out.mono ?_
  rintro e w3 ⟨rfl, hrd, hgr⟩
  have hsz3 : g + 1 ≤ w3.heap.size := Nat.le_trans hlt2 hgr.size
  have HB3 : Hid (Below w.heap.size w w3) := HB2.out.grown hgr (by have := HB2.out.size; omega) (fun k e => by injection e with e; omega)
  have CT := Lib.hid (rtext_any g (R.length : Nat) _ false w3 hrd (Sane.start _) (by have := enc_u64 B.length hbsz; simp; omega) (by omega))
  rw [HT.out.1, HT.out.2.1, HT.out.2.2] at CT
  clear CU hrd hgr HB2
  go_wp2_with fail
  refine CT.out.mono ?_
  rintro e w4 ⟨rfl, hrd, hgr⟩
  have hsz4 := Nat.le_trans hsz3 hgr.size
  have HB4 : Hid (Below w.heap.size w w4) := HB3.out.grown hgr HB3.out.size (fun k e => by injection e with e; omega)
  have CE := Lib.hid (end_any g [] false w4 hrd)
  clear CT hrd hgr HB3
  go_wp2_with fail
  refine CE.out.mono ?_
  rintro e w5 ⟨rfl, rfl⟩
  clear CE
  go_wp2_with (refine wp_bytes_of rfl _ rfl B rfl (by omega) ?_)
  intro g6 c6 w6 hrow hg6 hb6
  have CD := Lib.hid (tread_any _ B w6 hrow.sl (by omega))
  have HB6 := Lib.hid (HB4.out.trans (hb6.mono HB4.out.size))
  clear hrow hb6 hg6 HB4
  go_wp2_with fail
  refine CD.out.mono ?_
  rintro e w7 ⟨v7, n7, rfl, hb7, ⟨rfl, T, g7, rfl, hT, htv⟩ | ⟨rfl, rfl, hno⟩⟩
  · obtain rfl := isB_uniq hbsz hT HIB.out
    have HTV := Lib.hid htv
    have HB7 := Lib.hid (HB6.out.trans (hb7.mono HB6.out.size))
    clear htv hb7 hT CD HB6
    go_wp2_with fail
    go_ret3
    exact ⟨g7, rfl, HTV.out, HB7.out⟩
  · exact absurd HIB.out (hno X)

end Go.Proofs.YtlchmkpnehbnlaaGreatDoor.Cd

/-
  A record entered into the log. Conditions: the power is on, and no end of it in sight.
-/
namespace Go.Proofs.YtlchmkpnehbnlaaGreatDoor.Cd
open Go.RowKit

def EnterIs (w0 : World) (S : Nat → Prop) (t l g M room : Nat) (vt vm : Value) (n s : List UInt8) (last cnt : Nat) (tight : Int) (tabs : List (List Wr)) (mem : List Wr) (D : Dsk) (b : List UInt8) (W : World) (e : Ending) (W' : World) : Prop :=
  (room < count D.now + (needP (s.length + b.length) - needP s.length) ∧ e = .returned (.int .i64 7) ∧ ∃ T, DkS W' g M T D ∧ TreeAt w0 W' T t l g vt vm n s last cnt tight tabs mem ∧ TreeTo W S t l vt W' T vt) ∨
  (count D.now + (needP (s.length + b.length) - needP s.length) ≤ room ∧ e = .returned (.int .i64 0) ∧ ∃ T D', DkS W' g M T D' ∧ TreeAt w0 W' T t l g vt vm n (s ++ b) last cnt tight tabs mem ∧ TreeTo W S t l vt W' T vt ∧ Ample D' room ∧ Lay (pagesF D'.now n) (s ++ b) ∧ (∀ m, m ≠ n → getF D'.now m = getF D.now m) ∧ D'.safe = D.safe)

set_option maxRecDepth 100000 in
set_option maxHeartbeats 1600000 in
theorem enter_s (N M room : Nat) (x : List UInt8) (D : Dsk) {w0 W : World} {S : Nat → Prop} {t l g : Nat} {vt vm : Value} {n s : List UInt8} {last cnt : Nat} {tight : Int} {tabs : List (List Wr)} {mem : List Wr} (h : TreeAt w0 W S t l g vt vm n s last cnt tight tabs mem)
    (hd : DkS W g N S D) (ha : Ample D room) (hr : room ≤ 4096) (hl : Lay (pagesF D.now n) s) (hn : n.length ≤ 50) (hx : s.length + x.length ≤ 500000) (hN : N + 10000 ≤ M) (hM : M ≤ 137438953472) :
    Calls Tryz.prog 33 #[.pointer (some ⟨t, 0, none⟩), .string ⟨x.toArray⟩] W (EnterIs w0 S t l g M room vt vm n s last cnt tight tabs mem D (frm x) W) := by
  obtain ⟨c0, _, c2, _⟩ := h.cells
  have HDn := fun W' hb => down_dks g N S D W' (hd.below (w' := W') hb)
  rw [ha.off] at HDn
  have HDn := Lib.hid HDn
  have H := Lib.hid h
  have HD := Lib.hid hd
  have hfl := frm_le x (by omega)
  have hfree := ha.roomy.free
  have hfits := ha.fits
  have hcnt : (pagesF D.now n).length ≤ 100000 := by rw [hl.2]; unfold needP; omega
  have happ := ha.append hl (frm x)
  have hae := appendA_on ha.off n s (frm x)
  have hsf : (appendD D n s (frm x)).2 = 0 → (appendD D n s (frm x)).1.safe = D.safe := appendD_safe
  have hb5 : ∀ W', W'.heap.size = W.heap.size → Below W.heap.size W W' → Hid (Below W.heap.size W (W'.alloc (.cells #[.string ⟨x.toArray⟩] 9))) := fun W' hz hb => hb.alloc (by rw [hz]; exact Nat.le_refl _) _
  have CA : ∀ W', Below W.heap.size W W' → W'.heap.size = W.heap.size → Calls Tryz.prog 63 #[.pointer (some ⟨l, 0, none⟩), .slice (some ⟨W.heap.size, 0, none⟩) 1 1] (W'.alloc (.cells #[.string ⟨x.toArray⟩] 9)) (MakesL g M S (appendA D n s (flat [x])).1 (.int .i64 ((appendA D n s (flat [x])).2 : Nat)) l n (if (appendA D n s (flat [x])).2 = 0 then s ++ flat [x] else s) (W'.alloc (.cells #[.string ⟨x.toArray⟩] 9))) := fun W' hb hz => by
    have hb2 := (hb5 W' hz hb).out
    have hs := one_strs W' x 9
    rw [hz] at hs
    refine append_l l g N M n s _ [x] S D _ (h.log.below hb2) (hd.below hb2) (by omega) (by simp only [World.size_alloc, hz]; exact hs) (by rw [flat_one]; omega) (by omega) (by rw [hfree]; omega) (by rw [flat_one]; unfold needP; omega) hM
  rw [flat_one, hae] at CA
  obtain ⟨⟨D1, e1⟩, hD1⟩ : ∃ R, appendD D n s (frm x) = R := ⟨_, rfl⟩
  rw [hD1] at CA happ hsf
  obtain ⟨b, hb⟩ : ∃ b, frm x = b := ⟨_, rfl⟩
  rw [hb] at CA happ ⊢
  dsimp only at CA happ hsf
  have HSF := Lib.hid hsf
  replace CA := Lib.hid CA
  have HAPP := Lib.hid happ
  have HB5 := Lib.hid hb5
  clear h hd ha hl happ hae hsf hD1 hb hb5 hfree hfl hcnt
  go_enter Tryz.func33, Tryz.ntmps33
  go_wp2_with fail
  go_quiet (first | (go_at_call 45; exact Calls.quiet_of_same (HDn.out _ ⟨rfl, rfl, rfl, Nat.le_refl _, fun _ _ => rfl⟩)))
  all_goals
    have hbq : Below W.heap.size W (W.drewN nq) := ⟨rfl, rfl, rfl, Nat.le_refl _, fun _ _ => rfl⟩
    have q2 : (W.drewN nq).cell? ⟨t, 2, none⟩ = some (.pointer (some ⟨l, 0, none⟩)) := c2
    go_wp2_with fail
    refine (CA.out _ hbq rfl).mono ?_
    intro e w2 hm
    obtain rfl := hm.1
    have hb2 := (HB5.out (W.drewN nq) rfl hbq).out
    have hz2 := hb2.size
    obtain ⟨_, T, m1, m2, m3, m4⟩ := hm
    have hsets : ∀ k, T k → since S W w2 k := fun k hk => by
      rcases m3 k hk with h1 | h1
      · exact .inl h1
      · exact .inr ⟨by have := h1.1; omega, h1.2⟩
    have hap : Apart (plus S l) W w2 := (Apart.below hb2).trans (m4.mono fun k hk => .inl hk)
    have hap2 : Apart (treeU S t l vt) W w2 := hap.mono fun k hk => hk.elim .inl (fun e => .inr (.inl e))
    rcases HAPP.out with ⟨k1, k2⟩ | ⟨k1, k2, k3, k4, k5⟩
    · injection k2 with k2 k3
      subst k2 k3
      rw [if_neg (by decide)] at m2
      have HQ := Lib.hid (H.out.logged m2 hsets hap)
      have HM1 := Lib.hid m1
      have HS := Lib.hid (And.intro hsets hap2)
      clear m1 m2 m3 m4 hsets hap hap2 hb2 CA
      go_wp2_with fail
      go_ret
      exact .inl ⟨k1, rfl, T, HM1.out, HQ.out, HS.out.1, HS.out.2, fun _ => .inl⟩
    · subst k2
      rw [if_pos rfl] at m2
      have HQ := Lib.hid (H.out.logged m2 hsets hap)
      have HM1 := Lib.hid m1
      have HS := Lib.hid (And.intro hsets hap2)
      have HK := Lib.hid (And.intro k3 (And.intro k4 k5))
      clear m1 m2 m3 m4 hsets hap hap2 hb2 CA k3 k4 k5
      go_wp2_with fail
      go_ret
      exact .inr ⟨k1, rfl, T, D1, HM1.out, HQ.out, ⟨HS.out.1, HS.out.2, fun _ => .inl⟩, HK.out.1, HK.out.2.1, HK.out.2.2, HSF.out (by first | rfl | trivial)⟩

end Go.Proofs.YtlchmkpnehbnlaaGreatDoor.Cd

/-
  A tree's lists in a row of the call's own: lists. Conditions: not too many.
-/
namespace Go.Proofs.YtlchmkpnehbnlaaGreatDoor.Cd
open Go.RowKit

abbrev AnyT (w : World) (v : Value) (l : List Wr) : Prop := FarT w (fun _ => False) v l
theorem FarT.any {w : World} {S : Nat → Prop} {v : Value} {l : List Wr} (h : FarT w S v l) : AnyT w v l := h.go (Apart.refl (fun _ => False) w) (fun _ _ h => h.elim) (fun _ _ h => h.elim)
def RowL (w : World) (B : Nat) (v : Value) (ls : List (List Wr)) : Prop := ∃ vs : List Value, w.ownsRow B 32 1 v ls.length vs ∧ ∀ (i : Nat) u l, vs[i]? = some u → ls[i]? = some l → AnyT w u l

section
variable {w w' : World} {B : Nat} {v : Value} {ls : List (List Wr)}
theorem RowL.nil (w : World) (B : Nat) : RowL w B (.slice none 0 0) [] := ⟨[], World.ownsRow_nil _ _ _ _, fun _ _ _ h => by cases h⟩
theorem RowL.lt (h : RowL w B v ls) {r : Nat} (hr : v.ownBlock = some r) : B ≤ r ∧ r < w.heap.size ∧ ∃ cur, w.heap[r]? = some (.cells cur 32 (0, 0)) := by
  obtain ⟨vs, h1, _⟩ := h
  have hlt := World.ownsRow.lt h1 r hr
  refine ⟨hlt.1, hlt.2, ?_⟩
  rcases h1.2 with ⟨rfl, _⟩ | ⟨g, cap, cur, rfl, hg, hh, _⟩
  · cases hr
  · have : g = r := by simpa [Value.ownBlock] using hr
    subst this
    exact ⟨cur, hh⟩
theorem RowL.notW (h : RowL w B v ls) {r : Nat} (hr : v.ownBlock = some r) : NotW w r := fun cs fr e => by
  obtain ⟨_, _, cur, hc⟩ := h.lt hr
  rw [hc] at e
  injection e with e; injection e with _ e _
  exact absurd e (by decide)
theorem RowL.below (h : RowL w B v ls) (hb : Below w.heap.size w w') : RowL w' B v ls := by
  have hlt := fun r hr => h.lt (r := r) hr
  obtain ⟨vs, h1, h2⟩ := h
  refine ⟨vs, ⟨h1.1, ?_⟩, fun i u l hu hl => (h2 i u l hu hl).below hb⟩
  rcases h1.2 with h4 | ⟨g, cap, cur, rfl, hg, hh, r⟩
  · exact .inl h4
  · exact .inr ⟨g, cap, cur, rfl, hg, (hb.block g (hlt g rfl).2.1).trans hh, r⟩
theorem RowL.lower {B' : Nat} (h : RowL w B v ls) (hB : B' ≤ B) : RowL w B' v ls := by
  obtain ⟨vs, h1, h2⟩ := h
  refine ⟨vs, ⟨h1.1, ?_⟩, h2⟩
  rcases h1.2 with h4 | ⟨g, cap, cur, hv, hg, r⟩
  · exact .inl h4
  · exact .inr ⟨g, cap, cur, hv, Nat.le_trans hB hg, r⟩
theorem RowL.len (h : RowL w B v ls) : ∃ A c, v = .slice A ls.length c ∧ ls.length ≤ c ∧ c ≤ 9223372036854775807 := by
  obtain ⟨vs, h1, _⟩ := h
  rcases h1.2 with ⟨rfl, h⟩ | ⟨g, cap, cur, rfl, _, _, h2, h3, _⟩
  · exact ⟨none, 0, by rw [h], by omega, by omega⟩
  · exact ⟨_, cap, rfl, h2, h3⟩
theorem RowL.at {A : Option Addr} {m c : Nat} (h : RowL w B (.slice A m c) ls) {i : Nat} {l : List Wr} (hl : ls[i]? = some l) : ∃ r u, A = some ⟨r, 0, none⟩ ∧ B ≤ r ∧ r < w.heap.size ∧ w.cell? ⟨r, i, none⟩ = some u ∧ w.frozen? ⟨r, i, none⟩ = false ∧ AnyT w u l := by
  have hlt := fun r hr => h.lt (r := r) hr
  obtain ⟨vs, h1, h3⟩ := h
  have hi := (List.getElem?_eq_some_iff.1 hl).1
  have hvl : vs.length = ls.length := by have := h1.1; omega
  obtain ⟨u, hvi⟩ : ∃ u, vs[i]? = some u := ⟨vs[i], List.getElem?_eq_getElem (by omega)⟩
  rcases h1.2 with ⟨e, h⟩ | ⟨g, cap, cur, e, hg, hh, h4, h5, h6, h7⟩
  · omega
  · injection e with e1 _ _
    subst e1
    refine ⟨g, u, rfl, hg, (hlt g rfl).2.1, ?_, ?_, h3 i u l hvi hl⟩
    · rw [cell_of_row _ _ _ _ _ _ hh]
      rw [← h7, List.getElem?_take, if_pos (by omega)] at hvi
      simpa using hvi
    · unfold World.frozen?
      simp only [hh]
      rfl

set_option maxRecDepth 100000 in
theorem rows_append {ns : List (List Wr)} {xs : List Value} {A : Addr} {c : Nat} (ho : RowL w B v ls) (hB : B ≤ w.heap.size) (hx : xs.length = ns.length) (hc : ∀ j u, xs[j]? = some u → w.cell? (A.add j) = some u) (hu : ∀ (i : Nat) u l, xs[i]? = some u → ns[i]? = some l → AnyT w u l) (hl : ls.length + ns.length ≤ 100000) (ty : TypeId) :
    ∃ v' w', (Builtin.append_ #[59, 59] ty #[v, .slice (some A) ns.length c]).run Tryz.prog w = .ok v' w' ∧ RowL w' B v' (ls ++ ns) ∧ Below B w w' ∧ w.grownBy w' v.ownBlock := by
  obtain ⟨i0, hi, hz0, hz1, hz2⟩ := info_parts info_slw
  have hnw := fun r hr => ho.notW (r := r) hr
  have hlt := fun r hr => ho.lt (r := r) hr
  obtain ⟨vs, h1, h3⟩ := ho
  have hvl : vs.length = ls.length := by have := h1.1; omega
  have hone : ∀ x ∈ xs, x.oneCell' = true := fun x hx2 => by
    obtain ⟨j, hj, rfl⟩ := List.getElem_of_mem hx2
    exact (hu j xs[j] ns[j] (List.getElem?_eq_getElem hj) (List.getElem?_eq_getElem (by omega))).one
  obtain ⟨v', w', hr, h2, hg, _⟩ := run_append_own (P := Tryz.prog) w B 59 ty 32 i0 _ 1 24 Tryz.underlying59 hi hz0 hz1 hz2 rfl (by omega) v ls.length vs h1 A ns.length c xs (by omega) hc hone (by simp only [maxLen]; omega) (by omega) hB
  have ha : Apart (fun k => v.ownBlock = some k) w w' := ⟨hg.os, hg.tape, hg.output, hg.size, fun k hk hn => hg.block k hk (fun e => hn (by first | exact e | exact e.symm))⟩
  refine ⟨v', w', hr, ⟨vs ++ xs, by rw [List.length_append]; exact h2, fun i u l hui hli => ?_⟩, (Below.refl _ _).grown hg hB (fun k hk => (hlt k hk).1), hg⟩
  have hU : ∀ k, k < w.heap.size → v.ownBlock = some k → False ∨ NotW w k := fun k _ hk => .inr (hnw k hk)
  by_cases hi2 : i < vs.length
  · rw [List.getElem?_append_left hi2] at hui
    rw [List.getElem?_append_left (by omega)] at hli
    exact (h3 i u l hui hli).go ha hU (fun _ _ h => h)
  · rw [List.getElem?_append_right (by omega)] at hui
    rw [List.getElem?_append_right (by omega), ← hvl] at hli
    exact (hu _ u l hui hli).go ha hU (fun _ _ h => h)
set_option maxRecDepth 100000 in
theorem wp_append_rows {ops : Array Oper} {rest : List Oper} {o : Oper} {a : Act} {Q : Exit → Act → World → Prop} {ns : List (List Wr)} {xs : List Value} {A : Addr} {c : Nat} (hgd : o.guard = none) (s x : Operand)
    (hop : o.op = .call { callee := .builtin .append, args := #[s, x], argTypes := #[59, 59] })
    (hs : a.eval s = v) (ho : RowL w B v ls) (hB : B ≤ w.heap.size) (hxv : a.eval x = .slice (some A) ns.length c) (hx : xs.length = ns.length) (hc : ∀ j u, xs[j]? = some u → w.cell? (A.add j) = some u) (hu : ∀ (i : Nat) u l, xs[i]? = some u → ns[i]? = some l → AnyT w u l) (hl : ls.length + ns.length ≤ 100000)
    (h : ∀ v' w', RowL w' B v' (ls ++ ns) → Below B w w' → w.grownBy w' v.ownBlock → wpList Tryz.prog ops Q rest (a.put o.dst v') w') : wpList Tryz.prog ops Q (o :: rest) a w := by
  refine wpList_plain hgd fun K hK' => ?_
  obtain ⟨v', w', hrun, r1, r2, r3⟩ := rows_append (c := c) ho hB hx hc hu hl o.type
  unfold Oper.wp
  simp only [execOp, hop, resolve, invoke, builtin, Sem.run_bind, Sem.run_pure, Result.andThen_ok, List.map_toArray, List.map_cons, List.map_nil, hs, hxv, hrun]
  exact hK' _ _ (h v' w' r1 r2 r3)
set_option maxRecDepth 100000 in
theorem step_append_rows {ops : Array Oper} {o : Oper} {a : Act} {K : Act → World → Prop} {Q : Exit → Act → World → Prop} {E : Prop} {ns : List (List Wr)} {xs : List Value} {A : Addr} {c : Nat} (hgd : o.guard = none) (s x : Operand)
    (hop : o.op = .call { callee := .builtin .append, args := #[s, x], argTypes := #[59, 59] })
    (hs : a.eval s = v) (ho : RowL w B v ls) (hB : B ≤ w.heap.size) (hxv : a.eval x = .slice (some A) ns.length c) (hx : xs.length = ns.length) (hc : ∀ j u, xs[j]? = some u → w.cell? (A.add j) = some u) (hu : ∀ (i : Nat) u l, xs[i]? = some u → ns[i]? = some l → AnyT w u l) (hl : ls.length + ns.length ≤ 100000)
    (h : ∀ v' w', RowL w' B v' (ls ++ ns) → Below B w w' → w.grownBy w' v.ownBlock → K (a.put o.dst v') w') : if Region.wanted o (yielded ops a.tmps) = true then Oper.wp Tryz.prog o a w K Q else E := by
  have hw : Region.wanted o (yielded ops a.tmps) = true := by simp [Region.wanted, hgd]
  rw [if_pos hw]
  obtain ⟨v', w', hrun, r1, r2, r3⟩ := rows_append (c := c) ho hB hx hc hu hl o.type
  unfold Oper.wp
  simp only [execOp, hop, resolve, invoke, builtin, Sem.run_bind, Sem.run_pure, Result.andThen_ok, List.map_toArray, List.map_cons, List.map_nil, hs, hxv, hrun]
  exact h v' w' r1 r2 r3
theorem row_made (w : World) (B : Nat) (hB : B ≤ w.heap.size) : RowL (w.alloc (.cells #[] 32)) B (.slice (some ⟨w.heap.size, 0, none⟩) 0 0) [] :=
  ⟨[], World.ownsRow_made (base := B) (e := 32) (size := 1) w #[] 0 hB (by simp) rfl, fun _ _ _ h => by cases h⟩
end

set_option maxRecDepth 100000 in
set_option maxHeartbeats 1600000 in
theorem clone_s (v : Value) (tabs : List (List Wr)) {S : Nat → Prop} (w : World) (h : TabsAt w S v tabs) (hl : tabs.length ≤ 1000) :
    Calls Tryz.prog 75 #[v] w (fun e w' => ∃ v', e = .returned v' ∧ RowL w' w.heap.size v' tabs ∧ Below w.heap.size w w') := by
  obtain ⟨vs, h1, h2, h3⟩ := h
  have hvl : vs.length = tabs.length := by have := h1.1; omega
  have hcl := fun g hg => World.ownsRow.cells h1 (g := g) hg
  have hal := fun (i : Nat) u l hu hl => (h3 i u l hu hl).any
  have hlt := fun g hg => (World.ownsRow.lt h1 g hg).2
  rcases h1.2 with ⟨rfl, h0⟩ | ⟨g, cap, cur, rfl, hg, hh, hn, hm, _, _⟩
  · have hbe : Hid (tabs = []) := List.length_eq_zero_iff.1 h0
    have hq := fun W => Lib.run_eql_slice_nil (P := Tryz.prog) W 59 32 none 0 0 0 0 Tryz.underlying59
    clear h1 h2 h3 hvl hcl hal hlt hl h0
    go_enter Tryz.func75, Tryz.ntmps75
    go_wp2
    go_ret
    rw [hbe.out]
    exact ⟨_, rfl, RowL.nil _ _, Below.refl _ _⟩
  · have hq := fun W => Lib.run_eql_slice_nil (P := Tryz.prog) W 59 32 (some ⟨g, 0, none⟩) tabs.length cap 0 0 Tryz.underlying59
    have hbl : Below w.heap.size w (w.alloc (.cells #[] 32)) := (Below.refl _ _).alloc (Nat.le_refl _) _
    have hca : ∀ j u, vs[j]? = some u → (w.alloc (.cells #[] 32)).cell? ((⟨g, 0, none⟩ : Addr).add j) = some u := fun j u hu => (hbl.cell (by rw [block_of_add]; exact hlt g rfl)).trans (hcl g rfl j u hu)
    have haa : ∀ (i : Nat) u l, vs[i]? = some u → tabs[i]? = some l → AnyT (w.alloc (.cells #[] 32)) u l := fun i u l hu hl => (hal i u l hu hl).below hbl
    have HCA := Lib.hid hca
    have HAA := Lib.hid haa
    have HVL := Lib.hid hvl
    clear h1 h2 h3 hcl hal hlt hca haa hbl hvl
    go_enter Tryz.func75, Tryz.ntmps75
    go_wp2_with (at_builtin; refine wp_append_rows (ls := []) (ns := tabs) (xs := vs) (B := w.heap.size) rfl _ _ rfl rfl ?ho ?hB rfl HVL.out HCA.out HAA.out (by have : ([] : List (List Wr)).length = 0 := rfl; omega) ?hK)
    case ho => exact row_made w _ (Nat.le_refl _)
    case hB => simp
    case hK =>
      intro v' w' ho hb' _
      have HO := Lib.hid ho
      have HB := Lib.hid (((Below.refl w.heap.size w).alloc (Nat.le_refl _) (.cells #[] 32)).trans hb')
      clear ho hb'
      go_wp2
      go_ret
      exact ⟨_, rfl, HO.out, HB.out⟩

end Go.Proofs.YtlchmkpnehbnlaaGreatDoor.Cd

/-
  lists: a tree's tables, and memory behind them. Conditions: none.
-/
namespace Go.Proofs.YtlchmkpnehbnlaaGreatDoor.Cd
open Go.RowKit

theorem one_cells {w : World} {r : Nat} {u : Value} (h : w.cell? ⟨r, 0, none⟩ = some u) : ∀ j x, [u][j]? = some x → w.cell? ((⟨r, 0, none⟩ : Addr).add j) = some x := fun j x hx => by
  match j with
  | 0 => rw [Addr.add_lit]; simp at hx; rw [← hx]; exact h
  | j + 1 => simp at hx
theorem one_any {w : World} {u : Value} {l : List Wr} (h : AnyT w u l) : ∀ (i : Nat) x m, [u][i]? = some x → [l][i]? = some m → AnyT w x m := fun i x m hx hm => by
  match i with
  | 0 => obtain rfl : u = x := by simpa using hx
         obtain rfl : l = m := by simpa using hm
         exact h
  | i + 1 => simp at hx

def ListsIs (_ : World) (ls : List (List Wr)) (W : World) (e : Ending) (W' : World) : Prop := ∃ v, e = .returned v ∧ RowL W' W.heap.size v ls ∧ Below W.heap.size W W'

set_option maxRecDepth 100000 in
set_option maxHeartbeats 1600000 in
theorem lists_s {w0 W : World} {S : Nat → Prop} {t l g : Nat} {vt vm : Value} {n s : List UInt8} {last cnt : Nat} {tight : Int} {tabs : List (List Wr)} {mem : List Wr} (h : TreeAt w0 W S t l g vt vm n s last cnt tight tabs mem) (hl : tabs.length ≤ 1000) :
    Calls Tryz.prog 40 #[.pointer (some ⟨t, 0, none⟩)] W (ListsIs w0 (tabs ++ [mem]) W) := by
  obtain ⟨_, _, _, c3, _, c5, _⟩ := h.cells
  obtain ⟨Av, cv, rfl, _, _⟩ := h.tabs.len
  obtain ⟨Am, cm, rfl, _, _⟩ := h.mem.1.len
  have CC := fun W' (hb : Below W.heap.size W W') => clone_s _ tabs W' (h.tabs.below hb) hl
  have CC := Lib.hid CC
  have H := Lib.hid h
  clear h
  have HBA : Hid (Below W.heap.size W (W.alloc (.cells #[.slice Am mem.length cm] 32)).drew) := ((Below.refl W.heap.size W).alloc (Nat.le_refl _) _).drew
  have HLA : Hid (W.heap.size < (W.alloc (.cells #[.slice Am mem.length cm] 32)).drew.heap.size) := by unfold Hid; simp
  have HCA : Hid ((W.alloc (.cells #[.slice Am mem.length cm] 32)).drew.cell? ⟨W.heap.size, 0, none⟩ = some (.slice Am mem.length cm)) := cell_of_row _ _ 0 _ _ _ (heap_alloc_new W _)
  have hsA : (W.alloc (.cells #[.slice Am mem.length cm] 32)).drew.cell? ⟨t, 3, none⟩ = some (.slice Av tabs.length cv) ∧ (W.alloc (.cells #[.slice Am mem.length cm] 32)).drew.cell? ⟨t, 5, none⟩ = some (.slice Am mem.length cm) := ⟨(HBA.out.cell (p := ⟨t, 3, none⟩) H.out.lt).trans c3, (HBA.out.cell (p := ⟨t, 5, none⟩) H.out.lt).trans c5⟩
  go_enter Tryz.func40, Tryz.ntmps40
  go_wp2_with fail
  go_region_held3 (fun W' => W'.cell? ⟨t, 3, none⟩ = some (.slice Av tabs.length cv) ∧ W'.cell? ⟨t, 5, none⟩ = some (.slice Am mem.length cm)) (first | exact ⟨c3, c5⟩ | assumption) (first
    | (go_at_call 75; refine (CC.out _ (Below.refl _ _).drew).mono ?_; rintro e w1 ⟨v1, rfl, ho1, hb1⟩
       have hb1w := (Below.refl W.heap.size W).drew.trans hb1
       have hs1 : w1.cell? ⟨t, 3, none⟩ = some (.slice Av tabs.length cv) ∧ w1.cell? ⟨t, 5, none⟩ = some (.slice Am mem.length cm) := ⟨(hb1w.cell (p := ⟨t, 3, none⟩) H.out.lt).trans c3, (hb1w.cell (p := ⟨t, 5, none⟩) H.out.lt).trans c5⟩
       have hb2 : Below w1.heap.size w1 (w1.alloc (.cells #[.slice Am mem.length cm] 32)) := (Below.refl _ _).alloc (Nat.le_refl _) _
       have hs2 : (w1.alloc (.cells #[.slice Am mem.length cm] 32)).cell? ⟨t, 3, none⟩ = some (.slice Av tabs.length cv) ∧ (w1.alloc (.cells #[.slice Am mem.length cm] 32)).cell? ⟨t, 5, none⟩ = some (.slice Am mem.length cm) := ⟨((hb1w.trans (hb2.mono hb1w.size)).cell (p := ⟨t, 3, none⟩) H.out.lt).trans c3, ((hb1w.trans (hb2.mono hb1w.size)).cell (p := ⟨t, 5, none⟩) H.out.lt).trans c5⟩
       obtain ⟨A1, k1, rfl, _, _⟩ := ho1.len
       have HO2 := Lib.hid ((ho1.below hb2).lower (B' := W.heap.size) (Nat.le_refl _))
       have HZ2 : Hid (W.heap.size ≤ (w1.alloc (.cells #[.slice Am mem.length cm] 32)).heap.size) := Nat.le_trans hb1.size hb2.size
       have HM2 := Lib.hid ((H.out.mem.any.below hb1w).below hb2)
       have HC2 := Lib.hid (show (w1.alloc (.cells #[.slice Am mem.length cm] 32)).cell? ⟨w1.heap.size, 0, none⟩ = some (.slice Am mem.length cm) from cell_of_row _ _ 0 _ _ _ (heap_alloc_new w1 _))
       have HB2 := Lib.hid (hb1w.trans (hb2.mono hb1w.size)); clear ho1 hb1 hb1w hb2)
    | (go_at_call 75; refine (CC.out _ HBA.out).mono ?_; rintro e w1 ⟨v1, rfl, ho1, hb1⟩
       have hb1w := HBA.out.trans (hb1.mono HBA.out.size)
       have hs1 : w1.cell? ⟨t, 3, none⟩ = some (.slice Av tabs.length cv) ∧ w1.cell? ⟨t, 5, none⟩ = some (.slice Am mem.length cm) := ⟨(hb1w.cell (p := ⟨t, 3, none⟩) H.out.lt).trans c3, (hb1w.cell (p := ⟨t, 5, none⟩) H.out.lt).trans c5⟩
       obtain ⟨A1, k1, rfl, _, _⟩ := ho1.len
       have HO2 := Lib.hid (ho1.lower (B' := W.heap.size) HBA.out.size)
       have HZ2 : Hid (W.heap.size ≤ w1.heap.size) := hb1w.size
       have HM2 := Lib.hid (H.out.mem.any.below hb1w)
       have HC2 := Lib.hid (show w1.cell? ⟨W.heap.size, 0, none⟩ = some (.slice Am mem.length cm) from (hb1.cell (p := ⟨W.heap.size, 0, none⟩) HLA.out).trans HCA.out)
       have HB2 := Lib.hid hb1w; clear ho1 hb1 hb1w)
    | (refine step_append_rows (B := W.heap.size) (ls := tabs) (ns := [mem]) (xs := [.slice Am mem.length cm]) rfl _ _ rfl rfl HO2.out HZ2.out rfl rfl (one_cells HC2.out) (one_any HM2.out) (by have : ([mem] : List (List Wr)).length = 1 := rfl; omega) ?_
       intro v3 w3 ho3 hb3 hg3
       have hb3w := HB2.out.trans (hb3.mono (Nat.le_refl _))
       have hs3 : w3.cell? ⟨t, 3, none⟩ = some (.slice Av tabs.length cv) ∧ w3.cell? ⟨t, 5, none⟩ = some (.slice Am mem.length cm) := ⟨(hb3w.cell (p := ⟨t, 3, none⟩) H.out.lt).trans c3, (hb3w.cell (p := ⟨t, 5, none⟩) H.out.lt).trans c5⟩
       have HO3 := Lib.hid ho3
       have HB3 := Lib.hid hb3w
       clear ho3 hb3 hg3 hb3w))
  all_goals go_wp2_with fail
  all_goals go_ret
  all_goals exact ⟨_, rfl, HO3.out, HB3.out⟩

end Go.Proofs.YtlchmkpnehbnlaaGreatDoor.Cd

/-
  next: the least key's youngest write of the lists' beginnings, taken off each. Conditions: none.
-/
namespace Go.Proofs.YtlchmkpnehbnlaaGreatDoor.Cd
open Go.RowKit

theorem any_rest {w : World} {A : Option Addr} {c : Nat} {l : List Wr} (h : AnyT w (.slice A l.length c) l) (n : Nat) (hn : n ≤ l.length) (C : Option Addr) (hC : c ≠ n → C = A.map fun x => x.add (n * 3)) (hC2 : c = n → C = A) :
    AnyT w (.slice C (l.length - n) (c - n)) (l.drop n) := by
  obtain ⟨⟨A', c', e, h2, h3, h4, h5⟩, h6⟩ := h
  injection e with e1 _ e3
  subst e1 e3
  have key : 0 < (l.drop n).length → ∃ b off, A = some ⟨b, off, none⟩ ∧ C = some ⟨b, off + n * 3, none⟩ ∧ b < w.heap.size ∧ ∀ (i : Nat) p, l[i]? = some p → ∀ (j : Nat) x, (wrC p)[j]? = some x → w.cell? ⟨b, off + i * 3 + j, none⟩ = some x := fun h0 => by
    rw [List.length_drop] at h0
    obtain ⟨b, off, e, hb, hc⟩ := h5 (by omega)
    have h7 := hC (by omega)
    rw [e, Option.map_some, Addr.add_lit] at h7
    exact ⟨b, off, e, h7, hb, hc⟩
  refine ⟨⟨C, c - n, by rw [List.length_drop], by rw [List.length_drop]; omega, by omega, fun hnone => ?_, fun h0 => ?_⟩, fun h0 A2 m c2 e => ?_⟩
  · by_cases hcn : c = n
    · omega
    · have h7 := hC hcn
      rw [hnone] at h7
      cases A with
      | none => have := h4 rfl; omega
      | some a => cases h7
  · obtain ⟨b, off, e1, e2, hb, hc⟩ := key h0
    refine ⟨b, off + n * 3, e2, hb, fun i p hi j x hx => ?_⟩
    rw [List.getElem?_drop] at hi
    rw [show off + n * 3 + i * 3 + j = off + (n + i) * 3 + j by omega]
    exact hc (n + i) p hi j x hx
  · obtain ⟨b, off, e1, e2, hb, hc⟩ := key h0
    injection e with e _ _
    rw [e2] at e
    injection e with e
    subst e
    rw [List.length_drop] at h0
    exact h6 (by omega) ⟨b, off, none⟩ _ _ (by rw [e1])

def RowK (wx w : World) (B : Nat) (v : Value) (ls : List (List Wr)) : Prop := ∃ vs : List Value, wx.ownsRow B 32 1 v ls.length vs ∧ ∀ (i : Nat) u l, vs[i]? = some u → ls[i]? = some l → AnyT w u l
section
variable {wx w w' : World} {B : Nat} {v : Value} {ls : List (List Wr)}
theorem RowK.at {A : Option Addr} {m c : Nat} (h : RowK wx w B (.slice A m c) ls) {i : Nat} {l : List Wr} (hl : ls[i]? = some l) : ∃ r u, A = some ⟨r, 0, none⟩ ∧ r < wx.heap.size ∧ wx.cell? ⟨r, i, none⟩ = some u ∧ wx.frozen? ⟨r, i, none⟩ = false ∧ AnyT w u l := by
  obtain ⟨vs, h1, h3⟩ := h
  have hlt := fun r hr => World.ownsRow.lt h1 r hr
  have hi := (List.getElem?_eq_some_iff.1 hl).1
  have hvl : vs.length = ls.length := by have := h1.1; omega
  obtain ⟨u, hvi⟩ : ∃ u, vs[i]? = some u := ⟨vs[i], List.getElem?_eq_getElem (by omega)⟩
  rcases h1.2 with ⟨e, h⟩ | ⟨g, cap, cur, e, hg, hh, h4, h5, h6, h7⟩
  · omega
  · injection e with e1 _ _
    subst e1
    refine ⟨g, u, rfl, (hlt g rfl).2, ?_, ?_, h3 i u l hvi hl⟩
    · rw [cell_of_row _ _ _ _ _ _ hh]
      rw [← h7, List.getElem?_take, if_pos (by omega)] at hvi
      simpa using hvi
    · unfold World.frozen?
      simp only [hh]
      rfl
theorem RowK.same (h : RowK wx w B v ls) (hb : ∀ g, v.ownBlock = some g → w'.heap[g]? = wx.heap[g]?) : RowK w' w B v ls := by
  obtain ⟨vs, h1, h2⟩ := h
  refine ⟨vs, ⟨h1.1, ?_⟩, h2⟩
  rcases h1.2 with h4 | ⟨g, cap, cur, rfl, hg, hh, r⟩
  · exact .inl h4
  · exact .inr ⟨g, cap, cur, rfl, hg, (hb g rfl).trans hh, r⟩
theorem RowK.set {g n c i : Nat} {u : Value} {l : List Wr} (h : RowK wx w B (.slice (some ⟨g, 0, none⟩) n c) ls) (hu : AnyT w u l) : RowK (wx.setCell ⟨g, i, none⟩ u) w B (.slice (some ⟨g, 0, none⟩) n c) (ls.set i l) := by
  obtain ⟨vs, h1, h2⟩ := h
  have hvl : vs.length = ls.length := by have := h1.1; omega
  have hle : n = ls.length := by
    rcases h1.2 with ⟨e, _⟩ | ⟨_, _, _, e, _⟩
    · cases e
    · injection e with _ e _
  subst hle
  refine ⟨vs.set i u, by rw [List.length_set]; exact (World.ownsRow.stored h1 i u).1, fun j x m hx hm => ?_⟩
  rw [List.getElem?_set] at hx hm
  by_cases hij : i = j
  · rw [if_pos hij] at hx hm
    split at hx
    · rw [if_pos (by omega)] at hm
      injection hx with hx; injection hm with hm
      subst hx hm
      exact hu
    · cases hx
  · rw [if_neg hij] at hx hm
    exact h2 j x m hx hm
theorem RowK.now (h : RowK wx w B v ls) (ha : Apart (fun k => v.ownBlock = some k) w wx) (hn : ∀ r, v.ownBlock = some r → NotW w r) : RowL wx B v ls := by
  obtain ⟨vs, h1, h2⟩ := h
  exact ⟨vs, h1, fun i u l hu hl => (h2 i u l hu hl).go ha (fun k _ hk => .inr (hn k hk)) (fun _ _ h => h)⟩
end

def nbox (o : Option Wr) : Obj := .cells #[.string ⟨(o.getD ⟨[], [], false⟩).1.toArray⟩, .string ⟨(o.getD ⟨[], [], false⟩).2.1.toArray⟩, .bool (o.getD ⟨[], [], false⟩).2.2] 52 (0, 0)
def dropO (o : Option Wr) (l : List Wr) : List Wr := match o with
  | none => l
  | some x => dropK x.1 l
structure NextBox (w : World) (B : Nat) (b : Option Wr) (wr : World) : Prop where
  low : Below w.heap.size w wr
  eq : B = w.heap.size
  size : B + 2 ≤ wr.heap.size
  res : wr.heap[B]? = some (nbox none)
  box : wr.heap[B + 1]? = some (nbox b)
theorem NextBox.below {w wr w' : World} {B : Nat} {b : Option Wr} (h : NextBox w B b wr) (hb : Below wr.heap.size wr w') : NextBox w B b w' :=
  ⟨h.low.trans (hb.mono h.low.size), h.eq, Nat.le_trans h.size hb.size, (hb.block _ (by have := h.size; omega)).trans h.res, (hb.block _ (by have := h.size; omega)).trans h.box⟩
theorem NextBox.put {w wr : World} {B : Nat} {b : Option Wr} (h : NextBox w B b wr) (x : Wr) :
    NextBox w B (some x) (((wr.setCell ⟨B + 1, 0, none⟩ (.string ⟨x.1.toArray⟩)).setCell ⟨B + 1, 1, none⟩ (.string ⟨x.2.1.toArray⟩)).setCell ⟨B + 1, 2, none⟩ (.bool x.2.2)) := by
  refine ⟨⟨h.low.os, h.low.tape, h.low.output, by simp only [World.size_setCell]; exact h.low.size, fun k hk => ?_⟩, h.eq, by simp only [World.size_setCell]; exact h.size, ?_, ?_⟩
  · rw [heap_setCell_other _ _ _ _ (by show k ≠ B + 1; have := h.eq; omega), heap_setCell_other _ _ _ _ (by show k ≠ B + 1; have := h.eq; omega), heap_setCell_other _ _ _ _ (by show k ≠ B + 1; have := h.eq; omega)]
    exact h.low.block k hk
  · rw [heap_setCell_other _ _ _ _ (by show B ≠ B + 1; omega), heap_setCell_other _ _ _ _ (by show B ≠ B + 1; omega), heap_setCell_other _ _ _ _ (by show B ≠ B + 1; omega)]
    exact h.res
  · have hb := h.box
    unfold nbox at hb
    exact wr_row hb

theorem box_facts {W : World} {G : Nat} {p q s : Value} {T : TypeId} (h : W.heap[G]? = some (.cells #[p, q, s] T (0, 0))) :
    W.cell? ⟨G, 0, none⟩ = some p ∧ W.frozen? ⟨G, 0, none⟩ = false ∧ (∀ x, (W.setCell ⟨G, 0, none⟩ x).cell? ⟨G, 1, none⟩ = some q ∧ (W.setCell ⟨G, 0, none⟩ x).frozen? ⟨G, 1, none⟩ = false) ∧
      ∀ x y, ((W.setCell ⟨G, 0, none⟩ x).setCell ⟨G, 1, none⟩ y).cell? ⟨G, 2, none⟩ = some s ∧ ((W.setCell ⟨G, 0, none⟩ x).setCell ⟨G, 1, none⟩ y).frozen? ⟨G, 2, none⟩ = false := by
  have h1 : ∀ x, (W.setCell ⟨G, 0, none⟩ x).heap[G]? = some (.cells #[x, q, s] T (0, 0)) := fun x => by simp [World.setCell, Array.getElem?_modify, h]
  have h2 : ∀ x y, ((W.setCell ⟨G, 0, none⟩ x).setCell ⟨G, 1, none⟩ y).heap[G]? = some (.cells #[x, y, s] T (0, 0)) := fun x y => by simp [World.setCell, Array.getElem?_modify, h]
  exact ⟨cell_of_row _ _ 0 _ _ _ h, by simp only [World.frozen?, h]; rfl, fun x => ⟨cell_of_row _ _ 1 _ _ _ (h1 x), by simp only [World.frozen?, h1 x]; rfl⟩, fun x y => ⟨cell_of_row _ _ 2 _ _ _ (h2 x y), by simp only [World.frozen?, h2 x y]; rfl⟩⟩

structure SecQ (w : World) (B : Nat) (A : Option Addr) (c : Nat) (ls : List (List Wr)) (o : Option Wr) (m : Nat) (wx : World) : Prop where
  row : RowK wx w B (.slice A ls.length c) ((ls.take m).map (dropO o) ++ ls.drop m)
  low : Apart (fun q => (Value.slice A ls.length c).ownBlock = some q) w wx
  size : w.heap.size + 2 ≤ wx.heap.size
  res : wx.heap[w.heap.size]? = some (nbox none)
  box : wx.heap[w.heap.size + 1]? = some (nbox o)
section
variable {w wx w' : World} {B c m : Nat} {A : Option Addr} {ls : List (List Wr)} {o : Option Wr} {l : List Wr}
theorem sec_take (hl : ls[m]? = some l) : (ls.take (m + 1)).map (dropO o) ++ ls.drop (m + 1) = ((ls.take m).map (dropO o) ++ ls.drop m).set m (dropO o l) := by
  obtain ⟨hm, rfl⟩ := List.getElem?_eq_some_iff.1 hl
  have hz : ((ls.take m).map (dropO o)).length = m := by rw [List.length_map, List.length_take]; omega
  rw [List.take_succ_eq_append_getElem hm, List.map_append, List.set_append_right _ _ (by omega), hz, Nat.sub_self, List.drop_eq_getElem_cons hm, List.append_assoc]
  rfl
theorem sec_at (hl : ls[m]? = some l) : ((ls.take m).map (dropO o) ++ ls.drop m)[m]? = some l := by
  obtain ⟨hm, rfl⟩ := List.getElem?_eq_some_iff.1 hl
  have hz : ((ls.take m).map (dropO o)).length = m := by rw [List.length_map, List.length_take]; omega
  rw [List.getElem?_append_right (by omega), hz, Nat.sub_self, List.drop_eq_getElem_cons hm]
  rfl
theorem SecQ.below (h : SecQ w B A c ls o m wx) (hb : Below wx.heap.size wx w') : SecQ w B A c ls o m w' :=
  ⟨h.row.same fun g hg => hb.block g (by obtain ⟨vs, h1, _⟩ := h.row; exact (World.ownsRow.lt h1 g hg).2), h.low.trans (Apart.below hb), Nat.le_trans h.size hb.size, (hb.block _ (by have := h.size; omega)).trans h.res, (hb.block _ (by have := h.size; omega)).trans h.box⟩
theorem SecQ.skip (h : SecQ w B A c ls o m wx) (hl : ls[m]? = some l) (hs : dropO o l = l) : SecQ w B A c ls o (m + 1) wx := by
  refine ⟨?_, h.low, h.size, h.res, h.box⟩
  have hr := h.row
  rw [sec_take hl, hs]
  have e : ((ls.take m).map (dropO o) ++ ls.drop m).set m l = (ls.take m).map (dropO o) ++ ls.drop m := by
    have := sec_at (o := o) hl
    obtain ⟨hm, e⟩ := List.getElem?_eq_some_iff.1 this
    conv => lhs; rw [← e]
    exact List.set_getElem_self hm
  rw [e]
  exact hr
theorem SecQ.step {r : Nat} {u : Value} (h : SecQ w B (some ⟨r, 0, none⟩) c ls o m wx) (hr : r < w.heap.size) (hl : ls[m]? = some l) (hu : AnyT w u (dropO o l)) : SecQ w B (some ⟨r, 0, none⟩) c ls o (m + 1) (wx.setCell ⟨r, m, none⟩ u) := by
  refine ⟨?_, h.low.trans ((apart_set wx r m u).mono fun q hq => by have e : q = r := hq; subst e; exact .inl rfl), by rw [World.size_setCell]; exact h.size, ?_, ?_⟩
  · rw [sec_take hl]
    exact h.row.set hu
  · rw [heap_setCell_other _ _ _ _ (by show w.heap.size ≠ r; omega)]; exact h.res
  · rw [heap_setCell_other _ _ _ _ (by show w.heap.size + 1 ≠ r; omega)]; exact h.box
end

def NextIs (w : World) (B : Nat) (v : Value) (ls : List (List Wr)) (o : Option Wr) (e : Ending) (w' : World) : Prop :=
  e = .returned (.tuple #[.agg #[.string ⟨(o.getD ⟨[], [], false⟩).1.toArray⟩, .string ⟨(o.getD ⟨[], [], false⟩).2.1.toArray⟩, .bool (o.getD ⟨[], [], false⟩).2.2], .bool o.isSome]) ∧ RowL w' B v (ls.map (dropO o)) ∧ Apart (fun k => v.ownBlock = some k) w w'

set_option maxRecDepth 100000 in
set_option maxHeartbeats 3200000 in
theorem next_s (v : Value) (ls : List (List Wr)) (w : World) (B : Nat) (h : RowL w B v ls) (hl : ls.length ≤ 1001) :
    Calls Tryz.prog 42 #[v] w (NextIs w B v ls (leastW none ls)) := by
  obtain ⟨A, c, rfl, hc1, hc2⟩ := h.len
  obtain ⟨w2, hw2⟩ : ∃ x, (w.alloc (.cells #[.string ⟨#[]⟩, .string ⟨#[]⟩, .bool false] 52)).alloc (.cells #[.string ⟨#[]⟩, .string ⟨#[]⟩, .bool false] 52) = x := ⟨_, rfl⟩
  have hbx : NextBox w w.heap.size none w2 := by
    subst hw2
    refine ⟨((Below.refl _ _).alloc (Nat.le_refl _) _).alloc (by simp) _, rfl, by simp, ?_, ?_⟩
    · rw [heap_alloc_old _ _ (by simp)]; exact heap_alloc_new _ _
    · have := heap_alloc_new (w.alloc (.cells #[.string ⟨#[]⟩, .string ⟨#[]⟩, .bool false] 52)) (.cells #[.string ⟨#[]⟩, .string ⟨#[]⟩, .bool false] 52)
      rwa [World.size_alloc] at this
  have H := Lib.hid h
  have HBX := Lib.hid hbx
  obtain ⟨o, ho⟩ : ∃ o, leastW none ls = o := ⟨_, rfl⟩
  rw [ho]
  have HO := Lib.hid ho
  clear h hbx ho
  go_enter Tryz.func42, Tryz.ntmps42
  go_wp2_with fail
  go_loopw [5, 12] (fun f i wr => ∃ (k : Nat) (b : Option Wr) (fb : Bool), f = .bool fb ∧ Hid (b.isSome = fb) ∧ i = .int .i64 k ∧ k ≤ ls.length ∧ Hid (leastW b (ls.drop k) = o) ∧ Hid (NextBox w w.heap.size b wr)) (fun _ i _ => ls.length - (intOf i).toNat)
  case atStart => exact ⟨0, none, false, rfl, rfl, rfl, by omega, HO.out, HBX.out⟩
  case round =>
    obtain ⟨k, b, fb, rfl, hfb, rfl, hk, hlw, hbx⟩ := hrel
    by_cases hlt : k < ls.length
    · obtain ⟨l, hlk⟩ : ∃ l, ls[k]? = some l := ⟨ls[k], List.getElem?_eq_getElem hlt⟩
      have hdr : ls.drop k = l :: ls.drop (k + 1) := by
        rw [← (List.getElem?_eq_some_iff.1 hlk).2]
        exact List.drop_eq_getElem_cons hlt
      have hlw := hlw.out
      rw [hdr] at hlw
      obtain ⟨r, u, e, hB, hr, hcell, hfr, hu⟩ := (H.out.below hbx.out.low).at hlk
      subst e
      obtain ⟨Au, cu, rfl, hu1, hu2⟩ := hu.1.len
      clear hdr hlk hfr
      cases l with
      | nil =>
        have HLW := Lib.hid (show leastW b (ls.drop (k + 1)) = o from hlw)
        have hcell : wr.cell? ⟨r, k, none⟩ = some (.slice Au 0 cu) := hcell
        clear hlw hu hu1
        go_wp2_with fail
        go_quiet (fail)
        all_goals go_wp2_with fail
        go_roundw
        case rel => exact ⟨k + 1, b, fb, rfl, hfb, by go_num, by omega, HLW.out, hbx.out.below ⟨rfl, rfl, rfl, Nat.le_refl _, fun _ _ => rfl⟩⟩
        case measure => simp [intOf]; omega
      | cons x rest =>
        obtain ⟨b2, off2, e2, hB2, d0, d1, d2⟩ := hu.1.at (k := 0) rfl
        subst e2
        rw [Nat.zero_mul, Nat.add_zero] at d0 d1 d2
        have hn1 : (0 : Int) < (((x :: rest).length : Nat) : Int) := by simp only [List.length_cons]; omega
        obtain ⟨n1, hn⟩ : ∃ n, (x :: rest).length = n := ⟨_, rfl⟩
        rw [hn] at hcell hn1
        have HN := Lib.hid hn
        have k4 : decide (0 < n1) = true := decide_eq_true (by omega)
        have k5 : decide ((0 : Int) < (n1 : Int)) = true := decide_eq_true hn1
        have hro := hbx.out.box
        unfold nbox at hro
        clear hn hu hu1 hu2
        cases b with
        | none =>
          obtain rfl : false = fb := hfb.out
          clear hfb
          go_wp2_with fail
          go_quiet (fail)
          have hb2 : NextBox w w.heap.size none (wr.drewN nq) := hbx.out.below ⟨rfl, rfl, rfl, Nat.le_refl _, fun _ _ => rfl⟩
          obtain ⟨z0, f0, z1, z2⟩ := box_facts hro
          obtain ⟨y0, g0, y1, y2⟩ := box_facts (W := wr.drewN nq) hro
          have HB3 := Lib.hid (hb2.put x)
          have HLW : Hid (leastW (some x) (ls.drop (k + 1)) = o) := hlw
          clear hb2 hlw
          go_wp2_with fail
          go_roundw
          case rel => exact ⟨k + 1, some x, true, rfl, rfl, by go_num, by omega, HLW.out, HB3.out⟩
          case measure => simp [intOf]; omega
        | some y =>
          obtain rfl : true = fb := hfb.out
          clear hfb
          have hy0 : wr.cell? ⟨w.heap.size + 1, 0, none⟩ = some (.string ⟨y.1.toArray⟩) := cell_of_row _ _ 0 _ _ _ hro
          by_cases hle : y.1 < x.1
          · have hq1 : Op.bytesLess x.1 y.1 = false := by rw [bytesLess_eq]; exact decide_eq_false (fun h => less_irrefl _ (less_trans h hle))
            have hq2 : (x.1 == y.1) = false := by rw [beq_eq_false_iff_ne]; exact fun e => less_irrefl _ (e ▸ hle)
            have HLW : Hid (leastW (some y) (ls.drop (k + 1)) = o) := by
              have e : (if (some y).all (fun y => decide (¬ y.1 < x.1)) then some x else some y) = some y := by
                show (if decide (¬ y.1 < x.1) = true then some x else some y) = some y
                rw [if_neg (by rw [decide_eq_true_iff]; exact fun h => h hle)]
              unfold Hid; rw [← hlw]; show _ = leastW (if (some y).all (fun y => decide (¬ y.1 < x.1)) then some x else some y) _; rw [e]
            clear hlw hle
            go_wp2_with fail
            go_quiet (fail)
            go_wp2_with fail
            go_roundw
            case rel => exact ⟨k + 1, some y, true, rfl, rfl, by go_num, by omega, HLW.out, hbx.out.below ⟨rfl, rfl, rfl, Nat.le_refl _, fun _ _ => rfl⟩⟩
            case measure => simp [intOf]; omega
          have HLW : Hid (leastW (some x) (ls.drop (k + 1)) = o) := by
            have e : (if (some y).all (fun y => decide (¬ y.1 < x.1)) then some x else some y) = some x := by
              show (if decide (¬ y.1 < x.1) = true then some x else some y) = some x
              rw [if_pos (by rw [decide_eq_true_iff]; exact hle)]
            unfold Hid; rw [← hlw]; show _ = leastW (if (some y).all (fun y => decide (¬ y.1 < x.1)) then some x else some y) _; rw [e]
          by_cases heq : x.1 = y.1
          · have hq1 : Op.bytesLess x.1 y.1 = false := by rw [bytesLess_eq, heq]; exact decide_eq_false (less_irrefl _)
            have hq2 : (x.1 == y.1) = true := by rw [heq]; exact beq_self_eq_true _
            clear hlw hle heq
            go_wp2_with fail
            go_quiet (fail)
            have hb2 : NextBox w w.heap.size (some y) (wr.drewN nq) := hbx.out.below ⟨rfl, rfl, rfl, Nat.le_refl _, fun _ _ => rfl⟩
            obtain ⟨z0, f0, z1, z2⟩ := box_facts hro
            obtain ⟨y0, g0, y1, y2⟩ := box_facts (W := wr.drewN nq) hro
            have HB3 := Lib.hid (hb2.put x)
            clear hb2
            go_wp2_with fail
            go_roundw
            case rel => exact ⟨k + 1, some x, true, rfl, rfl, by go_num, by omega, HLW.out, HB3.out⟩
            case measure => simp [intOf]; omega
          · have hq1 : Op.bytesLess x.1 y.1 = true := by rw [bytesLess_eq]; exact decide_eq_true (Decidable.byContradiction fun h => heq (less_tri h hle))
            clear hlw hle heq
            go_wp2_with fail
            go_quiet (fail)
            have hb2 : NextBox w w.heap.size (some y) (wr.drewN nq) := hbx.out.below ⟨rfl, rfl, rfl, Nat.le_refl _, fun _ _ => rfl⟩
            obtain ⟨z0, f0, z1, z2⟩ := box_facts hro
            obtain ⟨y0, g0, y1, y2⟩ := box_facts (W := wr.drewN nq) hro
            have HB3 := Lib.hid (hb2.put x)
            clear hb2
            go_wp2_with fail
            go_roundw
            case rel => exact ⟨k + 1, some x, true, rfl, rfl, by go_num, by omega, HLW.out, HB3.out⟩
            case measure => simp [intOf]; omega
    · obtain rfl : b = o := by
        have h1 := hlw.out
        rw [List.drop_eq_nil_of_le (by omega)] at h1
        exact h1
      have hs0 : SecQ w B A c ls b 0 wr := ⟨by show RowK wr w B _ ([] ++ ls); exact RowK.same (wx := w) H.out (fun g hg => hbx.out.low.block g (H.out.lt hg).2.1), Apart.below (hbx.out.low), hbx.out.size, hbx.out.res, hbx.out.box⟩
      have HS0 := Lib.hid hs0
      clear hs0 hbx hlw
      go_wp2_with fail
      go_loopw [38] (fun i wx => ∃ m : Nat, i = .int .i64 m ∧ m ≤ ls.length ∧ Hid (SecQ w B A c ls b m wx)) (fun i _ => ls.length - (intOf i).toNat)
      case atStart => exact ⟨0, rfl, by omega, HS0.out⟩
      case round =>
        obtain ⟨m, rfl, hm, hs⟩ := hrel
        by_cases hlt2 : m < ls.length
        · obtain ⟨l, hlk⟩ : ∃ l, ls[m]? = some l := ⟨ls[m], List.getElem?_eq_getElem hlt2⟩
          obtain ⟨r, u, e, hr, hcell, hfr, hu0⟩ := hs.out.row.at (sec_at (o := b) hlk)
          subst e
          have hrw := (H.out.lt (r := r) rfl).2.1
          have HU0 := Lib.hid hu0
          have hu : AnyT wr u l := hu0.go hs.out.low (fun k _ hk => .inr (H.out.notW hk)) (fun _ _ h => h)
          clear hu0
          obtain ⟨Au, cu, rfl, hu1, hu2⟩ := hu.1.len
          have HLK := Lib.hid hlk
          clear hlk
          cases b with
          | none =>
            obtain rfl : false = fb := hfb.out
            clear hfb
            have HN := Lib.hid (hs.out.skip HLK.out rfl)
            obtain ⟨n1, hn⟩ : ∃ n, l.length = n := ⟨_, rfl⟩
            rw [hn] at hcell
            clear hn hu hu1 hu2 hs
            go_wp2_with fail
            go_quiet (fail)
            go_wp2_with fail
            go_roundw
            case rel => exact ⟨m + 1, by go_num, by omega, HN.out.below ⟨rfl, rfl, rfl, Nat.le_refl _, fun _ _ => rfl⟩⟩
            case measure => simp [intOf]; omega
          | some x =>
            obtain rfl : true = fb := hfb.out
            clear hfb
            cases l with
            | nil =>
              have HN := Lib.hid (hs.out.skip HLK.out rfl)
              have hcell : wr.cell? ⟨r, m, none⟩ = some (.slice Au 0 cu) := hcell
              clear hu hu1 hu2 hs
              go_wp2_with fail
              go_quiet (fail)
              go_wp2_with fail
              go_roundw
              case rel => exact ⟨m + 1, by go_num, by omega, HN.out.below ⟨rfl, rfl, rfl, Nat.le_refl _, fun _ _ => rfl⟩⟩
              case measure => simp [intOf]; omega
            | cons y rest =>
              obtain ⟨b2, off2, e2, hB2, d0, _, _⟩ := hu.1.at (k := 0) rfl
              subst e2
              rw [Nat.zero_mul, Nat.add_zero] at d0
              have hn1 : (0 : Int) < (((y :: rest).length : Nat) : Int) := by simp only [List.length_cons]; omega
              have hlen : (y :: rest).length = rest.length + 1 := rfl
              obtain ⟨n1, hn⟩ : ∃ n, (y :: rest).length = n := ⟨_, rfl⟩
              rw [hn] at hcell hn1 hu1 hlen
              have HN := Lib.hid hn
              have HLN := Lib.hid hlen
              have k4 : decide (0 < n1) = true := decide_eq_true (by omega)
              have k5 : decide ((0 : Int) < (n1 : Int)) = true := decide_eq_true hn1
              have hro := hs.out.box
              unfold nbox at hro
              have hx0 : wr.cell? ⟨w.heap.size + 1, 0, none⟩ = some (.string ⟨x.1.toArray⟩) := cell_of_row _ _ 0 _ _ _ hro
              clear hn hu hlen hro
              by_cases hkey : y.1 = x.1
              · have hq : (y.1 == x.1) = true := by rw [hkey]; exact beq_self_eq_true _
                have hdk : dropO (some x) (y :: rest) = (y :: rest).drop 1 := by show (if y.1 = x.1 then rest else y :: rest) = rest; rw [if_pos hkey]
                have HDK := Lib.hid hdk
                have HS := Lib.hid hs.out
                clear hkey hdk hs
                by_cases hc1 : cu = 1
                · go_wp2_with fail
                  go_quiet (fail)
                  go_wp2_with fail
                  go_roundw
                  case rel =>
                    have hr1 := any_rest HU0.out 1 (by rw [HN.out, HLN.out]; omega) (some ⟨b2, off2, none⟩) (fun h => absurd hc1 h) (fun h => rfl)
                    rw [← HDK.out, HN.out, hc1] at hr1
                    exact ⟨m + 1, by go_num, by omega, (HS.out.below (w' := wr.drewN nq) ⟨rfl, rfl, rfl, Nat.le_refl _, fun _ _ => rfl⟩).step hrw HLK.out hr1⟩
                  case measure => simp [intOf]; omega
                · go_wp2_with fail
                  go_quiet (fail)
                  go_wp2_with fail
                  go_roundw
                  case rel =>
                    have hr1 := any_rest HU0.out 1 (by rw [HN.out, HLN.out]; omega) (some ⟨b2, off2 + 3, none⟩) (fun h => rfl) (fun h => absurd h hc1)
                    rw [← HDK.out, HN.out] at hr1
                    exact ⟨m + 1, by go_num, by omega, (HS.out.below (w' := wr.drewN nq) ⟨rfl, rfl, rfl, Nat.le_refl _, fun _ _ => rfl⟩).step hrw HLK.out hr1⟩
                  case measure => simp [intOf]; omega
              · have hq : (y.1 == x.1) = false := by rw [beq_eq_false_iff_ne]; exact hkey
                have HN2 := Lib.hid (hs.out.skip HLK.out (by show (if y.1 = x.1 then rest else y :: rest) = y :: rest; rw [if_neg hkey]))
                clear hkey hs
                go_wp2_with fail
                go_quiet (fail)
                go_wp2_with fail
                go_roundw
                case rel => exact ⟨m + 1, by go_num, by omega, HN2.out.below ⟨rfl, rfl, rfl, Nat.le_refl _, fun _ _ => rfl⟩⟩
                case measure => simp [intOf]; omega
        · obtain rfl : m = ls.length := by omega
          have hs1 := hs.out
          have hro := hs1.row
          rw [List.take_of_length_le (Nat.le_refl _), List.drop_eq_nil_of_le (Nat.le_refl _), List.append_nil] at hro
          have HRO := Lib.hid hro
          obtain ⟨x0, hx0⟩ : ∃ x0 : Wr, b.getD ⟨[], [], false⟩ = x0 := ⟨_, rfl⟩
          have hbox := hs1.box
          have hres := hs1.res
          unfold nbox at hbox hres
          rw [hx0] at hbox
          have c0 := cell_of_row _ _ 0 _ _ _ hbox
          have c1 := cell_of_row _ _ 1 _ _ _ hbox
          have c2 := cell_of_row _ _ 2 _ _ _ hbox
          obtain ⟨z0, f0, z1, z2⟩ := box_facts hres
          have HRES := Lib.hid hres
          have HX0 := Lib.hid hx0
          have HS1 := Lib.hid hs1
          clear hro hbox hres hx0 hs1 hs
          go_wp2_with fail
          refine bodyPost_ret (results_wr rfl _ _ w.heap.size _ _ _ _ _ rfl rfl (wr_row HRES.out)) rfl ?_
          have hot : ∀ k, k < w.heap.size → (((wr.setCell ⟨w.heap.size, 0, none⟩ (.string ⟨x0.1.toArray⟩)).setCell ⟨w.heap.size, 1, none⟩ (.string ⟨x0.2.1.toArray⟩)).setCell ⟨w.heap.size, 2, none⟩ (.bool x0.2.2)).heap[k]? = wr.heap[k]? := fun k hk => by
            rw [heap_setCell_other _ _ _ _ (by show k ≠ w.heap.size; omega), heap_setCell_other _ _ _ _ (by show k ≠ w.heap.size; omega), heap_setCell_other _ _ _ _ (by show k ≠ w.heap.size; omega)]
          have ha : Apart (fun q => (Value.slice A ls.length c).ownBlock = some q) w (((wr.setCell ⟨w.heap.size, 0, none⟩ (.string ⟨x0.1.toArray⟩)).setCell ⟨w.heap.size, 1, none⟩ (.string ⟨x0.2.1.toArray⟩)).setCell ⟨w.heap.size, 2, none⟩ (.bool x0.2.2)) :=
            ⟨HS1.out.low.os, HS1.out.low.tape, HS1.out.low.output, by simp only [World.size_setCell]; exact HS1.out.low.size, fun k hk hn => (hot k hk).trans (HS1.out.low.block k hk hn)⟩
          exact ⟨by rw [HX0.out, hfb.out]; rfl, (HRO.out.same fun g hg => hot g (H.out.lt hg).2.1).now ha (fun r hr => H.out.notW hr), ha⟩

end Go.Proofs.YtlchmkpnehbnlaaGreatDoor.Cd

/-
  read: a file's table joins the tree's. Conditions: the power is on; the file isn't there, or tells a table.
-/
namespace Go.Proofs.YtlchmkpnehbnlaaGreatDoor.Cd
open Go.RowKit

theorem read_no {w0 W : World} {S : Nat → Prop} {t l g N : Nat} {vt vm : Value} {n s : List UInt8} {last cnt : Nat} {tight : Int} {tabs : List (List Wr)} {mem : List Wr} (f : List UInt8) (D : Dsk) (h : TreeAt w0 W S t l g vt vm n s last cnt tight tabs mem) (hd : DkS W g N S D) (ho : D.off = false)
    (hf : (getF D.now f).isSome = false) (hl : f.length ≤ 1000) :
    Calls Tryz.prog 53 #[.pointer (some ⟨t, 0, none⟩), .string ⟨f.toArray⟩] W (Gives (.int .i64 5) W) := by
  obtain ⟨c0, _⟩ := h.cells
  have CH := has_dks g N S D f W hd ho (by omega)
  rw [hf] at CH
  have CH := Lib.hid CH
  clear h hd
  go_enter Tryz.func53, Tryz.ntmps53
  go_wp2_with fail
  refine CH.out.mono ?_
  rintro e w1 ⟨rfl, h1⟩
  obtain rfl := h1.symm
  clear h1
  go_wp2_with fail
  go_ret
  exact ⟨rfl, Below.refl _ _⟩

def ReadTo (w0 : World) (S : Nat → Prop) (t l g N : Nat) (vt vm : Value) (n s : List UInt8) (last cnt : Nat) (tight : Int) (tabs : List (List Wr)) (mem : List Wr) (D : Dsk) (W : World) (e : Ending) (W' : World) : Prop :=
  e = .returned (.int .i64 0) ∧ ∃ vt', TreeAt w0 W' S t l g vt' vm n s last cnt tight tabs mem ∧ DkS W' g N S D ∧ Apart (fun k => k = t ∨ vt.ownBlock = some k) W W' ∧ (vt'.ownBlock = vt.ownBlock ∨ ∀ r, vt'.ownBlock = some r → W.heap.size ≤ r)

set_option maxRecDepth 100000 in
set_option maxHeartbeats 3200000 in
theorem read_yes {w0 W : World} {S : Nat → Prop} {t l g N : Nat} {vt vm : Value} {n s : List UInt8} {last cnt : Nat} {tight : Int} {tabs : List (List Wr)} {mem T : List Wr} (f : List UInt8) (D : Dsk) (h : TreeAt w0 W S t l g vt vm n s last cnt tight tabs mem) (hd : DkS W g N S D) (ho : D.off = false)
    (hf : getF D.now f = some ⟨f, pagesB (bytesW T)⟩) (hl : f.length ≤ 1000) (hT : GoodT T) (hs : sumB T ≤ 300000) (hS : ∀ k, S k → k < W.heap.size) (hl2 : tabs.length ≤ 1000) :
    Calls Tryz.prog 53 #[.pointer (some ⟨t, 0, none⟩), .string ⟨f.toArray⟩] W (ReadTo w0 S t l g N vt vm n s last cnt tight (tabs ++ [T]) mem D W) := by
  obtain ⟨c0, _, _, c3, _⟩ := h.cells
  obtain ⟨Av, cv, rfl, _, _⟩ := h.tabs.len
  have hp : pagesF D.now f = pagesB (bytesW T) := by unfold pagesF; rw [hf]
  have hbl := bytesW_len hT.lim (by omega)
  have hpl : (pagesF D.now f).length = pagesOf (bytesW T).length := by rw [hp, pagesB_len]
  have hpo : 0 < pagesOf (bytesW T).length ∧ pagesOf (bytesW T).length ≤ 2000 := by have h1 := hbl.1; have h2 := hbl.2; unfold pagesOf; constructor <;> omega
  have CH := has_dks g N S D f W hd ho (by omega)
  rw [hf] at CH
  have CH : Calls Tryz.prog 94 #[.pointer (some ⟨g, 0, none⟩), .string ⟨f.toArray⟩] W (fun e w' => e = .returned (.bool true) ∧ w' = W) := CH
  replace CH := Lib.hid CH
  have CL := tload_some g N f S D W hd ho (by omega) (by rw [hpl]; exact hpo.1) (by rw [hpl]; exact hpo.2)
  rw [hp, pagesB_flat] at CL
  replace CL := Lib.hid CL
  have hTl : T.length ≤ 300000 := by unfold sumB at hs; omega
  have huq : ∀ U, IsB (bytesW T ++ List.replicate (512 * pagesOf (bytesW T).length - (bytesW T).length) 0) U → U = T := fun U hU => by
    have hb1 : (frm (recW T)).length = (bytesW T).length := rfl
    exact isT_uniq ((isB_of (by rw [hb1]; unfold pagesOf; omega)).1 hU) (isT_self hT.self (by omega) hT.lim)
  have hb1 : (frm (recW T)).length = (bytesW T).length := rfl
  have hself : IsB (bytesW T ++ List.replicate (512 * pagesOf (bytesW T).length - (bytesW T).length) 0) T := (isB_of (by rw [hb1]; unfold pagesOf; omega)).2 (isT_self hT.self (by omega) hT.lim)
  obtain ⟨bb, hbb⟩ : ∃ b, bytesW T ++ List.replicate (512 * pagesOf (bytesW T).length - (bytesW T).length) 0 = b := ⟨_, rfl⟩
  rw [hbb] at CL huq hself
  have HUQ := Lib.hid huq
  have HSELF := Lib.hid hself
  have H := Lib.hid h
  have HD := Lib.hid hd
  have HS := Lib.hid hS
  clear h hd hf hp hbl hpl hpo huq hself hbb hS hT hs hb1
  go_enter Tryz.func53, Tryz.ntmps53
  go_wp2_with fail
  refine CH.out.mono ?_
  rintro e w1 ⟨rfl, h1⟩
  obtain rfl := h1.symm
  clear h1 CH
  go_wp2_with fail
  refine CL.out.mono ?_
  rintro e w2 ⟨v2, m2, rfl, hb2, hor⟩
  rcases hor with ⟨rfl, U, q, rfl, hU, htv⟩ | ⟨_, _, hno⟩
  · obtain rfl := HUQ.out U hU
    have h2 := H.out.below hb2
    obtain ⟨c0, _, _, c3, _⟩ := h2.cells
    have f3 := h2.frozen 3
    have CA := Lib.hid (tall_any (.pointer (some ⟨q, 0, none⟩)) U w2.drew (htv.below (Below.refl _ _).drew) (by omega))
    have H2 := Lib.hid h2
    have HB2 := Lib.hid hb2
    clear h2 hb2 htv hU CL
    go_wp2_with fail
    have y3 : w2.drew.cell? ⟨t, 3, none⟩ = some (.slice Av tabs.length cv) := c3
    go_region_law (first
      | (try go_simp
         refine CA.out.mono ?_; rintro e w3 ⟨v3, rfl, hn3, hb3⟩
         have hb3 := (Below.refl w2.heap.size w2).drew.trans hb3
         have hz3 : w2.heap.size ≤ w3.heap.size := hb3.size
         have ht3 := H2.out.below hb3
         have hf3 := farT_new (S := S) hn3 (fun k hk => Nat.lt_of_lt_of_le (HS.out k hk) (Nat.le_trans HB2.out.size (Nat.le_refl _)))
         obtain ⟨A3, k3, rfl, _, _⟩ := hf3.1.len
         have hb4 : Below w3.heap.size w3 (w3.alloc (.cells #[.slice A3 U.length k3] 32)) := (Below.refl _ _).alloc (Nat.le_refl _) _
         have ht4 := ht3.below hb4
         have hf4 := hf3.below hb4
         have z3 : w3.cell? ⟨t, 3, none⟩ = some (.slice Av tabs.length cv) := ht3.cells.2.2.2.1
         have z4 : (w3.alloc (.cells #[.slice A3 U.length k3] 32)).cell? ⟨t, 3, none⟩ = some (.slice Av tabs.length cv) := ht4.cells.2.2.2.1
         have HC4 := Lib.hid (show (w3.alloc (.cells #[.slice A3 U.length k3] 32)).cell? ⟨w3.heap.size, 0, none⟩ = some (.slice A3 U.length k3) from cell_of_row _ _ 0 _ _ _ (heap_alloc_new w3 _))
         have HT4 := Lib.hid ht4
         have HF4 := Lib.hid hf4
         have HB4 := Lib.hid (hb3.trans (hb4.mono hb3.size))
         have HS4 : Hid (∀ k, S k → k < (w3.alloc (.cells #[.slice A3 U.length k3] 32)).heap.size) := fun k hk => by
           have h1 := HS.out k hk
           have h2 := HB2.out.size
           have h3 := hb4.size
           omega
         clear hn3 hb3 ht3 hf3 hb4 ht4 hf4)
      | (refine step_append_tab (T := U) rfl _ _ rfl rfl HT4.out.tabs rfl HC4.out HF4.out HS4.out hl2 ?_
         intro v5 w5 hv5 ha5 hr5
         obtain ⟨h6, f5, z5, hd6, ha6⟩ := HT4.out.appended hv5 ha5 hr5
         obtain ⟨A5, c5', e5, _, _⟩ := hv5.len
         obtain ⟨k5, hk5⟩ : ∃ k, (tabs ++ [U]).length = k := ⟨_, rfl⟩
         rw [hk5] at e5
         subst e5
         clear hk5
         have HT6 := Lib.hid h6
         have HD6 := Lib.hid (hd6 _ _ ((HD.out.below HB2.out).below HB4.out))
         have HA6 := Lib.hid ha6
         have HR5 := Lib.hid hr5
         clear hv5 ha5 hr5 h6 hd6 ha6))
    all_goals
      obtain ⟨v5, hv5⟩ : ∃ x, Value.slice A5 k5 c5' = x := ⟨_, rfl⟩
      rw [hv5] at HT6 HD6 HA6 HR5 ⊢
      obtain ⟨w6, hw6⟩ : ∃ x, w5.setCell ⟨t, 3, none⟩ v5 = x := ⟨_, rfl⟩
      rw [hw6] at HT6 HD6 HA6 ⊢
      clear hv5 hw6
      go_wp2_with fail
      go_ret
      have hb := HB2.out.trans (HB4.out.mono HB2.out.size)
      refine ⟨rfl, v5, HT6.out, HD6.out, (Apart.below hb).trans (HA6.out.mono fun _ => .inl), ?_⟩
      rcases HR5.out with e | e
      · exact .inl e
      · refine .inr fun r hr => ?_
        rw [e] at hr
        injection hr with hr
        have := hb.size
        omega
  · exact absurd HSELF.out (hno T)

end Go.Proofs.YtlchmkpnehbnlaaGreatDoor.Cd

/-
  replay: what the log's records tell is remembered. Conditions: the records are as enter wrote them, and tell the next table.
-/
namespace Go.Proofs.YtlchmkpnehbnlaaGreatDoor.Cd
open Go.RowKit

def ReplayIs (w0 : World) (S : Nat → Prop) (t l g : Nat) (vt : Value) (n s : List UInt8) (last cnt : Nat) (tight : Int) (tabs : List (List Wr)) (mem : List Wr) (W : World) (e : Ending) (W' : World) : Prop :=
  e = .returned (.int .i64 0) ∧ ∃ vm, TreeAt w0 W' S t l g vt vm n s last cnt tight tabs mem ∧ Apart (fun k => k = t) W W'

theorem flatW_take {R : List (List Wr)} {k : Nat} {X : List Wr} (h : R[k]? = some X) : (R.take (k + 1)).flatten = (R.take k).flatten ++ X := by
  obtain ⟨hk, rfl⟩ := List.getElem?_eq_some_iff.1 h
  rw [List.take_succ_eq_append_getElem hk, List.flatten_append, List.flatten_singleton]

set_option maxRecDepth 100000 in
set_option maxHeartbeats 3200000 in
theorem replay_s (v : Value) (R : List (List Wr)) {w0 W : World} {S : Nat → Prop} {t l g : Nat} {vt vm : Value} {n s : List UInt8} {last : Nat} {tight : Int} {tabs : List (List Wr)} {B : Nat} (h : TreeAt w0 W S t l g vt vm n s last 0 tight tabs []) (hS : ∀ k, S k → k < W.heap.size)
    (hv : OwnS W B v (R.map (recO (last + 1)))) (hg : ∀ X ∈ R, GoodT X ∧ X ≠ [] ∧ sumB X ≤ 300000) (hlast : last ≤ 90) (hf : R.flatten.length ≤ 5000) :
    Calls Tryz.prog 27 #[.pointer (some ⟨t, 0, none⟩), v] W (ReplayIs w0 S t l g vt n s last R.flatten.length tight tabs (ofW R.flatten) W) := by
  obtain ⟨fm, hfm⟩ : ∃ z, ofW R.flatten = z := ⟨_, rfl⟩
  obtain ⟨fn, hfn⟩ : ∃ z, R.flatten.length = z := ⟨_, rfl⟩
  rw [hfm, hfn]
  have HFM := Lib.hid hfm
  have HFN := Lib.hid hfn
  clear hfm hfn
  obtain ⟨m1, hm1⟩ : ∃ m, last + 1 = m := ⟨_, rfl⟩
  rw [hm1] at hv
  obtain ⟨Q, hQ⟩ : ∃ Q, R.map (recO m1) = Q := ⟨_, rfl⟩
  have hlen : Q.length = R.length := by rw [← hQ, List.length_map]
  rw [hQ] at hv
  have hstr := hv.strs
  obtain ⟨A, c, rfl, hl1, hl2⟩ : ∃ A c, v = .slice A Q.length c ∧ Q.length ≤ c ∧ c ≤ 9223372036854775807 := by
    rcases hv.2 with ⟨e, h0⟩ | ⟨g, cap, cur, e, _, _, h2, h3, _⟩
    · exact ⟨none, 0, by rw [e, h0], by omega, by omega⟩
    · exact ⟨_, cap, e, h2, h3⟩
  have hcell : ∀ (k : Nat) x, Q[k]? = some x → ∃ r, A = some ⟨r, 0, none⟩ ∧ r ≠ t ∧ r < W.heap.size ∧ W.cell? ⟨r, k, none⟩ = some (.string ⟨x.toArray⟩) := fun k x hx => by
    have hk := (List.getElem?_eq_some_iff.1 hx).1
    have hcl := fun g hg => World.ownsRow.cells hv (g := g) hg
    have hlt := fun g hg => World.ownsRow.lt hv g hg
    rcases hv.2 with ⟨_, h0⟩ | ⟨g, cap, cur, e, _, hh, _⟩
    · omega
    · injection e with e _ _
      subst e
      refine ⟨g, rfl, fun e => ?_, (hlt g rfl).2, ?_⟩
      · have h2 := h.row
        rw [← e, hh] at h2
        injection h2 with h2; injection h2 with _ h2 _
        exact absurd h2 (by decide)
      · have h3 := hcl g rfl k (.string ⟨x.toArray⟩) (by simp [vs, hx])
        rwa [Addr.add_lit, Nat.zero_add] at h3
  have hmi : (last : Int) + 1 = (m1 : Int) := by omega
  have hmw : IntKind.i64.wrap (m1 : Int) = m1 := by rw [IntKind.wrap_i64]; omega
  have hm2 : (last : Int) < m1 := by omega
  have hR : ∀ (k : Nat) X, R[k]? = some X → Q[k]? = some (recO m1 X) := fun k X hX => by rw [← hQ, List.getElem?_map, hX]; rfl
  have hl3 : (last : Int) ≤ 90 := by omega
  rw [hlen]
  rw [hlen] at hl1
  have hRl : R.length ≤ 5000 := by
    refine Nat.le_trans ?_ hf
    clear hQ hR hcell hstr hv hlen hl1 hf HFM HFN
    induction R with
    | nil => exact Nat.le_refl _
    | cons X r ih =>
      have h1 := (hg X (by simp)).2.1
      have h2 := ih (fun Y hY => hg Y (by simp [hY]))
      have h3 : 0 < X.length := List.length_pos_iff.2 h1
      rw [List.flatten_cons, List.length_append, List.length_cons]
      omega
  have H := Lib.hid h
  have HC := Lib.hid hcell
  have HR := Lib.hid hR
  have HG := Lib.hid hg
  have HSS := Lib.hid hS
  have HM := Lib.hid hm1
  have HF := Lib.hid hf
  clear h hcell hR hg hS hv hQ hstr hlen hm1 hf
  go_enter Tryz.func27, Tryz.ntmps27
  go_wp2_with fail
  go_loopw [12] (fun i wr => ∃ k : Nat, i = .int .i64 k ∧ k ≤ R.length ∧ (∃ vm, Hid (TreeAt w0 wr S t l g vt vm n s last (R.take k).flatten.length tight tabs (ofW (R.take k).flatten))) ∧ Hid (Apart (fun k => k = t) W wr)) (fun i _ => R.length - (intOf i).toNat)
  case atStart => exact ⟨0, rfl, by omega, ⟨vm, H.out⟩, Apart.refl _ _⟩
  case round =>
    obtain ⟨k, rfl, hk, ⟨vm2, hT⟩, ha⟩ := hrel
    by_cases hlt : k < R.length
    · obtain ⟨X, hX⟩ : ∃ X, R[k]? = some X := ⟨R[k], List.getElem?_eq_getElem hlt⟩
      obtain ⟨r, e, hrt, hrW, hc⟩ := HC.out k _ (HR.out k X hX)
      subst e
      have hc2 : wr.cell? ⟨r, k, none⟩ = some (.string ⟨(recO m1 X).toArray⟩) := (ha.out.cell (p := ⟨r, k, none⟩) hrW hrt).trans hc
      obtain ⟨_, _, _, _, c4, _⟩ := hT.out.cells
      obtain ⟨hg1, hg2, hg3⟩ := HG.out X (List.mem_of_getElem? hX)
      have CR := readRecord_s m1 m1 X wr (by have := HM.out; omega) (Nat.le_refl _) (by have := HM.out; omega) hg1 hg3
      obtain ⟨b, hb⟩ : ∃ b, recO m1 X = b := ⟨_, rfl⟩
      rw [hb] at CR hc2
      replace CR := Lib.hid CR
      have HX := Lib.hid hX
      have HG1 := Lib.hid hg1
      clear hb hc hX hg2 hg3 hg1
      go_wp2_with fail
      refine CR.out.mono ?_
      rintro e w2 ⟨q, rfl, htab, hb2⟩
      have h2 := hT.out.below hb2
      obtain ⟨_, _, _, _, c4, _⟩ := h2.cells
      have hft := flatW_take HX.out
      have hlim : LimT 48 160 (ofW (R.take k).flatten) := of_lim (lim_flat fun Y hY => (HG.out Y (List.mem_of_mem_take hY)).1)
      have hfl : (R.take k).flatten.length + X.length ≤ 5000 := by
        have h1 : (R.take (k + 1)).flatten.length ≤ R.flatten.length := by
          conv => rhs; rw [← List.take_append_drop (k + 1) R, List.flatten_append, List.length_append]
          omega
        rw [hft, List.length_append] at h1
        have := HF.out
        omega
      have hol := ofW_len (R.take k).flatten
      have CM := remember_s (.pointer (some ⟨q, 0, none⟩)) X h2 (fun j hj => Nat.lt_of_lt_of_le (HSS.out j hj) (Nat.le_trans ha.out.size hb2.size)) htab HG1.out.lim hlim (by omega) (by omega)
      have hmem : ofW (ofW (R.take k).flatten ++ X) = ofW ((R.take k).flatten ++ X) := by
        unfold ofW
        rw [ofFrom_append, ofFrom_append]
        congr 1
        exact ofW_of _
      rw [hmem, ← hft, show (R.take k).flatten.length + X.length = (R.take (k + 1)).flatten.length by rw [hft, List.length_append]] at CM
      replace CM := Lib.hid CM
      have HA2 := Lib.hid (ha.out.trans (Apart.below hb2))
      clear htab hb2 h2 hft hlim hfl hol hmem CR hT ha hc2
      go_wp2_with fail
      refine CM.out.mono ?_
      rintro e w3 ⟨rfl, vm3, h3, ha3⟩
      have H3 := Lib.hid h3
      have HA3 := Lib.hid (HA2.out.trans (ha3.mono fun _ h => .inl h))
      clear h3 ha3 CM
      go_wp2_with fail
      go_roundw
      case rel => exact ⟨k + 1, by go_num, by omega, ⟨vm3, H3⟩, HA3.out⟩
      case measure => simp [intOf]; omega
    · obtain rfl : k = R.length := by omega
      have h4 := hT.out
      rw [List.take_length] at h4
      rw [HFM.out, HFN.out] at h4
      obtain ⟨_, _, _, _, _, _, c6, _⟩ := h4.cells
      have H4 := Lib.hid h4
      have HA := Lib.hid ha.out
      clear h4 hT ha
      cases R with
      | nil =>
        have hl0 : ([] : List (List Wr)).length = 0 := rfl
        go_wp2_with fail
        go_ret
        exact ⟨rfl, vm2, H4.out, HA.out⟩
      | cons X r =>
        have h1 : 0 < X.length := List.length_pos_iff.2 (HG.out X (by simp)).2.1
        have hcn0 : ((fn : Nat) : Int) ≠ 0 := by rw [← HFN.out, List.flatten_cons, List.length_append]; omega
        have hcnb : (((fn : Nat) : Int) == 0) = false := by rw [beq_eq_false_iff_ne]; exact hcn0
        obtain ⟨rn, hrn⟩ : ∃ rn, (X :: r).length = rn := ⟨_, rfl⟩
        have hrn0 : 0 < rn := by rw [← hrn, List.length_cons]; omega
        have k4 : decide (0 < rn) = true := decide_eq_true hrn0
        have k5 : decide ((0 : Int) < (rn : Int)) = true := decide_eq_true (by omega)
        clear h1
        rw [hrn] at *
        go_wp2_with fail
        go_ret
        exact ⟨rfl, vm2, H4.out, HA.out⟩

end Go.Proofs.YtlchmkpnehbnlaaGreatDoor.Cd
