/-
  TableMerges: Merge answers what the document says; Get of it is Get of the last table that has the key. Conditions: none.
-/
import Derived.Test.YtcliknmcefcaeaaTmRows
namespace Go.Proofs.Ytcliknmcefcaeaa.Cd
open Go.RowKit Go.Maps

/-- A box with what was found, or with nothing. -/
def wbox (o : Option Wr) : Obj := .cells #[.string ⟨(o.getD ⟨[], [], false⟩).1.toArray⟩, .string ⟨(o.getD ⟨[], [], false⟩).2.1.toArray⟩, .bool (o.getD ⟨[], [], false⟩).2.2] 29 (0, 0)
/-- What the last of these tables that has the key says. -/
def wantW (key : List UInt8) (ls : List (List Wr)) : Option Wr := getW (ofW (ls.map ofW).flatten) key
theorem want_step {key : List UInt8} {ls : List (List Wr)} {k : Nat} {l : List Wr} (h : ls[k]? = some l) : wantW key (ls.take (k + 1)) = (getW (ofW l) key).or (wantW key (ls.take k)) := by
  unfold wantW
  have h2 : (ls.map ofW)[k]? = some (ofW l) := by rw [List.getElem?_map, h]; rfl
  rw [List.map_take, List.map_take, ofW_flat_take h2, getW_over _ (ofW_srt l) (ofW_flat l)]
theorem map_take_snoc {ls : List (List Wr)} {k : Nat} {l : List Wr} (h : ls[k]? = some l) : (ls.take (k + 1)).map ofW = (ls.take k).map ofW ++ [ofW l] := by
  obtain ⟨hk, rfl⟩ := List.getElem?_eq_some_iff.1 h
  rw [List.take_succ_eq_append_getElem hk, List.map_append]
  rfl
theorem sum_lim {ls : List (List Wr)} (h : ∀ l ∈ ls, sumW l ≤ 8192) : (ls.map ofW).flatten.length ≤ ls.length * 8192 := by
  induction ls with
  | nil => simp
  | cons l r ih =>
    have h1 := len_of (h l List.mem_cons_self)
    have h2 := ih (fun x hx => h x (List.mem_cons_of_mem _ hx))
    simp only [List.map_cons, List.flatten_cons, List.length_append, List.length_cons]
    omega
theorem fin_want (whole : Bool) (key : List UInt8) (ls : List (List Wr)) : getW (mergeW whole (ls.map ofW)) key = (wantW key ls).bind fun w => if whole && w.2.2 then none else some w := by
  unfold mergeW wantW
  rw [getW_keep (ofW_srt _)]

/-- All that stands between two rounds. -/
structure Mid10 (key : List UInt8) (ls : List (List Wr)) (k : Nat) (w : World) (p : Nat) (a7 a8 : Value) (gs : List Nat) (us : List Value) (o : Option Wr) (wr : World) : Prop where
  o1 : OwnV 25 wr (p + 1) a7 (gs.map ptrV)
  o2 : OwnV 22 wr (p + 1) a8 us
  ps : Ptrs wr gs ((ls.take k).map ofW)
  rs : Rws wr (p + 1) us ((ls.take k).map ofW)
  box : wr.heap[p]? = some (wbox o)
  low : Below w.heap.size w wr
  size : p + 1 ≤ wr.heap.size
theorem Mid10.below {key : List UInt8} {ls : List (List Wr)} {k : Nat} {w : World} {p : Nat} {a7 a8 : Value} {gs : List Nat} {us : List Value} {o : Option Wr} {wr w' : World} (h : Mid10 key ls k w p a7 a8 gs us o wr) (hb : Below wr.heap.size wr w') : Mid10 key ls k w p a7 a8 gs us o w' :=
  ⟨h.o1.keep hb, h.o2.keep hb, h.ps.below hb, h.rs.below hb, (hb.block _ h.size).trans h.box, h.low.trans (hb.mono h.low.size), Nat.le_trans h.size hb.size⟩
theorem Mid10.len {key : List UInt8} {ls : List (List Wr)} {k : Nat} {w : World} {p : Nat} {a7 a8 : Value} {gs : List Nat} {us : List Value} {o : Option Wr} {wr : World} (h : Mid10 key ls k w p a7 a8 gs us o wr) : gs.length ≤ k ∧ us.length ≤ k := by
  have h1 := h.ps.1
  have h2 := h.rs.1
  rw [List.length_map, List.length_take] at h1 h2
  omega
theorem ne_ty {e f : TypeId} (h : e ≠ f) {cur cur' : Array Value} {o : Option Obj} (h1 : o = some (.cells cur e (0, 0))) (h2 : o = some (.cells cur' f (0, 0))) : False := by
  rw [h1] at h2
  injection h2 with h2
  injection h2 with _ h2 _
  exact h h2

section
variable {key : List UInt8} {ls : List (List Wr)} {k : Nat} {w : World} {p : Nat} {a7 a8 : Value} {gs : List Nat} {us : List Value} {o : Option Wr} {wr w' : World}
/-- The row of tables has grown by one. -/
theorem Mid10.tab (h : Mid10 key ls k w p a7 a8 gs us o wr) (hw : w.heap.size ≤ p) {v' : Value} {g : Nat} (ho : OwnV 25 w' (p + 1) v' (gs.map ptrV ++ [ptrV g])) (hg : wr.grownBy w' a7.ownBlock) {T : List Wr} (ht : TabV wr (.pointer (some ⟨g, 0, none⟩)) T) :
    OwnV 25 w' (p + 1) v' ((gs ++ [g]).map ptrV) ∧ OwnV 22 w' (p + 1) a8 us ∧ Ptrs w' (gs ++ [g]) ((ls.take k).map ofW ++ [T]) ∧ Rws w' (p + 1) us ((ls.take k).map ofW) ∧ w'.heap[p]? = some (wbox o) ∧ Below w.heap.size w w' ∧ p + 1 ≤ w'.heap.size ∧ TabV w' (.pointer (some ⟨g, 0, none⟩)) T := by
  have hfst : ∀ j, a7.ownBlock = some j → ∃ x, wr.cell? ⟨j, 0, none⟩ = some x ∧ ∀ m, x ≠ .map m := fun j hj => by
    obtain ⟨u, r, e, hc⟩ := h.o1.first hj
    refine ⟨u, hc, fun m e2 => ?_⟩
    cases gs with
    | nil => cases e
    | cons g0 r0 =>
      injection e with e _
      rw [← e] at e2
      cases e2
  have hT : 25 ≠ 22 := by decide
  have hT2 : 25 ≠ 29 := by decide
  have ht2 := ht.apart hg hfst
  refine ⟨by rw [List.map_append]; exact ho, h.o2.other hg (fun j e1 e2 => ?_), (h.ps.apart hg hfst).snoc ht2, h.rs.other hg (fun j e1 => .inr fun cur hc => ?_), ?_, h.low.grown hg h.low.size (fun j e => by have := (h.o1.block e).1; omega), Nat.le_trans h.size hg.size, ht2⟩
  · obtain ⟨_, _, c1, h1⟩ := h.o1.block e1
    obtain ⟨_, _, c2, h2⟩ := h.o2.block e2
    exact ne_ty hT h1 h2
  · obtain ⟨_, _, c1, h1⟩ := h.o1.block e1
    exact ne_ty hT2 h1 hc
  · refine (hg.block p h.size (fun e => ?_)).trans h.box
    have := (h.o1.block e.symm).1
    omega
/-- The row of lists has grown by one. -/
theorem Mid10.row (o1 : OwnV 25 wr (p + 1) a7 (gs.map ptrV)) (o2 : OwnV 22 wr (p + 1) a8 us) {Ts Us : List (List Wr)} (ps : Ptrs wr gs Ts) (rs : Rws wr (p + 1) us Us) (box : wr.heap[p]? = some (wbox o)) (low : Below w.heap.size w wr) (size : p + 1 ≤ wr.heap.size) (hw : w.heap.size ≤ p)
    {v' u : Value} (ho : OwnV 22 w' (p + 1) v' (us ++ [u])) (hg : wr.grownBy w' a8.ownBlock) {T : List Wr} (ht : OwnTb wr (p + 1) u T) (hus : ∀ x ∈ us, ∃ A n c, x = .slice A n c) :
    OwnV 25 w' (p + 1) a7 (gs.map ptrV) ∧ OwnV 22 w' (p + 1) v' (us ++ [u]) ∧ Ptrs w' gs Ts ∧ Rws w' (p + 1) (us ++ [u]) (Us ++ [T]) ∧ w'.heap[p]? = some (wbox o) ∧ Below w.heap.size w w' ∧ p + 1 ≤ w'.heap.size := by
  have hfst : ∀ j, a8.ownBlock = some j → ∃ x, wr.cell? ⟨j, 0, none⟩ = some x ∧ ∀ m, x ≠ .map m := fun j hj => by
    obtain ⟨y, r, e, hc⟩ := o2.first hj
    refine ⟨y, hc, fun m e2 => ?_⟩
    obtain ⟨A, n, c, e3⟩ := hus y (by rw [e]; exact List.mem_cons_self)
    rw [e3] at e2
    cases e2
  have hT : 25 ≠ 22 := by decide
  have hT2 : 22 ≠ 29 := by decide
  have hoth : ∀ j, a8.ownBlock = some j → j < p + 1 ∨ ∀ cur, wr.heap[j]? ≠ some (.cells cur 29 (0, 0)) := fun j e1 => .inr fun cur hc => by
    obtain ⟨_, _, c1, h1⟩ := o2.block e1
    exact ne_ty hT2 h1 hc
  refine ⟨o1.other hg (fun j e1 e2 => ?_), ho, ps.apart hg hfst, (rs.other hg hoth).snoc (ht.other hg (fun j e1 e2 => ?_)), ?_, low.grown hg low.size (fun j e => by have := (o2.block e).1; omega), Nat.le_trans size hg.size⟩
  · obtain ⟨_, _, c1, h1⟩ := o2.block e1
    obtain ⟨_, _, c2, h2⟩ := o1.block e2
    exact ne_ty hT h2 h1
  · obtain ⟨_, cur, hc⟩ := own_cells ht e2
    rcases hoth j e1 with h | h
    · have := (own_cells ht e2).1; omega
    · exact h cur hc
  · refine (hg.block p size (fun e => ?_)).trans box
    have := (o2.block e.symm).1
    omega
/-- The box is written over. -/
theorem Mid10.put (h : Mid10 key ls k w p a7 a8 gs us o wr) (hw : w.heap.size ≤ p) {q : Option Wr} (hg : wr.grownBy w' (some p)) (hb : w'.heap[p]? = some (wbox q)) : Mid10 key ls k w p a7 a8 gs us q w' := by
  have hc : wr.cell? ⟨p, 0, none⟩ = some (.string ⟨(o.getD ⟨[], [], false⟩).1.toArray⟩) := cell_of_row _ _ 0 _ _ _ h.box
  refine ⟨h.o1.other hg (fun j e1 e2 => ?_), h.o2.other hg (fun j e1 e2 => ?_), h.ps.apart hg (fun j e => ?_), h.rs.other hg (fun j e => ?_), hb, h.low.grown hg h.low.size (fun j e => by injection e with e; omega), Nat.le_trans h.size hg.size⟩
  · injection e1 with e1
    have := (h.o1.block e2).1
    omega
  · injection e1 with e1
    have := (h.o2.block e2).1
    omega
  · injection e with e
    subst e
    exact ⟨_, hc, fun m e => by cases e⟩
  · injection e with e
    exact .inl (by omega)
end

end Go.Proofs.Ytcliknmcefcaeaa.Cd
