/-
  Rows of tables and rows of lists of the call's own, that grow side by side. Conditions: not too many.
-/
import Derived.Test.YtcliknmcefcaeaaTkWalk
namespace Go.Proofs.Ytcliknmcefcaeaa.Cd
open Go.RowKit Go.Maps

/-- A row of the call's own, of values of one cell; nil as long as there is none. -/
def OwnV (e : TypeId) (w : World) (B : Nat) (v : Value) (xs : List Value) : Prop := (xs = [] → v = .slice none 0 0) ∧ w.ownsRow B e 1 v xs.length xs
theorem OwnV.nil (e : TypeId) (w : World) (B : Nat) : OwnV e w B (.slice none 0 0) [] := ⟨fun _ => rfl, World.ownsRow_nil _ _ _ _⟩
theorem OwnV.block {e : TypeId} {w : World} {B : Nat} {v : Value} {xs : List Value} (h : OwnV e w B v xs) {k : Nat} (hk : v.ownBlock = some k) : B ≤ k ∧ k < w.heap.size ∧ ∃ cur, w.heap[k]? = some (.cells cur e (0, 0)) := by
  obtain ⟨_, h⟩ := h
  rcases h.2 with ⟨rfl, _⟩ | ⟨g, cap, cur, rfl, hg, hh, _⟩
  · cases hk
  · have : g = k := by simpa [Value.ownBlock] using hk
    subst this
    exact ⟨hg, (Array.getElem?_eq_some_iff.1 hh).1, cur, hh⟩
theorem OwnV.first {e : TypeId} {w : World} {B : Nat} {v : Value} {xs : List Value} (h : OwnV e w B v xs) {k : Nat} (hk : v.ownBlock = some k) : ∃ u r, xs = u :: r ∧ w.cell? ⟨k, 0, none⟩ = some u := by
  cases xs with
  | nil => rw [h.1 rfl] at hk; cases hk
  | cons u r =>
    refine ⟨u, r, rfl, ?_⟩
    have := World.ownsRow.cells h.2 (g := k) hk 0 u rfl
    rwa [Addr.add_lit] at this
theorem OwnV.other {e : TypeId} {w w' : World} {B : Nat} {v : Value} {xs : List Value} {row : Option Nat} (h : OwnV e w B v xs) (hg : w.grownBy w' row) (hr : ∀ k, row = some k → v.ownBlock = some k → False) : OwnV e w' B v xs :=
  ⟨h.1, World.ownsRow.kept h.2 hg (by
    cases hv : v.ownBlock with
    | none => exact .inl rfl
    | some k => exact .inr fun e => hr k e.symm hv)⟩
theorem OwnV.keep {e : TypeId} {w w' : World} {B : Nat} {v : Value} {xs : List Value} (h : OwnV e w B v xs) (hb : Below w.heap.size w w') : OwnV e w' B v xs := by
  refine ⟨h.1, h.2.1, ?_⟩
  have hlt := World.ownsRow.lt h.2
  rcases h.2.2 with h2 | ⟨g, cap, cur, rfl, hg, hh, r⟩
  · exact .inl h2
  · exact .inr ⟨g, cap, cur, rfl, hg, (hb.block g (hlt g rfl).2).trans hh, r⟩
theorem OwnV.cells {e : TypeId} {w : World} {B : Nat} {v : Value} {xs : List Value} (h : OwnV e w B v xs) : ∃ A c, v = .slice A xs.length c ∧ xs.length ≤ c ∧ c ≤ maxLen ∧ (0 < xs.length → ∃ b, A = some ⟨b, 0, none⟩ ∧ b < w.heap.size ∧ ∀ (i : Nat) u, xs[i]? = some u → w.cell? ⟨b, 0 + i, none⟩ = some u) := by
  have hc := fun g hg => World.ownsRow.cells h.2 (g := g) hg
  have hlt := World.ownsRow.lt h.2
  rcases h.2.2 with ⟨rfl, h0⟩ | ⟨g, cap, cur, rfl, _, hg, hn, hm, _, _⟩
  · exact ⟨none, 0, by rw [h0], by omega, by simp, fun h => by omega⟩
  · exact ⟨_, cap, rfl, hn, hm, fun _ => ⟨g, rfl, (hlt g rfl).2, fun i u hi => by have := hc g rfl i u hi; rwa [Addr.add_lit] at this⟩⟩

/-- append of one value that was laid out a moment ago. -/
theorem wp_append_val {ops : Array Oper} {rest : List Oper} {o : Oper} {a : Act} {Q : Exit → Act → World → Prop} (hgd : o.guard = none) (s x : Operand) (t e : TypeId) (z : Value) (bytes : Nat)
    (hop : o.op = .call { callee := .builtin .append, args := #[s, x], argTypes := #[t, t] }) (ht : Try.prog.underlying t = some (.slice e)) (hi : (Try.prog.info? e).map (fun i => (i.zero, i.size, i.bytes)) = some (some z, 1, bytes)) (hz : z.cells.size = 1) (hby : bytes ≤ 64)
    {w : World} {B : Nat} {v : Value} {xs : List Value} (u : Value) (T : TypeId) (hu : u.oneCell' = true)
    (hs : a.eval s = v) (ho : OwnV e w B v xs) (hB : B ≤ w.heap.size) (hx : a.eval x = .slice (some ⟨w.heap.size, 0, none⟩) 1 1) (hm : xs.length + 1 ≤ 1048576)
    (hK : ∀ v' w', OwnV e w' B v' (xs ++ [u]) → Below B w w' → w.grownBy w' v.ownBlock → wpList Try.prog ops Q rest (a.put o.dst v') w') : wpList Try.prog ops Q (o :: rest) a (w.alloc (.cells #[u] T)) := by
  refine wpList_plain hgd fun K hK' => ?_
  obtain ⟨i0, hi, hz0, hz1, hz2⟩ := info_parts hi
  have hal : (w.alloc (.cells #[u] T)).ownsRow B e 1 v xs.length xs := World.ownsRow.alloc ho.2 _
  have hnew : (w.alloc (.cells #[u] T)).cell? ⟨w.heap.size, 0, none⟩ = some u := cell_of_row _ _ 0 _ _ _ (heap_alloc_new _ _)
  obtain ⟨v', w', hrun, r2, r3, r4⟩ := run_append_own (P := Try.prog) (w.alloc (.cells #[u] T)) B t o.type e i0 z 1 bytes ht hi hz0 hz1 hz2 hz (by omega) v xs.length xs hal ⟨w.heap.size, 0, none⟩ 1 1 [u] rfl
    (fun j y hj => by
      match j with
      | 0 => rw [Addr.add_lit]; exact hnew.trans hj
      | j + 1 => simp at hj) (fun y hy => by rw [List.mem_singleton.1 hy]; exact hu) (by simp only [maxLen]; omega) (by have := Nat.mul_le_mul hm hby; omega) (by simp; omega)
  unfold Oper.wp
  simp [execOp, hop, resolve, invoke, builtin, hs, hx, hrun, Result.andThen]
  have hgg : w.grownBy w' v.ownBlock := (World.grownBy_alloc w _ v.ownBlock).andThen r3 (fun j e => .inr e)
  refine hK' _ _ (hK v' w' ⟨fun h => by simp at h, ?_⟩ ((Below.refl _ _).grown hgg hB (fun k hk => (ho.block hk).1)) hgg)
  rw [List.length_append]
  exact r2

theorem info_tptr : (Try.prog.info? 25).map (fun i => (i.zero, i.size, i.bytes)) = some (some (.pointer none), 1, 8) := by kernel_rfl
theorem info_tbs : (Try.prog.info? 22).map (fun i => (i.zero, i.size, i.bytes)) = some (some (.slice none 0 0), 1, 24) := by kernel_rfl

/-- A table lies as it lay, where no table's block is written. -/
theorem TabV.apart {w w' : World} {u : Value} {T : List Wr} {row : Option Nat} (h : TabV w u T) (hg : w.grownBy w' row) (hr : ∀ k, row = some k → ∃ x, w.cell? ⟨k, 0, none⟩ = some x ∧ ∀ m, x ≠ .map m) : TabV w' u T := by
  rcases h with h | ⟨g, rfl, b, hgl, hc, hm⟩
  · exact .inl h
  · have hgr : ∀ k, row = some k → g ≠ k := fun k e e2 => by
      obtain ⟨x, hx, hn⟩ := hr k e
      rw [← e2, hc] at hx
      injection hx with hx
      exact hn _ hx.symm
    have hbr : ∀ k, row = some k → b ≠ k := fun k e e2 => by
      obtain ⟨x, hx, hn⟩ := hr k e
      obtain ⟨⟨D, ⟨es, clock, hb, _⟩, _⟩, _⟩ := hm
      rw [← e2] at hx
      simp [World.cell?, hb] at hx
    refine .inr ⟨g, rfl, b, Nat.lt_of_lt_of_le hgl hg.size, (World.cell?_of_block (a := ⟨g, 0, none⟩) (hg.block g hgl (fun e => hgr g e.symm rfl))).trans hc, hm.grown hg (fun e => hbr b e.symm rfl)⟩

/-- Pointers to these tables, one each. -/
def Ptrs (w : World) (gs : List Nat) (Ts : List (List Wr)) : Prop := gs.length = Ts.length ∧ ∀ (i : Nat) g T, gs[i]? = some g → Ts[i]? = some T → TabV w (.pointer (some ⟨g, 0, none⟩)) T
def ptrV (g : Nat) : Value := .pointer (some ⟨g, 0, none⟩)
/-- Rows of these lists, one each. -/
def Rws (w : World) (B : Nat) (us : List Value) (Ts : List (List Wr)) : Prop := us.length = Ts.length ∧ ∀ (i : Nat) u T, us[i]? = some u → Ts[i]? = some T → OwnTb w B u T

theorem Ptrs.below {w w' : World} {gs : List Nat} {Ts : List (List Wr)} (h : Ptrs w gs Ts) (hb : Below w.heap.size w w') : Ptrs w' gs Ts := ⟨h.1, fun i g T h1 h2 => (h.2 i g T h1 h2).below hb⟩
theorem Ptrs.apart {w w' : World} {gs : List Nat} {Ts : List (List Wr)} {row : Option Nat} (h : Ptrs w gs Ts) (hg : w.grownBy w' row) (hr : ∀ k, row = some k → ∃ x, w.cell? ⟨k, 0, none⟩ = some x ∧ ∀ m, x ≠ .map m) : Ptrs w' gs Ts := ⟨h.1, fun i g T h1 h2 => (h.2 i g T h1 h2).apart hg hr⟩
theorem snoc_at {α : Type} {l : List α} {x y : α} {i : Nat} (h : (l ++ [x])[i]? = some y) : (i < l.length ∧ l[i]? = some y) ∨ (i = l.length ∧ y = x) := by
  by_cases hi : i < l.length
  · rw [List.getElem?_append_left hi] at h
    exact .inl ⟨hi, h⟩
  · rw [List.getElem?_append_right (by omega)] at h
    have h2 := (List.getElem?_eq_some_iff.1 h).1
    have : i - l.length = 0 := by simp at h2; omega
    rw [this] at h
    exact .inr ⟨by omega, by simpa using h.symm⟩
theorem Ptrs.snoc {w : World} {gs : List Nat} {Ts : List (List Wr)} {g : Nat} {T : List Wr} (h : Ptrs w gs Ts) (ht : TabV w (.pointer (some ⟨g, 0, none⟩)) T) : Ptrs w (gs ++ [g]) (Ts ++ [T]) := by
  refine ⟨by simp [h.1], fun i g' T' h1 h2 => ?_⟩
  rcases snoc_at h1 with ⟨a1, a2⟩ | ⟨a1, rfl⟩
  · rcases snoc_at h2 with ⟨b1, b2⟩ | ⟨b1, rfl⟩
    · exact h.2 i g' T' a2 b2
    · have := h.1; omega
  · rcases snoc_at h2 with ⟨b1, b2⟩ | ⟨b1, rfl⟩
    · have := h.1; omega
    · exact ht
theorem Rws.below {w w' : World} {B : Nat} {us : List Value} {Ts : List (List Wr)} (h : Rws w B us Ts) (hb : Below w.heap.size w w') : Rws w' B us Ts := ⟨h.1, fun i g T h1 h2 => (h.2 i g T h1 h2).keep hb⟩
theorem Rws.other {w w' : World} {B : Nat} {us : List Value} {Ts : List (List Wr)} {row : Option Nat} (h : Rws w B us Ts) (hg : w.grownBy w' row) (hr : ∀ k, row = some k → k < B ∨ ∀ cur, w.heap[k]? ≠ some (.cells cur 29 (0, 0))) : Rws w' B us Ts :=
  ⟨h.1, fun i u T h1 h2 => (h.2 i u T h1 h2).other hg (fun k e hv => by
    obtain ⟨h3, cur, h4⟩ := own_cells (h.2 i u T h1 h2) hv
    rcases hr k e with h5 | h5
    · omega
    · exact h5 cur h4)⟩
theorem Rws.snoc {w : World} {B : Nat} {us : List Value} {Ts : List (List Wr)} {u : Value} {T : List Wr} (h : Rws w B us Ts) (ht : OwnTb w B u T) : Rws w B (us ++ [u]) (Ts ++ [T]) := by
  refine ⟨by simp [h.1], fun i g' T' h1 h2 => ?_⟩
  rcases snoc_at h1 with ⟨a1, a2⟩ | ⟨a1, rfl⟩
  · rcases snoc_at h2 with ⟨b1, b2⟩ | ⟨b1, rfl⟩
    · exact h.2 i g' T' a2 b2
    · have := h.1; omega
  · rcases snoc_at h2 with ⟨b1, b2⟩ | ⟨b1, rfl⟩
    · have := h.1; omega
    · exact ht
/-- The row of pointers reads as the tables. -/
theorem tabs_in {w : World} {B : Nat} {v : Value} {gs : List Nat} {Ts : List (List Wr)} (ho : OwnV 25 w B v (gs.map ptrV)) (h : Ptrs w gs Ts) : TabsIn w w.heap.size v Ts := by
  obtain ⟨A, c, h1, h2, h3, h4⟩ := ho.cells
  have hl : (gs.map ptrV).length = Ts.length := by rw [List.length_map]; exact h.1
  rw [hl] at h1 h2 h4
  refine ⟨A, c, h1, h2, h3, fun hp => ?_⟩
  obtain ⟨b, e, hb, hc⟩ := h4 hp
  refine ⟨b, 0, e, hb, fun i T hi => ?_⟩
  have hi2 := (List.getElem?_eq_some_iff.1 hi).1
  obtain ⟨g, hg⟩ : ∃ g, gs[i]? = some g := ⟨gs[i]'(by rw [h.1]; exact hi2), List.getElem?_eq_getElem _⟩
  exact ⟨ptrV g, h.2 i g T hg hi, hc i _ (by rw [List.getElem?_map, hg]; rfl)⟩
theorem tbs_in {w : World} {B : Nat} {v : Value} {us : List Value} {Ts : List (List Wr)} (ho : OwnV 22 w B v us) (h : Rws w B us Ts) : TbsIn w w.heap.size v Ts := by
  obtain ⟨A, c, h1, h2, h3, h4⟩ := ho.cells
  rw [h.1] at h1 h2 h4
  refine ⟨A, c, h1, h2, h3, fun hp => ?_⟩
  obtain ⟨b, e, hb, hc⟩ := h4 hp
  refine ⟨b, 0, e, hb, fun i T hi => ?_⟩
  have hi2 := (List.getElem?_eq_some_iff.1 hi).1
  obtain ⟨u, hu⟩ : ∃ u, us[i]? = some u := ⟨us[i]'(by rw [h.1]; exact hi2), List.getElem?_eq_getElem _⟩
  exact ⟨u, (h.2 i u T hu hi).tbIn, hc i u hu⟩

end Go.Proofs.Ytcliknmcefcaeaa.Cd
