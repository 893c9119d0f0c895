/-
  A table's map, Get, All. Conditions: not too many.
-/
import Derived.Test.YtcliknmcefcaeaaTbAll
namespace Go.Proofs.Ytcliknmcefcaeaa.Cd
open Go.RowKit Go.Maps Go.Shelf Go.Sort

/-- A table's map as a value: nil of a nil table. -/
def MapV (w : World) (v : Value) (T : List Wr) : Prop := (v = .map none ∧ T = []) ∨ ∃ b, v = .map (some b) ∧ TabM w b T
theorem MapV.below {w w' : World} {v : Value} {T : List Wr} (h : MapV w v T) (hb : Below w.heap.size w w') : MapV w' v T := by
  rcases h with h | ⟨b, h1, h2⟩
  · exact .inl h
  · exact .inr ⟨b, h1, h2.below hb⟩

set_option maxRecDepth 100000 in
set_option maxHeartbeats 1600000 in
/-- The map of a table that was there before: it is told of the world as it was. -/
theorem held_was (v : Value) (T : List Wr) (w0 w : World) (h : TabV w0 v T) (hb : Below w0.heap.size w0 w) : Calls Try.prog 33 #[v] w fun e w' => ∃ m, e = .returned m ∧ MapV w0 m T ∧ w' = w := by
  rcases h with ⟨rfl, hT⟩ | ⟨g, rfl, b, hg, hc, hm⟩
  · have HT := Lib.hid hT
    clear hT hb
    go_enter Try.func33, Try.ntmps33
    go_wp2_with fail
    go_ret
    exact ⟨_, rfl, .inl ⟨rfl, HT.out⟩, rfl⟩
  · have HM := Lib.hid hm
    have hc2 : w.cell? ⟨g, 0, none⟩ = some (.map (some b)) := (hb.cell (p := ⟨g, 0, none⟩) hg).trans hc
    clear hm hc hb
    go_enter Try.func33, Try.ntmps33
    go_wp2_with fail
    go_ret
    exact ⟨_, rfl, .inr ⟨b, rfl, HM.out⟩, rfl⟩
theorem held_any (v : Value) (T : List Wr) (w : World) (h : TabV w v T) : Calls Try.prog 33 #[v] w fun e w' => ∃ m, e = .returned m ∧ MapV w m T ∧ w' = w := held_was v T w w h (Below.refl _ _)

theorem results_wr {fn : Func} {p u : Tmp} (h : fn.results = #[.cell p 29, .tmp u]) (tmps : Array Value) (w : World) (g : Nat) (x y z : Value) (fr : Nat × Nat) (r : Value)
    (hp : tmps.getD p undef = .pointer (some ⟨g, 0, none⟩)) (hr : tmps.getD u undef = r) (hg : w.heap[g]? = some (.cells #[x, y, z] 29 fr)) :
    (results fn tmps).run Try.prog w = .ok (.tuple #[.agg #[x, y, z], r]) w := by
  rw [results_cell_tmp h, hp, hr]
  simp [asAddr, Result.andThen, run_loadVar_row (P := Try.prog) w g _ _ _ fr _ hg Try.underlying29 rfl (by kernel_rfl)]
theorem wr_row {w : World} {g : Nat} {a b c x y z : Value} {T : TypeId} {fr : Nat × Nat} (h : w.heap[g]? = some (.cells #[a, b, c] T fr)) :
    (((w.setCell ⟨g, 0, none⟩ x).setCell ⟨g, 1, none⟩ y).setCell ⟨g, 2, none⟩ z).heap[g]? = some (.cells #[x, y, z] T fr) := by
  simp [World.setCell, Array.getElem?_modify, h]
/-- A write stored into a row of the call's own. -/
theorem below_wr {w w' : World} (h : Below w.heap.size w w') (x y z : Value) : Below w.heap.size w (((w'.setCell ⟨w.heap.size, 0, none⟩ x).setCell ⟨w.heap.size, 1, none⟩ y).setCell ⟨w.heap.size, 2, none⟩ z) :=
  ⟨h.os, h.tape, h.output, by rw [World.size_setCell, World.size_setCell, World.size_setCell]; exact h.size, fun k hk => by
    rw [heap_setCell_other _ _ _ _ (by show k ≠ w.heap.size; omega), heap_setCell_other _ _ _ _ (by show k ≠ w.heap.size; omega), heap_setCell_other _ _ _ _ (by show k ≠ w.heap.size; omega)]
    exact h.block k hk⟩

/-- What Get answers. -/
def Found (w : World) (o : Option Wr) (e : Ending) (w' : World) : Prop := e = .returned (.tuple #[.agg #[.string ⟨(o.getD ⟨[], [], false⟩).1.toArray⟩, .string ⟨(o.getD ⟨[], [], false⟩).2.1.toArray⟩, .bool (o.getD ⟨[], [], false⟩).2.2], .bool o.isSome]) ∧ Below w.heap.size w w'

set_option maxRecDepth 100000 in
set_option maxHeartbeats 1600000 in
theorem tget_any (v : Value) (T : List Wr) (k : List UInt8) (w : World) (h : TabV w v T) (hk : k.length ≤ maxLen) : Calls Try.prog 14 #[v, .string ⟨k.toArray⟩] w (Found w (getW T k)) := by
  obtain ⟨W, hW⟩ : ∃ x, w.alloc (.cells #[.string ⟨#[]⟩, .string ⟨#[]⟩, .bool false] 29) = x := ⟨_, rfl⟩
  have hb : Below w.heap.size w W := by rw [← hW]; exact (Below.refl _ _).alloc (Nat.le_refl _) _
  have ch := Lib.hid (held_any v T W (h.below hb))
  have hrow : W.heap[w.heap.size]? = some (.cells #[.string ⟨#[]⟩, .string ⟨#[]⟩, .bool false] 29) := by rw [← hW]; exact heap_alloc_new _ _
  have hsz : W.heap.size = w.heap.size + 1 := by rw [← hW]; simp
  obtain ⟨r, hr⟩ : ∃ r, (getW T k).getD ⟨[], [], false⟩ = r := ⟨_, rfl⟩
  obtain ⟨is, his⟩ : ∃ i, (getW T k).isSome = i := ⟨_, rfl⟩
  have hlook : ∀ m, MapV W m T → (Instr.lookup 61 m (.string ⟨k.toArray⟩) true).run Try.prog W = .ok (.tuple #[.agg #[.string ⟨r.1.toArray⟩, .string ⟨r.2.1.toArray⟩, .bool r.2.2], .bool is]) W := by
    rintro m (⟨rfl, rfl⟩ | ⟨b, rfl, hm⟩)
    · obtain rfl : (⟨[], [], false⟩ : Wr) = r := hr
      obtain rfl : false = is := his
      have := Maps.look_nil (w := W) true wrK.law wrK.under (Try.zeroValue29 W) (wrK.keyed (x := k) hk)
      exact this
    · have := wr_look (k := k) hm.1 hk
      rw [hr, his] at this
      exact this
  unfold Found
  rw [hr, his]
  have HL := Lib.hid hlook
  have hal : ∀ (W' : World) (o : Obj) (p : Addr), W'.heap.size = W.heap.size → p.block = w.heap.size → (W'.alloc o).cell? p = W'.cell? p ∧ (W'.alloc o).frozen? p = W'.frozen? p := fun W' o p hz hp => by
    have hb := ((Below.refl _ _).alloc (Nat.le_refl W'.heap.size) o).block p.block (by omega)
    exact ⟨World.cell?_of_block hb, by simp only [World.frozen?, hb]⟩
  have hr1 : ∀ x, (W.setCell ⟨w.heap.size, 0, none⟩ x).heap[w.heap.size]? = some (.cells #[x, .string ⟨#[]⟩, .bool false] 29) := fun x => by simp [World.setCell, Array.getElem?_modify, hrow]
  have hr2 : ∀ x y, ((W.setCell ⟨w.heap.size, 0, none⟩ x).setCell ⟨w.heap.size, 1, none⟩ y).heap[w.heap.size]? = some (.cells #[x, y, .bool false] 29) := fun x y => by simp [World.setCell, Array.getElem?_modify, hrow]
  have c0 : ∀ o : Obj, (W.alloc o).cell? ⟨w.heap.size, 0, none⟩ = some (.string ⟨#[]⟩) := fun o => ((hal W o _ rfl rfl).1).trans (cell_of_row _ _ 0 _ _ _ hrow)
  have f0 : ∀ (o : Obj), (W.alloc o).frozen? ⟨w.heap.size, 0, none⟩ = false := fun o => ((hal W o _ rfl rfl).2).trans (by simp [World.frozen?, hrow])
  have c1 : ∀ (x : Value) (o : Obj), ((W.setCell ⟨w.heap.size, 0, none⟩ x).alloc o).cell? ⟨w.heap.size, 1, none⟩ = some (.string ⟨#[]⟩) := fun x o => ((hal _ o _ (by simp) rfl).1).trans (cell_of_row _ _ 1 _ _ _ (hr1 x))
  have f1 : ∀ (x : Value) (o : Obj), ((W.setCell ⟨w.heap.size, 0, none⟩ x).alloc o).frozen? ⟨w.heap.size, 1, none⟩ = false := fun x o => ((hal _ o _ (by simp) rfl).2).trans (by simp only [World.frozen?, hr1 x]; rfl)
  have c2 : ∀ (x y : Value) (o : Obj), (((W.setCell ⟨w.heap.size, 0, none⟩ x).setCell ⟨w.heap.size, 1, none⟩ y).alloc o).cell? ⟨w.heap.size, 2, none⟩ = some (.bool false) := fun x y o => ((hal _ o _ (by simp) rfl).1).trans (cell_of_row _ _ 2 _ _ _ (hr2 x y))
  have f2 : ∀ (x y : Value) (o : Obj), (((W.setCell ⟨w.heap.size, 0, none⟩ x).setCell ⟨w.heap.size, 1, none⟩ y).alloc o).frozen? ⟨w.heap.size, 2, none⟩ = false := fun x y o => ((hal _ o _ (by simp) rfl).2).trans (by simp only [World.frozen?, hr2 x y]; rfl)
  have HRO := Lib.hid hrow
  have HB := Lib.hid hb
  clear h hlook hr his hal hr1 hr2 hb hrow
  go_enter Try.func14, Try.ntmps14
  go_wp2_with (go_at_call 33; refine ch.out.mono ?_; rintro e w' ⟨m, rfl, hm, h⟩; obtain rfl := h.symm; have hl := HL.out m hm)
  refine bodyPost_ret (results_wr rfl _ _ w.heap.size _ _ _ _ _ rfl rfl ((((Below.refl _ _).alloc (Nat.le_refl _) _).block _ (by simp [hsz])).trans (wr_row HRO.out))) rfl ?_
  exact ⟨rfl, (below_wr HB.out _ _ _).alloc (by simp [hsz]) _⟩

theorem values_any (m : Value) (T : List Wr) (w : World) (hm : MapV w m T) :
    CallsIn Fence.wide 5 Try.prog 35 #[m] w fun e w' => e = .returned (.func (.func 68) #[] #[.pointer (some ⟨w.heap.size, 0, none⟩)]) ∧ w' = w.alloc (.cells #[m] 61) := by
  rcases hm with ⟨rfl, _⟩ | ⟨b, rfl, _⟩
  · exact (callsIn_wide (n := 5)).2 ((callsIn_wide (n := 2)).1 (values_tb none w))
  · exact (callsIn_wide (n := 5)).2 ((callsIn_wide (n := 2)).1 (values_tb (some b) w))

set_option maxRecDepth 100000 in
set_option maxHeartbeats 3200000 in
/-- slices.SortedFunc of maps.Values of a table's map. -/
theorem sorted_tb (m : Value) (T : List Wr) (w w1 : World) (Bm : Nat) (hm : MapV w m T) (hw1 : w1 = w.alloc (.cells #[m] 61)) (hB : Bm = w.heap.size) (hl : T.length < 1099511627775) :
    CallsIn Fence.wide 5 Try.prog 34 #[.func (.func 68) #[] #[.pointer (some ⟨Bm, 0, none⟩)], .func (.func 36) #[] #[]] w1 fun e w' => ∃ v, e = .returned v ∧ NewTb w' w1.heap.size v T ∧ Below w1.heap.size w1 w' := by
  have hm1 : MapV w1 m T := by rw [hw1]; exact hm.below ((Below.refl _ _).alloc (Nat.le_refl _) _)
  have hc : w1.cell? ⟨Bm, 0, none⟩ = some m := by rw [hw1, hB]; exact cell_of_row _ _ 0 _ _ _ (heap_alloc_new _ _)
  have hBm : Bm < w1.heap.size := by rw [hw1, hB]; simp
  have hseq : SeqGives Fence.wide 2 Try.prog 68 #[.pointer (some ⟨Bm, 0, none⟩)] wrV (fun xs => xs.Perm T) T.length w1 := by
    rcases hm1 with ⟨rfl, rfl⟩ | ⟨b, rfl, hM⟩
    · exact vals_nil Bm w1 hBm hc 2
    · exact vals_gives Bm b T w1 hBm hc hM 2 (by omega)
  have hsrt : SrtW T := by
    rcases hm1 with ⟨rfl, rfl⟩ | ⟨b, rfl, hM⟩
    · exact List.Pairwise.nil
    · exact hM.2.1
  have hcol := Lib.hid (collect_tb 4 (by omega) 68 #[.pointer (some ⟨Bm, 0, none⟩)] (enters_of Try.func68 (by kernel_rfl) rfl) _ T.length (by omega) w1 hseq)
  have HS := Lib.hid hsrt
  clear hseq hsrt hm1 hm hw1 hc hB
  have hfA : Fence.wide.fn 66 := trivial
  have hfB : Fence.wide.fn 67 := trivial
  refine callsIn_of_wp Try.func34 rfl trivial ?_ rfl
  simp only [Try.ntmps34, List.size_toArray, List.length_cons, List.length_nil, Nat.reduceAdd, Nat.reduceSub, Array.replicate_succ, Array.replicate_zero, List.push_toArray, List.append_toArray, List.nil_append, List.cons_append]
  gi_wp2_with (first
    | (gi_at_call 66; refine hcol.out.mono ?_; rintro e w2 ⟨v, xs, rfl, hS, ho, hb⟩; have CS := Lib.hid (callsIn_wide (n := 4) |>.2 (sort_tb v xs T w2 w1.heap.size ho HS.out hS (by omega))); have HB2 := Lib.hid hb; clear hS ho hb)
    | (gi_at_call 67; refine CS.out.mono ?_; rintro e w3 ⟨rfl, hn, hb3⟩))
  go_ret
  exact ⟨_, rfl, hn, HB2.out.trans hb3⟩

/-- All: the table's writes in a new row. -/
def Alls (w : World) (T : List Wr) (e : Ending) (w' : World) : Prop := ∃ v, e = .returned v ∧ NewTb w' w.heap.size v T ∧ Below w.heap.size w w'

theorem NewTb.lower {w : World} {B B' : Nat} {v : Value} {l : List Wr} (h : NewTb w B v l) (hB : B' ≤ B) : NewTb w B' v l := by
  obtain ⟨A, c, h1, h2, h3, h4, h5⟩ := h
  refine ⟨A, c, h1, h2, h3, h4, fun h0 => ?_⟩
  obtain ⟨g, e, hg, r⟩ := h5 h0
  exact ⟨g, e, Nat.le_trans hB hg, r⟩

set_option maxRecDepth 100000 in
set_option maxHeartbeats 1600000 in
theorem tall_any (v : Value) (T : List Wr) (w : World) (h : TabV w v T) (hl : T.length < 1099511627775) : Calls Try.prog 16 #[v] w (Alls w T) := by
  have CH := Lib.hid (callsIn_wide (n := 5) |>.2 (held_any v T w h))
  have hfA : Fence.wide.fn 33 := trivial
  have hfB : Fence.wide.fn 35 := trivial
  have hfC : Fence.wide.fn 34 := trivial
  clear h
  refine (callsIn_wide (n := 6)).1 ?_
  refine callsIn_of_wp Try.func16 rfl trivial ?_ rfl
  simp only [Try.ntmps16, List.size_toArray, List.length_cons, List.length_nil, Nat.reduceAdd, Nat.reduceSub, Array.replicate_succ, Array.replicate_zero, List.push_toArray, List.append_toArray, List.nil_append, List.cons_append]
  gi_wp2_with (first
    | (gi_at_call 33; refine CH.out.mono ?_; rintro e w2 ⟨m, rfl, hm, h⟩; obtain rfl := h.symm; have CV := Lib.hid (values_any m T w hm); have CS := Lib.hid (sorted_tb m T w _ _ hm rfl rfl hl); clear hm)
    | (gi_at_call 35; refine CV.out.mono ?_; rintro e w2 ⟨rfl, h2⟩; obtain rfl := h2; clear CV)
    | (gi_at_call 34; refine CS.out.mono ?_; rintro e w3 ⟨v3, rfl, hn, hb⟩))
  go_ret
  have hb0 : Below w.heap.size w (w.alloc (.cells #[m] 61)) := (Below.refl _ _).alloc (Nat.le_refl _) _
  exact ⟨_, rfl, hn.lower hb0.size, hb0.trans (hb.mono hb0.size)⟩

end Go.Proofs.Ytcliknmcefcaeaa.Cd
