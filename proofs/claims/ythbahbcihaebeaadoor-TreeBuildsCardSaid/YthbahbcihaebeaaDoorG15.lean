/-
  A law's pairs, read as data. Conditions: none.
-/
import Derived.Test.YthbahbcihaebeaaDoorG13
import Derived.Great.BuildSlice
import Derived.Deep.RegionWith
import Derived.Lib.SmallJoins
import Derived.SizedLaws
/-
  Values of many cells that are laid out of parts; rows of one. Conditions: none.
-/
namespace Go.Proofs.YthbahbcihaebeaaDoor.Cd
open Go.RowKit

theorem fold_laid (off : Nat) (vs : List Value) : ∀ (k : Nat) (cs : Array Value), (vs.zipIdx k).foldl (fun cs x => cs.setIfInBounds (off + x.2) x.1) cs = (laid cs.toList (off + k) vs).toArray := by
  induction vs with
  | nil => intro k cs; simp [laid]
  | cons v r ih =>
    intro k cs
    rw [List.zipIdx_cons, List.foldl_cons, ih, laid, Array.toList_setIfInBounds]
    rfl
theorem fill_laid {place : Nat → Option (Nat × Nat)} {cells : Array Value} {i : Nat} {v : Value} {rest : List (Nat × Value)} {off size : Nat} (hp : place i = some (off, size)) (vs : List Value) (hv : v.cells = vs.toArray) (hs : vs.length = size) (ho : off + size ≤ cells.size) :
    Instr.fill place cells ((i, v) :: rest) = Instr.fill place (laid cells.toList off vs).toArray rest := by
  subst hs
  have hfold := fold_laid off vs 0 cells
  rw [Nat.add_zero] at hfold
  rw [Instr.fill, hp]
  simp only [hv]
  have hz : vs.toArray.size = vs.length := by simp
  rw [if_neg (by simp; omega)]
  rw [← hfold]
  congr 1
  rw [← Array.foldl_toList, Array.toList_zipIdx]

/-- A struct's nought, and where its fields lie. -/
def shapeOf (P : Program) (t : TypeId) : Option (Value × List (Nat × Nat)) :=
  match P.info? t, P.underlying t with
  | some it, some (.struct fields) =>
    match it.zero, fields.toList.mapM (fun f => (P.info? f.type).map fun i => (f.offset, i.size)) with
    | some z, some places => some (z, places)
    | _, _ => none
  | _, _ => none
theorem built_shape {P : Program} {t : TypeId} {z : Value} {places : List (Nat × Nat)} (h : shapeOf P t = some (z, places)) (parts : List (Nat × Value)) : P.built t parts = Instr.fill (places.toArray[·]?) z.cells parts := by
  unfold shapeOf at h
  unfold Program.built
  split at h
  · rename_i it fields h1 h2
    rw [h1, h2]
    simp only
    split at h
    · rename_i z' p' h3 h4
      injection h with h
      injection h with ha hb
      subst ha hb
      rw [h3, h4]
    · cases h
  · cases h

theorem shape_kk : shapeOf Tryd.prog 52 = some (.agg (Value.string ByteArray.empty :: vb (zer 33)).toArray, [(0, 1), (1, 33)]) := by kernel_rfl
theorem built_kk (s : List UInt8) (i : Idn) : Tryd.prog.built 52 [(0, .string ⟨s.toArray⟩), (1, idV i.1)] = some (kkC (s, i)).toArray := by
  have hl : (vb i.1).length = 33 := by rw [vb_length, i.2]
  rw [built_shape shape_kk, fill_laid (off := 0) (size := 1) rfl [.string ⟨s.toArray⟩] rfl rfl (by simp [Value.cells, vb_length, zer_length]), fill_laid (off := 1) (size := 33) rfl (vb i.1) rfl hl (by simp [Value.cells, laid_length, vb_length, zer_length])]
  have h := laid_mid [Value.string ⟨s.toArray⟩] (vb (zer 33)) [] (vb i.1) (by rw [hl, vb_length, zer_length])
  simp only [List.append_nil, List.length_singleton] at h
  have e : laid (Value.agg (Value.string ByteArray.empty :: vb (zer 33)).toArray).cells.toList 0 [Value.string ⟨s.toArray⟩] = [Value.string ⟨s.toArray⟩] ++ vb (zer 33) := rfl
  rw [e]
  show some (laid ([Value.string ⟨s.toArray⟩] ++ vb (zer 33)) 1 (vb i.1)).toArray = _
  rw [h]
  rfl
theorem wp_build_kk {ops : Array Oper} {rest : List Oper} {o : Oper} {a : Act} {w : World} {Q : Exit → Act → World → Prop} (hgd : o.guard = none) (x y : Operand) (ho : o.op = .build 52 #[(0, x), (1, y)])
    (s : List UInt8) (i : Idn) (hx : a.eval x = .string ⟨s.toArray⟩) (hy : a.eval y = idV i.1)
    (h : wpList Tryd.prog ops Q rest (a.put o.dst (.agg (kkC (s, i)).toArray)) w) : wpList Tryd.prog ops Q (o :: rest) a w :=
  wp_build_row hgd _ ho _ (built_kk s i) (by simp [hx, hy]) h

/-- A row of one. -/
theorem fill_one {α : Type} {f : α → List Value} {n : Nat} {T S : TypeId} {bytes : Nat} {z : Value} (K : Kind f n T S bytes z) (p : α) (cells : Array Value) (hc : cells.size = n) :
    Instr.fill (fun i => some (i * n, n)) cells [(0, .agg (f p).toArray)] = some (f p).toArray := by
  rw [fill_laid (off := 0) (size := n) (by simp) (f p) rfl (K.len p) (by omega), Instr.fill]
  have h := laid_mid [] cells.toList [] (f p) (by rw [K.len]; simp [hc])
  simp only [List.append_nil, List.nil_append, List.length_nil] at h
  rw [h]
section
variable {α : Type} {f : α → List Value} {n : Nat} {T S : TypeId} {bytes : Nat} {z : Value}
theorem op_one (K : Kind f n T S bytes z) (hn : n ≤ 1000) {o : Oper} {a : Act} {w : World} {K9 : Act → World → Prop} {Q : Exit → Act → World → Prop} (x : Operand) (ho : o.op = .buildSlice S 1 #[(0, x)]) (p : α) (hx : a.eval x = .agg (f p).toArray)
    (h : K9 (a.put o.dst (.slice (some ⟨w.heap.size, 0, none⟩) 1 1)) (w.alloc (.cells (f p).toArray T))) : o.wp Tryd.prog a w K9 Q := by
  obtain ⟨i0, hi, hz0, hz1, hz2⟩ := info_parts K.info
  subst hz1
  have hp := K.pos
  exact wp_buildSlice S T 1 _ ho (f p).toArray i0 z K.slice hi hz0 (by omega) (by omega) (by
    have e : (#[(0, x)].map fun (i, x) => (i, a.eval x)).toList = [(0, .agg (f p).toArray)] := by simp [hx]
    rw [e]
    exact fill_one K p _ (by simp)) h
theorem wp_one (K : Kind f n T S bytes z) (hn : n ≤ 1000) {ops : Array Oper} {rest : List Oper} {o : Oper} {a : Act} {w : World} {Q : Exit → Act → World → Prop} (hgd : o.guard = none) (x : Operand) (ho : o.op = .buildSlice S 1 #[(0, x)]) (p : α) (hx : a.eval x = .agg (f p).toArray)
    (h : wpList Tryd.prog ops Q rest (a.put o.dst (.slice (some ⟨w.heap.size, 0, none⟩) 1 1)) (w.alloc (.cells (f p).toArray T))) : wpList Tryd.prog ops Q (o :: rest) a w :=
  wpList_plain hgd fun _ hK => op_one K hn x ho p hx (hK _ _ h)
theorem step_one (K : Kind f n T S bytes z) (hn : n ≤ 1000) {ops : Array Oper} {o : Oper} {a : Act} {w : World} {K9 : Act → World → Prop} {Q : Exit → Act → World → Prop} {E : Prop} (hgd : o.guard = none) (x : Operand) (ho : o.op = .buildSlice S 1 #[(0, x)]) (p : α) (hx : a.eval x = .agg (f p).toArray)
    (h : K9 (a.put o.dst (.slice (some ⟨w.heap.size, 0, none⟩) 1 1)) (w.alloc (.cells (f p).toArray T))) : if Region.wanted o (yielded ops a.tmps) = true then Oper.wp Tryd.prog o a w K9 Q else E := by
  have hw : Region.wanted o (yielded ops a.tmps) = true := by simp [Region.wanted, hgd]
  rw [if_pos hw]
  exact op_one K hn x ho p hx h
end

end Go.Proofs.YthbahbcihaebeaaDoor.Cd

/-
  Rows of no things, in a block of their own; two rows that are apart. Conditions: none.
-/
namespace Go.Proofs.YthbahbcihaebeaaDoor.Cd
open Go.RowKit

section
variable {α : Type} {f : α → List Value} {n : Nat} {T S : TypeId} {bytes : Nat} {z : Value}
theorem op_empty (K : Kind f n T S bytes z) {o : Oper} {a : Act} {w : World} {K9 : Act → World → Prop} {Q : Exit → Act → World → Prop} (ho : o.op = .buildSlice S 0 #[])
    (h : K9 (a.put o.dst (.slice (some ⟨w.heap.size, 0, none⟩) 0 0)) (w.alloc (.cells #[] T))) : o.wp Tryd.prog a w K9 Q := by
  obtain ⟨i0, hi, hz0, hz1, hz2⟩ := info_parts K.info
  have hrun : (Instr.buildSlice S 0 #[]).run Tryd.prog w = .ok (.slice (some ⟨w.heap.size, 0, none⟩) 0 0) (w.alloc (.cells #[] T)) := by
    simp [Instr.buildSlice, run_underlying K.slice, sizeOf, typeInfo, hi, Instr.fill, newRow]
    have e : Array.map (fun _ => (default : Value)) (Array.range 0) = #[] := by simp [Array.range]
    rw [e]
  unfold Oper.wp execOp
  simp [ho, hrun]
  exact h
theorem step_empty (K : Kind f n T S bytes z) {ops : Array Oper} {o : Oper} {a : Act} {w : World} {K9 : Act → World → Prop} {Q : Exit → Act → World → Prop} {E : Prop} (hgd : o.guard = none) (ho : o.op = .buildSlice S 0 #[])
    (h : K9 (a.put o.dst (.slice (some ⟨w.heap.size, 0, none⟩) 0 0)) (w.alloc (.cells #[] T))) : if Region.wanted o (yielded ops a.tmps) = true then Oper.wp Tryd.prog o a w K9 Q else E := by
  have hw : Region.wanted o (yielded ops a.tmps) = true := by simp [Region.wanted, hgd]
  rw [if_pos hw]
  exact op_empty K ho h
theorem OwnRw.empty (w : World) {B : Nat} (hB : B ≤ w.heap.size) : OwnRw f n T (w.alloc (.cells #[] T)) B (.slice (some ⟨w.heap.size, 0, none⟩) 0 0) ([] : List α) :=
  ⟨by simp [rowC], .inr ⟨w.heap.size, 0, #[], rfl, hB, heap_alloc_new _ _, by simp, by simp [maxLen], by simp, by simp [rowC]⟩⟩
/-- Where another row alone was turned. -/
theorem OwnRw.apart {w w' : World} {B : Nat} {v : Value} {l : List α} {row : Option Nat} (h : OwnRw f n T w B v l) (hg : w.grownBy w' row) (hne : v.ownBlock = none ∨ v.ownBlock ≠ row) : OwnRw f n T w' B v l :=
  World.ownsRow.kept h hg hne
end

section
variable {α β : Type} {f : α → List Value} {n : Nat} {T : TypeId} {f' : β → List Value} {n' : Nat} {T' : TypeId} {w : World} {B B' : Nat} {v u : Value} {l : List α} {m : List β}
/-- Rows of two types are apart. -/
theorem rows_apart (h : OwnRw f n T w B v l) (k : OwnRw f' n' T' w B' u m) (hT : T ≠ T') : u.ownBlock = none ∨ u.ownBlock ≠ v.ownBlock := by
  rcases k.2 with ⟨rfl, _⟩ | ⟨g', cap', cur', rfl, _, hg', _⟩
  · exact .inl rfl
  · refine .inr fun e => ?_
    rcases h.2 with ⟨rfl, _⟩ | ⟨g, cap, cur, rfl, _, hg, _⟩
    · cases e
    · have e : some g' = some g := e
      injection e with e
      subst e
      rw [hg] at hg'
      injection hg' with hg'
      injection hg' with _ h2
      exact hT h2
/-- A block of another type is none of a row's. -/
theorem box_apart {G : Nat} {C : Array Value} {fr : Nat × Nat} (h : OwnRw f n T w B v l) (k : w.heap[G]? = some (.cells C T' fr)) (hT : T ≠ T') : some G ≠ v.ownBlock := fun e => by
  rcases h.2 with ⟨rfl, _⟩ | ⟨g, cap, cur, rfl, _, hg, _⟩
  · cases e
  · have e : some G = some g := e
    injection e with e
    subst e
    rw [k] at hg
    injection hg with hg
    injection hg with _ h2
    exact hT h2.symm
end

end Go.Proofs.YthbahbcihaebeaaDoor.Cd

/-
  object.getKids. Conditions: none.
-/
namespace Go.Proofs.YthbahbcihaebeaaDoor.Cd
open Go.RowKit

/-- What reading a list leaves: a row of the call's own, and the reader. -/
def GotKs (w : World) (g : Nat) (s : StK) (e : Ending) (w' : World) : Prop := ∃ v, e = .returned v ∧ OwnRw kkC 34 52 w' w.heap.size v s.l ∧ Left w g s.bs s.bad w'

set_option maxRecDepth 100000 in
set_option maxHeartbeats 1600000 in
theorem getks_any (g : Nat) (bs : List UInt8) (bad : Bool) (w : World) (hr : Rd w g bs bad) (hbb : Sane bad bs) (hs : bs.length ≤ 1000000) :
    Calls Tryd.prog 46 #[.pointer (some ⟨g, 0, none⟩)] w (GotKs w g (atK ⟨[], gbB bad bs, gbX bad bs⟩ (gbV bad bs).toNat)) := by
  have hg0 := hr.lt
  have hgb := getb_any g bs bad w hr hbb (by omega)
  have hsn := sane_gb bad bs
  have hbs : (gbB bad bs).length ≤ 1000000 := Nat.le_trans (tkB_len _ _ _) hs
  have hcb := byte_lt (gbV bad bs)
  generalize (gbV bad bs).toNat = n at *
  obtain ⟨s0, hs0⟩ : ∃ s, (⟨[], gbB bad bs, gbX bad bs⟩ : StK) = s := ⟨_, rfl⟩
  have e1 : gbB bad bs = s0.bs := by rw [← hs0]
  have e2 : gbX bad bs = s0.bad := by rw [← hs0]
  have e3 : s0.l = [] := by rw [← hs0]
  rw [hs0]
  rw [e1, e2] at hgb hsn
  rw [e1] at hbs
  have HGB := Lib.hid hgb
  have HSN := Lib.hid hsn
  have HL0 := Lib.hid e3
  clear hgb hsn hs0 e1 e2 e3 hr hbb
  go_enter Tryd.func46, Tryd.ntmps46
  go_wp2_with fail
  refine HGB.out.mono ?_
  rintro e w1 ⟨rfl, hl1⟩
  have HR1 := Lib.hid hl1.1
  have HW1 := Lib.hid hl1.2
  have hz1 := hl1.2.size
  clear hl1
  go_wp2_with fail
  go_loopw [3, 7] (fun v i wr => ∃ k : Nat, i = .int .u8 k ∧ k ≤ n ∧ Hid (OwnRw kkC 34 52 wr w.heap.size v (atK s0 k).l) ∧ Hid (Rd wr g (atK s0 k).bs (atK s0 k).bad) ∧ Hid (w.grownBy wr (some g))) (fun _ i _ => n - (intOf i).toNat)
  case atStart => exact ⟨0, rfl, by omega, (by unfold Hid; show OwnRw _ _ _ _ _ _ s0.l; rw [HL0.out]; exact OwnRw.nil _ _), HR1.out, HW1.out⟩
  case round =>
    clear HR1 HW1 hz1
    obtain ⟨k, rfl, hk, ho, hrd, hw⟩ := hrel
    have hsq := sane_atK HSN.out k
    have hlq := len_atK s0 k
    have hl0 : s0.l.length = 0 := by rw [HL0.out]; rfl
    have hlk : (atK s0 k).l.length ≤ 256 := by omega
    have hlb : (atK s0 k).bs.length ≤ 1000000 := by omega
    have hzr := hw.out.size
    by_cases hlt : k < n
    · have hnx : Hid (atK s0 (k + 1) = ⟨(atK s0 k).l ++ [(txV 16 (atK s0 k).bs, gnV (txX 16 (atK s0 k).bs) (txB 16 (atK s0 k).bs))], gnB (txX 16 (atK s0 k).bs) (txB 16 (atK s0 k).bs), gnX (txX 16 (atK s0 k).bs) (txB 16 (atK s0 k).bs)⟩) := rfl
      generalize atK s0 k = q at *
      obtain ⟨l, b, x⟩ := q
      simp only at *
      have hb2 := txB_len 16 b
      have HT1 := Lib.hid (rtext_any g 16 b x wr hrd.out hsq (by omega) (by omega))
      have HS2 : Hid (Sane (txX 16 b) (txB 16 b)) := Sane.tx 16 b
      generalize txX 16 b = x1 at *
      generalize txB 16 b = b1 at *
      generalize txV 16 b = s1 at *
      have hT2 := fun W h => getn_any g b1 x1 W h HS2.out (by omega)
      have HT2 := Lib.hid hT2
      clear hT2
      generalize gnX x1 b1 = x2 at *
      generalize gnB x1 b1 = b2 at *
      generalize gnV x1 b1 = s2 at *
      clear hsq hlq
      go_wp2_with fail
      refine HT1.out.mono ?_
      rintro e w2 ⟨rfl, hl2⟩
      have HR2 := Lib.hid hl2.1
      have HW2 := Lib.hid (grown_then hw.out hl2.2)
      have HO2 := Lib.hid (ho.out.far hl2.2 (by omega))
      clear hl2
      go_wp2_with fail
      refine (HT2.out _ HR2.out).mono ?_
      rintro e w3 ⟨rfl, hl3⟩
      have HR3 := Lib.hid hl3.1
      have HW3 := Lib.hid (grown_then HW2.out hl3.2)
      have HO3 := Lib.hid (HO2.out.far hl3.2 (by omega))
      clear hl3
      have hz3 := HW3.out.size
      go_wp2_with (first | (refine wp_build_kk rfl _ _ rfl s1 s2 rfl rfl ?_) | (refine wp_one kind_kk (by omega) rfl _ rfl (s1, s2) rfl ?_) | refine wp_append_rw kind_kk rfl _ _ rfl rfl (HO3.out.alloc _) (by simp; omega) _ _ [(s1, s2)] rfl (rw_one kind_kk w3 (s1, s2) 52 _ rfl) (by simp only [List.length_singleton]; omega) ?_)
      intro v4 w4 ho4 hb4 hg4
      have HO4 := Lib.hid ho4
      have hb5 : Below w.heap.size w3 w4 := ((Below.refl w.heap.size w3).alloc hz3 _).trans hb4
      have HW4 : Hid (w.grownBy w4 (some g)) := grown_low HW3.out hb5 (Nat.le_refl _)
      have HR4 : Hid (Rd w4 g b2 x2) := HR3.out.below hb5 hg0
      clear hb4 hg4 hb5 ho4
      go_wp2_with fail
      go_roundw
      case rel => exact ⟨k + 1, by go_num, by omega, by rw [hnx.out]; exact HO4.out, by rw [hnx.out]; exact HR4.out, HW4.out⟩
      case measure => simp [intOf]; omega
    · have hkn : k = n := by omega
      subst hkn
      go_wp2_with fail
      go_ret
      exact ⟨_, rfl, ho.out, hrd.out, hw.out⟩

end Go.Proofs.YthbahbcihaebeaaDoor.Cd

/-
  object.GetTree. Conditions: none.
-/
namespace Go.Proofs.YthbahbcihaebeaaDoor.Cd
open Go.RowKit

theorem zero_tr (W : World) : (zeroValue 56).run Tryd.prog W = .ok (.agg #[.slice none 0 0, .slice none 0 0]) W := by kernel_rfl
theorem size_tr : (Tryd.prog.info? 56).map (·.size) = some 2 := by kernel_rfl
/-- Block g is a tree. -/
def TrAt (w : World) (g : Nat) (vp vk : Value) : Prop := w.heap[g]? = some (.cells #[vp, vk] 56)
theorem TrAt.new (w : World) (vp vk : Value) : TrAt (w.alloc (.cells #[vp, vk] 56)) w.heap.size vp vk := heap_alloc_new _ _
theorem TrAt.lt {w : World} {g : Nat} {vp vk : Value} (h : TrAt w g vp vk) : g < w.heap.size := (Array.getElem?_eq_some_iff.1 h).1
theorem TrAt.below {w w' : World} {g B : Nat} {vp vk : Value} (h : TrAt w g vp vk) (hb : Below B w w') (hB : g < B) : TrAt w' g vp vk := (hb.block g hB).trans h
theorem TrAt.far {w w' : World} {g g' : Nat} {vp vk : Value} (h : TrAt w g vp vk) (hg : w.grownBy w' (some g')) (hne : g ≠ g') : TrAt w' g vp vk := (hg.block g h.lt (fun e => hne (by injection e))).trans h
theorem TrAt.c0 {w : World} {g : Nat} {vp vk : Value} (h : TrAt w g vp vk) : w.cell? ⟨g, 0, none⟩ = some vp := cell_of_row _ _ _ _ _ _ h
theorem TrAt.c1 {w : World} {g : Nat} {vp vk : Value} (h : TrAt w g vp vk) : w.cell? ⟨g, 1, none⟩ = some vk := cell_of_row _ _ _ _ _ _ h
theorem TrAt.frozen {w : World} {g : Nat} {vp vk : Value} (h : TrAt w g vp vk) (i : Nat) : w.frozen? ⟨g, i, none⟩ = false := by
  unfold TrAt at h
  simp [World.frozen?, h]
theorem TrAt.whole {w : World} {g : Nat} {vp vk : Value} (h : TrAt w g vp vk) (a b : Value) : TrAt ((w.setCell ⟨g, 0, none⟩ a).setCell ⟨g, 1, none⟩ b) g a b := by
  have h1 := heap_setCell_same _ g 0 _ _ a h
  exact heap_setCell_same _ g 1 _ _ b h1
theorem below_two {B : Nat} {w0 w : World} {g : Nat} (h : Below B w0 w) (hg : B ≤ g) (a b : Value) : Below B w0 ((w.setCell ⟨g, 0, none⟩ a).setCell ⟨g, 1, none⟩ b) :=
  (h.setCell (p := ⟨g, 0, none⟩) hg _).setCell (p := ⟨g, 1, none⟩) hg _
theorem OwnRw.two {α : Type} {f : α → List Value} {n : Nat} {T : TypeId} {w : World} {B : Nat} {v : Value} {l : List α} {g : Nat} (h : OwnRw f n T w B v l) (hg : g < B) (a b : Value) : OwnRw f n T ((w.setCell ⟨g, 0, none⟩ a).setCell ⟨g, 1, none⟩ b) B v l :=
  (h.put ⟨g, 0, none⟩ a hg).put ⟨g, 1, none⟩ b hg
theorem ret_tr {fn : Func} {p q : Tmp} (hf : fn.results = #[.cell p 56, .tmp q]) (tmps : Array Value) (w : World) (g : Nat) (vp vk x : Value)
    (hp : tmps.getD p undef = .pointer (some ⟨g, 0, none⟩)) (hg : TrAt w g vp vk) (hq : tmps.getD q undef = x) : (results fn tmps).run Tryd.prog w = .ok (.tuple #[.agg #[vp, vk], x]) w := by
  have hp' : tmps[p]?.getD undef = .pointer (some ⟨g, 0, none⟩) := by simpa using hp
  have hq' : tmps[q]?.getD undef = x := by simpa using hq
  have hld := run_loadVar_row (P := Tryd.prog) w g _ 56 _ _ _ hg Tryd.underlying56 rfl size_tr
  simp [results, hf, hp', hq', asAddr, hld]

/-- What Get leaves: the tree of the bytes, or the nought and ErrForm. -/
def GotT (b : List UInt8) (w : World) (e : Ending) (w' : World) : Prop :=
  ∃ (o : Option Tre) (v : Value) (n : Int), e = .returned (.tuple #[v, .int .i64 n]) ∧ GetsT b o ∧ Below w.heap.size w w' ∧ TreIn w' w'.heap.size v (o.getD ⟨[], []⟩) ∧ n = if o.isSome = true then 0 else 4

theorem got_none {b : List UInt8} {w w' : World} (h : GetsT b none) (hb : Below w.heap.size w w') : GotT b w (.returned (.tuple #[.agg #[.slice none 0 0, .slice none 0 0], .int .i64 4])) w' :=
  ⟨none, _, 4, rfl, h, hb, ⟨_, _, rfl, RwIn.nil _ _, RwIn.nil _ _⟩, rfl⟩

set_option maxRecDepth 100000 in
set_option maxHeartbeats 3200000 in
theorem gett_any (v : Value) (b : List UInt8) (w : World) (h : Sl w w.heap.size v b) (hs : b.length ≤ 100000) : Calls Tryd.prog 30 #[v] w (GotT b w) := by
  obtain ⟨A, c, rfl, _, _⟩ := h.len
  have hb1 : Below w.heap.size w (w.alloc (.cells #[.slice none 0 0, .slice none 0 0] 56)) := new_below _ _
  have hz1 : (w.alloc (.cells #[.slice none 0 0, .slice none 0 0] 56)).heap.size = w.heap.size + 1 := asz _ _
  have HT1 : Hid (TrAt (w.alloc (.cells #[.slice none 0 0, .slice none 0 0] 56)) w.heap.size (.slice none 0 0) (.slice none 0 0)) := TrAt.new _ _ _
  have HS1 : Hid (Sl (w.alloc (.cells #[.slice none 0 0, .slice none 0 0] 56)) (w.alloc (.cells #[.slice none 0 0, .slice none 0 0] 56)).heap.size (.slice A b.length c) b) := (h.below hb1).more hb1.size
  have HB1 := Lib.hid hb1
  clear h hb1
  have hl1 : (gbB false b).length ≤ 100000 := Nat.le_trans (tkB_len _ _ _) hs
  have HGP := Lib.hid (fun g W h => getps_any g (gbB false b) (gbX false b) W h (sane_gb _ _) (by omega))
  have HGK := Lib.hid (fun g W h => getks_any g (gbB false b) (gbX false b) W h (sane_gb _ _) (by omega))
  go_enter Tryd.func30, Tryd.ntmps30
  go_wp2_with (refine wp_alloc_row zero_tr rfl rfl ?_)
  generalize w.alloc (.cells #[.slice none 0 0, .slice none 0 0] 56) = w1 at *
  refine (read_any _ b w1 HS1.out).mono ?_
  rintro e w2 ⟨rfl, hr2, hb2⟩
  obtain ⟨g, hg⟩ : ∃ x, w1.heap.size = x := ⟨_, rfl⟩
  rw [hg] at hr2 hb2 ⊢
  have HB2 := Lib.hid (HB1.out.trans (hb2.mono (by omega)))
  have HT2 := Lib.hid (HT1.out.below hb2 (by omega))
  have HR2 := Lib.hid hr2
  have hz2 := hb2.size
  clear hb2 hr2 HB1 HT1 HS1
  have HGB := Lib.hid (getb_any g b false w2 HR2.out (fun h => by cases h) (by omega))
  go_wp2_with fail
  refine HGB.out.mono ?_
  rintro e w3 ⟨rfl, hl3⟩
  have HR3 := Lib.hid hl3.1
  have HB3 := Lib.hid (below_of_grown HB2.out hl3.2 (by omega) (by omega))
  have HT3 := Lib.hid (HT2.out.far hl3.2 (by omega))
  have hz3 : g ≤ w3.heap.size := by have := hl3.2.size; omega
  clear hl3 HB2 HT2 HR2 HGB
  by_cases h1 : gbV false b = 1
  · have hq1 : (((gbV false b).toNat : Int) == 1) = true := by rw [h1]; rfl
    have H1 := Lib.hid h1
    clear h1
    have hps : Hid (∀ (g : Nat) (W : World), Rd W g (gbB false b) (gbX false b) → Calls Tryd.prog 43 #[.pointer (some ⟨g, 0, none⟩)] W (GotPs W g (rdP b))) := HGP.out
    have hno : Hid (¬ ((rdP b).bad = false ∧ (rdP b).bs = [] ∧ GoodPs (rdP b).l) → GetsT b none) := fun hn => getT_nops H1.out hn
    have hyes : Hid ((rdP b).bad = false → (rdP b).bs = [] → GoodPs (rdP b).l → GetsT b (some ⟨(rdP b).l, []⟩)) := fun hb hn hg => getT_ps H1.out hb hn hg
    generalize rdP b = q at *
    generalize gbV false b = kk at *
    generalize gbB false b = b1 at *
    generalize gbX false b = x1 at *
    obtain ⟨l, bs, bad⟩ := q
    clear HGP HGK
    go_wp2_with fail
    refine (hps.out g w3 HR3.out).mono ?_
    rintro e w4 ⟨v4, rfl, ho4, hl4⟩
    have HR4 : Hid (Rd w4 g bs bad) := hl4.1
    have HB4 := Lib.hid (below_of_grown HB3.out hl4.2 (by omega) (by omega))
    have HT4 := Lib.hid (HT3.out.far hl4.2 (by omega))
    have HO4 : Hid (OwnRw ppC 2 38 w4 w3.heap.size v4 l) := ho4
    have hz4 : w3.heap.size ≤ w4.heap.size := hl4.2.size
    obtain ⟨A4, c4, e4, _, _⟩ := (ho4.rwIn kind_pp).len
    clear hl4 ho4 HB3 HT3 HR3
    subst e4
    go_wp2_with fail
    refine (end_any g bs bad w4 HR4.out).mono ?_
    rintro e w5 ⟨rfl, rfl⟩
    by_cases hend : bad = false ∧ bs = []
    · obtain ⟨rfl, rfl⟩ := hend
      have hyes2 : Hid (GoodPs l → GetsT b (some ⟨l, []⟩)) := fun hg => hyes.out rfl rfl hg
      have hno2 : Hid (¬ GoodPs l → GetsT b none) := fun hg => hno.out (fun hn => hg hn.2.2)
      clear hyes hno
      go_wp2_with fail
      refine (goodps_any _ l w4 (HO4.out.rwIn kind_pp)).mono ?_
      rintro e w5 ⟨s, rfl, hs5, hb5⟩
      have HB5 := Lib.hid (HB4.out.trans (hb5.mono (by omega)))
      have HT5 := Lib.hid (HT4.out.below hb5 (by omega))
      have HO5 := Lib.hid (HO4.out.keep hb5)
      clear hb5 HB4 HT4 HO4 HR4
      cases s
      · have hG : Hid (GetsT b none) := hno2.out (fun hn => by have := hs5.2 hn; cases this)
        clear hs5 hyes2 hno2
        have d0 := HT5.out.c0
        have d1 := HT5.out.c1
        have f0 := HT5.out.frozen 0
        have f1 := HT5.out.frozen 1
        go_wp2_with fail
        exact bodyPost_ret (ret_tr Tryd.results30 _ _ w.heap.size _ _ (.int .i64 4) rfl (HT5.out.whole _ _) rfl) rfl (got_none hG.out (below_two HB5.out (Nat.le_refl _) _ _))
      · have hG : Hid (GetsT b (some ⟨l, []⟩)) := hyes2.out (hs5.1 rfl)
        clear hs5 hyes2 hno2
        have d0 := HT5.out.c0
        have d1 := HT5.out.c1
        have f0 := HT5.out.frozen 0
        have f1 := HT5.out.frozen 1
        go_wp2_with fail
        refine bodyPost_ret (ret_tr Tryd.results30 _ _ w.heap.size _ _ (.int .i64 0) rfl (HT5.out.whole _ _) rfl) rfl ?_
        exact ⟨some ⟨l, []⟩, _, 0, rfl, hG.out, below_two HB5.out (Nat.le_refl _) _ _, ⟨_, _, rfl, (HO5.out.two (by omega) _ _).rwIn kind_pp, RwIn.nil _ _⟩, rfl⟩
    · have hG : Hid (GetsT b none) := hno.out (fun hn => hend ⟨hn.1, hn.2.1⟩)
      have hbb : (!bad && bs.isEmpty) = false := by
        cases bad
        · cases bs
          · exact absurd ⟨rfl, rfl⟩ hend
          · rfl
        · rfl
      rw [hbb]
      clear hend hbb hno hyes
      have d0 := HT4.out.c0
      have d1 := HT4.out.c1
      have f0 := HT4.out.frozen 0
      have f1 := HT4.out.frozen 1
      go_wp2_with fail
      exact bodyPost_ret (ret_tr Tryd.results30 _ _ w.heap.size _ _ (.int .i64 4) rfl (HT4.out.whole _ _) rfl) rfl (got_none hG.out (below_two HB4.out (Nat.le_refl _) _ _))
  · have hq1 : (((gbV false b).toNat : Int) == 1) = false := by
      rw [beq_eq_false_iff_ne]
      exact fun e => h1 (UInt8.toNat_inj.1 (by show _ = 1; omega))
    by_cases h2 : gbV false b = 2
    · have hq2 : (((gbV false b).toNat : Int) == 2) = true := by rw [h2]; rfl
      have H1 := Lib.hid h2
      clear h1 h2
      have hps : Hid (∀ (g : Nat) (W : World), Rd W g (gbB false b) (gbX false b) → Calls Tryd.prog 46 #[.pointer (some ⟨g, 0, none⟩)] W (GotKs W g (rdK b))) := HGK.out
      have hno : Hid (¬ ((rdK b).bad = false ∧ (rdK b).bs = [] ∧ GoodKs (rdK b).l) → GetsT b none) := fun hn => getT_noks H1.out hn
      have hyes : Hid ((rdK b).bad = false → (rdK b).bs = [] → GoodKs (rdK b).l → GetsT b (some ⟨[], (rdK b).l⟩)) := fun hb hn hg => getT_ks H1.out hb hn hg
      generalize rdK b = q at *
      generalize gbV false b = kk at *
      generalize gbB false b = b1 at *
      generalize gbX false b = x1 at *
      obtain ⟨l, bs, bad⟩ := q
      clear HGP HGK
      go_wp2_with fail
      refine (hps.out g w3 HR3.out).mono ?_
      rintro e w4 ⟨v4, rfl, ho4, hl4⟩
      have HR4 : Hid (Rd w4 g bs bad) := hl4.1
      have HB4 := Lib.hid (below_of_grown HB3.out hl4.2 (by omega) (by omega))
      have HT4 := Lib.hid (HT3.out.far hl4.2 (by omega))
      have HO4 : Hid (OwnRw kkC 34 52 w4 w3.heap.size v4 l) := ho4
      have hz4 : w3.heap.size ≤ w4.heap.size := hl4.2.size
      obtain ⟨A4, c4, e4, _, _⟩ := (ho4.rwIn kind_kk).len
      clear hl4 ho4 HB3 HT3 HR3
      subst e4
      go_wp2_with fail
      refine (end_any g bs bad w4 HR4.out).mono ?_
      rintro e w5 ⟨rfl, rfl⟩
      by_cases hend : bad = false ∧ bs = []
      · obtain ⟨rfl, rfl⟩ := hend
        have hyes2 : Hid (GoodKs l → GetsT b (some ⟨[], l⟩)) := fun hg => hyes.out rfl rfl hg
        have hno2 : Hid (¬ GoodKs l → GetsT b none) := fun hg => hno.out (fun hn => hg hn.2.2)
        clear hyes hno
        go_wp2_with fail
        refine (goodks_any _ l w4 (HO4.out.rwIn kind_kk)).mono ?_
        rintro e w5 ⟨s, rfl, hs5, hb5⟩
        have HB5 := Lib.hid (HB4.out.trans (hb5.mono (by omega)))
        have HT5 := Lib.hid (HT4.out.below hb5 (by omega))
        have HO5 := Lib.hid (HO4.out.keep hb5)
        clear hb5 HB4 HT4 HO4 HR4
        cases s
        · have hG : Hid (GetsT b none) := hno2.out (fun hn => by have := hs5.2 hn; cases this)
          clear hs5 hyes2 hno2
          have d0 := HT5.out.c0
          have d1 := HT5.out.c1
          have f0 := HT5.out.frozen 0
          have f1 := HT5.out.frozen 1
          go_wp2_with fail
          exact bodyPost_ret (ret_tr Tryd.results30 _ _ w.heap.size _ _ (.int .i64 4) rfl (HT5.out.whole _ _) rfl) rfl (got_none hG.out (below_two HB5.out (Nat.le_refl _) _ _))
        · have hG : Hid (GetsT b (some ⟨[], l⟩)) := hyes2.out (hs5.1 rfl)
          clear hs5 hyes2 hno2
          have d0 := HT5.out.c0
          have d1 := HT5.out.c1
          have f0 := HT5.out.frozen 0
          have f1 := HT5.out.frozen 1
          go_wp2_with fail
          refine bodyPost_ret (ret_tr Tryd.results30 _ _ w.heap.size _ _ (.int .i64 0) rfl (HT5.out.whole _ _) rfl) rfl ?_
          exact ⟨some ⟨[], l⟩, _, 0, rfl, hG.out, below_two HB5.out (Nat.le_refl _) _ _, ⟨_, _, rfl, RwIn.nil _ _, (HO5.out.two (by omega) _ _).rwIn kind_kk⟩, rfl⟩
      · have hG : Hid (GetsT b none) := hno.out (fun hn => hend ⟨hn.1, hn.2.1⟩)
        have hbb : (!bad && bs.isEmpty) = false := by
          cases bad
          · cases bs
            · exact absurd ⟨rfl, rfl⟩ hend
            · rfl
          · rfl
        rw [hbb]
        clear hend hbb hno hyes
        have d0 := HT4.out.c0
        have d1 := HT4.out.c1
        have f0 := HT4.out.frozen 0
        have f1 := HT4.out.frozen 1
        go_wp2_with fail
        exact bodyPost_ret (ret_tr Tryd.results30 _ _ w.heap.size _ _ (.int .i64 4) rfl (HT4.out.whole _ _) rfl) rfl (got_none hG.out (below_two HB4.out (Nat.le_refl _) _ _))
    · have hq2 : (((gbV false b).toNat : Int) == 2) = false := by
        rw [beq_eq_false_iff_ne]
        exact fun e => h2 (UInt8.toNat_inj.1 (by show _ = 2; omega))
      have hG := Lib.hid (getT_else h1 h2)
      generalize gbV false b = kk at *
      clear h1 h2 HGP HGK
      have d0 := HT3.out.c0
      have d1 := HT3.out.c1
      have f0 := HT3.out.frozen 0
      have f1 := HT3.out.frozen 1
      go_wp2_with fail
      exact bodyPost_ret (ret_tr Tryd.results30 _ _ w.heap.size _ _ (.int .i64 4) rfl (HT3.out.whole _ _) rfl) rfl (got_none hG.out (below_two HB3.out (Nat.le_refl _) _ _))

end Go.Proofs.YthbahbcihaebeaaDoor.Cd

/-
  What the laws of trees and commits ask first: alive, greatTree, greatCommit. Conditions: texts of fewer than 2^47 bytes.
-/
namespace Go.Proofs.YthbahbcihaebeaaDoor.Cd
open Go.RowKit

theorem goodT_nil : GoodT ⟨[], []⟩ := .inl ⟨rfl, ⟨by simp, (fun _ h => by cases h), (fun _ h => by cases h), fun j a b h => by simp at h⟩⟩
theorem treeB_nil : treeB ⟨[], []⟩ = [1, 0] := rfl

/-! ### Not too much -/

structure FitT (t : Tre) : Prop where
  key : ∀ p ∈ t.ps, p.1.length ≤ 140737488351232
  val : ∀ p ∈ t.ps, p.2.length ≤ 140737488351232
  kid : ∀ p ∈ t.ks, p.1.length ≤ 140737488351232
structure SmallT (t : Tre) : Prop where
  ps : t.ps.length ≤ 50
  ks : t.ks.length ≤ 50
  key : ∀ p ∈ t.ps, p.1.length ≤ 4096
  val : ∀ p ∈ t.ps, p.2.length ≤ 4096
  kid : ∀ p ∈ t.ks, p.1.length ≤ 4096
/-- What a question answers, of which only the no matters. -/
def Asks (P : Prop) (w : World) (e : Ending) (w' : World) : Prop := ∃ s : Bool, e = .returned (.bool s) ∧ (s = false → P) ∧ Below w.heap.size w w'

structure SmallC (c : Cmt) : Prop where
  is : c.is.length ≤ 50
  note : c.note.length ≤ 1024

end Go.Proofs.YthbahbcihaebeaaDoor.Cd

/-
  Trees and commits as arguments: how they read, how large they can be. Conditions: none.
-/
namespace Go.Proofs.YthbahbcihaebeaaDoor.Cd
open Go.RowKit Go.ChangeShapes Go.WideShapes Go.Deep Go.Joins

theorem weights_mem_all {H : Type} {e : TypeId} : ∀ {l : List (DataW H)} {d : DataW H}, d ∈ l → ∀ n ∈ d.weights Tryd.prog e, n ∈ DataW.weightsAll Tryd.prog e l
  | [], _, h, _, _ => by cases h
  | x :: r, d, h, n, hn => by
    unfold DataW.weightsAll
    rcases List.mem_cons.1 h with rfl | h
    · exact List.mem_append_left _ hn
    · exact List.mem_append_right _ (weights_mem_all h n hn)

theorem cells_s1 : Tryd.prog.cellsOf 9 = 1 := by kernel_rfl
theorem cells_b1 : Tryd.prog.cellsOf 5 = 1 := by kernel_rfl
theorem cells_sum : Tryd.prog.cellsOf 25 = 32 := by kernel_rfl
theorem cells_ps : Tryd.prog.cellsOf 38 = 2 := by kernel_rfl
theorem cells_ks : Tryd.prog.cellsOf 52 = 34 := by kernel_rfl
theorem cells_is : Tryd.prog.cellsOf 27 = 33 := by kernel_rfl

theorem cells_n1 : Tryd.prog.cellsOf 3 = 1 := by kernel_rfl

/-- A name's cells that are read. -/
theorem id_cells {H : Type} {enc : TypeId × Value → H} {w : World} {m : Nat} {cs : List Value} {x : DataW H × List MemPlace} (hlen : cs.length = 33)
    (h : DataW.trod enc Tryd.prog w 0 (fun _ => true) true m 27 cs = some x) : ∃ i : Idn, cs = vb i.1 := by
  obtain ⟨y0, y1, n, hx, hl, h0, h1⟩ := trod_struct2 Tryd.underlying27 h
  obtain ⟨xs, m, _, _, hl2, hl3, h2⟩ := DataW.trod_array Tryd.underlying25 h1
  have hcell : ∀ i, i < 33 → ∃ c : UInt8, cs[i]? = some (.int .u8 c.toNat) := by
    intro i hi
    cases i with
    | zero =>
      obtain ⟨c, hc⟩ := ione_byte h0
      refine ⟨c, ?_⟩
      have := congrArg (fun l => l[0]?) hc
      simpa [cells_b1, List.getElem?_take] using this
    | succ i =>
      have h3 := h2 i (by omega)
      rw [List.getElem?_eq_getElem (by omega)] at h3
      obtain ⟨c, hc⟩ := ione_byte h3
      refine ⟨c, ?_⟩
      have := congrArg (fun l => l[0]?) hc
      have hi2 : i < 32 := by omega
      simp [cells_b1, cells_sum, List.getElem?_drop, hi2] at this
      exact this
  obtain ⟨l, e1, e2⟩ := bytes_of_cells 33 cs hlen hcell
  exact ⟨⟨l, e1⟩, e2⟩

section
variable {α : Type} [Inhabited α] {f : α → List Value} {n : Nat} {T S : TypeId}

/-- Cells that are read as a slice of things, where each thing's cells are read as one. -/
theorem rw_of_cells {H : Type} {enc : TypeId × Value → H} {w : World} (hS : Tryd.prog.underlying S = some (.slice T)) (hn : Tryd.prog.cellsOf T = n) (hpos : 0 < n) (hlen : ∀ p, (f p).length = n) (Fit : α → Prop)
    (item : ∀ {m : Nat} {cs : List Value} {x : DataW H × List MemPlace}, cs.length = n → DataW.trod enc Tryd.prog w 0 (fun _ => true) true m T cs = some x → ∃ p, cs = f p ∧ ((∀ k ∈ x.1.weights Tryd.prog T, k ≤ reachBytes) → Fit p))
    {fuel : Nat} {cs : List Value} {x : DataW H × List MemPlace} (hf : DataW.trod enc Tryd.prog w 0 (fun _ => true) true fuel S cs = some x) :
    ∃ A k c ps, cs = [.slice A k c] ∧ RwIn f n w w.heap.size (.slice A k c) ps ∧ ((∀ m ∈ x.1.weights Tryd.prog S, m ≤ reachBytes) → ∀ p ∈ ps, Fit p) := by
  rcases open_slice hS hf with ⟨hcs, _⟩ | ⟨a, n0, c0, m, fl, D, Pl, hcs, _, hl, hm, hmm, hx, hi⟩
  · exact ⟨none, 0, 0, [], hcs, RwIn.nil _ _, fun _ p hp => by cases hp⟩
  · have hone : ∀ i, i < n0 → ∃ p : α, ((∀ k ∈ (D i).weights Tryd.prog T, k ≤ reachBytes) → Fit p) ∧ ∀ (j : Nat) v, (f p)[j]? = some v → w.cell? (a.add (i * n + j)) = some v := by
      intro i hin
      obtain ⟨cs', hcc, htt⟩ := hi i (by rw [hmm]; simp; omega)
      rw [hn] at hcc
      obtain ⟨_, hlen', hat⟩ := World.cells?_some hcc
      obtain ⟨p, hp, hfit⟩ := item hlen' htt
      refine ⟨p, hfit, fun j v hv => ?_⟩
      have hj : j < n := by
        have := (List.getElem?_eq_some_iff.1 hv).1
        rw [hlen] at this
        exact this
      rw [← Go.Deep.add_add, hat j hj, hp]
      exact hv
    obtain ⟨g, hg2⟩ := choose_lt hone
    have hget : ∀ (i : Nat) p, ((List.range n0).map g)[i]? = some p → i < n0 ∧ p = g i := by
      intro i p hip
      obtain ⟨hlt, rfl⟩ := List.getElem?_eq_some_iff.1 hip
      simp at hlt
      exact ⟨hlt, by simp⟩
    refine ⟨some a, n0, c0, (List.range n0).map g, hcs, ⟨some a, c0, by simp, by simpa using hl, hm, (fun h => by cases h), fun hp => ?_⟩, fun hw => ?_⟩
    · have hp0 : 0 < n0 := by simpa using hp
      obtain ⟨b, off, spot⟩ := a
      have hc := (hg2 0 hp0).2 0 ((f (g 0))[0]'(by rw [hlen]; exact hpos)) (List.getElem?_eq_getElem _)
      have hspot : spot = none := by simpa [Addr.add] using World.cell?_spot hc
      subst hspot
      refine ⟨b, off, rfl, ?_, ?_⟩
      · have := World.block_lt_of_cell? w _ hc
        rwa [block_of_add] at this
      · intro i p hip j x hj
        obtain ⟨hlt, rfl⟩ := hget i p hip
        have := (hg2 i hlt).2 j x hj
        rwa [Addr.add_lit, ← Nat.add_assoc] at this
    · intro p hp
      obtain ⟨i, hi2, rfl⟩ := List.mem_map.1 hp
      have hlt := List.mem_range.1 hi2
      refine (hg2 i hlt).1 fun k hk => hw k ?_
      have hd : x.1 = .slice ((List.range n0).map D) ((List.range (m - n0)).map fun j => D (n0 + j)) := by rw [hx]
      rw [hd]
      simp only [DataW.weights, hS]
      exact List.mem_cons_of_mem _ (List.mem_append_left _ (weights_mem_all (d := D i) (List.mem_map.2 ⟨i, hi2, rfl⟩) k hk))
end

/-- What a text can weigh. -/
def FitP (p : Bp) : Prop := p.1.length ≤ 140737488351232 ∧ p.2.length ≤ 140737488351232
def FitK (p : Kd) : Prop := p.1.length ≤ 140737488351232
theorem lit_weight {H : Type} {l : List UInt8} {T : TypeId} (h : ∀ n ∈ (DataW.lit (H := H) (.string l)).weights Tryd.prog T, n ≤ reachBytes) : l.length ≤ 140737488351232 := by
  have := h l.length (by simp [DataW.weights])
  simp only [reachBytes] at this
  omega
theorem list_bytes (x : ByteArray) : x = ⟨x.data.toList.toArray⟩ := by simp

set_option maxRecDepth 100000 in
theorem pair_cells {H : Type} {enc : TypeId × Value → H} {w : World} {m : Nat} {cs : List Value} {x : DataW H × List MemPlace} (hlen : cs.length = 2)
    (h : DataW.trod enc Tryd.prog w 0 (fun _ => true) true m 38 cs = some x) : ∃ p : Bp, cs = ppC p ∧ ((∀ k ∈ x.1.weights Tryd.prog 38, k ≤ reachBytes) → FitP p) := by
  obtain ⟨y0, y1, n, hx, hl, h0, h1⟩ := trod_struct2 Tryd.underlying38 h
  match cs, hlen with
  | [z0, z1], _ =>
    have f0 : DataW.trod enc Tryd.prog w 0 (fun _ => true) true n 9 (([z0, z1].drop 0).take (Tryd.prog.cellsOf 9)) = some y0 := h0
    have f1 : DataW.trod enc Tryd.prog w 0 (fun _ => true) true n 9 (([z0, z1].drop 1).take (Tryd.prog.cellsOf 9)) = some y1 := h1
    rw [cells_s1] at f0 f1
    obtain ⟨x0, q0, e0, _⟩ := DataW.trod_string (cs := [z0]) Tryd.underlying9 f0
    obtain ⟨x1, q1, e1, _⟩ := DataW.trod_string (cs := [z1]) Tryd.underlying9 f1
    simp only [List.cons.injEq, and_true] at q0 q1
    refine ⟨(x0.data.toList, x1.data.toList), by rw [q0, q1]; rfl, fun hw => ?_⟩
    have hxd : x.1 = .agg [y0.1, y1.1] := by rw [hx]
    have hw' : ∀ n ∈ DataW.weightsEach Tryd.prog [9, 9] [y0.1, y1.1], n ≤ reachBytes := by
      intro n hn
      refine hw n ?_
      rw [hxd]
      simpa [DataW.weights, Tryd.underlying38] using hn
    have w0 := fun n hn => hw' n (DataW.weights_mem_each (j := 0) (t := 9) (d := y0.1) rfl rfl n hn)
    have w1 := fun n hn => hw' n (DataW.weights_mem_each (j := 1) (t := 9) (d := y1.1) rfl rfl n hn)
    rw [e0] at w0
    rw [e1] at w1
    exact ⟨lit_weight w0, lit_weight w1⟩

set_option maxRecDepth 100000 in
theorem kid_cells {H : Type} {enc : TypeId × Value → H} {w : World} {m : Nat} {cs : List Value} {x : DataW H × List MemPlace} (hlen : cs.length = 34)
    (h : DataW.trod enc Tryd.prog w 0 (fun _ => true) true m 52 cs = some x) : ∃ p : Kd, cs = kkC p ∧ ((∀ k ∈ x.1.weights Tryd.prog 52, k ≤ reachBytes) → FitK p) := by
  obtain ⟨y0, y1, n, hx, hl, h0, h1⟩ := trod_struct2 Tryd.underlying52 h
  obtain ⟨z0, r, rfl⟩ := List.exists_cons_of_length_pos (l := cs) (by omega)
  have hr : r.length = 33 := by simpa using hlen
  have f0 : DataW.trod enc Tryd.prog w 0 (fun _ => true) true n 9 (((z0 :: r).drop 0).take (Tryd.prog.cellsOf 9)) = some y0 := h0
  have f1 : DataW.trod enc Tryd.prog w 0 (fun _ => true) true n 27 (((z0 :: r).drop 1).take (Tryd.prog.cellsOf 27)) = some y1 := h1
  rw [cells_s1] at f0
  rw [cells_is] at f1
  obtain ⟨x0, q0, e0, _⟩ := DataW.trod_string (cs := [z0]) Tryd.underlying9 f0
  have e33 : ((z0 :: r).drop 1).take 33 = r := by simp [List.take_of_length_le (Nat.le_of_eq hr)]
  rw [e33] at f1
  obtain ⟨i, hi⟩ := id_cells hr f1
  simp only [List.cons.injEq, and_true] at q0
  refine ⟨(x0.data.toList, i), by rw [q0, hi]; rfl, fun hw => ?_⟩
  have hxd : x.1 = .agg [y0.1, y1.1] := by rw [hx]
  have hw' : ∀ n ∈ DataW.weightsEach Tryd.prog [9, 27] [y0.1, y1.1], n ≤ reachBytes := by
    intro n hn
    refine hw n ?_
    rw [hxd]
    simpa [DataW.weights, Tryd.underlying52] using hn
  have w0 := fun n hn => hw' n (DataW.weights_mem_each (j := 0) (t := 9) (d := y0.1) rfl rfl n hn)
  rw [e0] at w0
  exact lit_weight w0

instance : Inhabited Bp := ⟨([], [])⟩
instance : Inhabited Idn := ⟨idZ⟩
instance : Inhabited Kd := ⟨([], idZ)⟩

set_option maxRecDepth 100000 in
theorem tree_of_trod {H : Type} {enc : TypeId × Value → H} {w : World} {r : Reach} {b0 : Nat} {v : Value} {d : DataW H} {ps : List MemPlace} (hv : Value.okWide Tryd.prog w r b0 56 v)
    (h : DataW.Trod enc Tryd.prog w 0 (fun _ => true) true 56 v d ps) (hw : ∀ n ∈ d.weights Tryd.prog 56, n ≤ reachBytes) :
    ∃ t : Tre, TreIn w w.heap.size v t ∧ FitT t := by
  obtain ⟨v0, v1, y0, y1, m, rfl, rfl, rfl, h0, h1⟩ := open_agg2 Tryd.underlying56 (by kernel_rfl) (by kernel_rfl) hv h
  have hw' : ∀ n ∈ DataW.weightsEach Tryd.prog [22, 48] [y0.1, y1.1], n ≤ reachBytes := by
    intro n hn
    refine hw n ?_
    simpa [DataW.weights, Tryd.underlying56] using hn
  have w0 := fun n hn => hw' n (DataW.weights_mem_each (j := 0) (t := 22) (d := y0.1) rfl rfl n hn)
  have w1 := fun n hn => hw' n (DataW.weights_mem_each (j := 1) (t := 48) (d := y1.1) rfl rfl n hn)
  obtain ⟨A1, k1, c1, l1, e1, i1, j1⟩ := rw_of_cells (f := ppC) Tryd.underlying22 cells_ps (by omega) kind_pp.len FitP pair_cells h0
  obtain ⟨A2, k2, c2, l2, e2, i2, j2⟩ := rw_of_cells (f := kkC) Tryd.underlying48 cells_ks (by omega) kind_kk.len FitK kid_cells h1
  simp only [List.cons.injEq, and_true] at e1 e2
  subst e1 e2
  exact ⟨⟨l1, l2⟩, ⟨_, _, rfl, i1, i2⟩, fun p hp => (j1 w0 p hp).1, fun p hp => (j1 w0 p hp).2, fun p hp => j2 w1 p hp⟩

structure FitC (c : Cmt) : Prop where
  note : c.note.length ≤ 140737488351232
  low : -9223372036854775808 ≤ c.num
  high : c.num ≤ 9223372036854775807

theorem list_four {α : Type} {l : List α} (h : l.length = 4) : ∃ a b c d, l = [a, b, c, d] := by
  match l, h with
  | [a, b, c, d], _ => exact ⟨a, b, c, d, rfl⟩
theorem list_three {α : Type} {l : List α} (h : l.length = 3) : ∃ a b c, l = [a, b, c] := by
  match l, h with
  | [a, b, c], _ => exact ⟨a, b, c, rfl⟩
theorem drop_past {α : Type} (a b : List α) (k : Nat) : (a ++ b).drop (a.length + k) = b.drop k := by
  rw [← List.drop_drop, List.drop_left]

end Go.Proofs.YthbahbcihaebeaaDoor.Cd

/-
  A law's pairs, read as data. Conditions: none.
-/
namespace Go.Proofs.YthbahbcihaebeaaDoor.Cd
open Go.RowKit

theorem prs_of_trod {H : Type} {enc : TypeId × Value → H} {w : World} {v : Value} {d : DataW H} {ps : List MemPlace} (hv : ∃ A n c, v = .slice A n c)
    (h : DataW.Trod enc Tryd.prog w 0 (fun _ => true) true 22 v d ps) (hw : ∀ n ∈ d.weights Tryd.prog 22, n ≤ reachBytes) :
    ∃ l : List Bp, PsIn w w.heap.size v l ∧ ∀ p ∈ l, FitP p := by
  obtain ⟨A, n, c, rfl⟩ := hv
  obtain ⟨m, hm⟩ := h
  obtain ⟨A1, k1, c1, l1, e1, i1, j1⟩ := rw_of_cells (f := ppC) Tryd.underlying22 cells_ps (by omega) kind_pp.len FitP pair_cells hm
  have e2 : (Value.slice A n c) = .slice A1 k1 c1 := by
    have e3 : [Value.slice A n c] = [.slice A1 k1 c1] := e1
    injection e3
  rw [e2]
  exact ⟨l1, i1, fun p hp => j1 hw p hp⟩

end Go.Proofs.YthbahbcihaebeaaDoor.Cd
