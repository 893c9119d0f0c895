/-
  The document's SameCommit. Conditions: none.
-/
import Derived.Test.YtabogconbjdcgaaG9
import Derived.Great.BuildSlice
import Derived.Deep.RegionWith
import Derived.Lib.SmallJoins
import Derived.SizedLaws
import Derived.Deep.RegionLaw
import Derived.Deep.DeepMust
import Derived.Test.YtabogconbjdcgaaG5
/-
  Values of many cells that are laid out of parts; rows of one. Conditions: none.
-/
namespace Go.Proofs.Ytabogconbjdcgaa.Cd
open Go.RowKit

theorem fold_laid (off : Nat) (vs : List Value) : ∀ (k : Nat) (cs : Array Value), (vs.zipIdx k).foldl (fun cs x => cs.setIfInBounds (off + x.2) x.1) cs = (laid cs.toList (off + k) vs).toArray := by
  induction vs with
  | nil => intro k cs; simp [laid]
  | cons v r ih =>
    intro k cs
    rw [List.zipIdx_cons, List.foldl_cons, ih, laid, Array.toList_setIfInBounds]
    rfl
theorem fill_laid {place : Nat → Option (Nat × Nat)} {cells : Array Value} {i : Nat} {v : Value} {rest : List (Nat × Value)} {off size : Nat} (hp : place i = some (off, size)) (vs : List Value) (hv : v.cells = vs.toArray) (hs : vs.length = size) (ho : off + size ≤ cells.size) :
    Instr.fill place cells ((i, v) :: rest) = Instr.fill place (laid cells.toList off vs).toArray rest := by
  subst hs
  have hfold := fold_laid off vs 0 cells
  rw [Nat.add_zero] at hfold
  rw [Instr.fill, hp]
  simp only [hv]
  have hz : vs.toArray.size = vs.length := by simp
  rw [if_neg (by simp; omega)]
  rw [← hfold]
  congr 1
  rw [← Array.foldl_toList, Array.toList_zipIdx]

/-- A struct's nought, and where its fields lie. -/
def shapeOf (P : Program) (t : TypeId) : Option (Value × List (Nat × Nat)) :=
  match P.info? t, P.underlying t with
  | some it, some (.struct fields) =>
    match it.zero, fields.toList.mapM (fun f => (P.info? f.type).map fun i => (f.offset, i.size)) with
    | some z, some places => some (z, places)
    | _, _ => none
  | _, _ => none
theorem built_shape {P : Program} {t : TypeId} {z : Value} {places : List (Nat × Nat)} (h : shapeOf P t = some (z, places)) (parts : List (Nat × Value)) : P.built t parts = Instr.fill (places.toArray[·]?) z.cells parts := by
  unfold shapeOf at h
  unfold Program.built
  split at h
  · rename_i it fields h1 h2
    rw [h1, h2]
    simp only
    split at h
    · rename_i z' p' h3 h4
      injection h with h
      injection h with ha hb
      subst ha hb
      rw [h3, h4]
    · cases h
  · cases h

theorem shape_kk : shapeOf Try.prog 59 = some (.agg (Value.string ByteArray.empty :: vb (zer 33)).toArray, [(0, 1), (1, 33)]) := by kernel_rfl
theorem built_kk (s : List UInt8) (i : Idn) : Try.prog.built 59 [(0, .string ⟨s.toArray⟩), (1, idV i.1)] = some (kkC (s, i)).toArray := by
  have hl : (vb i.1).length = 33 := by rw [vb_length, i.2]
  rw [built_shape shape_kk, fill_laid (off := 0) (size := 1) rfl [.string ⟨s.toArray⟩] rfl rfl (by simp [Value.cells, vb_length, zer_length]), fill_laid (off := 1) (size := 33) rfl (vb i.1) rfl hl (by simp [Value.cells, laid_length, vb_length, zer_length])]
  have h := laid_mid [Value.string ⟨s.toArray⟩] (vb (zer 33)) [] (vb i.1) (by rw [hl, vb_length, zer_length])
  simp only [List.append_nil, List.length_singleton] at h
  have e : laid (Value.agg (Value.string ByteArray.empty :: vb (zer 33)).toArray).cells.toList 0 [Value.string ⟨s.toArray⟩] = [Value.string ⟨s.toArray⟩] ++ vb (zer 33) := rfl
  rw [e]
  show some (laid ([Value.string ⟨s.toArray⟩] ++ vb (zer 33)) 1 (vb i.1)).toArray = _
  rw [h]
  rfl
theorem wp_build_kk {ops : Array Oper} {rest : List Oper} {o : Oper} {a : Act} {w : World} {Q : Exit → Act → World → Prop} (hgd : o.guard = none) (x y : Operand) (ho : o.op = .build 59 #[(0, x), (1, y)])
    (s : List UInt8) (i : Idn) (hx : a.eval x = .string ⟨s.toArray⟩) (hy : a.eval y = idV i.1)
    (h : wpList Try.prog ops Q rest (a.put o.dst (.agg (kkC (s, i)).toArray)) w) : wpList Try.prog ops Q (o :: rest) a w :=
  wp_build_row hgd _ ho _ (built_kk s i) (by simp [hx, hy]) h

/-- A row of one. -/
theorem fill_one {α : Type} {f : α → List Value} {n : Nat} {T S : TypeId} {bytes : Nat} {z : Value} (K : Kind f n T S bytes z) (p : α) (cells : Array Value) (hc : cells.size = n) :
    Instr.fill (fun i => some (i * n, n)) cells [(0, .agg (f p).toArray)] = some (f p).toArray := by
  rw [fill_laid (off := 0) (size := n) (by simp) (f p) rfl (K.len p) (by omega), Instr.fill]
  have h := laid_mid [] cells.toList [] (f p) (by rw [K.len]; simp [hc])
  simp only [List.append_nil, List.nil_append, List.length_nil] at h
  rw [h]
section
variable {α : Type} {f : α → List Value} {n : Nat} {T S : TypeId} {bytes : Nat} {z : Value}
theorem op_one (K : Kind f n T S bytes z) (hn : n ≤ 1000) {o : Oper} {a : Act} {w : World} {K9 : Act → World → Prop} {Q : Exit → Act → World → Prop} (x : Operand) (ho : o.op = .buildSlice S 1 #[(0, x)]) (p : α) (hx : a.eval x = .agg (f p).toArray)
    (h : K9 (a.put o.dst (.slice (some ⟨w.heap.size, 0, none⟩) 1 1)) (w.alloc (.cells (f p).toArray T))) : o.wp Try.prog a w K9 Q := by
  obtain ⟨i0, hi, hz0, hz1, hz2⟩ := info_parts K.info
  subst hz1
  have hp := K.pos
  exact wp_buildSlice S T 1 _ ho (f p).toArray i0 z K.slice hi hz0 (by omega) (by omega) (by
    have e : (#[(0, x)].map fun (i, x) => (i, a.eval x)).toList = [(0, .agg (f p).toArray)] := by simp [hx]
    rw [e]
    exact fill_one K p _ (by simp)) h
theorem wp_one (K : Kind f n T S bytes z) (hn : n ≤ 1000) {ops : Array Oper} {rest : List Oper} {o : Oper} {a : Act} {w : World} {Q : Exit → Act → World → Prop} (hgd : o.guard = none) (x : Operand) (ho : o.op = .buildSlice S 1 #[(0, x)]) (p : α) (hx : a.eval x = .agg (f p).toArray)
    (h : wpList Try.prog ops Q rest (a.put o.dst (.slice (some ⟨w.heap.size, 0, none⟩) 1 1)) (w.alloc (.cells (f p).toArray T))) : wpList Try.prog ops Q (o :: rest) a w :=
  wpList_plain hgd fun _ hK => op_one K hn x ho p hx (hK _ _ h)
theorem step_one (K : Kind f n T S bytes z) (hn : n ≤ 1000) {ops : Array Oper} {o : Oper} {a : Act} {w : World} {K9 : Act → World → Prop} {Q : Exit → Act → World → Prop} {E : Prop} (hgd : o.guard = none) (x : Operand) (ho : o.op = .buildSlice S 1 #[(0, x)]) (p : α) (hx : a.eval x = .agg (f p).toArray)
    (h : K9 (a.put o.dst (.slice (some ⟨w.heap.size, 0, none⟩) 1 1)) (w.alloc (.cells (f p).toArray T))) : if Region.wanted o (yielded ops a.tmps) = true then Oper.wp Try.prog o a w K9 Q else E := by
  have hw : Region.wanted o (yielded ops a.tmps) = true := by simp [Region.wanted, hgd]
  rw [if_pos hw]
  exact op_one K hn x ho p hx h
end

end Go.Proofs.Ytabogconbjdcgaa.Cd

/-
  object.getKids. Conditions: none.
-/
namespace Go.Proofs.Ytabogconbjdcgaa.Cd
open Go.RowKit

/-- What reading a list leaves: a row of the call's own, and the reader. -/
def GotKs (w : World) (g : Nat) (s : StK) (e : Ending) (w' : World) : Prop := ∃ v, e = .returned v ∧ OwnRw kkC 34 59 w' w.heap.size v s.l ∧ Left w g s.bs s.bad w'

set_option maxRecDepth 100000 in
set_option maxHeartbeats 1600000 in
theorem getks_any (g : Nat) (bs : List UInt8) (bad : Bool) (w : World) (hr : Rd w g bs bad) (hbb : Sane bad bs) (hs : bs.length ≤ 1000000) :
    Calls Try.prog 35 #[.pointer (some ⟨g, 0, none⟩)] w (GotKs w g (atK ⟨[], gbB bad bs, gbX bad bs⟩ (gbV bad bs).toNat)) := by
  have hg0 := hr.lt
  have hgb := getb_any g bs bad w hr hbb (by omega)
  have hsn := sane_gb bad bs
  have hbs : (gbB bad bs).length ≤ 1000000 := Nat.le_trans (tkB_len _ _ _) hs
  have hcb := byte_lt (gbV bad bs)
  generalize (gbV bad bs).toNat = n at *
  obtain ⟨s0, hs0⟩ : ∃ s, (⟨[], gbB bad bs, gbX bad bs⟩ : StK) = s := ⟨_, rfl⟩
  have e1 : gbB bad bs = s0.bs := by rw [← hs0]
  have e2 : gbX bad bs = s0.bad := by rw [← hs0]
  have e3 : s0.l = [] := by rw [← hs0]
  rw [hs0]
  rw [e1, e2] at hgb hsn
  rw [e1] at hbs
  have HGB := Lib.hid hgb
  have HSN := Lib.hid hsn
  have HL0 := Lib.hid e3
  clear hgb hsn hs0 e1 e2 e3 hr hbb
  go_enter Try.func35, Try.ntmps35
  go_wp2_with fail
  refine HGB.out.mono ?_
  rintro e w1 ⟨rfl, hl1⟩
  have HR1 := Lib.hid hl1.1
  have HW1 := Lib.hid hl1.2
  have hz1 := hl1.2.size
  clear hl1
  go_wp2_with fail
  go_loopw [3, 7] (fun v i wr => ∃ k : Nat, i = .int .u8 k ∧ k ≤ n ∧ Hid (OwnRw kkC 34 59 wr w.heap.size v (atK s0 k).l) ∧ Hid (Rd wr g (atK s0 k).bs (atK s0 k).bad) ∧ Hid (w.grownBy wr (some g))) (fun _ i _ => n - (intOf i).toNat)
  case atStart => exact ⟨0, rfl, by omega, (by unfold Hid; show OwnRw _ _ _ _ _ _ s0.l; rw [HL0.out]; exact OwnRw.nil _ _), HR1.out, HW1.out⟩
  case round =>
    clear HR1 HW1 hz1
    obtain ⟨k, rfl, hk, ho, hrd, hw⟩ := hrel
    have hsq := sane_atK HSN.out k
    have hlq := len_atK s0 k
    have hl0 : s0.l.length = 0 := by rw [HL0.out]; rfl
    have hlk : (atK s0 k).l.length ≤ 256 := by omega
    have hlb : (atK s0 k).bs.length ≤ 1000000 := by omega
    have hzr := hw.out.size
    by_cases hlt : k < n
    · have hnx : Hid (atK s0 (k + 1) = ⟨(atK s0 k).l ++ [(txV 16 (atK s0 k).bs, gnV (txX 16 (atK s0 k).bs) (txB 16 (atK s0 k).bs))], gnB (txX 16 (atK s0 k).bs) (txB 16 (atK s0 k).bs), gnX (txX 16 (atK s0 k).bs) (txB 16 (atK s0 k).bs)⟩) := rfl
      generalize atK s0 k = q at *
      obtain ⟨l, b, x⟩ := q
      simp only at *
      have hb2 := txB_len 16 b
      have HT1 := Lib.hid (rtext_any g 16 b x wr hrd.out hsq (by omega) (by omega))
      have HS2 : Hid (Sane (txX 16 b) (txB 16 b)) := Sane.tx 16 b
      generalize txX 16 b = x1 at *
      generalize txB 16 b = b1 at *
      generalize txV 16 b = s1 at *
      have hT2 := fun W h => getn_any g b1 x1 W h HS2.out (by omega)
      have HT2 := Lib.hid hT2
      clear hT2
      generalize gnX x1 b1 = x2 at *
      generalize gnB x1 b1 = b2 at *
      generalize gnV x1 b1 = s2 at *
      clear hsq hlq
      go_wp2_with fail
      refine HT1.out.mono ?_
      rintro e w2 ⟨rfl, hl2⟩
      have HR2 := Lib.hid hl2.1
      have HW2 := Lib.hid (grown_then hw.out hl2.2)
      have HO2 := Lib.hid (ho.out.far hl2.2 (by omega))
      clear hl2
      go_wp2_with fail
      refine (HT2.out _ HR2.out).mono ?_
      rintro e w3 ⟨rfl, hl3⟩
      have HR3 := Lib.hid hl3.1
      have HW3 := Lib.hid (grown_then HW2.out hl3.2)
      have HO3 := Lib.hid (HO2.out.far hl3.2 (by omega))
      clear hl3
      have hz3 := HW3.out.size
      go_wp2_with (first | (refine wp_build_kk rfl _ _ rfl s1 s2 rfl rfl ?_) | (refine wp_one kind_kk (by omega) rfl _ rfl (s1, s2) rfl ?_) | refine wp_append_rw kind_kk rfl _ _ rfl rfl (HO3.out.alloc _) (by simp; omega) _ _ [(s1, s2)] rfl (rw_one kind_kk w3 (s1, s2) 59 _ rfl) (by simp only [List.length_singleton]; omega) ?_)
      intro v4 w4 ho4 hb4 hg4
      have HO4 := Lib.hid ho4
      have hb5 : Below w.heap.size w3 w4 := ((Below.refl w.heap.size w3).alloc hz3 _).trans hb4
      have HW4 : Hid (w.grownBy w4 (some g)) := grown_low HW3.out hb5 (Nat.le_refl _)
      have HR4 : Hid (Rd w4 g b2 x2) := HR3.out.below hb5 hg0
      clear hb4 hg4 hb5 ho4
      go_wp2_with fail
      go_roundw
      case rel => exact ⟨k + 1, by go_num, by omega, by rw [hnx.out]; exact HO4.out, by rw [hnx.out]; exact HR4.out, HW4.out⟩
      case measure => simp [intOf]; omega
    · have hkn : k = n := by omega
      subst hkn
      go_wp2_with fail
      go_ret
      exact ⟨_, rfl, ho.out, hrd.out, hw.out⟩

end Go.Proofs.Ytabogconbjdcgaa.Cd

/-
  object.GetTree. Conditions: none.
-/
namespace Go.Proofs.Ytabogconbjdcgaa.Cd
open Go.RowKit

theorem zero_tr (W : World) : (zeroValue 25).run Try.prog W = .ok (.agg #[.slice none 0 0, .slice none 0 0]) W := by kernel_rfl
theorem size_tr : (Try.prog.info? 25).map (·.size) = some 2 := by kernel_rfl
/-- Block g is a tree. -/
def TrAt (w : World) (g : Nat) (vp vk : Value) : Prop := w.heap[g]? = some (.cells #[vp, vk] 25)
theorem TrAt.new (w : World) (vp vk : Value) : TrAt (w.alloc (.cells #[vp, vk] 25)) w.heap.size vp vk := heap_alloc_new _ _
theorem TrAt.lt {w : World} {g : Nat} {vp vk : Value} (h : TrAt w g vp vk) : g < w.heap.size := (Array.getElem?_eq_some_iff.1 h).1
theorem TrAt.below {w w' : World} {g B : Nat} {vp vk : Value} (h : TrAt w g vp vk) (hb : Below B w w') (hB : g < B) : TrAt w' g vp vk := (hb.block g hB).trans h
theorem TrAt.far {w w' : World} {g g' : Nat} {vp vk : Value} (h : TrAt w g vp vk) (hg : w.grownBy w' (some g')) (hne : g ≠ g') : TrAt w' g vp vk := (hg.block g h.lt (fun e => hne (by injection e))).trans h
theorem TrAt.c0 {w : World} {g : Nat} {vp vk : Value} (h : TrAt w g vp vk) : w.cell? ⟨g, 0, none⟩ = some vp := cell_of_row _ _ _ _ _ _ h
theorem TrAt.c1 {w : World} {g : Nat} {vp vk : Value} (h : TrAt w g vp vk) : w.cell? ⟨g, 1, none⟩ = some vk := cell_of_row _ _ _ _ _ _ h
theorem TrAt.frozen {w : World} {g : Nat} {vp vk : Value} (h : TrAt w g vp vk) (i : Nat) : w.frozen? ⟨g, i, none⟩ = false := by
  unfold TrAt at h
  simp [World.frozen?, h]
theorem TrAt.whole {w : World} {g : Nat} {vp vk : Value} (h : TrAt w g vp vk) (a b : Value) : TrAt ((w.setCell ⟨g, 0, none⟩ a).setCell ⟨g, 1, none⟩ b) g a b := by
  have h1 := heap_setCell_same _ g 0 _ _ a h
  exact heap_setCell_same _ g 1 _ _ b h1
theorem below_two {B : Nat} {w0 w : World} {g : Nat} (h : Below B w0 w) (hg : B ≤ g) (a b : Value) : Below B w0 ((w.setCell ⟨g, 0, none⟩ a).setCell ⟨g, 1, none⟩ b) :=
  (h.setCell (p := ⟨g, 0, none⟩) hg _).setCell (p := ⟨g, 1, none⟩) hg _
theorem OwnRw.two {α : Type} {f : α → List Value} {n : Nat} {T : TypeId} {w : World} {B : Nat} {v : Value} {l : List α} {g : Nat} (h : OwnRw f n T w B v l) (hg : g < B) (a b : Value) : OwnRw f n T ((w.setCell ⟨g, 0, none⟩ a).setCell ⟨g, 1, none⟩ b) B v l :=
  (h.put ⟨g, 0, none⟩ a hg).put ⟨g, 1, none⟩ b hg
theorem ret_tr {fn : Func} {p q : Tmp} (hf : fn.results = #[.cell p 25, .tmp q]) (tmps : Array Value) (w : World) (g : Nat) (vp vk x : Value)
    (hp : tmps.getD p undef = .pointer (some ⟨g, 0, none⟩)) (hg : TrAt w g vp vk) (hq : tmps.getD q undef = x) : (results fn tmps).run Try.prog w = .ok (.tuple #[.agg #[vp, vk], x]) w := by
  have hp' : tmps[p]?.getD undef = .pointer (some ⟨g, 0, none⟩) := by simpa using hp
  have hq' : tmps[q]?.getD undef = x := by simpa using hq
  have hld := run_loadVar_row (P := Try.prog) w g _ 25 _ _ _ hg Try.underlying25 rfl size_tr
  simp [results, hf, hp', hq', asAddr, hld]

/-- What Get leaves: the tree of the bytes, or the nought and ErrForm. -/
def GotT (b : List UInt8) (w : World) (e : Ending) (w' : World) : Prop :=
  ∃ (o : Option Tre) (v : Value) (n : Int), e = .returned (.tuple #[v, .int .i64 n]) ∧ GetsT b o ∧ Below w.heap.size w w' ∧ TreIn w' w'.heap.size v (o.getD ⟨[], []⟩) ∧ n = if o.isSome = true then 0 else 4

theorem got_none {b : List UInt8} {w w' : World} (h : GetsT b none) (hb : Below w.heap.size w w') : GotT b w (.returned (.tuple #[.agg #[.slice none 0 0, .slice none 0 0], .int .i64 4])) w' :=
  ⟨none, _, 4, rfl, h, hb, ⟨_, _, rfl, RwIn.nil _ _, RwIn.nil _ _⟩, rfl⟩

set_option maxRecDepth 100000 in
set_option maxHeartbeats 3200000 in
theorem gett_any (v : Value) (b : List UInt8) (w : World) (h : Sl w w.heap.size v b) (hs : b.length ≤ 100000) : Calls Try.prog 14 #[v] w (GotT b w) := by
  obtain ⟨A, c, rfl, _, _⟩ := h.len
  have hb1 : Below w.heap.size w (w.alloc (.cells #[.slice none 0 0, .slice none 0 0] 25)) := new_below _ _
  have hz1 : (w.alloc (.cells #[.slice none 0 0, .slice none 0 0] 25)).heap.size = w.heap.size + 1 := asz _ _
  have HT1 : Hid (TrAt (w.alloc (.cells #[.slice none 0 0, .slice none 0 0] 25)) w.heap.size (.slice none 0 0) (.slice none 0 0)) := TrAt.new _ _ _
  have HS1 : Hid (Sl (w.alloc (.cells #[.slice none 0 0, .slice none 0 0] 25)) (w.alloc (.cells #[.slice none 0 0, .slice none 0 0] 25)).heap.size (.slice A b.length c) b) := (h.below hb1).more hb1.size
  have HB1 := Lib.hid hb1
  clear h hb1
  have hl1 : (gbB false b).length ≤ 100000 := Nat.le_trans (tkB_len _ _ _) hs
  have HGP := Lib.hid (fun g W h => getps_any g (gbB false b) (gbX false b) W h (sane_gb _ _) (by omega))
  have HGK := Lib.hid (fun g W h => getks_any g (gbB false b) (gbX false b) W h (sane_gb _ _) (by omega))
  go_enter Try.func14, Try.ntmps14
  go_wp2_with (refine wp_alloc_row zero_tr rfl rfl ?_)
  generalize w.alloc (.cells #[.slice none 0 0, .slice none 0 0] 25) = w1 at *
  refine (read_any _ b w1 HS1.out).mono ?_
  rintro e w2 ⟨rfl, hr2, hb2⟩
  obtain ⟨g, hg⟩ : ∃ x, w1.heap.size = x := ⟨_, rfl⟩
  rw [hg] at hr2 hb2 ⊢
  have HB2 := Lib.hid (HB1.out.trans (hb2.mono (by omega)))
  have HT2 := Lib.hid (HT1.out.below hb2 (by omega))
  have HR2 := Lib.hid hr2
  have hz2 := hb2.size
  clear hb2 hr2 HB1 HT1 HS1
  have HGB := Lib.hid (getb_any g b false w2 HR2.out (fun h => by cases h) (by omega))
  go_wp2_with fail
  refine HGB.out.mono ?_
  rintro e w3 ⟨rfl, hl3⟩
  have HR3 := Lib.hid hl3.1
  have HB3 := Lib.hid (below_of_grown HB2.out hl3.2 (by omega) (by omega))
  have HT3 := Lib.hid (HT2.out.far hl3.2 (by omega))
  have hz3 : g ≤ w3.heap.size := by have := hl3.2.size; omega
  clear hl3 HB2 HT2 HR2 HGB
  by_cases h1 : gbV false b = 1
  · have hq1 : (((gbV false b).toNat : Int) == 1) = true := by rw [h1]; rfl
    have H1 := Lib.hid h1
    clear h1
    have hps : Hid (∀ (g : Nat) (W : World), Rd W g (gbB false b) (gbX false b) → Calls Try.prog 33 #[.pointer (some ⟨g, 0, none⟩)] W (GotPs W g (rdP b))) := HGP.out
    have hno : Hid (¬ ((rdP b).bad = false ∧ (rdP b).bs = [] ∧ GoodPs (rdP b).l) → GetsT b none) := fun hn => getT_nops H1.out hn
    have hyes : Hid ((rdP b).bad = false → (rdP b).bs = [] → GoodPs (rdP b).l → GetsT b (some ⟨(rdP b).l, []⟩)) := fun hb hn hg => getT_ps H1.out hb hn hg
    generalize rdP b = q at *
    generalize gbV false b = kk at *
    generalize gbB false b = b1 at *
    generalize gbX false b = x1 at *
    obtain ⟨l, bs, bad⟩ := q
    clear HGP HGK
    go_wp2_with fail
    refine (hps.out g w3 HR3.out).mono ?_
    rintro e w4 ⟨v4, rfl, ho4, hl4⟩
    have HR4 : Hid (Rd w4 g bs bad) := hl4.1
    have HB4 := Lib.hid (below_of_grown HB3.out hl4.2 (by omega) (by omega))
    have HT4 := Lib.hid (HT3.out.far hl4.2 (by omega))
    have HO4 : Hid (OwnRw ppC 2 56 w4 w3.heap.size v4 l) := ho4
    have hz4 : w3.heap.size ≤ w4.heap.size := hl4.2.size
    obtain ⟨A4, c4, e4, _, _⟩ := (ho4.rwIn kind_pp).len
    clear hl4 ho4 HB3 HT3 HR3
    subst e4
    go_wp2_with fail
    refine (end_any g bs bad w4 HR4.out).mono ?_
    rintro e w5 ⟨rfl, rfl⟩
    by_cases hend : bad = false ∧ bs = []
    · obtain ⟨rfl, rfl⟩ := hend
      have hyes2 : Hid (GoodPs l → GetsT b (some ⟨l, []⟩)) := fun hg => hyes.out rfl rfl hg
      have hno2 : Hid (¬ GoodPs l → GetsT b none) := fun hg => hno.out (fun hn => hg hn.2.2)
      clear hyes hno
      go_wp2_with fail
      refine (goodps_any _ l w4 (HO4.out.rwIn kind_pp)).mono ?_
      rintro e w5 ⟨s, rfl, hs5, hb5⟩
      have HB5 := Lib.hid (HB4.out.trans (hb5.mono (by omega)))
      have HT5 := Lib.hid (HT4.out.below hb5 (by omega))
      have HO5 := Lib.hid (HO4.out.keep hb5)
      clear hb5 HB4 HT4 HO4 HR4
      cases s
      · have hG : Hid (GetsT b none) := hno2.out (fun hn => by have := hs5.2 hn; cases this)
        clear hs5 hyes2 hno2
        have d0 := HT5.out.c0
        have d1 := HT5.out.c1
        have f0 := HT5.out.frozen 0
        have f1 := HT5.out.frozen 1
        go_wp2_with fail
        exact bodyPost_ret (ret_tr Try.results14 _ _ w.heap.size _ _ (.int .i64 4) rfl (HT5.out.whole _ _) rfl) rfl (got_none hG.out (below_two HB5.out (Nat.le_refl _) _ _))
      · have hG : Hid (GetsT b (some ⟨l, []⟩)) := hyes2.out (hs5.1 rfl)
        clear hs5 hyes2 hno2
        have d0 := HT5.out.c0
        have d1 := HT5.out.c1
        have f0 := HT5.out.frozen 0
        have f1 := HT5.out.frozen 1
        go_wp2_with fail
        refine bodyPost_ret (ret_tr Try.results14 _ _ w.heap.size _ _ (.int .i64 0) rfl (HT5.out.whole _ _) rfl) rfl ?_
        exact ⟨some ⟨l, []⟩, _, 0, rfl, hG.out, below_two HB5.out (Nat.le_refl _) _ _, ⟨_, _, rfl, (HO5.out.two (by omega) _ _).rwIn kind_pp, RwIn.nil _ _⟩, rfl⟩
    · have hG : Hid (GetsT b none) := hno.out (fun hn => hend ⟨hn.1, hn.2.1⟩)
      have hbb : (!bad && bs.isEmpty) = false := by
        cases bad
        · cases bs
          · exact absurd ⟨rfl, rfl⟩ hend
          · rfl
        · rfl
      rw [hbb]
      clear hend hbb hno hyes
      have d0 := HT4.out.c0
      have d1 := HT4.out.c1
      have f0 := HT4.out.frozen 0
      have f1 := HT4.out.frozen 1
      go_wp2_with fail
      exact bodyPost_ret (ret_tr Try.results14 _ _ w.heap.size _ _ (.int .i64 4) rfl (HT4.out.whole _ _) rfl) rfl (got_none hG.out (below_two HB4.out (Nat.le_refl _) _ _))
  · have hq1 : (((gbV false b).toNat : Int) == 1) = false := by
      rw [beq_eq_false_iff_ne]
      exact fun e => h1 (UInt8.toNat_inj.1 (by show _ = 1; omega))
    by_cases h2 : gbV false b = 2
    · have hq2 : (((gbV false b).toNat : Int) == 2) = true := by rw [h2]; rfl
      have H1 := Lib.hid h2
      clear h1 h2
      have hps : Hid (∀ (g : Nat) (W : World), Rd W g (gbB false b) (gbX false b) → Calls Try.prog 35 #[.pointer (some ⟨g, 0, none⟩)] W (GotKs W g (rdK b))) := HGK.out
      have hno : Hid (¬ ((rdK b).bad = false ∧ (rdK b).bs = [] ∧ GoodKs (rdK b).l) → GetsT b none) := fun hn => getT_noks H1.out hn
      have hyes : Hid ((rdK b).bad = false → (rdK b).bs = [] → GoodKs (rdK b).l → GetsT b (some ⟨[], (rdK b).l⟩)) := fun hb hn hg => getT_ks H1.out hb hn hg
      generalize rdK b = q at *
      generalize gbV false b = kk at *
      generalize gbB false b = b1 at *
      generalize gbX false b = x1 at *
      obtain ⟨l, bs, bad⟩ := q
      clear HGP HGK
      go_wp2_with fail
      refine (hps.out g w3 HR3.out).mono ?_
      rintro e w4 ⟨v4, rfl, ho4, hl4⟩
      have HR4 : Hid (Rd w4 g bs bad) := hl4.1
      have HB4 := Lib.hid (below_of_grown HB3.out hl4.2 (by omega) (by omega))
      have HT4 := Lib.hid (HT3.out.far hl4.2 (by omega))
      have HO4 : Hid (OwnRw kkC 34 59 w4 w3.heap.size v4 l) := ho4
      have hz4 : w3.heap.size ≤ w4.heap.size := hl4.2.size
      obtain ⟨A4, c4, e4, _, _⟩ := (ho4.rwIn kind_kk).len
      clear hl4 ho4 HB3 HT3 HR3
      subst e4
      go_wp2_with fail
      refine (end_any g bs bad w4 HR4.out).mono ?_
      rintro e w5 ⟨rfl, rfl⟩
      by_cases hend : bad = false ∧ bs = []
      · obtain ⟨rfl, rfl⟩ := hend
        have hyes2 : Hid (GoodKs l → GetsT b (some ⟨[], l⟩)) := fun hg => hyes.out rfl rfl hg
        have hno2 : Hid (¬ GoodKs l → GetsT b none) := fun hg => hno.out (fun hn => hg hn.2.2)
        clear hyes hno
        go_wp2_with fail
        refine (goodks_any _ l w4 (HO4.out.rwIn kind_kk)).mono ?_
        rintro e w5 ⟨s, rfl, hs5, hb5⟩
        have HB5 := Lib.hid (HB4.out.trans (hb5.mono (by omega)))
        have HT5 := Lib.hid (HT4.out.below hb5 (by omega))
        have HO5 := Lib.hid (HO4.out.keep hb5)
        clear hb5 HB4 HT4 HO4 HR4
        cases s
        · have hG : Hid (GetsT b none) := hno2.out (fun hn => by have := hs5.2 hn; cases this)
          clear hs5 hyes2 hno2
          have d0 := HT5.out.c0
          have d1 := HT5.out.c1
          have f0 := HT5.out.frozen 0
          have f1 := HT5.out.frozen 1
          go_wp2_with fail
          exact bodyPost_ret (ret_tr Try.results14 _ _ w.heap.size _ _ (.int .i64 4) rfl (HT5.out.whole _ _) rfl) rfl (got_none hG.out (below_two HB5.out (Nat.le_refl _) _ _))
        · have hG : Hid (GetsT b (some ⟨[], l⟩)) := hyes2.out (hs5.1 rfl)
          clear hs5 hyes2 hno2
          have d0 := HT5.out.c0
          have d1 := HT5.out.c1
          have f0 := HT5.out.frozen 0
          have f1 := HT5.out.frozen 1
          go_wp2_with fail
          refine bodyPost_ret (ret_tr Try.results14 _ _ w.heap.size _ _ (.int .i64 0) rfl (HT5.out.whole _ _) rfl) rfl ?_
          exact ⟨some ⟨[], l⟩, _, 0, rfl, hG.out, below_two HB5.out (Nat.le_refl _) _ _, ⟨_, _, rfl, RwIn.nil _ _, (HO5.out.two (by omega) _ _).rwIn kind_kk⟩, rfl⟩
      · have hG : Hid (GetsT b none) := hno.out (fun hn => hend ⟨hn.1, hn.2.1⟩)
        have hbb : (!bad && bs.isEmpty) = false := by
          cases bad
          · cases bs
            · exact absurd ⟨rfl, rfl⟩ hend
            · rfl
          · rfl
        rw [hbb]
        clear hend hbb hno hyes
        have d0 := HT4.out.c0
        have d1 := HT4.out.c1
        have f0 := HT4.out.frozen 0
        have f1 := HT4.out.frozen 1
        go_wp2_with fail
        exact bodyPost_ret (ret_tr Try.results14 _ _ w.heap.size _ _ (.int .i64 4) rfl (HT4.out.whole _ _) rfl) rfl (got_none hG.out (below_two HB4.out (Nat.le_refl _) _ _))
    · have hq2 : (((gbV false b).toNat : Int) == 2) = false := by
        rw [beq_eq_false_iff_ne]
        exact fun e => h2 (UInt8.toNat_inj.1 (by show _ = 2; omega))
      have hG := Lib.hid (getT_else h1 h2)
      generalize gbV false b = kk at *
      clear h1 h2 HGP HGK
      have d0 := HT3.out.c0
      have d1 := HT3.out.c1
      have f0 := HT3.out.frozen 0
      have f1 := HT3.out.frozen 1
      go_wp2_with fail
      exact bodyPost_ret (ret_tr Try.results14 _ _ w.heap.size _ _ (.int .i64 4) rfl (HT3.out.whole _ _) rfl) rfl (got_none hG.out (below_two HB3.out (Nat.le_refl _) _ _))

end Go.Proofs.Ytabogconbjdcgaa.Cd

/-
  What the laws of trees and commits ask first: alive, greatTree, greatCommit. Conditions: texts of fewer than 2^47 bytes.
-/
namespace Go.Proofs.Ytabogconbjdcgaa.Cd
open Go.RowKit

theorem goodT_nil : GoodT ⟨[], []⟩ := .inl ⟨rfl, ⟨by simp, (fun _ h => by cases h), (fun _ h => by cases h), fun j a b h => by simp at h⟩⟩
theorem treeB_nil : treeB ⟨[], []⟩ = [1, 0] := rfl

set_option maxRecDepth 100000 in
set_option maxHeartbeats 1600000 in
theorem oalive_any (w : World) : Calls Try.prog 8 #[] w (Gives (.bool true) w) := by
  have hp := putt_any (.agg #[.slice none 0 0, .slice none 0 0]) ⟨[], []⟩ w ⟨_, _, rfl, RwIn.nil _ _, RwIn.nil _ _⟩
  rw [treeB_nil] at hp
  have HP := Lib.hid hp
  clear hp
  go_enter Try.func8, Try.ntmps8
  go_wp2_with fail
  refine HP.out.mono ?_
  rintro e w1 ⟨v, n, rfl, hb1, h⟩
  rcases h with ⟨_, rfl, ho⟩ | ⟨hno, _⟩
  · have hcv := run_text_of _ _ _ _ ho.sl
    have HB := Lib.hid hb1
    clear ho hb1
    have hq : (ByteArray.mk [1, 0].toArray == ByteArray.mk #[1, 0]) = true := by decide
    go_wp2_with fail
    go_ret
    exact ⟨rfl, HB.out⟩
  · exact absurd goodT_nil hno

/-! ### Not too much -/

structure FitT (t : Tre) : Prop where
  key : ∀ p ∈ t.ps, p.1.length ≤ 140737488351232
  val : ∀ p ∈ t.ps, p.2.length ≤ 140737488351232
  kid : ∀ p ∈ t.ks, p.1.length ≤ 140737488351232
structure SmallT (t : Tre) : Prop where
  ps : t.ps.length ≤ 50
  ks : t.ks.length ≤ 50
  key : ∀ p ∈ t.ps, p.1.length ≤ 4096
  val : ∀ p ∈ t.ps, p.2.length ≤ 4096
  kid : ∀ p ∈ t.ks, p.1.length ≤ 4096
/-- What a question answers, of which only the no matters. -/
def Asks (P : Prop) (w : World) (e : Ending) (w' : World) : Prop := ∃ s : Bool, e = .returned (.bool s) ∧ (s = false → P) ∧ Below w.heap.size w w'

set_option maxRecDepth 100000 in
set_option maxHeartbeats 3200000 in
theorem greatt_any (v : Value) (t : Tre) (w : World) (h : TreIn w w.heap.size v t) (hf : FitT t) : Calls Try.prog 9 #[v] w (Asks (SmallT t) w) := by
  obtain ⟨ps, ks⟩ := t
  obtain ⟨vp, vk, rfl, h1, h2⟩ := h
  have h1 : PsIn w w.heap.size vp ps := h1
  have h2 : KsIn w w.heap.size vk ks := h2
  obtain ⟨A1, c1, e1, k1, l1⟩ := h1.len
  obtain ⟨A2, c2, e2, k2, l2⟩ := h2.len
  have HF := Lib.hid hf
  have H1 : Hid (PsIn w w.heap.size vp ps) := h1
  have H2 : Hid (KsIn w w.heap.size vk ks) := h2
  clear h1 h2 hf
  subst e1 e2
  have HB0 : Hid (Below w.heap.size w (w.alloc (.cells #[.slice A1 ps.length c1, .slice A2 ks.length c2] 25))) := new_below _ _
  have HT0 : Hid (TrAt (w.alloc (.cells #[.slice A1 ps.length c1, .slice A2 ks.length c2] 25)) w.heap.size (.slice A1 ps.length c1) (.slice A2 ks.length c2)) := TrAt.new _ _ _
  have hz0 : w.heap.size < (w.alloc (.cells #[.slice A1 ps.length c1, .slice A2 ks.length c2] 25)).heap.size := by simp
  by_cases hbig : 50 < ps.length ∨ 50 < ks.length
  · have hways : (50 : Int) < ps.length ∨ (¬ (50 : Int) < ps.length ∧ (50 : Int) < ks.length) := by omega
    clear hbig
    rcases hways with h1 | ⟨h1, h2⟩
    all_goals
      go_enter Try.func9, Try.ntmps9
      go_wp2_with fail
      go_ret
      exact ⟨true, rfl, (fun h => by cases h), HB0.out⟩
  have hb1 : ¬ (50 : Int) < ps.length := by omega
  have hb2 : ¬ (50 : Int) < ks.length := by omega
  have hd1 : decide ((50 : Int) < ps.length) = false := decide_eq_false hb1
  have hd2 : decide ((50 : Int) < ks.length) = false := decide_eq_false hb2
  have hp50 : ps.length ≤ 50 := by omega
  have hk50 : ks.length ≤ 50 := by omega
  clear hbig
  go_enter Try.func9, Try.ntmps9
  go_wp2_with fail
  generalize w.alloc (.cells #[.slice A1 ps.length c1, .slice A2 ks.length c2] 25) = w0 at *
  go_loopw [3, 21] (fun n i wr => ∃ k tot : Nat, i = .int .i64 k ∧ n = .int .i64 tot ∧ k ≤ ps.length ∧ tot ≤ 4096 ∧ Hid (∀ (j : Nat) p, j < k → ps[j]? = some p → p.1.length ≤ 4096 ∧ p.2.length ≤ 4096) ∧ Hid (Below w.heap.size w wr) ∧ Hid (TrAt wr w.heap.size (.slice A1 ps.length c1) (.slice A2 ks.length c2)) ∧ w.heap.size < wr.heap.size) (fun _ i _ => ps.length - (intOf i).toNat)
  case atStart => exact ⟨0, 0, rfl, rfl, by omega, by omega, fun j _ h => by omega, HB0.out, HT0.out, hz0⟩
  case round =>
    clear HB0 HT0 hz0
    obtain ⟨k, tot, rfl, rfl, hk, htot, hp, hbl, htr, hzr⟩ := hrel
    by_cases hlt : k < ps.length
    · obtain ⟨x, hxk⟩ : ∃ x, ps[k]? = some x := ⟨ps[k], List.getElem?_eq_getElem hlt⟩
      obtain ⟨b2, off2, e2, hB2, d0, d1⟩ := PsIn.at2 (H1.out.below hbl.out) hxk
      subst e2
      have HX := Lib.hid hxk
      have hf1 := HF.out.key x (List.mem_of_getElem? hxk)
      have hf2 := HF.out.val x (List.mem_of_getElem? hxk)
      clear hxk
      have hb3 : Below wr.heap.size wr (wr.alloc (.cells #[.string ⟨x.1.toArray⟩, .string ⟨x.2.toArray⟩] 56)) := new_below _ _
      have HB3 := Lib.hid (hbl.out.trans (hb3.mono (by omega)))
      have HT3 := Lib.hid (htr.out.below hb3 hzr)
      have hz3 : w.heap.size < (wr.alloc (.cells #[.string ⟨x.1.toArray⟩, .string ⟨x.2.toArray⟩] 56)).heap.size := by simp; omega
      clear hb3
      have hzx1 : (ByteArray.mk x.1.toArray).size = x.1.length := rfl
      have hzx2 : (ByteArray.mk x.2.toArray).size = x.2.length := rfl
      have hs1 : IntKind.i64.wrap ((tot : Int) + ((x.1.length : Int) + (x.2.length : Int))) = ((tot + (x.1.length + x.2.length) : Nat) : Int) := by rw [IntWalk.i64_in _ (by omega)]; omega
      by_cases hov : 4096 < tot + (x.1.length + x.2.length)
      · have hov' : (4096 : Int) < (tot : Int) + ((x.1.length : Int) + (x.2.length : Int)) := by omega
        clear hov
        go_wp2_with fail
        go_ret
        exact ⟨true, rfl, (fun h => by cases h), HB3.out⟩
      · have hov' : ¬ (4096 : Int) < (tot : Int) + ((x.1.length : Int) + (x.2.length : Int)) := by omega
        have hp2 : Hid (∀ (j : Nat) p, j < k + 1 → ps[j]? = some p → p.1.length ≤ 4096 ∧ p.2.length ≤ 4096) := fun j p hj hjp => by
          by_cases e : j = k
          · subst e
            rw [HX.out] at hjp
            injection hjp with hjp
            subst hjp
            exact ⟨by omega, by omega⟩
          · exact hp.out j p (by omega) hjp
        go_wp2_with fail
        go_roundw
        case rel => exact ⟨k + 1, tot + (x.1.length + x.2.length), by go_num, by go_num, by omega, by omega, hp2, HB3.out, HT3.out, hz3⟩
        case measure => simp [intOf]; omega
    · have hps : Hid (∀ p ∈ ps, p.1.length ≤ 4096 ∧ p.2.length ≤ 4096) := fun p hpl => by
        obtain ⟨j, hj, rfl⟩ := List.getElem_of_mem hpl
        exact hp.out j _ (by omega) (List.getElem?_eq_getElem hj)
      have d1 := htr.out.c1
      clear hp
      go_wp2_with fail
      go_loopw [3, 40] (fun n i wx => ∃ k tot : Nat, i = .int .i64 k ∧ n = .int .i64 tot ∧ k ≤ ks.length ∧ tot ≤ 4096 ∧ Hid (∀ (j : Nat) p, j < k → ks[j]? = some p → p.1.length ≤ 4096) ∧ Hid (Below w.heap.size w wx)) (fun _ i _ => ks.length - (intOf i).toNat)
      case atStart => exact ⟨0, tot, rfl, rfl, by omega, by omega, fun j _ h => by omega, hbl.out⟩
      case round =>
        clear htr hbl hzr d1 htot
        obtain ⟨k, tot, rfl, rfl, hk, htot, hp, hbl⟩ := hrel
        by_cases hlt : k < ks.length
        · obtain ⟨x, hxk⟩ : ∃ x, ks[k]? = some x := ⟨ks[k], List.getElem?_eq_getElem hlt⟩
          obtain ⟨b2, off2, e2, hB2, rx⟩ := KsIn.range (H2.out.below hbl.out) hxk
          subst e2
          have RX := Lib.hid rx
          have HX := Lib.hid hxk
          have hf1 := HF.out.kid x (List.mem_of_getElem? hxk)
          clear hxk rx
          have HB3 : Hid (Below w.heap.size w (wr.alloc (.cells (kkC x).toArray 59))) := hbl.out.alloc hbl.out.size _
          have HK : Hid (KidAt (wr.alloc (.cells (kkC x).toArray 59)) wr.heap.size x) := KidAt.new _ _
          have d0 := HK.out.key
          have hzx1 : (ByteArray.mk x.1.toArray).size = x.1.length := rfl
          by_cases hov : 4096 < tot + x.1.length
          · have hov' : (4096 : Int) < (tot : Int) + (x.1.length : Int) := by omega
            clear hov
            go_wp2_with (first
              | (refine wpList_load_mid rfl 59 _ rfl b2 (off2 + k * 34) rfl (kkC x) _ RX.out Try.underlying59 rfl (cells_kk x) ?_)
              | (refine wp_alloc_row zero_kk rfl rfl ?_)
              | (refine wp_fill_kk rfl _ _ rfl rfl (by simp [Act.eval, Act.put]) x rfl ?_))
            go_ret
            exact ⟨true, rfl, (fun h => by cases h), HB3.out⟩
          · have hov' : ¬ (4096 : Int) < (tot : Int) + (x.1.length : Int) := by omega
            have hp2 : Hid (∀ (j : Nat) p, j < k + 1 → ks[j]? = some p → p.1.length ≤ 4096) := fun j p hj hjp => by
              by_cases e : j = k
              · subst e
                rw [HX.out] at hjp
                injection hjp with hjp
                subst hjp
                omega
              · exact hp.out j p (by omega) hjp
            go_wp2_with (first
              | (refine wpList_load_mid rfl 59 _ rfl b2 (off2 + k * 34) rfl (kkC x) _ RX.out Try.underlying59 rfl (cells_kk x) ?_)
              | (refine wp_alloc_row zero_kk rfl rfl ?_)
              | (refine wp_fill_kk rfl _ _ rfl rfl (by simp [Act.eval, Act.put]) x rfl ?_))
            go_roundw
            case rel => exact ⟨k + 1, tot + x.1.length, by go_num, by go_num, by omega, by omega, hp2, HB3.out⟩
            case measure => simp [intOf]; omega
        · have hyes : Hid (SmallT ⟨ps, ks⟩) := ⟨hp50, hk50, fun p h => (hps.out p h).1, fun p h => (hps.out p h).2, fun p hpl => by
            obtain ⟨j, hj, rfl⟩ := List.getElem_of_mem hpl
            exact hp.out j _ (by have : ks.length ≤ k := by omega
                                 have hj' : j < ks.length := hj
                                 omega) (List.getElem?_eq_getElem hj)⟩
          clear hp
          go_wp2_with fail
          go_ret
          exact ⟨false, rfl, fun _ => hyes.out, hbl.out⟩

structure SmallC (c : Cmt) : Prop where
  is : c.is.length ≤ 50
  note : c.note.length ≤ 1024

set_option maxRecDepth 100000 in
set_option maxHeartbeats 1600000 in
theorem greatc_any (v : Value) (c : Cmt) (w : World) (h : CmtIn w w.heap.size v c) : Calls Try.prog 17 #[v] w (Asks (SmallC c) w) := by
  obtain ⟨vi, rfl, hi⟩ := h
  obtain ⟨A, cc, rfl, k1, l1⟩ := hi.len
  have HB1 : Hid (Below w.heap.size w (w.alloc (.cells (cmC c (.slice A c.is.length cc)).toArray 44))) := new_below _ _
  have HC : Hid (ComAt (w.alloc (.cells (cmC c (.slice A c.is.length cc)).toArray 44)) w.heap.size c (.slice A c.is.length cc)) := ComAt.new _ _ _
  have hzn : (ByteArray.mk c.note.toArray).size = c.note.length := rfl
  go_enter Try.func17, Try.ntmps17
  have d33 := HC.out.is
  have d34 := HC.out.note
  rcases (by omega : 50 < c.is.length ∨ (¬ 50 < c.is.length ∧ 1024 < c.note.length) ∨ (¬ 50 < c.is.length ∧ ¬ 1024 < c.note.length)) with h1 | ⟨h1, h2⟩ | ⟨h1, h2⟩
  · have q1 : (50 : Int) < c.is.length := by omega
    go_wp2_with (refine wp_box_row rfl _ rfl rfl ?_)
    go_ret
    exact ⟨true, rfl, (fun h => by cases h), HB1.out⟩
  · have q1 : ¬ (50 : Int) < c.is.length := by omega
    have q2 : (1024 : Int) < c.note.length := by omega
    go_wp2_with (refine wp_box_row rfl _ rfl rfl ?_)
    go_ret
    exact ⟨_, rfl, (fun h => by simp at h), HB1.out⟩
  · have q1 : ¬ (50 : Int) < c.is.length := by omega
    have q2 : ¬ (1024 : Int) < c.note.length := by omega
    go_wp2_with (refine wp_box_row rfl _ rfl rfl ?_)
    go_ret
    exact ⟨_, rfl, fun _ => ⟨by omega, by omega⟩, HB1.out⟩

end Go.Proofs.Ytabogconbjdcgaa.Cd

/-
  Trees and commits as arguments: how they read, how large they can be. Conditions: none.
-/
namespace Go.Proofs.Ytabogconbjdcgaa.Cd
open Go.RowKit Go.ChangeShapes Go.WideShapes Go.Deep Go.Joins

theorem weights_mem_all {H : Type} {e : TypeId} : ∀ {l : List (DataW H)} {d : DataW H}, d ∈ l → ∀ n ∈ d.weights Try.prog e, n ∈ DataW.weightsAll Try.prog e l
  | [], _, h, _, _ => by cases h
  | x :: r, d, h, n, hn => by
    unfold DataW.weightsAll
    rcases List.mem_cons.1 h with rfl | h
    · exact List.mem_append_left _ hn
    · exact List.mem_append_right _ (weights_mem_all h n hn)

theorem cells_s1 : Try.prog.cellsOf 9 = 1 := by kernel_rfl
theorem cells_b1 : Try.prog.cellsOf 5 = 1 := by kernel_rfl
theorem cells_sum : Try.prog.cellsOf 39 = 32 := by kernel_rfl
theorem cells_ps : Try.prog.cellsOf 56 = 2 := by kernel_rfl
theorem cells_ks : Try.prog.cellsOf 59 = 34 := by kernel_rfl
theorem cells_is : Try.prog.cellsOf 41 = 33 := by kernel_rfl
theorem cells_sis : Try.prog.cellsOf 42 = 1 := by kernel_rfl
theorem cells_cms : Try.prog.cellsOf 44 = 36 := by kernel_rfl
theorem cells_n1 : Try.prog.cellsOf 3 = 1 := by kernel_rfl

/-- A name's cells that are read. -/
theorem id_cells {H : Type} {enc : TypeId × Value → H} {w : World} {m : Nat} {cs : List Value} {x : DataW H × List MemPlace} (hlen : cs.length = 33)
    (h : DataW.trod enc Try.prog w 0 (fun _ => true) true m 41 cs = some x) : ∃ i : Idn, cs = vb i.1 := by
  obtain ⟨y0, y1, n, hx, hl, h0, h1⟩ := trod_struct2 Try.underlying41 h
  obtain ⟨xs, m, _, _, hl2, hl3, h2⟩ := DataW.trod_array Try.underlying39 h1
  have hcell : ∀ i, i < 33 → ∃ c : UInt8, cs[i]? = some (.int .u8 c.toNat) := by
    intro i hi
    cases i with
    | zero =>
      obtain ⟨c, hc⟩ := ione_byte h0
      refine ⟨c, ?_⟩
      have := congrArg (fun l => l[0]?) hc
      simpa [cells_b1, List.getElem?_take] using this
    | succ i =>
      have h3 := h2 i (by omega)
      rw [List.getElem?_eq_getElem (by omega)] at h3
      obtain ⟨c, hc⟩ := ione_byte h3
      refine ⟨c, ?_⟩
      have := congrArg (fun l => l[0]?) hc
      have hi2 : i < 32 := by omega
      simp [cells_b1, cells_sum, List.getElem?_drop, hi2] at this
      exact this
  obtain ⟨l, e1, e2⟩ := bytes_of_cells 33 cs hlen hcell
  exact ⟨⟨l, e1⟩, e2⟩

section
variable {α : Type} [Inhabited α] {f : α → List Value} {n : Nat} {T S : TypeId}

/-- Cells that are read as a slice of things, where each thing's cells are read as one. -/
theorem rw_of_cells {H : Type} {enc : TypeId × Value → H} {w : World} (hS : Try.prog.underlying S = some (.slice T)) (hn : Try.prog.cellsOf T = n) (hpos : 0 < n) (hlen : ∀ p, (f p).length = n) (Fit : α → Prop)
    (item : ∀ {m : Nat} {cs : List Value} {x : DataW H × List MemPlace}, cs.length = n → DataW.trod enc Try.prog w 0 (fun _ => true) true m T cs = some x → ∃ p, cs = f p ∧ ((∀ k ∈ x.1.weights Try.prog T, k ≤ reachBytes) → Fit p))
    {fuel : Nat} {cs : List Value} {x : DataW H × List MemPlace} (hf : DataW.trod enc Try.prog w 0 (fun _ => true) true fuel S cs = some x) :
    ∃ A k c ps, cs = [.slice A k c] ∧ RwIn f n w w.heap.size (.slice A k c) ps ∧ ((∀ m ∈ x.1.weights Try.prog S, m ≤ reachBytes) → ∀ p ∈ ps, Fit p) := by
  rcases open_slice hS hf with ⟨hcs, _⟩ | ⟨a, n0, c0, m, fl, D, Pl, hcs, _, hl, hm, hmm, hx, hi⟩
  · exact ⟨none, 0, 0, [], hcs, RwIn.nil _ _, fun _ p hp => by cases hp⟩
  · have hone : ∀ i, i < n0 → ∃ p : α, ((∀ k ∈ (D i).weights Try.prog T, k ≤ reachBytes) → Fit p) ∧ ∀ (j : Nat) v, (f p)[j]? = some v → w.cell? (a.add (i * n + j)) = some v := by
      intro i hin
      obtain ⟨cs', hcc, htt⟩ := hi i (by rw [hmm]; simp; omega)
      rw [hn] at hcc
      obtain ⟨_, hlen', hat⟩ := World.cells?_some hcc
      obtain ⟨p, hp, hfit⟩ := item hlen' htt
      refine ⟨p, hfit, fun j v hv => ?_⟩
      have hj : j < n := by
        have := (List.getElem?_eq_some_iff.1 hv).1
        rw [hlen] at this
        exact this
      rw [← Go.Deep.add_add, hat j hj, hp]
      exact hv
    obtain ⟨g, hg2⟩ := choose_lt hone
    have hget : ∀ (i : Nat) p, ((List.range n0).map g)[i]? = some p → i < n0 ∧ p = g i := by
      intro i p hip
      obtain ⟨hlt, rfl⟩ := List.getElem?_eq_some_iff.1 hip
      simp at hlt
      exact ⟨hlt, by simp⟩
    refine ⟨some a, n0, c0, (List.range n0).map g, hcs, ⟨some a, c0, by simp, by simpa using hl, hm, (fun h => by cases h), fun hp => ?_⟩, fun hw => ?_⟩
    · have hp0 : 0 < n0 := by simpa using hp
      obtain ⟨b, off, spot⟩ := a
      have hc := (hg2 0 hp0).2 0 ((f (g 0))[0]'(by rw [hlen]; exact hpos)) (List.getElem?_eq_getElem _)
      have hspot : spot = none := by simpa [Addr.add] using World.cell?_spot hc
      subst hspot
      refine ⟨b, off, rfl, ?_, ?_⟩
      · have := World.block_lt_of_cell? w _ hc
        rwa [block_of_add] at this
      · intro i p hip j x hj
        obtain ⟨hlt, rfl⟩ := hget i p hip
        have := (hg2 i hlt).2 j x hj
        rwa [Addr.add_lit, ← Nat.add_assoc] at this
    · intro p hp
      obtain ⟨i, hi2, rfl⟩ := List.mem_map.1 hp
      have hlt := List.mem_range.1 hi2
      refine (hg2 i hlt).1 fun k hk => hw k ?_
      have hd : x.1 = .slice ((List.range n0).map D) ((List.range (m - n0)).map fun j => D (n0 + j)) := by rw [hx]
      rw [hd]
      simp only [DataW.weights, hS]
      exact List.mem_cons_of_mem _ (List.mem_append_left _ (weights_mem_all (d := D i) (List.mem_map.2 ⟨i, hi2, rfl⟩) k hk))
end

/-- What a text can weigh. -/
def FitP (p : Bp) : Prop := p.1.length ≤ 140737488351232 ∧ p.2.length ≤ 140737488351232
def FitK (p : Kd) : Prop := p.1.length ≤ 140737488351232
theorem lit_weight {H : Type} {l : List UInt8} {T : TypeId} (h : ∀ n ∈ (DataW.lit (H := H) (.string l)).weights Try.prog T, n ≤ reachBytes) : l.length ≤ 140737488351232 := by
  have := h l.length (by simp [DataW.weights])
  simp only [reachBytes] at this
  omega
theorem list_bytes (x : ByteArray) : x = ⟨x.data.toList.toArray⟩ := by simp

set_option maxRecDepth 100000 in
theorem pair_cells {H : Type} {enc : TypeId × Value → H} {w : World} {m : Nat} {cs : List Value} {x : DataW H × List MemPlace} (hlen : cs.length = 2)
    (h : DataW.trod enc Try.prog w 0 (fun _ => true) true m 56 cs = some x) : ∃ p : Bp, cs = ppC p ∧ ((∀ k ∈ x.1.weights Try.prog 56, k ≤ reachBytes) → FitP p) := by
  obtain ⟨y0, y1, n, hx, hl, h0, h1⟩ := trod_struct2 Try.underlying56 h
  match cs, hlen with
  | [z0, z1], _ =>
    have f0 : DataW.trod enc Try.prog w 0 (fun _ => true) true n 9 (([z0, z1].drop 0).take (Try.prog.cellsOf 9)) = some y0 := h0
    have f1 : DataW.trod enc Try.prog w 0 (fun _ => true) true n 9 (([z0, z1].drop 1).take (Try.prog.cellsOf 9)) = some y1 := h1
    rw [cells_s1] at f0 f1
    obtain ⟨x0, q0, e0, _⟩ := DataW.trod_string (cs := [z0]) Try.underlying9 f0
    obtain ⟨x1, q1, e1, _⟩ := DataW.trod_string (cs := [z1]) Try.underlying9 f1
    simp only [List.cons.injEq, and_true] at q0 q1
    refine ⟨(x0.data.toList, x1.data.toList), by rw [q0, q1]; rfl, fun hw => ?_⟩
    have hxd : x.1 = .agg [y0.1, y1.1] := by rw [hx]
    have hw' : ∀ n ∈ DataW.weightsEach Try.prog [9, 9] [y0.1, y1.1], n ≤ reachBytes := by
      intro n hn
      refine hw n ?_
      rw [hxd]
      simpa [DataW.weights, Try.underlying56] using hn
    have w0 := fun n hn => hw' n (DataW.weights_mem_each (j := 0) (t := 9) (d := y0.1) rfl rfl n hn)
    have w1 := fun n hn => hw' n (DataW.weights_mem_each (j := 1) (t := 9) (d := y1.1) rfl rfl n hn)
    rw [e0] at w0
    rw [e1] at w1
    exact ⟨lit_weight w0, lit_weight w1⟩

set_option maxRecDepth 100000 in
theorem kid_cells {H : Type} {enc : TypeId × Value → H} {w : World} {m : Nat} {cs : List Value} {x : DataW H × List MemPlace} (hlen : cs.length = 34)
    (h : DataW.trod enc Try.prog w 0 (fun _ => true) true m 59 cs = some x) : ∃ p : Kd, cs = kkC p ∧ ((∀ k ∈ x.1.weights Try.prog 59, k ≤ reachBytes) → FitK p) := by
  obtain ⟨y0, y1, n, hx, hl, h0, h1⟩ := trod_struct2 Try.underlying59 h
  obtain ⟨z0, r, rfl⟩ := List.exists_cons_of_length_pos (l := cs) (by omega)
  have hr : r.length = 33 := by simpa using hlen
  have f0 : DataW.trod enc Try.prog w 0 (fun _ => true) true n 9 (((z0 :: r).drop 0).take (Try.prog.cellsOf 9)) = some y0 := h0
  have f1 : DataW.trod enc Try.prog w 0 (fun _ => true) true n 41 (((z0 :: r).drop 1).take (Try.prog.cellsOf 41)) = some y1 := h1
  rw [cells_s1] at f0
  rw [cells_is] at f1
  obtain ⟨x0, q0, e0, _⟩ := DataW.trod_string (cs := [z0]) Try.underlying9 f0
  have e33 : ((z0 :: r).drop 1).take 33 = r := by simp [List.take_of_length_le (Nat.le_of_eq hr)]
  rw [e33] at f1
  obtain ⟨i, hi⟩ := id_cells hr f1
  simp only [List.cons.injEq, and_true] at q0
  refine ⟨(x0.data.toList, i), by rw [q0, hi]; rfl, fun hw => ?_⟩
  have hxd : x.1 = .agg [y0.1, y1.1] := by rw [hx]
  have hw' : ∀ n ∈ DataW.weightsEach Try.prog [9, 41] [y0.1, y1.1], n ≤ reachBytes := by
    intro n hn
    refine hw n ?_
    rw [hxd]
    simpa [DataW.weights, Try.underlying59] using hn
  have w0 := fun n hn => hw' n (DataW.weights_mem_each (j := 0) (t := 9) (d := y0.1) rfl rfl n hn)
  rw [e0] at w0
  exact lit_weight w0

instance : Inhabited Bp := ⟨([], [])⟩
instance : Inhabited Idn := ⟨idZ⟩
instance : Inhabited Kd := ⟨([], idZ)⟩

theorem tree_of_trod {H : Type} {enc : TypeId × Value → H} {w : World} {r : Reach} {b0 : Nat} {v : Value} {d : DataW H} {ps : List MemPlace} (hv : Value.okWide Try.prog w r b0 25 v)
    (h : DataW.Trod enc Try.prog w 0 (fun _ => true) true 25 v d ps) (hw : ∀ n ∈ d.weights Try.prog 25, n ≤ reachBytes) :
    ∃ t : Tre, TreIn w w.heap.size v t ∧ FitT t := by
  obtain ⟨v0, v1, y0, y1, m, rfl, rfl, rfl, h0, h1⟩ := open_agg2 Try.underlying25 (by kernel_rfl) (by kernel_rfl) hv h
  have hw' : ∀ n ∈ DataW.weightsEach Try.prog [22, 23] [y0.1, y1.1], n ≤ reachBytes := by
    intro n hn
    refine hw n ?_
    simpa [DataW.weights, Try.underlying25] using hn
  have w0 := fun n hn => hw' n (DataW.weights_mem_each (j := 0) (t := 22) (d := y0.1) rfl rfl n hn)
  have w1 := fun n hn => hw' n (DataW.weights_mem_each (j := 1) (t := 23) (d := y1.1) rfl rfl n hn)
  obtain ⟨A1, k1, c1, l1, e1, i1, j1⟩ := rw_of_cells (f := ppC) Try.underlying22 cells_ps (by omega) kind_pp.len FitP pair_cells h0
  obtain ⟨A2, k2, c2, l2, e2, i2, j2⟩ := rw_of_cells (f := kkC) Try.underlying23 cells_ks (by omega) kind_kk.len FitK kid_cells h1
  simp only [List.cons.injEq, and_true] at e1 e2
  subst e1 e2
  exact ⟨⟨l1, l2⟩, ⟨_, _, rfl, i1, i2⟩, fun p hp => (j1 w0 p hp).1, fun p hp => (j1 w0 p hp).2, fun p hp => j2 w1 p hp⟩

structure FitC (c : Cmt) : Prop where
  note : c.note.length ≤ 140737488351232
  low : -9223372036854775808 ≤ c.num
  high : c.num ≤ 9223372036854775807

theorem list_four {α : Type} {l : List α} (h : l.length = 4) : ∃ a b c d, l = [a, b, c, d] := by
  match l, h with
  | [a, b, c, d], _ => exact ⟨a, b, c, d, rfl⟩
theorem list_three {α : Type} {l : List α} (h : l.length = 3) : ∃ a b c, l = [a, b, c] := by
  match l, h with
  | [a, b, c], _ => exact ⟨a, b, c, rfl⟩
theorem drop_past {α : Type} (a b : List α) (k : Nat) : (a ++ b).drop (a.length + k) = b.drop k := by
  rw [← List.drop_drop, List.drop_left]

set_option maxRecDepth 100000 in
theorem com_of_trod {H : Type} {enc : TypeId × Value → H} {w : World} {r : Reach} {b0 : Nat} {v : Value} {d : DataW H} {ps : List MemPlace} (hv : Value.okWide Try.prog w r b0 44 v)
    (h : DataW.Trod enc Try.prog w 0 (fun _ => true) true 44 v d ps) (hw : ∀ n ∈ d.weights Try.prog 44, n ≤ reachBytes) :
    ∃ c : Cmt, CmtIn w w.heap.size v c ∧ FitC c := by
  obtain ⟨cs, rfl, hsz⟩ := okWide_struct Try.underlying44 hv
  have hsz2 : cs.toList.length = 36 := by rw [Array.length_toList]; exact hsz.trans cells_cms
  obtain ⟨fuel, hf⟩ := h
  have hf : DataW.trod enc Try.prog w 0 (fun _ => true) true fuel 44 cs.toList = some (d, ps) := by simpa [Value.cells] using hf
  obtain ⟨xs, m, _, hx, _, hxl, hfld⟩ := DataW.trod_struct Try.underlying44 hf
  have hxd : d = .agg (xs.map (·.1)) := congrArg Prod.fst hx
  generalize hL : cs.toList = L at *
  obtain ⟨l33, l3, e, h33⟩ : ∃ a b, L = a ++ b ∧ a.length = 33 := ⟨L.take 33, L.drop 33, (List.take_append_drop 33 L).symm, by rw [List.length_take]; omega⟩
  subst e
  have h3 : l3.length = 3 := by rw [List.length_append] at hsz2; omega
  obtain ⟨z1, z2, z3, rfl⟩ := list_three h3
  obtain ⟨y0, y1, y2, y3, rfl⟩ := list_four (hxl.trans rfl)
  have f0 : DataW.trod enc Try.prog w 0 (fun _ => true) true m 41 (((l33 ++ [z1, z2, z3]).drop 0).take (Try.prog.cellsOf 41)) = some y0 := hfld 0 _ rfl
  have f1 : DataW.trod enc Try.prog w 0 (fun _ => true) true m 42 (((l33 ++ [z1, z2, z3]).drop 33).take (Try.prog.cellsOf 42)) = some y1 := hfld 1 _ rfl
  have f2 : DataW.trod enc Try.prog w 0 (fun _ => true) true m 9 (((l33 ++ [z1, z2, z3]).drop 34).take (Try.prog.cellsOf 9)) = some y2 := hfld 2 _ rfl
  have f3 : DataW.trod enc Try.prog w 0 (fun _ => true) true m 3 (((l33 ++ [z1, z2, z3]).drop 35).take (Try.prog.cellsOf 3)) = some y3 := hfld 3 _ rfl
  rw [cells_is, List.drop_zero, ← h33, List.take_left] at f0
  rw [cells_sis, ← h33, List.drop_left] at f1
  rw [cells_s1, show 34 = l33.length + 1 by omega, drop_past] at f2
  rw [cells_n1, show 35 = l33.length + 2 by omega, drop_past] at f3
  have f2 : DataW.trod enc Try.prog w 0 (fun _ => true) true m 9 [z2] = some y2 := by simpa using f2
  have f3 : DataW.trod enc Try.prog w 0 (fun _ => true) true m 3 [z3] = some y3 := by simpa using f3
  obtain ⟨i, hi⟩ := id_cells h33 f0
  obtain ⟨A1, k1, c1, l1, e1, i1, _⟩ := rw_of_cells (f := iiC) Try.underlying42 cells_is (by omega) kind_ii.len (fun _ => True) (fun hl ht => by
    obtain ⟨i, hi⟩ := id_cells hl ht
    exact ⟨i, hi, fun _ => trivial⟩) f1
  obtain ⟨x2, q2, e2, _⟩ := DataW.trod_string Try.underlying9 f2
  obtain ⟨n3, q3, _, wf⟩ := DataW.trod_int Try.underlying3 f3
  simp only [List.take_succ_cons, List.take_zero, List.cons.injEq, and_true] at e1 q2 q3
  subst e1 q2 q3 hi
  have hb := bounds_i64 wf
  have hw' : ∀ n ∈ DataW.weightsEach Try.prog [41, 42, 9, 3] [y0.1, y1.1, y2.1, y3.1], n ≤ reachBytes := by
    intro n hn
    refine hw n ?_
    rw [hxd]
    simpa [DataW.weights, Try.underlying44] using hn
  have w2 := fun n hn => hw' n (DataW.weights_mem_each (j := 2) (t := 9) (d := y2.1) rfl rfl n hn)
  rw [e2] at w2
  refine ⟨⟨i, l1, x2.data.toList, n3⟩, ⟨_, ?_, i1⟩, lit_weight w2, hb.1, hb.2⟩
  rw [← Array.toArray_toList (xs := cs), hL]
  rfl

end Go.Proofs.Ytabogconbjdcgaa.Cd

/-
  object.getCommit. Conditions: none.
-/
namespace Go.Proofs.Ytabogconbjdcgaa.Cd
open Go.RowKit

theorem shape_cm : shapeOf Try.prog 44 = some (.agg (vb (zer 33) ++ [Value.slice none 0 0, Value.string ByteArray.empty, Value.int .i64 0]).toArray, [(0, 33), (33, 1), (34, 1), (35, 1)]) := by kernel_rfl
/-- A commit of a root alone. -/
def cm0 (i : Idn) : Cmt := ⟨i, [], [], 0⟩
theorem zero_cm (W : World) : (zeroValue 44).run Try.prog W = .ok (.agg (cmC (cm0 idZ) (.slice none 0 0)).toArray) W := by kernel_rfl
theorem size_cm : (Try.prog.info? 44).map (·.size) = some 36 := by kernel_rfl
theorem built_cm (i : Idn) : Try.prog.built 44 [(0, idV i.1)] = some (cmC (cm0 i) (.slice none 0 0)).toArray := by
  have hl : (vb i.1).length = 33 := by rw [vb_length, i.2]
  rw [built_shape shape_cm, fill_laid (off := 0) (size := 33) rfl (vb i.1) rfl hl (by simp [Value.cells, vb_length, zer_length])]
  have h := laid_mid [] (vb (zer 33)) [Value.slice none 0 0, Value.string ByteArray.empty, Value.int .i64 0] (vb i.1) (by rw [hl, vb_length, zer_length])
  simp only [List.nil_append, List.length_nil] at h
  show some (laid (vb (zer 33) ++ [Value.slice none 0 0, Value.string ByteArray.empty, Value.int .i64 0]) 0 (vb i.1)).toArray = _
  rw [h]
  rfl
theorem built_cm0 : Try.prog.built 44 [] = some (cmC (cm0 idZ) (.slice none 0 0)).toArray := by kernel_rfl
theorem wp_build_cm {ops : Array Oper} {rest : List Oper} {o : Oper} {a : Act} {w : World} {Q : Exit → Act → World → Prop} (hgd : o.guard = none) (y : Operand) (ho : o.op = .build 44 #[(0, y)])
    (i : Idn) (hy : a.eval y = idV i.1)
    (h : wpList Try.prog ops Q rest (a.put o.dst (.agg (cmC (cm0 i) (.slice none 0 0)).toArray)) w) : wpList Try.prog ops Q (o :: rest) a w :=
  wp_build_row hgd _ ho _ (built_cm i) (by simp [hy]) h

theorem cmC_ok (c : Cmt) (A : Option Addr) (n m : Nat) : ∀ u ∈ (cmC c (.slice A n m)).toArray.toList, u.oneCell' = true := fun u hu => cmC_one c _ rfl u (by simpa using hu)
theorem cmC_size (c : Cmt) (vi : Value) : (cmC c vi).toArray.size = 36 := by simp [cmC_len]
theorem wp_fill_cm {ops : Array Oper} {rest : List Oper} {o : Oper} {a : Act} {W w : World} {Q : Exit → Act → World → Prop} (hgd : o.guard = none) (x y : Operand) (ho : o.op = .store 44 x y)
    (c0 : Cmt) (v0 : Value) (hW : W = w.alloc (.cells (cmC c0 v0).toArray 44))
    (hx : a.eval x = .pointer (some ⟨w.heap.size, 0, none⟩)) (c : Cmt) (A : Option Addr) (n m : Nat) (hy : a.eval y = .agg (cmC c (.slice A n m)).toArray)
    (h : wpList Try.prog ops Q rest (a.put o.dst undef) (w.alloc (.cells (cmC c (.slice A n m)).toArray 44))) : wpList Try.prog ops Q (o :: rest) a W := by
  subst hW
  exact wp_fill_row size_cm hgd x y ho _ (cmC_size _ _) _ hx hy (cmC_size _ _) (cmC_ok c A n m) h
theorem wp_put_cm {ops : Array Oper} {rest : List Oper} {o : Oper} {a : Act} {w : World} {Q : Exit → Act → World → Prop} (hgd : o.guard = none) (x y : Operand) (ho : o.op = .store 44 x y)
    (g : Nat) (hx : a.eval x = .pointer (some ⟨g, 0, none⟩)) (c : Cmt) (A : Option Addr) (n m : Nat) (hy : a.eval y = .agg (cmC c (.slice A n m)).toArray) (c0 : Cmt) (v0 : Value) (hg : ComAt w g c0 v0)
    (h : ∀ w', ComAt w' g c (.slice A n m) → w.grownBy w' (some g) → wpList Try.prog ops Q rest (a.put o.dst undef) w') : wpList Try.prog ops Q (o :: rest) a w :=
  wp_put_row size_cm hgd x y ho g hx hy (cmC_size _ _) (cmC_ok c A n m) _ (cmC_size _ _) _ hg h
theorem ret_cm {fn : Func} {p : Tmp} (hf : fn.results = #[.cell p 44]) (tmps : Array Value) (w : World) (g : Nat) (c : Cmt) (vi : Value)
    (hp : tmps.getD p undef = .pointer (some ⟨g, 0, none⟩)) (hg : ComAt w g c vi) : (results fn tmps).run Try.prog w = .ok (.agg (cmC c vi).toArray) w := by
  have hp' : tmps[p]?.getD undef = .pointer (some ⟨g, 0, none⟩) := by simpa using hp
  have hld := run_loadVar_row (P := Try.prog) w g _ 44 _ _ _ hg Try.underlying44 rfl (by rw [cmC_size]; exact size_cm)
  simp [results, hf, hp', asAddr, hld]
theorem ret_cm2 {fn : Func} {p q : Tmp} (hf : fn.results = #[.cell p 44, .tmp q]) (tmps : Array Value) (w : World) (g : Nat) (c : Cmt) (vi : Value) (x : Value)
    (hp : tmps.getD p undef = .pointer (some ⟨g, 0, none⟩)) (hg : ComAt w g c vi) (hq : tmps.getD q undef = x) : (results fn tmps).run Try.prog w = .ok (.tuple #[.agg (cmC c vi).toArray, x]) w := by
  have hp' : tmps[p]?.getD undef = .pointer (some ⟨g, 0, none⟩) := by simpa using hp
  have hq' : tmps[q]?.getD undef = x := by simpa using hq
  have hld := run_loadVar_row (P := Try.prog) w g _ 44 _ _ _ hg Try.underlying44 rfl (by rw [cmC_size]; exact size_cm)
  simp [results, hf, hp', hq', asAddr, hld]

section
variable {w : World} {g : Nat} {c : Cmt} {vi : Value}
theorem ComAt.frozen (h : ComAt w g c vi) (i : Nat) : w.frozen? ⟨g, i, none⟩ = false := by
  unfold ComAt at h
  simp [World.frozen?, h]
theorem cmC_set33 (v : Value) : (cmC c vi).set 33 v = cmC c v := by
  unfold cmC
  rw [List.set_append_right _ _ (by rw [vb_length, c.root.2]; omega), vb_length, c.root.2]
  rfl
theorem cmC_set34 (s : List UInt8) : (cmC c vi).set 34 (.string ⟨s.toArray⟩) = cmC ⟨c.root, c.is, s, c.num⟩ vi := by
  unfold cmC
  rw [List.set_append_right _ _ (by rw [vb_length, c.root.2]; omega), vb_length, c.root.2]
  rfl
theorem cmC_set35 (n : Int) : (cmC c vi).set 35 (.int .i64 n) = cmC ⟨c.root, c.is, c.note, n⟩ vi := by
  unfold cmC
  rw [List.set_append_right _ _ (by rw [vb_length, c.root.2]; omega), vb_length, c.root.2]
  rfl
theorem ComAt.set33 (h : ComAt w g c vi) (v : Value) : ComAt (w.setCell ⟨g, 33, none⟩ v) g c v := by
  have := heap_setCell_same w g 33 _ _ v h
  rw [List.setIfInBounds_toArray, cmC_set33] at this
  exact this
theorem ComAt.set34 (h : ComAt w g c vi) (s : List UInt8) : ComAt (w.setCell ⟨g, 34, none⟩ (.string ⟨s.toArray⟩)) g ⟨c.root, c.is, s, c.num⟩ vi := by
  have := heap_setCell_same w g 34 _ _ (.string ⟨s.toArray⟩) h
  rw [List.setIfInBounds_toArray, cmC_set34] at this
  exact this
theorem ComAt.set35 (h : ComAt w g c vi) (n : Int) : ComAt (w.setCell ⟨g, 35, none⟩ (.int .i64 n)) g ⟨c.root, c.is, c.note, n⟩ vi := by
  have := heap_setCell_same w g 35 _ _ (.int .i64 n) h
  rw [List.setIfInBounds_toArray, cmC_set35] at this
  exact this
theorem ComAt.far {w' : World} {g' : Nat} (h : ComAt w g c vi) (hg : w.grownBy w' (some g')) (hne : g ≠ g') : ComAt w' g c vi := (hg.block g h.lt (fun e => hne (by injection e))).trans h
/-- What the parents are does not show in the cells. -/
theorem ComAt.as (h : ComAt w g c vi) (is : List Idn) : ComAt w g ⟨c.root, is, c.note, c.num⟩ vi := h
end

/-- What getCommit leaves. -/
def GotC (w : World) (g : Nat) (c : Cmt) (bs : List UInt8) (bad : Bool) (e : Ending) (w' : World) : Prop := ∃ A n m, e = .returned (.agg (cmC c (.slice A n m)).toArray) ∧ OwnRw iiC 33 41 w' w.heap.size (.slice A n m) c.is ∧ Left w g bs bad w'

set_option maxRecDepth 100000 in
set_option maxHeartbeats 3200000 in
theorem getcm_any (g : Nat) (b : List UInt8) (w : World) (hr : Rd w g (gbB false b) (gbX false b)) (hs : b.length ≤ 100000) :
    Calls Try.prog 48 #[.pointer (some ⟨g, 0, none⟩)] w (GotC w g (rdC b) (rdB b) (rdX b)) := by
  have hg0 := hr.lt
  have hr1 : Rd (w.alloc (.cells (cmC (cm0 idZ) (.slice none 0 0)).toArray 44)) g (gbB false b) (gbX false b) := hr.on (new_below _ _)
  have hc1 : ComAt (w.alloc (.cells (cmC (cm0 idZ) (.slice none 0 0)).toArray 44)) w.heap.size (cm0 idZ) (.slice none 0 0) := ComAt.new _ _ _
  have hz1 : (w.alloc (.cells (cmC (cm0 idZ) (.slice none 0 0)).toArray 44)).heap.size = w.heap.size + 1 := asz _ _
  have hw1 : w.grownBy (w.alloc (.cells (cmC (cm0 idZ) (.slice none 0 0)).toArray 44)) (some g) := grown_of _ (new_below _ _)
  have hl1 : (gbB false b).length ≤ 100000 := Nat.le_trans (tkB_len _ _ _) hs
  have hl2 : (gbB (gbX false b) (gbB false b)).length ≤ 100000 := Nat.le_trans (tkB_len _ _ _) hl1
  have HGB := Lib.hid (fun W h => getb_any g (gbB false b) (gbX false b) W h (sane_gb _ _) (by omega))
  have HGN := Lib.hid (fun W h => getn_any g (gbB (gbX false b) (gbB false b)) (gbX (gbX false b) (gbB false b)) W h (sane_gb _ _) (by omega))
  have hcb := byte_lt (gbV (gbX false b) (gbB false b))
  have h0l := gn_len (gbX (gbX false b) (gbB false b)) (gbB (gbX false b) (gbB false b))
  have hsn0 : Sane (rd0 b).bad (rd0 b).bs := sane_gn _ _
  have e1 : gnB (gbX (gbX false b) (gbB false b)) (gbB (gbX false b) (gbB false b)) = (rd0 b).bs := rfl
  have e2 : gnX (gbX (gbX false b) (gbB false b)) (gbB (gbX false b) (gbB false b)) = (rd0 b).bad := rfl
  have e3 : gnV (gbX (gbX false b) (gbB false b)) (gbB (gbX false b) (gbB false b)) = rdR b := rfl
  have e4 : rdI b = atI (rd0 b) (gbV (gbX false b) (gbB false b)).toNat := rfl
  have e5 : rdC b = ⟨rdR b, (rdI b).l, txV 32 (rdI b).bs, inV 1 1024 (txB 32 (rdI b).bs)⟩ := rfl
  have e6 : rdB b = inB 1 1024 (txB 32 (rdI b).bs) := rfl
  have e7 : rdX b = inX 1 1024 (txB 32 (rdI b).bs) := rfl
  have e8 : (rd0 b).l = [] := rfl
  rw [e1, e2, e3] at HGN
  rw [e1] at h0l
  generalize (gbV (gbX false b) (gbB false b)).toNat = n at *
  generalize gbB (gbX false b) (gbB false b) = b2 at *
  generalize gbX (gbX false b) (gbB false b) = x2 at *
  generalize gbB false b = b1 at *
  generalize gbX false b = x1 at *
  generalize rdC b = C at *
  generalize rdB b = CB at *
  generalize rdX b = CX at *
  generalize rdI b = I at *
  generalize rdR b = root at *
  generalize rd0 b = s0 at *
  subst e4 e5 e6 e7
  have hsl : s0.bs.length ≤ 100000 := by omega
  have HSN := Lib.hid hsn0
  have HL0 := Lib.hid e8
  have H1 := Lib.hid hr1
  have HC1 := Lib.hid hc1
  have HW1 := Lib.hid hw1
  have HZ1 := Lib.hid hz1
  clear hsn0 e1 e2 e3 e8 hr1 hc1 hw1 hz1 hr h0l hl1 hl2 hs
  go_enter Try.func48, Try.ntmps48
  go_wp2_with (refine wp_alloc_row zero_cm rfl rfl ?_)
  generalize w.alloc (.cells (cmC (cm0 idZ) (.slice none 0 0)).toArray 44) = w1 at *
  refine (HGB.out _ H1.out).mono ?_
  rintro e w2 ⟨rfl, hl2⟩
  have HR2 := Lib.hid hl2.1
  have hz1 : w1.heap.size = w.heap.size + 1 := HZ1.out
  have HC2 : Hid (ComAt w2 w.heap.size (cm0 idZ) (.slice none 0 0)) := HC1.out.far hl2.2 (by omega)
  have HW2 := Lib.hid (grown_then HW1.out hl2.2)
  have hz2 := hl2.2.size
  clear hl2
  go_wp2_with fail
  refine (HGN.out _ HR2.out).mono ?_
  rintro e w3 ⟨rfl, hl3⟩
  have HR3 := Lib.hid hl3.1
  have HC3 : Hid (ComAt w3 w.heap.size (cm0 idZ) (.slice none 0 0)) := HC2.out.far hl3.2 (by omega)
  have HW3 := Lib.hid (grown_then HW2.out hl3.2)
  have hz3 := hl3.2.size
  clear hl3
  have HD4 : Hid (ComAt (w3.alloc (.cells (cmC (cm0 root) (.slice none 0 0)).toArray 44)) w3.heap.size (cm0 root) (.slice none 0 0)) := ComAt.new _ _ _
  have hb4 : Below w3.heap.size w3 (w3.alloc (.cells (cmC (cm0 root) (.slice none 0 0)).toArray 44)) := new_below _ _
  have hz4 : (w3.alloc (.cells (cmC (cm0 root) (.slice none 0 0)).toArray 44)).heap.size = w3.heap.size + 1 := asz _ _
  have HR4 := Lib.hid (HR3.out.on hb4)
  have HC4 := Lib.hid (HC3.out.below hb4 (by omega))
  have HW4 := Lib.hid (grown_on HW3.out hb4)
  clear hb4
  go_wp2_with (first
    | (refine wp_alloc_row zero_cm rfl rfl ?_)
    | (refine wp_build_cm rfl _ rfl root rfl ?_)
    | (refine wp_fill_cm rfl _ _ rfl _ _ rfl (by simp [Act.eval, Act.put]) (cm0 root) none 0 0 rfl ?_))
  generalize w3.alloc (.cells (cmC (cm0 root) (.slice none 0 0)).toArray 44) = w4 at *
  obtain ⟨G, hG⟩ : ∃ x, w3.heap.size = x := ⟨_, rfl⟩
  rw [hG] at HD4 hz4 ⊢
  have hG2 : w.heap.size + 1 ≤ G := by omega
  clear HR2 HC2 HW2 HR3 HC3 HW3 H1 HC1 HW1
  go_loopw [11] (fun i wr => ∃ (k : Nat) (A : Option Addr) (nn m : Nat), i = .int .u8 k ∧ k ≤ n ∧ Hid (OwnRw iiC 33 41 wr (G + 1) (.slice A nn m) (atI s0 k).l) ∧ Hid (ComAt wr G (cm0 root) (.slice A nn m)) ∧ Hid (ComAt wr w.heap.size (cm0 idZ) (.slice none 0 0)) ∧ Hid (Rd wr g (atI s0 k).bs (atI s0 k).bad) ∧ Hid (w.grownBy wr (some g)) ∧ G + 1 ≤ wr.heap.size) (fun i _ => n - (intOf i).toNat)
  case atStart => exact ⟨0, none, 0, 0, rfl, by omega, (by unfold Hid; show OwnRw _ _ _ _ _ _ s0.l; rw [HL0.out]; exact OwnRw.nil _ _), HD4.out, HC4.out, HR4.out, HW4.out, by omega⟩
  case round =>
    clear HR4 HC4 HW4 HD4
    obtain ⟨k, A, nn, m, rfl, hk, ho, hcg, hcz, hrd, hw, hsz⟩ := hrel
    have hsq := sane_atI HSN.out k
    have hlq := len_atI s0 k
    have hl0 : s0.l.length = 0 := by rw [HL0.out]; rfl
    have hlk : (atI s0 k).l.length ≤ 256 := by omega
    have hlb : (atI s0 k).bs.length ≤ 100000 := by omega
    by_cases hlt : k < n
    · have hnx : Hid (atI s0 (k + 1) = ⟨(atI s0 k).l ++ [gnV (atI s0 k).bad (atI s0 k).bs], gnB (atI s0 k).bad (atI s0 k).bs, gnX (atI s0 k).bad (atI s0 k).bs⟩) := rfl
      generalize atI s0 k = q at *
      obtain ⟨l, bb, x⟩ := q
      simp only at *
      have HT := Lib.hid (fun W h => getn_any g bb x W h hsq (by omega))
      generalize gnV x bb = y at *
      generalize gnB x bb = bb2 at *
      generalize gnX x bb = xx2 at *
      clear hsq hlq
      go_wp2_with fail
      obtain ⟨W0, hW0⟩ : ∃ x, wr.drew = x := ⟨_, rfl⟩
      have HG0 : Hid (ComAt W0 G (cm0 root) (.slice A nn m)) := by rw [← hW0]; exact hcg.out
      have HO0 : Hid (OwnRw iiC 33 41 W0 (G + 1) (.slice A nn m) l) := by rw [← hW0]; exact ho.out.drew
      have HZ0 : Hid (ComAt W0 w.heap.size (cm0 idZ) (.slice none 0 0)) := by rw [← hW0]; exact hcz.out
      have HR0 : Hid (Rd W0 g bb x) := by rw [← hW0]; exact hrd.out.drew
      have HW0 : Hid (w.grownBy W0 (some g)) := by rw [← hW0]; exact grown_on hw.out ⟨rfl, rfl, rfl, Nat.le_refl _, fun _ _ => rfl⟩
      have hsz0 : G + 1 ≤ W0.heap.size := by rw [← hW0]; simpa using hsz
      clear ho hcg hcz hrd hw
      refine region_begin hW0 (S := fun _ => True) (by kernel_rfl) trivial (fun _ => ?_)
      clear hW0
      refine take_at (i := 0) (.pointer (some ⟨G, 33, none⟩)) (some 13) (by decide) (by rfl) (by kernel_rfl) (by kernel_rfl) (by kernel_rfl) (fun _ _ _ h => h) (by rfl) (fun W hW => by go_simp) (by assumption) ?_
      try simp only [Act.put, List.setIfInBounds_toArray, List.set_cons_zero, List.set_cons_succ]
      refine take_at (i := 2) (.pointer (some ⟨g, 0, none⟩)) (some 15) (by decide) (by rfl) (by kernel_rfl) (by kernel_rfl) (by kernel_rfl) (fun _ _ _ h => h) (by rfl) (fun W hW => by go_simp) (by assumption) ?_
      try simp only [Act.put, List.setIfInBounds_toArray, List.set_cons_zero, List.set_cons_succ]
      refine wpAnyH_ready (rs := [1, 3]) (by kernel_rfl) (by simp) ?_
      refine come (i := 1) (.slice A nn m) W0 (some 14) (by decide) (by rfl) (by rfl) (by have := HG0.out.is; go_simp) trivial ?_ ?_
      · try simp only [Act.put, List.setIfInBounds_toArray, List.set_cons_zero, List.set_cons_succ]
        refine wpAnyH_ready (rs := [3]) (by kernel_rfl) (by simp) ?_
        refine AllReadyH.cons (Array.getElem?_eq_getElem (i := 3) (by decide)) (fun K9 hK => ?_) AllReadyH.nil
        go_simp
        refine (HT.out _ HR0.out).mono ?_
        rintro e w5 ⟨rfl, hl5⟩
        have HG5 := Lib.hid (HG0.out.far hl5.2 (by omega))
        have HR5 := Lib.hid hl5.1
        have HW5 := Lib.hid (grown_then HW0.out hl5.2)
        have HO5 := Lib.hid (HO0.out.far hl5.2 (by omega))
        have HZ5 := Lib.hid (HZ0.out.far hl5.2 (by omega))
        have hs5 : G + 1 ≤ w5.heap.size := Nat.le_trans hsz0 hl5.2.size
        clear hl5
        refine hK.out _ _ trivial (fun _ => ?_)
        clear hK K9
        try simp only [Act.put, List.setIfInBounds_toArray, List.set_cons_zero, List.set_cons_succ]
        refine wpAnyH_ready (rs := [4]) (by kernel_rfl) (by simp) ?_
        refine AllReadyH.cons (Array.getElem?_eq_getElem (i := 4) (by decide)) (fun K9 hK => ?_) AllReadyH.nil
        refine step_one kind_ii (by omega) rfl _ rfl y rfl ?_
        have HG6 := Lib.hid (HG5.out.below (new_below w5 (.cells (iiC y).toArray 41)) (by omega))
        have HR6 := Lib.hid (HR5.out.on (new_below w5 (.cells (iiC y).toArray 41)))
        have HZ6 := Lib.hid (HZ5.out.below (new_below w5 (.cells (iiC y).toArray 41)) (by omega))
        have HW6 := Lib.hid (grown_on HW5.out (new_below w5 (.cells (iiC y).toArray 41)))
        have HO6 := Lib.hid (HO5.out.alloc (.cells (iiC y).toArray 41))
        have HY6 := Lib.hid (rw_one kind_ii w5 y 41 _ rfl)
        have hs6 : G + 1 ≤ (w5.alloc (.cells (iiC y).toArray 41)).heap.size := by rw [asz]; omega
        generalize w5.alloc (.cells (iiC y).toArray 41) = w6 at *
        refine hK.out _ _ trivial (fun _ => ?_)
        clear hK K9
        try simp only [Act.put, List.setIfInBounds_toArray, List.set_cons_zero, List.set_cons_succ]
        refine wpAnyH_ready (rs := [5]) (by kernel_rfl) (by simp) ?_
        refine AllReadyH.cons (Array.getElem?_eq_getElem (i := 5) (by decide)) (fun K9 hK => ?_) AllReadyH.nil
        refine step_append_rw kind_ii rfl _ _ rfl rfl HO6.out (by omega) _ _ [y] rfl HY6.out (by simp only [List.length_singleton]; omega) ?_
        intro v7 w7 ho7 hb7 _
        have HG7 := Lib.hid (HG6.out.below hb7 (by omega))
        have HR7 := Lib.hid (HR6.out.below hb7 (by omega))
        have HZ7 := Lib.hid (HZ6.out.below hb7 (by omega))
        have HW7 := Lib.hid (grown_low HW6.out hb7 (by omega))
        have hs7 : G + 1 ≤ w7.heap.size := Nat.le_trans hs6 hb7.size
        obtain ⟨A7, m7, e7⟩ : ∃ A m, v7 = .slice A (l ++ [y]).length m := by
          obtain ⟨A, c, e, _⟩ := (ho7.rwIn kind_ii).len
          exact ⟨A, c, e⟩
        obtain ⟨n7, hn7⟩ : ∃ x, (l ++ [y]).length = x := ⟨_, rfl⟩
        rw [hn7] at e7
        subst e7
        have HO7 := Lib.hid ho7
        clear hb7 ho7 hn7
        refine hK.out _ _ trivial (fun _ => ?_)
        clear hK K9
        try simp only [Act.put, List.setIfInBounds_toArray, List.set_cons_zero, List.set_cons_succ]
        refine take_at (i := 6) (.pointer (some ⟨G, 33, none⟩)) (some 19) (by decide) (by rfl) (by kernel_rfl) (by kernel_rfl) (by kernel_rfl) (fun _ _ _ h => h) (by rfl) (fun W hW => by go_simp) (by assumption) ?_
        try simp only [Act.put, List.setIfInBounds_toArray, List.set_cons_zero, List.set_cons_succ]
        refine wpAnyH_ready (rs := [7]) (by kernel_rfl) (by simp) ?_
        refine AllReadyH.cons (Array.getElem?_eq_getElem (i := 7) (by decide)) (fun K9 hK => ?_) AllReadyH.nil
        have d7 := HG7.out.is
        have f7 := HG7.out.frozen 33
        go_simp
        have HG8 := Lib.hid (HG7.out.set33 (.slice A7 n7 m7))
        have HO8 := Lib.hid (HO7.out.put ⟨G, 33, none⟩ (.slice A7 n7 m7) (by show G < G + 1; omega))
        have HR8 := Lib.hid (HR7.out.other ⟨G, 33, none⟩ (.slice A7 n7 m7) (by show g ≠ G; omega))
        have HZ8 : Hid (ComAt (w7.setCell ⟨G, 33, none⟩ (.slice A7 n7 m7)) w.heap.size (cm0 idZ) (.slice none 0 0)) := (heap_setCell_other _ _ _ _ (by show w.heap.size ≠ G; omega)).trans HZ7.out
        have HW8 := Lib.hid (grown_new HW7.out (grown_set w7 G 33 (.slice A7 n7 m7)) (by omega))
        have hs8 : G + 1 ≤ (w7.setCell ⟨G, 33, none⟩ (.slice A7 n7 m7)).heap.size := by simpa using hs7
        clear d7 f7 HG7 HO7 HR7 HZ7 HW7
        generalize w7.setCell ⟨G, 33, none⟩ (.slice A7 n7 m7) = w8 at *
        refine hK.out _ _ trivial (fun _ => ?_)
        clear hK K9
        try simp only [Act.put, List.setIfInBounds_toArray, List.set_cons_zero, List.set_cons_succ]
        refine wpAnyH_done (by kernel_rfl) ?_ _
        try simp only [Act.put, List.setIfInBounds_toArray, List.set_cons_zero, List.set_cons_succ]
        go_wp2_with fail
        go_roundw
        case rel => exact ⟨k + 1, A7, n7, m7, by go_num, by omega, by rw [hnx.out]; exact HO8.out, HG8.out, HZ8.out, by rw [hnx.out]; exact HR8.out, HW8.out, hs8⟩
        case measure => simp [intOf]; omega
      · refine AllReadyH.cons (Array.getElem?_eq_getElem (i := 3) (by decide)) (fun K9 hK => ?_) AllReadyH.nil
        go_simp
        refine (HT.out _ HR0.out).mono ?_
        rintro e w5 ⟨rfl, hl5⟩
        have HG5 := Lib.hid (HG0.out.far hl5.2 (by omega))
        have HR5 := Lib.hid hl5.1
        have HW5 := Lib.hid (grown_then HW0.out hl5.2)
        have HO5 := Lib.hid (HO0.out.far hl5.2 (by omega))
        have HZ5 := Lib.hid (HZ0.out.far hl5.2 (by omega))
        have hs5 : G + 1 ≤ w5.heap.size := Nat.le_trans hsz0 hl5.2.size
        clear hl5
        refine hK.out _ _ trivial (fun _ => ?_)
        clear hK K9
        try simp only [Act.put, List.setIfInBounds_toArray, List.set_cons_zero, List.set_cons_succ]
        refine wpAnyH_ready (rs := [1, 4]) (by kernel_rfl) (by simp) ?_
        refine come (i := 1) (.slice A nn m) w5 (some 14) (by decide) (by rfl) (by rfl) (by have := HG5.out.is; go_simp) trivial ?_ ?_
        · try simp only [Act.put, List.setIfInBounds_toArray, List.set_cons_zero, List.set_cons_succ]
          refine wpAnyH_ready (rs := [4]) (by kernel_rfl) (by simp) ?_
          refine AllReadyH.cons (Array.getElem?_eq_getElem (i := 4) (by decide)) (fun K9 hK => ?_) AllReadyH.nil
          refine step_one kind_ii (by omega) rfl _ rfl y rfl ?_
          have HG6 := Lib.hid (HG5.out.below (new_below w5 (.cells (iiC y).toArray 41)) (by omega))
          have HR6 := Lib.hid (HR5.out.on (new_below w5 (.cells (iiC y).toArray 41)))
          have HZ6 := Lib.hid (HZ5.out.below (new_below w5 (.cells (iiC y).toArray 41)) (by omega))
          have HW6 := Lib.hid (grown_on HW5.out (new_below w5 (.cells (iiC y).toArray 41)))
          have HO6 := Lib.hid (HO5.out.alloc (.cells (iiC y).toArray 41))
          have HY6 := Lib.hid (rw_one kind_ii w5 y 41 _ rfl)
          have hs6 : G + 1 ≤ (w5.alloc (.cells (iiC y).toArray 41)).heap.size := by rw [asz]; omega
          generalize w5.alloc (.cells (iiC y).toArray 41) = w6 at *
          refine hK.out _ _ trivial (fun _ => ?_)
          clear hK K9
          try simp only [Act.put, List.setIfInBounds_toArray, List.set_cons_zero, List.set_cons_succ]
          refine wpAnyH_ready (rs := [5]) (by kernel_rfl) (by simp) ?_
          refine AllReadyH.cons (Array.getElem?_eq_getElem (i := 5) (by decide)) (fun K9 hK => ?_) AllReadyH.nil
          refine step_append_rw kind_ii rfl _ _ rfl rfl HO6.out (by omega) _ _ [y] rfl HY6.out (by simp only [List.length_singleton]; omega) ?_
          intro v7 w7 ho7 hb7 _
          have HG7 := Lib.hid (HG6.out.below hb7 (by omega))
          have HR7 := Lib.hid (HR6.out.below hb7 (by omega))
          have HZ7 := Lib.hid (HZ6.out.below hb7 (by omega))
          have HW7 := Lib.hid (grown_low HW6.out hb7 (by omega))
          have hs7 : G + 1 ≤ w7.heap.size := Nat.le_trans hs6 hb7.size
          obtain ⟨A7, m7, e7⟩ : ∃ A m, v7 = .slice A (l ++ [y]).length m := by
            obtain ⟨A, c, e, _⟩ := (ho7.rwIn kind_ii).len
            exact ⟨A, c, e⟩
          obtain ⟨n7, hn7⟩ : ∃ x, (l ++ [y]).length = x := ⟨_, rfl⟩
          rw [hn7] at e7
          subst e7
          have HO7 := Lib.hid ho7
          clear hb7 ho7 hn7
          refine hK.out _ _ trivial (fun _ => ?_)
          clear hK K9
          try simp only [Act.put, List.setIfInBounds_toArray, List.set_cons_zero, List.set_cons_succ]
          refine take_at (i := 6) (.pointer (some ⟨G, 33, none⟩)) (some 19) (by decide) (by rfl) (by kernel_rfl) (by kernel_rfl) (by kernel_rfl) (fun _ _ _ h => h) (by rfl) (fun W hW => by go_simp) (by assumption) ?_
          try simp only [Act.put, List.setIfInBounds_toArray, List.set_cons_zero, List.set_cons_succ]
          refine wpAnyH_ready (rs := [7]) (by kernel_rfl) (by simp) ?_
          refine AllReadyH.cons (Array.getElem?_eq_getElem (i := 7) (by decide)) (fun K9 hK => ?_) AllReadyH.nil
          have d7 := HG7.out.is
          have f7 := HG7.out.frozen 33
          go_simp
          have HG8 := Lib.hid (HG7.out.set33 (.slice A7 n7 m7))
          have HO8 := Lib.hid (HO7.out.put ⟨G, 33, none⟩ (.slice A7 n7 m7) (by show G < G + 1; omega))
          have HR8 := Lib.hid (HR7.out.other ⟨G, 33, none⟩ (.slice A7 n7 m7) (by show g ≠ G; omega))
          have HZ8 : Hid (ComAt (w7.setCell ⟨G, 33, none⟩ (.slice A7 n7 m7)) w.heap.size (cm0 idZ) (.slice none 0 0)) := (heap_setCell_other _ _ _ _ (by show w.heap.size ≠ G; omega)).trans HZ7.out
          have HW8 := Lib.hid (grown_new HW7.out (grown_set w7 G 33 (.slice A7 n7 m7)) (by omega))
          have hs8 : G + 1 ≤ (w7.setCell ⟨G, 33, none⟩ (.slice A7 n7 m7)).heap.size := by simpa using hs7
          clear d7 f7 HG7 HO7 HR7 HZ7 HW7
          generalize w7.setCell ⟨G, 33, none⟩ (.slice A7 n7 m7) = w8 at *
          refine hK.out _ _ trivial (fun _ => ?_)
          clear hK K9
          try simp only [Act.put, List.setIfInBounds_toArray, List.set_cons_zero, List.set_cons_succ]
          refine wpAnyH_done (by kernel_rfl) ?_ _
          try simp only [Act.put, List.setIfInBounds_toArray, List.set_cons_zero, List.set_cons_succ]
          go_wp2_with fail
          go_roundw
          case rel => exact ⟨k + 1, A7, n7, m7, by go_num, by omega, by rw [hnx.out]; exact HO8.out, HG8.out, HZ8.out, by rw [hnx.out]; exact HR8.out, HW8.out, hs8⟩
          case measure => simp [intOf]; omega
        · refine AllReadyH.cons (Array.getElem?_eq_getElem (i := 4) (by decide)) (fun K9 hK => ?_) AllReadyH.nil
          refine step_one kind_ii (by omega) rfl _ rfl y rfl ?_
          have HG6 := Lib.hid (HG5.out.below (new_below w5 (.cells (iiC y).toArray 41)) (by omega))
          have HR6 := Lib.hid (HR5.out.on (new_below w5 (.cells (iiC y).toArray 41)))
          have HZ6 := Lib.hid (HZ5.out.below (new_below w5 (.cells (iiC y).toArray 41)) (by omega))
          have HW6 := Lib.hid (grown_on HW5.out (new_below w5 (.cells (iiC y).toArray 41)))
          have HO6 := Lib.hid (HO5.out.alloc (.cells (iiC y).toArray 41))
          have HY6 := Lib.hid (rw_one kind_ii w5 y 41 _ rfl)
          have hs6 : G + 1 ≤ (w5.alloc (.cells (iiC y).toArray 41)).heap.size := by rw [asz]; omega
          generalize w5.alloc (.cells (iiC y).toArray 41) = w6 at *
          refine hK.out _ _ trivial (fun _ => ?_)
          clear hK K9
          try simp only [Act.put, List.setIfInBounds_toArray, List.set_cons_zero, List.set_cons_succ]
          refine wpAnyH_ready (rs := [1]) (by kernel_rfl) (by simp) ?_
          refine come (i := 1) (.slice A nn m) w6 (some 14) (by decide) (by rfl) (by rfl) (by have := HG6.out.is; go_simp) trivial ?_ AllReadyH.nil
          try simp only [Act.put, List.setIfInBounds_toArray, List.set_cons_zero, List.set_cons_succ]
          refine wpAnyH_ready (rs := [5]) (by kernel_rfl) (by simp) ?_
          refine AllReadyH.cons (Array.getElem?_eq_getElem (i := 5) (by decide)) (fun K9 hK => ?_) AllReadyH.nil
          refine step_append_rw kind_ii rfl _ _ rfl rfl HO6.out (by omega) _ _ [y] rfl HY6.out (by simp only [List.length_singleton]; omega) ?_
          intro v7 w7 ho7 hb7 _
          have HG7 := Lib.hid (HG6.out.below hb7 (by omega))
          have HR7 := Lib.hid (HR6.out.below hb7 (by omega))
          have HZ7 := Lib.hid (HZ6.out.below hb7 (by omega))
          have HW7 := Lib.hid (grown_low HW6.out hb7 (by omega))
          have hs7 : G + 1 ≤ w7.heap.size := Nat.le_trans hs6 hb7.size
          obtain ⟨A7, m7, e7⟩ : ∃ A m, v7 = .slice A (l ++ [y]).length m := by
            obtain ⟨A, c, e, _⟩ := (ho7.rwIn kind_ii).len
            exact ⟨A, c, e⟩
          obtain ⟨n7, hn7⟩ : ∃ x, (l ++ [y]).length = x := ⟨_, rfl⟩
          rw [hn7] at e7
          subst e7
          have HO7 := Lib.hid ho7
          clear hb7 ho7 hn7
          refine hK.out _ _ trivial (fun _ => ?_)
          clear hK K9
          try simp only [Act.put, List.setIfInBounds_toArray, List.set_cons_zero, List.set_cons_succ]
          refine take_at (i := 6) (.pointer (some ⟨G, 33, none⟩)) (some 19) (by decide) (by rfl) (by kernel_rfl) (by kernel_rfl) (by kernel_rfl) (fun _ _ _ h => h) (by rfl) (fun W hW => by go_simp) (by assumption) ?_
          try simp only [Act.put, List.setIfInBounds_toArray, List.set_cons_zero, List.set_cons_succ]
          refine wpAnyH_ready (rs := [7]) (by kernel_rfl) (by simp) ?_
          refine AllReadyH.cons (Array.getElem?_eq_getElem (i := 7) (by decide)) (fun K9 hK => ?_) AllReadyH.nil
          have d7 := HG7.out.is
          have f7 := HG7.out.frozen 33
          go_simp
          have HG8 := Lib.hid (HG7.out.set33 (.slice A7 n7 m7))
          have HO8 := Lib.hid (HO7.out.put ⟨G, 33, none⟩ (.slice A7 n7 m7) (by show G < G + 1; omega))
          have HR8 := Lib.hid (HR7.out.other ⟨G, 33, none⟩ (.slice A7 n7 m7) (by show g ≠ G; omega))
          have HZ8 : Hid (ComAt (w7.setCell ⟨G, 33, none⟩ (.slice A7 n7 m7)) w.heap.size (cm0 idZ) (.slice none 0 0)) := (heap_setCell_other _ _ _ _ (by show w.heap.size ≠ G; omega)).trans HZ7.out
          have HW8 := Lib.hid (grown_new HW7.out (grown_set w7 G 33 (.slice A7 n7 m7)) (by omega))
          have hs8 : G + 1 ≤ (w7.setCell ⟨G, 33, none⟩ (.slice A7 n7 m7)).heap.size := by simpa using hs7
          clear d7 f7 HG7 HO7 HR7 HZ7 HW7
          generalize w7.setCell ⟨G, 33, none⟩ (.slice A7 n7 m7) = w8 at *
          refine hK.out _ _ trivial (fun _ => ?_)
          clear hK K9
          try simp only [Act.put, List.setIfInBounds_toArray, List.set_cons_zero, List.set_cons_succ]
          refine wpAnyH_done (by kernel_rfl) ?_ _
          try simp only [Act.put, List.setIfInBounds_toArray, List.set_cons_zero, List.set_cons_succ]
          go_wp2_with fail
          go_roundw
          case rel => exact ⟨k + 1, A7, n7, m7, by go_num, by omega, by rw [hnx.out]; exact HO8.out, HG8.out, HZ8.out, by rw [hnx.out]; exact HR8.out, HW8.out, hs8⟩
          case measure => simp [intOf]; omega
    · have hkn : k = n := by omega
      subst hkn
      generalize atI s0 k = q at *
      obtain ⟨l, bb, x⟩ := q
      simp only at *
      have HT1 := Lib.hid (fun W h => rtext_any g 32 bb x W h hsq (by omega) (by omega))
      have hlb2 := txB_len 32 bb
      have HT2 := Lib.hid (fun W h => rin_any g 1 1024 (txB 32 bb) (txX 32 bb) W h (Sane.tx 32 bb) (by omega))
      generalize txB 32 bb = b3 at *
      generalize txX 32 bb = x3 at *
      generalize txV 32 bb = note at *
      generalize inV 1 1024 b3 = num at *
      go_wp2_with fail
      refine (HT1.out _ hrd.out).mono ?_
      rintro e w5 ⟨rfl, hl5⟩
      have HG5 := Lib.hid (hcg.out.far hl5.2 (by omega))
      have HR5 := Lib.hid hl5.1
      have HW5 := Lib.hid (grown_then hw.out hl5.2)
      have HO5 := Lib.hid (ho.out.far hl5.2 (by omega))
      have HZ5 := Lib.hid (hcz.out.far hl5.2 (by omega))
      have hs5 : G + 1 ≤ w5.heap.size := Nat.le_trans hsz hl5.2.size
      clear hl5 hcg hrd hw ho hcz
      have d5 := HG5.out.note
      have f5 := HG5.out.frozen 34
      have HG6 := Lib.hid (HG5.out.set34 note)
      have HO6 := Lib.hid (HO5.out.put ⟨G, 34, none⟩ (.string ⟨note.toArray⟩) (by show G < G + 1; omega))
      have HR6 := Lib.hid (HR5.out.other ⟨G, 34, none⟩ (.string ⟨note.toArray⟩) (by show g ≠ G; omega))
      have HZ6 : Hid (ComAt (w5.setCell ⟨G, 34, none⟩ (.string ⟨note.toArray⟩)) w.heap.size (cm0 idZ) (.slice none 0 0)) := (heap_setCell_other _ _ _ _ (by show w.heap.size ≠ G; omega)).trans HZ5.out
      have HW6 := Lib.hid (grown_new HW5.out (grown_set w5 G 34 (.string ⟨note.toArray⟩)) (by omega))
      have hs6 : G + 1 ≤ (w5.setCell ⟨G, 34, none⟩ (.string ⟨note.toArray⟩)).heap.size := by simpa using hs5
      go_wp2_with fail
      clear d5 f5
      generalize w5.setCell ⟨G, 34, none⟩ (.string ⟨note.toArray⟩) = w6 at *
      refine (HT2.out _ HR6.out).mono ?_
      rintro e w7 ⟨rfl, hl7⟩
      have HG7 := Lib.hid (HG6.out.far hl7.2 (by omega))
      have HR7 := Lib.hid hl7.1
      have HW7 := Lib.hid (grown_then HW6.out hl7.2)
      have HO7 := Lib.hid (HO6.out.far hl7.2 (by omega))
      have HZ7 := Lib.hid (HZ6.out.far hl7.2 (by omega))
      have hs7 : G + 1 ≤ w7.heap.size := Nat.le_trans hs6 hl7.2.size
      clear hl7 HG6 HR6 HW6 HO6 HZ6 HG5 HR5 HW5 HO5 HZ5
      have d7 := HG7.out.num
      have f7 := HG7.out.frozen 35
      have HG8 := Lib.hid ((HG7.out.set35 num).as l)
      have HO8 := Lib.hid (HO7.out.put ⟨G, 35, none⟩ (.int .i64 num) (by show G < G + 1; omega))
      have HR8 := Lib.hid (HR7.out.other ⟨G, 35, none⟩ (.int .i64 num) (by show g ≠ G; omega))
      have HZ8 : Hid (ComAt (w7.setCell ⟨G, 35, none⟩ (.int .i64 num)) w.heap.size (cm0 idZ) (.slice none 0 0)) := (heap_setCell_other _ _ _ _ (by show w.heap.size ≠ G; omega)).trans HZ7.out
      have HW8 := Lib.hid (grown_new HW7.out (grown_set w7 G 35 (.int .i64 num)) (by omega))
      have hs8 : G + 1 ≤ (w7.setCell ⟨G, 35, none⟩ (.int .i64 num)).heap.size := by simpa using hs7
      have hcw := cells_com ⟨root, l, note, num⟩ (.slice A nn m)
      have HWH : Hid ((w7.setCell ⟨G, 35, none⟩ (.int .i64 num)).rangeAt G 0 (cmC ⟨root, l, note, num⟩ (.slice A nn m))) := ComAt.whole HG8.out
      go_wp2_with (first
        | (refine wpList_load_mid rfl 44 _ rfl G 0 rfl (cmC ⟨root, l, note, num⟩ (.slice A nn m)) _ HWH.out Try.underlying44 rfl hcw ?_)
        | (refine wp_put_cm rfl _ _ rfl w.heap.size rfl ⟨root, l, note, num⟩ A nn m rfl (cm0 idZ) _ HZ8.out ?hK))
      intro w9 h9 hg9
      have hwz := grown_new HW8.out hg9 (Nat.le_refl _)
      have hr9 := HR8.out.far2 hg9 (by omega)
      have hi9 : OwnRw iiC 33 41 w9 w.heap.size (.slice A nn m) l := (HO8.out.far hg9 (by omega)).lower (by omega)
      go_wp2_with fail
      refine bodyPost_ret (v := .agg (cmC ⟨root, l, note, num⟩ (.slice A nn m)).toArray) (ret_cm Try.results48 _ _ w.heap.size ⟨root, l, note, num⟩ (.slice A nn m) rfl h9) rfl ?_
      exact ⟨A, nn, m, rfl, hi9, hr9, hwz⟩

end Go.Proofs.Ytabogconbjdcgaa.Cd

/-
  object.GetCommit. Conditions: none.
-/
namespace Go.Proofs.Ytabogconbjdcgaa.Cd
open Go.RowKit

/-- What Get leaves: the commit of the bytes, or the nought and ErrForm. -/
def GotCm (b : List UInt8) (w : World) (e : Ending) (w' : World) : Prop :=
  ∃ (o : Option Cmt) (v : Value) (n : Int), e = .returned (.tuple #[v, .int .i64 n]) ∧ GetsC b o ∧ Below w.heap.size w w' ∧ CmtIn w' w'.heap.size v (o.getD (cm0 idZ)) ∧ n = if o.isSome = true then 0 else 4

theorem gotcm_none {b : List UInt8} {w w' : World} (h : GetsC b none) (hb : Below w.heap.size w w') : GotCm b w (.returned (.tuple #[.agg (cmC (cm0 idZ) (.slice none 0 0)).toArray, .int .i64 4])) w' :=
  ⟨none, _, 4, rfl, h, hb, ⟨_, rfl, RwIn.nil _ _⟩, rfl⟩

set_option maxRecDepth 100000 in
set_option maxHeartbeats 3200000 in
theorem getcmt_any (v : Value) (b : List UInt8) (w : World) (h : Sl w w.heap.size v b) (hs : b.length ≤ 100000) : Calls Try.prog 22 #[v] w (GotCm b w) := by
  obtain ⟨A, c, rfl, _, _⟩ := h.len
  have hb1 : Below w.heap.size w (w.alloc (.cells (cmC (cm0 idZ) (.slice none 0 0)).toArray 44)) := new_below _ _
  have hz1 : (w.alloc (.cells (cmC (cm0 idZ) (.slice none 0 0)).toArray 44)).heap.size = w.heap.size + 1 := asz _ _
  have HT1 : Hid (ComAt (w.alloc (.cells (cmC (cm0 idZ) (.slice none 0 0)).toArray 44)) w.heap.size (cm0 idZ) (.slice none 0 0)) := ComAt.new _ _ _
  have HS1 : Hid (Sl (w.alloc (.cells (cmC (cm0 idZ) (.slice none 0 0)).toArray 44)) (w.alloc (.cells (cmC (cm0 idZ) (.slice none 0 0)).toArray 44)).heap.size (.slice A b.length c) b) := (h.below hb1).more hb1.size
  have HB1 := Lib.hid hb1
  clear h hb1
  have HGC := Lib.hid (fun g W h => getcm_any g b W h hs)
  go_enter Try.func22, Try.ntmps22
  go_wp2_with (refine wp_alloc_row zero_cm rfl rfl ?_)
  generalize w.alloc (.cells (cmC (cm0 idZ) (.slice none 0 0)).toArray 44) = w1 at *
  refine (read_any _ b w1 HS1.out).mono ?_
  rintro e w2 ⟨rfl, hr2, hb2⟩
  obtain ⟨g, hg⟩ : ∃ x, w1.heap.size = x := ⟨_, rfl⟩
  rw [hg] at hr2 hb2 ⊢
  have HB2 := Lib.hid (HB1.out.trans (hb2.mono (by omega)))
  have HT2 := Lib.hid (HT1.out.below hb2 (by omega))
  have HR2 := Lib.hid hr2
  have hz2 := hb2.size
  clear hb2 hr2 HB1 HT1 HS1
  have HGB := Lib.hid (getb_any g b false w2 HR2.out (fun h => by cases h) (by omega))
  go_wp2_with fail
  refine HGB.out.mono ?_
  rintro e w3 ⟨rfl, hl3⟩
  have HR3 := Lib.hid hl3.1
  have HB3 := Lib.hid (below_of_grown HB2.out hl3.2 (by omega) (by omega))
  have HT3 := Lib.hid (HT2.out.far hl3.2 (by omega))
  have hz3 : g ≤ w3.heap.size := by have := hl3.2.size; omega
  clear hl3 HB2 HT2 HR2 HGB
  by_cases h1 : gbV false b = 3
  · have hq1 : (((gbV false b).toNat : Int) != 3) = false := by rw [h1]; rfl
    have hno : Hid (¬ (rdX b = false ∧ rdB b = [] ∧ GoodC (rdC b)) → GetsC b none) := fun hn => getC_no hn
    have hyes : Hid (rdX b = false → rdB b = [] → GoodC (rdC b) → GetsC b (some (rdC b))) := fun hb hn hg => getC_yes h1 hb hn hg
    generalize rdC b = C at *
    generalize rdB b = bs at *
    generalize rdX b = bad at *
    generalize gbV false b = kk at *
    generalize gbB false b = b1 at *
    generalize gbX false b = x1 at *
    clear h1
    go_wp2_with fail
    refine (HGC.out g w3 HR3.out).mono ?_
    rintro e w4 ⟨A4, n4, m4, rfl, hi4, hl4⟩
    have HR4 : Hid (Rd w4 g bs bad) := hl4.1
    have HB4 := Lib.hid (below_of_grown HB3.out hl4.2 (by omega) (by omega))
    have HT4 := Lib.hid (HT3.out.far hl4.2 (by omega))
    have hz4 : g ≤ w4.heap.size := by have := hl4.2.size; omega
    have hb5 : Below w4.heap.size w4 (w4.alloc (.cells (cmC C (.slice A4 n4 m4)).toArray 44)) := new_below _ _
    have hz5 : (w4.alloc (.cells (cmC C (.slice A4 n4 m4)).toArray 44)).heap.size = w4.heap.size + 1 := asz _ _
    have HC5 : Hid (ComAt (w4.alloc (.cells (cmC C (.slice A4 n4 m4)).toArray 44)) w4.heap.size C (.slice A4 n4 m4)) := ComAt.new _ _ _
    have HI5 : Hid (OwnRw iiC 33 41 (w4.alloc (.cells (cmC C (.slice A4 n4 m4)).toArray 44)) (w.heap.size + 1) (.slice A4 n4 m4) C.is) := (hi4.alloc _).lower (by omega)
    have HR5 := Lib.hid (HR4.out.on hb5)
    have HB5 := Lib.hid (HB4.out.trans (hb5.mono (by omega)))
    have HT5 := Lib.hid (HT4.out.below hb5 (by omega))
    clear hl4 HB3 HT3 HR3 HB4 HT4 HR4 hi4 hb5
    go_wp2_with (first
      | (refine wp_alloc_row zero_cm rfl rfl ?_)
      | (refine wp_fill_cm rfl _ _ rfl _ _ rfl (by simp [Act.eval, Act.put]) C A4 n4 m4 rfl ?_))
    generalize w4.alloc (.cells (cmC C (.slice A4 n4 m4)).toArray 44) = w5 at *
    refine (end_any g bs bad w5 HR5.out).mono ?_
    rintro e w6 ⟨rfl, rfl⟩
    have hcw := cells_com C (.slice A4 n4 m4)
    have HWH : Hid (w5.rangeAt w4.heap.size 0 (cmC C (.slice A4 n4 m4))) := ComAt.whole HC5.out
    by_cases hend : bad = false ∧ bs = []
    · obtain ⟨rfl, rfl⟩ := hend
      have hyes2 : Hid (GoodC C → GetsC b (some C)) := fun hg => hyes.out rfl rfl hg
      have hno2 : Hid (¬ GoodC C → GetsC b none) := fun hg => hno.out (fun hn => hg hn.2.2)
      clear hyes hno
      try dsimp only
      repeat (first
        | go_values | go_skip | go_guarded
        | (refine wp_load_mid 44 _ rfl w4.heap.size 0 rfl (cmC C (.slice A4 n4 m4)) _ HWH.out Try.underlying44 rfl hcw ?_; try simp only [Act.put, List.setIfInBounds_toArray, List.set_cons_zero, List.set_cons_succ])
        | go_step | go_upon)
      refine (goodc_any _ C w5 ⟨_, rfl, HI5.out.rwIn kind_ii⟩).mono ?_
      rintro e w6 ⟨s, rfl, hs6, hb6⟩
      have HB6 := Lib.hid (HB5.out.trans (hb6.mono (by omega)))
      have HT6 := Lib.hid (HT5.out.below hb6 (by omega))
      have HI6 := Lib.hid (HI5.out.keep hb6)
      have HC6 := Lib.hid (HC5.out.below hb6 (by omega))
      have hz6 : w4.heap.size < w6.heap.size := by have := hb6.size; omega
      clear hb6 HB5 HT5 HR5 HC5 HWH
      have HWH : Hid (w6.rangeAt w4.heap.size 0 (cmC C (.slice A4 n4 m4))) := ComAt.whole HC6.out
      cases s
      · have hG : Hid (GetsC b none) := hno2.out (fun hn => by have := hs6.2 hn; cases this)
        clear hs6 hyes2 hno2
        go_wp2_with (first
          | (refine wp_build_row rfl _ rfl _ built_cm0 (by simp) ?_)
          | (refine wp_put_cm rfl _ _ rfl w.heap.size rfl (cm0 idZ) none 0 0 rfl (cm0 idZ) _ HT6.out ?_; intro w7 ht7 hg7))
        have hb7 := below_of_grown HB6.out hg7 (by omega) (by omega)
        go_wp2_with fail
        exact bodyPost_ret (ret_cm2 Try.results22 _ _ w.heap.size _ _ (.int .i64 4) rfl ht7 rfl) rfl (gotcm_none hG.out hb7)
      · have hG : Hid (GetsC b (some C)) := hyes2.out (hs6.1 rfl)
        clear hs6 hyes2 hno2
        go_wp2_with (first
          | (refine wpList_load_mid rfl 44 _ rfl w4.heap.size 0 rfl (cmC C (.slice A4 n4 m4)) _ HWH.out Try.underlying44 rfl hcw ?_)
          | (refine wp_put_cm rfl _ _ rfl w.heap.size rfl C A4 n4 m4 rfl (cm0 idZ) _ HT6.out ?_; intro w7 ht7 hg7))
        have hb7 := below_of_grown HB6.out hg7 (by omega) (by omega)
        go_wp2_with fail
        refine bodyPost_ret (ret_cm2 Try.results22 _ _ w.heap.size _ _ (.int .i64 0) rfl ht7 rfl) rfl ?_
        exact ⟨some C, _, 0, rfl, hG.out, hb7, ⟨_, rfl, (HI6.out.far hg7 (by omega)).rwIn kind_ii⟩, rfl⟩
    · have hG : Hid (GetsC b none) := hno.out (fun hn => hend ⟨hn.1, hn.2.1⟩)
      have hbb : (!bad && bs.isEmpty) = false := by
        cases bad
        · cases bs
          · exact absurd ⟨rfl, rfl⟩ hend
          · rfl
        · rfl
      rw [hbb]
      clear hend hbb hno hyes
      go_wp2_with (first
        | (refine wp_build_row rfl _ rfl _ built_cm0 (by simp) ?_)
        | (refine wp_put_cm rfl _ _ rfl w.heap.size rfl (cm0 idZ) none 0 0 rfl (cm0 idZ) _ HT5.out ?_; intro w7 ht7 hg7))
      have hb7 := below_of_grown HB5.out hg7 (by omega) (by omega)
      go_wp2_with fail
      exact bodyPost_ret (ret_cm2 Try.results22 _ _ w.heap.size _ _ (.int .i64 4) rfl ht7 rfl) rfl (gotcm_none hG.out hb7)
  · have hq1 : (((gbV false b).toNat : Int) != 3) = true := by
      rw [bne_iff_ne]
      exact fun e => h1 (UInt8.toNat_inj.1 (by show _ = 3; omega))
    have hG := Lib.hid (getC_else h1)
    generalize gbV false b = kk at *
    clear h1 HGC
    go_wp2_with (first
      | (refine wp_build_row rfl _ rfl _ built_cm0 (by simp) ?_)
      | (refine wp_put_cm rfl _ _ rfl w.heap.size rfl (cm0 idZ) none 0 0 rfl (cm0 idZ) _ HT3.out ?_; intro w7 ht7 hg7))
    have hb7 := below_of_grown HB3.out hg7 (by omega) (by omega)
    go_wp2_with fail
    exact bodyPost_ret (ret_cm2 Try.results22 _ _ w.heap.size _ _ (.int .i64 4) rfl ht7 rfl) rfl (gotcm_none hG.out hb7)

end Go.Proofs.Ytabogconbjdcgaa.Cd

/-
  The document's SameTree, SameCommit. Conditions: none.
-/
namespace Go.Proofs.Ytabogconbjdcgaa.Cd
open Go.RowKit

set_option maxRecDepth 100000 in
set_option maxHeartbeats 3200000 in
theorem samet_any (u v : Value) (a b : Tre) (w : World) (hu : TreIn w w.heap.size u a) (hv : TreIn w w.heap.size v b) : Calls Try.prog 16 #[u, v] w (Says (a = b) w) := by
  obtain ⟨pa, ka⟩ := a
  obtain ⟨pb, kb⟩ := b
  obtain ⟨up, uk, rfl, h1, h2⟩ := hu
  obtain ⟨vp, vk, rfl, h3, h4⟩ := hv
  have h1 : PsIn w w.heap.size up pa := h1
  have h2 : KsIn w w.heap.size uk ka := h2
  have h3 : PsIn w w.heap.size vp pb := h3
  have h4 : KsIn w w.heap.size vk kb := h4
  obtain ⟨A1, c1, e1, k1, l1⟩ := h1.len
  obtain ⟨A2, c2, e2, k2, l2⟩ := h2.len
  obtain ⟨A3, c3, e3, k3, l3⟩ := h3.len
  obtain ⟨A4, c4, e4, k4, l4⟩ := h4.len
  have H1 := Lib.hid h1
  have H2 := Lib.hid h2
  have H3 := Lib.hid h3
  have H4 := Lib.hid h4
  clear h1 h2 h3 h4
  subst e1 e2 e3 e4
  have hz0 : (w.alloc (.cells #[.slice A1 pa.length c1, .slice A2 ka.length c2] 25)).heap.size = w.heap.size + 1 := asz _ _
  have HB1 : Hid (Below w.heap.size w ((w.alloc (.cells #[.slice A1 pa.length c1, .slice A2 ka.length c2] 25)).alloc (.cells #[.slice A3 pb.length c3, .slice A4 kb.length c4] 25))) := (new_below _ _).trans ((new_below _ _).mono (by omega))
  have HT1 : Hid (TrAt ((w.alloc (.cells #[.slice A1 pa.length c1, .slice A2 ka.length c2] 25)).alloc (.cells #[.slice A3 pb.length c3, .slice A4 kb.length c4] 25)) w.heap.size (.slice A1 pa.length c1) (.slice A2 ka.length c2)) := (TrAt.new _ _ _).below (new_below _ _) (by omega)
  have HU1 : Hid (TrAt ((w.alloc (.cells #[.slice A1 pa.length c1, .slice A2 ka.length c2] 25)).alloc (.cells #[.slice A3 pb.length c3, .slice A4 kb.length c4] 25)) (w.heap.size + 1) (.slice A3 pb.length c3) (.slice A4 kb.length c4)) := by
    have := TrAt.new (w.alloc (.cells #[.slice A1 pa.length c1, .slice A2 ka.length c2] 25)) (.slice A3 pb.length c3) (.slice A4 kb.length c4)
    rwa [hz0] at this
  have hz1 : w.heap.size + 2 ≤ ((w.alloc (.cells #[.slice A1 pa.length c1, .slice A2 ka.length c2] 25)).alloc (.cells #[.slice A3 pb.length c3, .slice A4 kb.length c4] 25)).heap.size := by rw [asz, hz0]; omega
  clear hz0
  go_enter Try.func16, Try.ntmps16
  go_wp2_with fail
  generalize (w.alloc (.cells #[.slice A1 pa.length c1, .slice A2 ka.length c2] 25)).alloc (.cells #[.slice A3 pb.length c3, .slice A4 kb.length c4] 25) = W1 at *
  refine (same8_any _ _ pa pb W1 ((H1.out.below HB1.out).more HB1.out.size) ((H3.out.below HB1.out).more HB1.out.size)).mono ?_
  rintro e W2 ⟨s, rfl, hs, hb⟩
  have HB2 := Lib.hid (HB1.out.trans (hb.mono (by omega)))
  have HT2 := Lib.hid (HT1.out.below hb (by omega))
  have HU2 := Lib.hid (HU1.out.below hb (by omega))
  have hz2 : w.heap.size + 2 ≤ W2.heap.size := Nat.le_trans hz1 hb.size
  clear hb HB1 HT1 HU1 hz1
  cases s
  case false =>
    have hno : Hid (¬ (⟨pa, ka⟩ : Tre) = ⟨pb, kb⟩) := fun e => by
      injection e with e _
      have := hs.2 e
      cases this
    clear hs
    go_wp2_with fail
    go_ret
    exact ⟨false, rfl, ⟨(fun h => by cases h), fun h => absurd h hno.out⟩, HB2.out⟩
  have HPP : Hid (pa = pb) := hs.1 rfl
  clear hs
  have d1 := HT2.out.c1
  have f1 := HU2.out.c1
  by_cases hl : ka.length = kb.length
  case neg =>
    have hno : Hid (¬ (⟨pa, ka⟩ : Tre) = ⟨pb, kb⟩) := fun e => by
      injection e with _ e
      exact hl (congrArg List.length e)
    have hq : ((ka.length : Int) != (kb.length : Int)) = true := by rw [bne_iff_ne]; omega
    clear hl
    go_wp2_with fail
    go_ret
    exact ⟨false, rfl, ⟨(fun h => by cases h), fun h => absurd h hno.out⟩, HB2.out⟩
  have HLB := Lib.hid hl
  rw [← hl] at k4 H4 HU2 f1 ⊢
  clear hl
  go_wp2_with fail
  go_loopw [24] (fun i wr => ∃ k : Nat, i = .int .i64 k ∧ k ≤ ka.length ∧ Hid (ka.take k = kb.take k) ∧ Hid (Below w.heap.size w wr) ∧ Hid (TrAt wr w.heap.size (.slice A1 pa.length c1) (.slice A2 ka.length c2)) ∧ Hid (TrAt wr (w.heap.size + 1) (.slice A3 pb.length c3) (.slice A4 ka.length c4))) (fun i _ => ka.length - (intOf i).toNat)
  case atStart => exact ⟨0, rfl, by omega, rfl, HB2.out, HT2.out, HU2.out⟩
  case round =>
    clear HB2 HT2 HU2 d1 f1 hz2
    obtain ⟨k, rfl, hk, hst, hbl, htr, hur⟩ := hrel
    by_cases hlt : k < ka.length
    · obtain ⟨x, hxk⟩ : ∃ x, ka[k]? = some x := ⟨ka[k], List.getElem?_eq_getElem hlt⟩
      obtain ⟨y, hyk⟩ : ∃ y, kb[k]? = some y := ⟨kb[k]'(by rw [← HLB.out]; exact hlt), List.getElem?_eq_getElem (by rw [← HLB.out]; exact hlt)⟩
      obtain ⟨b2, off2, e2, hB2, rx⟩ := KsIn.range (H2.out.below hbl.out) hxk
      obtain ⟨b3, off3, e3, hB3, ry⟩ := KsIn.range (H4.out.below hbl.out) hyk
      subst e2 e3
      have HX := Lib.hid hxk
      have HY := Lib.hid hyk
      clear hxk hyk
      have hne := neq_kk x y
      have heg := fun p q W => eqGuard_kk .neq p q x y W
      have hwk : IntKind.i64.wrap (k : Int) = (k : Int) := IntWalk.i64_in _ (by omega)
      have hkl : (k : Int) < ka.length := by omega
      obtain ⟨s, hs⟩ : ∃ s, eqKk x y = s := ⟨_, rfl⟩
      rw [hs] at hne
      have HS : Hid (s = true ↔ x = y) := by rw [← hs]; exact eqKk_iff x y
      clear hs
      go_wp2_with fail
      obtain ⟨W0, hW0⟩ : ∃ x, wr.drew = x := ⟨_, rfl⟩
      have hS0 : (TrAt W0 w.heap.size (.slice A1 pa.length c1) (.slice (some ⟨b2, off2, none⟩) ka.length c2) ∧ TrAt W0 (w.heap.size + 1) (.slice A3 pb.length c3) (.slice (some ⟨b3, off3, none⟩) ka.length c4)) ∧ W0.rangeAt b2 (off2 + k * 34) (kkC x) ∧ W0.rangeAt b3 (off3 + k * 34) (kkC y) := by
        rw [← hW0]
        exact ⟨⟨htr.out, hur.out⟩, rx, ry⟩
      have HBD : Hid (Below w.heap.size w W0) := by rw [← hW0]; exact hbl.out.drew
      clear hbl htr hur rx ry
      refine region_begin hW0 (S := fun W => (TrAt W w.heap.size (.slice A1 pa.length c1) (.slice (some ⟨b2, off2, none⟩) ka.length c2) ∧ TrAt W (w.heap.size + 1) (.slice A3 pb.length c3) (.slice (some ⟨b3, off3, none⟩) ka.length c4)) ∧ W.rangeAt b2 (off2 + k * 34) (kkC x) ∧ W.rangeAt b3 (off3 + k * 34) (kkC y)) (by kernel_rfl) hS0 (fun hHeld => ?_)
      clear hW0 hS0
      refine take_at (i := 0) (.pointer (some ⟨w.heap.size, 1, none⟩)) (some 27) (by decide) (by rfl) (by kernel_rfl) (by kernel_rfl) (by kernel_rfl) (fun _ _ _ h => h) (by rfl) (fun W hW => by go_simp) (by assumption) ?_
      try simp only [Act.put, List.setIfInBounds_toArray, List.set_cons_zero, List.set_cons_succ]
      refine take_at (i := 1) (.slice (some ⟨b2, off2, none⟩) ka.length c2) (some 28) (by decide) (by rfl) (by kernel_rfl) (by kernel_rfl) (by kernel_rfl) (fun _ _ _ h => h) (by rfl) (fun W hW => by have := hW.1.1.c1; go_simp) (by assumption) ?_
      try simp only [Act.put, List.setIfInBounds_toArray, List.set_cons_zero, List.set_cons_succ]
      refine take_at (i := 2) (.int .i64 (k : Int)) (some 29) (by decide) (by rfl) (by kernel_rfl) (by kernel_rfl) (by kernel_rfl) (fun _ _ _ h => h) (by rfl) (fun W hW => by go_simp) (by assumption) ?_
      try simp only [Act.put, List.setIfInBounds_toArray, List.set_cons_zero, List.set_cons_succ]
      refine take_at (i := 3) (.pointer (some ⟨b2, off2 + k * 34, none⟩)) (some 30) (by decide) (by rfl) (by kernel_rfl) (by kernel_rfl) (by kernel_rfl) (fun _ _ _ h => h) (by rfl) (fun W hW => by go_simp) (by assumption) ?_
      try simp only [Act.put, List.setIfInBounds_toArray, List.set_cons_zero, List.set_cons_succ]
      refine take_at (i := 4) (.agg (kkC x).toArray) (some 31) (by decide) (by rfl) (by kernel_rfl) (by kernel_rfl) (by kernel_rfl) (fun _ _ _ h => h) (by rfl) (fun W hW => by exact exec_load_mid _ _ rfl b2 (off2 + k * 34) rfl (kkC x) _ hW.2.1 Try.underlying59 rfl (cells_kk x)) (by assumption) ?_
      try simp only [Act.put, List.setIfInBounds_toArray, List.set_cons_zero, List.set_cons_succ]
      refine take_at (i := 5) (.pointer (some ⟨w.heap.size + 1, 1, none⟩)) (some 32) (by decide) (by rfl) (by kernel_rfl) (by kernel_rfl) (by kernel_rfl) (fun _ _ _ h => h) (by rfl) (fun W hW => by go_simp) (by assumption) ?_
      try simp only [Act.put, List.setIfInBounds_toArray, List.set_cons_zero, List.set_cons_succ]
      refine take_at (i := 6) (.slice (some ⟨b3, off3, none⟩) ka.length c4) (some 33) (by decide) (by rfl) (by kernel_rfl) (by kernel_rfl) (by kernel_rfl) (fun _ _ _ h => h) (by rfl) (fun W hW => by have := hW.1.2.c1; go_simp) (by assumption) ?_
      try simp only [Act.put, List.setIfInBounds_toArray, List.set_cons_zero, List.set_cons_succ]
      refine take_at (i := 7) (.int .i64 (k : Int)) (some 34) (by decide) (by rfl) (by kernel_rfl) (by kernel_rfl) (by kernel_rfl) (fun _ _ _ h => h) (by rfl) (fun W hW => by go_simp) (by assumption) ?_
      try simp only [Act.put, List.setIfInBounds_toArray, List.set_cons_zero, List.set_cons_succ]
      refine take_at (i := 8) (.pointer (some ⟨b3, off3 + k * 34, none⟩)) (some 35) (by decide) (by rfl) (by kernel_rfl) (by kernel_rfl) (by kernel_rfl) (fun _ _ _ h => h) (by rfl) (fun W hW => by go_simp) (by assumption) ?_
      try simp only [Act.put, List.setIfInBounds_toArray, List.set_cons_zero, List.set_cons_succ]
      refine take_at (i := 9) (.agg (kkC y).toArray) (some 36) (by decide) (by rfl) (by kernel_rfl) (by kernel_rfl) (by kernel_rfl) (fun _ _ _ h => h) (by rfl) (fun W hW => by exact exec_load_mid _ _ rfl b3 (off3 + k * 34) rfl (kkC y) _ hW.2.2 Try.underlying59 rfl (cells_kk y)) (by assumption) ?_
      try simp only [Act.put, List.setIfInBounds_toArray, List.set_cons_zero, List.set_cons_succ]
      refine take_at (i := 10) (.bool (!s)) (some 37) (by decide) (by rfl) (by kernel_rfl) (by kernel_rfl) (by kernel_rfl) (fun _ _ _ h => h) (by rfl) (fun W hW => by go_simp) (by assumption) ?_
      try simp only [Act.put, List.setIfInBounds_toArray, List.set_cons_zero, List.set_cons_succ]
      refine wpAnyH_done (by kernel_rfl) ?_ _
      try simp only [Act.put, List.setIfInBounds_toArray, List.set_cons_zero, List.set_cons_succ]
      cases s
      · have hno : Hid (¬ (⟨pa, ka⟩ : Tre) = ⟨pb, kb⟩) := fun e => by
          injection e with _ e
          have h1 := HX.out
          rw [e, HY.out] at h1
          injection h1 with h1
          have := HS.out.2 h1.symm
          cases this
        go_wp2_with fail
        go_ret
        exact ⟨false, rfl, ⟨(fun h => by cases h), fun h => absurd h hno.out⟩, HBD.out⟩
      · have hst2 : Hid (ka.take (k + 1) = kb.take (k + 1)) := by
          obtain ⟨h1, h1'⟩ := List.getElem?_eq_some_iff.1 HX.out
          obtain ⟨h2, h3⟩ := List.getElem?_eq_some_iff.1 HY.out
          unfold Hid
          rw [List.take_succ_eq_append_getElem h1, List.take_succ_eq_append_getElem h2, hst.out, h3, h1', HS.out.1 rfl]
        have HTX := Lib.hid hHeld.1.1
        have HUX := Lib.hid hHeld.1.2
        clear hHeld
        go_wp2_with fail
        go_roundw
        case rel => exact ⟨k + 1, by go_num, by omega, hst2, HBD.out, HTX.out, HUX.out⟩
        case measure => simp [intOf]; omega
    · have he : Hid (ka = kb) := by
        have := hst.out
        rwa [List.take_of_length_le (by omega), List.take_of_length_le (by rw [← HLB.out]; omega)] at this
      have hyes : Hid ((⟨pa, ka⟩ : Tre) = ⟨pb, kb⟩) := by rw [HPP.out, he.out]; exact rfl
      go_wp2_with fail
      go_ret
      exact ⟨true, rfl, ⟨fun _ => hyes.out, fun _ => rfl⟩, hbl.out⟩

theorem wp_neq_id {ops : Array Oper} {rest : List Oper} {o : Oper} {a : Act} {w : World} {Q : Exit → Act → World → Prop} (hgd : o.guard = none) (p q : Operand) (t : TypeId) (ho : o.op = .binOp .neq 41 p q t)
    (x y : List UInt8) (hx : x.length = 33) (hy : y.length = 33) (hp : a.eval p = idV x) (hq : a.eval q = idV y)
    (h : wpList Try.prog ops Q rest (a.put o.dst (.bool (!(x == y)))) w) : wpList Try.prog ops Q (o :: rest) a w :=
  wpList_plain hgd fun _ hK => op_neq_id p q t ho x y hx hy hp hq (hK _ _ h)

end Go.Proofs.Ytabogconbjdcgaa.Cd

/-
  The document's SameCommit. Conditions: none.
-/
namespace Go.Proofs.Ytabogconbjdcgaa.Cd
open Go.RowKit

theorem cmt_ext {a b : Cmt} (h1 : a.root = b.root) (h2 : a.is = b.is) (h3 : a.note = b.note) (h4 : a.num = b.num) : a = b := by
  obtain ⟨p, q, r, s⟩ := a
  obtain ⟨p', q', r', s'⟩ := b
  simp only at h1 h2 h3 h4
  rw [h1, h2, h3, h4]

set_option maxRecDepth 100000 in
set_option maxHeartbeats 6400000 in
theorem samec_any (u v : Value) (a b : Cmt) (w : World) (hu : CmtIn w w.heap.size u a) (hv : CmtIn w w.heap.size v b) : Calls Try.prog 24 #[u, v] w (Says (a = b) w) := by
  obtain ⟨ui, rfl, h1⟩ := hu
  obtain ⟨vi, rfl, h2⟩ := hv
  have h1 : IsIn w w.heap.size ui a.is := h1
  have h2 : IsIn w w.heap.size vi b.is := h2
  obtain ⟨A1, c1, e1, k1, l1⟩ := h1.len
  obtain ⟨A2, c2, e2, k2, l2⟩ := h2.len
  have H1 := Lib.hid h1
  have H2 := Lib.hid h2
  clear h1 h2
  subst e1 e2
  have hz0 : (w.alloc (.cells (cmC a (.slice A1 a.is.length c1)).toArray 44)).heap.size = w.heap.size + 1 := asz _ _
  have HB1 : Hid (Below w.heap.size w ((w.alloc (.cells (cmC a (.slice A1 a.is.length c1)).toArray 44)).alloc (.cells (cmC b (.slice A2 b.is.length c2)).toArray 44))) := (new_below _ _).trans ((new_below _ _).mono (by omega))
  have HT1 : Hid (ComAt ((w.alloc (.cells (cmC a (.slice A1 a.is.length c1)).toArray 44)).alloc (.cells (cmC b (.slice A2 b.is.length c2)).toArray 44)) w.heap.size a (.slice A1 a.is.length c1)) := (ComAt.new _ _ _).below (new_below _ _) (by omega)
  have HU1 : Hid (ComAt ((w.alloc (.cells (cmC a (.slice A1 a.is.length c1)).toArray 44)).alloc (.cells (cmC b (.slice A2 b.is.length c2)).toArray 44)) (w.heap.size + 1) b (.slice A2 b.is.length c2)) := by
    have := ComAt.new (w.alloc (.cells (cmC a (.slice A1 a.is.length c1)).toArray 44)) b (.slice A2 b.is.length c2)
    rwa [hz0] at this
  have hra : Hid (a.root.1.length = 33) := a.root.2
  have hrb : Hid (b.root.1.length = 33) := b.root.2
  have d33 := HT1.out.is
  have d34 := HT1.out.note
  have d35 := HT1.out.num
  have f33 := HU1.out.is
  have f34 := HU1.out.note
  have f35 := HU1.out.num
  have g1 : Hid (((w.alloc (.cells (cmC a (.slice A1 a.is.length c1)).toArray 44)).alloc (.cells (cmC b (.slice A2 b.is.length c2)).toArray 44)).rangeAt w.heap.size 0 (vb a.root.1)) := HT1.out.id
  have g2 : Hid (((w.alloc (.cells (cmC a (.slice A1 a.is.length c1)).toArray 44)).alloc (.cells (cmC b (.slice A2 b.is.length c2)).toArray 44)).rangeAt (w.heap.size + 1) 0 (vb b.root.1)) := HU1.out.id
  have heg : ∀ p q W, (eqGuard .neq 41 p q (.agg (vb a.root.1).toArray) (.agg (vb b.root.1).toArray)).run Try.prog W = .ok () W := fun p q W => eqGuard_id .neq p q a.root.1 b.root.1 W
  have hne : ∀ W, (binOp .neq 41 (.agg (vb a.root.1).toArray) (.agg (vb b.root.1).toArray)).run Try.prog W = .ok (.bool (!(a.root.1 == b.root.1))) W := fun W => neq_id a.root.1 b.root.1 a.root.2 b.root.2 W
  by_cases hr : a.root = b.root
  case neg =>
    have hno : Hid (¬ a = b) := fun e => hr (by rw [e])
    rw [show (a.root.1 == b.root.1) = false from beq_eq_false_iff_ne.2 (fun e => hr (Subtype.ext e))] at hne
    clear hr
    go_enter Try.func24, Try.ntmps24
    go_wp2_with (first
      | go_skip | go_guarded
      | (refine wp_box_row rfl _ rfl rfl ?_)
      | (refine wpList_load_mid rfl 41 _ rfl w.heap.size 0 rfl (vb a.root.1) _ g1.out Try.underlying41 rfl (cells_ii a.root) ?_)
      | (refine wpList_load_mid rfl 41 _ rfl (w.heap.size + 1) 0 rfl (vb b.root.1) _ g2.out Try.underlying41 rfl (cells_ii b.root) ?_))
    go_ret
    exact ⟨false, rfl, ⟨(fun h => by cases h), fun h => absurd h hno.out⟩, HB1.out⟩
  have HRR := Lib.hid hr
  rw [show (a.root.1 == b.root.1) = true by rw [hr]; exact beq_self_eq_true _] at hne
  clear hr
  by_cases hn : a.note = b.note
  case neg =>
    have hno : Hid (¬ a = b) := fun e => hn (by rw [e])
    have hq : (a.note == b.note) = false := beq_eq_false_iff_ne.2 hn
    clear hn
    go_enter Try.func24, Try.ntmps24
    go_wp2_with (first
      | go_skip | go_guarded
      | (refine wp_box_row rfl _ rfl rfl ?_)
      | (refine wpList_load_mid rfl 41 _ rfl w.heap.size 0 rfl (vb a.root.1) _ g1.out Try.underlying41 rfl (cells_ii a.root) ?_)
      | (refine wpList_load_mid rfl 41 _ rfl (w.heap.size + 1) 0 rfl (vb b.root.1) _ g2.out Try.underlying41 rfl (cells_ii b.root) ?_))
    go_ret
    exact ⟨false, rfl, ⟨(fun h => by cases h), fun h => absurd h hno.out⟩, HB1.out⟩
  have HNN := Lib.hid hn
  have hq : (a.note == b.note) = true := by rw [hn]; exact beq_self_eq_true _
  clear hn
  by_cases hm : a.num = b.num
  case neg =>
    have hno : Hid (¬ a = b) := fun e => hm (by rw [e])
    have hq2 : (a.num != b.num) = true := bne_iff_ne.2 hm
    clear hm
    go_enter Try.func24, Try.ntmps24
    go_wp2_with (first
      | go_skip | go_guarded
      | (refine wp_box_row rfl _ rfl rfl ?_)
      | (refine wpList_load_mid rfl 41 _ rfl w.heap.size 0 rfl (vb a.root.1) _ g1.out Try.underlying41 rfl (cells_ii a.root) ?_)
      | (refine wpList_load_mid rfl 41 _ rfl (w.heap.size + 1) 0 rfl (vb b.root.1) _ g2.out Try.underlying41 rfl (cells_ii b.root) ?_))
    go_ret
    exact ⟨false, rfl, ⟨(fun h => by cases h), fun h => absurd h hno.out⟩, HB1.out⟩
  have HMM := Lib.hid hm
  have hq2 : (a.num != b.num) = false := by rw [hm]; exact bne_self_eq_false _
  clear hm
  by_cases hl : a.is.length = b.is.length
  case neg =>
    have hno : Hid (¬ a = b) := fun e => hl (by rw [e])
    have hq3 : ((a.is.length : Int) != (b.is.length : Int)) = true := by rw [bne_iff_ne]; omega
    clear hl
    go_enter Try.func24, Try.ntmps24
    go_wp2_with (first
      | go_skip | go_guarded
      | (refine wp_box_row rfl _ rfl rfl ?_)
      | (refine wpList_load_mid rfl 41 _ rfl w.heap.size 0 rfl (vb a.root.1) _ g1.out Try.underlying41 rfl (cells_ii a.root) ?_)
      | (refine wpList_load_mid rfl 41 _ rfl (w.heap.size + 1) 0 rfl (vb b.root.1) _ g2.out Try.underlying41 rfl (cells_ii b.root) ?_))
    go_ret
    exact ⟨false, rfl, ⟨(fun h => by cases h), fun h => absurd h hno.out⟩, HB1.out⟩
  have HLB := Lib.hid hl
  have hq3 : ((a.is.length : Int) != (b.is.length : Int)) = false := by rw [bne_eq_false_iff_eq]; omega
  clear hl
  go_enter Try.func24, Try.ntmps24
  go_wp2_with (first
    | go_skip | go_guarded
      | (refine wp_box_row rfl _ rfl rfl ?_)
      | (refine wpList_load_mid rfl 41 _ rfl w.heap.size 0 rfl (vb a.root.1) _ g1.out Try.underlying41 rfl (cells_ii a.root) ?_)
      | (refine wpList_load_mid rfl 41 _ rfl (w.heap.size + 1) 0 rfl (vb b.root.1) _ g2.out Try.underlying41 rfl (cells_ii b.root) ?_))
  clear d33 d34 d35 f33 f34 f35 g1 g2 hq hq2 hq3 hne heg
  go_loopw [37] (fun i wr => ∃ k : Nat, i = .int .i64 k ∧ k ≤ a.is.length ∧ Hid (a.is.take k = b.is.take k) ∧ Hid (Below w.heap.size w wr) ∧ Hid (ComAt wr w.heap.size a (.slice A1 a.is.length c1)) ∧ Hid (ComAt wr (w.heap.size + 1) b (.slice A2 b.is.length c2))) (fun i _ => a.is.length - (intOf i).toNat)
  case atStart => exact ⟨0, rfl, by omega, rfl, HB1.out, HT1.out, HU1.out⟩
  case round =>
    clear HB1 HT1 HU1
    obtain ⟨k, rfl, hk, hst, hbl, htr, hur⟩ := hrel
    by_cases hlt : k < a.is.length
    · obtain ⟨x, hxk⟩ : ∃ x, a.is[k]? = some x := ⟨a.is[k], List.getElem?_eq_getElem hlt⟩
      obtain ⟨y, hyk⟩ : ∃ y, b.is[k]? = some y := ⟨b.is[k]'(by rw [← HLB.out]; exact hlt), List.getElem?_eq_getElem (by rw [← HLB.out]; exact hlt)⟩
      obtain ⟨b2, off2, e2, hB2, rx⟩ := IsIn.range (H1.out.below hbl.out) hxk
      obtain ⟨b3, off3, e3, hB3, ry⟩ := IsIn.range (H2.out.below hbl.out) hyk
      subst e2 e3
      have HX := Lib.hid hxk
      have HY := Lib.hid hyk
      clear hxk hyk
      have hx33 := x.2
      have hy33 := y.2
      have hne := fun W => neq_id x.1 y.1 hx33 hy33 W
      have heg := fun p q W => eqGuard_id .neq p q x.1 y.1 W
      have hwk : IntKind.i64.wrap (k : Int) = (k : Int) := IntWalk.i64_in _ (by omega)
      have hkl : (k : Int) < a.is.length := by omega
      have hkl2 : (k : Int) < b.is.length := by have := HLB.out; omega
      obtain ⟨s, hs⟩ : ∃ s, (x.1 == y.1) = s := ⟨_, rfl⟩
      rw [hs] at hne
      have HS : Hid (s = true ↔ x = y) := by
        rw [← hs]
        show (x.1 == y.1) = true ↔ x = y
        rw [beq_iff_eq]
        exact ⟨fun h => Subtype.ext h, fun h => by rw [h]⟩
      clear hs
      go_wp2_with fail
      obtain ⟨W0, hW0⟩ : ∃ x, wr.drew = x := ⟨_, rfl⟩
      have hS0 : (ComAt W0 w.heap.size a (.slice (some ⟨b2, off2, none⟩) a.is.length c1) ∧ ComAt W0 (w.heap.size + 1) b (.slice (some ⟨b3, off3, none⟩) b.is.length c2)) ∧ W0.rangeAt b2 (off2 + k * 33) (vb x.1) ∧ W0.rangeAt b3 (off3 + k * 33) (vb y.1) := by
        rw [← hW0]
        exact ⟨⟨htr.out, hur.out⟩, rx, ry⟩
      have HBD : Hid (Below w.heap.size w W0) := by rw [← hW0]; exact hbl.out.drew
      clear hbl htr hur rx ry
      refine region_begin hW0 (S := fun W => (ComAt W w.heap.size a (.slice (some ⟨b2, off2, none⟩) a.is.length c1) ∧ ComAt W (w.heap.size + 1) b (.slice (some ⟨b3, off3, none⟩) b.is.length c2)) ∧ W.rangeAt b2 (off2 + k * 33) (vb x.1) ∧ W.rangeAt b3 (off3 + k * 33) (vb y.1)) (by kernel_rfl) hS0 (fun hHeld => ?_)
      clear hW0 hS0
      refine take_at (i := 0) (.pointer (some ⟨w.heap.size, 33, none⟩)) (some 40) (by decide) (by rfl) (by kernel_rfl) (by kernel_rfl) (by kernel_rfl) (fun _ _ _ h => h) (by rfl) (fun W hW => by go_simp) (by assumption) ?_
      try simp only [Act.put, List.setIfInBounds_toArray, List.set_cons_zero, List.set_cons_succ]
      refine take_at (i := 1) (.slice (some ⟨b2, off2, none⟩) a.is.length c1) (some 41) (by decide) (by rfl) (by kernel_rfl) (by kernel_rfl) (by kernel_rfl) (fun _ _ _ h => h) (by rfl) (fun W hW => by have := hW.1.1.is; go_simp) (by assumption) ?_
      try simp only [Act.put, List.setIfInBounds_toArray, List.set_cons_zero, List.set_cons_succ]
      refine take_at (i := 2) (.int .i64 (k : Int)) (some 42) (by decide) (by rfl) (by kernel_rfl) (by kernel_rfl) (by kernel_rfl) (fun _ _ _ h => h) (by rfl) (fun W hW => by go_simp) (by assumption) ?_
      try simp only [Act.put, List.setIfInBounds_toArray, List.set_cons_zero, List.set_cons_succ]
      refine take_at (i := 3) (.pointer (some ⟨b2, off2 + k * 33, none⟩)) (some 43) (by decide) (by rfl) (by kernel_rfl) (by kernel_rfl) (by kernel_rfl) (fun _ _ _ h => h) (by rfl) (fun W hW => by go_simp) (by assumption) ?_
      try simp only [Act.put, List.setIfInBounds_toArray, List.set_cons_zero, List.set_cons_succ]
      refine take_at (i := 4) (idV x.1) (some 44) (by decide) (by rfl) (by kernel_rfl) (by kernel_rfl) (by kernel_rfl) (fun _ _ _ h => h) (by rfl) (fun W hW => by exact exec_load_mid _ _ rfl b2 (off2 + k * 33) rfl (vb x.1) _ hW.2.1 Try.underlying41 rfl (cells_ii x)) (by assumption) ?_
      try simp only [Act.put, List.setIfInBounds_toArray, List.set_cons_zero, List.set_cons_succ]
      refine take_at (i := 5) (.pointer (some ⟨w.heap.size + 1, 33, none⟩)) (some 45) (by decide) (by rfl) (by kernel_rfl) (by kernel_rfl) (by kernel_rfl) (fun _ _ _ h => h) (by rfl) (fun W hW => by go_simp) (by assumption) ?_
      try simp only [Act.put, List.setIfInBounds_toArray, List.set_cons_zero, List.set_cons_succ]
      refine take_at (i := 6) (.slice (some ⟨b3, off3, none⟩) b.is.length c2) (some 46) (by decide) (by rfl) (by kernel_rfl) (by kernel_rfl) (by kernel_rfl) (fun _ _ _ h => h) (by rfl) (fun W hW => by have := hW.1.2.is; go_simp) (by assumption) ?_
      try simp only [Act.put, List.setIfInBounds_toArray, List.set_cons_zero, List.set_cons_succ]
      refine take_at (i := 7) (.int .i64 (k : Int)) (some 47) (by decide) (by rfl) (by kernel_rfl) (by kernel_rfl) (by kernel_rfl) (fun _ _ _ h => h) (by rfl) (fun W hW => by go_simp) (by assumption) ?_
      try simp only [Act.put, List.setIfInBounds_toArray, List.set_cons_zero, List.set_cons_succ]
      refine take_at (i := 8) (.pointer (some ⟨b3, off3 + k * 33, none⟩)) (some 48) (by decide) (by rfl) (by kernel_rfl) (by kernel_rfl) (by kernel_rfl) (fun _ _ _ h => h) (by rfl) (fun W hW => by go_simp) (by assumption) ?_
      try simp only [Act.put, List.setIfInBounds_toArray, List.set_cons_zero, List.set_cons_succ]
      refine take_at (i := 9) (idV y.1) (some 49) (by decide) (by rfl) (by kernel_rfl) (by kernel_rfl) (by kernel_rfl) (fun _ _ _ h => h) (by rfl) (fun W hW => by exact exec_load_mid _ _ rfl b3 (off3 + k * 33) rfl (vb y.1) _ hW.2.2 Try.underlying41 rfl (cells_ii y)) (by assumption) ?_
      try simp only [Act.put, List.setIfInBounds_toArray, List.set_cons_zero, List.set_cons_succ]
      refine take_at (i := 10) (.bool (!s)) (some 50) (by decide) (by rfl) (by kernel_rfl) (by kernel_rfl) (by kernel_rfl) (fun _ _ _ h => h) (by rfl) (fun W hW => by go_simp) (by assumption) ?_
      try simp only [Act.put, List.setIfInBounds_toArray, List.set_cons_zero, List.set_cons_succ]
      refine wpAnyH_done (by kernel_rfl) ?_ _
      try simp only [Act.put, List.setIfInBounds_toArray, List.set_cons_zero, List.set_cons_succ]
      cases s
      · have hno : Hid (¬ a = b) := fun e => by
          have h1 := HX.out
          rw [show a.is = b.is by rw [e], HY.out] at h1
          injection h1 with h1
          have := HS.out.2 h1.symm
          cases this
        go_wp2_with fail
        go_ret
        exact ⟨false, rfl, ⟨(fun h => by cases h), fun h => absurd h hno.out⟩, HBD.out⟩
      · have hst2 : Hid (a.is.take (k + 1) = b.is.take (k + 1)) := by
          obtain ⟨h1, h1'⟩ := List.getElem?_eq_some_iff.1 HX.out
          obtain ⟨h2, h3⟩ := List.getElem?_eq_some_iff.1 HY.out
          unfold Hid
          rw [List.take_succ_eq_append_getElem h1, List.take_succ_eq_append_getElem h2, hst.out, h3, h1', HS.out.1 rfl]
        have HTX := Lib.hid hHeld.1.1
        have HUX := Lib.hid hHeld.1.2
        clear hHeld
        go_wp2_with fail
        go_roundw
        case rel => exact ⟨k + 1, by go_num, by omega, hst2, HBD.out, HTX.out, HUX.out⟩
        case measure => simp [intOf]; omega
    · have he : Hid (a.is = b.is) := by
        have := hst.out
        rwa [List.take_of_length_le (by omega), List.take_of_length_le (by rw [← HLB.out]; omega)] at this
      have hyes : Hid (a = b) := cmt_ext HRR.out he.out HNN.out HMM.out
      go_wp2_with fail
      go_ret
      exact ⟨true, rfl, ⟨fun _ => hyes.out, fun _ => rfl⟩, hbl.out⟩

end Go.Proofs.Ytabogconbjdcgaa.Cd
