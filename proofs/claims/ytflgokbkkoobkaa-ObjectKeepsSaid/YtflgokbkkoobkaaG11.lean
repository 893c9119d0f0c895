/-
  A row of pairs, a row of kids and a box, laid side by side in any order. Conditions: none.
-/
import Derived.Test.YtflgokbkkoobkaaG9
import Derived.Great.BuildSlice
import Derived.Deep.RegionWith
import Derived.Lib.SmallJoins
import Derived.SizedLaws
import Derived.Deep.RegionLaw
import Derived.Deep.DeepMust
import Derived.Test.YtflgokbkkoobkaaG5
import Derived.Test.YtflgokbkkoobkaaG3
/-
  Values of many cells that are laid out of parts; rows of one. Conditions: none.
-/
namespace Go.Proofs.Ytflgokbkkoobkaa.Cd
open Go.RowKit

theorem fold_laid (off : Nat) (vs : List Value) : ∀ (k : Nat) (cs : Array Value), (vs.zipIdx k).foldl (fun cs x => cs.setIfInBounds (off + x.2) x.1) cs = (laid cs.toList (off + k) vs).toArray := by
  induction vs with
  | nil => intro k cs; simp [laid]
  | cons v r ih =>
    intro k cs
    rw [List.zipIdx_cons, List.foldl_cons, ih, laid, Array.toList_setIfInBounds]
    rfl
theorem fill_laid {place : Nat → Option (Nat × Nat)} {cells : Array Value} {i : Nat} {v : Value} {rest : List (Nat × Value)} {off size : Nat} (hp : place i = some (off, size)) (vs : List Value) (hv : v.cells = vs.toArray) (hs : vs.length = size) (ho : off + size ≤ cells.size) :
    Instr.fill place cells ((i, v) :: rest) = Instr.fill place (laid cells.toList off vs).toArray rest := by
  subst hs
  have hfold := fold_laid off vs 0 cells
  rw [Nat.add_zero] at hfold
  rw [Instr.fill, hp]
  simp only [hv]
  have hz : vs.toArray.size = vs.length := by simp
  rw [if_neg (by simp; omega)]
  rw [← hfold]
  congr 1
  rw [← Array.foldl_toList, Array.toList_zipIdx]

/-- A struct's nought, and where its fields lie. -/
def shapeOf (P : Program) (t : TypeId) : Option (Value × List (Nat × Nat)) :=
  match P.info? t, P.underlying t with
  | some it, some (.struct fields) =>
    match it.zero, fields.toList.mapM (fun f => (P.info? f.type).map fun i => (f.offset, i.size)) with
    | some z, some places => some (z, places)
    | _, _ => none
  | _, _ => none
theorem built_shape {P : Program} {t : TypeId} {z : Value} {places : List (Nat × Nat)} (h : shapeOf P t = some (z, places)) (parts : List (Nat × Value)) : P.built t parts = Instr.fill (places.toArray[·]?) z.cells parts := by
  unfold shapeOf at h
  unfold Program.built
  split at h
  · rename_i it fields h1 h2
    rw [h1, h2]
    simp only
    split at h
    · rename_i z' p' h3 h4
      injection h with h
      injection h with ha hb
      subst ha hb
      rw [h3, h4]
    · cases h
  · cases h

theorem shape_kk : shapeOf Try.prog 48 = some (.agg (Value.string ByteArray.empty :: vb (zer 33)).toArray, [(0, 1), (1, 33)]) := by kernel_rfl
theorem built_kk (s : List UInt8) (i : Idn) : Try.prog.built 48 [(0, .string ⟨s.toArray⟩), (1, idV i.1)] = some (kkC (s, i)).toArray := by
  have hl : (vb i.1).length = 33 := by rw [vb_length, i.2]
  rw [built_shape shape_kk, fill_laid (off := 0) (size := 1) rfl [.string ⟨s.toArray⟩] rfl rfl (by simp [Value.cells, vb_length, zer_length]), fill_laid (off := 1) (size := 33) rfl (vb i.1) rfl hl (by simp [Value.cells, laid_length, vb_length, zer_length])]
  have h := laid_mid [Value.string ⟨s.toArray⟩] (vb (zer 33)) [] (vb i.1) (by rw [hl, vb_length, zer_length])
  simp only [List.append_nil, List.length_singleton] at h
  have e : laid (Value.agg (Value.string ByteArray.empty :: vb (zer 33)).toArray).cells.toList 0 [Value.string ⟨s.toArray⟩] = [Value.string ⟨s.toArray⟩] ++ vb (zer 33) := rfl
  rw [e]
  show some (laid ([Value.string ⟨s.toArray⟩] ++ vb (zer 33)) 1 (vb i.1)).toArray = _
  rw [h]
  rfl
theorem wp_build_kk {ops : Array Oper} {rest : List Oper} {o : Oper} {a : Act} {w : World} {Q : Exit → Act → World → Prop} (hgd : o.guard = none) (x y : Operand) (ho : o.op = .build 48 #[(0, x), (1, y)])
    (s : List UInt8) (i : Idn) (hx : a.eval x = .string ⟨s.toArray⟩) (hy : a.eval y = idV i.1)
    (h : wpList Try.prog ops Q rest (a.put o.dst (.agg (kkC (s, i)).toArray)) w) : wpList Try.prog ops Q (o :: rest) a w :=
  wp_build_row hgd _ ho _ (built_kk s i) (by simp [hx, hy]) h

/-- A row of one. -/
theorem fill_one {α : Type} {f : α → List Value} {n : Nat} {T S : TypeId} {bytes : Nat} {z : Value} (K : Kind f n T S bytes z) (p : α) (cells : Array Value) (hc : cells.size = n) :
    Instr.fill (fun i => some (i * n, n)) cells [(0, .agg (f p).toArray)] = some (f p).toArray := by
  rw [fill_laid (off := 0) (size := n) (by simp) (f p) rfl (K.len p) (by omega), Instr.fill]
  have h := laid_mid [] cells.toList [] (f p) (by rw [K.len]; simp [hc])
  simp only [List.append_nil, List.nil_append, List.length_nil] at h
  rw [h]
section
variable {α : Type} {f : α → List Value} {n : Nat} {T S : TypeId} {bytes : Nat} {z : Value}
theorem op_one (K : Kind f n T S bytes z) (hn : n ≤ 1000) {o : Oper} {a : Act} {w : World} {K9 : Act → World → Prop} {Q : Exit → Act → World → Prop} (x : Operand) (ho : o.op = .buildSlice S 1 #[(0, x)]) (p : α) (hx : a.eval x = .agg (f p).toArray)
    (h : K9 (a.put o.dst (.slice (some ⟨w.heap.size, 0, none⟩) 1 1)) (w.alloc (.cells (f p).toArray T))) : o.wp Try.prog a w K9 Q := by
  obtain ⟨i0, hi, hz0, hz1, hz2⟩ := info_parts K.info
  subst hz1
  have hp := K.pos
  exact wp_buildSlice S T 1 _ ho (f p).toArray i0 z K.slice hi hz0 (by omega) (by omega) (by
    have e : (#[(0, x)].map fun (i, x) => (i, a.eval x)).toList = [(0, .agg (f p).toArray)] := by simp [hx]
    rw [e]
    exact fill_one K p _ (by simp)) h
theorem wp_one (K : Kind f n T S bytes z) (hn : n ≤ 1000) {ops : Array Oper} {rest : List Oper} {o : Oper} {a : Act} {w : World} {Q : Exit → Act → World → Prop} (hgd : o.guard = none) (x : Operand) (ho : o.op = .buildSlice S 1 #[(0, x)]) (p : α) (hx : a.eval x = .agg (f p).toArray)
    (h : wpList Try.prog ops Q rest (a.put o.dst (.slice (some ⟨w.heap.size, 0, none⟩) 1 1)) (w.alloc (.cells (f p).toArray T))) : wpList Try.prog ops Q (o :: rest) a w :=
  wpList_plain hgd fun _ hK => op_one K hn x ho p hx (hK _ _ h)
theorem step_one (K : Kind f n T S bytes z) (hn : n ≤ 1000) {ops : Array Oper} {o : Oper} {a : Act} {w : World} {K9 : Act → World → Prop} {Q : Exit → Act → World → Prop} {E : Prop} (hgd : o.guard = none) (x : Operand) (ho : o.op = .buildSlice S 1 #[(0, x)]) (p : α) (hx : a.eval x = .agg (f p).toArray)
    (h : K9 (a.put o.dst (.slice (some ⟨w.heap.size, 0, none⟩) 1 1)) (w.alloc (.cells (f p).toArray T))) : if Region.wanted o (yielded ops a.tmps) = true then Oper.wp Try.prog o a w K9 Q else E := by
  have hw : Region.wanted o (yielded ops a.tmps) = true := by simp [Region.wanted, hgd]
  rw [if_pos hw]
  exact op_one K hn x ho p hx h
end

end Go.Proofs.Ytflgokbkkoobkaa.Cd

/-
  object.getKids. Conditions: none.
-/
namespace Go.Proofs.Ytflgokbkkoobkaa.Cd
open Go.RowKit

end Go.Proofs.Ytflgokbkkoobkaa.Cd

/-
  object.GetTree. Conditions: none.
-/
namespace Go.Proofs.Ytflgokbkkoobkaa.Cd
open Go.RowKit

theorem zero_tr (W : World) : (zeroValue 25).run Try.prog W = .ok (.agg #[.slice none 0 0, .slice none 0 0]) W := by kernel_rfl
theorem size_tr : (Try.prog.info? 25).map (·.size) = some 2 := by kernel_rfl
/-- Block g is a tree. -/
def TrAt (w : World) (g : Nat) (vp vk : Value) : Prop := w.heap[g]? = some (.cells #[vp, vk] 25)
theorem TrAt.new (w : World) (vp vk : Value) : TrAt (w.alloc (.cells #[vp, vk] 25)) w.heap.size vp vk := heap_alloc_new _ _
theorem TrAt.lt {w : World} {g : Nat} {vp vk : Value} (h : TrAt w g vp vk) : g < w.heap.size := (Array.getElem?_eq_some_iff.1 h).1
theorem TrAt.below {w w' : World} {g B : Nat} {vp vk : Value} (h : TrAt w g vp vk) (hb : Below B w w') (hB : g < B) : TrAt w' g vp vk := (hb.block g hB).trans h
theorem TrAt.far {w w' : World} {g g' : Nat} {vp vk : Value} (h : TrAt w g vp vk) (hg : w.grownBy w' (some g')) (hne : g ≠ g') : TrAt w' g vp vk := (hg.block g h.lt (fun e => hne (by injection e))).trans h
theorem TrAt.c0 {w : World} {g : Nat} {vp vk : Value} (h : TrAt w g vp vk) : w.cell? ⟨g, 0, none⟩ = some vp := cell_of_row _ _ _ _ _ _ h
theorem TrAt.c1 {w : World} {g : Nat} {vp vk : Value} (h : TrAt w g vp vk) : w.cell? ⟨g, 1, none⟩ = some vk := cell_of_row _ _ _ _ _ _ h
theorem TrAt.frozen {w : World} {g : Nat} {vp vk : Value} (h : TrAt w g vp vk) (i : Nat) : w.frozen? ⟨g, i, none⟩ = false := by
  unfold TrAt at h
  simp [World.frozen?, h]
theorem TrAt.whole {w : World} {g : Nat} {vp vk : Value} (h : TrAt w g vp vk) (a b : Value) : TrAt ((w.setCell ⟨g, 0, none⟩ a).setCell ⟨g, 1, none⟩ b) g a b := by
  have h1 := heap_setCell_same _ g 0 _ _ a h
  exact heap_setCell_same _ g 1 _ _ b h1
theorem below_two {B : Nat} {w0 w : World} {g : Nat} (h : Below B w0 w) (hg : B ≤ g) (a b : Value) : Below B w0 ((w.setCell ⟨g, 0, none⟩ a).setCell ⟨g, 1, none⟩ b) :=
  (h.setCell (p := ⟨g, 0, none⟩) hg _).setCell (p := ⟨g, 1, none⟩) hg _
theorem OwnRw.two {α : Type} {f : α → List Value} {n : Nat} {T : TypeId} {w : World} {B : Nat} {v : Value} {l : List α} {g : Nat} (h : OwnRw f n T w B v l) (hg : g < B) (a b : Value) : OwnRw f n T ((w.setCell ⟨g, 0, none⟩ a).setCell ⟨g, 1, none⟩ b) B v l :=
  (h.put ⟨g, 0, none⟩ a hg).put ⟨g, 1, none⟩ b hg
theorem ret_tr {fn : Func} {p q : Tmp} (hf : fn.results = #[.cell p 25, .tmp q]) (tmps : Array Value) (w : World) (g : Nat) (vp vk x : Value)
    (hp : tmps.getD p undef = .pointer (some ⟨g, 0, none⟩)) (hg : TrAt w g vp vk) (hq : tmps.getD q undef = x) : (results fn tmps).run Try.prog w = .ok (.tuple #[.agg #[vp, vk], x]) w := by
  have hp' : tmps[p]?.getD undef = .pointer (some ⟨g, 0, none⟩) := by simpa using hp
  have hq' : tmps[q]?.getD undef = x := by simpa using hq
  have hld := run_loadVar_row (P := Try.prog) w g _ 25 _ _ _ hg Try.underlying25 rfl size_tr
  simp [results, hf, hp', hq', asAddr, hld]

/-- What Get leaves: the tree of the bytes, or the nought and ErrForm. -/
def GotT (b : List UInt8) (w : World) (e : Ending) (w' : World) : Prop :=
  ∃ (o : Option Tre) (v : Value) (n : Int), e = .returned (.tuple #[v, .int .i64 n]) ∧ GetsT b o ∧ Below w.heap.size w w' ∧ TreIn w' w'.heap.size v (o.getD ⟨[], []⟩) ∧ n = if o.isSome = true then 0 else 4

theorem got_none {b : List UInt8} {w w' : World} (h : GetsT b none) (hb : Below w.heap.size w w') : GotT b w (.returned (.tuple #[.agg #[.slice none 0 0, .slice none 0 0], .int .i64 4])) w' :=
  ⟨none, _, 4, rfl, h, hb, ⟨_, _, rfl, RwIn.nil _ _, RwIn.nil _ _⟩, rfl⟩

end Go.Proofs.Ytflgokbkkoobkaa.Cd

/-
  What the laws of trees and commits ask first: alive, greatTree, greatCommit. Conditions: texts of fewer than 2^47 bytes.
-/
namespace Go.Proofs.Ytflgokbkkoobkaa.Cd
open Go.RowKit

theorem goodT_nil : GoodT ⟨[], []⟩ := .inl ⟨rfl, ⟨by simp, (fun _ h => by cases h), (fun _ h => by cases h), fun j a b h => by simp at h⟩⟩
theorem treeB_nil : treeB ⟨[], []⟩ = [1, 0] := rfl

set_option maxRecDepth 100000 in
set_option maxHeartbeats 1600000 in
theorem oalive_any (w : World) : Calls Try.prog 4 #[] w (Gives (.bool true) w) := by
  have hp := putt_any (.agg #[.slice none 0 0, .slice none 0 0]) ⟨[], []⟩ w ⟨_, _, rfl, RwIn.nil _ _, RwIn.nil _ _⟩
  rw [treeB_nil] at hp
  have HP := Lib.hid hp
  clear hp
  go_enter Try.func4, Try.ntmps4
  go_wp2_with fail
  refine HP.out.mono ?_
  rintro e w1 ⟨v, n, rfl, hb1, h⟩
  rcases h with ⟨_, rfl, ho⟩ | ⟨hno, _⟩
  · have hcv := run_text_of _ _ _ _ ho.sl
    have HB := Lib.hid hb1
    clear ho hb1
    have hq : (ByteArray.mk [1, 0].toArray == ByteArray.mk #[1, 0]) = true := by decide
    go_wp2_with fail
    go_ret
    exact ⟨rfl, HB.out⟩
  · exact absurd goodT_nil hno

/-! ### Not too much -/

structure FitT (t : Tre) : Prop where
  key : ∀ p ∈ t.ps, p.1.length ≤ 140737488351232
  val : ∀ p ∈ t.ps, p.2.length ≤ 140737488351232
  kid : ∀ p ∈ t.ks, p.1.length ≤ 140737488351232
structure SmallT (t : Tre) : Prop where
  ps : t.ps.length ≤ 50
  ks : t.ks.length ≤ 50
  key : ∀ p ∈ t.ps, p.1.length ≤ 4096
  val : ∀ p ∈ t.ps, p.2.length ≤ 4096
  kid : ∀ p ∈ t.ks, p.1.length ≤ 4096
/-- What a question answers, of which only the no matters. -/
def Asks (P : Prop) (w : World) (e : Ending) (w' : World) : Prop := ∃ s : Bool, e = .returned (.bool s) ∧ (s = false → P) ∧ Below w.heap.size w w'

set_option maxRecDepth 100000 in
set_option maxHeartbeats 3200000 in
theorem greatt_any (v : Value) (t : Tre) (w : World) (h : TreIn w w.heap.size v t) (hf : FitT t) : Calls Try.prog 5 #[v] w (Asks (SmallT t) w) := by
  obtain ⟨ps, ks⟩ := t
  obtain ⟨vp, vk, rfl, h1, h2⟩ := h
  have h1 : PsIn w w.heap.size vp ps := h1
  have h2 : KsIn w w.heap.size vk ks := h2
  obtain ⟨A1, c1, e1, k1, l1⟩ := h1.len
  obtain ⟨A2, c2, e2, k2, l2⟩ := h2.len
  have HF := Lib.hid hf
  have H1 : Hid (PsIn w w.heap.size vp ps) := h1
  have H2 : Hid (KsIn w w.heap.size vk ks) := h2
  clear h1 h2 hf
  subst e1 e2
  have HB0 : Hid (Below w.heap.size w (w.alloc (.cells #[.slice A1 ps.length c1, .slice A2 ks.length c2] 25))) := new_below _ _
  have HT0 : Hid (TrAt (w.alloc (.cells #[.slice A1 ps.length c1, .slice A2 ks.length c2] 25)) w.heap.size (.slice A1 ps.length c1) (.slice A2 ks.length c2)) := TrAt.new _ _ _
  have hz0 : w.heap.size < (w.alloc (.cells #[.slice A1 ps.length c1, .slice A2 ks.length c2] 25)).heap.size := by simp
  by_cases hbig : 50 < ps.length ∨ 50 < ks.length
  · have hways : (50 : Int) < ps.length ∨ (¬ (50 : Int) < ps.length ∧ (50 : Int) < ks.length) := by omega
    clear hbig
    rcases hways with h1 | ⟨h1, h2⟩
    all_goals
      go_enter Try.func5, Try.ntmps5
      go_wp2_with fail
      go_ret
      exact ⟨true, rfl, (fun h => by cases h), HB0.out⟩
  have hb1 : ¬ (50 : Int) < ps.length := by omega
  have hb2 : ¬ (50 : Int) < ks.length := by omega
  have hd1 : decide ((50 : Int) < ps.length) = false := decide_eq_false hb1
  have hd2 : decide ((50 : Int) < ks.length) = false := decide_eq_false hb2
  have hp50 : ps.length ≤ 50 := by omega
  have hk50 : ks.length ≤ 50 := by omega
  clear hbig
  go_enter Try.func5, Try.ntmps5
  go_wp2_with fail
  generalize w.alloc (.cells #[.slice A1 ps.length c1, .slice A2 ks.length c2] 25) = w0 at *
  go_loopw [3, 21] (fun n i wr => ∃ k tot : Nat, i = .int .i64 k ∧ n = .int .i64 tot ∧ k ≤ ps.length ∧ tot ≤ 4096 ∧ Hid (∀ (j : Nat) p, j < k → ps[j]? = some p → p.1.length ≤ 4096 ∧ p.2.length ≤ 4096) ∧ Hid (Below w.heap.size w wr) ∧ Hid (TrAt wr w.heap.size (.slice A1 ps.length c1) (.slice A2 ks.length c2)) ∧ w.heap.size < wr.heap.size) (fun _ i _ => ps.length - (intOf i).toNat)
  case atStart => exact ⟨0, 0, rfl, rfl, by omega, by omega, fun j _ h => by omega, HB0.out, HT0.out, hz0⟩
  case round =>
    clear HB0 HT0 hz0
    obtain ⟨k, tot, rfl, rfl, hk, htot, hp, hbl, htr, hzr⟩ := hrel
    by_cases hlt : k < ps.length
    · obtain ⟨x, hxk⟩ : ∃ x, ps[k]? = some x := ⟨ps[k], List.getElem?_eq_getElem hlt⟩
      obtain ⟨b2, off2, e2, hB2, d0, d1⟩ := PsIn.at2 (H1.out.below hbl.out) hxk
      subst e2
      have HX := Lib.hid hxk
      have hf1 := HF.out.key x (List.mem_of_getElem? hxk)
      have hf2 := HF.out.val x (List.mem_of_getElem? hxk)
      clear hxk
      have hb3 : Below wr.heap.size wr (wr.alloc (.cells #[.string ⟨x.1.toArray⟩, .string ⟨x.2.toArray⟩] 43)) := new_below _ _
      have HB3 := Lib.hid (hbl.out.trans (hb3.mono (by omega)))
      have HT3 := Lib.hid (htr.out.below hb3 hzr)
      have hz3 : w.heap.size < (wr.alloc (.cells #[.string ⟨x.1.toArray⟩, .string ⟨x.2.toArray⟩] 43)).heap.size := by simp; omega
      clear hb3
      have hzx1 : (ByteArray.mk x.1.toArray).size = x.1.length := rfl
      have hzx2 : (ByteArray.mk x.2.toArray).size = x.2.length := rfl
      have hs1 : IntKind.i64.wrap ((tot : Int) + ((x.1.length : Int) + (x.2.length : Int))) = ((tot + (x.1.length + x.2.length) : Nat) : Int) := by rw [IntWalk.i64_in _ (by omega)]; omega
      by_cases hov : 4096 < tot + (x.1.length + x.2.length)
      · have hov' : (4096 : Int) < (tot : Int) + ((x.1.length : Int) + (x.2.length : Int)) := by omega
        clear hov
        go_wp2_with fail
        go_ret
        exact ⟨true, rfl, (fun h => by cases h), HB3.out⟩
      · have hov' : ¬ (4096 : Int) < (tot : Int) + ((x.1.length : Int) + (x.2.length : Int)) := by omega
        have hp2 : Hid (∀ (j : Nat) p, j < k + 1 → ps[j]? = some p → p.1.length ≤ 4096 ∧ p.2.length ≤ 4096) := fun j p hj hjp => by
          by_cases e : j = k
          · subst e
            rw [HX.out] at hjp
            injection hjp with hjp
            subst hjp
            exact ⟨by omega, by omega⟩
          · exact hp.out j p (by omega) hjp
        go_wp2_with fail
        go_roundw
        case rel => exact ⟨k + 1, tot + (x.1.length + x.2.length), by go_num, by go_num, by omega, by omega, hp2, HB3.out, HT3.out, hz3⟩
        case measure => simp [intOf]; omega
    · have hps : Hid (∀ p ∈ ps, p.1.length ≤ 4096 ∧ p.2.length ≤ 4096) := fun p hpl => by
        obtain ⟨j, hj, rfl⟩ := List.getElem_of_mem hpl
        exact hp.out j _ (by omega) (List.getElem?_eq_getElem hj)
      have d1 := htr.out.c1
      clear hp
      go_wp2_with fail
      go_loopw [3, 40] (fun n i wx => ∃ k tot : Nat, i = .int .i64 k ∧ n = .int .i64 tot ∧ k ≤ ks.length ∧ tot ≤ 4096 ∧ Hid (∀ (j : Nat) p, j < k → ks[j]? = some p → p.1.length ≤ 4096) ∧ Hid (Below w.heap.size w wx)) (fun _ i _ => ks.length - (intOf i).toNat)
      case atStart => exact ⟨0, tot, rfl, rfl, by omega, by omega, fun j _ h => by omega, hbl.out⟩
      case round =>
        clear htr hbl hzr d1 htot
        obtain ⟨k, tot, rfl, rfl, hk, htot, hp, hbl⟩ := hrel
        by_cases hlt : k < ks.length
        · obtain ⟨x, hxk⟩ : ∃ x, ks[k]? = some x := ⟨ks[k], List.getElem?_eq_getElem hlt⟩
          obtain ⟨b2, off2, e2, hB2, rx⟩ := KsIn.range (H2.out.below hbl.out) hxk
          subst e2
          have RX := Lib.hid rx
          have HX := Lib.hid hxk
          have hf1 := HF.out.kid x (List.mem_of_getElem? hxk)
          clear hxk rx
          have HB3 : Hid (Below w.heap.size w (wr.alloc (.cells (kkC x).toArray 48))) := hbl.out.alloc hbl.out.size _
          have HK : Hid (KidAt (wr.alloc (.cells (kkC x).toArray 48)) wr.heap.size x) := KidAt.new _ _
          have d0 := HK.out.key
          have hzx1 : (ByteArray.mk x.1.toArray).size = x.1.length := rfl
          by_cases hov : 4096 < tot + x.1.length
          · have hov' : (4096 : Int) < (tot : Int) + (x.1.length : Int) := by omega
            clear hov
            go_wp2_with (first
              | (refine wpList_load_mid rfl 48 _ rfl b2 (off2 + k * 34) rfl (kkC x) _ RX.out Try.underlying48 rfl (cells_kk x) ?_)
              | (refine wp_alloc_row zero_kk rfl rfl ?_)
              | (refine wp_fill_kk rfl _ _ rfl rfl (by simp [Act.eval, Act.put]) x rfl ?_))
            go_ret
            exact ⟨true, rfl, (fun h => by cases h), HB3.out⟩
          · have hov' : ¬ (4096 : Int) < (tot : Int) + (x.1.length : Int) := by omega
            have hp2 : Hid (∀ (j : Nat) p, j < k + 1 → ks[j]? = some p → p.1.length ≤ 4096) := fun j p hj hjp => by
              by_cases e : j = k
              · subst e
                rw [HX.out] at hjp
                injection hjp with hjp
                subst hjp
                omega
              · exact hp.out j p (by omega) hjp
            go_wp2_with (first
              | (refine wpList_load_mid rfl 48 _ rfl b2 (off2 + k * 34) rfl (kkC x) _ RX.out Try.underlying48 rfl (cells_kk x) ?_)
              | (refine wp_alloc_row zero_kk rfl rfl ?_)
              | (refine wp_fill_kk rfl _ _ rfl rfl (by simp [Act.eval, Act.put]) x rfl ?_))
            go_roundw
            case rel => exact ⟨k + 1, tot + x.1.length, by go_num, by go_num, by omega, by omega, hp2, HB3.out⟩
            case measure => simp [intOf]; omega
        · have hyes : Hid (SmallT ⟨ps, ks⟩) := ⟨hp50, hk50, fun p h => (hps.out p h).1, fun p h => (hps.out p h).2, fun p hpl => by
            obtain ⟨j, hj, rfl⟩ := List.getElem_of_mem hpl
            exact hp.out j _ (by have : ks.length ≤ k := by omega
                                 have hj' : j < ks.length := hj
                                 omega) (List.getElem?_eq_getElem hj)⟩
          clear hp
          go_wp2_with fail
          go_ret
          exact ⟨false, rfl, fun _ => hyes.out, hbl.out⟩

structure SmallC (c : Cmt) : Prop where
  is : c.is.length ≤ 50
  note : c.note.length ≤ 1024

set_option maxRecDepth 100000 in
set_option maxHeartbeats 1600000 in
theorem greatc_any (v : Value) (c : Cmt) (w : World) (h : CmtIn w w.heap.size v c) : Calls Try.prog 6 #[v] w (Asks (SmallC c) w) := by
  obtain ⟨vi, rfl, hi⟩ := h
  obtain ⟨A, cc, rfl, k1, l1⟩ := hi.len
  have HB1 : Hid (Below w.heap.size w (w.alloc (.cells (cmC c (.slice A c.is.length cc)).toArray 31))) := new_below _ _
  have HC : Hid (ComAt (w.alloc (.cells (cmC c (.slice A c.is.length cc)).toArray 31)) w.heap.size c (.slice A c.is.length cc)) := ComAt.new _ _ _
  have hzn : (ByteArray.mk c.note.toArray).size = c.note.length := rfl
  go_enter Try.func6, Try.ntmps6
  have d33 := HC.out.is
  have d34 := HC.out.note
  rcases (by omega : 50 < c.is.length ∨ (¬ 50 < c.is.length ∧ 1024 < c.note.length) ∨ (¬ 50 < c.is.length ∧ ¬ 1024 < c.note.length)) with h1 | ⟨h1, h2⟩ | ⟨h1, h2⟩
  · have q1 : (50 : Int) < c.is.length := by omega
    go_wp2_with (refine wp_box_row rfl _ rfl rfl ?_)
    go_ret
    exact ⟨true, rfl, (fun h => by cases h), HB1.out⟩
  · have q1 : ¬ (50 : Int) < c.is.length := by omega
    have q2 : (1024 : Int) < c.note.length := by omega
    go_wp2_with (refine wp_box_row rfl _ rfl rfl ?_)
    go_ret
    exact ⟨_, rfl, (fun h => by simp at h), HB1.out⟩
  · have q1 : ¬ (50 : Int) < c.is.length := by omega
    have q2 : ¬ (1024 : Int) < c.note.length := by omega
    go_wp2_with (refine wp_box_row rfl _ rfl rfl ?_)
    go_ret
    exact ⟨_, rfl, fun _ => ⟨by omega, by omega⟩, HB1.out⟩

end Go.Proofs.Ytflgokbkkoobkaa.Cd

/-
  Trees and commits as arguments: how they read, how large they can be. Conditions: none.
-/
namespace Go.Proofs.Ytflgokbkkoobkaa.Cd
open Go.RowKit Go.ChangeShapes Go.WideShapes Go.Deep Go.Joins

theorem weights_mem_all {H : Type} {e : TypeId} : ∀ {l : List (DataW H)} {d : DataW H}, d ∈ l → ∀ n ∈ d.weights Try.prog e, n ∈ DataW.weightsAll Try.prog e l
  | [], _, h, _, _ => by cases h
  | x :: r, d, h, n, hn => by
    unfold DataW.weightsAll
    rcases List.mem_cons.1 h with rfl | h
    · exact List.mem_append_left _ hn
    · exact List.mem_append_right _ (weights_mem_all h n hn)

theorem cells_s1 : Try.prog.cellsOf 9 = 1 := by kernel_rfl
theorem cells_b1 : Try.prog.cellsOf 5 = 1 := by kernel_rfl
theorem cells_sum : Try.prog.cellsOf 26 = 32 := by kernel_rfl
theorem cells_ps : Try.prog.cellsOf 43 = 2 := by kernel_rfl
theorem cells_ks : Try.prog.cellsOf 48 = 34 := by kernel_rfl
theorem cells_is : Try.prog.cellsOf 28 = 33 := by kernel_rfl
theorem cells_sis : Try.prog.cellsOf 29 = 1 := by kernel_rfl
theorem cells_cms : Try.prog.cellsOf 31 = 36 := by kernel_rfl
theorem cells_n1 : Try.prog.cellsOf 3 = 1 := by kernel_rfl

/-- A name's cells that are read. -/
theorem id_cells {H : Type} {enc : TypeId × Value → H} {w : World} {m : Nat} {cs : List Value} {x : DataW H × List MemPlace} (hlen : cs.length = 33)
    (h : DataW.trod enc Try.prog w 0 (fun _ => true) true m 28 cs = some x) : ∃ i : Idn, cs = vb i.1 := by
  obtain ⟨y0, y1, n, hx, hl, h0, h1⟩ := trod_struct2 Try.underlying28 h
  obtain ⟨xs, m, _, _, hl2, hl3, h2⟩ := DataW.trod_array Try.underlying26 h1
  have hcell : ∀ i, i < 33 → ∃ c : UInt8, cs[i]? = some (.int .u8 c.toNat) := by
    intro i hi
    cases i with
    | zero =>
      obtain ⟨c, hc⟩ := ione_byte h0
      refine ⟨c, ?_⟩
      have := congrArg (fun l => l[0]?) hc
      simpa [cells_b1, List.getElem?_take] using this
    | succ i =>
      have h3 := h2 i (by omega)
      rw [List.getElem?_eq_getElem (by omega)] at h3
      obtain ⟨c, hc⟩ := ione_byte h3
      refine ⟨c, ?_⟩
      have := congrArg (fun l => l[0]?) hc
      have hi2 : i < 32 := by omega
      simp [cells_b1, cells_sum, List.getElem?_drop, hi2] at this
      exact this
  obtain ⟨l, e1, e2⟩ := bytes_of_cells 33 cs hlen hcell
  exact ⟨⟨l, e1⟩, e2⟩

section
variable {α : Type} [Inhabited α] {f : α → List Value} {n : Nat} {T S : TypeId}

/-- Cells that are read as a slice of things, where each thing's cells are read as one. -/
theorem rw_of_cells {H : Type} {enc : TypeId × Value → H} {w : World} (hS : Try.prog.underlying S = some (.slice T)) (hn : Try.prog.cellsOf T = n) (hpos : 0 < n) (hlen : ∀ p, (f p).length = n) (Fit : α → Prop)
    (item : ∀ {m : Nat} {cs : List Value} {x : DataW H × List MemPlace}, cs.length = n → DataW.trod enc Try.prog w 0 (fun _ => true) true m T cs = some x → ∃ p, cs = f p ∧ ((∀ k ∈ x.1.weights Try.prog T, k ≤ reachBytes) → Fit p))
    {fuel : Nat} {cs : List Value} {x : DataW H × List MemPlace} (hf : DataW.trod enc Try.prog w 0 (fun _ => true) true fuel S cs = some x) :
    ∃ A k c ps, cs = [.slice A k c] ∧ RwIn f n w w.heap.size (.slice A k c) ps ∧ ((∀ m ∈ x.1.weights Try.prog S, m ≤ reachBytes) → ∀ p ∈ ps, Fit p) := by
  rcases open_slice hS hf with ⟨hcs, _⟩ | ⟨a, n0, c0, m, fl, D, Pl, hcs, _, hl, hm, hmm, hx, hi⟩
  · exact ⟨none, 0, 0, [], hcs, RwIn.nil _ _, fun _ p hp => by cases hp⟩
  · have hone : ∀ i, i < n0 → ∃ p : α, ((∀ k ∈ (D i).weights Try.prog T, k ≤ reachBytes) → Fit p) ∧ ∀ (j : Nat) v, (f p)[j]? = some v → w.cell? (a.add (i * n + j)) = some v := by
      intro i hin
      obtain ⟨cs', hcc, htt⟩ := hi i (by rw [hmm]; simp; omega)
      rw [hn] at hcc
      obtain ⟨_, hlen', hat⟩ := World.cells?_some hcc
      obtain ⟨p, hp, hfit⟩ := item hlen' htt
      refine ⟨p, hfit, fun j v hv => ?_⟩
      have hj : j < n := by
        have := (List.getElem?_eq_some_iff.1 hv).1
        rw [hlen] at this
        exact this
      rw [← Go.Deep.add_add, hat j hj, hp]
      exact hv
    obtain ⟨g, hg2⟩ := choose_lt hone
    have hget : ∀ (i : Nat) p, ((List.range n0).map g)[i]? = some p → i < n0 ∧ p = g i := by
      intro i p hip
      obtain ⟨hlt, rfl⟩ := List.getElem?_eq_some_iff.1 hip
      simp at hlt
      exact ⟨hlt, by simp⟩
    refine ⟨some a, n0, c0, (List.range n0).map g, hcs, ⟨some a, c0, by simp, by simpa using hl, hm, (fun h => by cases h), fun hp => ?_⟩, fun hw => ?_⟩
    · have hp0 : 0 < n0 := by simpa using hp
      obtain ⟨b, off, spot⟩ := a
      have hc := (hg2 0 hp0).2 0 ((f (g 0))[0]'(by rw [hlen]; exact hpos)) (List.getElem?_eq_getElem _)
      have hspot : spot = none := by simpa [Addr.add] using World.cell?_spot hc
      subst hspot
      refine ⟨b, off, rfl, ?_, ?_⟩
      · have := World.block_lt_of_cell? w _ hc
        rwa [block_of_add] at this
      · intro i p hip j x hj
        obtain ⟨hlt, rfl⟩ := hget i p hip
        have := (hg2 i hlt).2 j x hj
        rwa [Addr.add_lit, ← Nat.add_assoc] at this
    · intro p hp
      obtain ⟨i, hi2, rfl⟩ := List.mem_map.1 hp
      have hlt := List.mem_range.1 hi2
      refine (hg2 i hlt).1 fun k hk => hw k ?_
      have hd : x.1 = .slice ((List.range n0).map D) ((List.range (m - n0)).map fun j => D (n0 + j)) := by rw [hx]
      rw [hd]
      simp only [DataW.weights, hS]
      exact List.mem_cons_of_mem _ (List.mem_append_left _ (weights_mem_all (d := D i) (List.mem_map.2 ⟨i, hi2, rfl⟩) k hk))
end

/-- What a text can weigh. -/
def FitP (p : Bp) : Prop := p.1.length ≤ 140737488351232 ∧ p.2.length ≤ 140737488351232
def FitK (p : Kd) : Prop := p.1.length ≤ 140737488351232
theorem lit_weight {H : Type} {l : List UInt8} {T : TypeId} (h : ∀ n ∈ (DataW.lit (H := H) (.string l)).weights Try.prog T, n ≤ reachBytes) : l.length ≤ 140737488351232 := by
  have := h l.length (by simp [DataW.weights])
  simp only [reachBytes] at this
  omega
theorem list_bytes (x : ByteArray) : x = ⟨x.data.toList.toArray⟩ := by simp

set_option maxRecDepth 100000 in
theorem pair_cells {H : Type} {enc : TypeId × Value → H} {w : World} {m : Nat} {cs : List Value} {x : DataW H × List MemPlace} (hlen : cs.length = 2)
    (h : DataW.trod enc Try.prog w 0 (fun _ => true) true m 43 cs = some x) : ∃ p : Bp, cs = ppC p ∧ ((∀ k ∈ x.1.weights Try.prog 43, k ≤ reachBytes) → FitP p) := by
  obtain ⟨y0, y1, n, hx, hl, h0, h1⟩ := trod_struct2 Try.underlying43 h
  match cs, hlen with
  | [z0, z1], _ =>
    have f0 : DataW.trod enc Try.prog w 0 (fun _ => true) true n 9 (([z0, z1].drop 0).take (Try.prog.cellsOf 9)) = some y0 := h0
    have f1 : DataW.trod enc Try.prog w 0 (fun _ => true) true n 9 (([z0, z1].drop 1).take (Try.prog.cellsOf 9)) = some y1 := h1
    rw [cells_s1] at f0 f1
    obtain ⟨x0, q0, e0, _⟩ := DataW.trod_string (cs := [z0]) Try.underlying9 f0
    obtain ⟨x1, q1, e1, _⟩ := DataW.trod_string (cs := [z1]) Try.underlying9 f1
    simp only [List.cons.injEq, and_true] at q0 q1
    refine ⟨(x0.data.toList, x1.data.toList), by rw [q0, q1]; rfl, fun hw => ?_⟩
    have hxd : x.1 = .agg [y0.1, y1.1] := by rw [hx]
    have hw' : ∀ n ∈ DataW.weightsEach Try.prog [9, 9] [y0.1, y1.1], n ≤ reachBytes := by
      intro n hn
      refine hw n ?_
      rw [hxd]
      simpa [DataW.weights, Try.underlying43] using hn
    have w0 := fun n hn => hw' n (DataW.weights_mem_each (j := 0) (t := 9) (d := y0.1) rfl rfl n hn)
    have w1 := fun n hn => hw' n (DataW.weights_mem_each (j := 1) (t := 9) (d := y1.1) rfl rfl n hn)
    rw [e0] at w0
    rw [e1] at w1
    exact ⟨lit_weight w0, lit_weight w1⟩

set_option maxRecDepth 100000 in
theorem kid_cells {H : Type} {enc : TypeId × Value → H} {w : World} {m : Nat} {cs : List Value} {x : DataW H × List MemPlace} (hlen : cs.length = 34)
    (h : DataW.trod enc Try.prog w 0 (fun _ => true) true m 48 cs = some x) : ∃ p : Kd, cs = kkC p ∧ ((∀ k ∈ x.1.weights Try.prog 48, k ≤ reachBytes) → FitK p) := by
  obtain ⟨y0, y1, n, hx, hl, h0, h1⟩ := trod_struct2 Try.underlying48 h
  obtain ⟨z0, r, rfl⟩ := List.exists_cons_of_length_pos (l := cs) (by omega)
  have hr : r.length = 33 := by simpa using hlen
  have f0 : DataW.trod enc Try.prog w 0 (fun _ => true) true n 9 (((z0 :: r).drop 0).take (Try.prog.cellsOf 9)) = some y0 := h0
  have f1 : DataW.trod enc Try.prog w 0 (fun _ => true) true n 28 (((z0 :: r).drop 1).take (Try.prog.cellsOf 28)) = some y1 := h1
  rw [cells_s1] at f0
  rw [cells_is] at f1
  obtain ⟨x0, q0, e0, _⟩ := DataW.trod_string (cs := [z0]) Try.underlying9 f0
  have e33 : ((z0 :: r).drop 1).take 33 = r := by simp [List.take_of_length_le (Nat.le_of_eq hr)]
  rw [e33] at f1
  obtain ⟨i, hi⟩ := id_cells hr f1
  simp only [List.cons.injEq, and_true] at q0
  refine ⟨(x0.data.toList, i), by rw [q0, hi]; rfl, fun hw => ?_⟩
  have hxd : x.1 = .agg [y0.1, y1.1] := by rw [hx]
  have hw' : ∀ n ∈ DataW.weightsEach Try.prog [9, 28] [y0.1, y1.1], n ≤ reachBytes := by
    intro n hn
    refine hw n ?_
    rw [hxd]
    simpa [DataW.weights, Try.underlying48] using hn
  have w0 := fun n hn => hw' n (DataW.weights_mem_each (j := 0) (t := 9) (d := y0.1) rfl rfl n hn)
  rw [e0] at w0
  exact lit_weight w0

instance : Inhabited Bp := ⟨([], [])⟩
instance : Inhabited Idn := ⟨idZ⟩
instance : Inhabited Kd := ⟨([], idZ)⟩

theorem tree_of_trod {H : Type} {enc : TypeId × Value → H} {w : World} {r : Reach} {b0 : Nat} {v : Value} {d : DataW H} {ps : List MemPlace} (hv : Value.okWide Try.prog w r b0 25 v)
    (h : DataW.Trod enc Try.prog w 0 (fun _ => true) true 25 v d ps) (hw : ∀ n ∈ d.weights Try.prog 25, n ≤ reachBytes) :
    ∃ t : Tre, TreIn w w.heap.size v t ∧ FitT t := by
  obtain ⟨v0, v1, y0, y1, m, rfl, rfl, rfl, h0, h1⟩ := open_agg2 Try.underlying25 (by kernel_rfl) (by kernel_rfl) hv h
  have hw' : ∀ n ∈ DataW.weightsEach Try.prog [22, 23] [y0.1, y1.1], n ≤ reachBytes := by
    intro n hn
    refine hw n ?_
    simpa [DataW.weights, Try.underlying25] using hn
  have w0 := fun n hn => hw' n (DataW.weights_mem_each (j := 0) (t := 22) (d := y0.1) rfl rfl n hn)
  have w1 := fun n hn => hw' n (DataW.weights_mem_each (j := 1) (t := 23) (d := y1.1) rfl rfl n hn)
  obtain ⟨A1, k1, c1, l1, e1, i1, j1⟩ := rw_of_cells (f := ppC) Try.underlying22 cells_ps (by omega) kind_pp.len FitP pair_cells h0
  obtain ⟨A2, k2, c2, l2, e2, i2, j2⟩ := rw_of_cells (f := kkC) Try.underlying23 cells_ks (by omega) kind_kk.len FitK kid_cells h1
  simp only [List.cons.injEq, and_true] at e1 e2
  subst e1 e2
  exact ⟨⟨l1, l2⟩, ⟨_, _, rfl, i1, i2⟩, fun p hp => (j1 w0 p hp).1, fun p hp => (j1 w0 p hp).2, fun p hp => j2 w1 p hp⟩

structure FitC (c : Cmt) : Prop where
  note : c.note.length ≤ 140737488351232
  low : -9223372036854775808 ≤ c.num
  high : c.num ≤ 9223372036854775807

theorem list_four {α : Type} {l : List α} (h : l.length = 4) : ∃ a b c d, l = [a, b, c, d] := by
  match l, h with
  | [a, b, c, d], _ => exact ⟨a, b, c, d, rfl⟩
theorem list_three {α : Type} {l : List α} (h : l.length = 3) : ∃ a b c, l = [a, b, c] := by
  match l, h with
  | [a, b, c], _ => exact ⟨a, b, c, rfl⟩
theorem drop_past {α : Type} (a b : List α) (k : Nat) : (a ++ b).drop (a.length + k) = b.drop k := by
  rw [← List.drop_drop, List.drop_left]

set_option maxRecDepth 100000 in
theorem com_of_trod {H : Type} {enc : TypeId × Value → H} {w : World} {r : Reach} {b0 : Nat} {v : Value} {d : DataW H} {ps : List MemPlace} (hv : Value.okWide Try.prog w r b0 31 v)
    (h : DataW.Trod enc Try.prog w 0 (fun _ => true) true 31 v d ps) (hw : ∀ n ∈ d.weights Try.prog 31, n ≤ reachBytes) :
    ∃ c : Cmt, CmtIn w w.heap.size v c ∧ FitC c := by
  obtain ⟨cs, rfl, hsz⟩ := okWide_struct Try.underlying31 hv
  have hsz2 : cs.toList.length = 36 := by rw [Array.length_toList]; exact hsz.trans cells_cms
  obtain ⟨fuel, hf⟩ := h
  have hf : DataW.trod enc Try.prog w 0 (fun _ => true) true fuel 31 cs.toList = some (d, ps) := by simpa [Value.cells] using hf
  obtain ⟨xs, m, _, hx, _, hxl, hfld⟩ := DataW.trod_struct Try.underlying31 hf
  have hxd : d = .agg (xs.map (·.1)) := congrArg Prod.fst hx
  generalize hL : cs.toList = L at *
  obtain ⟨l33, l3, e, h33⟩ : ∃ a b, L = a ++ b ∧ a.length = 33 := ⟨L.take 33, L.drop 33, (List.take_append_drop 33 L).symm, by rw [List.length_take]; omega⟩
  subst e
  have h3 : l3.length = 3 := by rw [List.length_append] at hsz2; omega
  obtain ⟨z1, z2, z3, rfl⟩ := list_three h3
  obtain ⟨y0, y1, y2, y3, rfl⟩ := list_four (hxl.trans rfl)
  have f0 : DataW.trod enc Try.prog w 0 (fun _ => true) true m 28 (((l33 ++ [z1, z2, z3]).drop 0).take (Try.prog.cellsOf 28)) = some y0 := hfld 0 _ rfl
  have f1 : DataW.trod enc Try.prog w 0 (fun _ => true) true m 29 (((l33 ++ [z1, z2, z3]).drop 33).take (Try.prog.cellsOf 29)) = some y1 := hfld 1 _ rfl
  have f2 : DataW.trod enc Try.prog w 0 (fun _ => true) true m 9 (((l33 ++ [z1, z2, z3]).drop 34).take (Try.prog.cellsOf 9)) = some y2 := hfld 2 _ rfl
  have f3 : DataW.trod enc Try.prog w 0 (fun _ => true) true m 3 (((l33 ++ [z1, z2, z3]).drop 35).take (Try.prog.cellsOf 3)) = some y3 := hfld 3 _ rfl
  rw [cells_is, List.drop_zero, ← h33, List.take_left] at f0
  rw [cells_sis, ← h33, List.drop_left] at f1
  rw [cells_s1, show 34 = l33.length + 1 by omega, drop_past] at f2
  rw [cells_n1, show 35 = l33.length + 2 by omega, drop_past] at f3
  have f2 : DataW.trod enc Try.prog w 0 (fun _ => true) true m 9 [z2] = some y2 := by simpa using f2
  have f3 : DataW.trod enc Try.prog w 0 (fun _ => true) true m 3 [z3] = some y3 := by simpa using f3
  obtain ⟨i, hi⟩ := id_cells h33 f0
  obtain ⟨A1, k1, c1, l1, e1, i1, _⟩ := rw_of_cells (f := iiC) Try.underlying29 cells_is (by omega) kind_ii.len (fun _ => True) (fun hl ht => by
    obtain ⟨i, hi⟩ := id_cells hl ht
    exact ⟨i, hi, fun _ => trivial⟩) f1
  obtain ⟨x2, q2, e2, _⟩ := DataW.trod_string Try.underlying9 f2
  obtain ⟨n3, q3, _, wf⟩ := DataW.trod_int Try.underlying3 f3
  simp only [List.take_succ_cons, List.take_zero, List.cons.injEq, and_true] at e1 q2 q3
  subst e1 q2 q3 hi
  have hb := bounds_i64 wf
  have hw' : ∀ n ∈ DataW.weightsEach Try.prog [28, 29, 9, 3] [y0.1, y1.1, y2.1, y3.1], n ≤ reachBytes := by
    intro n hn
    refine hw n ?_
    rw [hxd]
    simpa [DataW.weights, Try.underlying31] using hn
  have w2 := fun n hn => hw' n (DataW.weights_mem_each (j := 2) (t := 9) (d := y2.1) rfl rfl n hn)
  rw [e2] at w2
  refine ⟨⟨i, l1, x2.data.toList, n3⟩, ⟨_, ?_, i1⟩, lit_weight w2, hb.1, hb.2⟩
  rw [← Array.toArray_toList (xs := cs), hL]
  rfl

end Go.Proofs.Ytflgokbkkoobkaa.Cd

/-
  object.getCommit. Conditions: none.
-/
namespace Go.Proofs.Ytflgokbkkoobkaa.Cd
open Go.RowKit

theorem shape_cm : shapeOf Try.prog 31 = some (.agg (vb (zer 33) ++ [Value.slice none 0 0, Value.string ByteArray.empty, Value.int .i64 0]).toArray, [(0, 33), (33, 1), (34, 1), (35, 1)]) := by kernel_rfl
/-- A commit of a root alone. -/
def cm0 (i : Idn) : Cmt := ⟨i, [], [], 0⟩
theorem zero_cm (W : World) : (zeroValue 31).run Try.prog W = .ok (.agg (cmC (cm0 idZ) (.slice none 0 0)).toArray) W := by kernel_rfl
theorem size_cm : (Try.prog.info? 31).map (·.size) = some 36 := by kernel_rfl
theorem built_cm (i : Idn) : Try.prog.built 31 [(0, idV i.1)] = some (cmC (cm0 i) (.slice none 0 0)).toArray := by
  have hl : (vb i.1).length = 33 := by rw [vb_length, i.2]
  rw [built_shape shape_cm, fill_laid (off := 0) (size := 33) rfl (vb i.1) rfl hl (by simp [Value.cells, vb_length, zer_length])]
  have h := laid_mid [] (vb (zer 33)) [Value.slice none 0 0, Value.string ByteArray.empty, Value.int .i64 0] (vb i.1) (by rw [hl, vb_length, zer_length])
  simp only [List.nil_append, List.length_nil] at h
  show some (laid (vb (zer 33) ++ [Value.slice none 0 0, Value.string ByteArray.empty, Value.int .i64 0]) 0 (vb i.1)).toArray = _
  rw [h]
  rfl
theorem built_cm0 : Try.prog.built 31 [] = some (cmC (cm0 idZ) (.slice none 0 0)).toArray := by kernel_rfl
theorem wp_build_cm {ops : Array Oper} {rest : List Oper} {o : Oper} {a : Act} {w : World} {Q : Exit → Act → World → Prop} (hgd : o.guard = none) (y : Operand) (ho : o.op = .build 31 #[(0, y)])
    (i : Idn) (hy : a.eval y = idV i.1)
    (h : wpList Try.prog ops Q rest (a.put o.dst (.agg (cmC (cm0 i) (.slice none 0 0)).toArray)) w) : wpList Try.prog ops Q (o :: rest) a w :=
  wp_build_row hgd _ ho _ (built_cm i) (by simp [hy]) h

theorem cmC_ok (c : Cmt) (A : Option Addr) (n m : Nat) : ∀ u ∈ (cmC c (.slice A n m)).toArray.toList, u.oneCell' = true := fun u hu => cmC_one c _ rfl u (by simpa using hu)
theorem cmC_size (c : Cmt) (vi : Value) : (cmC c vi).toArray.size = 36 := by simp [cmC_len]
theorem wp_fill_cm {ops : Array Oper} {rest : List Oper} {o : Oper} {a : Act} {W w : World} {Q : Exit → Act → World → Prop} (hgd : o.guard = none) (x y : Operand) (ho : o.op = .store 31 x y)
    (c0 : Cmt) (v0 : Value) (hW : W = w.alloc (.cells (cmC c0 v0).toArray 31))
    (hx : a.eval x = .pointer (some ⟨w.heap.size, 0, none⟩)) (c : Cmt) (A : Option Addr) (n m : Nat) (hy : a.eval y = .agg (cmC c (.slice A n m)).toArray)
    (h : wpList Try.prog ops Q rest (a.put o.dst undef) (w.alloc (.cells (cmC c (.slice A n m)).toArray 31))) : wpList Try.prog ops Q (o :: rest) a W := by
  subst hW
  exact wp_fill_row size_cm hgd x y ho _ (cmC_size _ _) _ hx hy (cmC_size _ _) (cmC_ok c A n m) h
theorem wp_put_cm {ops : Array Oper} {rest : List Oper} {o : Oper} {a : Act} {w : World} {Q : Exit → Act → World → Prop} (hgd : o.guard = none) (x y : Operand) (ho : o.op = .store 31 x y)
    (g : Nat) (hx : a.eval x = .pointer (some ⟨g, 0, none⟩)) (c : Cmt) (A : Option Addr) (n m : Nat) (hy : a.eval y = .agg (cmC c (.slice A n m)).toArray) (c0 : Cmt) (v0 : Value) (hg : ComAt w g c0 v0)
    (h : ∀ w', ComAt w' g c (.slice A n m) → w.grownBy w' (some g) → wpList Try.prog ops Q rest (a.put o.dst undef) w') : wpList Try.prog ops Q (o :: rest) a w :=
  wp_put_row size_cm hgd x y ho g hx hy (cmC_size _ _) (cmC_ok c A n m) _ (cmC_size _ _) _ hg h
theorem ret_cm {fn : Func} {p : Tmp} (hf : fn.results = #[.cell p 31]) (tmps : Array Value) (w : World) (g : Nat) (c : Cmt) (vi : Value)
    (hp : tmps.getD p undef = .pointer (some ⟨g, 0, none⟩)) (hg : ComAt w g c vi) : (results fn tmps).run Try.prog w = .ok (.agg (cmC c vi).toArray) w := by
  have hp' : tmps[p]?.getD undef = .pointer (some ⟨g, 0, none⟩) := by simpa using hp
  have hld := run_loadVar_row (P := Try.prog) w g _ 31 _ _ _ hg Try.underlying31 rfl (by rw [cmC_size]; exact size_cm)
  simp [results, hf, hp', asAddr, hld]
theorem ret_cm2 {fn : Func} {p q : Tmp} (hf : fn.results = #[.cell p 31, .tmp q]) (tmps : Array Value) (w : World) (g : Nat) (c : Cmt) (vi : Value) (x : Value)
    (hp : tmps.getD p undef = .pointer (some ⟨g, 0, none⟩)) (hg : ComAt w g c vi) (hq : tmps.getD q undef = x) : (results fn tmps).run Try.prog w = .ok (.tuple #[.agg (cmC c vi).toArray, x]) w := by
  have hp' : tmps[p]?.getD undef = .pointer (some ⟨g, 0, none⟩) := by simpa using hp
  have hq' : tmps[q]?.getD undef = x := by simpa using hq
  have hld := run_loadVar_row (P := Try.prog) w g _ 31 _ _ _ hg Try.underlying31 rfl (by rw [cmC_size]; exact size_cm)
  simp [results, hf, hp', hq', asAddr, hld]

section
variable {w : World} {g : Nat} {c : Cmt} {vi : Value}
theorem ComAt.frozen (h : ComAt w g c vi) (i : Nat) : w.frozen? ⟨g, i, none⟩ = false := by
  unfold ComAt at h
  simp [World.frozen?, h]
theorem cmC_set33 (v : Value) : (cmC c vi).set 33 v = cmC c v := by
  unfold cmC
  rw [List.set_append_right _ _ (by rw [vb_length, c.root.2]; omega), vb_length, c.root.2]
  rfl
theorem cmC_set34 (s : List UInt8) : (cmC c vi).set 34 (.string ⟨s.toArray⟩) = cmC ⟨c.root, c.is, s, c.num⟩ vi := by
  unfold cmC
  rw [List.set_append_right _ _ (by rw [vb_length, c.root.2]; omega), vb_length, c.root.2]
  rfl
theorem cmC_set35 (n : Int) : (cmC c vi).set 35 (.int .i64 n) = cmC ⟨c.root, c.is, c.note, n⟩ vi := by
  unfold cmC
  rw [List.set_append_right _ _ (by rw [vb_length, c.root.2]; omega), vb_length, c.root.2]
  rfl
theorem ComAt.set33 (h : ComAt w g c vi) (v : Value) : ComAt (w.setCell ⟨g, 33, none⟩ v) g c v := by
  have := heap_setCell_same w g 33 _ _ v h
  rw [List.setIfInBounds_toArray, cmC_set33] at this
  exact this
theorem ComAt.set34 (h : ComAt w g c vi) (s : List UInt8) : ComAt (w.setCell ⟨g, 34, none⟩ (.string ⟨s.toArray⟩)) g ⟨c.root, c.is, s, c.num⟩ vi := by
  have := heap_setCell_same w g 34 _ _ (.string ⟨s.toArray⟩) h
  rw [List.setIfInBounds_toArray, cmC_set34] at this
  exact this
theorem ComAt.set35 (h : ComAt w g c vi) (n : Int) : ComAt (w.setCell ⟨g, 35, none⟩ (.int .i64 n)) g ⟨c.root, c.is, c.note, n⟩ vi := by
  have := heap_setCell_same w g 35 _ _ (.int .i64 n) h
  rw [List.setIfInBounds_toArray, cmC_set35] at this
  exact this
theorem ComAt.far {w' : World} {g' : Nat} (h : ComAt w g c vi) (hg : w.grownBy w' (some g')) (hne : g ≠ g') : ComAt w' g c vi := (hg.block g h.lt (fun e => hne (by injection e))).trans h
/-- What the parents are does not show in the cells. -/
theorem ComAt.as (h : ComAt w g c vi) (is : List Idn) : ComAt w g ⟨c.root, is, c.note, c.num⟩ vi := h
end

end Go.Proofs.Ytflgokbkkoobkaa.Cd

/-
  object.GetCommit. Conditions: none.
-/
namespace Go.Proofs.Ytflgokbkkoobkaa.Cd
open Go.RowKit

/-- What Get leaves: the commit of the bytes, or the nought and ErrForm. -/
def GotCm (b : List UInt8) (w : World) (e : Ending) (w' : World) : Prop :=
  ∃ (o : Option Cmt) (v : Value) (n : Int), e = .returned (.tuple #[v, .int .i64 n]) ∧ GetsC b o ∧ Below w.heap.size w w' ∧ CmtIn w' w'.heap.size v (o.getD (cm0 idZ)) ∧ n = if o.isSome = true then 0 else 4

theorem gotcm_none {b : List UInt8} {w w' : World} (h : GetsC b none) (hb : Below w.heap.size w w') : GotCm b w (.returned (.tuple #[.agg (cmC (cm0 idZ) (.slice none 0 0)).toArray, .int .i64 4])) w' :=
  ⟨none, _, 4, rfl, h, hb, ⟨_, rfl, RwIn.nil _ _⟩, rfl⟩

end Go.Proofs.Ytflgokbkkoobkaa.Cd

/-
  A tree and a commit that were handed in and boxed: what holds on behind calls that write to nothing of theirs. Conditions: none.
-/
namespace Go.Proofs.Ytflgokbkkoobkaa.Cd
open Go.RowKit

/-- The boxes of the arguments, of a law that was called in the world w, as they lie in W. -/
structure Held (w W : World) (t : Tre) (c : Cmt) (vp vk vi : Value) : Prop where
  ps : PsIn w w.heap.size vp t.ps
  ks : KsIn w w.heap.size vk t.ks
  is : IsIn w w.heap.size vi c.is
  bel : Below w.heap.size w W
  tr : TrAt W w.heap.size vp vk
  cm : ComAt W (w.heap.size + 1) c vi
  top : w.heap.size + 2 ≤ W.heap.size

section
variable {w W W' : World} {t : Tre} {c : Cmt} {vp vk vi : Value}
theorem Held.on (h : Held w W t c vp vk vi) {B : Nat} (hb : Below B W W') (hB : w.heap.size + 2 ≤ B) : Held w W' t c vp vk vi :=
  ⟨h.ps, h.ks, h.is, h.bel.trans (hb.mono (by omega)), h.tr.below hb (by omega), h.cm.below hb (by omega), Nat.le_trans h.top hb.size⟩
theorem Held.step (h : Held w W t c vp vk vi) (hb : Below W.heap.size W W') : Held w W' t c vp vk vi := h.on hb h.top
theorem Held.new (h : Held w W t c vp vk vi) (o : Obj) : Held w (W.alloc o) t c vp vk vi := h.step (new_below _ _)
theorem Held.drew (h : Held w W t c vp vk vi) : Held w W.drew t c vp vk vi := h.on (B := W.heap.size) ⟨rfl, rfl, rfl, Nat.le_refl _, fun _ _ => rfl⟩ h.top
theorem Held.psIn (h : Held w W t c vp vk vi) : PsIn W W.heap.size vp t.ps := (h.ps.below h.bel).more h.bel.size
theorem Held.ksIn (h : Held w W t c vp vk vi) : KsIn W W.heap.size vk t.ks := (h.ks.below h.bel).more h.bel.size
theorem Held.isIn (h : Held w W t c vp vk vi) : IsIn W W.heap.size vi c.is := (h.is.below h.bel).more h.bel.size
theorem Held.tre (h : Held w W t c vp vk vi) : TreIn W W.heap.size (.agg #[vp, vk]) t := ⟨_, _, rfl, h.psIn, h.ksIn⟩
theorem Held.cmt (h : Held w W t c vp vk vi) : CmtIn W W.heap.size (.agg (cmC c vi).toArray) c := ⟨_, rfl, h.isIn⟩
theorem Held.range (h : Held w W t c vp vk vi) : W.rangeAt (w.heap.size + 1) 0 (cmC c vi) := h.cm.whole
end
theorem Held.start {w : World} {t : Tre} {c : Cmt} {vp vk vi : Value} (h1 : PsIn w w.heap.size vp t.ps) (h2 : KsIn w w.heap.size vk t.ks) (h3 : IsIn w w.heap.size vi c.is) :
    Held w ((w.alloc (.cells #[vp, vk] 25)).alloc (.cells (cmC c vi).toArray 31)) t c vp vk vi := by
  have hz : (w.alloc (.cells #[vp, vk] 25)).heap.size = w.heap.size + 1 := asz _ _
  refine ⟨h1, h2, h3, (new_below _ _).trans ((new_below _ _).mono (by omega)), (TrAt.new w vp vk).below (new_below _ _) (by omega), ?_, by rw [asz, hz]; omega⟩
  have := ComAt.new (w.alloc (.cells #[vp, vk] 25)) c vi
  rwa [hz] at this

/-! ### How many bytes there are -/

def ptot (l : List Bp) : Nat := (l.map fun p => 2 + p.1.length + p.2.length).sum
theorem ptot_take {l : List Bp} {k : Nat} {p : Bp} (h : l[k]? = some p) : ptot (l.take (k + 1)) = ptot (l.take k) + (2 + p.1.length + p.2.length) := by
  obtain ⟨hk, rfl⟩ := List.getElem?_eq_some_iff.1 h
  unfold ptot
  rw [List.take_succ_eq_append_getElem hk, List.map_append, List.sum_append]
  simp
theorem psB_ptot {l : List Bp} (h1 : ∀ p ∈ l, p.1.length ≤ 16) (h2 : ∀ p ∈ l, p.2.length ≤ 16) : (psB l).length = ptot l := by
  induction l with
  | nil => rfl
  | cons p r ih =>
    have e1 := ih (fun q hq => h1 q (List.mem_cons_of_mem _ hq)) (fun q hq => h2 q (List.mem_cons_of_mem _ hq))
    have a := h1 p List.mem_cons_self
    have b := h2 p List.mem_cons_self
    have e : psB (p :: r) = (txt p.1 ++ txt p.2) ++ psB r := rfl
    have e' : ptot (p :: r) = (2 + p.1.length + p.2.length) + ptot r := by simp [ptot]
    rw [e, e', List.length_append, List.length_append, txt_short (by omega), txt_short (by omega), e1]
    omega
theorem treeB_ptot {ps : List Bp} (h : GoodT ⟨ps, []⟩) : (treeB ⟨ps, []⟩).length = 2 + ptot ps := by
  rcases h with h | h
  · rw [treeB_ps rfl]
    simp only [List.length_cons]
    rw [psB_ptot h.2.key h.2.val]
    show ptot ps + 1 + 1 = 2 + ptot ps
    omega
  · exact absurd rfl (goodKs_ne h.2)
theorem textI_size {i : Idn} (h : goodI i.1 = true) : (textI i.1).length = 1 + sizeI (kd i) := by
  obtain ⟨s, e, hs, _⟩ := textI_good h
  rw [e, List.length_cons, hs]
  omega
theorem isB_size {r : UInt8} {l : List Idn} (h1 : ∀ p ∈ l, goodI p.1 = true) (h2 : ∀ p ∈ l, kd p = r) : (isB l).length = l.length * (1 + sizeI r) := by
  induction l with
  | nil => simp [isB]
  | cons p s ih =>
    have e1 := ih (fun q hq => h1 q (List.mem_cons_of_mem _ hq)) (fun q hq => h2 q (List.mem_cons_of_mem _ hq))
    have e : isB (p :: s) = textI p.1 ++ isB s := rfl
    rw [e, List.length_append, textI_size (h1 p List.mem_cons_self), h2 p List.mem_cons_self, e1, List.length_cons, Nat.add_mul]
    omega
theorem num_size {z : Int} (h0 : 1 ≤ z) (h1 : z ≤ 1024) : (enc (zig z)).length = if 63 < z then 2 else 1 := by
  have hz : zig z = (2 * z).toNat := by unfold zig; rw [if_pos (by omega)]
  split
  · rename_i h
    rw [enc_hi (by omega), List.length_cons, enc_lo (by omega)]
    rfl
  · rw [enc_lo (by omega)]
    rfl
theorem comB_size {c : Cmt} (h : GoodC c) : (comB c).length = 2 + (if kd c.root = 2 then 33 else 9) * (1 + c.is.length) + 1 + c.note.length + (if 63 < c.num then 2 else 1) := by
  have h1 := textI_size h.root
  have h2 := isB_size h.is.name h.is.kind
  have h3 := num_size h.low h.high
  have h4 := h.note
  obtain ⟨_, _, _, h5, _⟩ := textI_good h.root
  have h6 : 1 + sizeI (kd c.root) = if kd c.root = 2 then 33 else 9 := by
    unfold sizeI at h5 ⊢
    by_cases e2 : kd c.root = 2
    · rw [e2]; decide
    · rw [if_neg e2]
      by_cases e1 : (kd c.root).toNat = 1
      · rw [if_pos e1]
      · rw [if_neg e1] at h5
        split at h5
        · rename_i e3
          exact absurd (UInt8.toNat_inj.1 (by rw [e3]; rfl)) e2
        · omega
  unfold comB
  simp only [List.length_cons, List.length_append]
  rw [txt_short (by omega), h1, h2, h3, h6]
  generalize (if kd c.root = 2 then 33 else 9) = S
  generalize (if 63 < c.num then 2 else 1) = N
  rw [Nat.mul_add, Nat.mul_one, Nat.mul_comm S]
  omega

end Go.Proofs.Ytflgokbkkoobkaa.Cd

/-
  The document's SameTree, SameCommit. Conditions: none.
-/
namespace Go.Proofs.Ytflgokbkkoobkaa.Cd
open Go.RowKit

set_option maxRecDepth 100000 in
set_option maxHeartbeats 3200000 in
theorem samet_any (u v : Value) (a b : Tre) (w : World) (hu : TreIn w w.heap.size u a) (hv : TreIn w w.heap.size v b) : Calls Try.prog 9 #[u, v] w (Says (a = b) w) := by
  obtain ⟨pa, ka⟩ := a
  obtain ⟨pb, kb⟩ := b
  obtain ⟨up, uk, rfl, h1, h2⟩ := hu
  obtain ⟨vp, vk, rfl, h3, h4⟩ := hv
  have h1 : PsIn w w.heap.size up pa := h1
  have h2 : KsIn w w.heap.size uk ka := h2
  have h3 : PsIn w w.heap.size vp pb := h3
  have h4 : KsIn w w.heap.size vk kb := h4
  obtain ⟨A1, c1, e1, k1, l1⟩ := h1.len
  obtain ⟨A2, c2, e2, k2, l2⟩ := h2.len
  obtain ⟨A3, c3, e3, k3, l3⟩ := h3.len
  obtain ⟨A4, c4, e4, k4, l4⟩ := h4.len
  have H1 := Lib.hid h1
  have H2 := Lib.hid h2
  have H3 := Lib.hid h3
  have H4 := Lib.hid h4
  clear h1 h2 h3 h4
  subst e1 e2 e3 e4
  have hz0 : (w.alloc (.cells #[.slice A1 pa.length c1, .slice A2 ka.length c2] 25)).heap.size = w.heap.size + 1 := asz _ _
  have HB1 : Hid (Below w.heap.size w ((w.alloc (.cells #[.slice A1 pa.length c1, .slice A2 ka.length c2] 25)).alloc (.cells #[.slice A3 pb.length c3, .slice A4 kb.length c4] 25))) := (new_below _ _).trans ((new_below _ _).mono (by omega))
  have HT1 : Hid (TrAt ((w.alloc (.cells #[.slice A1 pa.length c1, .slice A2 ka.length c2] 25)).alloc (.cells #[.slice A3 pb.length c3, .slice A4 kb.length c4] 25)) w.heap.size (.slice A1 pa.length c1) (.slice A2 ka.length c2)) := (TrAt.new _ _ _).below (new_below _ _) (by omega)
  have HU1 : Hid (TrAt ((w.alloc (.cells #[.slice A1 pa.length c1, .slice A2 ka.length c2] 25)).alloc (.cells #[.slice A3 pb.length c3, .slice A4 kb.length c4] 25)) (w.heap.size + 1) (.slice A3 pb.length c3) (.slice A4 kb.length c4)) := by
    have := TrAt.new (w.alloc (.cells #[.slice A1 pa.length c1, .slice A2 ka.length c2] 25)) (.slice A3 pb.length c3) (.slice A4 kb.length c4)
    rwa [hz0] at this
  have hz1 : w.heap.size + 2 ≤ ((w.alloc (.cells #[.slice A1 pa.length c1, .slice A2 ka.length c2] 25)).alloc (.cells #[.slice A3 pb.length c3, .slice A4 kb.length c4] 25)).heap.size := by rw [asz, hz0]; omega
  clear hz0
  go_enter Try.func9, Try.ntmps9
  go_wp2_with fail
  generalize (w.alloc (.cells #[.slice A1 pa.length c1, .slice A2 ka.length c2] 25)).alloc (.cells #[.slice A3 pb.length c3, .slice A4 kb.length c4] 25) = W1 at *
  refine (same8_any _ _ pa pb W1 ((H1.out.below HB1.out).more HB1.out.size) ((H3.out.below HB1.out).more HB1.out.size)).mono ?_
  rintro e W2 ⟨s, rfl, hs, hb⟩
  have HB2 := Lib.hid (HB1.out.trans (hb.mono (by omega)))
  have HT2 := Lib.hid (HT1.out.below hb (by omega))
  have HU2 := Lib.hid (HU1.out.below hb (by omega))
  have hz2 : w.heap.size + 2 ≤ W2.heap.size := Nat.le_trans hz1 hb.size
  clear hb HB1 HT1 HU1 hz1
  cases s
  case false =>
    have hno : Hid (¬ (⟨pa, ka⟩ : Tre) = ⟨pb, kb⟩) := fun e => by
      injection e with e _
      have := hs.2 e
      cases this
    clear hs
    go_wp2_with fail
    go_ret
    exact ⟨false, rfl, ⟨(fun h => by cases h), fun h => absurd h hno.out⟩, HB2.out⟩
  have HPP : Hid (pa = pb) := hs.1 rfl
  clear hs
  have d1 := HT2.out.c1
  have f1 := HU2.out.c1
  by_cases hl : ka.length = kb.length
  case neg =>
    have hno : Hid (¬ (⟨pa, ka⟩ : Tre) = ⟨pb, kb⟩) := fun e => by
      injection e with _ e
      exact hl (congrArg List.length e)
    have hq : ((ka.length : Int) != (kb.length : Int)) = true := by rw [bne_iff_ne]; omega
    clear hl
    go_wp2_with fail
    go_ret
    exact ⟨false, rfl, ⟨(fun h => by cases h), fun h => absurd h hno.out⟩, HB2.out⟩
  have HLB := Lib.hid hl
  rw [← hl] at k4 H4 HU2 f1 ⊢
  clear hl
  go_wp2_with fail
  go_loopw [24] (fun i wr => ∃ k : Nat, i = .int .i64 k ∧ k ≤ ka.length ∧ Hid (ka.take k = kb.take k) ∧ Hid (Below w.heap.size w wr) ∧ Hid (TrAt wr w.heap.size (.slice A1 pa.length c1) (.slice A2 ka.length c2)) ∧ Hid (TrAt wr (w.heap.size + 1) (.slice A3 pb.length c3) (.slice A4 ka.length c4))) (fun i _ => ka.length - (intOf i).toNat)
  case atStart => exact ⟨0, rfl, by omega, rfl, HB2.out, HT2.out, HU2.out⟩
  case round =>
    clear HB2 HT2 HU2 d1 f1 hz2
    obtain ⟨k, rfl, hk, hst, hbl, htr, hur⟩ := hrel
    by_cases hlt : k < ka.length
    · obtain ⟨x, hxk⟩ : ∃ x, ka[k]? = some x := ⟨ka[k], List.getElem?_eq_getElem hlt⟩
      obtain ⟨y, hyk⟩ : ∃ y, kb[k]? = some y := ⟨kb[k]'(by rw [← HLB.out]; exact hlt), List.getElem?_eq_getElem (by rw [← HLB.out]; exact hlt)⟩
      obtain ⟨b2, off2, e2, hB2, rx⟩ := KsIn.range (H2.out.below hbl.out) hxk
      obtain ⟨b3, off3, e3, hB3, ry⟩ := KsIn.range (H4.out.below hbl.out) hyk
      subst e2 e3
      have HX := Lib.hid hxk
      have HY := Lib.hid hyk
      clear hxk hyk
      have hne := neq_kk x y
      have heg := fun p q W => eqGuard_kk .neq p q x y W
      have hwk : IntKind.i64.wrap (k : Int) = (k : Int) := IntWalk.i64_in _ (by omega)
      have hkl : (k : Int) < ka.length := by omega
      obtain ⟨s, hs⟩ : ∃ s, eqKk x y = s := ⟨_, rfl⟩
      rw [hs] at hne
      have HS : Hid (s = true ↔ x = y) := by rw [← hs]; exact eqKk_iff x y
      clear hs
      go_wp2_with fail
      obtain ⟨W0, hW0⟩ : ∃ x, wr.drew = x := ⟨_, rfl⟩
      have hS0 : (TrAt W0 w.heap.size (.slice A1 pa.length c1) (.slice (some ⟨b2, off2, none⟩) ka.length c2) ∧ TrAt W0 (w.heap.size + 1) (.slice A3 pb.length c3) (.slice (some ⟨b3, off3, none⟩) ka.length c4)) ∧ W0.rangeAt b2 (off2 + k * 34) (kkC x) ∧ W0.rangeAt b3 (off3 + k * 34) (kkC y) := by
        rw [← hW0]
        exact ⟨⟨htr.out, hur.out⟩, rx, ry⟩
      have HBD : Hid (Below w.heap.size w W0) := by rw [← hW0]; exact hbl.out.drew
      clear hbl htr hur rx ry
      refine region_begin hW0 (S := fun W => (TrAt W w.heap.size (.slice A1 pa.length c1) (.slice (some ⟨b2, off2, none⟩) ka.length c2) ∧ TrAt W (w.heap.size + 1) (.slice A3 pb.length c3) (.slice (some ⟨b3, off3, none⟩) ka.length c4)) ∧ W.rangeAt b2 (off2 + k * 34) (kkC x) ∧ W.rangeAt b3 (off3 + k * 34) (kkC y)) (by kernel_rfl) hS0 (fun hHeld => ?_)
      clear hW0 hS0
      refine take_at (i := 0) (.pointer (some ⟨w.heap.size, 1, none⟩)) (some 27) (by decide) (by rfl) (by kernel_rfl) (by kernel_rfl) (by kernel_rfl) (fun _ _ _ h => h) (by rfl) (fun W hW => by go_simp) (by assumption) ?_
      try simp only [Act.put, List.setIfInBounds_toArray, List.set_cons_zero, List.set_cons_succ]
      refine take_at (i := 1) (.slice (some ⟨b2, off2, none⟩) ka.length c2) (some 28) (by decide) (by rfl) (by kernel_rfl) (by kernel_rfl) (by kernel_rfl) (fun _ _ _ h => h) (by rfl) (fun W hW => by have := hW.1.1.c1; go_simp) (by assumption) ?_
      try simp only [Act.put, List.setIfInBounds_toArray, List.set_cons_zero, List.set_cons_succ]
      refine take_at (i := 2) (.int .i64 (k : Int)) (some 29) (by decide) (by rfl) (by kernel_rfl) (by kernel_rfl) (by kernel_rfl) (fun _ _ _ h => h) (by rfl) (fun W hW => by go_simp) (by assumption) ?_
      try simp only [Act.put, List.setIfInBounds_toArray, List.set_cons_zero, List.set_cons_succ]
      refine take_at (i := 3) (.pointer (some ⟨b2, off2 + k * 34, none⟩)) (some 30) (by decide) (by rfl) (by kernel_rfl) (by kernel_rfl) (by kernel_rfl) (fun _ _ _ h => h) (by rfl) (fun W hW => by go_simp) (by assumption) ?_
      try simp only [Act.put, List.setIfInBounds_toArray, List.set_cons_zero, List.set_cons_succ]
      refine take_at (i := 4) (.agg (kkC x).toArray) (some 31) (by decide) (by rfl) (by kernel_rfl) (by kernel_rfl) (by kernel_rfl) (fun _ _ _ h => h) (by rfl) (fun W hW => by exact exec_load_mid _ _ rfl b2 (off2 + k * 34) rfl (kkC x) _ hW.2.1 Try.underlying48 rfl (cells_kk x)) (by assumption) ?_
      try simp only [Act.put, List.setIfInBounds_toArray, List.set_cons_zero, List.set_cons_succ]
      refine take_at (i := 5) (.pointer (some ⟨w.heap.size + 1, 1, none⟩)) (some 32) (by decide) (by rfl) (by kernel_rfl) (by kernel_rfl) (by kernel_rfl) (fun _ _ _ h => h) (by rfl) (fun W hW => by go_simp) (by assumption) ?_
      try simp only [Act.put, List.setIfInBounds_toArray, List.set_cons_zero, List.set_cons_succ]
      refine take_at (i := 6) (.slice (some ⟨b3, off3, none⟩) ka.length c4) (some 33) (by decide) (by rfl) (by kernel_rfl) (by kernel_rfl) (by kernel_rfl) (fun _ _ _ h => h) (by rfl) (fun W hW => by have := hW.1.2.c1; go_simp) (by assumption) ?_
      try simp only [Act.put, List.setIfInBounds_toArray, List.set_cons_zero, List.set_cons_succ]
      refine take_at (i := 7) (.int .i64 (k : Int)) (some 34) (by decide) (by rfl) (by kernel_rfl) (by kernel_rfl) (by kernel_rfl) (fun _ _ _ h => h) (by rfl) (fun W hW => by go_simp) (by assumption) ?_
      try simp only [Act.put, List.setIfInBounds_toArray, List.set_cons_zero, List.set_cons_succ]
      refine take_at (i := 8) (.pointer (some ⟨b3, off3 + k * 34, none⟩)) (some 35) (by decide) (by rfl) (by kernel_rfl) (by kernel_rfl) (by kernel_rfl) (fun _ _ _ h => h) (by rfl) (fun W hW => by go_simp) (by assumption) ?_
      try simp only [Act.put, List.setIfInBounds_toArray, List.set_cons_zero, List.set_cons_succ]
      refine take_at (i := 9) (.agg (kkC y).toArray) (some 36) (by decide) (by rfl) (by kernel_rfl) (by kernel_rfl) (by kernel_rfl) (fun _ _ _ h => h) (by rfl) (fun W hW => by exact exec_load_mid _ _ rfl b3 (off3 + k * 34) rfl (kkC y) _ hW.2.2 Try.underlying48 rfl (cells_kk y)) (by assumption) ?_
      try simp only [Act.put, List.setIfInBounds_toArray, List.set_cons_zero, List.set_cons_succ]
      refine take_at (i := 10) (.bool (!s)) (some 37) (by decide) (by rfl) (by kernel_rfl) (by kernel_rfl) (by kernel_rfl) (fun _ _ _ h => h) (by rfl) (fun W hW => by go_simp) (by assumption) ?_
      try simp only [Act.put, List.setIfInBounds_toArray, List.set_cons_zero, List.set_cons_succ]
      refine wpAnyH_done (by kernel_rfl) ?_ _
      try simp only [Act.put, List.setIfInBounds_toArray, List.set_cons_zero, List.set_cons_succ]
      cases s
      · have hno : Hid (¬ (⟨pa, ka⟩ : Tre) = ⟨pb, kb⟩) := fun e => by
          injection e with _ e
          have h1 := HX.out
          rw [e, HY.out] at h1
          injection h1 with h1
          have := HS.out.2 h1.symm
          cases this
        go_wp2_with fail
        go_ret
        exact ⟨false, rfl, ⟨(fun h => by cases h), fun h => absurd h hno.out⟩, HBD.out⟩
      · have hst2 : Hid (ka.take (k + 1) = kb.take (k + 1)) := by
          obtain ⟨h1, h1'⟩ := List.getElem?_eq_some_iff.1 HX.out
          obtain ⟨h2, h3⟩ := List.getElem?_eq_some_iff.1 HY.out
          unfold Hid
          rw [List.take_succ_eq_append_getElem h1, List.take_succ_eq_append_getElem h2, hst.out, h3, h1', HS.out.1 rfl]
        have HTX := Lib.hid hHeld.1.1
        have HUX := Lib.hid hHeld.1.2
        clear hHeld
        go_wp2_with fail
        go_roundw
        case rel => exact ⟨k + 1, by go_num, by omega, hst2, HBD.out, HTX.out, HUX.out⟩
        case measure => simp [intOf]; omega
    · have he : Hid (ka = kb) := by
        have := hst.out
        rwa [List.take_of_length_le (by omega), List.take_of_length_le (by rw [← HLB.out]; omega)] at this
      have hyes : Hid ((⟨pa, ka⟩ : Tre) = ⟨pb, kb⟩) := by rw [HPP.out, he.out]; exact rfl
      go_wp2_with fail
      go_ret
      exact ⟨true, rfl, ⟨fun _ => hyes.out, fun _ => rfl⟩, hbl.out⟩

theorem wp_neq_id {ops : Array Oper} {rest : List Oper} {o : Oper} {a : Act} {w : World} {Q : Exit → Act → World → Prop} (hgd : o.guard = none) (p q : Operand) (t : TypeId) (ho : o.op = .binOp .neq 28 p q t)
    (x y : List UInt8) (hx : x.length = 33) (hy : y.length = 33) (hp : a.eval p = idV x) (hq : a.eval q = idV y)
    (h : wpList Try.prog ops Q rest (a.put o.dst (.bool (!(x == y)))) w) : wpList Try.prog ops Q (o :: rest) a w :=
  wpList_plain hgd fun _ hK => op_neq_id p q t ho x y hx hy hp hq (hK _ _ h)

end Go.Proofs.Ytflgokbkkoobkaa.Cd

/-
  The document's SameCommit. Conditions: none.
-/
namespace Go.Proofs.Ytflgokbkkoobkaa.Cd
open Go.RowKit

theorem cmt_ext {a b : Cmt} (h1 : a.root = b.root) (h2 : a.is = b.is) (h3 : a.note = b.note) (h4 : a.num = b.num) : a = b := by
  obtain ⟨p, q, r, s⟩ := a
  obtain ⟨p', q', r', s'⟩ := b
  simp only at h1 h2 h3 h4
  rw [h1, h2, h3, h4]

set_option maxRecDepth 100000 in
set_option maxHeartbeats 6400000 in
theorem samec_any (u v : Value) (a b : Cmt) (w : World) (hu : CmtIn w w.heap.size u a) (hv : CmtIn w w.heap.size v b) : Calls Try.prog 10 #[u, v] w (Says (a = b) w) := by
  obtain ⟨ui, rfl, h1⟩ := hu
  obtain ⟨vi, rfl, h2⟩ := hv
  have h1 : IsIn w w.heap.size ui a.is := h1
  have h2 : IsIn w w.heap.size vi b.is := h2
  obtain ⟨A1, c1, e1, k1, l1⟩ := h1.len
  obtain ⟨A2, c2, e2, k2, l2⟩ := h2.len
  have H1 := Lib.hid h1
  have H2 := Lib.hid h2
  clear h1 h2
  subst e1 e2
  have hz0 : (w.alloc (.cells (cmC a (.slice A1 a.is.length c1)).toArray 31)).heap.size = w.heap.size + 1 := asz _ _
  have HB1 : Hid (Below w.heap.size w ((w.alloc (.cells (cmC a (.slice A1 a.is.length c1)).toArray 31)).alloc (.cells (cmC b (.slice A2 b.is.length c2)).toArray 31))) := (new_below _ _).trans ((new_below _ _).mono (by omega))
  have HT1 : Hid (ComAt ((w.alloc (.cells (cmC a (.slice A1 a.is.length c1)).toArray 31)).alloc (.cells (cmC b (.slice A2 b.is.length c2)).toArray 31)) w.heap.size a (.slice A1 a.is.length c1)) := (ComAt.new _ _ _).below (new_below _ _) (by omega)
  have HU1 : Hid (ComAt ((w.alloc (.cells (cmC a (.slice A1 a.is.length c1)).toArray 31)).alloc (.cells (cmC b (.slice A2 b.is.length c2)).toArray 31)) (w.heap.size + 1) b (.slice A2 b.is.length c2)) := by
    have := ComAt.new (w.alloc (.cells (cmC a (.slice A1 a.is.length c1)).toArray 31)) b (.slice A2 b.is.length c2)
    rwa [hz0] at this
  have hra : Hid (a.root.1.length = 33) := a.root.2
  have hrb : Hid (b.root.1.length = 33) := b.root.2
  have d33 := HT1.out.is
  have d34 := HT1.out.note
  have d35 := HT1.out.num
  have f33 := HU1.out.is
  have f34 := HU1.out.note
  have f35 := HU1.out.num
  have g1 : Hid (((w.alloc (.cells (cmC a (.slice A1 a.is.length c1)).toArray 31)).alloc (.cells (cmC b (.slice A2 b.is.length c2)).toArray 31)).rangeAt w.heap.size 0 (vb a.root.1)) := HT1.out.id
  have g2 : Hid (((w.alloc (.cells (cmC a (.slice A1 a.is.length c1)).toArray 31)).alloc (.cells (cmC b (.slice A2 b.is.length c2)).toArray 31)).rangeAt (w.heap.size + 1) 0 (vb b.root.1)) := HU1.out.id
  have heg : ∀ p q W, (eqGuard .neq 28 p q (.agg (vb a.root.1).toArray) (.agg (vb b.root.1).toArray)).run Try.prog W = .ok () W := fun p q W => eqGuard_id .neq p q a.root.1 b.root.1 W
  have hne : ∀ W, (binOp .neq 28 (.agg (vb a.root.1).toArray) (.agg (vb b.root.1).toArray)).run Try.prog W = .ok (.bool (!(a.root.1 == b.root.1))) W := fun W => neq_id a.root.1 b.root.1 a.root.2 b.root.2 W
  by_cases hr : a.root = b.root
  case neg =>
    have hno : Hid (¬ a = b) := fun e => hr (by rw [e])
    rw [show (a.root.1 == b.root.1) = false from beq_eq_false_iff_ne.2 (fun e => hr (Subtype.ext e))] at hne
    clear hr
    go_enter Try.func10, Try.ntmps10
    go_wp2_with (first
      | go_skip | go_guarded
      | (refine wp_box_row rfl _ rfl rfl ?_)
      | (refine wpList_load_mid rfl 28 _ rfl w.heap.size 0 rfl (vb a.root.1) _ g1.out Try.underlying28 rfl (cells_ii a.root) ?_)
      | (refine wpList_load_mid rfl 28 _ rfl (w.heap.size + 1) 0 rfl (vb b.root.1) _ g2.out Try.underlying28 rfl (cells_ii b.root) ?_))
    go_ret
    exact ⟨false, rfl, ⟨(fun h => by cases h), fun h => absurd h hno.out⟩, HB1.out⟩
  have HRR := Lib.hid hr
  rw [show (a.root.1 == b.root.1) = true by rw [hr]; exact beq_self_eq_true _] at hne
  clear hr
  by_cases hn : a.note = b.note
  case neg =>
    have hno : Hid (¬ a = b) := fun e => hn (by rw [e])
    have hq : (a.note == b.note) = false := beq_eq_false_iff_ne.2 hn
    clear hn
    go_enter Try.func10, Try.ntmps10
    go_wp2_with (first
      | go_skip | go_guarded
      | (refine wp_box_row rfl _ rfl rfl ?_)
      | (refine wpList_load_mid rfl 28 _ rfl w.heap.size 0 rfl (vb a.root.1) _ g1.out Try.underlying28 rfl (cells_ii a.root) ?_)
      | (refine wpList_load_mid rfl 28 _ rfl (w.heap.size + 1) 0 rfl (vb b.root.1) _ g2.out Try.underlying28 rfl (cells_ii b.root) ?_))
    go_ret
    exact ⟨false, rfl, ⟨(fun h => by cases h), fun h => absurd h hno.out⟩, HB1.out⟩
  have HNN := Lib.hid hn
  have hq : (a.note == b.note) = true := by rw [hn]; exact beq_self_eq_true _
  clear hn
  by_cases hm : a.num = b.num
  case neg =>
    have hno : Hid (¬ a = b) := fun e => hm (by rw [e])
    have hq2 : (a.num != b.num) = true := bne_iff_ne.2 hm
    clear hm
    go_enter Try.func10, Try.ntmps10
    go_wp2_with (first
      | go_skip | go_guarded
      | (refine wp_box_row rfl _ rfl rfl ?_)
      | (refine wpList_load_mid rfl 28 _ rfl w.heap.size 0 rfl (vb a.root.1) _ g1.out Try.underlying28 rfl (cells_ii a.root) ?_)
      | (refine wpList_load_mid rfl 28 _ rfl (w.heap.size + 1) 0 rfl (vb b.root.1) _ g2.out Try.underlying28 rfl (cells_ii b.root) ?_))
    go_ret
    exact ⟨false, rfl, ⟨(fun h => by cases h), fun h => absurd h hno.out⟩, HB1.out⟩
  have HMM := Lib.hid hm
  have hq2 : (a.num != b.num) = false := by rw [hm]; exact bne_self_eq_false _
  clear hm
  by_cases hl : a.is.length = b.is.length
  case neg =>
    have hno : Hid (¬ a = b) := fun e => hl (by rw [e])
    have hq3 : ((a.is.length : Int) != (b.is.length : Int)) = true := by rw [bne_iff_ne]; omega
    clear hl
    go_enter Try.func10, Try.ntmps10
    go_wp2_with (first
      | go_skip | go_guarded
      | (refine wp_box_row rfl _ rfl rfl ?_)
      | (refine wpList_load_mid rfl 28 _ rfl w.heap.size 0 rfl (vb a.root.1) _ g1.out Try.underlying28 rfl (cells_ii a.root) ?_)
      | (refine wpList_load_mid rfl 28 _ rfl (w.heap.size + 1) 0 rfl (vb b.root.1) _ g2.out Try.underlying28 rfl (cells_ii b.root) ?_))
    go_ret
    exact ⟨false, rfl, ⟨(fun h => by cases h), fun h => absurd h hno.out⟩, HB1.out⟩
  have HLB := Lib.hid hl
  have hq3 : ((a.is.length : Int) != (b.is.length : Int)) = false := by rw [bne_eq_false_iff_eq]; omega
  clear hl
  go_enter Try.func10, Try.ntmps10
  go_wp2_with (first
    | go_skip | go_guarded
      | (refine wp_box_row rfl _ rfl rfl ?_)
      | (refine wpList_load_mid rfl 28 _ rfl w.heap.size 0 rfl (vb a.root.1) _ g1.out Try.underlying28 rfl (cells_ii a.root) ?_)
      | (refine wpList_load_mid rfl 28 _ rfl (w.heap.size + 1) 0 rfl (vb b.root.1) _ g2.out Try.underlying28 rfl (cells_ii b.root) ?_))
  clear d33 d34 d35 f33 f34 f35 g1 g2 hq hq2 hq3 hne heg
  go_loopw [37] (fun i wr => ∃ k : Nat, i = .int .i64 k ∧ k ≤ a.is.length ∧ Hid (a.is.take k = b.is.take k) ∧ Hid (Below w.heap.size w wr) ∧ Hid (ComAt wr w.heap.size a (.slice A1 a.is.length c1)) ∧ Hid (ComAt wr (w.heap.size + 1) b (.slice A2 b.is.length c2))) (fun i _ => a.is.length - (intOf i).toNat)
  case atStart => exact ⟨0, rfl, by omega, rfl, HB1.out, HT1.out, HU1.out⟩
  case round =>
    clear HB1 HT1 HU1
    obtain ⟨k, rfl, hk, hst, hbl, htr, hur⟩ := hrel
    by_cases hlt : k < a.is.length
    · obtain ⟨x, hxk⟩ : ∃ x, a.is[k]? = some x := ⟨a.is[k], List.getElem?_eq_getElem hlt⟩
      obtain ⟨y, hyk⟩ : ∃ y, b.is[k]? = some y := ⟨b.is[k]'(by rw [← HLB.out]; exact hlt), List.getElem?_eq_getElem (by rw [← HLB.out]; exact hlt)⟩
      obtain ⟨b2, off2, e2, hB2, rx⟩ := IsIn.range (H1.out.below hbl.out) hxk
      obtain ⟨b3, off3, e3, hB3, ry⟩ := IsIn.range (H2.out.below hbl.out) hyk
      subst e2 e3
      have HX := Lib.hid hxk
      have HY := Lib.hid hyk
      clear hxk hyk
      have hx33 := x.2
      have hy33 := y.2
      have hne := fun W => neq_id x.1 y.1 hx33 hy33 W
      have heg := fun p q W => eqGuard_id .neq p q x.1 y.1 W
      have hwk : IntKind.i64.wrap (k : Int) = (k : Int) := IntWalk.i64_in _ (by omega)
      have hkl : (k : Int) < a.is.length := by omega
      have hkl2 : (k : Int) < b.is.length := by have := HLB.out; omega
      obtain ⟨s, hs⟩ : ∃ s, (x.1 == y.1) = s := ⟨_, rfl⟩
      rw [hs] at hne
      have HS : Hid (s = true ↔ x = y) := by
        rw [← hs]
        show (x.1 == y.1) = true ↔ x = y
        rw [beq_iff_eq]
        exact ⟨fun h => Subtype.ext h, fun h => by rw [h]⟩
      clear hs
      go_wp2_with fail
      obtain ⟨W0, hW0⟩ : ∃ x, wr.drew = x := ⟨_, rfl⟩
      have hS0 : (ComAt W0 w.heap.size a (.slice (some ⟨b2, off2, none⟩) a.is.length c1) ∧ ComAt W0 (w.heap.size + 1) b (.slice (some ⟨b3, off3, none⟩) b.is.length c2)) ∧ W0.rangeAt b2 (off2 + k * 33) (vb x.1) ∧ W0.rangeAt b3 (off3 + k * 33) (vb y.1) := by
        rw [← hW0]
        exact ⟨⟨htr.out, hur.out⟩, rx, ry⟩
      have HBD : Hid (Below w.heap.size w W0) := by rw [← hW0]; exact hbl.out.drew
      clear hbl htr hur rx ry
      refine region_begin hW0 (S := fun W => (ComAt W w.heap.size a (.slice (some ⟨b2, off2, none⟩) a.is.length c1) ∧ ComAt W (w.heap.size + 1) b (.slice (some ⟨b3, off3, none⟩) b.is.length c2)) ∧ W.rangeAt b2 (off2 + k * 33) (vb x.1) ∧ W.rangeAt b3 (off3 + k * 33) (vb y.1)) (by kernel_rfl) hS0 (fun hHeld => ?_)
      clear hW0 hS0
      refine take_at (i := 0) (.pointer (some ⟨w.heap.size, 33, none⟩)) (some 40) (by decide) (by rfl) (by kernel_rfl) (by kernel_rfl) (by kernel_rfl) (fun _ _ _ h => h) (by rfl) (fun W hW => by go_simp) (by assumption) ?_
      try simp only [Act.put, List.setIfInBounds_toArray, List.set_cons_zero, List.set_cons_succ]
      refine take_at (i := 1) (.slice (some ⟨b2, off2, none⟩) a.is.length c1) (some 41) (by decide) (by rfl) (by kernel_rfl) (by kernel_rfl) (by kernel_rfl) (fun _ _ _ h => h) (by rfl) (fun W hW => by have := hW.1.1.is; go_simp) (by assumption) ?_
      try simp only [Act.put, List.setIfInBounds_toArray, List.set_cons_zero, List.set_cons_succ]
      refine take_at (i := 2) (.int .i64 (k : Int)) (some 42) (by decide) (by rfl) (by kernel_rfl) (by kernel_rfl) (by kernel_rfl) (fun _ _ _ h => h) (by rfl) (fun W hW => by go_simp) (by assumption) ?_
      try simp only [Act.put, List.setIfInBounds_toArray, List.set_cons_zero, List.set_cons_succ]
      refine take_at (i := 3) (.pointer (some ⟨b2, off2 + k * 33, none⟩)) (some 43) (by decide) (by rfl) (by kernel_rfl) (by kernel_rfl) (by kernel_rfl) (fun _ _ _ h => h) (by rfl) (fun W hW => by go_simp) (by assumption) ?_
      try simp only [Act.put, List.setIfInBounds_toArray, List.set_cons_zero, List.set_cons_succ]
      refine take_at (i := 4) (idV x.1) (some 44) (by decide) (by rfl) (by kernel_rfl) (by kernel_rfl) (by kernel_rfl) (fun _ _ _ h => h) (by rfl) (fun W hW => by exact exec_load_mid _ _ rfl b2 (off2 + k * 33) rfl (vb x.1) _ hW.2.1 Try.underlying28 rfl (cells_ii x)) (by assumption) ?_
      try simp only [Act.put, List.setIfInBounds_toArray, List.set_cons_zero, List.set_cons_succ]
      refine take_at (i := 5) (.pointer (some ⟨w.heap.size + 1, 33, none⟩)) (some 45) (by decide) (by rfl) (by kernel_rfl) (by kernel_rfl) (by kernel_rfl) (fun _ _ _ h => h) (by rfl) (fun W hW => by go_simp) (by assumption) ?_
      try simp only [Act.put, List.setIfInBounds_toArray, List.set_cons_zero, List.set_cons_succ]
      refine take_at (i := 6) (.slice (some ⟨b3, off3, none⟩) b.is.length c2) (some 46) (by decide) (by rfl) (by kernel_rfl) (by kernel_rfl) (by kernel_rfl) (fun _ _ _ h => h) (by rfl) (fun W hW => by have := hW.1.2.is; go_simp) (by assumption) ?_
      try simp only [Act.put, List.setIfInBounds_toArray, List.set_cons_zero, List.set_cons_succ]
      refine take_at (i := 7) (.int .i64 (k : Int)) (some 47) (by decide) (by rfl) (by kernel_rfl) (by kernel_rfl) (by kernel_rfl) (fun _ _ _ h => h) (by rfl) (fun W hW => by go_simp) (by assumption) ?_
      try simp only [Act.put, List.setIfInBounds_toArray, List.set_cons_zero, List.set_cons_succ]
      refine take_at (i := 8) (.pointer (some ⟨b3, off3 + k * 33, none⟩)) (some 48) (by decide) (by rfl) (by kernel_rfl) (by kernel_rfl) (by kernel_rfl) (fun _ _ _ h => h) (by rfl) (fun W hW => by go_simp) (by assumption) ?_
      try simp only [Act.put, List.setIfInBounds_toArray, List.set_cons_zero, List.set_cons_succ]
      refine take_at (i := 9) (idV y.1) (some 49) (by decide) (by rfl) (by kernel_rfl) (by kernel_rfl) (by kernel_rfl) (fun _ _ _ h => h) (by rfl) (fun W hW => by exact exec_load_mid _ _ rfl b3 (off3 + k * 33) rfl (vb y.1) _ hW.2.2 Try.underlying28 rfl (cells_ii y)) (by assumption) ?_
      try simp only [Act.put, List.setIfInBounds_toArray, List.set_cons_zero, List.set_cons_succ]
      refine take_at (i := 10) (.bool (!s)) (some 50) (by decide) (by rfl) (by kernel_rfl) (by kernel_rfl) (by kernel_rfl) (fun _ _ _ h => h) (by rfl) (fun W hW => by go_simp) (by assumption) ?_
      try simp only [Act.put, List.setIfInBounds_toArray, List.set_cons_zero, List.set_cons_succ]
      refine wpAnyH_done (by kernel_rfl) ?_ _
      try simp only [Act.put, List.setIfInBounds_toArray, List.set_cons_zero, List.set_cons_succ]
      cases s
      · have hno : Hid (¬ a = b) := fun e => by
          have h1 := HX.out
          rw [show a.is = b.is by rw [e], HY.out] at h1
          injection h1 with h1
          have := HS.out.2 h1.symm
          cases this
        go_wp2_with fail
        go_ret
        exact ⟨false, rfl, ⟨(fun h => by cases h), fun h => absurd h hno.out⟩, HBD.out⟩
      · have hst2 : Hid (a.is.take (k + 1) = b.is.take (k + 1)) := by
          obtain ⟨h1, h1'⟩ := List.getElem?_eq_some_iff.1 HX.out
          obtain ⟨h2, h3⟩ := List.getElem?_eq_some_iff.1 HY.out
          unfold Hid
          rw [List.take_succ_eq_append_getElem h1, List.take_succ_eq_append_getElem h2, hst.out, h3, h1', HS.out.1 rfl]
        have HTX := Lib.hid hHeld.1.1
        have HUX := Lib.hid hHeld.1.2
        clear hHeld
        go_wp2_with fail
        go_roundw
        case rel => exact ⟨k + 1, by go_num, by omega, hst2, HBD.out, HTX.out, HUX.out⟩
        case measure => simp [intOf]; omega
    · have he : Hid (a.is = b.is) := by
        have := hst.out
        rwa [List.take_of_length_le (by omega), List.take_of_length_le (by rw [← HLB.out]; omega)] at this
      have hyes : Hid (a = b) := cmt_ext HRR.out he.out HNN.out HMM.out
      go_wp2_with fail
      go_ret
      exact ⟨true, rfl, ⟨fun _ => hyes.out, fun _ => rfl⟩, hbl.out⟩

end Go.Proofs.Ytflgokbkkoobkaa.Cd

/-
  Rows of no things, in a block of their own; two rows that are apart. Conditions: none.
-/
namespace Go.Proofs.Ytflgokbkkoobkaa.Cd
open Go.RowKit

section
variable {α : Type} {f : α → List Value} {n : Nat} {T S : TypeId} {bytes : Nat} {z : Value}
theorem op_empty (K : Kind f n T S bytes z) {o : Oper} {a : Act} {w : World} {K9 : Act → World → Prop} {Q : Exit → Act → World → Prop} (ho : o.op = .buildSlice S 0 #[])
    (h : K9 (a.put o.dst (.slice (some ⟨w.heap.size, 0, none⟩) 0 0)) (w.alloc (.cells #[] T))) : o.wp Try.prog a w K9 Q := by
  obtain ⟨i0, hi, hz0, hz1, hz2⟩ := info_parts K.info
  have hrun : (Instr.buildSlice S 0 #[]).run Try.prog w = .ok (.slice (some ⟨w.heap.size, 0, none⟩) 0 0) (w.alloc (.cells #[] T)) := by
    simp [Instr.buildSlice, run_underlying K.slice, sizeOf, typeInfo, hi, Instr.fill, newRow]
    have e : Array.map (fun _ => (default : Value)) (Array.range 0) = #[] := by simp [Array.range]
    rw [e]
  unfold Oper.wp execOp
  simp [ho, hrun]
  exact h
theorem step_empty (K : Kind f n T S bytes z) {ops : Array Oper} {o : Oper} {a : Act} {w : World} {K9 : Act → World → Prop} {Q : Exit → Act → World → Prop} {E : Prop} (hgd : o.guard = none) (ho : o.op = .buildSlice S 0 #[])
    (h : K9 (a.put o.dst (.slice (some ⟨w.heap.size, 0, none⟩) 0 0)) (w.alloc (.cells #[] T))) : if Region.wanted o (yielded ops a.tmps) = true then Oper.wp Try.prog o a w K9 Q else E := by
  have hw : Region.wanted o (yielded ops a.tmps) = true := by simp [Region.wanted, hgd]
  rw [if_pos hw]
  exact op_empty K ho h
theorem OwnRw.empty (w : World) {B : Nat} (hB : B ≤ w.heap.size) : OwnRw f n T (w.alloc (.cells #[] T)) B (.slice (some ⟨w.heap.size, 0, none⟩) 0 0) ([] : List α) :=
  ⟨by simp [rowC], .inr ⟨w.heap.size, 0, #[], rfl, hB, heap_alloc_new _ _, by simp, by simp [maxLen], by simp, by simp [rowC]⟩⟩
/-- Where another row alone was turned. -/
theorem OwnRw.apart {w w' : World} {B : Nat} {v : Value} {l : List α} {row : Option Nat} (h : OwnRw f n T w B v l) (hg : w.grownBy w' row) (hne : v.ownBlock = none ∨ v.ownBlock ≠ row) : OwnRw f n T w' B v l :=
  World.ownsRow.kept h hg hne
end

end Go.Proofs.Ytflgokbkkoobkaa.Cd

/-
  A row of pairs, a row of kids and a box, laid side by side in any order. Conditions: none.
-/
namespace Go.Proofs.Ytflgokbkkoobkaa.Cd
open Go.RowKit

section
variable {α β : Type} {f : α → List Value} {n : Nat} {T : TypeId} {f' : β → List Value} {n' : Nat} {T' : TypeId} {w : World} {B B' : Nat} {v u : Value} {l : List α} {m : List β}
/-- Rows of two types are apart. -/
theorem rows_apart (h : OwnRw f n T w B v l) (k : OwnRw f' n' T' w B' u m) (hT : T ≠ T') : u.ownBlock = none ∨ u.ownBlock ≠ v.ownBlock := by
  rcases k.2 with ⟨rfl, _⟩ | ⟨g', cap', cur', rfl, _, hg', _⟩
  · exact .inl rfl
  · refine .inr fun e => ?_
    rcases h.2 with ⟨rfl, _⟩ | ⟨g, cap, cur, rfl, _, hg, _⟩
    · cases e
    · have e : some g' = some g := e
      injection e with e
      subst e
      rw [hg] at hg'
      injection hg' with hg'
      injection hg' with _ h2
      exact hT h2
/-- A block of another type is none of a row's. -/
theorem box_apart {G : Nat} {C : Array Value} {fr : Nat × Nat} (h : OwnRw f n T w B v l) (k : w.heap[G]? = some (.cells C T' fr)) (hT : T ≠ T') : some G ≠ v.ownBlock := fun e => by
  rcases h.2 with ⟨rfl, _⟩ | ⟨g, cap, cur, rfl, _, hg, _⟩
  · cases e
  · have e : some G = some g := e
    injection e with e
    subst e
    rw [k] at hg
    injection hg with hg
    injection hg with _ h2
    exact hT h2.symm
end

/-- A row of pairs, one of kids, a box that is empty yet: all laid since w1. -/
structure Kp (w1 : World) (B : Nat) (w : World) (yp : Value) (lp : List Bp) (yk : Value) (lk : List Kd) (gb : Option Nat) : Prop where
  below : Below B w1 w
  base : B ≤ w1.heap.size
  ps : OwnRw ppC 2 43 w B yp lp
  ks : OwnRw kkC 34 48 w B yk lk
  box : ∀ G, gb = some G → B ≤ G ∧ TrAt w G (.slice none 0 0) (.slice none 0 0)

section
variable {w1 w w' : World} {B : Nat} {yp yk v : Value} {lp lp' : List Bp} {lk lk' : List Kd} {gb : Option Nat}
theorem Kp.size (h : Kp w1 B w yp lp yk lk gb) : B ≤ w.heap.size := Nat.le_trans h.base h.below.size
theorem Kp.newp (h : Kp w1 B w yp lp yk lk gb) : Kp w1 B (w.alloc (.cells #[] 43)) (.slice (some ⟨w.heap.size, 0, none⟩) 0 0) [] yk lk gb :=
  ⟨h.below.alloc h.size _, h.base, OwnRw.empty w h.size, h.ks.alloc _, fun G hG => ⟨(h.box G hG).1, (h.box G hG).2.below (new_below _ _) (h.box G hG).2.lt⟩⟩
theorem Kp.newk (h : Kp w1 B w yp lp yk lk gb) : Kp w1 B (w.alloc (.cells #[] 48)) yp lp (.slice (some ⟨w.heap.size, 0, none⟩) 0 0) [] gb :=
  ⟨h.below.alloc h.size _, h.base, h.ps.alloc _, OwnRw.empty w h.size, fun G hG => ⟨(h.box G hG).1, (h.box G hG).2.below (new_below _ _) (h.box G hG).2.lt⟩⟩
theorem Kp.setp (h : Kp w1 B w yp lp yk lk gb) (ho : OwnRw ppC 2 43 w' B v lp') (hb : Below B w w') (hg : w.grownBy w' yp.ownBlock) : Kp w1 B w' v lp' yk lk gb :=
  ⟨h.below.trans hb, h.base, ho, h.ks.apart hg (rows_apart h.ps h.ks (by decide)), fun G hG => ⟨(h.box G hG).1, (hg.block G (h.box G hG).2.lt (box_apart (T' := 25) h.ps (h.box G hG).2 (by decide))).trans (h.box G hG).2⟩⟩
theorem Kp.setk (h : Kp w1 B w yp lp yk lk gb) (ho : OwnRw kkC 34 48 w' B v lk') (hb : Below B w w') (hg : w.grownBy w' yk.ownBlock) : Kp w1 B w' yp lp v lk' gb :=
  ⟨h.below.trans hb, h.base, h.ps.apart hg (rows_apart h.ks h.ps (by decide)), ho, fun G hG => ⟨(h.box G hG).1, (hg.block G (h.box G hG).2.lt (box_apart (T' := 25) h.ks (h.box G hG).2 (by decide))).trans (h.box G hG).2⟩⟩
theorem Kp.lay (h : Kp w1 B w yp lp yk lk gb) : Kp w1 B (w.alloc (.cells #[.slice none 0 0, .slice none 0 0] 25)) yp lp yk lk (some w.heap.size) :=
  ⟨h.below.alloc h.size _, h.base, h.ps.alloc _, h.ks.alloc _, fun G hG => by injection hG with hG; subst hG; exact ⟨h.size, TrAt.new _ _ _⟩⟩
theorem grown_two (w : World) (G : Nat) (a b : Value) : w.grownBy ((w.setCell ⟨G, 0, none⟩ a).setCell ⟨G, 1, none⟩ b) (some G) :=
  ⟨rfl, rfl, rfl, by simp, fun k _ hk => by
    have hne : k ≠ G := fun e => hk (by rw [e])
    exact (Below.heap_setCell _ ⟨G, 1, none⟩ _ _ hne).trans (Below.heap_setCell _ ⟨G, 0, none⟩ _ _ hne)⟩
theorem Kp.fill {G : Nat} (h : Kp w1 B w yp lp yk lk (some G)) (a b : Value) : Kp w1 B ((w.setCell ⟨G, 0, none⟩ a).setCell ⟨G, 1, none⟩ b) yp lp yk lk none ∧ B ≤ G ∧ TrAt ((w.setCell ⟨G, 0, none⟩ a).setCell ⟨G, 1, none⟩ b) G a b := by
  obtain ⟨hB, hx⟩ := h.box G rfl
  have hg := grown_two w G a b
  have n1 : yp.ownBlock ≠ some G := fun e => box_apart (T' := 25) h.ps hx (by decide) e.symm
  have n2 : yk.ownBlock ≠ some G := fun e => box_apart (T' := 25) h.ks hx (by decide) e.symm
  exact ⟨⟨below_two h.below hB a b, h.base, h.ps.apart hg (.inr n1), h.ks.apart hg (.inr n2), fun _ e => by cases e⟩, hB, hx.whole a b⟩
end

/-- A row of the call's own: its block, or a place where there is none yet. -/
theorem rw_at {α : Type} {f : α → List Value} {n : Nat} {T S : TypeId} {bytes : Nat} {z : Value} (K : Kind f n T S bytes z) {w : World} {B : Nat} {v : Value} {l : List α} (h : OwnRw f n T w B v l) (hB : B ≤ w.heap.size) :
    ∃ g A c, B ≤ g ∧ v = .slice A l.length c ∧ l.length ≤ c ∧ c ≤ 9223372036854775807 ∧ (0 < l.length → A = some ⟨g, 0, none⟩ ∧ ∃ cur, w.heap[g]? = some (.cells cur T) ∧ l.length * n ≤ cur.size) ∧
      (∀ (G : Nat) C T' fr, w.heap[G]? = some (.cells C T' fr) → T ≠ T' → G ≠ g) ∧ (∀ B' T' n' (u : Value) m cs, w.ownsRow B' T' n' u m cs → T ≠ T' → u.ownBlock = none ∨ u.ownBlock ≠ some g) := by
  obtain ⟨A0, c0, e0, h1, h2⟩ := (h.rwIn K).len
  have hlt := World.ownsRow.lt h
  rcases h.2 with ⟨rfl, h0⟩ | ⟨g, cap, cur, rfl, hg, hh, hn, hm, hc, _⟩
  · refine ⟨w.heap.size, none, 0, hB, by rw [h0], by omega, by omega, fun hp => by omega, fun G C T' fr hG _ => ?_, fun B' T' n' u m cs k _ => ?_⟩
    · have := (Array.getElem?_eq_some_iff.1 hG).1
      omega
    · cases hu : u.ownBlock with
      | none => exact .inl rfl
      | some j =>
        have := (World.ownsRow.lt k j hu).2
        refine .inr fun e => ?_
        injection e with e
        omega
  · refine ⟨g, _, cap, hg, rfl, hn, hm, fun _ => ⟨rfl, cur, hh, ?_⟩, fun G C T' fr hG hT e => ?_, fun B' T' n' u m cs k hT => ?_⟩
    · rw [hc]
      exact Nat.mul_le_mul_right _ hn
    · subst e
      rw [hh] at hG
      injection hG with hG
      injection hG with _ h9
      exact hT h9
    · rcases k.2 with ⟨rfl, _⟩ | ⟨g', cap', cur', rfl, _, hg', _⟩
      · exact .inl rfl
      · refine .inr fun e => ?_
        have e : some g' = some g := e
        injection e with e
        subst e
        rw [hh] at hg'
        injection hg' with hg'
        injection hg' with _ h9
        exact hT h9
theorem grown_cell {w0 w : World} {g : Nat} (h : w0.grownBy w (some g)) (o : Nat) (v : Value) : w0.grownBy (w.setCell ⟨g, o, none⟩ v) (some g) :=
  grown_then h ⟨rfl, rfl, rfl, by simp, fun k _ hk => Below.heap_setCell w ⟨g, o, none⟩ v k (fun e => hk (by rw [e]))⟩
theorem grown_below {w w' : World} {g B : Nat} (h : w.grownBy w' (some g)) (hg : B ≤ g) (hs : B ≤ w.heap.size) : Below B w w' := (Below.refl B w).grown h hs (fun k hk => by injection hk with hk; omega)
theorem block_set {w : World} {g : Nat} {cur : Array Value} {T : TypeId} (h : w.heap[g]? = some (.cells cur T)) (o : Nat) (v : Value) : ∃ cur', (w.setCell ⟨g, o, none⟩ v).heap[g]? = some (.cells cur' T) ∧ cur'.size = cur.size :=
  ⟨_, heap_setCell_same w g o cur T v h, by simp⟩
theorem block_cell {w : World} {g : Nat} {cur : Array Value} {T : TypeId} (h : w.heap[g]? = some (.cells cur T)) (o : Nat) (ho : o < cur.size) : (∃ v, w.cell? ⟨g, o, none⟩ = some v) ∧ w.frozen? ⟨g, o, none⟩ = false :=
  ⟨⟨cur[o], by rw [cell_of_row _ _ _ _ _ _ h]; exact Array.getElem?_eq_getElem ho⟩, frozen_of_row _ _ _ _ _ h⟩
theorem block_sets (g : Nat) (T : TypeId) (vs : List Value) : ∀ (w : World) (cur : Array Value) (o : Nat), w.heap[g]? = some (.cells cur T) → ∃ cur', (w.setCells g o vs).heap[g]? = some (.cells cur' T) ∧ cur'.size = cur.size := by
  induction vs with
  | nil => intro w cur o h; exact ⟨cur, h, rfl⟩
  | cons v r ih =>
    intro w cur o h
    obtain ⟨c1, h1, z1⟩ := block_set h o v
    obtain ⟨c2, h2, z2⟩ := ih _ c1 (o + 1) h1
    exact ⟨c2, h2, z2.trans z1⟩

/-- What lies there where the copies are laid: the arguments' boxes, the three rows, the two boxes. -/
structure MidK (w W : World) (t : Tre) (c : Cmt) (vp vk vi : Value) (B0 G D : Nat) (yp yk yi : Value) : Prop where
  held : Held w W t c vp vk vi
  ps : OwnRw ppC 2 43 W B0 yp t.ps
  ks : OwnRw kkC 34 48 W B0 yk t.ks
  is : OwnRw iiC 33 28 W B0 yi c.is
  tr : TrAt W G yp yk
  cm : ComAt W D c yi
section
variable {w W W' : World} {t : Tre} {c : Cmt} {vp vk vi yp yk yi : Value} {B0 G D : Nat}
theorem MidK.step (h : MidK w W t c vp vk vi B0 G D yp yk yi) (hb : Below W.heap.size W W') : MidK w W' t c vp vk vi B0 G D yp yk yi :=
  ⟨h.held.step hb, h.ps.keep hb, h.ks.keep hb, h.is.keep hb, h.tr.below hb h.tr.lt, h.cm.below hb h.cm.lt⟩
theorem MidK.tre (h : MidK w W t c vp vk vi B0 G D yp yk yi) : TreIn W W.heap.size (.agg #[yp, yk]) t := ⟨_, _, rfl, h.ps.rwIn kind_pp, h.ks.rwIn kind_kk⟩
theorem MidK.cmt (h : MidK w W t c vp vk vi B0 G D yp yk yi) : CmtIn W W.heap.size (.agg (cmC c yi).toArray) c := ⟨_, rfl, h.is.rwIn kind_ii⟩
end

theorem goodT_few {t : Tre} (h : GoodT t) : (psB t.ps).length ≤ 100000000 ∧ (ksB t.ks).length ≤ 100000000 := by
  rcases h with ⟨h1, h2⟩ | ⟨h1, h2⟩
  · have := psB_small h2
    rw [h1]
    exact ⟨by omega, by simp [ksB]⟩
  · have := ksB_small h2
    rw [h1]
    exact ⟨by simp [psB], by omega⟩

end Go.Proofs.Ytflgokbkkoobkaa.Cd
