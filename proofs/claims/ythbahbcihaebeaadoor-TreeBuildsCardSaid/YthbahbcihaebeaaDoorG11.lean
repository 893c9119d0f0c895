/-
  IdentTurned answers true. Conditions: none.
-/
import Derived.Test.YthbahbcihaebeaaDoorG6
import Derived.Lib.SmallJoins
import Derived.SizedLaws
import Derived.Test.YthbahbcihaebeaaDoorG1
import Derived.Test.YthbahbcihaebeaaDoorG12
import Derived.Test.YthbahbcihaebeaaDoorG3
/-
  A name as an argument; alive answers true. Conditions: none.
-/
namespace Go.Proofs.YthbahbcihaebeaaDoor.Cd
open Go.RowKit Go.ChangeShapes Go.WideShapes Go.Deep Go.Joins

theorem ione_byte {H : Type} {enc : TypeId × Value → H} {w : World} {n : Nat} {cs : List Value} {x : DataW H × List MemPlace} (h : DataW.trod enc Tryd.prog w 0 (fun _ => true) true n 5 cs = some x) : ∃ c : UInt8, cs = [.int .u8 c.toNat] := by
  obtain ⟨a, e, _, hw⟩ := DataW.trod_int Tryd.underlying5 h
  have hb := bounds_u8 hw
  obtain ⟨c, rfl⟩ := byte_of a hb.1 hb.2
  exact ⟨c, e⟩

theorem bytes_of_cells (n : Nat) (cs : List Value) (hn : cs.length = n) (h : ∀ i, i < n → ∃ c : UInt8, cs[i]? = some (.int .u8 c.toNat)) : ∃ l : List UInt8, l.length = n ∧ cs = vb l := by
  induction cs generalizing n with
  | nil => exact ⟨[], hn, rfl⟩
  | cons v r ih =>
    subst hn
    obtain ⟨c, hc⟩ := h 0 (by simp)
    obtain ⟨l, h1, h2⟩ := ih r.length rfl (fun i hi => by simpa using h (i + 1) (by simp; omega))
    refine ⟨c :: l, by simp [h1], ?_⟩
    simp at hc
    rw [hc, h2]
    rfl

set_option maxRecDepth 100000 in
theorem id_of_trod {H : Type} {enc : TypeId × Value → H} {w : World} {r : Reach} {b0 : Nat} {v : Value} {d : DataW H} {ps : List MemPlace} (hv : Value.okWide Tryd.prog w r b0 27 v)
    (h : DataW.Trod enc Tryd.prog w 0 (fun _ => true) true 27 v d ps) (_ : ∀ n ∈ d.weights Tryd.prog 27, n ≤ reachBytes) :
    ∃ l : List UInt8, v = idV l ∧ l.length = 33 := by
  obtain ⟨cs, rfl, hsz⟩ := okWide_struct Tryd.underlying27 hv
  have hsz2 : cs.size = 33 := hsz.trans (by kernel_rfl)
  obtain ⟨fuel, hf⟩ := h
  obtain ⟨y0, y1, n, hx, hl, h0, h1⟩ := trod_struct2 Tryd.underlying27 hf
  obtain ⟨xs, m, _, _, hl2, hl3, h2⟩ := DataW.trod_array Tryd.underlying25 h1
  have hcu : Tryd.prog.cellsOf 5 = 1 := by kernel_rfl
  have hcs : Tryd.prog.cellsOf 25 = 32 := by kernel_rfl
  have hcell : ∀ i, i < 33 → ∃ c : UInt8, cs.toList[i]? = some (.int .u8 c.toNat) := by
    intro i hi
    cases i with
    | zero =>
      obtain ⟨c, hc⟩ := ione_byte h0
      refine ⟨c, ?_⟩
      have := congrArg (fun l => l[0]?) hc
      simpa [Value.cells, hcu, List.getElem?_take] using this
    | succ i =>
      have h3 := h2 i (by omega)
      rw [List.getElem?_eq_getElem (by omega)] at h3
      obtain ⟨c, hc⟩ := ione_byte h3
      refine ⟨c, ?_⟩
      have := congrArg (fun l => l[0]?) hc
      simp [Value.cells, hcu, hcs, List.getElem?_take, List.getElem?_drop] at this
      have e : cs.toList[i + 1]? = cs[i + 1]? := by simp
      rw [e]
      have hi2 : i < 32 := by omega
      simpa [hi2, Nat.add_comm] using this
  obtain ⟨l, e1, e2⟩ := bytes_of_cells 33 cs.toList (by simpa using hsz2) hcell
  refine ⟨l, ?_, e1⟩
  unfold idV
  rw [← e2]

/-- The same behind a guard. -/
theorem op_load_id {o : Oper} {a : Act} {w : World} {K : Act → World → Prop} {Q : Exit → Act → World → Prop} (x : Operand) (ho : o.op = .load 27 x)
    (g : Nat) (hx : a.eval x = .pointer (some ⟨g, 0, none⟩)) (l : List UInt8) (hl : l.length = 33) (hg : IdAt w g l) (h : K (a.put o.dst (idV l)) w) : o.wp Tryd.prog a w K Q :=
  wp_load_row _ x ho g hx _ (vb l).toArray (0, 0) _ hg Tryd.underlying27 rfl (by rw [vb_size, hl]; exact cells_id) h
theorem op_alloc_id {o : Oper} {a : Act} {w : World} {K : Act → World → Prop} {Q : Exit → Act → World → Prop} (ho : o.op = .alloc 27)
    (h : K (a.put o.dst (.pointer (some ⟨w.heap.size, 0, none⟩))) (w.alloc (.cells (vb (zer 33)).toArray 27))) : o.wp Tryd.prog a w K Q := by
  unfold Oper.wp
  simp [execOp, ho, Instr.alloc, zero_id, newVar, newRow, newObj, Value.cells, Result.andThen]
  exact h
theorem op_zero_id {o : Oper} {a : Act} {w : World} {K : Act → World → Prop} {Q : Exit → Act → World → Prop} (ho : o.op = .build 27 #[])
    (h : K (a.put o.dst (idV (zer 33))) w) : o.wp Tryd.prog a w K Q :=
  wp_build _ #[] ho (by simp [built_id0]) (by simpa [built_id0, idV] using h)
theorem op_fill_id {o : Oper} {a : Act} {W w : World} {K : Act → World → Prop} {Q : Exit → Act → World → Prop} (x y : Operand) (ho : o.op = .store 27 x y)
    (hW : W = w.alloc (.cells (vb (zer 33)).toArray 27)) (hx : a.eval x = .pointer (some ⟨w.heap.size, 0, none⟩)) (l : List UInt8) (hl : l.length = 33) (hy : a.eval y = idV l)
    (h : K (a.put o.dst undef) (w.alloc (.cells (vb l).toArray 27))) : o.wp Tryd.prog a W K Q := by
  subst hW
  refine wp_store_row _ x y ho w.heap.size (vb l).toArray hx hy _ _ (heap_alloc_new w _) (by rw [vb_size, hl]; exact cells_id) (by rw [vb_size, vb_size, hl, zer_length]) (all_oneCell_toArray (vb_one l)) ?_
  have e : (w.alloc (.cells (vb (zer 33)).toArray 27)).setRow w.heap.size (vb l).toArray = w.alloc (.cells (vb l).toArray 27) := by
    unfold World.setRow World.alloc
    congr 1
    apply Array.ext
    · simp
    · intro k h1 h2
      simp only [Array.getElem_modify, Array.getElem_push]
      by_cases hk : w.heap.size = k
      · subst hk; simp
      · have : k < w.heap.size := by simp at h2; omega
        simp [hk, this]
  rw [e]
  exact h
theorem op_put_id {o : Oper} {a : Act} {w : World} {K : Act → World → Prop} {Q : Exit → Act → World → Prop} (x y : Operand) (ho : o.op = .store 27 x y)
    (g : Nat) (hx : a.eval x = .pointer (some ⟨g, 0, none⟩)) (l : List UInt8) (hl : l.length = 33) (hy : a.eval y = idV l) (old : List UInt8) (hold : old.length = 33) (hg : IdAt w g old)
    (h : ∀ w', IdAt w' g l → w.grownBy w' (some g) → K (a.put o.dst undef) w') : o.wp Tryd.prog a w K Q :=
  wp_store_row _ x y ho g (vb l).toArray hx hy _ (vb old).toArray hg (by rw [vb_size, hl]; exact cells_id) (by rw [vb_size, vb_size, hl, hold]) (all_oneCell_toArray (vb_one l)) (h _ (setRow_heap w g _ _ _ _ hg) (setRow_grown w g _))
theorem op_eql_id {o : Oper} {a : Act} {w : World} {K : Act → World → Prop} {Q : Exit → Act → World → Prop} (p q : Operand) (t : TypeId) (ho : o.op = .binOp .eql 27 p q t)
    (x y : List UInt8) (hx : x.length = 33) (hy : y.length = 33) (hp : a.eval p = idV x) (hq : a.eval q = idV y) (h : K (a.put o.dst (.bool (x == y))) w) : o.wp Tryd.prog a w K Q := by
  unfold Oper.wp
  simp only [execOp, ho, hp, hq, Sem.run_bind, eqGuard_id, eql_id x y hx hy, Result.andThen_ok]
  exact h
theorem op_neq_id {o : Oper} {a : Act} {w : World} {K : Act → World → Prop} {Q : Exit → Act → World → Prop} (p q : Operand) (t : TypeId) (ho : o.op = .binOp .neq 27 p q t)
    (x y : List UInt8) (hx : x.length = 33) (hy : y.length = 33) (hp : a.eval p = idV x) (hq : a.eval q = idV y) (h : K (a.put o.dst (.bool (!(x == y)))) w) : o.wp Tryd.prog a w K Q := by
  unfold Oper.wp
  simp only [execOp, ho, hp, hq, Sem.run_bind, eqGuard_id, neq_id x y hx hy, Result.andThen_ok]
  exact h

theorem text_l (l : List UInt8) (w : World) (hl : l.length = 33) : Calls Tryd.prog 64 #[idV l] w (Gives (.string ⟨(textI l).toArray⟩) w) := by
  obtain ⟨k, s, rfl⟩ := List.exists_cons_of_length_pos (l := l) (by omega)
  exact itext_any k s w (by simpa using hl)
theorem good_l (l : List UInt8) (w : World) (hl : l.length = 33) : Calls Tryd.prog 62 #[idV l] w (Gives (.bool (goodI l)) w) := by
  obtain ⟨k, s, rfl⟩ := List.exists_cons_of_length_pos (l := l) (by omega)
  exact igood_any k s w (by simpa using hl)
theorem name_l (l : List UInt8) (w : World) (hl : l.length = 33) : Calls Tryd.prog 28 #[idV l] w (Gives (.string ⟨(textI l).toArray⟩) w) := by
  obtain ⟨k, s, rfl⟩ := List.exists_cons_of_length_pos (l := l) (by omega)
  exact name_any k s w (by simpa using hl)

end Go.Proofs.YthbahbcihaebeaaDoor.Cd

/-
  IdentBack answers true. Conditions: none.
-/
namespace Go.Proofs.YthbahbcihaebeaaDoor.Cd
open Go.RowKit

theorem parseI_cons (c : UInt8) (r : List UInt8) : parseI (c :: r) = if 0 < sizeI c ∧ r.length = sizeI c then (c :: pad32 r, true) else (zer 33, false) := rfl
theorem goodI_cons (k : UInt8) (s : List UInt8) : goodI (k :: s) = (decide (0 < sizeI k) && (k :: s == k :: pad32 (s.take (sizeI k)))) := rfl
theorem parse_length (l : List UInt8) : (parseI l).1.length = 33 := by
  cases l with
  | nil => rfl
  | cons c r =>
    rw [parseI_cons]
    split
    · simp [pad32_length]
    · rfl
theorem good_zero : goodI (zer 33) = false := by decide
theorem textI_length (l : List UInt8) : (textI l).length ≤ 33 := by
  cases l with
  | nil => simp [textI]
  | cons k s =>
    rw [textI_cons]
    split
    · have := sizeI_le k
      simp only [List.length_cons, List.length_take]
      omega
    · simp
theorem good_parts {k : UInt8} {s : List UInt8} (h : goodI (k :: s) = true) : 0 < sizeI k ∧ s = pad32 (s.take (sizeI k)) := by
  rw [goodI_cons] at h
  simpa using h
theorem parse_text (l : List UInt8) (hl : l.length = 33) : parseI (textI l) = if goodI l = true then (l, true) else (zer 33, false) := by
  obtain ⟨k, s, rfl⟩ := List.exists_cons_of_length_pos (l := l) (by omega)
  have hs : s.length = 32 := by simpa using hl
  rw [textI_cons]
  by_cases h : goodI (k :: s) = true
  · rw [if_pos h, if_pos h]
    obtain ⟨h1, h2⟩ := good_parts h
    have hn := sizeI_le k
    rw [parseI_cons, if_pos ⟨h1, by rw [List.length_take]; omega⟩, ← h2]
  · rw [if_neg h, if_neg h]
    rfl
theorem text_parse (l : List UInt8) (h : (parseI l).2 = true) : textI (parseI l).1 = l ∧ goodI (parseI l).1 = true := by
  cases l with
  | nil => cases h
  | cons c r =>
    by_cases hc : 0 < sizeI c ∧ r.length = sizeI c
    · have e : parseI (c :: r) = (c :: pad32 r, true) := if_pos hc
      have hn := sizeI_le c
      have ht : (pad32 r).take (sizeI c) = r := by
        unfold pad32
        rw [List.take_of_length_le (l := r) (i := 32) (by omega), List.take_append_of_le_length (by omega), List.take_of_length_le (by omega)]
      have hg : goodI (c :: pad32 r) = true := by
        rw [goodI_cons, ht]
        simp [hc.1]
      rw [e]
      exact ⟨by rw [textI_cons, hg, if_pos rfl, ht], hg⟩
    · rw [show parseI (c :: r) = (zer 33, false) from if_neg hc] at h
      cases h

end Go.Proofs.YthbahbcihaebeaaDoor.Cd

namespace Go.Proofs.YthbahbcihaebeaaDoor.IdentBack
open Go.RowKit Go.Proofs.YthbahbcihaebeaaDoor.Cd

end Go.Proofs.YthbahbcihaebeaaDoor.IdentBack

/-
  Trees and commits as bytes, and read from bytes: no Go in sight. Conditions: none.
-/
namespace Go.Proofs.YthbahbcihaebeaaDoor.Cd

/-! ### Texts -/

def txt (s : List UInt8) : List UInt8 := enc s.length ++ s
theorem txt_len (s : List UInt8) : (txt s).length = (enc s.length).length + s.length := by rw [txt, List.length_append]
section
variable {most : Int} (t : List UInt8)
theorem txm (s : List UInt8) (hs : s.length < 18446744073709551616) (hm : (s.length : Int) ≤ most) : ¬ TxBad most (txt s ++ t) := by
  unfold TxBad txt
  rw [List.append_assoc, nv_enc hs, ns_enc hs, List.drop_left, List.length_append]
  rintro (h | h | h | h)
  · exact enc_good hs _ h
  · omega
  · omega
  · omega
theorem txmV (s : List UInt8) (hs : s.length < 18446744073709551616) (hm : (s.length : Int) ≤ most) : txV most (txt s ++ t) = s := by
  unfold txV; rw [if_neg (txm t s hs hm)]; unfold txt; rw [List.append_assoc, nv_enc hs, ns_enc hs, List.drop_left, List.take_left]
theorem txmB (s : List UInt8) (hs : s.length < 18446744073709551616) (hm : (s.length : Int) ≤ most) : txB most (txt s ++ t) = t := by
  unfold txB; rw [if_neg (txm t s hs hm)]; unfold txt; rw [List.append_assoc, nv_enc hs, ns_enc hs, List.drop_left, List.drop_left]
theorem txmX (s : List UInt8) (hs : s.length < 18446744073709551616) (hm : (s.length : Int) ≤ most) : txX most (txt s ++ t) = false := decide_eq_false (txm t s hs hm)
end
theorem txX_nil (most : Int) : txX most [] = true := decide_eq_true (.inl bad_nil)
theorem txB_nil (most : Int) : txB most [] = [] := if_pos (.inl bad_nil)
theorem txt_one {most : Int} {bs : List UInt8} (h : txX most bs = false) : txt (txV most bs) ++ txB most bs = bs := one_tx h
theorem txX_next {m1 m2 : Int} {bs : List UInt8} (h : txX m2 (txB m1 bs) = false) : txX m1 bs = false := by
  cases hx : txX m1 bs
  · rfl
  · rw [Sane.tx m1 bs hx, txX_nil] at h
    cases h

/-! ### Names -/

abbrev Idn := {l : List UInt8 // l.length = 33}
def idZ : Idn := ⟨zer 33, zer_length _⟩
def idP (l : List UInt8) : Idn := ⟨(parseI l).1, parse_length l⟩
/-- A name's hash. -/
def kd (i : Idn) : UInt8 := i.1.headD 0

theorem idn_cons (i : Idn) : ∃ k s, i.1 = k :: s ∧ s.length = 32 ∧ kd i = k := by
  obtain ⟨l, hl⟩ := i
  obtain ⟨k, s, rfl⟩ := List.exists_cons_of_length_pos (l := l) (by omega)
  exact ⟨k, s, rfl, by simpa using hl, rfl⟩
theorem textI_good {i : Idn} (h : goodI i.1 = true) : ∃ s, textI i.1 = kd i :: s ∧ s.length = sizeI (kd i) ∧ 0 < sizeI (kd i) ∧ i.1 = kd i :: pad32 s := by
  obtain ⟨k, s, e, hs, hk⟩ := idn_cons i
  rw [e] at h
  obtain ⟨h0, h1⟩ := good_parts h
  rw [hk]
  refine ⟨s.take (sizeI k), ?_, ?_, h0, ?_⟩
  · rw [e, textI_cons, h]; rfl
  · rw [List.length_take]
    have := sizeI_le k
    omega
  · rw [e, ← h1]
theorem textI_bad {l : List UInt8} (h : goodI l = false) : textI l = [] := by
  cases l with
  | nil => rfl
  | cons k s => rw [textI_cons, h]; rfl
theorem textI_pos {i : Idn} : textI i.1 = [] ↔ goodI i.1 = false := by
  constructor
  · intro h
    cases hg : goodI i.1
    · rfl
    · obtain ⟨s, e, _⟩ := textI_good hg
      rw [e] at h
      cases h
  · exact textI_bad
theorem idP_text {i : Idn} (h : goodI i.1 = true) : idP (textI i.1) = i := by
  apply Subtype.ext
  have := parse_text i.1 i.2
  rw [h] at this
  show (parseI (textI i.1)).1 = i.1
  rw [this]
  rfl
theorem goodZ : goodI idZ.1 = false := good_zero

/-! ### What the program reads of a name -/

/-- A byte as it is; 0, if there is none. -/
def gbV (bad : Bool) (bs : List UInt8) : UInt8 := (tkV bad 1 bs).headD 0
def gbB (bad : Bool) (bs : List UInt8) : List UInt8 := tkB bad 1 bs
def gbX (bad : Bool) (bs : List UInt8) : Bool := tkX bad 1 bs
theorem gb_cons (c : UInt8) (r : List UInt8) : gbV false (c :: r) = c ∧ gbB false (c :: r) = r ∧ gbX false (c :: r) = false := by
  have h := tk_enc r [c]
  unfold gbV gbB gbX
  have e1 := tkV_enc r [c]
  have e2 := tkB_enc r [c]
  have e3 := tkX_enc r [c]
  simp only [List.length_singleton, List.singleton_append] at e1 e2 e3
  have ec : ((1 : Nat) : Int) = 1 := rfl
  rw [ec] at e1 e2 e3
  rw [e1, e2, e3]
  exact ⟨rfl, rfl, rfl⟩
theorem gb_bad (bs : List UInt8) : gbX true bs = true ∧ gbB true bs = [] ∧ gbV true bs = 0 := by
  have hb : TkBad true 1 bs := .inl rfl
  unfold gbX gbB gbV
  exact ⟨decide_eq_true hb, if_pos hb, by rw [show tkV true 1 bs = [] from if_pos hb]; rfl⟩
theorem gb_nil : gbX false [] = true ∧ gbB false [] = [] ∧ gbV false [] = 0 := by decide
theorem gb_one {bad : Bool} {bs : List UInt8} (h : gbX bad bs = false) : bad = false ∧ bs = gbV bad bs :: gbB bad bs := by
  cases bad
  · cases bs with
    | nil => rw [gb_nil.1] at h; cases h
    | cons c r =>
      obtain ⟨h1, h2, _⟩ := gb_cons c r
      exact ⟨rfl, by rw [h1, h2]⟩
  · rw [(gb_bad bs).1] at h; cases h
theorem sane_gb (bad : Bool) (bs : List UInt8) : Sane (gbX bad bs) (gbB bad bs) := Sane.tk bad 1 bs

def gnS (bad : Bool) (bs : List UInt8) : List UInt8 := gbV bad bs :: tkV (gbX bad bs) (sizeI (gbV bad bs)) (gbB bad bs)
def gnV (bad : Bool) (bs : List UInt8) : Idn := idP (gnS bad bs)
def gnB (bad : Bool) (bs : List UInt8) : List UInt8 := tkB (gbX bad bs) (sizeI (gbV bad bs)) (gbB bad bs)
def gnX (bad : Bool) (bs : List UInt8) : Bool := tkX (gbX bad bs) (sizeI (gbV bad bs)) (gbB bad bs)
theorem sane_gn (bad : Bool) (bs : List UInt8) : Sane (gnX bad bs) (gnB bad bs) := Sane.tk _ _ _
theorem gn_len (bad : Bool) (bs : List UInt8) : (gnB bad bs).length ≤ bs.length := Nat.le_trans (tkB_len _ _ _) (tkB_len _ _ _)
theorem tk_bad_stays (n : Int) (bs : List UInt8) : tkX true n bs = true := decide_eq_true (.inl rfl)
theorem gn_bad (bs : List UInt8) : gnX true bs = true := by
  unfold gnX
  rw [(gb_bad bs).1]
  exact tk_bad_stays _ _
theorem gn_text {i : Idn} (h : goodI i.1 = true) (t : List UInt8) : gnV false (textI i.1 ++ t) = i ∧ gnB false (textI i.1 ++ t) = t ∧ gnX false (textI i.1 ++ t) = false := by
  obtain ⟨s, e, hs, _, _⟩ := textI_good h
  have hp := idP_text h
  rw [e] at hp ⊢
  obtain ⟨h1, h2, h3⟩ := gb_cons (kd i) (s ++ t)
  have h4 : gbV false (kd i :: s ++ t) = kd i := h1
  have h5 : gbB false (kd i :: s ++ t) = s ++ t := h2
  have h6 : gbX false (kd i :: s ++ t) = false := h3
  unfold gnV gnB gnX gnS
  rw [h4, h5, h6, ← hs, tkV_enc, tkB_enc, tkX_enc]
  exact ⟨hp, rfl, rfl⟩
theorem gn_one {bad : Bool} {bs : List UInt8} (h : gnX bad bs = false) (hg : goodI (gnV bad bs).1 = true) : bad = false ∧ bs = textI (gnV bad bs).1 ++ gnB bad bs := by
  have h1 : gbX bad bs = false := by
    cases hx : gbX bad bs
    · rfl
    · unfold gnX at h; rw [hx, tk_bad_stays] at h; cases h
  obtain ⟨h2, h3⟩ := gb_one h1
  refine ⟨h2, ?_⟩
  have h4 := one_tk h
  have h5 : (parseI (gnS bad bs)).2 = true := by
    cases hp : (parseI (gnS bad bs)).2
    · have hz : (parseI (gnS bad bs)).1 = zer 33 := by
        unfold gnS at hp ⊢
        rw [parseI_cons] at hp ⊢
        split at hp
        · cases hp
        · rename_i hn; rw [if_neg hn]
      have : goodI (gnV bad bs).1 = goodI (zer 33) := by
        show goodI (parseI (gnS bad bs)).1 = _
        rw [hz]
      rw [this, good_zero] at hg
      cases hg
    · rfl
  have h6 : textI (gnV bad bs).1 = gnS bad bs := (text_parse _ h5).1
  rw [h6]
  unfold gnS gnB
  rw [List.cons_append, h4, ← h3]

/-! ### What the document reads of a name -/

def fnBad (bs : List UInt8) : Prop := bs = [] ∨ sizeI (bs.headD 0) = 0 ∨ bs.length < 1 + sizeI (bs.headD 0)
instance (bs : List UInt8) : Decidable (fnBad bs) := by unfold fnBad; infer_instance
def fnX (bs : List UInt8) : Bool := decide (fnBad bs)
def fnB (bs : List UInt8) : List UInt8 := if fnBad bs then [] else bs.drop (1 + sizeI (bs.headD 0))
def fnV (bs : List UInt8) : Idn := if fnBad bs then idZ else idP (bs.take (1 + sizeI (bs.headD 0)))
theorem sane_fn (bs : List UInt8) : Sane (fnX bs) (fnB bs) := fun h => if_pos (of_decide_eq_true h)
theorem fn_len (bs : List UInt8) : (fnB bs).length ≤ bs.length := by unfold fnB; split <;> simp
theorem fn_nil : fnX [] = true := decide_eq_true (.inl rfl)
theorem fn_text {i : Idn} (h : goodI i.1 = true) (t : List UInt8) : fnV (textI i.1 ++ t) = i ∧ fnB (textI i.1 ++ t) = t ∧ fnX (textI i.1 ++ t) = false := by
  obtain ⟨s, e, hs, h0, _⟩ := textI_good h
  have hp := idP_text h
  have hn : ¬ fnBad (textI i.1 ++ t) := by
    rw [e]
    unfold fnBad
    simp only [List.cons_append, List.headD_cons, List.length_cons, List.length_append]
    rintro (h | h | h)
    · cases h
    · omega
    · omega
  have hl : (textI i.1).length = 1 + sizeI (kd i) := by rw [e, List.length_cons, hs]; omega
  have hd : (textI i.1 ++ t).headD 0 = kd i := by rw [e]; rfl
  unfold fnV fnB fnX
  rw [if_neg hn, if_neg hn, decide_eq_false hn, hd, ← hl, List.take_left, List.drop_left, hp]
  exact ⟨rfl, rfl, rfl⟩
theorem fn_one {bs : List UInt8} (h : fnX bs = false) : goodI (fnV bs).1 = true ∧ bs = textI (fnV bs).1 ++ fnB bs := by
  have hn : ¬ fnBad bs := of_decide_eq_false h
  unfold fnV fnB
  rw [if_neg hn, if_neg hn]
  cases bs with
  | nil => exact absurd (.inl rfl) hn
  | cons c r =>
    have h1 : sizeI c ≠ 0 := fun e => hn (.inr (.inl e))
    have h2 : sizeI c ≤ r.length := by
      have : ¬ (c :: r).length < 1 + sizeI c := fun e => hn (.inr (.inr e))
      simp only [List.length_cons] at this
      omega
    have h3 : (c :: r).take (1 + sizeI c) = c :: r.take (sizeI c) := by rw [Nat.add_comm]; rfl
    have h4 : (parseI (c :: r.take (sizeI c))).2 = true := by
      rw [parseI_cons, if_pos ⟨by omega, by rw [List.length_take]; omega⟩]
    show goodI (idP ((c :: r).take (1 + sizeI c))).1 = true ∧ c :: r = textI (idP ((c :: r).take (1 + sizeI c))).1 ++ (c :: r).drop (1 + sizeI c)
    rw [h3]
    have h5 := text_parse _ h4
    refine ⟨h5.2, ?_⟩
    show c :: r = textI (parseI (c :: r.take (sizeI c))).1 ++ _
    rw [h5.1, ← h3, List.take_append_drop]

end Go.Proofs.YthbahbcihaebeaaDoor.Cd

/-
  Trees and commits: what can be, their bytes, what is read from bytes: no Go in sight. Conditions: none.
-/
namespace Go.Proofs.YthbahbcihaebeaaDoor.Cd

theorem snoc_ind {α : Type} {motive : List α → Prop} (nil : motive []) (snoc : ∀ r p, motive r → motive (r ++ [p])) (l : List α) : motive l := by
  have h : ∀ n (l : List α), l.length = n → motive l := by
    intro n
    induction n with
    | zero => intro l hl; rw [List.eq_nil_of_length_eq_zero hl]; exact nil
    | succ n ih =>
      intro l hl
      have hne : l ≠ [] := fun e => by rw [e] at hl; cases hl
      rw [← List.dropLast_concat_getLast hne]
      exact snoc _ _ (ih _ (by rw [List.length_dropLast, hl]; rfl))
  exact h _ l rfl

abbrev Bp := List UInt8 × List UInt8
abbrev Kd := List UInt8 × Idn

def Rises (ks : List (List UInt8)) : Prop := ∀ (j : Nat) a b, ks[j]? = some a → ks[j + 1]? = some b → a < b

structure GoodPs (ps : List Bp) : Prop where
  few : ps.length ≤ 4
  key : ∀ p ∈ ps, p.1.length ≤ 16
  val : ∀ p ∈ ps, p.2.length ≤ 16
  rise : Rises (ps.map (·.1))
structure GoodKs (ks : List Kd) : Prop where
  more : 2 ≤ ks.length
  few : ks.length ≤ 3
  key : ∀ p ∈ ks, p.1.length ≤ 16
  name : ∀ p ∈ ks, goodI p.2.1 = true
  kind : ∀ p ∈ ks, ∀ q, ks[0]? = some q → kd p.2 = kd q.2
  rise : Rises (ks.map (·.1))
structure GoodIs (r : UInt8) (is : List Idn) : Prop where
  few : is.length ≤ 2
  name : ∀ p ∈ is, goodI p.1 = true
  kind : ∀ p ∈ is, kd p = r
  two : ∀ a b, is[0]? = some a → is[1]? = some b → a ≠ b

structure Tre where
  ps : List Bp
  ks : List Kd
structure Cmt where
  root : Idn
  is : List Idn
  note : List UInt8
  num : Int

def GoodT (t : Tre) : Prop := (t.ks = [] ∧ GoodPs t.ps) ∨ (t.ps = [] ∧ GoodKs t.ks)
structure GoodC (c : Cmt) : Prop where
  root : goodI c.root.1 = true
  is : GoodIs (kd c.root) c.is
  note : c.note.length ≤ 32
  low : 1 ≤ c.num
  high : c.num ≤ 1024

def psB (ps : List Bp) : List UInt8 := (ps.map fun p => txt p.1 ++ txt p.2).flatten
def ksB (ks : List Kd) : List UInt8 := (ks.map fun p => txt p.1 ++ textI p.2.1).flatten
def isB (is : List Idn) : List UInt8 := (is.map fun p => textI p.1).flatten
theorem psB_snoc (ps : List Bp) (p : Bp) : psB (ps ++ [p]) = psB ps ++ (txt p.1 ++ txt p.2) := by simp [psB]
theorem ksB_snoc (ks : List Kd) (p : Kd) : ksB (ks ++ [p]) = ksB ks ++ (txt p.1 ++ textI p.2.1) := by simp [ksB]
theorem isB_snoc (is : List Idn) (p : Idn) : isB (is ++ [p]) = isB is ++ textI p.1 := by simp [isB]

def treeB (t : Tre) : List UInt8 := if t.ks = [] then 1 :: UInt8.ofNat t.ps.length :: psB t.ps else 2 :: UInt8.ofNat t.ks.length :: ksB t.ks
def comB (c : Cmt) : List UInt8 := 3 :: UInt8.ofNat c.is.length :: (textI c.root.1 ++ (isB c.is ++ (txt c.note ++ enc (zig c.num))))

/-! ### The program's rounds: pairs -/

structure StP where
  l : List Bp
  bs : List UInt8
  bad : Bool
def nxP (s : StP) : StP := ⟨s.l ++ [(txV 16 s.bs, txV 16 (txB 16 s.bs))], txB 16 (txB 16 s.bs), txX 16 (txB 16 s.bs)⟩
def atP (s : StP) : Nat → StP
  | 0 => s
  | k + 1 => nxP (atP s k)
theorem sane_atP {s : StP} (h : Sane s.bad s.bs) (k : Nat) : Sane (atP s k).bad (atP s k).bs := by
  cases k with
  | zero => exact h
  | succ k => exact Sane.tx _ _
theorem len_atP (s : StP) (k : Nat) : (atP s k).l.length = s.l.length + k ∧ (atP s k).bs.length ≤ s.bs.length := by
  induction k with
  | zero => exact ⟨rfl, Nat.le_refl _⟩
  | succ k ih =>
    refine ⟨?_, Nat.le_trans (Nat.le_trans (txB_len _ _) (txB_len _ _)) ih.2⟩
    rw [atP, nxP]
    simp only [List.length_append, List.length_singleton, ih.1]
    omega
theorem bad_nxP {s : StP} (hs : Sane s.bad s.bs) (h : s.bad = true) : (nxP s).bad = true := by
  have := hs h
  unfold nxP
  rw [this]
  simp [txB_nil, txX_nil]
theorem bad_atP {s : StP} (hs : Sane s.bad s.bs) {j k : Nat} (h : (atP s j).bad = true) (hk : j ≤ k) : (atP s k).bad = true := by
  induction k with
  | zero => obtain rfl : j = 0 := by omega
            exact h
  | succ k ih =>
    by_cases e : j = k + 1
    · subst e; exact h
    · exact bad_nxP (sane_atP hs k) (ih (by omega))
/-- What is read is as it is written. -/
theorem one_atP {s : StP} (hs : Sane s.bad s.bs) (hl : s.l = []) (k : Nat) (h : (atP s k).bad = false) : s.bs = psB (atP s k).l ++ (atP s k).bs := by
  induction k with
  | zero => rw [atP, hl]; rfl
  | succ k ih =>
    have hb : (atP s k).bad = false := by
      cases hx : (atP s k).bad
      · rfl
      · rw [bad_atP hs hx (Nat.le_succ k)] at h; cases h
    rw [ih hb]
    rw [atP] at h ⊢
    generalize atP s k = q at *
    unfold nxP at h ⊢
    simp only at h ⊢
    rw [psB_snoc]
    have e1 := txt_one (txX_next h)
    have e2 := txt_one h
    rw [List.append_assoc, List.append_assoc, e2, e1]
/-- What is written is read. -/
theorem back_atP (ps : List Bp) (hk : ∀ p ∈ ps, p.1.length ≤ 16) (hv : ∀ p ∈ ps, p.2.length ≤ 16) (t : List UInt8) (l : List Bp) : atP ⟨l, psB ps ++ t, false⟩ ps.length = ⟨l ++ ps, t, false⟩ := by
  induction ps using snoc_ind generalizing t with
  | nil => simp [atP, psB]
  | snoc r p ih =>
    have h1 := ih (fun q hq => hk q (by simp [hq])) (fun q hq => hv q (by simp [hq])) (txt p.1 ++ (txt p.2 ++ t))
    have hk1 := hk p (by simp)
    have hv1 := hv p (by simp)
    have e : psB (r ++ [p]) ++ t = psB r ++ (txt p.1 ++ (txt p.2 ++ t)) := by rw [psB_snoc]; simp only [List.append_assoc]
    rw [e, List.length_append, List.length_singleton, atP, h1]
    unfold nxP
    simp only
    rw [txmV _ _ (by omega) (by omega), txmB _ _ (by omega) (by omega), txmV _ _ (by omega) (by omega), txmB _ _ (by omega) (by omega), txmX _ _ (by omega) (by omega)]
    simp

/-! ### The program's rounds: kids -/

structure StK where
  l : List Kd
  bs : List UInt8
  bad : Bool
def nxK (s : StK) : StK := ⟨s.l ++ [(txV 16 s.bs, gnV (txX 16 s.bs) (txB 16 s.bs))], gnB (txX 16 s.bs) (txB 16 s.bs), gnX (txX 16 s.bs) (txB 16 s.bs)⟩
def atK (s : StK) : Nat → StK
  | 0 => s
  | k + 1 => nxK (atK s k)
theorem sane_atK {s : StK} (h : Sane s.bad s.bs) (k : Nat) : Sane (atK s k).bad (atK s k).bs := by
  cases k with
  | zero => exact h
  | succ k => exact sane_gn _ _
theorem len_atK (s : StK) (k : Nat) : (atK s k).l.length = s.l.length + k ∧ (atK s k).bs.length ≤ s.bs.length := by
  induction k with
  | zero => exact ⟨rfl, Nat.le_refl _⟩
  | succ k ih =>
    refine ⟨?_, Nat.le_trans (Nat.le_trans (gn_len _ _) (txB_len _ _)) ih.2⟩
    rw [atK, nxK]
    simp only [List.length_append, List.length_singleton, ih.1]
    omega
theorem bad_nxK {s : StK} (hs : Sane s.bad s.bs) (h : s.bad = true) : (nxK s).bad = true := by
  have := hs h
  unfold nxK
  rw [this]
  simp only [txX_nil]
  exact gn_bad _
theorem bad_atK {s : StK} (hs : Sane s.bad s.bs) {j k : Nat} (h : (atK s j).bad = true) (hk : j ≤ k) : (atK s k).bad = true := by
  induction k with
  | zero => obtain rfl : j = 0 := by omega
            exact h
  | succ k ih =>
    by_cases e : j = k + 1
    · subst e; exact h
    · exact bad_nxK (sane_atK hs k) (ih (by omega))
theorem one_atK {s : StK} (hs : Sane s.bad s.bs) (hl : s.l = []) (k : Nat) (h : (atK s k).bad = false) (hg : ∀ p ∈ (atK s k).l, goodI p.2.1 = true) : s.bs = ksB (atK s k).l ++ (atK s k).bs := by
  induction k with
  | zero => rw [atK, hl]; rfl
  | succ k ih =>
    have hb : (atK s k).bad = false := by
      cases hx : (atK s k).bad
      · rfl
      · rw [bad_atK hs hx (Nat.le_succ k)] at h; cases h
    rw [atK] at h hg ⊢
    rw [ih hb (fun p hp => hg p (by unfold nxK; simp [hp]))]
    generalize atK s k = q at *
    unfold nxK at h hg ⊢
    simp only at h hg ⊢
    have hg1 := hg (txV 16 q.bs, gnV (txX 16 q.bs) (txB 16 q.bs)) (by simp)
    obtain ⟨h1, h2⟩ := gn_one h hg1
    rw [ksB_snoc]
    have e1 := txt_one h1
    rw [List.append_assoc, List.append_assoc, ← h2, e1]
theorem back_atK (ks : List Kd) (hk : ∀ p ∈ ks, p.1.length ≤ 16) (hv : ∀ p ∈ ks, goodI p.2.1 = true) (t : List UInt8) (l : List Kd) : atK ⟨l, ksB ks ++ t, false⟩ ks.length = ⟨l ++ ks, t, false⟩ := by
  induction ks using snoc_ind generalizing t with
  | nil => simp [atK, ksB]
  | snoc r p ih =>
    have h1 := ih (fun q hq => hk q (by simp [hq])) (fun q hq => hv q (by simp [hq])) (txt p.1 ++ (textI p.2.1 ++ t))
    have hk1 := hk p (by simp)
    obtain ⟨g1, g2, g3⟩ := gn_text (hv p (by simp)) t
    have e : ksB (r ++ [p]) ++ t = ksB r ++ (txt p.1 ++ (textI p.2.1 ++ t)) := by rw [ksB_snoc]; simp only [List.append_assoc]
    rw [e, List.length_append, List.length_singleton, atK, h1]
    unfold nxK
    simp only
    rw [txmV _ _ (by omega) (by omega), txmB _ _ (by omega) (by omega), txmX _ _ (by omega) (by omega), g1, g2, g3]
    simp

/-! ### The program's rounds: parents -/

structure StI where
  l : List Idn
  bs : List UInt8
  bad : Bool
def nxI (s : StI) : StI := ⟨s.l ++ [gnV s.bad s.bs], gnB s.bad s.bs, gnX s.bad s.bs⟩
def atI (s : StI) : Nat → StI
  | 0 => s
  | k + 1 => nxI (atI s k)
theorem sane_atI {s : StI} (h : Sane s.bad s.bs) (k : Nat) : Sane (atI s k).bad (atI s k).bs := by
  cases k with
  | zero => exact h
  | succ k => exact sane_gn _ _
theorem len_atI (s : StI) (k : Nat) : (atI s k).l.length = s.l.length + k ∧ (atI s k).bs.length ≤ s.bs.length := by
  induction k with
  | zero => exact ⟨rfl, Nat.le_refl _⟩
  | succ k ih =>
    refine ⟨?_, Nat.le_trans (gn_len _ _) ih.2⟩
    rw [atI, nxI]
    simp only [List.length_append, List.length_singleton, ih.1]
    omega
theorem bad_nxI {s : StI} (h : s.bad = true) : (nxI s).bad = true := by
  show gnX s.bad s.bs = true
  rw [h]
  exact gn_bad _
theorem bad_atI {s : StI} {j k : Nat} (h : (atI s j).bad = true) (hk : j ≤ k) : (atI s k).bad = true := by
  induction k with
  | zero => obtain rfl : j = 0 := by omega
            exact h
  | succ k ih =>
    by_cases e : j = k + 1
    · subst e; exact h
    · exact bad_nxI (ih (by omega))
theorem one_atI {s : StI} (hl : s.l = []) (k : Nat) (h : (atI s k).bad = false) (hg : ∀ p ∈ (atI s k).l, goodI p.1 = true) : s.bs = isB (atI s k).l ++ (atI s k).bs := by
  induction k with
  | zero => rw [atI, hl]; rfl
  | succ k ih =>
    have hb : (atI s k).bad = false := by
      cases hx : (atI s k).bad
      · rfl
      · rw [bad_atI hx (Nat.le_succ k)] at h; cases h
    rw [atI] at h hg ⊢
    rw [ih hb (fun p hp => hg p (by unfold nxI; simp [hp]))]
    generalize atI s k = q at *
    unfold nxI at h hg ⊢
    simp only at h hg ⊢
    obtain ⟨_, h2⟩ := gn_one h (hg (gnV q.bad q.bs) (by simp))
    rw [isB_snoc, List.append_assoc, ← h2]
theorem back_atI (is : List Idn) (hv : ∀ p ∈ is, goodI p.1 = true) (t : List UInt8) (l : List Idn) : atI ⟨l, isB is ++ t, false⟩ is.length = ⟨l ++ is, t, false⟩ := by
  induction is using snoc_ind generalizing t with
  | nil => simp [atI, isB]
  | snoc r p ih =>
    have h1 := ih (fun q hq => hv q (by simp [hq])) (textI p.1 ++ t)
    obtain ⟨g1, g2, g3⟩ := gn_text (hv p (by simp)) t
    have e : isB (r ++ [p]) ++ t = isB r ++ (textI p.1 ++ t) := by rw [isB_snoc]; simp only [List.append_assoc]
    rw [e, List.length_append, List.length_singleton, atI, h1]
    unfold nxI
    simp only
    rw [g1, g2, g3]
    simp

end Go.Proofs.YthbahbcihaebeaaDoor.Cd

/-
  The tree, and the commit, of bytes: there is at most one. Conditions: none.
-/
namespace Go.Proofs.YthbahbcihaebeaaDoor.Cd

/-! ### Trees -/

theorem goodKs_ne {ks : List Kd} (h : GoodKs ks) : ks ≠ [] := fun e => by have := h.more; rw [e] at this; simp at this
theorem treeB_ps {t : Tre} (h : t.ks = []) : treeB t = 1 :: UInt8.ofNat t.ps.length :: psB t.ps := if_pos h
theorem treeB_ks {t : Tre} (h : GoodKs t.ks) : treeB t = 2 :: UInt8.ofNat t.ks.length :: ksB t.ks := if_neg (goodKs_ne h)

/-- What the program reads behind the first byte, where that is 1; where that is 2. -/
def rdP (b : List UInt8) : StP := atP ⟨[], gbB (gbX false b) (gbB false b), gbX (gbX false b) (gbB false b)⟩ (gbV (gbX false b) (gbB false b)).toNat
def rdK (b : List UInt8) : StK := atK ⟨[], gbB (gbX false b) (gbB false b), gbX (gbX false b) (gbB false b)⟩ (gbV (gbX false b) (gbB false b)).toNat

theorem two_bytes (c n : UInt8) (r : List UInt8) : gbV false (c :: n :: r) = c ∧ gbV (gbX false (c :: n :: r)) (gbB false (c :: n :: r)) = n ∧ gbB (gbX false (c :: n :: r)) (gbB false (c :: n :: r)) = r ∧ gbX (gbX false (c :: n :: r)) (gbB false (c :: n :: r)) = false := by
  obtain ⟨h1, h2, h3⟩ := gb_cons c (n :: r)
  obtain ⟨h4, h5, h6⟩ := gb_cons n r
  rw [h1, h2, h3, h4, h5, h6]
  exact ⟨rfl, rfl, rfl, rfl⟩
theorem ofNat_small {n : Nat} (h : n < 256) : (UInt8.ofNat n).toNat = n := by rw [UInt8.toNat_ofNat']; omega
theorem ofNat_toNat (c : UInt8) : UInt8.ofNat c.toNat = c := by simp
/-- Where a first byte was read that isn't 0, and the second one, too, these lead. -/
theorem lead {b : List UInt8} (h0 : gbV false b ≠ 0) (h1 : gbX (gbX false b) (gbB false b) = false) : b = gbV false b :: gbV (gbX false b) (gbB false b) :: gbB (gbX false b) (gbB false b) := by
  have hx : gbX false b = false := by
    cases b with
    | nil => exact absurd gb_nil.2.2 h0
    | cons c r => exact (gb_cons c r).2.2
  obtain ⟨_, h2⟩ := gb_one hx
  obtain ⟨_, h3⟩ := gb_one h1
  rw [← h3]
  exact h2

theorem rdP_of {t : Tre} (hk : t.ks = []) (h : GoodPs t.ps) : rdP (treeB t) = ⟨t.ps, [], false⟩ := by
  obtain ⟨_, h1, h2, h3⟩ := two_bytes 1 (UInt8.ofNat t.ps.length) (psB t.ps)
  unfold rdP
  have hf := h.few
  rw [treeB_ps hk, h1, h2, h3, ofNat_small (by omega)]
  have := back_atP t.ps h.key h.val [] []
  rw [List.append_nil] at this
  rw [this]
  rfl
theorem rdK_of {t : Tre} (h : GoodKs t.ks) : rdK (treeB t) = ⟨t.ks, [], false⟩ := by
  obtain ⟨_, h1, h2, h3⟩ := two_bytes 2 (UInt8.ofNat t.ks.length) (ksB t.ks)
  unfold rdK
  have hf := h.few
  rw [treeB_ks h, h1, h2, h3, ofNat_small (by omega)]
  have := back_atK t.ks h.key h.name [] []
  rw [List.append_nil] at this
  rw [this]
  rfl
theorem treeB_inj {s t : Tre} (hs : GoodT s) (ht : GoodT t) (h : treeB s = treeB t) : s = t := by
  obtain ⟨sp, sk⟩ := s
  obtain ⟨tp, tk⟩ := t
  rcases hs with ⟨h1, h2⟩ | ⟨h1, h2⟩
  · rcases ht with ⟨h3, h4⟩ | ⟨h3, h4⟩
    · have e1 := rdP_of h1 h2
      rw [h, rdP_of h3 h4] at e1
      injection e1 with e1
      simp only at h1 h3 e1
      rw [h1, h3, e1]
    · rw [treeB_ps h1, treeB_ks h4] at h
      injection h with h
      cases h
  · rcases ht with ⟨h3, h4⟩ | ⟨h3, h4⟩
    · rw [treeB_ps h3, treeB_ks h2] at h
      injection h with h
      cases h
    · have e1 := rdK_of h2
      rw [h, rdK_of h4] at e1
      injection e1 with e1
      simp only at h1 h3 e1
      rw [h1, h3, e1]

/-- The tree of bytes, if there is one. -/
def GetsT (b : List UInt8) (o : Option Tre) : Prop := ∀ t, o = some t ↔ GoodT t ∧ treeB t = b
theorem getT_some {b : List UInt8} {t : Tre} (h : GoodT t) (e : treeB t = b) : GetsT b (some t) := fun s => by
  constructor
  · intro hs
    injection hs with hs
    subst hs
    exact ⟨h, e⟩
  · rintro ⟨h1, h2⟩
    exact congrArg some (treeB_inj h h1 (e.trans h2.symm))
theorem getT_none {b : List UInt8} (h : ∀ t, GoodT t → treeB t ≠ b) : GetsT b none := fun s => by
  constructor
  · intro hs
    cases hs
  · rintro ⟨h1, h2⟩
    exact absurd h2 (h s h1)
theorem getT_is {b : List UInt8} {t : Tre} (h : GetsT b (some t)) : GoodT t ∧ treeB t = b := (h t).1 rfl
theorem getT_uniq {b : List UInt8} {o p : Option Tre} (h : GetsT b o) (k : GetsT b p) : o = p := by
  cases o with
  | none =>
    cases p with
    | none => rfl
    | some s => exact absurd ((h s).2 ((k s).1 rfl)) (by simp)
  | some t => exact ((k t).2 ((h t).1 rfl)).symm

theorem getT_ps {b : List UInt8} (h1 : gbV false b = 1) (hb : (rdP b).bad = false) (hn : (rdP b).bs = []) (hg : GoodPs (rdP b).l) : GetsT b (some ⟨(rdP b).l, []⟩) := by
  refine getT_some (.inl ⟨rfl, hg⟩) ?_
  have hx : gbX (gbX false b) (gbB false b) = false := by
    cases hx : gbX (gbX false b) (gbB false b)
    · rfl
    · have : (rdP b).bad = true := bad_atP (sane_gb _ _) (j := 0) hx (Nat.zero_le _)
      rw [this] at hb
      cases hb
  have hl := lead (by rw [h1]; decide) hx
  have ho := one_atP (sane_gb _ _) rfl _ hb
  have hlen := (len_atP ⟨[], gbB (gbX false b) (gbB false b), gbX (gbX false b) (gbB false b)⟩ (gbV (gbX false b) (gbB false b)).toNat).1
  rw [treeB_ps rfl]
  unfold rdP at hn ⊢
  rw [hn, List.append_nil] at ho
  simp only [List.length_nil, Nat.zero_add] at ho hlen ⊢
  rw [hlen, ofNat_toNat, ← ho]
  rw [h1] at hl
  exact hl.symm
theorem getT_nops {b : List UInt8} (h1 : gbV false b = 1) (hn : ¬ ((rdP b).bad = false ∧ (rdP b).bs = [] ∧ GoodPs (rdP b).l)) : GetsT b none := by
  refine getT_none fun t ht e => ?_
  rcases ht with ⟨h3, h4⟩ | ⟨h3, h4⟩
  · have := rdP_of h3 h4
    rw [e] at this
    rw [this] at hn
    exact hn ⟨rfl, rfl, h4⟩
  · have := (two_bytes 2 (UInt8.ofNat t.ks.length) (ksB t.ks)).1
    rw [← treeB_ks h4, e, h1] at this
    cases this
theorem getT_ks {b : List UInt8} (h1 : gbV false b = 2) (hb : (rdK b).bad = false) (hn : (rdK b).bs = []) (hg : GoodKs (rdK b).l) : GetsT b (some ⟨[], (rdK b).l⟩) := by
  refine getT_some (.inr ⟨rfl, hg⟩) ?_
  have hx : gbX (gbX false b) (gbB false b) = false := by
    cases hx : gbX (gbX false b) (gbB false b)
    · rfl
    · have : (rdK b).bad = true := bad_atK (sane_gb _ _) (j := 0) hx (Nat.zero_le _)
      rw [this] at hb
      cases hb
  have hl := lead (by rw [h1]; decide) hx
  have ho := one_atK (sane_gb _ _) rfl _ hb hg.name
  have hlen := (len_atK ⟨[], gbB (gbX false b) (gbB false b), gbX (gbX false b) (gbB false b)⟩ (gbV (gbX false b) (gbB false b)).toNat).1
  rw [treeB_ks hg]
  unfold rdK at hn ⊢
  rw [hn, List.append_nil] at ho
  simp only [List.length_nil, Nat.zero_add] at ho hlen ⊢
  rw [hlen, ofNat_toNat, ← ho]
  rw [h1] at hl
  exact hl.symm
theorem getT_noks {b : List UInt8} (h1 : gbV false b = 2) (hn : ¬ ((rdK b).bad = false ∧ (rdK b).bs = [] ∧ GoodKs (rdK b).l)) : GetsT b none := by
  refine getT_none fun t ht e => ?_
  rcases ht with ⟨h3, h4⟩ | ⟨h3, h4⟩
  · have := (two_bytes 1 (UInt8.ofNat t.ps.length) (psB t.ps)).1
    rw [← treeB_ps h3, e, h1] at this
    cases this
  · have := rdK_of h4
    rw [e] at this
    rw [this] at hn
    exact hn ⟨rfl, rfl, h4⟩
theorem getT_else {b : List UInt8} (h1 : gbV false b ≠ 1) (h2 : gbV false b ≠ 2) : GetsT b none := by
  refine getT_none fun t ht e => ?_
  rcases ht with ⟨h3, h4⟩ | ⟨h3, h4⟩
  · have := (two_bytes 1 (UInt8.ofNat t.ps.length) (psB t.ps)).1
    rw [← treeB_ps h3, e] at this
    exact h1 this
  · have := (two_bytes 2 (UInt8.ofNat t.ks.length) (ksB t.ks)).1
    rw [← treeB_ks h4, e] at this
    exact h2 this

/-! ### Commits -/

def rd0 (b : List UInt8) : StI := ⟨[], gnB (gbX (gbX false b) (gbB false b)) (gbB (gbX false b) (gbB false b)), gnX (gbX (gbX false b) (gbB false b)) (gbB (gbX false b) (gbB false b))⟩
def rdR (b : List UInt8) : Idn := gnV (gbX (gbX false b) (gbB false b)) (gbB (gbX false b) (gbB false b))
def rdI (b : List UInt8) : StI := atI (rd0 b) (gbV (gbX false b) (gbB false b)).toNat
def rdN (b : List UInt8) : List UInt8 := txV 32 (rdI b).bs
/-- The commit that the program reads, what is left, whether something was wrong. -/
def rdC (b : List UInt8) : Cmt := ⟨rdR b, (rdI b).l, rdN b, inV 1 1024 (txB 32 (rdI b).bs)⟩
def rdB (b : List UInt8) : List UInt8 := inB 1 1024 (txB 32 (rdI b).bs)
def rdX (b : List UInt8) : Bool := inX 1 1024 (txB 32 (rdI b).bs)

theorem in_some {z : Int} (t : List UInt8) (h0 : 1 ≤ z) (h1 : z ≤ 1024) : inV 1 1024 (enc (zig z) ++ t) = z ∧ inB 1 1024 (enc (zig z) ++ t) = t ∧ inX 1 1024 (enc (zig z) ++ t) = false := by
  have hz : zig z < 18446744073709551616 := zig_lt (by omega) (by omega)
  have hn : ¬ InBad 1 1024 (enc (zig z) ++ t) := by
    unfold InBad
    rw [nv_enc hz, zag_zig]
    rintro (h | h | h)
    · exact enc_good hz _ h
    · omega
    · omega
  unfold inV inB inX
  rw [if_neg hn, if_neg hn, decide_eq_false hn, nv_enc hz, zag_zig, ns_enc hz, List.drop_left]
  exact ⟨rfl, rfl, rfl⟩
theorem inX_nil : inX 1 1024 [] = true := decide_eq_true (.inl bad_nil)

theorem rdC_of {c : Cmt} (h : GoodC c) : rdC (comB c) = c ∧ rdB (comB c) = [] ∧ rdX (comB c) = false := by
  obtain ⟨r, is, note, num⟩ := c
  have hr := h.root
  have hi := h.is
  have hn := h.note
  have h0 := h.low
  have h1 := h.high
  simp only at hr hi hn h0 h1
  obtain ⟨_, g1, g2, g3⟩ := two_bytes 3 (UInt8.ofNat is.length) (textI r.1 ++ (isB is ++ (txt note ++ enc (zig num))))
  have hf := hi.few
  obtain ⟨a1, a2, a3⟩ := gn_text hr (isB is ++ (txt note ++ enc (zig num)))
  have e : comB ⟨r, is, note, num⟩ = 3 :: UInt8.ofNat is.length :: (textI r.1 ++ (isB is ++ (txt note ++ enc (zig num)))) := rfl
  have hR : rdR (comB ⟨r, is, note, num⟩) = r := by unfold rdR; rw [e, g2, g3, a1]
  have h00 : rd0 (comB ⟨r, is, note, num⟩) = ⟨[], isB is ++ (txt note ++ enc (zig num)), false⟩ := by unfold rd0; rw [e, g2, g3, a2, a3]
  have hI : rdI (comB ⟨r, is, note, num⟩) = ⟨is, txt note ++ enc (zig num), false⟩ := by
    unfold rdI
    rw [h00, e, g1, ofNat_small (by omega), back_atI is hi.name]
    rfl
  have t1 := txmV (most := 32) (enc (zig num)) note (by omega) (by omega)
  have t2 := txmB (most := 32) (enc (zig num)) note (by omega) (by omega)
  obtain ⟨i1, i2, i3⟩ := in_some [] h0 h1
  rw [List.append_nil] at i1 i2 i3
  unfold rdC rdB rdX rdN
  rw [hR, hI]
  simp only
  rw [t1, t2, i1, i2, i3]
  exact ⟨rfl, rfl, rfl⟩
theorem comB_inj {c d : Cmt} (hc : GoodC c) (hd : GoodC d) (h : comB c = comB d) : c = d := by
  rw [← (rdC_of hc).1, h, (rdC_of hd).1]

/-- The commit of bytes, if there is one. -/
def GetsC (b : List UInt8) (o : Option Cmt) : Prop := ∀ t, o = some t ↔ GoodC t ∧ comB t = b
theorem getC_some {b : List UInt8} {t : Cmt} (h : GoodC t) (e : comB t = b) : GetsC b (some t) := fun s => by
  constructor
  · intro hs
    injection hs with hs
    subst hs
    exact ⟨h, e⟩
  · rintro ⟨h1, h2⟩
    exact congrArg some (comB_inj h h1 (e.trans h2.symm))
theorem getC_none {b : List UInt8} (h : ∀ t, GoodC t → comB t ≠ b) : GetsC b none := fun s => by
  constructor
  · intro hs
    cases hs
  · rintro ⟨h1, h2⟩
    exact absurd h2 (h s h1)
theorem getC_is {b : List UInt8} {t : Cmt} (h : GetsC b (some t)) : GoodC t ∧ comB t = b := (h t).1 rfl
theorem getC_uniq {b : List UInt8} {o p : Option Cmt} (h : GetsC b o) (k : GetsC b p) : o = p := by
  cases o with
  | none =>
    cases p with
    | none => rfl
    | some s => exact absurd ((h s).2 ((k s).1 rfl)) (by simp)
  | some t => exact ((k t).2 ((h t).1 rfl)).symm

theorem getC_else {b : List UInt8} (h1 : gbV false b ≠ 3) : GetsC b none := by
  refine getC_none fun t _ e => ?_
  have := (two_bytes 3 (UInt8.ofNat t.is.length) (textI t.root.1 ++ (isB t.is ++ (txt t.note ++ enc (zig t.num))))).1
  exact h1 (by rw [← e]; exact this)
theorem getC_no {b : List UInt8} (hn : ¬ (rdX b = false ∧ rdB b = [] ∧ GoodC (rdC b))) : GetsC b none := by
  refine getC_none fun t ht e => ?_
  obtain ⟨h1, h2, h3⟩ := rdC_of ht
  rw [e] at h1 h2 h3
  exact hn ⟨h3, h2, by rw [h1]; exact ht⟩
theorem getC_yes {b : List UInt8} (h1 : gbV false b = 3) (hb : rdX b = false) (hn : rdB b = []) (hg : GoodC (rdC b)) : GetsC b (some (rdC b)) := by
  refine getC_some hg ?_
  have hin : enc (zig (inV 1 1024 (txB 32 (rdI b).bs))) = txB 32 (rdI b).bs := by
    have := one_in hb
    have hn' : inB 1 1024 (txB 32 (rdI b).bs) = [] := hn
    rw [hn', List.append_nil] at this
    exact this
  have hx1 : txX 32 (rdI b).bs = false := by
    cases hx : txX 32 (rdI b).bs
    · rfl
    · have h2 : rdX b = true := by
        unfold rdX
        rw [Sane.tx 32 _ hx]
        exact inX_nil
      rw [h2] at hb
      cases hb
  have htx := txt_one hx1
  have hxI : (rdI b).bad = false := by
    cases hx : (rdI b).bad
    · rfl
    · have h3 : (rdI b).bs = [] := sane_atI (s := rd0 b) (sane_gn _ _) _ hx
      rw [h3, txX_nil] at hx1
      cases hx1
  have hoI := one_atI (s := rd0 b) rfl _ hxI hg.is.name
  have hx0 : (rd0 b).bad = false := by
    cases hx : (rd0 b).bad
    · rfl
    · have : (rdI b).bad = true := bad_atI (s := rd0 b) (j := 0) hx (Nat.zero_le _)
      rw [this] at hxI
      cases hxI
  obtain ⟨g1, g2⟩ := gn_one hx0 hg.root
  have hl := lead (by rw [h1]; decide) g1
  have hlen := (len_atI (rd0 b) (gbV (gbX false b) (gbB false b)).toNat).1
  have hlen2 : (rdI b).l.length = (gbV (gbX false b) (gbB false b)).toNat := by
    unfold rdI
    rw [hlen]
    simp [rd0]
  have e : comB (rdC b) = 3 :: UInt8.ofNat (rdI b).l.length :: (textI (rdR b).1 ++ (isB (rdI b).l ++ (txt (rdN b) ++ enc (zig (inV 1 1024 (txB 32 (rdI b).bs)))))) := rfl
  rw [e, hlen2, ofNat_toNat, hin]
  have e2 : txt (rdN b) ++ txB 32 (rdI b).bs = (rdI b).bs := htx
  rw [e2]
  have e3 : isB (rdI b).l ++ (rdI b).bs = (rd0 b).bs := hoI.symm
  rw [e3]
  have e4 : textI (rdR b).1 ++ (rd0 b).bs = gbB (gbX false b) (gbB false b) := g2.symm
  rw [e4]
  rw [h1] at hl
  exact hl.symm

/-- None is a tree's and a commit's. -/
theorem tree_not_com {t : Tre} {c : Cmt} (h : GoodT t) : treeB t ≠ comB c := by
  intro e
  rcases h with ⟨h3, h4⟩ | ⟨h3, h4⟩
  · rw [treeB_ps h3] at e
    injection e with e
    cases e
  · rw [treeB_ks h4] at e
    injection e with e
    cases e

end Go.Proofs.YthbahbcihaebeaaDoor.Cd

/-
  object.getByte, object.getName. Conditions: none.
-/
namespace Go.Proofs.YthbahbcihaebeaaDoor.Cd
open Go.RowKit

theorem Rd.on {w w' : World} {g : Nat} {bs : List UInt8} {bad : Bool} (h : Rd w g bs bad) (hb : Below w.heap.size w w') : Rd w' g bs bad := h.below hb h.lt
theorem Rd.other {w : World} {g : Nat} {bs : List UInt8} {bad : Bool} (h : Rd w g bs bad) (p : Addr) (u : Value) (hne : g ≠ p.block) : Rd (w.setCell p u) g bs bad := (heap_setCell_other _ _ _ _ hne).trans h
theorem Rd.far2 {w w' : World} {g g' : Nat} {bs : List UInt8} {bad : Bool} (h : Rd w g bs bad) (hg : w.grownBy w' (some g')) (hne : g ≠ g') : Rd w' g bs bad := (hg.block g h.lt (fun e => hne (by injection e))).trans h

theorem grown_on {w0 w w' : World} {r : Option Nat} (h : w0.grownBy w r) (hb : Below w.heap.size w w') : w0.grownBy w' r :=
  ⟨hb.os.trans h.os, hb.tape.trans h.tape, hb.output.trans h.output, Nat.le_trans h.size hb.size, fun k hk hn => (hb.block k (Nat.lt_of_lt_of_le hk h.size)).trans (h.block k hk hn)⟩
theorem grown_low {w0 w w' : World} {r : Option Nat} {B : Nat} (h : w0.grownBy w r) (hb : Below B w w') (hB : w0.heap.size ≤ B) : w0.grownBy w' r :=
  ⟨hb.os.trans h.os, hb.tape.trans h.tape, hb.output.trans h.output, Nat.le_trans h.size hb.size, fun k hk hn => (hb.block k (Nat.lt_of_lt_of_le hk hB)).trans (h.block k hk hn)⟩
theorem grown_of {w w' : World} (r : Option Nat) (hb : Below w.heap.size w w') : w.grownBy w' r := grown_on (show w.grownBy w r from ⟨rfl, rfl, rfl, Nat.le_refl _, fun _ _ _ => rfl⟩) hb
theorem grown_then {a b c : World} {r : Option Nat} (h : a.grownBy b r) (k : b.grownBy c r) : a.grownBy c r :=
  ⟨k.os.trans h.os, k.tape.trans h.tape, k.output.trans h.output, Nat.le_trans h.size k.size, fun i hi hn => (k.block i (Nat.lt_of_lt_of_le hi h.size) hn).trans (h.block i hi hn)⟩
theorem grown_new {w w1 w2 : World} {r : Option Nat} {q : Nat} (h : w.grownBy w1 r) (k : w1.grownBy w2 (some q)) (hq : w.heap.size ≤ q) : w.grownBy w2 r :=
  ⟨k.os.trans h.os, k.tape.trans h.tape, k.output.trans h.output, Nat.le_trans h.size k.size, fun i hi hn => (k.block i (Nat.lt_of_lt_of_le hi h.size) (fun e => by injection e with e; omega)).trans (h.block i hi hn)⟩

theorem new_below (w : World) (o : Obj) : Below w.heap.size w (w.alloc o) := (Below.refl _ _).alloc (Nat.le_refl _) _

set_option maxHeartbeats 400000 in
theorem getb_any (g : Nat) (bs : List UInt8) (bad : Bool) (w : World) (hr : Rd w g bs bad) (hbb : Sane bad bs) (hs : bs.length ≤ 140737488355328) :
    Calls Tryd.prog 42 #[.pointer (some ⟨g, 0, none⟩)] w (Ans (.int .u8 (gbV bad bs).toNat) w g (gbB bad bs) (gbX bad bs)) := by
  have ht := rtake_any g 1 bs bad w hr hbb hs
  have hV : Hid (gbV bad bs = (tkV bad 1 bs).headD 0) := rfl
  have hB : Hid (gbB bad bs = tkB bad 1 bs) := rfl
  have hX : Hid (gbX bad bs = tkX bad 1 bs) := rfl
  have hlen : (tkV bad 1 bs).length ≤ 1 := by
    unfold tkV
    split
    · simp
    · rw [List.length_take]; omega
  generalize tkV bad 1 bs = V at ht hV hlen
  have HT := Lib.hid ht
  clear ht hr hbb
  match V, hlen with
  | [], _ =>
    go_enter Tryd.func42, Tryd.ntmps42
    go_wp2_with (go_at_call 58; refine HT.out.mono ?_; rintro e w1 ⟨rfl, hl⟩)
    go_ret
    rw [hV.out, hB.out, hX.out]
    exact ⟨rfl, hl⟩
  | [c], _ =>
    have hix : ∀ h, (ByteArray.mk [c].toArray)[0]'h = c := fun _ => rfl
    go_enter Tryd.func42, Tryd.ntmps42
    go_wp2_with (go_at_call 58; refine HT.out.mono ?_; rintro e w1 ⟨rfl, hl⟩)
    go_ret
    rw [hV.out, hB.out, hX.out]
    exact ⟨rfl, hl⟩

set_option maxRecDepth 100000 in
set_option maxHeartbeats 1600000 in
theorem getn_any (g : Nat) (bs : List UInt8) (bad : Bool) (w : World) (hr : Rd w g bs bad) (hbb : Sane bad bs) (hs : bs.length ≤ 1000000) :
    Calls Tryd.prog 61 #[.pointer (some ⟨g, 0, none⟩)] w (Ans (idV (gnV bad bs).1) w g (gnB bad bs) (gnX bad bs)) := by
  have hg0 := hr.lt
  have h1 : Rd (w.alloc (.cells (vb (zer 33)).toArray 27)) g bs bad := hr.on (new_below _ _)
  have hi1 := IdAt.new w (zer 33)
  have hz1 : (w.alloc (.cells (vb (zer 33)).toArray 27)).heap.size = w.heap.size + 1 := asz _ _
  have hw1 : w.grownBy (w.alloc (.cells (vb (zer 33)).toArray 27)) (some g) := grown_of _ (new_below _ _)
  have hV : Hid ((gnV bad bs).1 = (parseI (gbV bad bs :: tkV (gbX bad bs) (sizeI (gbV bad bs)) (gbB bad bs))).1) := rfl
  have hB : Hid (gnB bad bs = tkB (gbX bad bs) (sizeI (gbV bad bs)) (gbB bad bs)) := rfl
  have hX : Hid (gnX bad bs = tkX (gbX bad bs) (sizeI (gbV bad bs)) (gbB bad bs)) := rfl
  have hgb := fun W h => getb_any g bs bad W h hbb (by omega)
  have hbs : (gbB bad bs).length ≤ 1000000 := Nat.le_trans (tkB_len _ _ _) hs
  have hsn := sane_gb bad bs
  generalize gbV bad bs = k at *
  generalize gbB bad bs = b1 at *
  generalize gbX bad bs = x1 at *
  have hsz := fun W => size_any k W
  have hle := sizeI_le k
  generalize sizeI k = n at *
  have htl := tkV_len x1 n b1
  have htk := fun W h => rtake_any g (n : Nat) b1 x1 W h hsn (by omega)
  generalize tkV x1 n b1 = s at *
  generalize tkB x1 n b1 = b2 at *
  generalize tkX x1 n b1 = x2 at *
  have HP := Lib.hid (fun W => parse_any (k :: s) W (by simp only [List.length_cons]; omega))
  have HPL := Lib.hid (parse_length (k :: s))
  have HG := Lib.hid hgb
  have HT := Lib.hid htk
  have HSZ := Lib.hid hsz
  have H1 := Lib.hid h1
  have HI1 := Lib.hid hi1
  have HW1 := Lib.hid hw1
  have HZ1 := Lib.hid hz1
  generalize parseI (k :: s) = P at HP HPL hV
  obtain ⟨pl, pb⟩ := P
  clear hgb htk hsz h1 hi1 hw1 hz1 hr hbb hsn
  go_enter Tryd.func61, Tryd.ntmps61
  go_wp2_with (refine wp_alloc_row zero_id rfl rfl ?_)
  generalize w.alloc (.cells (vb (zer 33)).toArray 27) = w1 at *
  refine (HG.out _ H1.out).mono ?_
  rintro e w2 ⟨rfl, hl2⟩
  have HR2 := Lib.hid hl2.1
  have HI2 : Hid (IdAt w2 w.heap.size (zer 33)) := (hl2.2.block _ (by have := HZ1.out; omega) (fun e => by injection e with e; omega)).trans HI1.out
  have HW2 := Lib.hid (grown_then HW1.out hl2.2)
  have hz2 : w.heap.size + 1 ≤ w2.heap.size := by have := hl2.2.size; have := HZ1.out; omega
  clear hl2
  go_wp2_with fail
  refine (HSZ.out _).mono ?_
  rintro e w3 ⟨rfl, rfl⟩
  go_wp2_with fail
  refine (HT.out _ HR2.out).mono ?_
  rintro e w4 ⟨rfl, hl4⟩
  have HR4 := Lib.hid hl4.1
  have HI4 : Hid (IdAt w4 w.heap.size (zer 33)) := (hl4.2.block _ (by omega) (fun e => by injection e with e; omega)).trans HI2.out
  have HW4 := Lib.hid (grown_then HW2.out hl4.2)
  have hz4 : w.heap.size + 1 ≤ w4.heap.size := by have := hl4.2.size; omega
  clear hl4
  have hcv := run_text_one (w4.alloc (.cells #[.int .u8 k.toNat] 5)) w4.heap.size 1 _ k rfl (by
    rw [cell_of_row _ _ _ _ _ _ (heap_alloc_new _ _)]
    rfl)
  have hadd := fun W => text_add W [k] s (by simp only [List.length_cons, List.length_nil]; omega)
  rw [show [k] ++ s = k :: s from rfl] at hadd
  go_wp2_with fail
  refine (HP.out _).mono ?_
  rintro e w5 ⟨rfl, hb5⟩
  have hb5' : Below w4.heap.size w4 w5 := (new_below _ _).trans (hb5.mono (by simp))
  have HR5 := Lib.hid (HR4.out.on hb5')
  have HI5 := Lib.hid (HI4.out.below hb5' (by omega))
  have HW5 := Lib.hid (grown_on HW4.out hb5')
  have hz5 : w.heap.size + 1 ≤ w5.heap.size := by have := hb5'.size; omega
  clear hb5 hb5' hcv hadd
  have HPL1 : Hid (pl.length = 33) := HPL.out
  go_wp2_with (first
    | (refine wp_alloc_row zero_id rfl rfl ?_)
    | (refine wp_fill_id rfl _ _ rfl rfl (by simp [Act.eval, Act.put]) pl HPL1.out rfl ?_)
    | (refine wp_load_id rfl _ rfl w5.heap.size rfl pl HPL1.out (IdAt.new w5 pl) ?_)
    | (refine wp_put_id rfl _ _ rfl w.heap.size rfl pl HPL1.out rfl (zer 33) (zer_length _) (HI5.out.below (new_below _ _) (by omega)) ?hK))
  intro w6 h6 hg6
  have hw6 : w.grownBy w6 (some g) := grown_new (grown_on HW5.out (new_below _ _)) hg6 (Nat.le_refl _)
  have hr6 : Rd w6 g b2 x2 := (HR5.out.on (new_below _ _)).far2 hg6 (by omega)
  go_wp2_with fail
  refine bodyPost_ret (v := idV pl) (ret_id Tryd.results61 _ _ w.heap.size pl HPL1.out rfl h6) rfl ?_
  rw [hV.out, hB.out, hX.out]
  exact ⟨rfl, hr6, hw6⟩

end Go.Proofs.YthbahbcihaebeaaDoor.Cd

/-
  IdentTurned answers true. Conditions: none.
-/
namespace Go.Proofs.YthbahbcihaebeaaDoor.Cd
open Go.RowKit

theorem be8_inj {n m : Nat} (hn : n < 18446744073709551616) (hm : m < 18446744073709551616) (h : be8 n = be8 m) : n = m := by
  have h8 : ∀ a b : Nat, UInt8.ofNat a = UInt8.ofNat b → a % 256 = b % 256 := fun a b e => by
    have := congrArg UInt8.toNat e
    simpa [UInt8.toNat_ofNat'] using this
  simp only [be8, List.cons.injEq, and_true] at h
  obtain ⟨h7, h6, h5, h4, h3, h2, h1, h0⟩ := h
  have e7 := h8 _ _ h7
  have e6 := h8 _ _ h6
  have e5 := h8 _ _ h5
  have e4 := h8 _ _ h4
  have e3 := h8 _ _ h3
  have e2 := h8 _ _ h2
  have e1 := h8 _ _ h1
  have e0 := h8 _ _ h0
  simp only [dn] at e7 e6 e5 e4 e3 e2 e1 e0
  omega

theorem pad32_eight (n : Nat) : pad32 (be8 n) = be8 n ++ zer 24 := rfl
theorem ofF_inj {a b : List UInt8} (h : ofF a = ofF b) : mor fnv0 a = mor fnv0 b := by
  unfold ofF at h
  rw [pad32_eight, pad32_eight] at h
  have e := congrArg (fun l => (l.drop 1).take 8) h
  refine be8_inj (mor_lt _ _ (by unfold fnv0; omega)) (mor_lt _ _ (by unfold fnv0; omega)) ?_
  simpa [be8] using e
theorem good_ofF (a : List UInt8) : goodI (ofF a) = true := by
  unfold ofF
  rw [good_iff 1 _ (pad32_length _)]
  refine ⟨by decide, fun j hj hn => ?_⟩
  rw [show sizeI 1 = 8 from rfl] at hn
  rw [pad32_length] at hj
  have e : (pad32 (be8 (mor fnv0 a)))[j]? = some 0 := by
    rw [pad32_eight, List.getElem?_append_right (by rw [be8_length]; omega), be8_length]
    have h24 : j - 8 < 24 := by omega
    unfold zer
    rw [List.getElem?_replicate, if_pos h24]
  rw [List.getElem?_eq_getElem (by rw [pad32_length]; omega)] at e
  exact Option.some.inj e
theorem text_ofF (a : List UInt8) : textI (ofF a) = 1 :: be8 (mor fnv0 a) := by
  have hg := good_ofF a
  unfold ofF at hg ⊢
  rw [textI_cons, hg, if_pos rfl, pad32_eight]
  rfl
theorem text_ofF_inj {a b : List UInt8} (h : textI (ofF a) = textI (ofF b)) : mor fnv0 a = mor fnv0 b := by
  rw [text_ofF, text_ofF] at h
  exact be8_inj (mor_lt _ _ (by unfold fnv0; omega)) (mor_lt _ _ (by unfold fnv0; omega)) (List.cons.inj h).2

theorem xor_byte (x c : UInt8) (y : UInt8) (hy : y = UInt8.ofNat (x.toNat ^^^ c.toNat)) : bits BinOp.xor IntKind.u8 (x.toNat : Int) (c.toNat : Int) = (y.toNat : Int) := by
  subst hy
  rw [u8_xor_nat _ _ x.toNat_lt c.toNat_lt, UInt8.toNat_ofNat']
  have : x.toNat ^^^ c.toNat < 256 := Nat.xor_lt_two_pow (n := 8) x.toNat_lt c.toNat_lt
  omega

theorem xor_other (x c : UInt8) (hc : c.toNat ≠ 0) : UInt8.ofNat (x.toNat ^^^ c.toNat) ≠ x := by
  intro h
  have h2 := congrArg UInt8.toNat h
  rw [UInt8.toNat_ofNat', Nat.mod_eq_of_lt (Nat.xor_lt_two_pow (n := 8) x.toNat_lt c.toNat_lt)] at h2
  have h3 := congrArg (fun z => x.toNat ^^^ z) h2
  simp [← Nat.xor_assoc] at h3
  exact hc (by rw [h3])

end Go.Proofs.YthbahbcihaebeaaDoor.Cd

namespace Go.Proofs.YthbahbcihaebeaaDoor.IdentTurned
open Go.RowKit Go.Proofs.YthbahbcihaebeaaDoor.Cd

end Go.Proofs.YthbahbcihaebeaaDoor.IdentTurned
