/-
  tree.Find in a tree of two storeys that a pool has. Conditions: none.
-/
import Derived.Test.YthbahbcihaebeaaDoorG13
import Derived.Test.YthbahbcihaebeaaDoorG14
import Derived.Test.YthbahbcihaebeaaDoorG15
import Derived.Test.YthbahbcihaebeaaDoorG5
import Derived.Test.YthbahbcihaebeaaDoorG20
import Derived.Carry
import Derived.OwnWalk
/-
  The maker of a tree's objects: add. Conditions: none.
-/
namespace Go.Proofs.YthbahbcihaebeaaDoor.Cd
open Go.RowKit

/-- An object: its name, its bytes. -/
abbrev Ob := Idn × List UInt8
def obC (o : Ob) : List Value := vb o.1.1 ++ [.string ⟨o.2.toArray⟩]
theorem obC_len (o : Ob) : (obC o).length = 34 := by simp [obC, vb_length, o.1.2]
theorem kind_ob : Kind obC 34 35 28 56 (.agg (vb (zer 33) ++ [Value.string ByteArray.empty]).toArray) where
  pos := by omega
  len := obC_len
  one := fun x u hu => by
    simp only [obC, List.mem_append, List.mem_singleton] at hu
    rcases hu with hu | rfl
    · exact vb_one _ u hu
    · rfl
  slice := Tryd.underlying28
  info := by kernel_rfl
  zero := by kernel_rfl
  few := by omega
/-- The maker's block: its hash, and what it has made. -/
def MkAt (w : World) (g : Nat) (K : Int) (mv : Value) : Prop := w.heap[g]? = some (.cells #[.int .u8 K, mv] 47)
theorem MkAt.c0 {w : World} {g : Nat} {K : Int} {mv : Value} (h : MkAt w g K mv) : w.cell? ⟨g, 0, none⟩ = some (.int .u8 K) := cell_of_row _ _ _ _ _ _ h
theorem MkAt.c1 {w : World} {g : Nat} {K : Int} {mv : Value} (h : MkAt w g K mv) : w.cell? ⟨g, 1, none⟩ = some mv := cell_of_row _ _ _ _ _ _ h
theorem MkAt.lt {w : World} {g : Nat} {K : Int} {mv : Value} (h : MkAt w g K mv) : g < w.heap.size := (Array.getElem?_eq_some_iff.1 h).1
theorem MkAt.frozen {w : World} {g : Nat} {K : Int} {mv : Value} (h : MkAt w g K mv) (i : Nat) : w.frozen? ⟨g, i, none⟩ = false := frozen_of_row _ _ _ _ _ h
theorem MkAt.on {w w' : World} {g : Nat} {K : Int} {mv : Value} (h : MkAt w g K mv) (hb : Below w.heap.size w w') : MkAt w' g K mv := (hb.block g h.lt).trans h
theorem MkAt.set {w : World} {g : Nat} {K : Int} {mv : Value} (h : MkAt w g K mv) (v : Value) : MkAt (w.setCell ⟨g, 1, none⟩ v) g K v := heap_setCell_same _ g 1 _ _ v h
/-- What making leaves of what was there: all but the maker, and rows of objects. -/
structure Makes (B g : Nat) (w w' : World) : Prop where
  below : Below B w w'
  keep : ∀ (k : Nat) C T fr, w.heap[k]? = some (.cells C T fr) → k ≠ g → T ≠ 35 → w'.heap[k]? = some (.cells C T fr)
  other : ∀ (k : Nat) o, w.heap[k]? = some o → (∀ C T fr, o ≠ .cells C T fr) → w'.heap[k]? = some o
theorem Makes.refl (B g : Nat) (w : World) : Makes B g w w := ⟨Below.refl _ _, fun _ _ _ _ h _ _ => h, fun _ _ h _ => h⟩
theorem Makes.trans {B g : Nat} {a b c : World} (h : Makes B g a b) (k : Makes B g b c) : Makes B g a c := ⟨h.below.trans k.below, fun j C T fr hj hg hT => k.keep j C T fr (h.keep j C T fr hj hg hT) hg hT, fun j o hj hT => k.other j o (h.other j o hj hT) hT⟩
theorem Makes.of {B g : Nat} {w w' : World} (hb : Below w.heap.size w w') (hB : B ≤ w.heap.size) : Makes B g w w' := ⟨hb.mono hB, fun j C T fr hj _ _ => (hb.block j (Array.getElem?_eq_some_iff.1 hj).1).trans hj, fun j o hj _ => (hb.block j (Array.getElem?_eq_some_iff.1 hj).1).trans hj⟩
/-- A row lies in cells. -/
theorem row_box {α : Type} {f : α → List Value} {n : Nat} {T : TypeId} {w : World} {B : Nat} {v : Value} {l : List α} {j : Nat} (h : OwnRw f n T w B v l) (hj : ∀ C T fr, w.heap[j]? ≠ some (.cells C T fr)) : some j ≠ v.ownBlock := fun e => by
  rcases h.2 with ⟨rfl, _⟩ | ⟨g, cap, cur, rfl, _, hg, _⟩
  · cases e
  · have e : some j = some g := e
    injection e with e
    subst e
    exact hj _ _ _ hg
/-- What names are made by. -/
def NameOf (K : Int) (nm : List UInt8 → Idn) : Prop := ∀ (W : World) (u : Value) (bs : List UInt8), KeysIs keysL W → Sl W W.heap.size u bs → bs.length ≤ 1048576 → Calls Tryd.prog 29 #[.int .u8 K, u] W (Gives (idV (nm bs).1) W)
theorem name_fnv : NameOf 1 fun bs => ⟨ofF bs, ofF_length bs⟩ := fun W u bs _ hu _ => of_fnv u bs W hu
theorem name_sha : NameOf 2 fun bs => ⟨ofS (shaS keysL bs), ofS_length _⟩ := fun W u bs hk hu hl => of_shaX u bs W hu hk hl
theorem shape_ob : shapeOf Tryd.prog 35 = some (.agg (vb (zer 33) ++ [Value.string ByteArray.empty]).toArray, [(0, 33), (33, 1)]) := by kernel_rfl
theorem built_ob (o : Ob) : Tryd.prog.built 35 [(0, idV o.1.1), (1, .string ⟨o.2.toArray⟩)] = some (obC o).toArray := by
  have hl : (vb o.1.1).length = 33 := by rw [vb_length, o.1.2]
  rw [built_shape shape_ob, fill_laid (off := 0) (size := 33) rfl (vb o.1.1) rfl hl (by simp [Value.cells, vb_length, zer_length]), fill_laid (off := 33) (size := 1) rfl [.string ⟨o.2.toArray⟩] rfl rfl (by simp [Value.cells, laid_length, vb_length, zer_length])]
  have h := laid_mid [] (vb (zer 33)) [Value.string ByteArray.empty] (vb o.1.1) (by rw [hl, vb_length, zer_length])
  have e : laid (Value.agg (vb (zer 33) ++ [Value.string ByteArray.empty]).toArray).cells.toList 0 (vb o.1.1) = vb o.1.1 ++ [Value.string ByteArray.empty] := by
    show laid (vb (zer 33) ++ [Value.string ByteArray.empty]) 0 (vb o.1.1) = _
    simpa using h
  rw [e]
  have h2 := laid_mid (vb o.1.1) [Value.string ByteArray.empty] [] [Value.string ⟨o.2.toArray⟩] rfl
  rw [hl] at h2
  show some (laid (vb o.1.1 ++ [Value.string ByteArray.empty]) 33 [Value.string ⟨o.2.toArray⟩]).toArray = _
  simp only [List.append_nil] at h2
  rw [h2]
  rfl
/-- A row of objects and a row of bytes are apart; so are a row of bytes and a box. -/
theorem own_apart {w : World} {B B' : Nat} {v u : Value} {l : List Ob} {bs : List UInt8} (h : OwnRw obC 34 35 w B v l) (k : Own w B' u bs) (hT : 35 ≠ 5) : u.ownBlock = none ∨ u.ownBlock ≠ v.ownBlock := by
  rcases k.2 with ⟨rfl, _⟩ | ⟨g', cap', cur', rfl, _, hg', _⟩
  · exact .inl rfl
  · exact .inr fun e => box_apart (T' := 5) h hg' hT e
theorem own_box {w : World} {B G : Nat} {v : Value} {bs : List UInt8} {C : Array Value} {T : TypeId} {fr : Nat × Nat} (h : Own w B v bs) (k : w.heap[G]? = some (.cells C T fr)) (hT : 5 ≠ T) : some G ≠ v.ownBlock := fun e => by
  rcases h.2 with ⟨rfl, _⟩ | ⟨g, cap, cur, rfl, _, hg, _⟩
  · cases e
  · have e : some G = some g := e
    injection e with e
    subst e
    rw [k] at hg
    injection hg with hg
    injection hg with _ h2
    exact hT h2.symm
theorem exec_build_ob {op : Oper} {a : Act} {w : World} (x y : Operand) (ho : op.op = .build 35 #[(0, x), (1, y)]) (o : Ob) (hx : a.eval x = idV o.1.1) (hy : a.eval y = .string ⟨o.2.toArray⟩) : (execOp a.eval op).run Tryd.prog w = .ok (.value (.agg (obC o).toArray)) w := by
  have hb := built_ob o
  have h := run_build (P := Tryd.prog) w 35 #[(0, idV o.1.1), (1, Value.string ⟨o.2.toArray⟩)] _ hb
  unfold execOp
  simp [ho, hx, hy, h, Result.andThen]

set_option maxRecDepth 100000 in
set_option maxHeartbeats 6400000 in
theorem madd_any (g B : Nat) (K : Int) (nm : List UInt8 → Idn) (mv : Value) (made : List Ob) (s : List UInt8) (vt : Value) (t : Tre) (w : World) (hn : NameOf K nm) (hk : KeysIs keysL w) (hm : MkAt w g K mv) (ho : OwnRw obC 34 35 w B mv made) (hB : B ≤ w.heap.size) (hBg : B ≤ g) (hB0 : 0 < B)
    (ht : TreIn w w.heap.size vt t) (hg : GoodT t) (hl : made.length ≤ 4096) :
    Calls Tryd.prog 23 #[.pointer (some ⟨g, 0, none⟩), .string ⟨s.toArray⟩, vt] w fun e w' => e = .returned (.agg (kkC (s, nm (treeB t))).toArray) ∧ Makes B g w w' ∧ ∃ mv', MkAt w' g K mv' ∧ OwnRw obC 34 35 w' B mv' (made ++ [(nm (treeB t), treeB t)]) := by
  have hlen := treeB_small hg
  obtain ⟨bs, hbs⟩ : ∃ bs, treeB t = bs := ⟨_, rfl⟩
  rw [hbs] at hlen ⊢
  obtain ⟨L, hL⟩ : ∃ L, nm bs = L := ⟨_, rfl⟩
  rw [hL]
  have HBS := Lib.hid hbs
  have HLE := Lib.hid hL
  clear hbs hL
  have HN := Lib.hid hn
  have HG := Lib.hid hg
  obtain ⟨vp, vk, rfl, hp0, hk0⟩ := ht
  obtain ⟨A1, c1, e1, k1, l1⟩ := hp0.len
  obtain ⟨A2, c2, e2, k2, l2⟩ := hk0.len
  subst e1 e2
  have hsz1 : (w.alloc (.cells #[.slice A1 t.ps.length c1, .slice A2 t.ks.length c2] 56)).heap.size = w.heap.size + 1 := asz _ _
  have hb1 : Below w.heap.size w ((w.alloc (.cells #[.slice A1 t.ps.length c1, .slice A2 t.ks.length c2] 56)).alloc (.cells (Value.string ByteArray.empty :: vb (zer 33)).toArray 52)) := (new_below _ _).trans ((new_below _ _).mono (by omega))
  have ht1 : TrAt ((w.alloc (.cells #[.slice A1 t.ps.length c1, .slice A2 t.ks.length c2] 56)).alloc (.cells (Value.string ByteArray.empty :: vb (zer 33)).toArray 52)) w.heap.size (.slice A1 t.ps.length c1) (.slice A2 t.ks.length c2) := (TrAt.new _ _ _).below (new_below _ _) (by omega)
  have hc1 : ((w.alloc (.cells #[.slice A1 t.ps.length c1, .slice A2 t.ks.length c2] 56)).alloc (.cells (Value.string ByteArray.empty :: vb (zer 33)).toArray 52)).heap[w.heap.size + 1]? = some (.cells (Value.string ByteArray.empty :: vb (zer 33)).toArray 52) := by
    have h := heap_alloc_new (w.alloc (.cells #[.slice A1 t.ps.length c1, .slice A2 t.ks.length c2] 56)) (.cells (Value.string ByteArray.empty :: vb (zer 33)).toArray 52)
    rw [hsz1] at h
    exact h
  have HS1 : Hid (PsIn w w.heap.size (.slice A1 t.ps.length c1) t.ps) := hp0
  have HS2 : Hid (KsIn w w.heap.size (.slice A2 t.ks.length c2) t.ks) := hk0
  have HC1 := Lib.hid hc1
  have HB1 := Lib.hid hb1
  have HM0 := Lib.hid hm
  have HO0 := Lib.hid ho
  have HK0 := Lib.hid hk
  have hgl := hm.lt
  have d0 := ht1.c0
  have d1 := ht1.c1
  clear hp0 hk0 hc1 hb1 ht1 hm ho hk hn hg hsz1
  go_enter Tryd.func23, Tryd.ntmps23
  go_wp2_with (first
    | (refine wp_box_row rfl _ rfl rfl ?_)
    | (refine wp_alloc_row zero_kk rfl rfl ?_))
  generalize (w.alloc (.cells #[.slice A1 t.ps.length c1, .slice A2 t.ks.length c2] 56)).alloc (.cells (Value.string ByteArray.empty :: vb (zer 33)).toArray 52) = w1 at HC1 HB1 d0 d1 ⊢
  have hz1 := HB1.out.size
  have hz1b : w.heap.size + 1 < w1.heap.size := (Array.getElem?_eq_some_iff.1 HC1.out).1
  refine (putt_any _ t w1 ⟨_, _, rfl, (HS1.out.below HB1.out).more hz1, (HS2.out.below HB1.out).more hz1⟩).mono ?_
  rintro e w2 ⟨v5, n5, rfl, hb, hput⟩
  have hx5 : n5 = 0 ∧ Own w2 w1.heap.size v5 (treeB t) := by
    rcases hput with ⟨_, h0, h⟩ | ⟨h, _⟩
    · exact ⟨h0, h⟩
    · exact absurd HG.out h
  obtain ⟨rfl, hod⟩ := hx5
  rw [HBS.out] at hod
  obtain ⟨A5, c5, e5, _, _⟩ := hod.sl.len
  subst e5
  have HB2 := Lib.hid (HB1.out.trans (hb.mono hz1))
  have HOD2 := Lib.hid hod
  have HC2 : Hid (w2.heap[w.heap.size + 1]? = some (.cells (Value.string ByteArray.empty :: vb (zer 33)).toArray 52)) := (hb.block _ hz1b).trans HC1.out
  have HM2 : Hid (MkAt w2 g K mv) := (HB2.out.block g hgl).trans HM0.out
  have hz2 := hb.size
  have q0 := HM2.out.c0
  clear hb hput hod HB1 HC1 d0 d1 HS1 HS2 HBS HG
  go_wp2_with fail
  refine (HN.out w2 _ bs (HK0.out.below (HB2.out.mono hB) hB0) HOD2.out.sl (by omega)).mono ?_
  rintro e w3 ⟨rfl, hb⟩
  rw [HLE.out]
  have hz3 := hb.size
  have hb4 : Below w2.heap.size w2 (w3.alloc (.cells (vb L.1).toArray 27)) := hb.alloc hz3 _
  have HB4 := Lib.hid (HB2.out.trans (hb4.mono (by omega)))
  have HOD4 := Lib.hid (HOD2.out.keep hb4)
  have HC4 : Hid ((w3.alloc (.cells (vb L.1).toArray 27)).heap[w.heap.size + 1]? = some (.cells (Value.string ByteArray.empty :: vb (zer 33)).toArray 52)) := (hb4.block _ (by omega)).trans HC2.out
  have HI4 : Hid (IdAt (w3.alloc (.cells (vb L.1).toArray 27)) w3.heap.size L.1) := IdAt.new w3 L.1
  have hl33 : L.1.length = 33 := L.2
  clear hb hb4 HB2 HOD2 HC2 HM2 q0
  go_wp2_with (first
    | (refine wp_alloc_row zero_id rfl rfl ?_)
    | (refine wp_fill_id rfl _ _ rfl rfl (by first | rfl | simp [Act.eval, Act.put]) L.1 hl33 (by first | rfl | simp [Act.eval, Act.put]) ?_))
  obtain ⟨W0, hW0⟩ : ∃ x, (w3.alloc (.cells (vb L.1).toArray 27)).drew = x := ⟨_, rfl⟩
  obtain ⟨ia, hia⟩ : ∃ x, w3.heap.size = x := ⟨_, rfl⟩
  rw [hia] at HI4 ⊢
  have HI5 : Hid (IdAt W0 ia L.1) := by rw [← hW0]; exact HI4.out.drew
  have HB5 : Hid (Below w.heap.size w W0) := by rw [← hW0]; exact HB4.out.drew
  have HOD5 : Hid (Own W0 w1.heap.size (.slice A5 bs.length c5) bs) := by rw [← hW0]; exact HOD4.out
  have HC5 : Hid (W0.heap[w.heap.size + 1]? = some (.cells (Value.string ByteArray.empty :: vb (zer 33)).toArray 52)) := by rw [← hW0]; exact HC4.out
  have HM5 : Hid (MkAt W0 g K mv) := (HB5.out.block g hgl).trans HM0.out
  have HO5 : Hid (OwnRw obC 34 35 W0 B mv made) := HO0.out.keep HB5.out
  have hBz : B ≤ W0.heap.size := Nat.le_trans hB HB5.out.size
  have q1 := HM5.out.c1
  clear HI4 HB4 HOD4 HC4 HM0 HO0 HK0
  have hS0 : IdAt W0 ia L.1 ∧ Own W0 w1.heap.size (.slice A5 bs.length c5) bs := ⟨HI5.out, HOD5.out⟩
  refine region_begin hW0 (S := fun W => IdAt W ia L.1 ∧ Own W w1.heap.size (.slice A5 bs.length c5) bs) (by kernel_rfl) hS0 (fun hHeld => ?_)
  clear hW0 hHeld
  have hHeld := hS0
  refine take_at (i := 0) (.pointer (some ⟨g, 0, none⟩)) (some 21) (by decide) (by rfl) (by kernel_rfl) (by kernel_rfl) (by kernel_rfl) (fun _ _ _ h => h) (by rfl) (fun W hW => by go_simp) (by assumption) ?_
  try simp only [Act.put, List.setIfInBounds_toArray, List.set_cons_zero, List.set_cons_succ]
  refine take_at (i := 1) (.pointer (some ⟨g, 0, none⟩)) (some 22) (by decide) (by rfl) (by kernel_rfl) (by kernel_rfl) (by kernel_rfl) (fun _ _ _ h => h) (by rfl) (fun W hW => by go_simp) (by assumption) ?_
  try simp only [Act.put, List.setIfInBounds_toArray, List.set_cons_zero, List.set_cons_succ]
  refine take_at (i := 2) (.pointer (some ⟨g, 0, none⟩)) (some 23) (by decide) (by rfl) (by kernel_rfl) (by kernel_rfl) (by kernel_rfl) (fun _ _ _ h => h) (by rfl) (fun W hW => by go_simp) (by assumption) ?_
  try simp only [Act.put, List.setIfInBounds_toArray, List.set_cons_zero, List.set_cons_succ]
  refine take_at (i := 3) (.pointer (some ⟨g, 1, none⟩)) (some 24) (by decide) (by rfl) (by kernel_rfl) (by kernel_rfl) (by kernel_rfl) (fun _ _ _ h => h) (by rfl) (fun W hW => by go_simp) (by assumption) ?_
  try simp only [Act.put, List.setIfInBounds_toArray, List.set_cons_zero, List.set_cons_succ]
  refine take_at (i := 5) (idV L.1) (some 26) (by decide) (by rfl) (by kernel_rfl) (by kernel_rfl) (by kernel_rfl) (fun _ _ _ h => h) (by rfl) (fun W hW => by exact exec_load_id hW.1 hl33 _ rfl rfl) (by assumption) ?_
  try simp only [Act.put, List.setIfInBounds_toArray, List.set_cons_zero, List.set_cons_succ]
  refine take_at (i := 6) (.slice A5 bs.length c5) (some 27) (by decide) (by rfl) (by kernel_rfl) (by kernel_rfl) (by kernel_rfl) (fun _ _ _ h => h) (by rfl) (fun W hW => by go_simp) (by assumption) ?_
  try simp only [Act.put, List.setIfInBounds_toArray, List.set_cons_zero, List.set_cons_succ]
  refine take_at (i := 7) (.string ⟨bs.toArray⟩) (some 28) (by decide) (by rfl) (by kernel_rfl) (by kernel_rfl) (by kernel_rfl) (fun _ _ _ h => h) (by rfl) (fun W hW => by have := run_text_of W _ _ bs hW.2.sl; go_simp) (by assumption) ?_
  try simp only [Act.put, List.setIfInBounds_toArray, List.set_cons_zero, List.set_cons_succ]
  refine take_at (i := 8) (.agg (obC (L, bs)).toArray) (some 29) (by decide) (by rfl) (by kernel_rfl) (by kernel_rfl) (by kernel_rfl) (fun _ _ _ h => h) (by rfl) (fun W hW => by exact exec_build_ob _ _ rfl (L, bs) rfl rfl) (by assumption) ?_
  try simp only [Act.put, List.setIfInBounds_toArray, List.set_cons_zero, List.set_cons_succ]
  have hW1z : W0.heap.size < (W0.alloc (.cells (obC (L, bs)).toArray 35)).heap.size := by rw [asz]; omega
  have hS1 : IdAt (W0.alloc (.cells (obC (L, bs)).toArray 35)) ia L.1 ∧ Own (W0.alloc (.cells (obC (L, bs)).toArray 35)) w1.heap.size (.slice A5 bs.length c5) bs := ⟨HI5.out.below (new_below _ _) (Array.getElem?_eq_some_iff.1 HI5.out).1, HOD5.out.keep (new_below _ _)⟩
  have q2 : (W0.alloc (.cells (obC (L, bs)).toArray 35)).cell? ⟨g, 1, none⟩ = some mv := (HM5.out.on (new_below _ _)).c1
  have HM6 : Hid (MkAt (W0.alloc (.cells (obC (L, bs)).toArray 35)) g K mv) := HM5.out.on (new_below _ _)
  have HO6 : Hid (OwnRw obC 34 35 (W0.alloc (.cells (obC (L, bs)).toArray 35)) B mv made) := HO5.out.alloc _
  have HC6 : Hid ((W0.alloc (.cells (obC (L, bs)).toArray 35)).heap[w.heap.size + 1]? = some (.cells (Value.string ByteArray.empty :: vb (zer 33)).toArray 52)) := (new_below W0 (.cells (obC (L, bs)).toArray 35)).block _ (Array.getElem?_eq_some_iff.1 HC5.out).1 |>.trans HC5.out
  have HX6 : Hid (RwIn obC 34 (W0.alloc (.cells (obC (L, bs)).toArray 35)) (W0.heap.size + 1) (.slice (some ⟨W0.heap.size, 0, none⟩) 1 1) [(L, bs)]) := rw_one kind_ob W0 (L, bs) 35 _ rfl
  have HB6 : Hid (Below w.heap.size w (W0.alloc (.cells (obC (L, bs)).toArray 35))) := HB5.out.alloc HB5.out.size _
  refine wpAnyH_ready (rs := [4, 9]) (by kernel_rfl) (by simp) (come (i := 4) mv W0 (some 25) (by decide) (by rfl) (by rfl) (by have h9 := q1; go_simp) hS0 ?_ (AllReadyH.cons (Array.getElem?_eq_getElem (i := 9) (by decide)) (fun K9 hK => ?_) AllReadyH.nil))
  · try simp only [Act.put, List.setIfInBounds_toArray, List.set_cons_zero, List.set_cons_succ]
    refine wpAnyH_ready (rs := [9]) (by kernel_rfl) (by simp) (AllReadyH.cons (Array.getElem?_eq_getElem (i := 9) (by decide)) (fun K9 hK => ?_) AllReadyH.nil)
    refine step_one kind_ob (by omega) rfl _ rfl (L, bs) rfl ?_
    refine hK.out _ _ hS1 (fun hHeld => ?_)
    clear hK K9
    try simp only [Act.put, List.setIfInBounds_toArray, List.set_cons_zero, List.set_cons_succ]
    generalize W0.alloc (.cells (obC (L, bs)).toArray 35) = W6 at *
    refine wpAnyH_ready (rs := [10]) (by kernel_rfl) (by simp) (AllReadyH.cons (Array.getElem?_eq_getElem (i := 10) (by decide)) (fun K9 hK => ?_) AllReadyH.nil)
    refine step_append_rw kind_ob rfl _ _ rfl rfl HO6.out (by omega) (.slice (some ⟨W0.heap.size, 0, none⟩) 1 1) _ [(L, bs)] rfl HX6.out (by simp; omega) ?_
    intro v2 w6 ho6 hb6 hg6
    obtain ⟨M2, hM2⟩ : ∃ M2, made ++ [(L, bs)] = M2 := ⟨_, rfl⟩
    rw [hM2] at ho6
    have HME := Lib.hid hM2
    clear hM2
    have hS6 : IdAt w6 ia L.1 ∧ Own w6 w1.heap.size (.slice A5 bs.length c5) bs := ⟨(hg6.block ia (Array.getElem?_eq_some_iff.1 hS1.1).1 (box_apart (T' := 27) HO6.out hS1.1 (by decide))).trans hS1.1, World.ownsRow.kept hS1.2 hg6 (own_apart HO6.out hS1.2 (by decide))⟩
    have HM7 : Hid (MkAt w6 g K mv) := (hg6.block g HM6.out.lt (box_apart (T' := 47) HO6.out HM6.out (by decide))).trans HM6.out
    have HC7 : Hid (w6.heap[w.heap.size + 1]? = some (.cells (Value.string ByteArray.empty :: vb (zer 33)).toArray 52)) := (hg6.block _ (Array.getElem?_eq_some_iff.1 HC6.out).1 (box_apart (T' := 52) HO6.out HC6.out (by decide))).trans HC6.out
    have HG7 : Hid (Makes B g w w6) := ⟨(HB6.out.mono hB).trans hb6, fun j C T fr hj hjg hT => by
      have h1 := (HB6.out.block j (Array.getElem?_eq_some_iff.1 hj).1).trans hj
      exact (hg6.block j (Array.getElem?_eq_some_iff.1 h1).1 (box_apart (T' := T) HO6.out h1 (fun e => hT e.symm))).trans h1, fun j o hj hT => by
      have h1 := (HB6.out.block j (Array.getElem?_eq_some_iff.1 hj).1).trans hj
      exact (hg6.block j (Array.getElem?_eq_some_iff.1 h1).1 (row_box HO6.out fun C T fr e => by rw [h1] at e; injection e with e; exact hT C T fr e)).trans h1⟩
    obtain ⟨Ao, co, eo, _, _⟩ := (ho6.rwIn kind_ob).len
    subst eo
    have HO7 := Lib.hid ho6
    have hz6 : w.heap.size ≤ w6.heap.size := Nat.le_trans HB6.out.size hg6.size
    clear ho6 hb6 hg6 hHeld
    refine hK.out _ _ hS6 (fun hHeld => ?_)
    clear hK K9
    try simp only [Act.put, List.setIfInBounds_toArray, List.set_cons_zero, List.set_cons_succ]
    refine take_at (i := 11) (.pointer (some ⟨g, 0, none⟩)) (some 32) (by decide) (by rfl) (by kernel_rfl) (by kernel_rfl) (by kernel_rfl) (fun _ _ _ h => h) (by rfl) (fun W hW => by go_simp) (by assumption) ?_
    try simp only [Act.put, List.setIfInBounds_toArray, List.set_cons_zero, List.set_cons_succ]
    refine take_at (i := 12) (.pointer (some ⟨g, 1, none⟩)) (some 33) (by decide) (by rfl) (by kernel_rfl) (by kernel_rfl) (by kernel_rfl) (fun _ _ _ h => h) (by rfl) (fun W hW => by go_simp) (by assumption) ?_
    try simp only [Act.put, List.setIfInBounds_toArray, List.set_cons_zero, List.set_cons_succ]
    have q3 := HM7.out.c1
    have q4 := HM7.out.frozen 1
    have HM8 : Hid (MkAt (w6.setCell ⟨g, 1, none⟩ (.slice Ao M2.length co)) g K (.slice Ao M2.length co)) := HM7.out.set _
    have hne : ia ≠ g := fun e => by
      have h1 := hS6.1
      have h2 := HM7.out
      unfold IdAt at h1
      unfold MkAt at h2
      rw [e, h2] at h1
      injection h1 with h1
      injection h1 with _ h1
      exact absurd h1 (by decide)
    have hS8 : IdAt (w6.setCell ⟨g, 1, none⟩ (.slice Ao M2.length co)) ia L.1 ∧ Own (w6.setCell ⟨g, 1, none⟩ (.slice Ao M2.length co)) w1.heap.size (.slice A5 bs.length c5) bs := ⟨(Below.heap_setCell w6 ⟨g, 1, none⟩ _ _ hne).trans hS6.1, World.ownsRow.kept hS6.2 (row := some g) ⟨rfl, rfl, rfl, by simp, fun k _ hk => Below.heap_setCell w6 ⟨g, 1, none⟩ _ k (fun e => hk (by rw [e]))⟩ (.inr fun e => own_box hS6.2 HM7.out (by decide) e.symm)⟩
    have hneC : w.heap.size + 1 ≠ g := by omega
    have HC8 : Hid ((w6.setCell ⟨g, 1, none⟩ (.slice Ao M2.length co)).heap[w.heap.size + 1]? = some (.cells (Value.string ByteArray.empty :: vb (zer 33)).toArray 52)) := (Below.heap_setCell w6 ⟨g, 1, none⟩ _ _ hneC).trans HC7.out
    have HO8 : Hid (OwnRw obC 34 35 (w6.setCell ⟨g, 1, none⟩ (.slice Ao M2.length co)) B (.slice Ao M2.length co) M2) := HO7.out.apart (row := some g) ⟨rfl, rfl, rfl, by simp, fun k _ hk => Below.heap_setCell w6 ⟨g, 1, none⟩ _ k (fun e => hk (by rw [e]))⟩ (.inr fun e => box_apart (T' := 47) HO7.out HM7.out (by decide) e.symm)
    have HG8 : Hid (Makes B g w (w6.setCell ⟨g, 1, none⟩ (.slice Ao M2.length co))) := HG7.out.trans ⟨(Below.refl B w6).setCell (by show B ≤ g; omega) _, fun j C T fr hj hjg _ => (Below.heap_setCell w6 ⟨g, 1, none⟩ _ j hjg).trans hj, fun j o hj hT => (Below.heap_setCell w6 ⟨g, 1, none⟩ _ j (fun e => by subst e; have h9 := HM7.out; unfold MkAt at h9; rw [h9] at hj; injection hj with hj; exact hT _ _ _ hj.symm)).trans hj⟩
    have hz8 : w.heap.size ≤ (w6.setCell ⟨g, 1, none⟩ (.slice Ao M2.length co)).heap.size := by simpa using hz6
    refine wpAnyH_ready (rs := [13]) (by kernel_rfl) (by simp) (AllReadyH.cons (Array.getElem?_eq_getElem (i := 13) (by decide)) (fun K9 hK => ?_) AllReadyH.nil)
    rw [if_pos (by rfl)]
    unfold Oper.wp
    go_simp
    refine hK.out _ _ hS8 (fun hHeld => ?_)
    clear hK K9
    try simp only [Act.put, List.setIfInBounds_toArray, List.set_cons_zero, List.set_cons_succ]
    refine wpAnyH_done (by kernel_rfl) ?_ _
    try simp only [Act.put, List.setIfInBounds_toArray, List.set_cons_zero, List.set_cons_succ]
    have HI8 := Lib.hid hS8.1
    clear hHeld hS8 hS6 hS1 hS0 q1 q2 q3 q4 HM5 HM6 HM7 HO5 HO6 HO7 HC5 HC6 HC7 HI5 HB5 HB6 HG7 HX6 HOD5
    generalize w6.setCell ⟨g, 1, none⟩ (.slice Ao M2.length co) = w8 at *
    have hkk : (kkC (s, L)).toArray.size = 34 := by rw [List.size_toArray, kind_kk.len]
    go_wp2_with (first
      | (refine wpList_load_row rfl 27 _ rfl ia rfl 27 (vb L.1).toArray (0, 0) _ HI8.out Tryd.underlying27 rfl (by rw [vb_size, hl33]; exact cells_id) ?_)
      | (refine wp_build_kk rfl _ _ rfl s L rfl rfl ?_)
      | (refine wp_put_row size_kk rfl _ _ rfl (w.heap.size + 1) rfl rfl hkk (fun u hu => kind_kk.one (s, L) u (by simpa using hu)) (Value.string ByteArray.empty :: vb (zer 33)).toArray (by simp [vb_length, zer_length]) 52 HC8.out ?_))
    intro w9 h9 hg9
    have HG9 : Hid (Makes B g w w9) := ⟨HG8.out.below.grown hg9 (by omega) (fun k hk => by injection hk with hk; omega), fun j C T fr hj hjg hT => by
      have h1 := HG8.out.keep j C T fr hj hjg hT
      exact (hg9.block j (Array.getElem?_eq_some_iff.1 h1).1 (fun e => by injection e with e; have := (Array.getElem?_eq_some_iff.1 hj).1; omega)).trans h1, fun j o hj hT => by
      have h1 := HG8.out.other j o hj hT
      exact (hg9.block j (Array.getElem?_eq_some_iff.1 h1).1 (fun e => by injection e with e; have := (Array.getElem?_eq_some_iff.1 hj).1; omega)).trans h1⟩
    have HM9 : Hid (MkAt w9 g K (.slice Ao M2.length co)) := (hg9.block g HM8.out.lt (fun e => by injection e with e; omega)).trans HM8.out
    have HO9 : Hid (OwnRw obC 34 35 w9 B (.slice Ao M2.length co) M2) := HO8.out.apart hg9 (.inr fun e => box_apart (T' := 52) HO8.out HC8.out (by decide) e.symm)
    go_wp2_with fail
    exact bodyPost_ret (results_cell_row Tryd.results23 _ w9 (w.heap.size + 1) 52 (kkC (s, L)).toArray (0, 0) _ rfl h9 Tryd.underlying52 rfl (by rw [hkk]; exact size_kk)) rfl ⟨rfl, HG9.out, _, HM9.out, by rw [HME.out]; exact HO9.out⟩
  · refine step_one kind_ob (by omega) rfl _ rfl (L, bs) rfl ?_
    refine hK.out _ _ hS1 (fun hHeld => ?_)
    clear hK K9
    try simp only [Act.put, List.setIfInBounds_toArray, List.set_cons_zero, List.set_cons_succ]
    refine wpAnyH_ready (rs := [4]) (by kernel_rfl) (by simp) (come (i := 4) mv (W0.alloc (.cells (obC (L, bs)).toArray 35)) (some 25) (by decide) (by rfl) (by rfl) (by have h9 := q2; go_simp) hS1 ?_ AllReadyH.nil)
    try simp only [Act.put, List.setIfInBounds_toArray, List.set_cons_zero, List.set_cons_succ]
    generalize W0.alloc (.cells (obC (L, bs)).toArray 35) = W6 at *
    refine wpAnyH_ready (rs := [10]) (by kernel_rfl) (by simp) (AllReadyH.cons (Array.getElem?_eq_getElem (i := 10) (by decide)) (fun K9 hK => ?_) AllReadyH.nil)
    refine step_append_rw kind_ob rfl _ _ rfl rfl HO6.out (by omega) (.slice (some ⟨W0.heap.size, 0, none⟩) 1 1) _ [(L, bs)] rfl HX6.out (by simp; omega) ?_
    intro v2 w6 ho6 hb6 hg6
    obtain ⟨M2, hM2⟩ : ∃ M2, made ++ [(L, bs)] = M2 := ⟨_, rfl⟩
    rw [hM2] at ho6
    have HME := Lib.hid hM2
    clear hM2
    have hS6 : IdAt w6 ia L.1 ∧ Own w6 w1.heap.size (.slice A5 bs.length c5) bs := ⟨(hg6.block ia (Array.getElem?_eq_some_iff.1 hS1.1).1 (box_apart (T' := 27) HO6.out hS1.1 (by decide))).trans hS1.1, World.ownsRow.kept hS1.2 hg6 (own_apart HO6.out hS1.2 (by decide))⟩
    have HM7 : Hid (MkAt w6 g K mv) := (hg6.block g HM6.out.lt (box_apart (T' := 47) HO6.out HM6.out (by decide))).trans HM6.out
    have HC7 : Hid (w6.heap[w.heap.size + 1]? = some (.cells (Value.string ByteArray.empty :: vb (zer 33)).toArray 52)) := (hg6.block _ (Array.getElem?_eq_some_iff.1 HC6.out).1 (box_apart (T' := 52) HO6.out HC6.out (by decide))).trans HC6.out
    have HG7 : Hid (Makes B g w w6) := ⟨(HB6.out.mono hB).trans hb6, fun j C T fr hj hjg hT => by
      have h1 := (HB6.out.block j (Array.getElem?_eq_some_iff.1 hj).1).trans hj
      exact (hg6.block j (Array.getElem?_eq_some_iff.1 h1).1 (box_apart (T' := T) HO6.out h1 (fun e => hT e.symm))).trans h1, fun j o hj hT => by
      have h1 := (HB6.out.block j (Array.getElem?_eq_some_iff.1 hj).1).trans hj
      exact (hg6.block j (Array.getElem?_eq_some_iff.1 h1).1 (row_box HO6.out fun C T fr e => by rw [h1] at e; injection e with e; exact hT C T fr e)).trans h1⟩
    obtain ⟨Ao, co, eo, _, _⟩ := (ho6.rwIn kind_ob).len
    subst eo
    have HO7 := Lib.hid ho6
    have hz6 : w.heap.size ≤ w6.heap.size := Nat.le_trans HB6.out.size hg6.size
    clear ho6 hb6 hg6 hHeld
    refine hK.out _ _ hS6 (fun hHeld => ?_)
    clear hK K9
    try simp only [Act.put, List.setIfInBounds_toArray, List.set_cons_zero, List.set_cons_succ]
    refine take_at (i := 11) (.pointer (some ⟨g, 0, none⟩)) (some 32) (by decide) (by rfl) (by kernel_rfl) (by kernel_rfl) (by kernel_rfl) (fun _ _ _ h => h) (by rfl) (fun W hW => by go_simp) (by assumption) ?_
    try simp only [Act.put, List.setIfInBounds_toArray, List.set_cons_zero, List.set_cons_succ]
    refine take_at (i := 12) (.pointer (some ⟨g, 1, none⟩)) (some 33) (by decide) (by rfl) (by kernel_rfl) (by kernel_rfl) (by kernel_rfl) (fun _ _ _ h => h) (by rfl) (fun W hW => by go_simp) (by assumption) ?_
    try simp only [Act.put, List.setIfInBounds_toArray, List.set_cons_zero, List.set_cons_succ]
    have q3 := HM7.out.c1
    have q4 := HM7.out.frozen 1
    have HM8 : Hid (MkAt (w6.setCell ⟨g, 1, none⟩ (.slice Ao M2.length co)) g K (.slice Ao M2.length co)) := HM7.out.set _
    have hne : ia ≠ g := fun e => by
      have h1 := hS6.1
      have h2 := HM7.out
      unfold IdAt at h1
      unfold MkAt at h2
      rw [e, h2] at h1
      injection h1 with h1
      injection h1 with _ h1
      exact absurd h1 (by decide)
    have hS8 : IdAt (w6.setCell ⟨g, 1, none⟩ (.slice Ao M2.length co)) ia L.1 ∧ Own (w6.setCell ⟨g, 1, none⟩ (.slice Ao M2.length co)) w1.heap.size (.slice A5 bs.length c5) bs := ⟨(Below.heap_setCell w6 ⟨g, 1, none⟩ _ _ hne).trans hS6.1, World.ownsRow.kept hS6.2 (row := some g) ⟨rfl, rfl, rfl, by simp, fun k _ hk => Below.heap_setCell w6 ⟨g, 1, none⟩ _ k (fun e => hk (by rw [e]))⟩ (.inr fun e => own_box hS6.2 HM7.out (by decide) e.symm)⟩
    have hneC : w.heap.size + 1 ≠ g := by omega
    have HC8 : Hid ((w6.setCell ⟨g, 1, none⟩ (.slice Ao M2.length co)).heap[w.heap.size + 1]? = some (.cells (Value.string ByteArray.empty :: vb (zer 33)).toArray 52)) := (Below.heap_setCell w6 ⟨g, 1, none⟩ _ _ hneC).trans HC7.out
    have HO8 : Hid (OwnRw obC 34 35 (w6.setCell ⟨g, 1, none⟩ (.slice Ao M2.length co)) B (.slice Ao M2.length co) M2) := HO7.out.apart (row := some g) ⟨rfl, rfl, rfl, by simp, fun k _ hk => Below.heap_setCell w6 ⟨g, 1, none⟩ _ k (fun e => hk (by rw [e]))⟩ (.inr fun e => box_apart (T' := 47) HO7.out HM7.out (by decide) e.symm)
    have HG8 : Hid (Makes B g w (w6.setCell ⟨g, 1, none⟩ (.slice Ao M2.length co))) := HG7.out.trans ⟨(Below.refl B w6).setCell (by show B ≤ g; omega) _, fun j C T fr hj hjg _ => (Below.heap_setCell w6 ⟨g, 1, none⟩ _ j hjg).trans hj, fun j o hj hT => (Below.heap_setCell w6 ⟨g, 1, none⟩ _ j (fun e => by subst e; have h9 := HM7.out; unfold MkAt at h9; rw [h9] at hj; injection hj with hj; exact hT _ _ _ hj.symm)).trans hj⟩
    have hz8 : w.heap.size ≤ (w6.setCell ⟨g, 1, none⟩ (.slice Ao M2.length co)).heap.size := by simpa using hz6
    refine wpAnyH_ready (rs := [13]) (by kernel_rfl) (by simp) (AllReadyH.cons (Array.getElem?_eq_getElem (i := 13) (by decide)) (fun K9 hK => ?_) AllReadyH.nil)
    rw [if_pos (by rfl)]
    unfold Oper.wp
    go_simp
    refine hK.out _ _ hS8 (fun hHeld => ?_)
    clear hK K9
    try simp only [Act.put, List.setIfInBounds_toArray, List.set_cons_zero, List.set_cons_succ]
    refine wpAnyH_done (by kernel_rfl) ?_ _
    try simp only [Act.put, List.setIfInBounds_toArray, List.set_cons_zero, List.set_cons_succ]
    have HI8 := Lib.hid hS8.1
    clear hHeld hS8 hS6 hS1 hS0 q1 q2 q3 q4 HM5 HM6 HM7 HO5 HO6 HO7 HC5 HC6 HC7 HI5 HB5 HB6 HG7 HX6 HOD5
    generalize w6.setCell ⟨g, 1, none⟩ (.slice Ao M2.length co) = w8 at *
    have hkk : (kkC (s, L)).toArray.size = 34 := by rw [List.size_toArray, kind_kk.len]
    go_wp2_with (first
      | (refine wpList_load_row rfl 27 _ rfl ia rfl 27 (vb L.1).toArray (0, 0) _ HI8.out Tryd.underlying27 rfl (by rw [vb_size, hl33]; exact cells_id) ?_)
      | (refine wp_build_kk rfl _ _ rfl s L rfl rfl ?_)
      | (refine wp_put_row size_kk rfl _ _ rfl (w.heap.size + 1) rfl rfl hkk (fun u hu => kind_kk.one (s, L) u (by simpa using hu)) (Value.string ByteArray.empty :: vb (zer 33)).toArray (by simp [vb_length, zer_length]) 52 HC8.out ?_))
    intro w9 h9 hg9
    have HG9 : Hid (Makes B g w w9) := ⟨HG8.out.below.grown hg9 (by omega) (fun k hk => by injection hk with hk; omega), fun j C T fr hj hjg hT => by
      have h1 := HG8.out.keep j C T fr hj hjg hT
      exact (hg9.block j (Array.getElem?_eq_some_iff.1 h1).1 (fun e => by injection e with e; have := (Array.getElem?_eq_some_iff.1 hj).1; omega)).trans h1, fun j o hj hT => by
      have h1 := HG8.out.other j o hj hT
      exact (hg9.block j (Array.getElem?_eq_some_iff.1 h1).1 (fun e => by injection e with e; have := (Array.getElem?_eq_some_iff.1 hj).1; omega)).trans h1⟩
    have HM9 : Hid (MkAt w9 g K (.slice Ao M2.length co)) := (hg9.block g HM8.out.lt (fun e => by injection e with e; omega)).trans HM8.out
    have HO9 : Hid (OwnRw obC 34 35 w9 B (.slice Ao M2.length co) M2) := HO8.out.apart hg9 (.inr fun e => box_apart (T' := 52) HO8.out HC8.out (by decide) e.symm)
    go_wp2_with fail
    exact bodyPost_ret (results_cell_row Tryd.results23 _ w9 (w.heap.size + 1) 52 (kkC (s, L)).toArray (0, 0) _ rfl h9 Tryd.underlying52 rfl (by rw [hkk]; exact size_kk)) rfl ⟨rfl, HG9.out, _, HM9.out, by rw [HME.out]; exact HO9.out⟩

end Go.Proofs.YthbahbcihaebeaaDoor.Cd

/-
  What Build makes, in plain lists: leaves of four pairs, groups of two or three kids, row by row, up to one; how many they are. Conditions: none.
-/
namespace Go.Proofs.YthbahbcihaebeaaDoor.Cd
open Go.RowKit

/-! ### Groups -/

theorem nextN_pos {n : Nat} (h : 0 < n) : 0 < nextN n := by unfold nextN; split <;> omega
theorem nextN_le (n : Nat) : nextN n ≤ n := by unfold nextN; split <;> omega
/-- Kids as they are put together. -/
def groups {α : Type} (l : List α) : List (List α) := if h : l = [] then [] else l.take (nextN l.length) :: groups (l.drop (nextN l.length))
termination_by l.length
decreasing_by
  have h1 := List.length_pos_iff.2 h
  have := nextN_pos h1
  rw [List.length_drop]
  omega
theorem groups_nil {α : Type} : groups ([] : List α) = [] := by rw [groups]; simp
theorem groups_cons {α : Type} {l : List α} (h : l ≠ []) : groups l = l.take (nextN l.length) :: groups (l.drop (nextN l.length)) := by rw [groups, dif_neg h]
/-- Pairs as they are put into leaves. -/
def quads {α : Type} (l : List α) : List (List α) := if h : l = [] then [] else l.take 4 :: quads (l.drop 4)
termination_by l.length
decreasing_by
  have h1 := List.length_pos_iff.2 h
  rw [List.length_drop]
  omega
theorem quads_nil {α : Type} : quads ([] : List α) = [] := by rw [quads]; simp
theorem quads_cons {α : Type} {l : List α} (h : l ≠ []) : quads l = l.take 4 :: quads (l.drop 4) := by rw [quads, dif_neg h]

theorem groups_len {α : Type} : ∀ (n : Nat) (l : List α), l.length = n → (groups l).length = (n + 2) / 3 := by
  intro n
  induction n using Nat.strongRecOn with
  | ind n ih =>
    intro l hl
    by_cases h : l = []
    · subst h
      rw [groups_nil]
      simp at hl
      subst hl
      rfl
    · have h1 := List.length_pos_iff.2 h
      have h2 := nextN_pos h1
      rw [groups_cons h, List.length_cons, ih (n - nextN n) (by rw [hl] at h2; omega) _ (by rw [List.length_drop, hl])]
      rw [hl] at h1
      unfold nextN
      split <;> omega
theorem quads_len {α : Type} : ∀ (n : Nat) (l : List α), l.length = n → (quads l).length = (n + 3) / 4 := by
  intro n
  induction n using Nat.strongRecOn with
  | ind n ih =>
    intro l hl
    by_cases h : l = []
    · subst h
      rw [quads_nil]
      simp at hl
      subst hl
      rfl
    · have h1 := List.length_pos_iff.2 h
      rw [quads_cons h, List.length_cons, ih (n - 4) (by omega) _ (by rw [List.length_drop, hl])]
      omega
theorem groups_flat {α : Type} : ∀ (n : Nat) (l : List α), l.length = n → (groups l).flatten = l := by
  intro n
  induction n using Nat.strongRecOn with
  | ind n ih =>
    intro l hl
    by_cases h : l = []
    · subst h
      rw [groups_nil]
      rfl
    · have h1 := List.length_pos_iff.2 h
      have h2 := nextN_pos h1
      rw [groups_cons h, List.flatten_cons, ih (n - nextN n) (by rw [hl] at h2; omega) _ (by rw [List.length_drop, hl]), List.take_append_drop]
theorem quads_flat {α : Type} : ∀ (n : Nat) (l : List α), l.length = n → (quads l).flatten = l := by
  intro n
  induction n using Nat.strongRecOn with
  | ind n ih =>
    intro l hl
    by_cases h : l = []
    · subst h
      rw [quads_nil]
      rfl
    · have h1 := List.length_pos_iff.2 h
      rw [quads_cons h, List.flatten_cons, ih (n - 4) (by omega) _ (by rw [List.length_drop, hl]), List.take_append_drop]
theorem groups_size {α : Type} : ∀ (n : Nat) (l : List α), l.length = n → 2 ≤ n → ∀ g ∈ groups l, 2 ≤ g.length ∧ g.length ≤ 3 := by
  intro n
  induction n using Nat.strongRecOn with
  | ind n ih =>
    intro l hl h2 g hg
    have h : l ≠ [] := fun e => by subst e; simp at hl; omega
    rw [groups_cons h, List.mem_cons] at hg
    have hq : 2 ≤ nextN n ∧ nextN n ≤ 3 := by unfold nextN; split <;> omega
    rcases hg with rfl | hg
    · rw [List.length_take, hl, Nat.min_eq_left (nextN_le n)]
      exact hq
    · by_cases hr : n - nextN n = 0
      · rw [List.eq_nil_of_length_eq_zero (l := l.drop (nextN l.length)) (by rw [List.length_drop, hl]; exact hr), groups_nil] at hg
        cases hg
      · have hr2 : 2 ≤ n - nextN n := by unfold nextN at hr ⊢; split at hr <;> simp_all <;> omega
        exact ih (n - nextN n) (by omega) _ (by rw [List.length_drop, hl]) hr2 g hg
theorem quads_size {α : Type} : ∀ (n : Nat) (l : List α), l.length = n → ∀ g ∈ quads l, 1 ≤ g.length ∧ g.length ≤ 4 := by
  intro n
  induction n using Nat.strongRecOn with
  | ind n ih =>
    intro l hl g hg
    by_cases h : l = []
    · subst h
      rw [quads_nil] at hg
      cases hg
    · have h1 := List.length_pos_iff.2 h
      rw [quads_cons h, List.mem_cons] at hg
      rcases hg with rfl | hg
      · rw [List.length_take]
        omega
      · exact ih (n - 4) (by omega) _ (by rw [List.length_drop, hl]) g hg

/-! ### Rows -/

def headK {α : Type} (l : List (List UInt8 × α)) : List UInt8 := (l.head?.map (·.1)).getD []
def obT (nm : List UInt8 → Idn) (t : Tre) : Ob := (nm (treeB t), treeB t)
def kdT (nm : List UInt8 → Idn) (k : List UInt8) (t : Tre) : Kd := (k, nm (treeB t))
def leafK (nm : List UInt8 → Idn) (g : List Bp) : Kd := kdT nm (headK g) ⟨g, []⟩
def leafO (nm : List UInt8 → Idn) (g : List Bp) : Ob := obT nm ⟨g, []⟩
def upK (nm : List UInt8 → Idn) (g : List Kd) : Kd := kdT nm (headK g) ⟨[], g⟩
def upO (nm : List UInt8 → Idn) (g : List Kd) : Ob := obT nm ⟨[], g⟩
/-- The leaves' row and the leaves. -/
def rowL (nm : List UInt8 → Idn) (ps : List Bp) : List Kd := if ps = [] then [kdT nm [] ⟨[], []⟩] else (quads ps).map (leafK nm)
def obsL (nm : List UInt8 → Idn) (ps : List Bp) : List Ob := if ps = [] then [obT nm ⟨[], []⟩] else (quads ps).map (leafO nm)
/-- The row above a row, and its objects. -/
def rowU (nm : List UInt8 → Idn) (ks : List Kd) : List Kd := (groups ks).map (upK nm)
def obsU (nm : List UInt8 → Idn) (ks : List Kd) : List Ob := (groups ks).map (upO nm)
theorem rowU_len (nm : List UInt8 → Idn) (ks : List Kd) : (rowU nm ks).length = (ks.length + 2) / 3 := by rw [rowU, List.length_map, groups_len _ ks rfl]
theorem obsU_len (nm : List UInt8 → Idn) (ks : List Kd) : (obsU nm ks).length = (ks.length + 2) / 3 := by rw [obsU, List.length_map, groups_len _ ks rfl]
/-- From a row up to the one object: the last row, and what is made on the way. -/
def upAll (nm : List UInt8 → Idn) (ks : List Kd) : List Kd × List Ob := if h : ks.length ≤ 1 then (ks, []) else ((upAll nm (rowU nm ks)).1, obsU nm ks ++ (upAll nm (rowU nm ks)).2)
termination_by ks.length
decreasing_by all_goals rw [rowU_len]; omega
theorem upAll_one {nm : List UInt8 → Idn} {ks : List Kd} (h : ks.length ≤ 1) : upAll nm ks = (ks, []) := by rw [upAll, dif_pos h]
theorem upAll_more {nm : List UInt8 → Idn} {ks : List Kd} (h : ¬ ks.length ≤ 1) : upAll nm ks = ((upAll nm (rowU nm ks)).1, obsU nm ks ++ (upAll nm (rowU nm ks)).2) := by rw [upAll, dif_neg h]
/-- All that is made of pairs, and the tree's name. -/
def obsA (nm : List UInt8 → Idn) (ps : List Bp) : List Ob := obsL nm ps ++ (upAll nm (rowL nm ps)).2

/-! ### How many -/

def climb (n : Nat) : Nat := if n ≤ 1 then 0 else (n + 2) / 3 + climb ((n + 2) / 3)
theorem climb_one {n : Nat} (h : n ≤ 1) : climb n = 0 := by rw [climb, if_pos h]
theorem climb_more {n : Nat} (h : ¬ n ≤ 1) : climb n = (n + 2) / 3 + climb ((n + 2) / 3) := by rw [climb, if_neg h]
theorem upAll_len (nm : List UInt8 → Idn) : ∀ (n : Nat) (ks : List Kd), ks.length = n → (upAll nm ks).2.length = climb n ∧ (0 < n → (upAll nm ks).1.length = 1) := by
  intro n
  induction n using Nat.strongRecOn with
  | ind n ih =>
    intro ks hl
    by_cases h : n ≤ 1
    · rw [upAll_one (by omega), climb_one h]
      exact ⟨rfl, fun h0 => by show ks.length = 1; omega⟩
    · have h2 := ih ((n + 2) / 3) (by omega) (rowU nm ks) (by rw [rowU_len, hl])
      rw [upAll_more (by omega), climb_more h, List.length_append, obsU_len, hl, h2.1]
      exact ⟨rfl, fun _ => h2.2 (by omega)⟩
theorem obsL_len (nm : List UInt8 → Idn) (ps : List Bp) : (obsL nm ps).length = max ((ps.length + 3) / 4) 1 := by
  unfold obsL
  split
  · next h => subst h; rfl
  · next h =>
    have := List.length_pos_iff.2 h
    rw [List.length_map, quads_len _ ps rfl]
    omega
theorem rowL_len (nm : List UInt8 → Idn) (ps : List Bp) : (rowL nm ps).length = max ((ps.length + 3) / 4) 1 := by
  unfold rowL
  split
  · next h => subst h; rfl
  · next h =>
    have := List.length_pos_iff.2 h
    rw [List.length_map, quads_len _ ps rfl]
    omega
theorem obsA_len (nm : List UInt8 → Idn) (ps : List Bp) : (obsA nm ps).length = max ((ps.length + 3) / 4) 1 + climb (max ((ps.length + 3) / 4) 1) := by
  rw [obsA, List.length_append, obsL_len, (upAll_len nm _ _ (rowL_len nm ps)).1]

/-! ### Good rows -/

theorem rises_pw {l : List (List UInt8)} (h : Rises l) : l.Pairwise (· < ·) := by
  induction l with
  | nil => exact List.Pairwise.nil
  | cons a r ih =>
    have hr : Rises r := fun j x y hx hy => h (j + 1) x y hx hy
    have ih2 := ih hr
    refine List.Pairwise.cons (fun b hb => ?_) ih2
    cases r with
    | nil => cases hb
    | cons c r2 =>
      have hac : a < c := h 0 a c rfl rfl
      rcases List.mem_cons.1 hb with rfl | hb
      · exact hac
      · exact List.lt_trans hac ((List.pairwise_cons.1 ih2).1 b hb)
theorem pw_rises {l : List (List UInt8)} (h : l.Pairwise (· < ·)) : Rises l := fun j a b ha hb => by
  obtain ⟨h1, rfl⟩ := List.getElem?_eq_some_iff.1 ha
  obtain ⟨h2, rfl⟩ := List.getElem?_eq_some_iff.1 hb
  exact List.pairwise_iff_getElem.1 h j (j + 1) h1 h2 (by omega)
theorem heads_sub {α : Type} : ∀ (L : List (List (List UInt8 × α))), (∀ g ∈ L, 0 < g.length) → (L.map headK).Sublist (L.flatten.map (·.1))
  | [], _ => List.Sublist.slnil
  | g :: L, h => by
    have ih := heads_sub L fun x hx => h x (List.mem_cons_of_mem _ hx)
    cases g with
    | nil => exact absurd (h [] (by simp)) (by simp)
    | cons x xs =>
      show (x.1 :: L.map headK).Sublist (((x :: xs) ++ L.flatten).map (·.1))
      rw [List.cons_append, List.map_cons, List.map_append]
      exact List.Sublist.cons_cons _ (ih.trans (List.sublist_append_right _ _))
structure GoodRow (K0 : UInt8) (ks : List Kd) : Prop where
  key : ∀ p ∈ ks, p.1.length ≤ 16
  name : ∀ p ∈ ks, goodI p.2.1 = true
  kind : ∀ p ∈ ks, kd p.2 = K0
  rise : (ks.map (·.1)).Pairwise (· < ·)
/-- Names by one hash. -/
def OneKind (K0 : UInt8) (nm : List UInt8 → Idn) : Prop := ∀ bs, goodI (nm bs).1 = true ∧ kd (nm bs) = K0
theorem GoodRow.sub {K0 : UInt8} {a b : List Kd} (h : GoodRow K0 b) (hs : a.Sublist b) : GoodRow K0 a :=
  ⟨fun p hp => h.key p (hs.subset hp), fun p hp => h.name p (hs.subset hp), fun p hp => h.kind p (hs.subset hp), h.rise.sublist (hs.map _)⟩
theorem GoodRow.ks {K0 : UInt8} {g : List Kd} (h : GoodRow K0 g) (h2 : 2 ≤ g.length) (h3 : g.length ≤ 3) : GoodKs g :=
  ⟨h2, h3, h.key, h.name, fun p hp q hq => (h.kind p hp).trans (h.kind q (List.mem_of_getElem? hq)).symm, pw_rises h.rise⟩
theorem headK_mem {α : Type} {g : List (List UInt8 × α)} (h : 0 < g.length) : ∃ p ∈ g, headK g = p.1 := by
  cases g with
  | nil => simp at h
  | cons x xs => exact ⟨x, by simp, rfl⟩
theorem sub_flat {α : Type} {L : List (List α)} {g : List α} (h : g ∈ L) : g.Sublist L.flatten := List.sublist_flatten_of_mem h
theorem GoodRow.up {K0 : UInt8} {nm : List UInt8 → Idn} {ks : List Kd} (h : GoodRow K0 ks) (hn : OneKind K0 nm) (h2 : 2 ≤ ks.length) : GoodRow K0 (rowU nm ks) := by
  have hs := groups_size _ ks rfl h2
  have hf := groups_flat _ ks rfl
  refine ⟨fun p hp => ?_, fun p hp => ?_, fun p hp => ?_, ?_⟩
  · obtain ⟨g, hg, rfl⟩ := List.mem_map.1 hp
    obtain ⟨q, hq, e⟩ := headK_mem (g := g) (by have := (hs g hg).1; omega)
    show (headK g).length ≤ 16
    rw [e]
    exact h.key q (by rw [← hf]; exact (sub_flat hg).subset hq)
  · obtain ⟨g, hg, rfl⟩ := List.mem_map.1 hp
    exact (hn _).1
  · obtain ⟨g, hg, rfl⟩ := List.mem_map.1 hp
    exact (hn _).2
  · have e : (rowU nm ks).map (·.1) = (groups ks).map headK := by rw [rowU, List.map_map]; rfl
    rw [e]
    refine List.Pairwise.sublist (heads_sub _ fun g hg => by have := (hs g hg).1; omega) ?_
    rw [hf]
    exact h.rise
theorem GoodRow.leaf {K0 : UInt8} {nm : List UInt8 → Idn} {ps : List Bp} (h : GoodW ps) (hn : OneKind K0 nm) : GoodRow K0 (rowL nm ps) := by
  unfold rowL
  split
  · refine ⟨fun p hp => ?_, fun p hp => ?_, fun p hp => ?_, List.pairwise_singleton _ _⟩
    · rw [List.mem_singleton.1 hp]
      exact Nat.zero_le _
    · rw [List.mem_singleton.1 hp]
      exact (hn _).1
    · rw [List.mem_singleton.1 hp]
      exact (hn _).2
  · have hs := quads_size _ ps rfl
    have hf := quads_flat _ ps rfl
    refine ⟨fun p hp => ?_, fun p hp => ?_, fun p hp => ?_, ?_⟩
    · obtain ⟨g, hg, rfl⟩ := List.mem_map.1 hp
      obtain ⟨q, hq, e⟩ := headK_mem (g := g) (by have := (hs g hg).1; omega)
      show (headK g).length ≤ 16
      rw [e]
      exact h.key q (by rw [← hf]; exact (sub_flat hg).subset hq)
    · obtain ⟨g, hg, rfl⟩ := List.mem_map.1 hp
      exact (hn _).1
    · obtain ⟨g, hg, rfl⟩ := List.mem_map.1 hp
      exact (hn _).2
    · have e : ((quads ps).map (leafK nm)).map (·.1) = (quads ps).map headK := by rw [List.map_map]; rfl
      rw [e]
      refine List.Pairwise.sublist (heads_sub _ fun g hg => by have := (hs g hg).1; omega) ?_
      rw [hf]
      exact rises_pw h.rise
theorem leaf_good {ps : List Bp} (h : GoodW ps) {g : List Bp} (hg : g ∈ quads ps) : GoodT ⟨g, []⟩ := by
  have hf := quads_flat _ ps rfl
  have hsub : g.Sublist ps := by
    have h1 := sub_flat hg
    rwa [hf] at h1
  exact .inl ⟨rfl, (quads_size _ ps rfl g hg).2, fun p hp => h.key p (hsub.subset hp), fun p hp => h.val p (hsub.subset hp), pw_rises ((rises_pw h.rise).sublist (hsub.map _))⟩
theorem up_good {K0 : UInt8} {ks : List Kd} (h : GoodRow K0 ks) (h2 : 2 ≤ ks.length) {g : List Kd} (hg : g ∈ groups ks) : GoodT ⟨[], g⟩ := by
  have hf := groups_flat _ ks rfl
  have hsub : g.Sublist ks := by
    have h1 := sub_flat hg
    rwa [hf] at h1
  exact .inr ⟨rfl, (h.sub hsub).ks (groups_size _ ks rfl h2 g hg).1 (groups_size _ ks rfl h2 g hg).2⟩

end Go.Proofs.YthbahbcihaebeaaDoor.Cd

/-
  A part of a row whose block's kind is told: making leaves it. Conditions: none.
-/
namespace Go.Proofs.YthbahbcihaebeaaDoor.Cd
open Go.RowKit

section
variable {α : Type} {f : α → List Value} {n : Nat} {T : TypeId} {w w' : World} {B B' g : Nat} {K : Int} {mv v : Value} {l : List α}

theorem RwIn.takeN {A : Option Addr} {m c k : Nat} (h : RwIn f n w B (.slice A m c) l) (hk : k ≤ l.length) : RwIn f n w B (.slice A k c) (l.take k) := by
  obtain ⟨A0, c0, e, h2, h3, h4, h5⟩ := h
  injection e with e1 e2 e3
  subst e1 e3
  have hl : (l.take k).length = k := by rw [List.length_take]; omega
  refine ⟨A, c, by rw [hl], by omega, h3, h4, fun hp => ?_⟩
  obtain ⟨b, off, e, hB, hc⟩ := h5 (by omega)
  refine ⟨b, off, e, hB, fun i p hi j x hj => hc i p ?_ j x hj⟩
  have hik : i < k := by have := (List.getElem?_eq_some_iff.1 hi).1; omega
  rwa [List.getElem?_take_of_lt hik] at hi
theorem RwIn.dropN {b off m c k : Nat} (h : RwIn f n w B (.slice (some ⟨b, off, none⟩) m c) l) (hk : k ≤ l.length) : RwIn f n w B (.slice (some ⟨b, off + k * n, none⟩) (l.length - k) (c - k)) (l.drop k) := by
  obtain ⟨A0, c0, e, h2, h3, h4, h5⟩ := h
  injection e with e1 e2 e3
  subst e1 e3
  refine ⟨_, c - k, by rw [List.length_drop], by rw [List.length_drop]; omega, by omega, (fun e => by cases e), fun hp => ?_⟩
  rw [List.length_drop] at hp
  obtain ⟨b0, off0, e, hB, hc⟩ := h5 (by omega)
  injection e with e
  injection e with e1 e2
  subst e1 e2
  refine ⟨b, off + k * n, rfl, hB, fun i p hi j x hj => ?_⟩
  rw [List.getElem?_drop] at hi
  have h9 := hc (k + i) p hi j x hj
  rwa [show off + (k + i) * n + j = off + k * n + i * n + j by rw [Nat.add_mul]; omega] at h9
theorem RwIn.none0 {b off : Nat} : RwIn f n w B (.slice (some ⟨b, off, none⟩) 0 0) ([] : List α) := ⟨_, 0, rfl, Nat.le_refl _, Nat.zero_le _, (fun e => by cases e), fun h => by simp at h⟩

/-- The block that a slice lies in is of the kind T. -/
def InKind (T : TypeId) (w : World) (v : Value) : Prop := ∃ b off m c, v = .slice (some ⟨b, off, none⟩) m c ∧ ∃ C fr, w.heap[b]? = some (.cells C T fr)
theorem InKind.makes {B0 : Nat} (h : InKind T w v) (hm : MkAt w g K mv) (hg : Makes B0 g w w') (h1 : T ≠ 35) (h2 : T ≠ 47) : InKind T w' v := by
  obtain ⟨b, off, m, c, e, C, fr, hb⟩ := h
  refine ⟨b, off, m, c, e, C, fr, hg.keep b C T fr hb (fun e => ?_) h1⟩
  unfold MkAt at hm
  rw [e, hm] at hb
  injection hb with hb
  injection hb with _ hb
  exact h2 hb.symm
theorem RwIn.makes {B0 : Nat} (h : RwIn f n w B v l) (hi : 0 < l.length → InKind T w v) (hm : MkAt w g K mv) (hg : Makes B0 g w w') (h1 : T ≠ 35) (h2 : T ≠ 47) : RwIn f n w' B v l := by
  obtain ⟨A, c, rfl, k2, k3, k4, k5⟩ := h
  refine ⟨A, c, rfl, k2, k3, k4, fun hp => ?_⟩
  obtain ⟨b, off, e, hB, hc⟩ := k5 hp
  obtain ⟨b1, off1, m, c1, e1, C, fr, hb⟩ := hi hp
  rw [e] at e1
  injection e1 with e1
  injection e1 with e1
  injection e1 with e1 _
  subst e1
  have hk : w'.heap[b]? = w.heap[b]? := (hg.keep b C T fr hb (fun e => by
    unfold MkAt at hm
    rw [e, hm] at hb
    injection hb with hb
    injection hb with _ hb
    exact h2 hb.symm) h1).trans hb.symm
  refine ⟨b, off, e, hB, fun i p hi j x hj => ?_⟩
  have h9 := hc i p hi j x hj
  unfold World.cell? at h9 ⊢
  dsimp only at h9 ⊢
  rw [hk]
  exact h9
theorem OwnRw.makes {B0 : Nat} (h : OwnRw f n T w B v l) (hm : MkAt w g K mv) (hg : Makes B0 g w w') (h1 : T ≠ 35) (h2 : T ≠ 47) : OwnRw f n T w' B v l := by
  refine ⟨h.1, ?_⟩
  rcases h.2 with h4 | ⟨g', cap, cur, rfl, hb, hh, r⟩
  · exact .inl h4
  · refine .inr ⟨g', cap, cur, rfl, hb, hg.keep g' cur T (0, 0) hh (fun e => ?_) h1, r⟩
    unfold MkAt at hm
    rw [e, hm] at hh
    injection hh with hh
    injection hh with _ hh
    exact h2 hh.symm
theorem OwnRw.inKind (h : OwnRw f n T w B v l) (hl : 0 < l.length) : InKind T w v := by
  rcases h.2 with ⟨_, h4⟩ | ⟨g', cap, cur, rfl, hb, hh, r⟩
  · omega
  · exact ⟨g', 0, l.length, cap, rfl, cur, (0, 0), hh⟩
theorem InKind.below (h : InKind T w v) (hr : ∃ A m c, v = .slice A m c ∧ ∀ b off, A = some ⟨b, off, none⟩ → b < B) (hb : Below B w w') : InKind T w' v := by
  obtain ⟨b, off, m, c, e, C, fr, h1⟩ := h
  obtain ⟨A, m2, c2, e2, h2⟩ := hr
  rw [e] at e2
  injection e2 with e2
  exact ⟨b, off, m, c, e, C, fr, (hb.block b (h2 b off e2.symm)).trans h1⟩
end

end Go.Proofs.YthbahbcihaebeaaDoor.Cd

/-
  (*maker).together. Conditions: none. (Printed by tools/gen_tr_tog.py.)
-/
namespace Go.Proofs.YthbahbcihaebeaaDoor.Cd
open Go.RowKit

theorem built_trk (A : Option Addr) (m c : Nat) : Tryd.prog.built 56 [(1, .slice A m c)] = some #[.slice none 0 0, .slice A m c] := by kernel_rfl
theorem exec_build_tr {op : Oper} {a : Act} {w : World} (x : Operand) (ho : op.op = .build 56 #[(1, x)]) (A : Option Addr) (m c : Nat) (hx : a.eval x = .slice A m c) : (execOp a.eval op).run Tryd.prog w = .ok (.value (.agg #[.slice none 0 0, .slice A m c])) w := by
  have h := run_build (P := Tryd.prog) w 56 #[(1, .slice A m c)] _ (built_trk A m c)
  unfold execOp
  simp [ho, hx, h, Result.andThen]
theorem Makes.step {B g : Nat} {w a b : World} (h : Makes B g w a) (hb : Below w.heap.size a b) (hB : B ≤ w.heap.size) : Makes B g w b :=
  ⟨h.below.trans (hb.mono hB), fun j C T fr hj hjg hT => (hb.block j (Array.getElem?_eq_some_iff.1 hj).1).trans (h.keep j C T fr hj hjg hT), fun j o hj hT => (hb.block j (Array.getElem?_eq_some_iff.1 hj).1).trans (h.other j o hj hT)⟩
def lenOf : Value → Nat
  | .slice _ m _ => m
  | _ => 0

set_option maxRecDepth 100000 in
set_option maxHeartbeats 6400000 in
theorem mtog_any (g B : Nat) (K : Int) (K0 : UInt8) (nm : List UInt8 → Idn) (mv v : Value) (made : List Ob) (ks : List Kd) (w : World) (hn : NameOf K nm) (hone : OneKind K0 nm) (hk : KeysIs keysL w) (hm : MkAt w g K mv) (ho : OwnRw obC 34 35 w B mv made) (hB : B ≤ w.heap.size) (hBg : B ≤ g) (hB0 : 0 < B)
    (hks : KsIn w w.heap.size v ks) (hik : InKind 52 w v) (hgood : GoodRow K0 ks) (h2 : 2 ≤ ks.length) (hl : made.length + ks.length ≤ 4096) :
    Calls Tryd.prog 17 #[.pointer (some ⟨g, 0, none⟩), v] w fun e w' => ∃ v', e = .returned v' ∧ Makes B g w w' ∧ OwnRw kkC 34 52 w' w.heap.size v' (rowU nm ks) ∧ ∃ mv', MkAt w' g K mv' ∧ OwnRw obC 34 35 w' B mv' (made ++ obsU nm ks) := by
  obtain ⟨b, off, m0, c, rfl, C0, fr0, hblk⟩ := hik
  obtain ⟨A1, c1, e1, hm1, hm2⟩ := hks.len
  injection e1 with e1 e2 e3
  subst e2
  have hbl : b < w.heap.size := (Array.getElem?_eq_some_iff.1 hblk).1
  have hgl := hm.lt
  have HN := Lib.hid hn
  have HK := Lib.hid hk
  have HKS := Lib.hid hks
  have HBK := Lib.hid hblk
  have HM := Lib.hid hm
  have HO := Lib.hid ho
  have HG := Lib.hid hgood
  have hgl2 : Hid (∀ x ∈ groups ks, GoodT ⟨[], x⟩) := fun x hx => up_good hgood h2 hx
  have hcount : (groups ks).length ≤ ks.length := by rw [groups_len _ ks rfl]; omega
  have hkl : ks.length ≤ 4096 := by omega
  clear hn hk hks hblk hm ho hgood e1 hone
  go_enter Tryd.func17, Tryd.ntmps17
  go_wp2_with fail
  go_loopw [1, 5] (fun v1 v5 wr => ∃ (gs : List (List Kd)) (rest : List Kd) (off c : Nat) (mv : Value), v1 = .slice (some ⟨b, off, none⟩) rest.length c ∧ rest.length ≤ ks.length ∧ Hid (groups ks = gs ++ groups rest) ∧ Hid (KsIn wr w.heap.size v1 rest) ∧ Hid (∃ C fr, wr.heap[b]? = some (.cells C 52 fr)) ∧ Hid (OwnRw kkC 34 52 wr w.heap.size v5 (gs.map (upK nm))) ∧ Hid (Makes B g w wr) ∧ Hid (MkAt wr g K mv) ∧ Hid (OwnRw obC 34 35 wr B mv (made ++ gs.map (upO nm)))) (fun v1 _ _ => lenOf v1)
  case atStart => exact ⟨[], ks, off, c, mv, rfl, by omega, rfl, HKS.out, ⟨_, _, HBK.out⟩, OwnRw.nil _ _, Makes.refl _ _ _, HM.out, by rw [List.map_nil, List.append_nil]; exact HO.out⟩
  case round =>
    obtain ⟨gs, rest, off, c, mv, rfl, hrl, hgr, hkr, hbk, hrow, hmk, hma, hob⟩ := hrel
    by_cases hrest : rest = []
    · have e5 : gs = groups ks := by
        have h9 := hgr.out
        rw [hrest, groups_nil, List.append_nil] at h9
        exact h9.symm
      have HRW := hrow.out
      have HOB := hob.out
      rw [e5] at HRW HOB
      have HRW := Lib.hid HRW
      have HOB := Lib.hid HOB
      have hz0 : rest.length = 0 := by rw [hrest]; rfl
      clear hkr hgr hrow hob hrest
      go_wp2_with fail
      go_ret
      exact ⟨_, rfl, hmk.out, HRW.out, _, hma.out, HOB.out⟩
    · obtain ⟨m, hmN⟩ : ∃ m, nextN rest.length = m := ⟨_, rfl⟩
      have hpos : 0 < rest.length := List.length_pos_iff.2 hrest
      obtain ⟨p0, hp0⟩ : ∃ p, rest[0]? = some p := ⟨rest[0], List.getElem?_eq_getElem hpos⟩
      have hgr2 : groups ks = gs ++ rest.take m :: groups (rest.drop m) := by
        have h9 := hgr.out
        rwa [groups_cons hrest, hmN] at h9
      have hm0 : 0 < m := by rw [← hmN]; exact nextN_pos hpos
      have hmr : m ≤ rest.length := by rw [← hmN]; exact nextN_le _
      obtain ⟨A2, c2, e2, hrc, hcm⟩ := hkr.out.len
      injection e2 with e2a _ e2
      subst e2a e2
      have hmc : (m : Int) ≤ (c : Int) := by omega
      have hnx := nextof_any rest.length wr (by omega)
      rw [hmN] at hnx
      have HNX := Lib.hid hnx
      have HG2 := Lib.hid hgr2
      have HP0 := Lib.hid hp0
      have hGT := hgl2.out (rest.take m) (by rw [hgr2]; simp)
      have HGT := Lib.hid hGT
      clear hnx hgr2 hp0 hgr hrest hmN hGT
      have hpi : (0 : Int) < (rest.length : Int) := by omega
      go_wp2_with fail
      refine HNX.out.mono ?_
      rintro e w3 ⟨rfl, rfl⟩
      go_wp2_with fail
      obtain ⟨W0, hW0⟩ : ∃ x, wr.drew = x := ⟨_, rfl⟩
      obtain ⟨Cb, frb, hbk9⟩ := hbk.out
      have HKR0 : Hid (KsIn W0 w.heap.size (.slice (some ⟨b, off, none⟩) rest.length c) rest) := by rw [← hW0]; exact hkr.out
      have HBK0 : Hid (W0.heap[b]? = some (.cells Cb 52 frb)) := by rw [← hW0]; exact hbk9
      have HRW0 : Hid (OwnRw kkC 34 52 W0 w.heap.size u5 (gs.map (upK nm))) := by rw [← hW0]; exact hrow.out
      have HMK0 : Hid (Makes B g w W0) := by rw [← hW0]; exact ⟨hmk.out.below.drew, fun j C T fr hj hjg hT => hmk.out.keep j C T fr hj hjg hT, fun j o hj hT => hmk.out.other j o hj hT⟩
      have HMA0 : Hid (MkAt W0 g K mv) := by rw [← hW0]; exact hma.out
      have HOB0 : Hid (OwnRw obC 34 35 W0 B mv (made ++ gs.map (upO nm))) := by rw [← hW0]; exact hob.out
      have hk0 : KeysIs keysL W0 := HK.out.below HMK0.out.below hB0
      have hz0 : w.heap.size ≤ W0.heap.size := HMK0.out.below.size
      have hgsl : gs.length + 1 ≤ (groups ks).length := by rw [HG2.out]; simp
      have hS0 : W0.cell? ⟨b, off, none⟩ = some (.string ⟨p0.1.toArray⟩) := by
        obtain ⟨b9, off9, e9, _, hr9⟩ := KsIn.range HKR0.out HP0.out
        injection e9 with e9
        injection e9 with e9 e8
        subst e9 e8
        have h9 := range_key hr9
        rwa [show off + 0 * 34 = off by omega] at h9
      clear hkr hbk hbk9 hrow hmk hma hob
      refine region_begin hW0 (S := fun W => W.cell? ⟨b, off, none⟩ = some (.string ⟨p0.1.toArray⟩)) (by kernel_rfl) hS0 (fun hHeld => ?_)
      clear hW0 hHeld
      have hHeld := hS0
      refine take_at (i := 0) (u5) (some 13) (by decide) (by rfl) (by kernel_rfl) (by kernel_rfl) (by kernel_rfl) (fun _ _ _ h => h) (by rfl) (fun W hW => by go_simp) (by assumption) ?_
      try simp only [Act.put, List.setIfInBounds_toArray, List.set_cons_zero, List.set_cons_succ]
      refine take_at (i := 1) (.pointer (some ⟨g, 0, none⟩)) (some 14) (by decide) (by rfl) (by kernel_rfl) (by kernel_rfl) (by kernel_rfl) (fun _ _ _ h => h) (by rfl) (fun W hW => by go_simp) (by assumption) ?_
      try simp only [Act.put, List.setIfInBounds_toArray, List.set_cons_zero, List.set_cons_succ]
      refine take_at (i := 2) (.slice (some ⟨b, off, none⟩) rest.length c) (some 15) (by decide) (by rfl) (by kernel_rfl) (by kernel_rfl) (by kernel_rfl) (fun _ _ _ h => h) (by rfl) (fun W hW => by go_simp) (by assumption) ?_
      try simp only [Act.put, List.setIfInBounds_toArray, List.set_cons_zero, List.set_cons_succ]
      refine take_at (i := 3) (.pointer (some ⟨b, off, none⟩)) (some 16) (by decide) (by rfl) (by kernel_rfl) (by kernel_rfl) (by kernel_rfl) (fun _ _ _ h => h) (by rfl) (fun W hW => by go_simp) (by assumption) ?_
      try simp only [Act.put, List.setIfInBounds_toArray, List.set_cons_zero, List.set_cons_succ]
      refine take_at (i := 4) (.pointer (some ⟨b, off, none⟩)) (some 17) (by decide) (by rfl) (by kernel_rfl) (by kernel_rfl) (by kernel_rfl) (fun _ _ _ h => h) (by rfl) (fun W hW => by go_simp) (by assumption) ?_
      try simp only [Act.put, List.setIfInBounds_toArray, List.set_cons_zero, List.set_cons_succ]
      refine take_at (i := 5) (.string ⟨p0.1.toArray⟩) (some 18) (by decide) (by rfl) (by kernel_rfl) (by kernel_rfl) (by kernel_rfl) (fun _ _ _ h => h) (by rfl) (fun W hW => by have h9 : W.cell? ⟨b, off, none⟩ = some (.string ⟨p0.1.toArray⟩) := hW; go_simp) (by assumption) ?_
      try simp only [Act.put, List.setIfInBounds_toArray, List.set_cons_zero, List.set_cons_succ]
      refine take_at (i := 6) (.slice (some ⟨b, off, none⟩) rest.length c) (some 19) (by decide) (by rfl) (by kernel_rfl) (by kernel_rfl) (by kernel_rfl) (fun _ _ _ h => h) (by rfl) (fun W hW => by go_simp) (by assumption) ?_
      try simp only [Act.put, List.setIfInBounds_toArray, List.set_cons_zero, List.set_cons_succ]
      refine take_at (i := 7) (.int .i64 (m : Nat)) (some 20) (by decide) (by rfl) (by kernel_rfl) (by kernel_rfl) (by kernel_rfl) (fun _ _ _ h => h) (by rfl) (fun W hW => by go_simp) (by assumption) ?_
      try simp only [Act.put, List.setIfInBounds_toArray, List.set_cons_zero, List.set_cons_succ]
      refine take_at (i := 8) (.slice (some ⟨b, off, none⟩) m c) (some 21) (by decide) (by rfl) (by kernel_rfl) (by kernel_rfl) (by kernel_rfl) (fun _ _ _ h => h) (by rfl) (fun W hW => by have h8 : (m : Int) ≤ (c : Int) := hmc; go_simp) (by assumption) ?_
      try simp only [Act.put, List.setIfInBounds_toArray, List.set_cons_zero, List.set_cons_succ]
      refine take_at (i := 9) (.agg #[.slice none 0 0, .slice (some ⟨b, off, none⟩) m c]) (some 22) (by decide) (by rfl) (by kernel_rfl) (by kernel_rfl) (by kernel_rfl) (fun _ _ _ h => h) (by rfl) (fun W hW => by exact exec_build_tr _ rfl _ _ _ rfl) (by assumption) ?_
      try simp only [Act.put, List.setIfInBounds_toArray, List.set_cons_zero, List.set_cons_succ]
      refine wpAnyH_ready (rs := [10]) (by kernel_rfl) (by simp) (AllReadyH.cons (Array.getElem?_eq_getElem (i := 10) (by decide)) (fun K9 hK => ?_) AllReadyH.nil)
      go_simp
      refine (madd_any g B K nm mv (made ++ gs.map (upO nm)) p0.1 (.agg #[.slice none 0 0, .slice (some ⟨b, off, none⟩) m c]) ⟨[], rest.take m⟩ W0 HN.out hk0 HMA0.out HOB0.out (by omega) hBg hB0 ⟨_, _, rfl, RwIn.nil _ _, (RwIn.takeN HKR0.out hmr).more hz0⟩ HGT.out (by rw [List.length_append, List.length_map]; omega)).mono ?_
      rintro e w5 ⟨rfl, hmk5, mv5, hma5, hob5⟩
      obtain ⟨p5, hp5⟩ : ∃ p : Kd, (p0.1, nm (treeB ⟨[], rest.take m⟩)) = p := ⟨_, rfl⟩
      rw [hp5]
      have hneg : b ≠ g := fun e => by
        have h1 := HBK0.out
        have h2 := HMA0.out
        unfold MkAt at h2
        rw [e, h2] at h1
        injection h1 with h1
        injection h1 with _ h1
        exact absurd h1 (by decide)
      have hb5 : w5.heap[b]? = some (.cells Cb 52 frb) := hmk5.keep b Cb 52 frb HBK0.out hneg (by decide)
      have hS5 : w5.cell? ⟨b, off, none⟩ = some (.string ⟨p0.1.toArray⟩) := by
        have h9 := hS0
        unfold World.cell? at h9 ⊢
        dsimp only at h9 ⊢
        rw [hb5]
        rw [HBK0.out] at h9
        exact h9
      have HKR5 : Hid (KsIn w5 w.heap.size (.slice (some ⟨b, off, none⟩) rest.length c) rest) := RwIn.makes (T := 52) HKR0.out (fun _ => ⟨b, off, _, _, rfl, _, _, HBK0.out⟩) HMA0.out hmk5 (by decide) (by decide)
      have HRW5 : Hid (OwnRw kkC 34 52 w5 w.heap.size u5 (gs.map (upK nm))) := OwnRw.makes HRW0.out HMA0.out hmk5 (by decide) (by decide)
      have HMK5 := Lib.hid (HMK0.out.trans hmk5)
      have HMA5 := Lib.hid hma5
      have HOB5 := Lib.hid hob5
      have HP5 := Lib.hid hp5
      have hz5 : w.heap.size ≤ w5.heap.size := HMK5.out.below.size
      clear hmk5 hma5 hob5 hp5 HKR0 HBK0 HRW0 HMK0 HMA0 HOB0 hk0
      refine hK.out _ _ hS5 (fun hHeld => ?_)
      clear hK K9 hHeld
      try simp only [Act.put, List.setIfInBounds_toArray, List.set_cons_zero, List.set_cons_succ]
      have hnb : Below w.heap.size w5 (w5.alloc (.cells (kkC p5).toArray 52)) := (new_below w5 _).mono hz5
      have hS6 : (w5.alloc (.cells (kkC p5).toArray 52)).cell? ⟨b, off, none⟩ = some (.string ⟨p0.1.toArray⟩) := (hnb.cell (p := ⟨b, off, none⟩) hbl).trans hS5
      have hb6 : (w5.alloc (.cells (kkC p5).toArray 52)).heap[b]? = some (.cells Cb 52 frb) := (hnb.block b hbl).trans hb5
      have HKR6 : Hid (KsIn (w5.alloc (.cells (kkC p5).toArray 52)) w.heap.size (.slice (some ⟨b, off, none⟩) rest.length c) rest) := RwIn.below HKR5.out hnb
      have HRW6 : Hid (OwnRw kkC 34 52 (w5.alloc (.cells (kkC p5).toArray 52)) w.heap.size u5 (gs.map (upK nm))) := HRW5.out.alloc _
      have HMK6 : Hid (Makes B g w (w5.alloc (.cells (kkC p5).toArray 52))) := HMK5.out.step hnb hB
      have HMA6 : Hid (MkAt (w5.alloc (.cells (kkC p5).toArray 52)) g K mv5) := HMA5.out.on (new_below _ _)
      have HOB6 : Hid (OwnRw obC 34 35 (w5.alloc (.cells (kkC p5).toArray 52)) B mv5 ((made ++ gs.map (upO nm)) ++ [(nm (treeB ⟨[], rest.take m⟩), treeB ⟨[], rest.take m⟩)])) := HOB5.out.alloc _
      have HX6 : Hid (RwIn kkC 34 (w5.alloc (.cells (kkC p5).toArray 52)) (w5.heap.size + 1) (.slice (some ⟨w5.heap.size, 0, none⟩) 1 1) [p5]) := rw_one kind_kk w5 p5 52 _ rfl
      have hz6 : w.heap.size ≤ (w5.alloc (.cells (kkC p5).toArray 52)).heap.size := by rw [asz]; omega
      refine wpAnyH_ready (rs := [11]) (by kernel_rfl) (by simp) (AllReadyH.cons (Array.getElem?_eq_getElem (i := 11) (by decide)) (fun K9 hK => ?_) AllReadyH.nil)
      refine step_one kind_kk (by omega) rfl _ rfl p5 rfl ?_
      refine hK.out _ _ hS6 (fun hHeld => ?_)
      clear hK K9 hHeld hS5 hb5 HKR5 HRW5 HMK5 HMA5 HOB5
      try simp only [Act.put, List.setIfInBounds_toArray, List.set_cons_zero, List.set_cons_succ]
      generalize w5.alloc (.cells (kkC p5).toArray 52) = w6 at *
      refine wpAnyH_ready (rs := [12]) (by kernel_rfl) (by simp) (AllReadyH.cons (Array.getElem?_eq_getElem (i := 12) (by decide)) (fun K9 hK => ?_) AllReadyH.nil)
      refine step_append_rw kind_kk rfl _ _ rfl rfl HRW6.out hz6 (.slice (some ⟨w5.heap.size, 0, none⟩) 1 1) _ [p5] rfl HX6.out (by rw [List.length_map, List.length_singleton]; omega) ?_
      intro v7 w7 ho7 hb7 hg7
      have hS7 : w7.cell? ⟨b, off, none⟩ = some (.string ⟨p0.1.toArray⟩) := (hb7.cell (p := ⟨b, off, none⟩) hbl).trans hS6
      have HBK7 : Hid (w7.heap[b]? = some (.cells Cb 52 frb)) := (hb7.block b hbl).trans hb6
      have HKR7 : Hid (KsIn w7 w.heap.size (.slice (some ⟨b, off, none⟩) rest.length c) rest) := RwIn.below HKR6.out hb7
      have HRW7 := Lib.hid ho7
      have HMK7 : Hid (Makes B g w w7) := HMK6.out.step hb7 hB
      have HMA7 : Hid (MkAt w7 g K mv5) := (hb7.block g hgl).trans HMA6.out
      have HOB7 := Lib.hid (HOB6.out.apart hg7 (rows_apart HRW6.out HOB6.out (by decide)))
      obtain ⟨A7, c7, e7, _, _⟩ := (ho7.rwIn kind_kk).len
      subst e7
      clear ho7 hb7 hg7 hS6 hb6 HKR6 HRW6 HMK6 HMA6 HOB6 HX6 hz6 hnb
      refine hK.out _ _ hS7 (fun hHeld => ?_)
      clear hK K9
      try simp only [Act.put, List.setIfInBounds_toArray, List.set_cons_zero, List.set_cons_succ]
      refine take_at (i := 13) (.slice A7 (gs.map (upK nm) ++ [p5]).length c7) (some 5) (by decide) (by rfl) (by kernel_rfl) (by kernel_rfl) (by kernel_rfl) (fun _ _ _ h => h) (by rfl) (fun W hW => by go_simp) (by assumption) ?_
      try simp only [Act.put, List.setIfInBounds_toArray, List.set_cons_zero, List.set_cons_succ]
      refine wpAnyH_done (by kernel_rfl) ?_ _
      try simp only [Act.put, List.setIfInBounds_toArray, List.set_cons_zero, List.set_cons_succ]
      have hp5 : p5 = upK nm (rest.take m) := by
        rw [← HP5.out]
        have e9 : headK (rest.take m) = p0.1 := by
          unfold headK
          rw [List.head?_take, if_neg (by omega), List.head?_eq_getElem?, HP0.out]
          rfl
        show _ = (headK (rest.take m), nm (treeB ⟨[], rest.take m⟩))
        rw [e9]
      have HRW8 : Hid (OwnRw kkC 34 52 w7 w.heap.size (.slice A7 (gs.length + 1) c7) ((gs ++ [rest.take m]).map (upK nm))) := by
        have h9 := HRW7.out
        rw [show (gs.map (upK nm) ++ [p5]).length = gs.length + 1 by simp] at h9
        rw [List.map_append, List.map_singleton, ← hp5]
        exact h9
      have HOB8 : Hid (OwnRw obC 34 35 w7 B mv5 (made ++ (gs ++ [rest.take m]).map (upO nm))) := by
        have h9 := HOB7.out
        rw [List.map_append, List.map_singleton, ← List.append_assoc]
        exact h9
      have HG8 : Hid (groups ks = (gs ++ [rest.take m]) ++ groups (rest.drop m)) := by
        rw [HG2.out, List.append_assoc]
        rfl
      have hdl : (rest.drop m).length = rest.length - m := List.length_drop
      clear HRW7 HOB7 hHeld hS0 hS7 hp5 HP5 HP0 HG2 HGT
      by_cases hcm2 : c = m
      · have hrm : rest.length = m := by omega
        have HKR8 : Hid (KsIn w7 w.heap.size (.slice (some ⟨b, off, none⟩) 0 0) (rest.drop m)) := by
          rw [List.eq_nil_of_length_eq_zero (l := rest.drop m) (by omega)]
          exact RwIn.none0
        have hd0 : (rest.drop m).length = 0 := by omega
        subst hcm2
        go_wp2_with fail
        go_roundw
        case rel => exact ⟨gs ++ [rest.take c], rest.drop c, off, 0, mv5, by rw [hd0], by omega, HG8.out, HKR8.out, ⟨_, _, HBK7.out⟩, HRW8.out, HMK7.out, HMA7.out, HOB8.out⟩
        case measure => simp [lenOf]; omega
      · have HKR8 : Hid (KsIn w7 w.heap.size (.slice (some ⟨b, off + m * 34, none⟩) (rest.length - m) (c - m)) (rest.drop m)) := RwIn.dropN HKR7.out hmr
        go_wp2_with fail
        go_roundw
        case rel => exact ⟨gs ++ [rest.take m], rest.drop m, off + m * 34, c - m, mv5, by rw [hdl], by omega, HG8.out, HKR8.out, ⟨_, _, HBK7.out⟩, HRW8.out, HMK7.out, HMA7.out, HOB8.out⟩
        case measure => simp [lenOf]; omega

end Go.Proofs.YthbahbcihaebeaaDoor.Cd

/-
  The three objects of the tree that the document's example makes by Sha: their bytes, their names. Conditions: none.
-/
namespace Go.Proofs.YthbahbcihaebeaaDoor.Cd
open Go.RowKit

def nmS (bs : List UInt8) : Idn := ⟨ofS (shaS keysL bs), ofS_length _⟩
def ps5a : List Bp := [([97], []), ([98], []), ([99], []), ([100], [])]
def ps5b : List Bp := [([101], [53])]
def ob5a : Ob := (nmS (treeB ⟨ps5a, []⟩), treeB ⟨ps5a, []⟩)
def ob5b : Ob := (nmS (treeB ⟨ps5b, []⟩), treeB ⟨ps5b, []⟩)
def ks5 : List Kd := [([97], ob5a.1), ([101], ob5b.1)]
def ob5 : Ob := (nmS (treeB ⟨[], ks5⟩), treeB ⟨[], ks5⟩)
set_option maxRecDepth 100000 in
theorem ob5_names : (ob5b.1.1 == ob5.1.1) = false := by decide +kernel

end Go.Proofs.YthbahbcihaebeaaDoor.Cd

/-
  Maps by names, of bytes: a pool's. Conditions: none.
-/
namespace Go.Proofs.YthbahbcihaebeaaDoor.Cd
open Go.RowKit Go.Maps

theorem mapM_some {α β : Type} {f : α → Option β} {g : α → β} : ∀ (l : List α), (∀ x ∈ l, f x = some (g x)) → l.mapM f = some (l.map g)
  | [], _ => rfl
  | x :: r, h => by
    rw [List.mapM_cons, h x List.mem_cons_self, mapM_some r fun y hy => h y (List.mem_cons_of_mem _ hy)]
    rfl
def litB (c : UInt8) : Lit := .int .u8 c.toNat
theorem lit_byte (d : Nat) (c : UInt8) : Tryd.prog.keyLits (d + 1) 5 [.int .u8 c.toNat] = some [litB c] := by
  have hc := c.toNat_lt
  have hw : (Lit.int .u8 (c.toNat : Int)).wf = true := WalkArith.wf_u8 ⟨by omega, by omega⟩
  unfold Program.keyLits
  rw [Tryd.underlying5]
  simp [hw, litB]
set_option maxRecDepth 100000 in
theorem lits_sum (d : Nat) (s : List UInt8) (hs : s.length = 32) : Tryd.prog.keyLits (d + 1 + 1) 25 (vb s) = some (s.map litB) := by
  have hc : Tryd.prog.cellsOf 25 = 32 := by kernel_rfl
  have hc1 : Tryd.prog.cellsOf 5 = 1 := by kernel_rfl
  unfold Program.keyLits
  rw [Tryd.underlying25]
  simp only [hc, hc1, vb_length, hs, if_true, Nat.mul_one]
  have h := mapM_some (f := fun i => Tryd.prog.keyLits (d + 1) 5 (((vb s).drop i).take 1)) (g := fun i => [litB (s.getD i 0)]) (List.range 32) (fun i hi => by
    have hi2 : i < s.length := by rw [hs]; exact List.mem_range.1 hi
    have e : ((vb s).drop i).take 1 = [.int .u8 (s[i]).toNat] := by
      rw [List.drop_eq_getElem_cons (by rw [vb_length]; exact hi2)]
      simp [vb]
    have e2 : s.getD i 0 = s[i] := by rw [List.getD_eq_getElem?_getD, List.getElem?_eq_getElem hi2]; rfl
    rw [e, e2]
    exact lit_byte d _)
  rw [h]
  simp only [Option.map_some]
  congr 1
  apply List.ext_getElem?
  intro i
  have hf : ((List.range 32).map fun i => [litB (s.getD i 0)]).flatten = (List.range 32).map fun i => litB (s.getD i 0) := by
    generalize List.range 32 = r
    induction r with
    | nil => rfl
    | cons x r ih => rw [List.map_cons, List.flatten_cons, ih]; rfl
  rw [hf, List.getElem?_map, List.getElem?_map]
  by_cases hi : i < 32
  · rw [List.getElem?_range hi, List.getElem?_eq_getElem (by omega)]
    simp only [Option.map_some]
    rw [List.getD_eq_getElem?_getD, List.getElem?_eq_getElem (by omega)]
    rfl
  · rw [List.getElem?_eq_none (by simp; omega), List.getElem?_eq_none (by omega)]
    rfl
set_option maxRecDepth 100000 in
theorem id_key (l : List UInt8) (hl : l.length = 33) : keyOf Tryd.prog 27 (idV l) = some (.string (keyBytes (l.map litB))) := by
  match l, hl with
  | k :: s, hl =>
    have hs : s.length = 32 := by simpa using hl
    have hk : Tryd.prog.keyType 27 = true := by kernel_rfl
    have hc : Tryd.prog.cellsOf 27 = 33 := by kernel_rfl
    have hc1 : Tryd.prog.cellsOf 5 = 1 := by kernel_rfl
    have hc2 : Tryd.prog.cellsOf 25 = 32 := by kernel_rfl
    have hf : (idV (k :: s)).formed Tryd.prog 27 = true := by simp [Value.formed, idV, Tryd.underlying27, hc, vb_length, hs]
    obtain ⟨m, hm⟩ : ∃ m, Tryd.prog.types.size = m + 1 + 1 := ⟨_, (by kernel_rfl : Tryd.prog.types.size = (Tryd.prog.types.size - 2) + 1 + 1)⟩
    unfold keyOf
    rw [Tryd.underlying27]
    simp only [hk, hf, hm, Bool.and_self, if_true]
    have h1 := lit_byte (m + 1) k
    have h2 := lits_sum m s hs
    have e1 : (Value.cells (idV (k :: s))).toList = .int .u8 k.toNat :: vb s := rfl
    rw [e1]
    have e2 : (Value.int .u8 k.toNat :: vb s).length = 33 := by simp [vb_length, hs]
    unfold Program.keyLits
    rw [Tryd.underlying27]
    have t1 : List.take 1 (List.drop 0 (Value.int .u8 k.toNat :: vb s)) = [.int .u8 k.toNat] := rfl
    have t2 : List.take 32 (List.drop 1 (Value.int .u8 k.toNat :: vb s)) = vb s := by
      show List.take 32 (vb s) = _
      exact List.take_of_length_le (by rw [vb_length, hs]; exact Nat.le_refl _)
    simp only [hc, e2, List.mapM_cons, List.mapM_nil, hc1, hc2, t1, t2, h1, h2]
    simp

theorem vb_one_inj : ∀ {a b : List UInt8}, vb a = vb b → a = b
  | [], [], _ => rfl
  | [], _ :: _, h => by simp [vb] at h
  | _ :: _, [], h => by simp [vb] at h
  | x :: r, y :: s, h => by
    simp only [vb, List.map_cons, List.cons.injEq, Value.int.injEq, true_and] at h
    have h1 : x = y := UInt8.toNat_inj.1 (by omega)
    rw [h1, vb_one_inj (a := r) (b := s) h.2]
/-- map[Id]string. -/
def idK : MKind Idn (List UInt8) where
  T := 57
  K := 27
  E := 9
  R := fun v => match v with
    | .string s => some (.lit (.string s.data.toList), [])
    | _ => none
  key := fun n => idV n.1
  ok := fun _ => True
  lit := fun n => .string (keyBytes (n.1.map litB))
  val := fun s => .string ⟨s.toArray⟩
  okv := fun _ => True
  dat := fun s => .lit (.string s)
  z0 := []
  law := Keyed.of_law (deep_law_laid laid_out (m := 3) (by omega) (of_decide_eq_true (by kernel_rfl)) (by kernel_rfl) (by kernel_rfl))
  under := Tryd.underlying57
  keyed := fun {x} _ => id_key x.1 x.2
  one := fun {x y} h => by
    have h1 : (vb x.1).toArray = (vb y.1).toArray := by injection h
    have h2 : vb x.1 = vb y.1 := by simpa using congrArg Array.toList h1
    exact Subtype.ext (vb_one_inj h2)
  read := fun {v} _ => by simp
  inv := fun {u v ps} h => by
    split at h
    · rename_i s
      simp only [Option.some.injEq, Prod.mk.injEq, DataW.lit.injEq, Lit.string.injEq] at h
      refine ⟨?_, trivial⟩
      rw [← h.1]
    · cases h
  okz := trivial
  zero := fun w => Tryd.zeroValue9 w

end Go.Proofs.YthbahbcihaebeaaDoor.Cd

/-
  A pool: NewPool, Put, Object. Conditions: none.
-/
namespace Go.Proofs.YthbahbcihaebeaaDoor.Cd
open Go.RowKit Go.Maps

theorem zero_ob (W : World) : (zeroValue 35).run Tryd.prog W = .ok (.agg (vb (zer 33) ++ [Value.string ByteArray.empty]).toArray) W := by kernel_rfl
theorem size_ob : (Tryd.prog.info? 35).map (·.size) = some 34 := by kernel_rfl
theorem ob_range {w : World} {g : Nat} {o : Ob} (h : w.heap[g]? = some (.cells (obC o).toArray 35)) : w.rangeAt g 0 (vb o.1.1) := fun j v hv => by
  rw [Nat.zero_add, cell_of_row _ _ _ _ _ _ h, List.getElem?_toArray]
  unfold obC
  rw [List.getElem?_append_left (List.getElem?_eq_some_iff.1 hv).1]
  exact hv
theorem ob_data {w : World} {g : Nat} {o : Ob} (h : w.heap[g]? = some (.cells (obC o).toArray 35)) : w.cell? ⟨g, 33, none⟩ = some (.string ⟨o.2.toArray⟩) := by
  rw [cell_of_row _ _ _ _ _ _ h, List.getElem?_toArray]
  unfold obC
  rw [List.getElem?_append_right (by rw [vb_length, o.1.2]; omega), vb_length, o.1.2]
  rfl
/-- A pool at g, its map at b: n objects, the function q. -/
def PoolAt (w : World) (g b n : Nat) (q : Idn → Option (List UInt8)) : Prop := b ≠ g ∧ w.heap[g]? = some (.cells #[.map (some b)] 59) ∧ MapF idK w b n q
theorem PoolAt.c0 {w : World} {g b n : Nat} {q : Idn → Option (List UInt8)} (h : PoolAt w g b n q) : w.cell? ⟨g, 0, none⟩ = some (.map (some b)) := cell_of_row _ _ _ _ _ _ h.2.1
theorem PoolAt.lt {w : World} {g b n : Nat} {q : Idn → Option (List UInt8)} (h : PoolAt w g b n q) : g < w.heap.size ∧ b < w.heap.size := ⟨(Array.getElem?_eq_some_iff.1 h.2.1).1, h.2.2.lt⟩
theorem PoolAt.on {w w' : World} {g b n : Nat} {q : Idn → Option (List UInt8)} (h : PoolAt w g b n q) (hb : Below w.heap.size w w') : PoolAt w' g b n q := ⟨h.1, (hb.block g h.lt.1).trans h.2.1, h.2.2.below hb h.lt.2⟩
/-- Objects that are put: the last one of a name stands. -/
def putQ (q : Idn → Option (List UInt8)) : List Ob → Idn → Option (List UInt8)
  | [] => q
  | o :: r => putQ (upd q o.1 (some o.2)) r
theorem putQ_snoc (l : List Ob) : ∀ (q : Idn → Option (List UInt8)) (o : Ob), putQ q (l ++ [o]) = upd (putQ q l) o.1 (some o.2) := by
  induction l with
  | nil => intro q o; rfl
  | cons x r ih => intro q o; exact ih _ o

set_option maxRecDepth 100000 in
set_option maxHeartbeats 1600000 in
theorem pnew_any (w : World) : Calls Tryd.prog 12 #[] w fun e w' => e = .returned (.pointer (some ⟨w.heap.size + 1, 0, none⟩)) ∧ PoolAt w' (w.heap.size + 1) w.heap.size 0 (fun _ => none) ∧ Below w.heap.size w w' := by
  have hz : (w.alloc (.map #[] 0)).heap.size = w.heap.size + 1 := by simp
  have hm : MapF idK ((w.alloc (.map #[] 0)).alloc (.cells #[.map (some w.heap.size)] 59)) w.heap.size 0 (fun _ => none) := (MapF.made idK w).alloc _
  have hc := heap_alloc_new (w.alloc (.map #[] 0)) (.cells #[.map (some w.heap.size)] 59)
  rw [hz] at hc
  have hb : Below w.heap.size w ((w.alloc (.map #[] 0)).alloc (.cells #[.map (some w.heap.size)] 59)) := ((Below.refl _ _).alloc (Nat.le_refl _) _).alloc (by simp) _
  have HP : Hid (PoolAt ((w.alloc (.map #[] 0)).alloc (.cells #[.map (some w.heap.size)] 59)) (w.heap.size + 1) w.heap.size 0 (fun _ => none)) := ⟨by omega, hc, hm⟩
  have HB := Lib.hid hb
  clear hm hc hb hz
  have hmm := @run_makeMap Tryd.prog
  go_enter Tryd.func12, Tryd.ntmps12
  go_wp2_with fail
  go_ret
  exact ⟨rfl, HP.out, HB.out⟩

set_option maxRecDepth 100000 in
set_option maxHeartbeats 6400000 in
theorem pput_any (g b n : Nat) (q : Idn → Option (List UInt8)) (v : Value) (l : List Ob) (w : World) (hp : PoolAt w g b n q) (hv : RwIn obC 34 w w.heap.size v l) (B : Nat) (hBg : B ≤ g) (hBb : B ≤ b) (hvB : RwIn obC 34 w B v l) (hn : n + l.length ≤ 1048576) :
    Calls Tryd.prog 13 #[.pointer (some ⟨g, 0, none⟩), v] w fun e w' => e = .returned (.tuple #[]) ∧ (∃ n', n' ≤ n + l.length ∧ PoolAt w' g b n' (putQ q l)) ∧ Below B w w' := by
  obtain ⟨A, c, rfl, hm1, hm2⟩ := hv.len
  have H := Lib.hid hvB
  have hBw : B ≤ w.heap.size := by have := hp.lt; omega
  have HP0 := Lib.hid hp
  clear hv hvB hp
  go_enter Tryd.func13, Tryd.ntmps13
  go_wp2_with fail
  go_loopw [10] (fun i wr => ∃ (k m : Nat), i = .int .i64 k ∧ k ≤ l.length ∧ m ≤ n + k ∧ Hid (PoolAt wr g b m (putQ q (l.take k))) ∧ Hid (Below B w wr)) (fun i _ => l.length - (intOf i).toNat)
  case atStart => exact ⟨0, n, rfl, by omega, by omega, HP0, Below.refl _ _⟩
  case round =>
    clear HP0
    obtain ⟨k, m, rfl, hk, hmn, HP, HB⟩ := hrel
    by_cases hlt : k < l.length
    · obtain ⟨o, hok⟩ : ∃ o, l[k]? = some o := ⟨l[k], List.getElem?_eq_getElem hlt⟩
      obtain ⟨b2, off2, e2, hB2, hcl⟩ := RwIn.at (H.out.below HB.out) hok
      subst e2
      have hrg : wr.rangeAt b2 (off2 + k * 34) (obC o) := fun j x hx => hcl j x hx
      have HRG := Lib.hid hrg
      have HQ : Hid (upd (putQ q (l.take k)) o.1 (some o.2) = putQ q (l.take (k + 1))) := by
        unfold Hid
        rw [← putQ_snoc, List.take_add_one, hok]
        rfl
      have hlo : (Tryd.prog.info? 35).map (·.size) = some (obC o).length := by rw [obC_len]; exact size_ob
      have hsz : (obC o).toArray.size = 34 := by rw [List.size_toArray, obC_len]
      have HN : Hid (wr.heap[wr.heap.size]? = none) := by unfold Hid; simp
      have hb3 : Below wr.heap.size wr (wr.alloc (.cells (obC o).toArray 35)) := new_below _ _
      have HP3 := Lib.hid (HP.out.on hb3)
      have HX3 := Lib.hid (heap_alloc_new wr (.cells (obC o).toArray 35))
      have HB3 : Hid (Below B w (wr.alloc (.cells (obC o).toArray 35))) := HB.out.trans (hb3.mono (Nat.le_trans hBw HB.out.size))
      have hz3 : wr.heap.size < (wr.alloc (.cells (obC o).toArray 35)).heap.size := by rw [asz]; omega
      have hgl := HP.out.lt
      clear hb3 hrg hcl hok HP HB HN
      go_wp2_with (first
        | (refine wpList_load_mid rfl 35 _ rfl b2 (off2 + k * 34) rfl (obC o) _ HRG.out Tryd.underlying35 rfl hlo ?_)
        | (refine wp_alloc_row zero_ob rfl rfl ?_)
        | (refine wp_fill_row size_ob rfl _ _ rfl (vb (zer 33) ++ [Value.string ByteArray.empty]).toArray (by simp [vb_length, zer_length]) 35 (by first | rfl | simp [Act.eval, Act.put]) (by first | rfl | simp [Act.eval, Act.put]) hsz (fun u hu => kind_ob.one o u (by simpa using hu)) ?_))
      try simp only [Act.put, List.setIfInBounds_toArray, List.set_cons_zero, List.set_cons_succ]
      obtain ⟨ob, hob⟩ : ∃ x, wr.heap.size = x := ⟨_, rfl⟩
      rw [hob] at HX3 hz3 hgl ⊢
      obtain ⟨W0, hW0⟩ : ∃ x, (wr.alloc (.cells (obC o).toArray 35)).drew = x := ⟨_, rfl⟩
      have HX4 : Hid (W0.heap[ob]? = some (.cells (obC o).toArray 35)) := by rw [← hW0]; exact HX3.out
      have HP4 : Hid (PoolAt W0 g b m (putQ q (l.take k))) := by rw [← hW0]; exact HP3.out
      have HB4 : Hid (Below B w W0) := by rw [← hW0]; exact HB3.out.drew
      obtain ⟨w9, hr9, hm9, ht9⟩ := HP4.out.2.2.store (by unfold maxLen; omega) (x := o.1) trivial (v := o.2) trivial
      have hup : (Instr.mapUpdate 57 (.map (some b)) (idV o.1.1) (.string ⟨o.2.toArray⟩)).run Tryd.prog W0 = .ok () w9 := hr9
      have hg9 := ht9.grown
      rw [HQ.out] at hm9
      have HM9 := Lib.hid hm9
      have HG9 := Lib.hid hg9
      clear hr9 hm9 ht9 hg9 HX3 HP3 HB3 HQ HRG
      have hS0 : W0.heap[g]? = some (.cells #[.map (some b)] 59) ∧ W0.heap[ob]? = some (.cells (obC o).toArray 35) := ⟨HP4.out.2.1, HX4.out⟩
      refine region_begin hW0 (S := fun W => W.heap[g]? = some (.cells #[.map (some b)] 59) ∧ W.heap[ob]? = some (.cells (obC o).toArray 35)) (by kernel_rfl) hS0 (fun hHeld => ?_)
      clear hW0 hHeld hob
      have hHeld := hS0
      refine take_at (i := 0) (.pointer (some ⟨g, 0, none⟩)) (some 14) (by decide) (by rfl) (by kernel_rfl) (by kernel_rfl) (by kernel_rfl) (fun _ _ _ h => h) (by rfl) (fun W hW => by go_simp) (by assumption) ?_
      try simp only [Act.put, List.setIfInBounds_toArray, List.set_cons_zero, List.set_cons_succ]
      refine take_at (i := 1) (.pointer (some ⟨g, 0, none⟩)) (some 15) (by decide) (by rfl) (by kernel_rfl) (by kernel_rfl) (by kernel_rfl) (fun _ _ _ h => h) (by rfl) (fun W hW => by go_simp) (by assumption) ?_
      try simp only [Act.put, List.setIfInBounds_toArray, List.set_cons_zero, List.set_cons_succ]
      refine take_at (i := 2) (.pointer (some ⟨g, 0, none⟩)) (some 16) (by decide) (by rfl) (by kernel_rfl) (by kernel_rfl) (by kernel_rfl) (fun _ _ _ h => h) (by rfl) (fun W hW => by go_simp) (by assumption) ?_
      try simp only [Act.put, List.setIfInBounds_toArray, List.set_cons_zero, List.set_cons_succ]
      refine take_at (i := 3) (.map (some b)) (some 17) (by decide) (by rfl) (by kernel_rfl) (by kernel_rfl) (by kernel_rfl) (fun _ _ _ h => h) (by rfl) (fun W hW => by have h9 : W.cell? ⟨g, 0, none⟩ = some (.map (some b)) := cell_of_row _ _ _ _ _ _ hW.1; go_simp) (by assumption) ?_
      try simp only [Act.put, List.setIfInBounds_toArray, List.set_cons_zero, List.set_cons_succ]
      refine take_at (i := 4) (.pointer (some ⟨ob, 0, none⟩)) (some 18) (by decide) (by rfl) (by kernel_rfl) (by kernel_rfl) (by kernel_rfl) (fun _ _ _ h => h) (by rfl) (fun W hW => by go_simp) (by assumption) ?_
      try simp only [Act.put, List.setIfInBounds_toArray, List.set_cons_zero, List.set_cons_succ]
      refine take_at (i := 5) (idV o.1.1) (some 19) (by decide) (by rfl) (by kernel_rfl) (by kernel_rfl) (by kernel_rfl) (fun _ _ _ h => h) (by rfl) (fun W hW => by exact exec_load_mid _ _ rfl ob 0 rfl (vb o.1.1) _ (ob_range hW.2) Tryd.underlying27 rfl (by rw [vb_length, o.1.2]; exact cells_id)) (by assumption) ?_
      try simp only [Act.put, List.setIfInBounds_toArray, List.set_cons_zero, List.set_cons_succ]
      refine take_at (i := 6) (.pointer (some ⟨ob, 33, none⟩)) (some 20) (by decide) (by rfl) (by kernel_rfl) (by kernel_rfl) (by kernel_rfl) (fun _ _ _ h => h) (by rfl) (fun W hW => by go_simp) (by assumption) ?_
      try simp only [Act.put, List.setIfInBounds_toArray, List.set_cons_zero, List.set_cons_succ]
      refine take_at (i := 7) (.string ⟨o.2.toArray⟩) (some 21) (by decide) (by rfl) (by kernel_rfl) (by kernel_rfl) (by kernel_rfl) (fun _ _ _ h => h) (by rfl) (fun W hW => by have h9 := ob_data hW.2; go_simp) (by assumption) ?_
      try simp only [Act.put, List.setIfInBounds_toArray, List.set_cons_zero, List.set_cons_succ]
      have hS9 : w9.heap[g]? = some (.cells #[.map (some b)] 59) ∧ w9.heap[ob]? = some (.cells (obC o).toArray 35) := ⟨(HG9.out.block g HP4.out.lt.1 (fun e => HP4.out.1 (by injection e with e; exact e.symm))).trans hS0.1, (HG9.out.block ob (Array.getElem?_eq_some_iff.1 hS0.2).1 (fun e => by injection e with e; omega)).trans hS0.2⟩
      refine wpAnyH_ready (rs := [8]) (by kernel_rfl) (by simp) (AllReadyH.cons (Array.getElem?_eq_getElem (i := 8) (by decide)) (fun K9 hK => ?_) AllReadyH.nil)
      rw [if_pos (by rfl)]
      unfold Oper.wp
      go_simp
      refine hK.out _ _ hS9 (fun hHeld => ?_)
      clear hK K9
      try simp only [Act.put, List.setIfInBounds_toArray, List.set_cons_zero, List.set_cons_succ]
      refine wpAnyH_done (by kernel_rfl) ?_ _
      try simp only [Act.put, List.setIfInBounds_toArray, List.set_cons_zero, List.set_cons_succ]
      have HP9 : Hid (PoolAt w9 g b (m + if (putQ q (l.take k) o.1).isSome = true then 0 else 1) (putQ q (l.take (k + 1)))) := ⟨HP4.out.1, hS9.1, HM9.out⟩
      have HB9 : Hid (Below B w w9) := HB4.out.grown HG9.out (by have := HB4.out.size; omega) (fun k hk => by injection hk with hk; omega)
      have hm2 : m + (if (putQ q (l.take k) o.1).isSome = true then 0 else 1) ≤ n + (k + 1) := by split <;> omega
      generalize m + (if (putQ q (l.take k) o.1).isSome = true then 0 else 1) = m2 at HP9 hm2
      clear hHeld hS9 hS0 HM9 HG9 HP4 HX4 HB4 hup
      go_wp2_with fail
      go_roundw
      case rel => exact ⟨k + 1, m2, by go_num, by omega, hm2, HP9, HB9⟩
      case measure => simp [intOf]; omega
    · obtain rfl : k = l.length := by omega
      have HP9 : Hid (PoolAt wr g b m (putQ q l)) := by
        have h := HP.out
        rw [List.take_length] at h
        exact h
      clear HP
      go_wp2_with fail
      go_end0
      exact ⟨rfl, ⟨m, hmn, HP9.out⟩, HB.out⟩

set_option maxRecDepth 100000 in
set_option maxHeartbeats 3200000 in
theorem pobj_any (g b n : Nat) (q : Idn → Option (List UInt8)) (x : Idn) (d : List UInt8) (is : Bool) (w : World) (hp : PoolAt w g b n q) (hd : (q x).getD [] = d) (his : (q x).isSome = is) :
    Calls Tryd.prog 96 #[.pointer (some ⟨g, 0, none⟩), idV x.1] w fun e w' => e = .returned (.tuple #[.string ⟨(if is = true then d else []).toArray⟩, .int .i64 (if is = true then 0 else 5)]) ∧ Below w.heap.size w w' := by
  have hb1 : Below w.heap.size w (w.alloc (.cells (vb x.1).toArray 27)) := new_below _ _
  have HP1 := Lib.hid (hp.on hb1)
  have HI1 := Lib.hid (IdAt.new w x.1)
  have HB1 := Lib.hid hb1
  have hx33 : x.1.length = 33 := x.2
  clear hp hb1
  go_enter Tryd.func96, Tryd.ntmps96
  go_wp2_with (refine wp_box_row rfl _ rfl rfl ?_)
  obtain ⟨W0, hW0⟩ : ∃ v, (w.alloc (.cells (vb x.1).toArray 27)).drew = v := ⟨_, rfl⟩
  obtain ⟨ia, hia⟩ : ∃ v, w.heap.size = v := ⟨_, rfl⟩
  have HP2 : Hid (PoolAt W0 g b n q) := by rw [← hW0]; exact HP1.out
  have HI2 : Hid (IdAt W0 ia x.1) := by rw [← hW0, ← hia]; exact HI1.out.drew
  have HB2 : Hid (Below w.heap.size w W0) := by rw [← hW0]; exact HB1.out.drew
  clear HP1 HI1 HB1
  have hS0 : PoolAt W0 g b n q ∧ IdAt W0 ia x.1 := ⟨HP2.out, HI2.out⟩
  rw [hia]
  refine region_begin hW0 (S := fun W => PoolAt W g b n q ∧ IdAt W ia x.1) (by kernel_rfl) hS0 (fun hHeld => ?_)
  clear hW0 hHeld
  have hHeld := hS0
  refine take_at (i := 0) (.pointer (some ⟨g, 0, none⟩)) (some 11) (by decide) (by rfl) (by kernel_rfl) (by kernel_rfl) (by kernel_rfl) (fun _ _ _ h => h) (by rfl) (fun W hW => by go_simp) (by assumption) ?_
  try simp only [Act.put, List.setIfInBounds_toArray, List.set_cons_zero, List.set_cons_succ]
  refine take_at (i := 1) (.pointer (some ⟨g, 0, none⟩)) (some 12) (by decide) (by rfl) (by kernel_rfl) (by kernel_rfl) (by kernel_rfl) (fun _ _ _ h => h) (by rfl) (fun W hW => by go_simp) (by assumption) ?_
  try simp only [Act.put, List.setIfInBounds_toArray, List.set_cons_zero, List.set_cons_succ]
  refine take_at (i := 2) (.pointer (some ⟨g, 0, none⟩)) (some 13) (by decide) (by rfl) (by kernel_rfl) (by kernel_rfl) (by kernel_rfl) (fun _ _ _ h => h) (by rfl) (fun W hW => by go_simp) (by assumption) ?_
  try simp only [Act.put, List.setIfInBounds_toArray, List.set_cons_zero, List.set_cons_succ]
  refine take_at (i := 3) (.map (some b)) (some 14) (by decide) (by rfl) (by kernel_rfl) (by kernel_rfl) (by kernel_rfl) (fun _ _ _ h => h) (by rfl) (fun W hW => by have h9 := hW.1.c0; go_simp) (by assumption) ?_
  try simp only [Act.put, List.setIfInBounds_toArray, List.set_cons_zero, List.set_cons_succ]
  refine take_at (i := 4) (idV x.1) (some 15) (by decide) (by rfl) (by kernel_rfl) (by kernel_rfl) (by kernel_rfl) (fun _ _ _ h => h) (by rfl) (fun W hW => by exact exec_load_id hW.2 hx33 _ rfl rfl) (by assumption) ?_
  try simp only [Act.put, List.setIfInBounds_toArray, List.set_cons_zero, List.set_cons_succ]
  refine take_at (i := 5) (.tuple #[.string ⟨d.toArray⟩, .bool is]) (some 16) (by decide) (by rfl) (by kernel_rfl) (by kernel_rfl) (by kernel_rfl) (fun _ _ _ h => h) (by rfl) (fun W hW => by have h9 : (Instr.lookup 57 (.map (some b)) (idV x.1) true).run Tryd.prog W = .ok (.tuple #[.string ⟨((q x).getD []).toArray⟩, .bool (q x).isSome]) W := hW.1.2.2.look_ok (x := x) trivial; rw [hd, his] at h9; go_simp) (by assumption) ?_
  try simp only [Act.put, List.setIfInBounds_toArray, List.set_cons_zero, List.set_cons_succ]
  refine take_at (i := 6) (.tuple #[.string ⟨d.toArray⟩, .bool is]) (some 10) (by decide) (by rfl) (by kernel_rfl) (by kernel_rfl) (by kernel_rfl) (fun _ _ _ h => h) (by rfl) (fun W hW => by go_simp) (by assumption) ?_
  try simp only [Act.put, List.setIfInBounds_toArray, List.set_cons_zero, List.set_cons_succ]
  refine take_at (i := 7) (.string ⟨d.toArray⟩) (some 17) (by decide) (by rfl) (by kernel_rfl) (by kernel_rfl) (by kernel_rfl) (fun _ _ _ h => h) (by rfl) (fun W hW => by go_simp) (by assumption) ?_
  try simp only [Act.put, List.setIfInBounds_toArray, List.set_cons_zero, List.set_cons_succ]
  refine take_at (i := 8) (.bool is) (some 18) (by decide) (by rfl) (by kernel_rfl) (by kernel_rfl) (by kernel_rfl) (fun _ _ _ h => h) (by rfl) (fun W hW => by go_simp) (by assumption) ?_
  try simp only [Act.put, List.setIfInBounds_toArray, List.set_cons_zero, List.set_cons_succ]
  refine take_at (i := 9) (.string ⟨d.toArray⟩) (some 6) (by decide) (by rfl) (by kernel_rfl) (by kernel_rfl) (by kernel_rfl) (fun _ _ _ h => h) (by rfl) (fun W hW => by go_simp) (by assumption) ?_
  try simp only [Act.put, List.setIfInBounds_toArray, List.set_cons_zero, List.set_cons_succ]
  refine take_at (i := 10) (.bool is) (some 7) (by decide) (by rfl) (by kernel_rfl) (by kernel_rfl) (by kernel_rfl) (fun _ _ _ h => h) (by rfl) (fun W hW => by go_simp) (by assumption) ?_
  try simp only [Act.put, List.setIfInBounds_toArray, List.set_cons_zero, List.set_cons_succ]
  refine wpAnyH_done (by kernel_rfl) ?_ _
  try simp only [Act.put, List.setIfInBounds_toArray, List.set_cons_zero, List.set_cons_succ]
  clear hHeld hS0
  cases is
  · go_wp2_with fail
    go_ret2
    exact ⟨rfl, by rw [← hia]; exact HB2.out⟩
  · go_wp2_with fail
    go_ret2
    exact ⟨rfl, by rw [← hia]; exact HB2.out⟩

end Go.Proofs.YthbahbcihaebeaaDoor.Cd

/-
  tree.read of an object that a pool has. Conditions: none.
-/
namespace Go.Proofs.YthbahbcihaebeaaDoor.Cd
open Go.RowKit

/-- A row whose things begin with a string lies in no box of two slices: a store there leaves it. -/
theorem RwIn.box2 {α : Type} {f : α → List Value} {n : Nat} {w : World} {B g : Nat} {v : Value} {l : List α} (h : RwIn f n w B v l) (hf : ∀ x, ∃ s, (f x)[0]? = some (.string s)) (hg : TrAt w g (.slice none 0 0) (.slice none 0 0)) (a b : Value) :
    RwIn f n ((w.setCell ⟨g, 0, none⟩ a).setCell ⟨g, 1, none⟩ b) B v l := by
  obtain ⟨A, c, h1, h2, h3, h4, h5⟩ := h
  refine ⟨A, c, h1, h2, h3, h4, fun hp => ?_⟩
  obtain ⟨b0, off, e, hB, hc⟩ := h5 hp
  have hne : g ≠ b0 := fun e => by
    obtain ⟨p, hp⟩ : ∃ p, l[0]? = some p := ⟨_, List.getElem?_eq_getElem hp⟩
    obtain ⟨s, hs⟩ := hf p
    have h9 := hc 0 p hp 0 _ hs
    subst e
    unfold TrAt at hg
    simp only [World.cell?, hg] at h9
    rcases off with _ | _ | off <;> simp at h9
  refine ⟨b0, off, e, hB, fun i p hi j x hj => ?_⟩
  have h8 := hc i p hi j x hj
  have e2 : ((w.setCell ⟨g, 0, none⟩ a).setCell ⟨g, 1, none⟩ b).heap[b0]? = w.heap[b0]? := (heap_setCell_other _ ⟨g, 1, none⟩ b0 _ (fun e => hne e.symm)).trans (heap_setCell_other _ ⟨g, 0, none⟩ b0 _ (fun e => hne e.symm))
  unfold World.cell? at h8 ⊢
  dsimp only at h8 ⊢
  rw [e2]
  exact h8

set_option maxRecDepth 100000 in
set_option maxHeartbeats 6400000 in
theorem read_tree (g b n : Nat) (q : Idn → Option (List UInt8)) (t : Tre) (w : World) (hp : PoolAt w g b n q) (hg : GoodT t) (hq : q (nmS (treeB t)) = some (treeB t)) (hk : KeysIs keysL w) :
    Calls Tryd.prog 20 #[.iface 39 (.pointer (some ⟨g, 0, none⟩)), idV (nmS (treeB t)).1] w fun e w' => ∃ y, e = .returned (.tuple #[y, .int .i64 0]) ∧ TreIn w' w'.heap.size y t ∧ Below w.heap.size w w' := by
  have hlen := treeB_small hg
  have HG := Lib.hid hg
  have hgt := fun v W (h : Sl W W.heap.size v (treeB t)) => gett_any v (treeB t) W h (by omega)
  obtain ⟨bs, hbs⟩ : ∃ bs, treeB t = bs := ⟨_, rfl⟩
  rw [hbs] at hq hlen hgt ⊢
  obtain ⟨x, hx⟩ : ∃ x, nmS bs = x := ⟨_, rfl⟩
  rw [hx] at hq ⊢
  have HX := Lib.hid hx
  have hof : ∀ W v, Sl W W.heap.size v bs → KeysIs keysL W → Calls Tryd.prog 29 #[.int .u8 2, v] W (Gives (idV x.1) W) := fun W v h hk => by
    rw [← hx]
    exact of_shaX v bs W h hk (by omega)
  have HOF := Lib.hid hof
  have hx1 : x.1 = 2 :: pad32 (shaS keysL bs) := by rw [← hx]; rfl
  have HX1 := Lib.hid hx1
  have hsz : ∀ W, Calls Tryd.prog 15 #[.int .u8 2] W fun e w' => e = .returned (.int .i64 32) ∧ W = w' := fun W => size_any 2 W
  clear hof hx1
  have HGT := Lib.hid hgt
  have HBS := Lib.hid hbs
  have hx33 : x.1.length = 33 := x.2
  clear hx hgt hbs hg
  have hpo : ∀ W, PoolAt W g b n q → Calls Tryd.prog 96 #[.pointer (some ⟨g, 0, none⟩), idV x.1] W fun e w' => e = .returned (.tuple #[.string ⟨bs.toArray⟩, .int .i64 0]) ∧ Below W.heap.size W w' := fun W h => pobj_any g b n q x bs true W h (by rw [hq]; rfl) (by rw [hq]; rfl)
  have HPO := Lib.hid hpo
  have HP0 := Lib.hid hp
  have HK0 := Lib.hid hk
  clear hpo hp hk hq
  go_enter Tryd.func20, Tryd.ntmps20
  have hI1 := IdAt.new w x.1
  have hI2 := hI1
  unfold IdAt at hI2
  have hI3 : (((w.alloc (.cells (vb x.1).toArray 27)).alloc (.cells #[.slice none 0 0, .slice none 0 0] 56)).heap[w.heap.size]? = some (.cells (vb x.1).toArray 27)) := ((new_below _ _).block _ (Array.getElem?_eq_some_iff.1 hI2).1).trans hI2
  have HI3 := Lib.hid hI3
  clear hI1 hI2 hI3
  have hm : ∀ W, (method 251 39 (.pointer (some ⟨g, 0, none⟩)) "Object").run Tryd.prog W = .ok (96, .pointer (some ⟨g, 0, none⟩)) W := fun _ => by kernel_rfl
  go_wp2_with (first
    | (refine wp_box_row rfl _ rfl rfl ?_)
    | (refine wpList_load_row rfl 27 _ rfl w.heap.size rfl 27 (vb x.1).toArray (0, 0) _ HI3.out Tryd.underlying27 rfl (by rw [vb_size, hx33]; exact cells_id) ?_)
    )
  have hb2 : Below w.heap.size w ((w.alloc (.cells (vb x.1).toArray 27)).alloc (.cells #[.slice none 0 0, .slice none 0 0] 56)) := (new_below _ _).trans ((new_below _ _).mono (by simp))
  have HB2 := Lib.hid hb2
  have HP2 := Lib.hid (HP0.out.on hb2)
  have HK2 := Lib.hid (HK0.out.below hb2 HK0.out.1)
  have HT2 : Hid (((w.alloc (.cells (vb x.1).toArray 27)).alloc (.cells #[.slice none 0 0, .slice none 0 0] 56)).heap[w.heap.size + 1]? = some (.cells #[.slice none 0 0, .slice none 0 0] 56)) := by
    have h9 := heap_alloc_new (w.alloc (.cells (vb x.1).toArray 27)) (.cells #[.slice none 0 0, .slice none 0 0] 56)
    rwa [show (w.alloc (.cells (vb x.1).toArray 27)).heap.size = w.heap.size + 1 by simp] at h9
  have hz2 : ((w.alloc (.cells (vb x.1).toArray 27)).alloc (.cells #[.slice none 0 0, .slice none 0 0] 56)).heap.size = w.heap.size + 2 := by simp
  clear hb2 HP0 HK0
  generalize (w.alloc (.cells (vb x.1).toArray 27)).alloc (.cells #[.slice none 0 0, .slice none 0 0] 56) = w2 at *
  refine (HPO.out w2 HP2.out).mono ?_
  rintro e w3 ⟨rfl, hb3⟩
  have HB3 := Lib.hid (HB2.out.trans (hb3.mono (by omega)))
  have HK3 := Lib.hid (HK2.out.below hb3 HK2.out.1)
  have HI3' : Hid (w3.heap[w.heap.size]? = some (.cells (vb x.1).toArray 27)) := (hb3.block _ (by omega)).trans HI3.out
  have HT3 := Lib.hid ((hb3.block _ (by omega)).trans HT2.out)
  have hz3 : w.heap.size + 2 ≤ w3.heap.size := by have := hb3.size; omega
  clear HI3 HT2 HK2 HP2 HB2 hb3 hz2
  go_wp2_with (first
    | (refine wpList_load_row rfl 27 _ rfl w.heap.size rfl 27 (vb x.1).toArray (0, 0) _ HI3'.out Tryd.underlying27 rfl (by rw [vb_size, hx33]; exact cells_id) ?_)
    | (refine wp_bytes_of rfl _ rfl bs rfl (by omega) ?_))
  intro r c w4 hr4 hrg hb4
  go_wp2_with fail
  obtain ⟨W0, hW0⟩ : ∃ v, w4.drew = v := ⟨_, rfl⟩
  obtain ⟨ia, hia⟩ : ∃ v, w.heap.size = v := ⟨_, rfl⟩
  have HB4 : Hid (Below w.heap.size w W0) := by rw [← hW0]; exact ((HB3.out.trans (hb4.mono (by omega))).drew)
  have HT4 : Hid (W0.heap[w.heap.size + 1]? = some (.cells #[.slice none 0 0, .slice none 0 0] 56)) := by rw [← hW0]; exact (hb4.block _ (by omega)).trans HT3.out
  have hz4 : w.heap.size + 2 ≤ W0.heap.size := by rw [← hW0]; have := hb4.size; show _ ≤ w4.heap.size; omega
  have hS0 : IdAt W0 ia x.1 ∧ Row W0 r c bs ∧ KeysIs keysL W0 := by rw [← hW0, ← hia]; exact ⟨(hb4.block _ (by omega)).trans HI3'.out, hr4, (HK3.out.below hb4.drew HK3.out.1)⟩
  clear HB3 HT3 HI3' HK3 hr4 hb4 hz3
  rw [hia] at HB4 HT4 hz4 ⊢
  have hz5 : ia < W0.heap.size := by omega
  refine region_begin hW0 (S := fun W => IdAt W ia x.1 ∧ Row W r c bs ∧ KeysIs keysL W) (by kernel_rfl) hS0 (fun hHeld => ?_)
  clear hW0 hHeld
  have hHeld := hS0
  refine take_at (i := 0) (.pointer (some ⟨ia, 0, none⟩)) (some 24) (by decide) (by rfl) (by kernel_rfl) (by kernel_rfl) (by kernel_rfl) (fun _ _ _ h => h) (by rfl) (fun W hW => by go_simp) (by assumption) ?_
  try simp only [Act.put, List.setIfInBounds_toArray, List.set_cons_zero, List.set_cons_succ]
  refine take_at (i := 1) (.int .u8 2) (some 25) (by decide) (by rfl) (by kernel_rfl) (by kernel_rfl) (by kernel_rfl) (fun _ _ _ h => h) (by rfl) (fun W hW => by have h9 := hW.1; rw [HX1.out] at h9; have h8 := h9.kind; go_simp) (by assumption) ?_
  try simp only [Act.put, List.setIfInBounds_toArray, List.set_cons_zero, List.set_cons_succ]
  refine wpAnyH_ready (rs := [2]) (by kernel_rfl) (by simp) (AllReadyH.cons (Array.getElem?_eq_getElem (i := 2) (by decide)) (fun K9 hK => ?_) AllReadyH.nil)
  go_simp
  refine (hsz W0).mono ?_
  rintro e W ⟨rfl, rfl⟩
  refine hK.out _ _ (hS0) (fun hHeld => ?_)
  clear hK K9
  try simp only [Act.put, List.setIfInBounds_toArray, List.set_cons_zero, List.set_cons_succ]
  refine take_at (i := 3) (.bool false) (some 27) (by decide) (by rfl) (by kernel_rfl) (by kernel_rfl) (by kernel_rfl) (fun _ _ _ h => h) (by rfl) (fun W hW => by go_simp) (by assumption) ?_
  try simp only [Act.put, List.setIfInBounds_toArray, List.set_cons_zero, List.set_cons_succ]
  refine take_at (i := 4) (.bool false) (some 28) (by decide) (by rfl) (by kernel_rfl) (by kernel_rfl) (by kernel_rfl) (fun _ _ _ h => h) (by rfl) (fun W hW => by go_simp) (by assumption) ?_
  try simp only [Act.put, List.setIfInBounds_toArray, List.set_cons_zero, List.set_cons_succ]
  refine take_at (i := 5) (.pointer (some ⟨ia, 0, none⟩)) (some 29) (by decide) (by rfl) (by kernel_rfl) (by kernel_rfl) (by kernel_rfl) (fun _ _ _ h => h) (by rfl) (fun W hW => by go_simp) (by assumption) ?_
  try simp only [Act.put, List.setIfInBounds_toArray, List.set_cons_zero, List.set_cons_succ]
  refine take_at (i := 6) (.int .u8 2) (some 30) (by decide) (by rfl) (by kernel_rfl) (by kernel_rfl) (by kernel_rfl) (fun _ _ _ h => h) (by rfl) (fun W hW => by have h9 := hW.1; rw [HX1.out] at h9; have h8 := h9.kind; go_simp) (by assumption) ?_
  try simp only [Act.put, List.setIfInBounds_toArray, List.set_cons_zero, List.set_cons_succ]
  refine take_at (i := 7) (.slice (some ⟨r, 0, none⟩) bs.length c) (some 31) (by decide) (by rfl) (by kernel_rfl) (by kernel_rfl) (by kernel_rfl) (fun _ _ _ h => h) (by rfl) (fun W hW => by go_simp) (by assumption) ?_
  try simp only [Act.put, List.setIfInBounds_toArray, List.set_cons_zero, List.set_cons_succ]
  refine take_at (i := 9) (idV x.1) (some 33) (by decide) (by rfl) (by kernel_rfl) (by kernel_rfl) (by kernel_rfl) (fun _ _ _ h => h) (by rfl) (fun W hW => by exact exec_load_id hW.1 hx33 _ rfl rfl) (by assumption) ?_
  try simp only [Act.put, List.setIfInBounds_toArray, List.set_cons_zero, List.set_cons_succ]
  refine wpAnyH_ready (rs := [8]) (by kernel_rfl) (by simp) (AllReadyH.cons (Array.getElem?_eq_getElem (i := 8) (by decide)) (fun K9 hK => ?_) AllReadyH.nil)
  go_simp
  refine (HOF.out W0 _ hS0.2.1.sl hS0.2.2).mono ?_
  rintro e w5 ⟨rfl, hb5⟩
  have hS5 : IdAt w5 ia x.1 ∧ Row w5 r c bs ∧ KeysIs keysL w5 := ⟨hS0.1.below hb5 (by omega), hS0.2.1.keep hb5 hS0.2.1.2.2.1, hS0.2.2.below hb5 hS0.2.2.1⟩
  refine hK.out _ _ (hS5) (fun hHeld => ?_)
  clear hK K9
  try simp only [Act.put, List.setIfInBounds_toArray, List.set_cons_zero, List.set_cons_succ]
  refine take_at (i := 10) (.bool (!(x.1 == x.1))) (some 34) (by decide) (by rfl) (by kernel_rfl) (by kernel_rfl) (by kernel_rfl) (fun _ _ _ h => h) (by rfl) (fun W hW => by exact exec_neq_id _ _ _ rfl x.1 x.1 hx33 hx33 rfl rfl) (by assumption) ?_
  try simp only [Act.put, List.setIfInBounds_toArray, List.set_cons_zero, List.set_cons_succ]
  refine take_at (i := 11) (.bool (!(x.1 == x.1))) (some 35) (by decide) (by rfl) (by kernel_rfl) (by kernel_rfl) (by kernel_rfl) (fun _ _ _ h => h) (by rfl) (fun W hW => by go_simp) (by assumption) ?_
  try simp only [Act.put, List.setIfInBounds_toArray, List.set_cons_zero, List.set_cons_succ]
  refine wpAnyH_done (by kernel_rfl) ?_ _
  try simp only [Act.put, List.setIfInBounds_toArray, List.set_cons_zero, List.set_cons_succ]
  rw [show (x.1 == x.1) = true by simp]
  clear hHeld
  have HB5 := Lib.hid (HB4.out.trans (hb5.mono (by omega)))
  have HT5 := Lib.hid ((hb5.block _ (by omega)).trans HT4.out)
  have HS5 := Lib.hid hS5.2.1
  have hz6 := hb5.size
  clear hS5 hS0 hb5 HB4 HT4
  go_wp2_with fail
  refine (HGT.out _ w5 HS5.out.sl).mono ?_
  rintro e w6 ⟨o, v, m, rfl, hgo, hb6, htr, hm6⟩
  obtain rfl := getT_uniq hgo (getT_some HG.out HBS.out)
  obtain rfl : m = 0 := by simpa using hm6
  obtain ⟨va, vb', rfl, hra, hrb⟩ := htr
  have HB6 := Lib.hid (HB5.out.trans (hb6.mono (by omega)))
  have HT6 := Lib.hid ((hb6.block _ (by omega)).trans HT5.out)
  have hz7 := hb6.size
  obtain ⟨Aa, ca, rfl, _, _⟩ := hra.len
  obtain ⟨Ab, cb, rfl, _, _⟩ := hrb.len
  have HRA := Lib.hid hra
  have HRB := Lib.hid hrb
  clear hgo hb6 hm6 hra hrb HB5 HT5 HS5
  have hT : TrAt w6 (ia + 1) (.slice none 0 0) (.slice none 0 0) := HT6.out
  have HT7 := Lib.hid hT
  have d0 := hT.c0
  have d1 := hT.c1
  have f0 := hT.frozen 0
  have f1 := hT.frozen 1
  clear hT
  go_wp2_with fail
  refine bodyPost_ret (ret_tr Tryd.results20 _ _ (ia + 1) _ _ (.int .i64 0) rfl (HT7.out.whole _ _) rfl) rfl ?_
  exact ⟨_, rfl, ⟨_, _, rfl, by simpa using HRA.out.box2 (fun _ => ⟨_, rfl⟩) HT7.out _ _, by simpa using HRB.out.box2 (fun _ => ⟨_, rfl⟩) HT7.out _ _⟩, by rw [hia]; exact below_two HB6.out (by omega) _ _⟩

end Go.Proofs.YthbahbcihaebeaaDoor.Cd

/-
  tree.Find in a tree of two storeys that a pool has. Conditions: none.
-/
namespace Go.Proofs.YthbahbcihaebeaaDoor.Cd
open Go.RowKit

set_option maxRecDepth 100000 in
set_option maxHeartbeats 6400000 in
theorem find_two (g b n : Nat) (q : Idn → Option (List UInt8)) (k0 : Kd) (r : List Kd) (ps : List Bp) (key : List UInt8) (w : World) (hp : PoolAt w g b n q) (hg1 : GoodT ⟨[], k0 :: r⟩) (hg2 : GoodT ⟨ps, []⟩)
    (hq1 : q (nmS (treeB ⟨[], k0 :: r⟩)) = some (treeB ⟨[], k0 :: r⟩)) (hq2 : q (nmS (treeB ⟨ps, []⟩)) = some (treeB ⟨ps, []⟩)) (hw : wayI key k0 r = nmS (treeB ⟨ps, []⟩)) (hk : KeysIs keysL w) :
    Calls Tryd.prog 14 #[.iface 39 (.pointer (some ⟨g, 0, none⟩)), idV (nmS (treeB ⟨[], k0 :: r⟩)).1, .string ⟨key.toArray⟩] w fun e w' => e = .returned (.tuple #[.string ⟨(valP ps key).1.toArray⟩, .bool (valP ps key).2, .int .i64 0]) ∧ Below w.heap.size w w' := by
  have hr1 := fun W hp hk => read_tree g b n q ⟨[], k0 :: r⟩ W hp hg1 hq1 hk
  have hr2 := fun W hp hk => read_tree g b n q ⟨ps, []⟩ W hp hg2 hq2 hk
  obtain ⟨x1, hx1⟩ : ∃ x, nmS (treeB ⟨[], k0 :: r⟩) = x := ⟨_, rfl⟩
  obtain ⟨x2, hx2⟩ : ∃ x, nmS (treeB ⟨ps, []⟩) = x := ⟨_, rfl⟩
  rw [hx1] at hr1 ⊢
  rw [hx2] at hr2 hw
  have HR1 := Lib.hid hr1
  have HR2 := Lib.hid hr2
  have HW := Lib.hid hw
  have HP := Lib.hid hp
  have HK := Lib.hid hk
  have h133 : x1.1.length = 33 := x1.2
  have h233 : x2.1.length = 33 := x2.2
  clear hr1 hr2 hx1 hx2 hq1 hq2 hw hg1 hg2 hp hk
  have HI0 : Hid (IdAt (w.alloc (.cells (vb x1.1).toArray 27)) w.heap.size x1.1) := IdAt.new _ _
  have hz0 : (w.alloc (.cells (vb x1.1).toArray 27)).heap.size = w.heap.size + 1 := asz _ _
  have hb1 : Below w.heap.size w ((w.alloc (.cells (vb x1.1).toArray 27)).alloc (.cells (vb x1.1).toArray 27)) := (new_below _ _).trans ((new_below _ _).mono (by omega))
  have HP1 := Lib.hid (HP.out.on hb1)
  have HK1 := Lib.hid (HK.out.below hb1 HK.out.1)
  have HB1 := Lib.hid hb1
  have HI1 : Hid (IdAt ((w.alloc (.cells (vb x1.1).toArray 27)).alloc (.cells (vb x1.1).toArray 27)) (w.heap.size + 1) x1.1) := by
    have h9 := IdAt.new (w.alloc (.cells (vb x1.1).toArray 27)) x1.1
    rwa [hz0] at h9
  clear hb1
  go_enter Tryd.func14, Tryd.ntmps14
  go_wp2_with (first
    | (refine wp_box_row rfl _ rfl rfl ?_)
    | (refine wpList_load_row rfl 27 _ rfl w.heap.size rfl 27 (vb x1.1).toArray (0, 0) _ HI0.out Tryd.underlying27 rfl (by rw [vb_size, h133]; exact cells_id) ?_)
    | (refine wp_alloc_row zero_id rfl rfl ?_)
    | (refine wp_fill_id rfl _ _ rfl rfl (by simp [Act.eval, Act.put]) x1.1 h133 rfl ?_))
  generalize (w.alloc (.cells (vb x1.1).toArray 27)).alloc (.cells (vb x1.1).toArray 27) = w1 at *
  have HL : Hid (IdAt w1 (w.heap.size + 1) (if 0 = 0 then x1 else x2).1) := HI1.out
  clear HI0 HI1 hz0
  go_loopw [15] (fun i wr => ∃ k : Nat, i = .int .i64 k ∧ k ≤ 1 ∧ Hid (IdAt wr (w.heap.size + 1) (if k = 0 then x1 else x2).1) ∧ Hid (PoolAt wr g b n q) ∧ Hid (KeysIs keysL wr) ∧ Hid (Below w.heap.size w wr)) (fun i _ => 2 - (intOf i).toNat)
  case atStart => exact ⟨0, rfl, by omega, HL.out, HP1.out, HK1.out, HB1.out⟩
  case round =>
    obtain ⟨k, rfl, hk, hi, hp, hkey, hbl⟩ := hrel
    have hzr := hbl.out.size
    have hiz := (Array.getElem?_eq_some_iff.1 hi.out).1
    clear HL HP1 HK1 HB1
    by_cases h0 : k = 0
    · subst h0
      have hi1 : Hid (IdAt wr (w.heap.size + 1) x1.1) := hi.out
      clear hi
      go_wp2_with (first
        | (refine wpList_load_row rfl 27 _ rfl (w.heap.size + 1) rfl 27 (vb x1.1).toArray (0, 0) _ hi1.out Tryd.underlying27 rfl (by rw [vb_size, h133]; exact cells_id) ?_))
      refine (HR1.out wr hp.out hkey.out).mono ?_
      rintro e w3 ⟨y, rfl, htr, hb3⟩
      obtain ⟨vp, vk, rfl, hra, hrb⟩ := htr
      obtain ⟨Aa, ca, rfl, _, _⟩ := hra.len
      obtain ⟨Ab, cb, rfl, _, _⟩ := hrb.len
      go_wp2_with (first
          | (refine wp_alloc_row zero_tr rfl rfl ?_)
          | (refine wp_fill_row size_tr rfl _ _ rfl #[.slice none 0 0, .slice none 0 0] rfl 56 (by simp [Act.eval, Act.put]) rfl rfl (by simp [Value.oneCell']) ?_))
      have hb4 : Below w3.heap.size w3 (w3.alloc (.cells #[.slice Aa 0 ca, .slice Ab (r.length + 1) cb] 56)) := new_below _ _
      have hz3 := hb3.size
      have hb5 := (hb3.trans (hb4.mono hz3))
      have HP5 := Lib.hid (hp.out.on hb5)
      have HK5 := Lib.hid (hkey.out.below hb5 hkey.out.1)
      have HI5 := Lib.hid (hi1.out.below hb5 hiz)
      have HB5 := Lib.hid (hbl.out.trans (hb5.mono hzr))
      have hz5 := hb5.size
      have hkk : KsIn (w3.alloc (.cells #[.slice Aa 0 ca, .slice Ab (r.length + 1) cb] 56)) (w3.alloc (.cells #[.slice Aa 0 ca, .slice Ab (r.length + 1) cb] 56)).heap.size (.slice Ab (r.length + 1) cb) (k0 :: r) := RwIn.on hrb hb4
      clear hra hrb hb3 hb4 hb5 hz3 hp hkey hi1 hbl
      generalize w3.alloc (.cells #[.slice Aa 0 ca, .slice Ab (r.length + 1) cb] 56) = w5 at *
      refine (wayto_any _ k0 r key w5 hkk).mono ?_
      rintro e w6 ⟨rfl, hb6⟩
      rw [HW.out]
      have HP6 := Lib.hid (HP5.out.on hb6)
      have HK6 := Lib.hid (HK5.out.below hb6 HK5.out.1)
      have HI6 : Hid (w6.heap[w.heap.size + 1]? = some (.cells (vb x1.1).toArray 27)) := (HI5.out.below hb6 (by omega))
      have HB6 := Lib.hid (HB5.out.trans (hb6.mono (by omega)))
      have hz6 := hb6.size
      clear hkk hb6 HP5 HK5 HI5 HB5
      go_wp2_with (first
        | (refine wp_put_row cells_id rfl _ _ rfl (w.heap.size + 1) rfl rfl (by rw [vb_size, h233]) (id_one x2.1) (vb x1.1).toArray (by rw [vb_size, h133]) 27 HI6.out ?_))
      intro w7 h7 hg7
      have HB7 : Hid (Below w.heap.size w w7) := HB6.out.grown hg7 (by omega) (fun k hk => by injection hk with hk; omega)
      have H7 : Hid (IdAt w7 (w.heap.size + 1) x2.1) := h7
      have HP7 := Lib.hid (HP.out.on HB7.out)
      have HK7 := Lib.hid (HK.out.below HB7.out HK.out.1)
      clear h7 hg7 HB6 HP6 HK6 HI6
      go_wp2_with fail
      go_roundw
      case rel => exact ⟨1, by go_num, by omega, H7.out, HP7.out, HK7.out, HB7.out⟩
      case measure => simp [intOf]
    · obtain rfl : k = 1 := by omega
      have hi1 : Hid (IdAt wr (w.heap.size + 1) x2.1) := hi.out
      clear hi
      go_wp2_with (first
        | (refine wpList_load_row rfl 27 _ rfl (w.heap.size + 1) rfl 27 (vb x2.1).toArray (0, 0) _ hi1.out Tryd.underlying27 rfl (by rw [vb_size, h233]; exact cells_id) ?_))
      refine (HR2.out wr hp.out hkey.out).mono ?_
      rintro e w3 ⟨y, rfl, htr, hb3⟩
      obtain ⟨vp, vk, rfl, hra, hrb⟩ := htr
      obtain ⟨Aa, ca, rfl, _, _⟩ := hra.len
      obtain ⟨Ab, cb, rfl, _, _⟩ := hrb.len
      go_wp2_with (first
          | (refine wp_alloc_row zero_tr rfl rfl ?_)
          | (refine wp_fill_row size_tr rfl _ _ rfl #[.slice none 0 0, .slice none 0 0] rfl 56 (by simp [Act.eval, Act.put]) rfl rfl (by simp [Value.oneCell']) ?_))
      have hb4 : Below w3.heap.size w3 (w3.alloc (.cells #[.slice Aa ps.length ca, .slice Ab 0 cb] 56)) := new_below _ _
      have hz3 := hb3.size
      have hb5 := (hb3.trans (hb4.mono hz3))
      have HB5 := Lib.hid (hbl.out.trans (hb5.mono hzr))
      have hpp : PsIn (w3.alloc (.cells #[.slice Aa ps.length ca, .slice Ab 0 cb] 56)) (w3.alloc (.cells #[.slice Aa ps.length ca, .slice Ab 0 cb] 56)).heap.size (.slice Aa ps.length ca) ps := RwIn.on hra hb4
      have hz5 := hb5.size
      clear hra hrb hb3 hb4 hb5 hz3 hp hkey hi1 hbl
      generalize w3.alloc (.cells #[.slice Aa ps.length ca, .slice Ab 0 cb] 56) = w5 at *
      refine (valueof_any _ ps key w5 hpp).mono ?_
      rintro e w6 ⟨rfl, hb6⟩
      have HB6 := Lib.hid (HB5.out.trans (hb6.mono (by omega)))
      clear hpp hb6 HB5
      go_wp2_with fail
      go_ret3
      exact ⟨rfl, HB6.out⟩

end Go.Proofs.YthbahbcihaebeaaDoor.Cd
