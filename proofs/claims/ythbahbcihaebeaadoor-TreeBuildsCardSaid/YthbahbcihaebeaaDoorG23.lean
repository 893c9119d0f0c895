/-
  TreeBuilds answers true. Conditions: the rounds' numbers lie in their variable. (Printed by tools/gen_tr_builds.py.)
-/
import Derived.Test.YthbahbcihaebeaaDoorG21
import Derived.Test.YthbahbcihaebeaaDoorG19
import Derived.Test.YthbahbcihaebeaaDoorG4
import Derived.Test.YthbahbcihaebeaaDoorG5
import Derived.Test.YthbahbcihaebeaaDoorG11
/-
  The document's objects: name and bytes. Conditions: none.
-/
namespace Go.Proofs.YthbahbcihaebeaaDoor.Cd
open Go.RowKit

/-- What the document's names are made by. -/
def RNameOf (K : Int) (nm : List UInt8 → Idn) : Prop := ∀ (bs : List UInt8) (W : World), bs.length ≤ 4096 → Calls Tryd.prog 26 #[.int .u8 K, .string ⟨bs.toArray⟩] W (Gives (idV (nm bs).1) W)
theorem rname_fnv : RNameOf 1 nmF := fun bs w hl =>
  rof_gen 1 bs (1 :: be8 (mor fnv0 bs)) (ofF bs) w (ofF_length _) (fun W => rtext_fnv bs W hl) (fun W => rid_cons 1 (be8 (mor fnv0 bs)) W (by rw [show (be8 (mor fnv0 bs)).length = 8 from rfl]; omega))
theorem rname_sha : RNameOf 2 nmS := fun bs w hl =>
  rof_gen 2 bs (2 :: shaS keysL bs) (ofS (shaS keysL bs)) w (ofS_length _) (fun W => rtext_sha bs W hl) (fun W => rid_cons 2 (shaS keysL bs) W (by rw [shaS_length]; omega))

set_option maxRecDepth 100000 in
set_option maxHeartbeats 3200000 in
theorem robj_any (K : Int) (nm : List UInt8 → Idn) (hn : RNameOf K nm) (s : List UInt8) (w : World) (hs : s.length ≤ 4096) :
    Calls Tryd.prog 18 #[.int .u8 K, .string ⟨s.toArray⟩] w (Gives (.agg (obC (nm s, s)).toArray) w) := by
  have HN := Lib.hid hn
  clear hn
  have hno := fun W => HN.out s W hs
  generalize nm s = x at hno ⊢
  have HNO := Lib.hid hno
  have hC : (obC (x, s)).toArray.size = 34 := by rw [List.size_toArray, obC_len]
  have hb := built_ob (x, s)
  have HB := Lib.hid hb
  clear hno hb
  go_enter Tryd.func18, Tryd.ntmps18
  go_wp2_with (refine wp_alloc_row zero_ob rfl rfl ?_)
  refine (HNO.out _).mono ?_
  rintro e w2 ⟨rfl, hb2⟩
  have h2 : Hid (w2.heap[w.heap.size]? = some (.cells (vb (zer 33) ++ [Value.string ByteArray.empty]).toArray 35)) := (hb2.block _ (by rw [asz]; omega)).trans (heap_alloc_new w _)
  have hB2 : Hid (Below w.heap.size w w2) := (new_below w _).trans (hb2.mono (by rw [asz]; omega))
  clear hb2
  go_wp2_with (first
    | (refine wp_build_row rfl _ rfl _ HB.out (by simp [Act.eval, Act.put]) ?_)
    | (refine wp_put_row size_ob rfl _ _ rfl w.heap.size rfl rfl hC (fun u hu => kind_ob.one (x, s) u (by simpa using hu)) _ (by simp [vb_length, zer_length]) _ h2.out ?_))
  intro w3 h3 hg3
  have hb3 : Below w.heap.size w w3 := hB2.out.grown hg3 hB2.out.size (fun k hk => by injection hk with hk; omega)
  go_wp2_with fail
  exact bodyPost_ret (results_cell_row Tryd.results18 _ w3 w.heap.size 35 (obC (x, s)).toArray (0, 0) _ rfl h3 Tryd.underlying35 rfl (by rw [hC]; exact size_ob)) rfl ⟨rfl, hb3⟩

end Go.Proofs.YthbahbcihaebeaaDoor.Cd

/-
  The document's Build: the same objects. Conditions: none. (Printed by tools/gen_tr_rbuild.py.)
-/
namespace Go.Proofs.YthbahbcihaebeaaDoor.Cd
open Go.RowKit

theorem treeT_small {t : Tre} (h : GoodT t) : (psB t.ps).length ≤ 100000000 ∧ (ksB t.ks).length ≤ 100000000 := by
  rcases h with ⟨h1, h2⟩ | ⟨h1, h2⟩
  · have := psB_small h2
    rw [h1]
    exact ⟨by omega, by simp [ksB]⟩
  · have := ksB_small h2
    rw [h1]
    exact ⟨by simp [psB], by omega⟩
theorem rlim {t : Tre} (h : GoodT t) : (treeB t).length ≤ 4096 := by have := treeB_small h; omega

/-- What has been made: a row of objects, a row of kids that lies in a block not below C. -/
structure LeafF (C : Nat) (w W : World) (v5 v6 : Value) (M : List Ob) (L : List Kd) : Prop where
  ob : OwnRw obC 34 35 W w.heap.size v5 M
  row : OwnRw kkC 34 52 W C v6 L
  be : Below w.heap.size w W
  low : w.heap.size ≤ C
  le : C ≤ W.heap.size
section
variable {C : Nat} {w W W' : World} {v5 v6 v : Value} {M M' : List Ob} {L L' : List Kd}
theorem RwIn.same {α : Type} {f : α → List Value} {n B : Nat} {b off m c : Nat} {l : List α} (h : RwIn f n W B (.slice (some ⟨b, off, none⟩) m c) l) (hk : W'.heap[b]? = W.heap[b]?) : RwIn f n W' B (.slice (some ⟨b, off, none⟩) m c) l := by
  obtain ⟨A0, c0, e, k2, k3, k4, k5⟩ := h
  injection e with e1 e2 e3
  subst e1 e2 e3
  refine ⟨_, _, rfl, k2, k3, k4, fun hp => ?_⟩
  obtain ⟨b0, off0, e, hB, hc⟩ := k5 hp
  injection e with e
  injection e with e1 e2
  subst e1 e2
  exact ⟨b, off, rfl, hB, fun i p hi j x hj => (World.cell?_of_block hk).trans (hc i p hi j x hj)⟩
theorem LeafF.below (h : LeafF C w W v5 v6 M L) (hb : Below W.heap.size W W') : LeafF C w W' v5 v6 M L :=
  ⟨h.ob.keep hb, h.row.keep hb, h.be.trans (hb.mono h.be.size), h.low, Nat.le_trans h.le hb.size⟩
theorem LeafF.appO (h : LeafF C w W v5 v6 M L) (hb : Below w.heap.size W W') (hg : W.grownBy W' v5.ownBlock) (ho : OwnRw obC 34 35 W' w.heap.size v M') : LeafF C w W' v v6 M' L :=
  ⟨ho, h.row.apart hg (rows_apart h.ob h.row (by decide)), h.be.trans hb, h.low, Nat.le_trans h.le hg.size⟩
theorem LeafF.appK (h : LeafF C w W v5 v6 M L) (hb : Below C W W') (hg : W.grownBy W' v6.ownBlock) (ho : OwnRw kkC 34 52 W' C v L') : LeafF C w W' v5 v M L' :=
  ⟨h.ob.apart hg (rows_apart h.row h.ob (by decide)), ho, h.be.trans (hb.mono h.low), h.low, Nat.le_trans h.le hg.size⟩
end

theorem exec_build_k2 {op : Oper} {a : Act} {w : World} (x y : Operand) (ho : op.op = .build 52 #[(0, x), (1, y)]) (s : List UInt8) (i : Idn) (hx : a.eval x = .string ⟨s.toArray⟩) (hy : a.eval y = idV i.1) : (execOp a.eval op).run Tryd.prog w = .ok (.value (.agg (kkC (s, i)).toArray)) w := by
  have h := run_build (P := Tryd.prog) w 52 #[(0, Value.string ⟨s.toArray⟩), (1, idV i.1)] _ (built_kk s i)
  unfold execOp
  simp [ho, hx, hy, h, Result.andThen]
/-- A kid's key is put into its block. -/
theorem wp_put_key {ops : Array Oper} {rest : List Oper} {o : Oper} {a : Act} {w : World} {Q : Exit → Act → World → Prop} (hgd : o.guard = none) (x y : Operand) (ho : o.op = .store 9 x y)
    (g : Nat) (hx : a.eval x = .pointer (some ⟨g, 0, none⟩)) (s : List UInt8) (hy : a.eval y = .string ⟨s.toArray⟩) (i : Idn) (hg : w.heap[g]? = some (.cells (kkC ([], i)).toArray 52))
    (h : ∀ w', w'.heap[g]? = some (.cells (kkC (s, i)).toArray 52) → w.grownBy w' (some g) → wpList Tryd.prog ops Q rest (a.put o.dst undef) w') : wpList Tryd.prog ops Q (o :: rest) a w := by
  refine wpList_plain hgd fun K9 hK => ?_
  have q1 : w.cell? ⟨g, 0, none⟩ = some (.string ⟨#[]⟩) := cell_of_row _ _ _ _ _ _ hg
  have q2 : w.frozen? ⟨g, 0, none⟩ = false := frozen_of_row _ _ _ _ _ hg
  have h2 := hK _ _ (h (w.setCell ⟨g, 0, none⟩ (.string ⟨s.toArray⟩)) (heap_setCell_same _ _ 0 _ _ _ hg) ⟨rfl, rfl, rfl, by simp, fun k _ hk => Below.heap_setCell w ⟨g, 0, none⟩ _ k (fun e => hk (by rw [e]))⟩)
  have hu := Tryd.underlying9
  unfold Oper.wp
  generalize a.eval = ev at hx hy ⊢
  simp [execOp, ho, hx, hy, q1, q2, Instr.storeAt, go_sem, Result.andThen, Oper.upon]
  exact h2

/-- What is left of a row, from a place on. -/
theorem wp_from_kk {ops : Array Oper} {rest : List Oper} {o : Oper} {a : Act} {w : World} {Q : Exit → Act → World → Prop} (hgd : o.guard = none) (x y : Operand) (ho : o.op = .slice 48 x (some y) none none)
    (b off m c k : Nat) (hx : a.eval x = .slice (some ⟨b, off, none⟩) m c) (hy : a.eval y = .int .i64 k) (hk : k ≤ m) (hm : m ≤ c) (_hc : c ≤ 9223372036854775807)
    (h : ∀ off' c', (∀ (W : World) (B : Nat) (l : List Kd), KsIn W B (.slice (some ⟨b, off, none⟩) m c) l → KsIn W B (.slice (some ⟨b, off', none⟩) (m - k) c') (l.drop k)) → wpList Tryd.prog ops Q rest (a.put o.dst (.slice (some ⟨b, off', none⟩) (m - k) c')) w) : wpList Tryd.prog ops Q (o :: rest) a w := by
  refine wpList_plain hgd fun K9 hK => ?_
  have hu := Tryd.underlying48
  have hr : ∃ off' c', (∀ (W : World) (B : Nat) (l : List Kd), KsIn W B (.slice (some ⟨b, off, none⟩) m c) l → KsIn W B (.slice (some ⟨b, off', none⟩) (m - k) c') (l.drop k)) ∧ (execOp a.eval o).run Tryd.prog w = .ok (.value (.slice (some ⟨b, off', none⟩) (m - k) c')) w := by
    by_cases hck : c = k
    · have hmk : m = k := by omega
      refine ⟨off, 0, fun W B l hl => ?_, ?_⟩
      · rw [show m - k = 0 by omega, List.drop_eq_nil_of_le (by obtain ⟨_, _, e, _⟩ := hl; injection e with _ e _; omega)]
        exact RwIn.none0
      · generalize a.eval = ev at hx hy ⊢
        simp [execOp, ho, hx, hy, go_sem, hu, hk, hck]
    · refine ⟨off + k * 34, c - k, fun W B l hl => ?_, ?_⟩
      · have hl2 : m = l.length := by obtain ⟨_, _, e, _⟩ := hl; injection e
        subst hl2
        exact RwIn.dropN hl hk
      · generalize a.eval = ev at hx hy ⊢
        simp [execOp, ho, hx, hy, go_sem, hu, hk, hck]
  obtain ⟨off', c', h1, h2⟩ := hr
  unfold Oper.wp
  rw [h2]
  exact hK _ _ (h off' c' h1)
theorem wp_from_pp {ops : Array Oper} {rest : List Oper} {o : Oper} {a : Act} {w : World} {Q : Exit → Act → World → Prop} (hgd : o.guard = none) (x y : Operand) (ho : o.op = .slice 22 x (some y) none none)
    (b off m c k : Nat) (hx : a.eval x = .slice (some ⟨b, off, none⟩) m c) (hy : a.eval y = .int .i64 k) (hk : k ≤ m) (hm : m ≤ c) (_hc : c ≤ 9223372036854775807)
    (h : ∀ off' c', (∀ (W : World) (B : Nat) (l : List Bp), PsIn W B (.slice (some ⟨b, off, none⟩) m c) l → PsIn W B (.slice (some ⟨b, off', none⟩) (m - k) c') (l.drop k)) → wpList Tryd.prog ops Q rest (a.put o.dst (.slice (some ⟨b, off', none⟩) (m - k) c')) w) : wpList Tryd.prog ops Q (o :: rest) a w := by
  refine wpList_plain hgd fun K9 hK => ?_
  have hu := Tryd.underlying22
  have hr : ∃ off' c', (∀ (W : World) (B : Nat) (l : List Bp), PsIn W B (.slice (some ⟨b, off, none⟩) m c) l → PsIn W B (.slice (some ⟨b, off', none⟩) (m - k) c') (l.drop k)) ∧ (execOp a.eval o).run Tryd.prog w = .ok (.value (.slice (some ⟨b, off', none⟩) (m - k) c')) w := by
    by_cases hck : c = k
    · have hmk : m = k := by omega
      refine ⟨off, 0, fun W B l hl => ?_, ?_⟩
      · rw [show m - k = 0 by omega, List.drop_eq_nil_of_le (by obtain ⟨_, _, e, _⟩ := hl; injection e with _ e _; omega)]
        exact RwIn.none0
      · generalize a.eval = ev at hx hy ⊢
        simp [execOp, ho, hx, hy, go_sem, hu, hk, hck]
    · refine ⟨off + k * 2, c - k, fun W B l hl => ?_, ?_⟩
      · have hl2 : m = l.length := by obtain ⟨_, _, e, _⟩ := hl; injection e
        subst hl2
        exact RwIn.dropN hl hk
      · generalize a.eval = ev at hx hy ⊢
        simp [execOp, ho, hx, hy, go_sem, hu, hk, hck]
  obtain ⟨off', c', h1, h2⟩ := hr
  unfold Oper.wp
  rw [h2]
  exact hK _ _ (h off' c' h1)

theorem built_k1 (i : Idn) : Tryd.prog.built 52 [(1, idV i.1)] = some (kkC ([], i)).toArray := by
  have hl : (vb i.1).length = 33 := by rw [vb_length, i.2]
  rw [built_shape shape_kk, fill_laid (off := 1) (size := 33) rfl (vb i.1) rfl hl (by simp [Value.cells, vb_length, zer_length])]
  have h := laid_mid [Value.string ByteArray.empty] (vb (zer 33)) [] (vb i.1) (by rw [hl, vb_length, zer_length])
  simp only [List.append_nil, List.length_singleton] at h
  show some (laid ([Value.string ByteArray.empty] ++ vb (zer 33)) 1 (vb i.1)).toArray = _
  rw [h]
  rfl

set_option maxRecDepth 100000 in
set_option maxHeartbeats 6400000 in
theorem rbuild_none (K : Int) (nm : List UInt8 → Idn) (hn : RNameOf K nm) (A : Option Addr) (c : Nat) (w : World) (h : PsIn w w.heap.size (.slice A 0 c) []) :
    Calls Tryd.prog 10 #[.int .u8 K, .slice A 0 c] w fun e w' => ∃ v, e = .returned v ∧ OwnRw obC 34 35 w' w.heap.size v (obsA nm []) ∧ Below w.heap.size w w' := by
  have HN := Lib.hid hn
  have HOA : Hid (obsA nm [] = [leafO nm []]) := by
    unfold Hid obsA obsL rowL
    rw [if_pos rfl, if_pos rfl, upAll_one (by simp)]
    rfl
  obtain ⟨x, hx⟩ : ∃ x, nm (treeB ⟨[], []⟩) = x := ⟨_, rfl⟩
  obtain ⟨t, ht⟩ : ∃ t, treeB ⟨[], []⟩ = t := ⟨_, rfl⟩
  have hlo : leafO nm [] = (x, t) := by rw [← hx, ← ht]; rfl
  rw [hlo] at HOA
  have hr := rtree_any (.agg #[.slice A 0 c, .slice none 0 0]) ⟨[], []⟩ w ⟨_, _, rfl, h, RwIn.nil _ _⟩ (by simp [psB]) (by simp [ksB])
  have hrb := fun W => robj_any K nm HN.out (treeB ⟨[], []⟩) W (rlim good_none)
  rw [hx, ht] at hrb
  rw [ht] at hr
  have HR := Lib.hid hr
  have HRB := Lib.hid hrb
  have hC : (obC (x, t)).toArray.size = 34 := by rw [List.size_toArray, obC_len]
  have hk34 : (kkC ([], x)).toArray.size = 34 := by rw [List.size_toArray, kind_kk.len]
  have HB1 := Lib.hid (built_k1 x)
  clear hn hr hrb hx ht hlo h
  go_enter Tryd.func10, Tryd.ntmps10
  go_wp2_with fail
  go_loopw [5, 6, 7, 8] (fun v5 v6 v7 v8 wr => v5 = .slice none 0 0 ∧ v6 = .slice none 0 0 ∧ v7 = .slice A 0 c ∧ wr = w) (fun _ _ _ _ _ => 0)
  case atStart => exact ⟨rfl, rfl, rfl, rfl⟩
  case round =>
    obtain ⟨rfl, rfl, rfl, rfl⟩ := hrel
    go_wp2_with (refine wp_build_row rfl _ rfl _ (built_trp _ _ _) (by simp [Act.eval]) ?_)
    have HL : Hid (LeafF wr.heap.size wr wr (.slice none 0 0) (.slice none 0 0) [] []) := ⟨OwnRw.nil _ _, OwnRw.nil _ _, Below.refl _ _, Nat.le_refl _, Nat.le_refl _⟩
    refine HR.out.mono ?_
    rintro e w1 ⟨rfl, hb1⟩
    have HB1w := Lib.hid hb1
    clear hb1
    go_wp2_with fail
    refine (HRB.out w1).mono ?_
    rintro e w2 ⟨rfl, hb2⟩
    have HL2 : Hid (LeafF wr.heap.size wr w2 (.slice none 0 0) (.slice none 0 0) [] []) := HL.out.below (HB1w.out.trans (hb2.mono HB1w.out.size))
    have hz2 : wr.heap.size ≤ w2.heap.size := HL2.out.le
    have hz2w : wr.heap.size ≤ w2.heap.size := HL2.out.be.size
    have HOB3 : Hid ((w2.alloc (.cells (obC (x, t)).toArray 35)).rangeAt w2.heap.size 0 (vb x.1)) := ob_range (heap_alloc_new w2 _)
    have hz3 : (w2.alloc (.cells (obC (x, t)).toArray 35)).heap.size = w2.heap.size + 1 := asz _ _
    have hz4 : ((w2.alloc (.cells (obC (x, t)).toArray 35)).alloc (.cells (kkC ([], x)).toArray 52)).heap.size = w2.heap.size + 2 := by rw [asz, hz3]
    have hnb : Below w2.heap.size w2 ((w2.alloc (.cells (obC (x, t)).toArray 35)).alloc (.cells (kkC ([], x)).toArray 52)) := (new_below _ _).trans ((new_below _ _).mono (by rw [hz3]; omega))
    have ho4 : ((w2.alloc (.cells (obC (x, t)).toArray 35)).alloc (.cells (kkC ([], x)).toArray 52)).heap[w2.heap.size]? = some (.cells (obC (x, t)).toArray 35) := ((new_below (w2.alloc (.cells (obC (x, t)).toArray 35)) _).block _ (by rw [hz3]; omega)).trans (heap_alloc_new w2 _)
    have hk4 : ((w2.alloc (.cells (obC (x, t)).toArray 35)).alloc (.cells (kkC ([], x)).toArray 52)).heap[w2.heap.size + 1]? = some (.cells (kkC ([], x)).toArray 52) := by have h9 := heap_alloc_new (w2.alloc (.cells (obC (x, t)).toArray 35)) (.cells (kkC ([], x)).toArray 52); rwa [hz3] at h9
    have hk5 := hk4
    have ho5 := ho4
    have hb5 := hnb
    have hz5 : w2.heap.size + 2 ≤ ((w2.alloc (.cells (obC (x, t)).toArray 35)).alloc (.cells (kkC ([], x)).toArray 52)).heap.size := Nat.le_of_eq hz4.symm
    have HL5 : Hid (LeafF wr.heap.size wr ((w2.alloc (.cells (obC (x, t)).toArray 35)).alloc (.cells (kkC ([], x)).toArray 52)) (.slice none 0 0) (.slice none 0 0) [] []) := HL2.out.below hb5
    have HO5 := Lib.hid ho5
    have HK5 := Lib.hid hk5
    clear hb2 HB1w HL2 hnb ho4 hk4 hk5 ho5 hb5 HRB HR HL
    go_wp2_with (first
      | (refine wp_alloc_row zero_ob rfl rfl ?_)
      | (refine wp_fill_row size_ob rfl _ _ rfl _ (by simp [vb_length, zer_length]) _ rfl rfl hC (fun u hu => kind_ob.one (x, t) u (by simpa using hu)) ?_)
      | (refine wpList_load_mid rfl 27 _ rfl w2.heap.size 0 rfl (vb x.1) _ HOB3.out Tryd.underlying27 rfl (cells_ii x) ?_)
      | (refine wp_build_row rfl _ rfl _ HB1.out (by simp [Act.eval, Act.put, idV]) ?_)
      | (refine wp_alloc_row zero_kk rfl rfl ?_)
      | (refine wp_fill_kk rfl _ _ rfl rfl (by simp [Act.eval, Act.put]) ([], x) rfl ?_)
      | (refine wpList_load_row rfl 35 _ rfl w2.heap.size rfl 35 (obC (x, t)).toArray (0, 0) _ HO5.out Tryd.underlying35 rfl (by rw [hC]; exact size_ob) ?_)
      | (refine wp_one kind_ob (by omega) rfl _ rfl (x, t) rfl ?_)
      | (refine wp_append_rw kind_ob rfl _ _ rfl rfl (HL5.out.ob.alloc _) (by rw [asz]; omega) _ _ [(x, t)] rfl (rw_one kind_ob ((w2.alloc (.cells (obC (x, t)).toArray 35)).alloc (.cells (kkC ([], x)).toArray 52)) (x, t) 35 _ rfl) (by simp) ?_))
    intro v5 w6 ho6 hb6 hg6
    have hL5a : LeafF wr.heap.size wr (((w2.alloc (.cells (obC (x, t)).toArray 35)).alloc (.cells (kkC ([], x)).toArray 52)).alloc (.cells (obC (x, t)).toArray 35)) (.slice none 0 0) (.slice none 0 0) [] [] := HL5.out.below (new_below _ _)
    have hk6 : w6.heap[w2.heap.size + 1]? = some (.cells (kkC ([], x)).toArray 52) := (hg6.block _ (by rw [asz]; omega) (box_apart (T' := 52) hL5a.ob (((new_below _ _).block _ (by omega)).trans HK5.out) (by decide))).trans (((new_below _ _).block _ (by omega)).trans HK5.out)
    have HL6 := Lib.hid (hL5a.appO hb6 hg6 ho6)
    have HK6 := Lib.hid hk6
    have hz6 : w2.heap.size + 2 < w6.heap.size + 1 := by have h9 := hg6.size; rw [asz] at h9; omega
    obtain ⟨A5, c5, e5, _, _⟩ := (ho6.rwIn kind_ob).len
    subst e5
    obtain ⟨l5, hl5⟩ : ∃ l5, ([(x, t)]).length = l5 := ⟨_, rfl⟩
    rw [hl5] at HL6 ⊢
    clear hk6 hL5a ho6 hb6 hg6 HL5 HO5 HK5 HOB3 hz3 hz4 hz5
    go_wp2_with (first
      | (refine wpList_load_row rfl 52 _ rfl (w2.heap.size + 1) rfl 52 (kkC ([], x)).toArray (0, 0) _ HK6.out Tryd.underlying52 rfl (by rw [hk34]; exact size_kk) ?_)
      | (refine wp_one kind_kk (by omega) rfl _ rfl ([], x) rfl ?_)
      | (refine wp_append_rw kind_kk rfl _ _ rfl rfl (HL6.out.row.alloc _) (by rw [asz]; omega) _ _ [([], x)] rfl (rw_one kind_kk w6 ([], x) 52 _ rfl) (by simp) ?_))
    intro v6 w7 ho7 hb7 hg7
    have HL7 := Lib.hid ((HL6.out.below (new_below w6 (.cells (kkC ([], x)).toArray 52))).appK hb7 hg7 ho7)
    obtain ⟨A6, c6, e6, _, _⟩ := (ho7.rwIn kind_kk).len
    subst e6
    clear ho7 hb7 hg7 HL6 HK6 hz6
    have hl6 : [(([] : List UInt8), x)].length = 1 := rfl
    rw [hl6] at HL7 ⊢
    go_wp2_with fail
    go_loopw [5, 6] (fun v5 v6 wi => v5 = .slice A5 l5 c5 ∧ v6 = .slice A6 1 c6 ∧ wi = w7) (fun _ _ _ => 0)
    case atStart => exact ⟨rfl, rfl, rfl⟩
    case round =>
      obtain ⟨rfl, rfl, rfl⟩ := hrel
      go_wp2_with fail
      go_ret
      exact ⟨_, rfl, by rw [HOA.out]; exact HL7.out.ob, HL7.out.be⟩

set_option maxRecDepth 100000 in
set_option maxHeartbeats 6400000 in
theorem rbuild_some (k : UInt8) (nm : List UInt8 → Idn) (hn : RNameOf k.toNat nm) (hone : OneKind k nm) (v : Value) (ps : List Bp) (w : World) (h : PsIn w w.heap.size v ps) (hg : GoodW ps) (h0 : 0 < ps.length) :
    Calls Tryd.prog 10 #[.int .u8 k.toNat, v] w fun e w' => ∃ v, e = .returned v ∧ OwnRw obC 34 35 w' w.heap.size v (obsA nm ps) ∧ Below w.heap.size w w' := by
  obtain ⟨A, c, rfl, hm1, hm2⟩ := h.len
  have hfew := hg.few
  obtain ⟨b, off, eA, hbw⟩ : ∃ b off, A = some ⟨b, off, none⟩ ∧ b < w.heap.size := by
    obtain ⟨b, off, e, hb, _⟩ := PsIn.at2 h (List.getElem?_eq_getElem h0)
    exact ⟨b, off, e, hb⟩
  subst eA
  have HN := Lib.hid hn
  have HONE := Lib.hid hone
  have HG := Lib.hid hg
  have HPS := Lib.hid h
  have hql : (quads ps).length ≤ 64 := by rw [quads_len _ ps rfl]; omega
  have hps : ps ≠ [] := List.length_pos_iff.1 h0
  have HOL : Hid (obsL nm ps = (quads ps).map (leafO nm) ∧ rowL nm ps = (quads ps).map (leafK nm)) := ⟨if_neg hps, if_neg hps⟩
  clear hn hone hg h hps
  go_enter Tryd.func10, Tryd.ntmps10
  go_wp2_with fail
  go_loopw [5, 6, 7] (fun v5 v6 v7 wr => ∃ (gs : List (List Bp)) (rest : List Bp) (of c : Nat), v7 = .slice (some ⟨b, of, none⟩) rest.length c ∧ 0 < rest.length ∧ rest.length ≤ 256 ∧ Hid (quads ps = gs ++ quads rest) ∧ Hid (PsIn w w.heap.size v7 rest) ∧ Hid (LeafF w.heap.size w wr v5 v6 (gs.map (leafO nm)) (gs.map (leafK nm)))) (fun _ _ v7 _ => lenOf v7)
  case atStart => exact ⟨[], ps, off, c, rfl, h0, hfew, rfl, HPS.out, ⟨OwnRw.nil _ _, OwnRw.nil _ _, Below.refl _ _, Nat.le_refl _, Nat.le_refl _⟩⟩
  case round =>
    obtain ⟨gs, rest, of, c, rfl, hr0, hr256, hqr, hpr, HL⟩ := hrel
    obtain ⟨n, hnn⟩ : ∃ n, rest.length = n := ⟨_, rfl⟩
    have hgl : gs.length ≤ 64 := by
      have h9 := congrArg List.length hqr.out
      rw [List.length_append] at h9
      omega
    obtain ⟨A1, c1, e1, hrc, hcm⟩ := hpr.out.len
    injection e1 with e1a _ e1
    subst e1a e1
    obtain ⟨p0, hp0⟩ : ∃ p, rest[0]? = some p := ⟨_, List.getElem?_eq_getElem hr0⟩
    have HKEY : Hid (w.cell? ⟨b, of, none⟩ = some (.string ⟨p0.1.toArray⟩)) := by
      obtain ⟨b9, o9, e9, _, d0, _⟩ := PsIn.at2 hpr.out hp0
      injection e9 with e9
      injection e9 with e9 e8
      subst e9 e8
      rwa [show of + 0 * 2 = of by omega] at d0
    have hrn : rest ≠ [] := List.length_pos_iff.1 hr0
    have hq4 : quads rest = rest.take 4 :: quads (rest.drop 4) := quads_cons hrn
    have hheadK : ∀ m, 0 < m → headK (rest.take m) = p0.1 := fun m hm => by
      unfold headK
      rw [List.head?_take, if_neg (by omega), List.head?_eq_getElem?, hp0]
      rfl
    rw [hnn] at hr0 hr256 hrc hpr ⊢
    have HHK := Lib.hid hheadK
    have HNN := Lib.hid hnn
    clear hheadK hp0 hrn hnn
    by_cases hbig : 4 < n
    · have hbi : (4 : Int) < n := by omega
      obtain ⟨q, hq⟩ : ∃ q, rest.take 4 = q := ⟨_, rfl⟩
      rw [hq] at hq4
      have HD : Hid (quads ps = gs ++ q :: quads (rest.drop 4)) := by unfold Hid; rw [hqr.out, hq4]
      have hGT : GoodT ⟨q, []⟩ := leaf_good HG.out (by rw [HD.out]; simp)
      have hqk : headK q = p0.1 := by rw [← hq]; exact HHK.out _ (by omega)
      have hr := rtree_any (.agg #[.slice (some ⟨b, of, none⟩) 4 c, .slice none 0 0]) ⟨q, []⟩ wr ⟨_, _, rfl, by rw [← hq]; exact ((RwIn.takeN (hpr.out.below HL.out.be) (by rw [HNN.out]; omega)).more HL.out.be.size), RwIn.nil _ _⟩ (treeT_small hGT).1 (treeT_small hGT).2
      have hrb := fun W => robj_any k.toNat nm HN.out (treeB ⟨q, []⟩) W (rlim hGT)
      obtain ⟨x, hx⟩ : ∃ x, nm (treeB ⟨q, []⟩) = x := ⟨_, rfl⟩
      obtain ⟨t, ht⟩ : ∃ t, treeB ⟨q, []⟩ = t := ⟨_, rfl⟩
      have HLO : Hid (leafO nm q = (x, t) ∧ leafK nm q = (p0.1, x)) := ⟨by rw [← hx, ← ht]; rfl, by rw [← hqk, ← hx]; rfl⟩
      rw [hx, ht] at hrb
      rw [ht] at hr
      have HR := Lib.hid hr
      have HRB := Lib.hid hrb
      have hC : (obC (x, t)).toArray.size = 34 := by rw [List.size_toArray, obC_len]
      have hk34 : (kkC (p0.1, x)).toArray.size = 34 := by rw [List.size_toArray, kind_kk.len]
      have HB1 := Lib.hid (built_k1 x)
      clear hr hrb hx ht hqk hq4 hqr hGT
      go_wp2_with (refine wp_build_row rfl _ rfl _ (built_trp _ _ _) (by simp [Act.eval]) ?_)
      refine HR.out.mono ?_
      rintro e w1 ⟨rfl, hb1⟩
      have HB1w := Lib.hid hb1
      clear hb1
      go_wp2_with fail
      refine (HRB.out w1).mono ?_
      rintro e w2 ⟨rfl, hb2⟩
      have HL2 : Hid (LeafF w.heap.size w w2 u5 u6 (gs.map (leafO nm)) (gs.map (leafK nm))) := HL.out.below (HB1w.out.trans (hb2.mono HB1w.out.size))
      have hz2 : w.heap.size ≤ w2.heap.size := HL2.out.le
      have hz2w : w.heap.size ≤ w2.heap.size := HL2.out.be.size
      have HOB3 : Hid ((w2.alloc (.cells (obC (x, t)).toArray 35)).rangeAt w2.heap.size 0 (vb x.1)) := ob_range (heap_alloc_new w2 _)
      have hz3 : (w2.alloc (.cells (obC (x, t)).toArray 35)).heap.size = w2.heap.size + 1 := asz _ _
      have hz4 : ((w2.alloc (.cells (obC (x, t)).toArray 35)).alloc (.cells (kkC ([], x)).toArray 52)).heap.size = w2.heap.size + 2 := by rw [asz, hz3]
      have hnb : Below w2.heap.size w2 ((w2.alloc (.cells (obC (x, t)).toArray 35)).alloc (.cells (kkC ([], x)).toArray 52)) := (new_below _ _).trans ((new_below _ _).mono (by rw [hz3]; omega))
      have ho4 : ((w2.alloc (.cells (obC (x, t)).toArray 35)).alloc (.cells (kkC ([], x)).toArray 52)).heap[w2.heap.size]? = some (.cells (obC (x, t)).toArray 35) := ((new_below (w2.alloc (.cells (obC (x, t)).toArray 35)) _).block _ (by rw [hz3]; omega)).trans (heap_alloc_new w2 _)
      have hk4 : ((w2.alloc (.cells (obC (x, t)).toArray 35)).alloc (.cells (kkC ([], x)).toArray 52)).heap[w2.heap.size + 1]? = some (.cells (kkC ([], x)).toArray 52) := by have h9 := heap_alloc_new (w2.alloc (.cells (obC (x, t)).toArray 35)) (.cells (kkC ([], x)).toArray 52); rwa [hz3] at h9
      have qk3 : ((w2.alloc (.cells (obC (x, t)).toArray 35)).alloc (.cells (kkC ([], x)).toArray 52)).cell? ⟨b, of, none⟩ = some (.string ⟨p0.1.toArray⟩) := (hnb.cell (p := ⟨b, of, none⟩) (by show b < _; omega)).trans ((HL2.out.be.cell (p := ⟨b, of, none⟩) (by show b < _; omega)).trans HKEY.out)
      have HK4 := Lib.hid hk4
      have HO4 := Lib.hid ho4
      have HNB := Lib.hid hnb
      clear hb2 HB1w hnb ho4 hk4 HRB HR HL
      go_wp2_with (first
        | (refine wp_alloc_row zero_ob rfl rfl ?_)
        | (refine wp_fill_row size_ob rfl _ _ rfl _ (by simp [vb_length, zer_length]) _ rfl rfl hC (fun u hu => kind_ob.one (x, t) u (by simpa using hu)) ?_)
        | (refine wpList_load_mid rfl 27 _ rfl w2.heap.size 0 rfl (vb x.1) _ HOB3.out Tryd.underlying27 rfl (cells_ii x) ?_)
        | (refine wp_build_row rfl _ rfl _ HB1.out (by simp [Act.eval, Act.put, idV]) ?_)
        | (refine wp_alloc_row zero_kk rfl rfl ?_)
        | (refine wp_fill_kk rfl _ _ rfl rfl (by simp [Act.eval, Act.put]) ([], x) rfl ?_)
        | (refine wp_put_key rfl _ _ rfl (w2.heap.size + 1) rfl p0.1 rfl x HK4.out ?_))
      intro w5 hk5 hg5
      have ho5 : w5.heap[w2.heap.size]? = some (.cells (obC (x, t)).toArray 35) := (hg5.block _ (by rw [hz4]; omega) (fun e => by injection e with e; omega)).trans HO4.out
      have hb5 : Below w2.heap.size w2 w5 := HNB.out.grown hg5 (by rw [hz4]; omega) (fun k hk => by injection hk with hk; omega)
      have hz5 : w2.heap.size + 2 ≤ w5.heap.size := by have h9 := hg5.size; rw [hz4] at h9; exact h9
      clear hg5 qk3
      have HL5 : Hid (LeafF w.heap.size w w5 u5 u6 (gs.map (leafO nm)) (gs.map (leafK nm))) := HL2.out.below hb5
      have HO5 := Lib.hid ho5
      have HK5 := Lib.hid hk5
      clear HL2 hk5 ho5 hb5 HK4 HO4 HNB
      go_wp2_with (first
        | (refine wpList_load_row rfl 35 _ rfl w2.heap.size rfl 35 (obC (x, t)).toArray (0, 0) _ HO5.out Tryd.underlying35 rfl (by rw [hC]; exact size_ob) ?_)
        | (refine wp_one kind_ob (by omega) rfl _ rfl (x, t) rfl ?_)
        | (refine wp_append_rw kind_ob rfl _ _ rfl rfl (HL5.out.ob.alloc _) (by rw [asz]; omega) _ _ [(x, t)] rfl (rw_one kind_ob w5 (x, t) 35 _ rfl) (by simp; omega) ?_))
      intro v5 w6 ho6 hb6 hg6
      have hL5a : LeafF w.heap.size w (w5.alloc (.cells (obC (x, t)).toArray 35)) u5 u6 (gs.map (leafO nm)) (gs.map (leafK nm)) := HL5.out.below (new_below _ _)
      have hk6 : w6.heap[w2.heap.size + 1]? = some (.cells (kkC (p0.1, x)).toArray 52) := (hg6.block _ (by rw [asz]; omega) (box_apart (T' := 52) hL5a.ob (((new_below _ _).block _ (by omega)).trans HK5.out) (by decide))).trans (((new_below _ _).block _ (by omega)).trans HK5.out)
      have HL6 := Lib.hid (hL5a.appO hb6 hg6 ho6)
      have HK6 := Lib.hid hk6
      have hz6 : w2.heap.size + 2 < w6.heap.size + 1 := by have h9 := hg6.size; rw [asz] at h9; omega
      obtain ⟨A5, c5, e5, _, _⟩ := (ho6.rwIn kind_ob).len
      subst e5
      obtain ⟨l5, hl5⟩ : ∃ l5, ((gs.map (leafO nm)) ++ [(x, t)]).length = l5 := ⟨_, rfl⟩
      rw [hl5] at HL6 ⊢
      clear hk6 hL5a ho6 hb6 hg6 HL5 HO5 HK5 HOB3 hz3 hz4 hz5
      go_wp2_with (first
        | (refine wpList_load_row rfl 52 _ rfl (w2.heap.size + 1) rfl 52 (kkC (p0.1, x)).toArray (0, 0) _ HK6.out Tryd.underlying52 rfl (by rw [hk34]; exact size_kk) ?_)
        | (refine wp_one kind_kk (by omega) rfl _ rfl (p0.1, x) rfl ?_)
        | (refine wp_append_rw kind_kk rfl _ _ rfl rfl (HL6.out.row.alloc _) (by rw [asz]; omega) _ _ [(p0.1, x)] rfl (rw_one kind_kk w6 (p0.1, x) 52 _ rfl) (by simp; omega) ?_))
      intro v6 w7 ho7 hb7 hg7
      have HL7 := Lib.hid ((HL6.out.below (new_below w6 (.cells (kkC (p0.1, x)).toArray 52))).appK hb7 hg7 ho7)
      obtain ⟨A6, c6, e6, _, _⟩ := (ho7.rwIn kind_kk).len
      subst e6
      clear ho7 hb7 hg7 HL6 HK6 hz6
      have HL8 : Hid (LeafF w.heap.size w w7 (.slice A5 l5 c5) (.slice A6 (gs.map (leafK nm) ++ [(p0.1, x)]).length c6) ((gs ++ [q]).map (leafO nm)) ((gs ++ [q]).map (leafK nm))) := by
        rw [List.map_append, List.map_append, List.map_singleton, List.map_singleton, HLO.out.1, HLO.out.2]
        exact HL7.out
      have hl6 : (gs.map (leafK nm) ++ [(p0.1, x)]).length = gs.length + 1 := by simp
      rw [hl6] at HL8 ⊢
      clear HL7 hl6
      have hdl : (rest.drop 4).length = n - 4 := by rw [List.length_drop, HNN.out]
      have hqd : quads ps = (gs ++ [q]) ++ quads (rest.drop 4) := by rw [HD.out, List.append_assoc]; rfl
      have HQD := Lib.hid hqd
      clear hqd HD
      go_wp2_with (refine wp_from_pp rfl _ _ rfl b of n c 4 rfl rfl (by omega) hrc hcm ?_)
      intro of2 c9 hfrom
      have HPD : Hid (PsIn w w.heap.size (.slice (some ⟨b, of2, none⟩) (n - 4) c9) (rest.drop 4)) := hfrom _ _ _ hpr.out
      clear hfrom
      go_wp2_with fail
      go_roundw
      case rel => exact ⟨gs ++ [q], rest.drop 4, of2, c9, by rw [hdl], by omega, by omega, HQD.out, HPD.out, HL8.out⟩
      case measure => simp [lenOf]; omega
    · have hbi : ¬ (4 : Int) < n := by omega
      obtain ⟨q, hq⟩ : ∃ q, rest.take n = q := ⟨_, rfl⟩
      have hq0 : rest.take 4 = q := by rw [← hq, List.take_of_length_le (by rw [HNN.out]; omega), List.take_of_length_le (by rw [HNN.out]; exact Nat.le_refl _)]
      have hd0 : rest.drop 4 = [] := List.drop_eq_nil_of_le (by rw [HNN.out]; omega)
      rw [hq0, hd0, quads_nil] at hq4
      have HD : Hid (quads ps = gs ++ [q]) := by unfold Hid; rw [hqr.out, hq4]
      have hGT : GoodT ⟨q, []⟩ := leaf_good HG.out (by rw [HD.out]; simp)
      have hqk : headK q = p0.1 := by rw [← hq]; exact HHK.out _ (by omega)
      have hr := rtree_any (.agg #[.slice (some ⟨b, of, none⟩) n c, .slice none 0 0]) ⟨q, []⟩ wr ⟨_, _, rfl, by rw [← hq]; exact ((RwIn.takeN (hpr.out.below HL.out.be) (by rw [HNN.out]; omega)).more HL.out.be.size), RwIn.nil _ _⟩ (treeT_small hGT).1 (treeT_small hGT).2
      have hrb := fun W => robj_any k.toNat nm HN.out (treeB ⟨q, []⟩) W (rlim hGT)
      obtain ⟨x, hx⟩ : ∃ x, nm (treeB ⟨q, []⟩) = x := ⟨_, rfl⟩
      obtain ⟨t, ht⟩ : ∃ t, treeB ⟨q, []⟩ = t := ⟨_, rfl⟩
      have HLO : Hid (leafO nm q = (x, t) ∧ leafK nm q = (p0.1, x)) := ⟨by rw [← hx, ← ht]; rfl, by rw [← hqk, ← hx]; rfl⟩
      rw [hx, ht] at hrb
      rw [ht] at hr
      have HR := Lib.hid hr
      have HRB := Lib.hid hrb
      have hC : (obC (x, t)).toArray.size = 34 := by rw [List.size_toArray, obC_len]
      have hk34 : (kkC (p0.1, x)).toArray.size = 34 := by rw [List.size_toArray, kind_kk.len]
      have HB1 := Lib.hid (built_k1 x)
      clear hr hrb hx ht hqk hq4 hqr hGT hq0 hd0
      go_wp2_with (refine wp_build_row rfl _ rfl _ (built_trp _ _ _) (by simp [Act.eval]) ?_)
      refine HR.out.mono ?_
      rintro e w1 ⟨rfl, hb1⟩
      have HB1w := Lib.hid hb1
      clear hb1
      go_wp2_with fail
      refine (HRB.out w1).mono ?_
      rintro e w2 ⟨rfl, hb2⟩
      have HL2 : Hid (LeafF w.heap.size w w2 u5 u6 (gs.map (leafO nm)) (gs.map (leafK nm))) := HL.out.below (HB1w.out.trans (hb2.mono HB1w.out.size))
      have hz2 : w.heap.size ≤ w2.heap.size := HL2.out.le
      have hz2w : w.heap.size ≤ w2.heap.size := HL2.out.be.size
      have HOB3 : Hid ((w2.alloc (.cells (obC (x, t)).toArray 35)).rangeAt w2.heap.size 0 (vb x.1)) := ob_range (heap_alloc_new w2 _)
      have hz3 : (w2.alloc (.cells (obC (x, t)).toArray 35)).heap.size = w2.heap.size + 1 := asz _ _
      have hz4 : ((w2.alloc (.cells (obC (x, t)).toArray 35)).alloc (.cells (kkC ([], x)).toArray 52)).heap.size = w2.heap.size + 2 := by rw [asz, hz3]
      have hnb : Below w2.heap.size w2 ((w2.alloc (.cells (obC (x, t)).toArray 35)).alloc (.cells (kkC ([], x)).toArray 52)) := (new_below _ _).trans ((new_below _ _).mono (by rw [hz3]; omega))
      have ho4 : ((w2.alloc (.cells (obC (x, t)).toArray 35)).alloc (.cells (kkC ([], x)).toArray 52)).heap[w2.heap.size]? = some (.cells (obC (x, t)).toArray 35) := ((new_below (w2.alloc (.cells (obC (x, t)).toArray 35)) _).block _ (by rw [hz3]; omega)).trans (heap_alloc_new w2 _)
      have hk4 : ((w2.alloc (.cells (obC (x, t)).toArray 35)).alloc (.cells (kkC ([], x)).toArray 52)).heap[w2.heap.size + 1]? = some (.cells (kkC ([], x)).toArray 52) := by have h9 := heap_alloc_new (w2.alloc (.cells (obC (x, t)).toArray 35)) (.cells (kkC ([], x)).toArray 52); rwa [hz3] at h9
      have qk3 : ((w2.alloc (.cells (obC (x, t)).toArray 35)).alloc (.cells (kkC ([], x)).toArray 52)).cell? ⟨b, of, none⟩ = some (.string ⟨p0.1.toArray⟩) := (hnb.cell (p := ⟨b, of, none⟩) (by show b < _; omega)).trans ((HL2.out.be.cell (p := ⟨b, of, none⟩) (by show b < _; omega)).trans HKEY.out)
      have HK4 := Lib.hid hk4
      have HO4 := Lib.hid ho4
      have HNB := Lib.hid hnb
      clear hb2 HB1w hnb ho4 hk4 HRB HR HL
      go_wp2_with (first
        | (refine wp_alloc_row zero_ob rfl rfl ?_)
        | (refine wp_fill_row size_ob rfl _ _ rfl _ (by simp [vb_length, zer_length]) _ rfl rfl hC (fun u hu => kind_ob.one (x, t) u (by simpa using hu)) ?_)
        | (refine wpList_load_mid rfl 27 _ rfl w2.heap.size 0 rfl (vb x.1) _ HOB3.out Tryd.underlying27 rfl (cells_ii x) ?_)
        | (refine wp_build_row rfl _ rfl _ HB1.out (by simp [Act.eval, Act.put, idV]) ?_)
        | (refine wp_alloc_row zero_kk rfl rfl ?_)
        | (refine wp_fill_kk rfl _ _ rfl rfl (by simp [Act.eval, Act.put]) ([], x) rfl ?_)
        | (refine wp_put_key rfl _ _ rfl (w2.heap.size + 1) rfl p0.1 rfl x HK4.out ?_))
      intro w5 hk5 hg5
      have ho5 : w5.heap[w2.heap.size]? = some (.cells (obC (x, t)).toArray 35) := (hg5.block _ (by rw [hz4]; omega) (fun e => by injection e with e; omega)).trans HO4.out
      have hb5 : Below w2.heap.size w2 w5 := HNB.out.grown hg5 (by rw [hz4]; omega) (fun k hk => by injection hk with hk; omega)
      have hz5 : w2.heap.size + 2 ≤ w5.heap.size := by have h9 := hg5.size; rw [hz4] at h9; exact h9
      clear hg5 qk3
      have HL5 : Hid (LeafF w.heap.size w w5 u5 u6 (gs.map (leafO nm)) (gs.map (leafK nm))) := HL2.out.below hb5
      have HO5 := Lib.hid ho5
      have HK5 := Lib.hid hk5
      clear HL2 hk5 ho5 hb5 HK4 HO4 HNB
      go_wp2_with (first
        | (refine wpList_load_row rfl 35 _ rfl w2.heap.size rfl 35 (obC (x, t)).toArray (0, 0) _ HO5.out Tryd.underlying35 rfl (by rw [hC]; exact size_ob) ?_)
        | (refine wp_one kind_ob (by omega) rfl _ rfl (x, t) rfl ?_)
        | (refine wp_append_rw kind_ob rfl _ _ rfl rfl (HL5.out.ob.alloc _) (by rw [asz]; omega) _ _ [(x, t)] rfl (rw_one kind_ob w5 (x, t) 35 _ rfl) (by simp; omega) ?_))
      intro v5 w6 ho6 hb6 hg6
      have hL5a : LeafF w.heap.size w (w5.alloc (.cells (obC (x, t)).toArray 35)) u5 u6 (gs.map (leafO nm)) (gs.map (leafK nm)) := HL5.out.below (new_below _ _)
      have hk6 : w6.heap[w2.heap.size + 1]? = some (.cells (kkC (p0.1, x)).toArray 52) := (hg6.block _ (by rw [asz]; omega) (box_apart (T' := 52) hL5a.ob (((new_below _ _).block _ (by omega)).trans HK5.out) (by decide))).trans (((new_below _ _).block _ (by omega)).trans HK5.out)
      have HL6 := Lib.hid (hL5a.appO hb6 hg6 ho6)
      have HK6 := Lib.hid hk6
      have hz6 : w2.heap.size + 2 < w6.heap.size + 1 := by have h9 := hg6.size; rw [asz] at h9; omega
      obtain ⟨A5, c5, e5, _, _⟩ := (ho6.rwIn kind_ob).len
      subst e5
      obtain ⟨l5, hl5⟩ : ∃ l5, ((gs.map (leafO nm)) ++ [(x, t)]).length = l5 := ⟨_, rfl⟩
      rw [hl5] at HL6 ⊢
      clear hk6 hL5a ho6 hb6 hg6 HL5 HO5 HK5 HOB3 hz3 hz4 hz5
      go_wp2_with (first
        | (refine wpList_load_row rfl 52 _ rfl (w2.heap.size + 1) rfl 52 (kkC (p0.1, x)).toArray (0, 0) _ HK6.out Tryd.underlying52 rfl (by rw [hk34]; exact size_kk) ?_)
        | (refine wp_one kind_kk (by omega) rfl _ rfl (p0.1, x) rfl ?_)
        | (refine wp_append_rw kind_kk rfl _ _ rfl rfl (HL6.out.row.alloc _) (by rw [asz]; omega) _ _ [(p0.1, x)] rfl (rw_one kind_kk w6 (p0.1, x) 52 _ rfl) (by simp; omega) ?_))
      intro v6 w7 ho7 hb7 hg7
      have HL7 := Lib.hid ((HL6.out.below (new_below w6 (.cells (kkC (p0.1, x)).toArray 52))).appK hb7 hg7 ho7)
      obtain ⟨A6, c6, e6, _, _⟩ := (ho7.rwIn kind_kk).len
      subst e6
      clear ho7 hb7 hg7 HL6 HK6 hz6
      have HL8 : Hid (LeafF w.heap.size w w7 (.slice A5 l5 c5) (.slice A6 (gs.map (leafK nm) ++ [(p0.1, x)]).length c6) ((gs ++ [q]).map (leafO nm)) ((gs ++ [q]).map (leafK nm))) := by
        rw [List.map_append, List.map_append, List.map_singleton, List.map_singleton, HLO.out.1, HLO.out.2]
        exact HL7.out
      have hl6 : (gs.map (leafK nm) ++ [(p0.1, x)]).length = gs.length + 1 := by simp
      rw [hl6] at HL8 ⊢
      clear HL7 hl6
      have HQD : Hid (quads ps = gs ++ [q]) := HD.out
      have HGR : Hid (GoodRow k ((gs ++ [q]).map (leafK nm))) := by
        rw [← HQD.out, ← HOL.out.2]
        exact GoodRow.leaf HG.out HONE.out
      have HOA : Hid (obsA nm ps = (gs ++ [q]).map (leafO nm) ++ (upAll nm ((gs ++ [q]).map (leafK nm))).2) := by
        unfold Hid obsA
        rw [HOL.out.1, HOL.out.2, HQD.out]
      obtain ⟨k0, hk0⟩ : ∃ k0, (gs ++ [q]).map (leafK nm) = k0 := ⟨_, rfl⟩
      obtain ⟨m0, hm0⟩ : ∃ m0, (gs ++ [q]).map (leafO nm) = m0 := ⟨_, rfl⟩
      have hk0l : gs.length + 1 = k0.length := by rw [← hk0]; simp
      rw [hk0, hm0] at HL8 HOA
      rw [hk0] at HGR
      have hl5 : l5 = m0.length := by rw [← hl5, ← hm0, List.map_append, List.map_singleton, HLO.out.1]
      rw [hk0l] at HL8 ⊢
      rw [hl5] at HL8 ⊢
      have hkb : 1 ≤ k0.length ∧ k0.length ≤ 65 := by omega
      clear hk0 hm0 hk0l HQD HD hbi
      go_wp2_with (refine wp_from_pp rfl _ _ rfl b of n c n rfl rfl (Nat.le_refl _) hrc hcm ?_)
      intro of2 c9 _
      focus
        go_wp2_with fail
        go_loopw [5, 6] (fun v5 v6 wr => ∃ (ks : List Kd) (made : List Ob) (A c A5 c5 : _), v6 = .slice A ks.length c ∧ v5 = .slice A5 made.length c5 ∧ 1 ≤ ks.length ∧ ks.length ≤ 65 ∧ Hid (GoodRow k ks) ∧ Hid (LeafF w.heap.size w wr v5 v6 made ks) ∧ Hid (obsA nm ps = made ++ (upAll nm ks).2)) (fun _ v6 _ => lenOf v6)
        case atStart => exact ⟨k0, m0, A6, c6, A5, c5, rfl, rfl, hkb.1, hkb.2, HGR.out, HL8.out, HOA.out⟩
        case round =>
          obtain ⟨ks, made, A, c, A5, c5, rfl, rfl, hk1, hk2, hgr, HL, hoa⟩ := hrel
          by_cases hlen : ks.length ≤ 1
          · have hoe : Hid (obsA nm ps = made) := by rw [hoa.out, upAll_one hlen, List.append_nil]; rfl
            have hli : ¬ (1 : Int) < ks.length := by omega
            clear hoa hgr
            go_wp2_with fail
            go_ret
            exact ⟨_, rfl, by rw [hoe.out]; exact HL.out.ob, HL.out.be⟩
          · have hli : (1 : Int) < ks.length := by omega
            obtain ⟨wo, rfl⟩ : ∃ x, x = wr := ⟨_, rfl⟩
            have h2 : 2 ≤ ks.length := by omega
            have hks := HL.out.row.rwIn kind_kk
            obtain ⟨b2, off2, eA2, hb2z, hbk2⟩ : ∃ b2 off2, A = some ⟨b2, off2, none⟩ ∧ b2 < wo.heap.size ∧ ∃ C fr, wo.heap[b2]? = some (.cells C 52 fr) := by
              rcases HL.out.row.2 with ⟨_, h9⟩ | ⟨g9, cap9, cur9, e9, _, hh9, _⟩
              · omega
              · injection e9 with e9
                exact ⟨g9, 0, e9, (Array.getElem?_eq_some_iff.1 hh9).1, _, _, hh9⟩
            subst eA2
            obtain ⟨Cb, frb, hbk⟩ := hbk2
            have HBK := Lib.hid hbk
            have HKS := Lib.hid hks
            have HGU := Lib.hid (GoodRow.up hgr.out HONE.out h2)
            have HOU : Hid (obsA nm ps = (made ++ obsU nm ks) ++ (upAll nm (rowU nm ks)).2) := by
              unfold Hid
              rw [hoa.out, upAll_more hlen, List.append_assoc]
            have HGL : Hid (∀ g ∈ groups ks, GoodT ⟨[], g⟩ ∧ 2 ≤ g.length) := fun g hg => ⟨up_good hgr.out h2 hg, (groups_size _ ks rfl h2 g hg).1⟩
            have hgn : (groups ks).length ≤ 65 := by rw [groups_len _ ks rfl]; omega
            have hoa1 := obsA_few nm ps hfew
            have hmade : made.length ≤ 130 := by
              have h9 := congrArg List.length hoa.out
              rw [List.length_append] at h9
              omega
            have hzw : w.heap.size ≤ wo.heap.size := HL.out.be.size
            have HL0 : Hid (LeafF wo.heap.size w wo (.slice A5 made.length c5) (.slice none 0 0) made []) := ⟨HL.out.ob, OwnRw.nil _ _, HL.out.be, hzw, Nat.le_refl _⟩
            clear hks hbk HL hgr hoa
            go_wp2_with fail
            go_loopw [5, 6, 11] (fun v5 v6 v11 wr => ∃ (gs : List (List Kd)) (rest : List Kd) (off c : Nat) (A5 : Option Addr) (c5 l5 A11 c11 l11 : _), v6 = .slice (some ⟨b2, off, none⟩) rest.length c ∧ v5 = .slice A5 l5 c5 ∧ v11 = .slice A11 l11 c11 ∧ Hid (l5 = (made ++ gs.map (upO nm)).length) ∧ Hid (l11 = gs.length) ∧ rest.length ≤ 65 ∧ Hid (groups ks = gs ++ groups rest) ∧ Hid (KsIn wo wo.heap.size v6 rest) ∧ Hid (wr.heap[b2]? = wo.heap[b2]?) ∧ Hid (LeafF wo.heap.size w wr v5 v11 (made ++ gs.map (upO nm)) (gs.map (upK nm)))) (fun _ v6 _ _ => lenOf v6)
            case atStart => exact ⟨[], ks, off2, c, A5, c5, made.length, none, 0, 0, rfl, rfl, rfl, by simp [Hid], rfl, hk2, rfl, HKS.out, rfl, by rw [List.map_nil, List.map_nil, List.append_nil]; exact HL0.out⟩
            case round =>
              obtain ⟨gs, rest, off, c, A5, c5, l5, A11, c11, l11, rfl, rfl, rfl, hl5e, hl11e, hr65, hgr, hkr, heq, HL⟩ := hrel
              by_cases hrest : rest = []
              · have e5 : gs = groups ks := by
                  have h9 := hgr.out
                  rw [hrest, groups_nil, List.append_nil] at h9
                  exact h9.symm
                subst e5
                have hz0 : rest.length = 0 := by rw [hrest]; rfl
                have HLx : Hid (LeafF w.heap.size w wr (.slice A5 (made ++ obsU nm ks).length c5) (.slice A11 (rowU nm ks).length c11) (made ++ obsU nm ks) (rowU nm ks)) := by
                  have h9 := HL.out
                  rw [hl5e.out, hl11e.out] at h9
                  have e11 : (groups ks).length = (rowU nm ks).length := by unfold rowU; rw [List.length_map]
                  rw [e11] at h9
                  exact ⟨h9.ob, h9.row.lower hzw, h9.be, Nat.le_refl _, h9.be.size⟩
                have e5l : l5 = (made ++ obsU nm ks).length := hl5e.out
                have e11l : l11 = (rowU nm ks).length := by rw [hl11e.out]; unfold rowU; rw [List.length_map]
                rw [e5l, e11l]
                have hru := rowU_len nm ks
                obtain ⟨ku, hku⟩ : ∃ ku, rowU nm ks = ku := ⟨_, rfl⟩
                obtain ⟨mu, hmu⟩ : ∃ mu, made ++ obsU nm ks = mu := ⟨_, rfl⟩
                rw [hku] at hru HLx HGU HOU ⊢
                rw [hmu] at HLx HOU ⊢
                have HRU := Lib.hid hru
                clear hru hku hmu e5l e11l HL hkr hgr heq hl5e hl11e hrest
                go_wp2_with fail
                go_roundw
                case rel => exact ⟨ku, mu, A11, c11, A5, c5, rfl, rfl, by have := HRU.out; omega, by have := HRU.out; omega, HGU.out, HLx.out, HOU.out⟩
                case measure => have := HRU.out; simp [lenOf]; omega
              · obtain ⟨n, hnn⟩ : ∃ n, rest.length = n := ⟨_, rfl⟩
                have hpos : 0 < rest.length := List.length_pos_iff.2 hrest
                obtain ⟨p0, hp0⟩ : ∃ p, rest[0]? = some p := ⟨rest[0], List.getElem?_eq_getElem hpos⟩
                obtain ⟨q, hq⟩ : ∃ q, rest.take (nextN rest.length) = q := ⟨_, rfl⟩
                have HD : Hid (groups ks = gs ++ q :: groups (rest.drop (nextN rest.length))) := by
                  have h9 := hgr.out
                  rwa [groups_cons hrest, hq] at h9
                obtain ⟨hGT, hq2⟩ := HGL.out q (by rw [HD.out]; simp)
                have hgsl : gs.length ≤ 65 := by
                  have h9 := congrArg List.length HD.out
                  rw [List.length_append] at h9
                  omega
                obtain ⟨A2, c2, e2, hrc, hcm⟩ := hkr.out.len
                injection e2 with e2a _ e2
                subst e2a e2
                have HKEY : Hid (wr.cell? ⟨b2, off, none⟩ = some (.string ⟨p0.1.toArray⟩)) := by
                  obtain ⟨b9, off9, e9, _, hr9⟩ := KsIn.range hkr.out hp0
                  injection e9 with e9
                  injection e9 with e9 e8
                  subst e9 e8
                  have h9 := range_key hr9
                  rw [show off + 0 * 34 = off by omega] at h9
                  exact (World.cell?_of_block heq.out).trans h9
                have hqk : headK q = p0.1 := by
                  rw [← hq]
                  unfold headK
                  rw [List.head?_take, if_neg (by have := nextN_pos hpos; omega), List.head?_eq_getElem?, hp0]
                  rfl
                have hql : q.length = nextN n := by rw [← hq, List.length_take, hnn]; exact Nat.min_eq_left (nextN_le n)
                rw [hnn] at hq HD hr65 hrc hkr hpos ⊢
                have hnle := nextN_le n
                have hr := rtree_any (.agg #[.slice none 0 0, .slice (some ⟨b2, off, none⟩) (nextN n) c]) ⟨[], q⟩ wr ⟨_, _, rfl, RwIn.nil _ _, by rw [← hq]; exact ((RwIn.takeN (RwIn.same hkr.out heq.out) (by rw [hnn]; exact hnle)).more HL.out.le)⟩ (treeT_small hGT).1 (treeT_small hGT).2
                have hrb := fun W => robj_any k.toNat nm HN.out (treeB ⟨[], q⟩) W (rlim hGT)
                obtain ⟨x, hx⟩ : ∃ x, nm (treeB ⟨[], q⟩) = x := ⟨_, rfl⟩
                obtain ⟨t, ht⟩ : ∃ t, treeB ⟨[], q⟩ = t := ⟨_, rfl⟩
                have HLO : Hid (upO nm q = (x, t) ∧ upK nm q = (p0.1, x)) := ⟨by rw [← hx, ← ht]; rfl, by rw [← hqk, ← hx]; rfl⟩
                rw [hx, ht] at hrb
                rw [ht] at hr
                have HR := Lib.hid hr
                have HRB := Lib.hid hrb
                have HNN := Lib.hid hnn
                have hC : (obC (x, t)).toArray.size = 34 := by rw [List.size_toArray, obC_len]
                have hMl : (made ++ gs.map (upO nm)).length ≤ 200 := by rw [List.length_append, List.length_map]; omega
                have hGl : (gs.map (upK nm)).length ≤ 200 := by rw [List.length_map]; omega
                obtain ⟨M, hM⟩ : ∃ M, made ++ gs.map (upO nm) = M := ⟨_, rfl⟩
                obtain ⟨L, hL⟩ : ∃ L, gs.map (upK nm) = L := ⟨_, rfl⟩
                rw [hM] at HL hMl
                rw [hL] at HL hGl
                have HM2 : Hid (made ++ (gs ++ [q]).map (upO nm) = M ++ [(x, t)]) := by
                  unfold Hid
                  rw [List.map_append, ← List.append_assoc, hM, List.map_singleton, HLO.out.1]
                have HL2x : Hid ((gs ++ [q]).map (upK nm) = L ++ [(p0.1, x)]) := by
                  unfold Hid
                  rw [List.map_append, hL, List.map_singleton, HLO.out.2]
                have HLL : Hid (L.length = gs.length) := by unfold Hid; rw [← hL, List.length_map]
                have HD2 : Hid (groups ks = (gs ++ [q]) ++ groups (rest.drop (nextN n))) := by
                  unfold Hid
                  rw [HD.out, List.append_assoc]
                  rfl
                have hdl : (rest.drop (nextN n)).length = n - nextN n := by rw [List.length_drop, hnn]
                have HDL := Lib.hid hdl
                clear hr hrb hx ht hqk hq hgr hGT hp0 hrest hM hL HD hnn hdl hl5e hl11e
                have hways : (n = 4 ∧ nextN n = 2) ∨ (n = 2 ∧ nextN n = 2) ∨ (n ≠ 4 ∧ n ≠ 2 ∧ 3 ≤ n ∧ nextN n = 3) := by
                  rw [hql] at hq2
                  unfold nextN at hq2 ⊢
                  by_cases h9 : n = 4
                  · exact .inl ⟨h9, if_pos h9⟩
                  · rw [if_neg h9] at hq2 ⊢
                    omega
                rcases hways with ⟨hn4, hmN⟩ | ⟨hn2, hmN⟩ | ⟨hn4, hn2, hn3, hmN⟩
                · subst hn4
                  rw [hmN] at HR HDL HD2
                  clear hmN hq2 hql hnle
                  have hmc : (2 : Int) ≤ (c : Int) := by omega
                  go_wp2_with (refine wp_build_row rfl _ rfl _ (built_trk _ _ _) (by simp [Act.eval]) ?_)
                  refine HR.out.mono ?_
                  rintro e w1 ⟨rfl, hb1⟩
                  have HB1w := Lib.hid hb1
                  clear hb1
                  go_wp2_with fail
                  refine (HRB.out w1).mono ?_
                  rintro e w2 ⟨rfl, hb2⟩
                  have hb12 := HB1w.out.trans (hb2.mono HB1w.out.size)
                  have HL3 : Hid (LeafF wo.heap.size w (w2.alloc (.cells (obC (x, t)).toArray 35)) (.slice A5 l5 c5) (.slice A11 l11 c11) M L) := HL.out.below (hb12.trans ((new_below w2 _).mono hb12.size))
                  have heq3 : (w2.alloc (.cells (obC (x, t)).toArray 35)).heap[b2]? = wo.heap[b2]? := (((hb12.trans ((new_below w2 _).mono hb12.size))).block b2 (by have := HL.out.le; omega)).trans heq.out
                  have hkey3 : (w2.alloc (.cells (obC (x, t)).toArray 35)).cell? ⟨b2, off, none⟩ = some (.string ⟨p0.1.toArray⟩) := (World.cell?_of_block (heq3.trans heq.out.symm)).trans HKEY.out
                  have HOB3 : Hid ((w2.alloc (.cells (obC (x, t)).toArray 35)).heap[w2.heap.size]? = some (.cells (obC (x, t)).toArray 35)) := heap_alloc_new w2 _
                  have hz2 : wo.heap.size ≤ w2.heap.size := Nat.le_trans HL.out.le hb12.size
                  have hz3 : (w2.alloc (.cells (obC (x, t)).toArray 35)).heap.size = w2.heap.size + 1 := asz _ _
                  have HEQ3 := Lib.hid heq3
                  have HKEY3 := Lib.hid hkey3
                  have hbox9 : some w2.heap.size ≠ (Value.slice A5 l5 c5).ownBlock := fun e => by have h9 := (World.ownsRow.lt HL.out.ob _ e.symm).2; have h8 := hb12.size; omega
                  clear hb2 hb12 HB1w HL heq heq3 hkey3 HKEY HR HRB
                  go_wp2_with (first
                    | (refine wp_alloc_row zero_ob rfl rfl ?_)
                    | (refine wp_fill_row size_ob rfl _ _ rfl _ (by simp [vb_length, zer_length]) _ rfl rfl hC (fun u hu => kind_ob.one (x, t) u (by simpa using hu)) ?_)
                    | (refine wpList_load_row rfl 35 _ rfl w2.heap.size rfl 35 (obC (x, t)).toArray (0, 0) _ HOB3.out Tryd.underlying35 rfl (by rw [hC]; exact size_ob) ?_)
                    | (refine wp_one kind_ob (by omega) rfl _ rfl (x, t) rfl ?_)
                    | (refine wp_append_rw kind_ob rfl _ _ rfl rfl (HL3.out.ob.alloc _) (by rw [asz, hz3]; omega) _ _ [(x, t)] rfl (rw_one kind_ob (w2.alloc (.cells (obC (x, t)).toArray 35)) (x, t) 35 _ rfl) (by simp; omega) ?_))
                  intro v5 w6 ho6 hb6 hg6
                  have hL3a : LeafF wo.heap.size w ((w2.alloc (.cells (obC (x, t)).toArray 35)).alloc (.cells (obC (x, t)).toArray 35)) (.slice A5 l5 c5) (.slice A11 l11 c11) M L := HL3.out.below (new_below _ _)
                  have hb2k : (w2.alloc (.cells (obC (x, t)).toArray 35)).heap[b2]? = some (.cells Cb 52 frb) := HEQ3.out.trans HBK.out
                  have heq6 : w6.heap[b2]? = wo.heap[b2]? := ((hg6.block b2 (by rw [asz, hz3]; omega) (box_apart (T' := 52) hL3a.ob (((new_below _ _).block _ (by rw [hz3]; omega)).trans hb2k) (by decide))).trans ((new_below _ _).block _ (by rw [hz3]; omega))).trans HEQ3.out
                  have hkey6 : w6.cell? ⟨b2, off, none⟩ = some (.string ⟨p0.1.toArray⟩) := (World.cell?_of_block (heq6.trans HEQ3.out.symm)).trans HKEY3.out
                  have hob6 : w6.heap[w2.heap.size]? = some (.cells (obC (x, t)).toArray 35) := ((hg6.block _ (by rw [asz, hz3]; omega) hbox9).trans ((new_below _ _).block _ (by rw [hz3]; omega))).trans HOB3.out
                  have HL6 := Lib.hid (hL3a.appO hb6 hg6 ho6)
                  obtain ⟨A6, c6, e6, _, _⟩ := (ho6.rwIn kind_ob).len
                  subst e6
                  have hz6 : w2.heap.size + 2 ≤ w6.heap.size := by have h9 := hg6.size; rw [asz, hz3] at h9; omega
                  clear ho6 hb6 hg6 hL3a hb2k HL3 HEQ3 HKEY3 HOB3 hz3 hbox9
                  go_wp2_with fail
                  obtain ⟨W0, hW0⟩ : ∃ x, w6.drew = x := ⟨_, rfl⟩
                  have HL0 : Hid (LeafF wo.heap.size w W0 (.slice A6 (M ++ [(x, t)]).length c6) (.slice A11 l11 c11) (M ++ [(x, t)]) L) := by rw [← hW0]; exact HL6.out.below (Below.refl _ _).drew
                  have HEQ0 : Hid (W0.heap[b2]? = wo.heap[b2]?) := by rw [← hW0]; exact heq6
                  have hzW : w2.heap.size + 2 ≤ W0.heap.size := by rw [← hW0]; exact hz6
                  have hS0 : W0.cell? ⟨b2, off, none⟩ = some (.string ⟨p0.1.toArray⟩) ∧ W0.heap[w2.heap.size]? = some (.cells (obC (x, t)).toArray 35) := by rw [← hW0]; exact ⟨hkey6, hob6⟩
                  clear heq6 hkey6 hob6 HL6 hz6
                  refine region_begin hW0 (S := fun W => W.cell? ⟨b2, off, none⟩ = some (.string ⟨p0.1.toArray⟩) ∧ W.heap[w2.heap.size]? = some (.cells (obC (x, t)).toArray 35)) (by kernel_rfl) hS0 (fun hHeld => ?_)
                  clear hW0
                  refine take_at (i := 0) (.slice A11 l11 c11) (some 75) (by decide) (by rfl) (by kernel_rfl) (by kernel_rfl) (by kernel_rfl) (fun _ _ _ h => h) (by rfl) (fun W hW => by go_simp) (by assumption) ?_
                  try simp only [Act.put, List.setIfInBounds_toArray, List.set_cons_zero, List.set_cons_succ]
                  refine take_at (i := 1) (.slice (some ⟨b2, off, none⟩) 4 c) (some 76) (by decide) (by rfl) (by kernel_rfl) (by kernel_rfl) (by kernel_rfl) (fun _ _ _ h => h) (by rfl) (fun W hW => by go_simp) (by assumption) ?_
                  try simp only [Act.put, List.setIfInBounds_toArray, List.set_cons_zero, List.set_cons_succ]
                  refine take_at (i := 2) (.pointer (some ⟨b2, off, none⟩)) (some 77) (by decide) (by rfl) (by kernel_rfl) (by kernel_rfl) (by kernel_rfl) (fun _ _ _ h => h) (by rfl) (fun W hW => by go_simp) (by assumption) ?_
                  try simp only [Act.put, List.setIfInBounds_toArray, List.set_cons_zero, List.set_cons_succ]
                  refine take_at (i := 3) (.pointer (some ⟨b2, off, none⟩)) (some 78) (by decide) (by rfl) (by kernel_rfl) (by kernel_rfl) (by kernel_rfl) (fun _ _ _ h => h) (by rfl) (fun W hW => by go_simp) (by assumption) ?_
                  try simp only [Act.put, List.setIfInBounds_toArray, List.set_cons_zero, List.set_cons_succ]
                  refine take_at (i := 4) (.string ⟨p0.1.toArray⟩) (some 79) (by decide) (by rfl) (by kernel_rfl) (by kernel_rfl) (by kernel_rfl) (fun _ _ _ h => h) (by rfl) (fun W hW => by have h9 := hW.1; go_simp) (by assumption) ?_
                  try simp only [Act.put, List.setIfInBounds_toArray, List.set_cons_zero, List.set_cons_succ]
                  refine take_at (i := 5) (.pointer (some ⟨w2.heap.size, 0, none⟩)) (some 80) (by decide) (by rfl) (by kernel_rfl) (by kernel_rfl) (by kernel_rfl) (fun _ _ _ h => h) (by rfl) (fun W hW => by go_simp) (by assumption) ?_
                  try simp only [Act.put, List.setIfInBounds_toArray, List.set_cons_zero, List.set_cons_succ]
                  refine take_at (i := 6) (idV x.1) (some 81) (by decide) (by rfl) (by kernel_rfl) (by kernel_rfl) (by kernel_rfl) (fun _ _ _ h => h) (by rfl) (fun W hW => by exact exec_load_mid _ _ rfl w2.heap.size 0 rfl (vb x.1) _ (ob_range (o := (x, t)) hW.2) Tryd.underlying27 rfl (cells_ii x)) (by assumption) ?_
                  try simp only [Act.put, List.setIfInBounds_toArray, List.set_cons_zero, List.set_cons_succ]
                  refine take_at (i := 7) (.agg (kkC (p0.1, x)).toArray) (some 82) (by decide) (by rfl) (by kernel_rfl) (by kernel_rfl) (by kernel_rfl) (fun _ _ _ h => h) (by rfl) (fun W hW => by exact exec_build_k2 _ _ rfl p0.1 x rfl rfl) (by assumption) ?_
                  try simp only [Act.put, List.setIfInBounds_toArray, List.set_cons_zero, List.set_cons_succ]
                  refine wpAnyH_ready (rs := [8]) (by kernel_rfl) (by simp) (AllReadyH.cons (Array.getElem?_eq_getElem (i := 8) (by decide)) (fun K9 hK => ?_) AllReadyH.nil)
                  refine step_one kind_kk (by omega) rfl _ rfl (p0.1, x) rfl ?_
                  have hnk : Below W0.heap.size W0 (W0.alloc (.cells (kkC (p0.1, x)).toArray 52)) := new_below W0 _
                  have hbz : b2 < W0.heap.size := by omega
                  have hS1 : (W0.alloc (.cells (kkC (p0.1, x)).toArray 52)).cell? ⟨b2, off, none⟩ = some (.string ⟨p0.1.toArray⟩) ∧ (W0.alloc (.cells (kkC (p0.1, x)).toArray 52)).heap[w2.heap.size]? = some (.cells (obC (x, t)).toArray 35) := ⟨(hnk.cell (p := ⟨b2, off, none⟩) hbz).trans hS0.1, (hnk.block _ (by omega)).trans hS0.2⟩
                  have HL1 := Lib.hid (HL0.out.below hnk)
                  have hzk : (W0.alloc (.cells (kkC (p0.1, x)).toArray 52)).heap.size = W0.heap.size + 1 := asz _ _
                  have HX := Lib.hid (rw_one kind_kk W0 (p0.1, x) 52 _ rfl)
                  have HEQ1 : Hid ((W0.alloc (.cells (kkC (p0.1, x)).toArray 52)).heap[b2]? = wo.heap[b2]?) := (hnk.block _ hbz).trans HEQ0.out
                  refine hK.out _ _ hS1 (fun hHeld => ?_)
                  clear hK K9
                  try simp only [Act.put, List.setIfInBounds_toArray]
                  generalize (W0.alloc (.cells (kkC (p0.1, x)).toArray 52)) = W1 at *
                  refine wpAnyH_ready (rs := [9]) (by kernel_rfl) (by simp) (AllReadyH.cons (Array.getElem?_eq_getElem (i := 9) (by decide)) (fun K9 hK => ?_) AllReadyH.nil)
                  refine step_append_rw kind_kk rfl _ _ rfl rfl HL1.out.row (by omega) (.slice (some ⟨W0.heap.size, 0, none⟩) 1 1) _ [(p0.1, x)] rfl HX.out (by simp; omega) ?_
                  intro v7 w7 ho7 hb7 hg7
                  have HL7 := Lib.hid (HL1.out.appK hb7 hg7 ho7)
                  obtain ⟨A7, c7, e7, _, _⟩ := (ho7.rwIn kind_kk).len
                  subst e7
                  have heq7 : w7.heap[b2]? = wo.heap[b2]? := (hb7.block b2 hb2z).trans HEQ1.out
                  have hS7 : w7.cell? ⟨b2, off, none⟩ = some (.string ⟨p0.1.toArray⟩) ∧ w7.heap[w2.heap.size]? = some (.cells (obC (x, t)).toArray 35) := ⟨(hb7.cell (p := ⟨b2, off, none⟩) hb2z).trans hS1.1, (hg7.block _ (by omega) (box_apart (T' := 35) HL1.out.row hS1.2 (by decide))).trans hS1.2⟩
                  refine hK.out _ _ hS7 (fun hHeld => ?_)
                  clear hK K9
                  try simp only [Act.put]
                  have HEQ7 := Lib.hid heq7
                  clear ho7 hb7 hg7 heq7 hS0 hS1 hS7 HL0 HL1 HX HEQ0 HEQ1 hnk hzk hzW
                  refine take_at (i := 10) (.slice A7 (L ++ [(p0.1, x)]).length c7) (some 11) (by decide) (by rfl) (by kernel_rfl) (by kernel_rfl) (by kernel_rfl) (fun _ _ _ h => h) (by rfl) (fun W hW => by go_simp) (by assumption) ?_
                  try simp only [Act.put]
                  refine wpAnyH_done (by kernel_rfl) ?_ _
                  try simp only [Act.put, List.setIfInBounds_toArray, List.set_cons_zero, List.set_cons_succ]
                  have hl7 : (L ++ [(p0.1, x)]).length = gs.length + 1 := by rw [List.length_append, HLL.out]; rfl
                  obtain ⟨l9, hl9⟩ : ∃ l9, (M ++ [(x, t)]).length = l9 := ⟨_, rfl⟩
                  rw [hl7, hl9] at HL7
                  rw [hl7, hl9]
                  have HL9 := Lib.hid hl9
                  clear hl7 hl9
                  go_wp2_with (refine wp_from_kk rfl _ _ rfl b2 off 4 c 2 rfl rfl (by omega) (by omega) (by omega) ?_)
                  intro off9 c9 hfrom
                  have HKD : Hid (KsIn wo wo.heap.size (.slice (some ⟨b2, off9, none⟩) (4 - 2) c9) (rest.drop 2)) := hfrom _ _ _ hkr.out
                  clear hfrom
                  go_wp2_with fail
                  go_roundw
                  case rel => exact ⟨gs ++ [q], rest.drop 2, off9, c9, A6, c6, l9, A7, c7, gs.length + 1, by rw [HDL.out], rfl, rfl, by unfold Hid; rw [HM2.out]; exact HL9.out.symm, by unfold Hid; simp, by rw [HDL.out]; omega, HD2.out, HKD.out, HEQ7.out, by rw [HM2.out, HL2x.out]; exact HL7.out⟩
                  case measure => simp [lenOf]
                · subst hn2
                  rw [hmN] at HR HDL HD2
                  clear hmN hq2 hql hnle
                  have hmc : (2 : Int) ≤ (c : Int) := by omega
                  go_wp2_with (refine wp_build_row rfl _ rfl _ (built_trk _ _ _) (by simp [Act.eval]) ?_)
                  refine HR.out.mono ?_
                  rintro e w1 ⟨rfl, hb1⟩
                  have HB1w := Lib.hid hb1
                  clear hb1
                  go_wp2_with fail
                  refine (HRB.out w1).mono ?_
                  rintro e w2 ⟨rfl, hb2⟩
                  have hb12 := HB1w.out.trans (hb2.mono HB1w.out.size)
                  have HL3 : Hid (LeafF wo.heap.size w (w2.alloc (.cells (obC (x, t)).toArray 35)) (.slice A5 l5 c5) (.slice A11 l11 c11) M L) := HL.out.below (hb12.trans ((new_below w2 _).mono hb12.size))
                  have heq3 : (w2.alloc (.cells (obC (x, t)).toArray 35)).heap[b2]? = wo.heap[b2]? := (((hb12.trans ((new_below w2 _).mono hb12.size))).block b2 (by have := HL.out.le; omega)).trans heq.out
                  have hkey3 : (w2.alloc (.cells (obC (x, t)).toArray 35)).cell? ⟨b2, off, none⟩ = some (.string ⟨p0.1.toArray⟩) := (World.cell?_of_block (heq3.trans heq.out.symm)).trans HKEY.out
                  have HOB3 : Hid ((w2.alloc (.cells (obC (x, t)).toArray 35)).heap[w2.heap.size]? = some (.cells (obC (x, t)).toArray 35)) := heap_alloc_new w2 _
                  have hz2 : wo.heap.size ≤ w2.heap.size := Nat.le_trans HL.out.le hb12.size
                  have hz3 : (w2.alloc (.cells (obC (x, t)).toArray 35)).heap.size = w2.heap.size + 1 := asz _ _
                  have HEQ3 := Lib.hid heq3
                  have HKEY3 := Lib.hid hkey3
                  have hbox9 : some w2.heap.size ≠ (Value.slice A5 l5 c5).ownBlock := fun e => by have h9 := (World.ownsRow.lt HL.out.ob _ e.symm).2; have h8 := hb12.size; omega
                  clear hb2 hb12 HB1w HL heq heq3 hkey3 HKEY HR HRB
                  go_wp2_with (first
                    | (refine wp_alloc_row zero_ob rfl rfl ?_)
                    | (refine wp_fill_row size_ob rfl _ _ rfl _ (by simp [vb_length, zer_length]) _ rfl rfl hC (fun u hu => kind_ob.one (x, t) u (by simpa using hu)) ?_)
                    | (refine wpList_load_row rfl 35 _ rfl w2.heap.size rfl 35 (obC (x, t)).toArray (0, 0) _ HOB3.out Tryd.underlying35 rfl (by rw [hC]; exact size_ob) ?_)
                    | (refine wp_one kind_ob (by omega) rfl _ rfl (x, t) rfl ?_)
                    | (refine wp_append_rw kind_ob rfl _ _ rfl rfl (HL3.out.ob.alloc _) (by rw [asz, hz3]; omega) _ _ [(x, t)] rfl (rw_one kind_ob (w2.alloc (.cells (obC (x, t)).toArray 35)) (x, t) 35 _ rfl) (by simp; omega) ?_))
                  intro v5 w6 ho6 hb6 hg6
                  have hL3a : LeafF wo.heap.size w ((w2.alloc (.cells (obC (x, t)).toArray 35)).alloc (.cells (obC (x, t)).toArray 35)) (.slice A5 l5 c5) (.slice A11 l11 c11) M L := HL3.out.below (new_below _ _)
                  have hb2k : (w2.alloc (.cells (obC (x, t)).toArray 35)).heap[b2]? = some (.cells Cb 52 frb) := HEQ3.out.trans HBK.out
                  have heq6 : w6.heap[b2]? = wo.heap[b2]? := ((hg6.block b2 (by rw [asz, hz3]; omega) (box_apart (T' := 52) hL3a.ob (((new_below _ _).block _ (by rw [hz3]; omega)).trans hb2k) (by decide))).trans ((new_below _ _).block _ (by rw [hz3]; omega))).trans HEQ3.out
                  have hkey6 : w6.cell? ⟨b2, off, none⟩ = some (.string ⟨p0.1.toArray⟩) := (World.cell?_of_block (heq6.trans HEQ3.out.symm)).trans HKEY3.out
                  have hob6 : w6.heap[w2.heap.size]? = some (.cells (obC (x, t)).toArray 35) := ((hg6.block _ (by rw [asz, hz3]; omega) hbox9).trans ((new_below _ _).block _ (by rw [hz3]; omega))).trans HOB3.out
                  have HL6 := Lib.hid (hL3a.appO hb6 hg6 ho6)
                  obtain ⟨A6, c6, e6, _, _⟩ := (ho6.rwIn kind_ob).len
                  subst e6
                  have hz6 : w2.heap.size + 2 ≤ w6.heap.size := by have h9 := hg6.size; rw [asz, hz3] at h9; omega
                  clear ho6 hb6 hg6 hL3a hb2k HL3 HEQ3 HKEY3 HOB3 hz3 hbox9
                  go_wp2_with fail
                  obtain ⟨W0, hW0⟩ : ∃ x, w6.drew = x := ⟨_, rfl⟩
                  have HL0 : Hid (LeafF wo.heap.size w W0 (.slice A6 (M ++ [(x, t)]).length c6) (.slice A11 l11 c11) (M ++ [(x, t)]) L) := by rw [← hW0]; exact HL6.out.below (Below.refl _ _).drew
                  have HEQ0 : Hid (W0.heap[b2]? = wo.heap[b2]?) := by rw [← hW0]; exact heq6
                  have hzW : w2.heap.size + 2 ≤ W0.heap.size := by rw [← hW0]; exact hz6
                  have hS0 : W0.cell? ⟨b2, off, none⟩ = some (.string ⟨p0.1.toArray⟩) ∧ W0.heap[w2.heap.size]? = some (.cells (obC (x, t)).toArray 35) := by rw [← hW0]; exact ⟨hkey6, hob6⟩
                  clear heq6 hkey6 hob6 HL6 hz6
                  refine region_begin hW0 (S := fun W => W.cell? ⟨b2, off, none⟩ = some (.string ⟨p0.1.toArray⟩) ∧ W.heap[w2.heap.size]? = some (.cells (obC (x, t)).toArray 35)) (by kernel_rfl) hS0 (fun hHeld => ?_)
                  clear hW0
                  refine take_at (i := 0) (.slice A11 l11 c11) (some 75) (by decide) (by rfl) (by kernel_rfl) (by kernel_rfl) (by kernel_rfl) (fun _ _ _ h => h) (by rfl) (fun W hW => by go_simp) (by assumption) ?_
                  try simp only [Act.put, List.setIfInBounds_toArray, List.set_cons_zero, List.set_cons_succ]
                  refine take_at (i := 1) (.slice (some ⟨b2, off, none⟩) 2 c) (some 76) (by decide) (by rfl) (by kernel_rfl) (by kernel_rfl) (by kernel_rfl) (fun _ _ _ h => h) (by rfl) (fun W hW => by go_simp) (by assumption) ?_
                  try simp only [Act.put, List.setIfInBounds_toArray, List.set_cons_zero, List.set_cons_succ]
                  refine take_at (i := 2) (.pointer (some ⟨b2, off, none⟩)) (some 77) (by decide) (by rfl) (by kernel_rfl) (by kernel_rfl) (by kernel_rfl) (fun _ _ _ h => h) (by rfl) (fun W hW => by go_simp) (by assumption) ?_
                  try simp only [Act.put, List.setIfInBounds_toArray, List.set_cons_zero, List.set_cons_succ]
                  refine take_at (i := 3) (.pointer (some ⟨b2, off, none⟩)) (some 78) (by decide) (by rfl) (by kernel_rfl) (by kernel_rfl) (by kernel_rfl) (fun _ _ _ h => h) (by rfl) (fun W hW => by go_simp) (by assumption) ?_
                  try simp only [Act.put, List.setIfInBounds_toArray, List.set_cons_zero, List.set_cons_succ]
                  refine take_at (i := 4) (.string ⟨p0.1.toArray⟩) (some 79) (by decide) (by rfl) (by kernel_rfl) (by kernel_rfl) (by kernel_rfl) (fun _ _ _ h => h) (by rfl) (fun W hW => by have h9 := hW.1; go_simp) (by assumption) ?_
                  try simp only [Act.put, List.setIfInBounds_toArray, List.set_cons_zero, List.set_cons_succ]
                  refine take_at (i := 5) (.pointer (some ⟨w2.heap.size, 0, none⟩)) (some 80) (by decide) (by rfl) (by kernel_rfl) (by kernel_rfl) (by kernel_rfl) (fun _ _ _ h => h) (by rfl) (fun W hW => by go_simp) (by assumption) ?_
                  try simp only [Act.put, List.setIfInBounds_toArray, List.set_cons_zero, List.set_cons_succ]
                  refine take_at (i := 6) (idV x.1) (some 81) (by decide) (by rfl) (by kernel_rfl) (by kernel_rfl) (by kernel_rfl) (fun _ _ _ h => h) (by rfl) (fun W hW => by exact exec_load_mid _ _ rfl w2.heap.size 0 rfl (vb x.1) _ (ob_range (o := (x, t)) hW.2) Tryd.underlying27 rfl (cells_ii x)) (by assumption) ?_
                  try simp only [Act.put, List.setIfInBounds_toArray, List.set_cons_zero, List.set_cons_succ]
                  refine take_at (i := 7) (.agg (kkC (p0.1, x)).toArray) (some 82) (by decide) (by rfl) (by kernel_rfl) (by kernel_rfl) (by kernel_rfl) (fun _ _ _ h => h) (by rfl) (fun W hW => by exact exec_build_k2 _ _ rfl p0.1 x rfl rfl) (by assumption) ?_
                  try simp only [Act.put, List.setIfInBounds_toArray, List.set_cons_zero, List.set_cons_succ]
                  refine wpAnyH_ready (rs := [8]) (by kernel_rfl) (by simp) (AllReadyH.cons (Array.getElem?_eq_getElem (i := 8) (by decide)) (fun K9 hK => ?_) AllReadyH.nil)
                  refine step_one kind_kk (by omega) rfl _ rfl (p0.1, x) rfl ?_
                  have hnk : Below W0.heap.size W0 (W0.alloc (.cells (kkC (p0.1, x)).toArray 52)) := new_below W0 _
                  have hbz : b2 < W0.heap.size := by omega
                  have hS1 : (W0.alloc (.cells (kkC (p0.1, x)).toArray 52)).cell? ⟨b2, off, none⟩ = some (.string ⟨p0.1.toArray⟩) ∧ (W0.alloc (.cells (kkC (p0.1, x)).toArray 52)).heap[w2.heap.size]? = some (.cells (obC (x, t)).toArray 35) := ⟨(hnk.cell (p := ⟨b2, off, none⟩) hbz).trans hS0.1, (hnk.block _ (by omega)).trans hS0.2⟩
                  have HL1 := Lib.hid (HL0.out.below hnk)
                  have hzk : (W0.alloc (.cells (kkC (p0.1, x)).toArray 52)).heap.size = W0.heap.size + 1 := asz _ _
                  have HX := Lib.hid (rw_one kind_kk W0 (p0.1, x) 52 _ rfl)
                  have HEQ1 : Hid ((W0.alloc (.cells (kkC (p0.1, x)).toArray 52)).heap[b2]? = wo.heap[b2]?) := (hnk.block _ hbz).trans HEQ0.out
                  refine hK.out _ _ hS1 (fun hHeld => ?_)
                  clear hK K9
                  try simp only [Act.put, List.setIfInBounds_toArray]
                  generalize (W0.alloc (.cells (kkC (p0.1, x)).toArray 52)) = W1 at *
                  refine wpAnyH_ready (rs := [9]) (by kernel_rfl) (by simp) (AllReadyH.cons (Array.getElem?_eq_getElem (i := 9) (by decide)) (fun K9 hK => ?_) AllReadyH.nil)
                  refine step_append_rw kind_kk rfl _ _ rfl rfl HL1.out.row (by omega) (.slice (some ⟨W0.heap.size, 0, none⟩) 1 1) _ [(p0.1, x)] rfl HX.out (by simp; omega) ?_
                  intro v7 w7 ho7 hb7 hg7
                  have HL7 := Lib.hid (HL1.out.appK hb7 hg7 ho7)
                  obtain ⟨A7, c7, e7, _, _⟩ := (ho7.rwIn kind_kk).len
                  subst e7
                  have heq7 : w7.heap[b2]? = wo.heap[b2]? := (hb7.block b2 hb2z).trans HEQ1.out
                  have hS7 : w7.cell? ⟨b2, off, none⟩ = some (.string ⟨p0.1.toArray⟩) ∧ w7.heap[w2.heap.size]? = some (.cells (obC (x, t)).toArray 35) := ⟨(hb7.cell (p := ⟨b2, off, none⟩) hb2z).trans hS1.1, (hg7.block _ (by omega) (box_apart (T' := 35) HL1.out.row hS1.2 (by decide))).trans hS1.2⟩
                  refine hK.out _ _ hS7 (fun hHeld => ?_)
                  clear hK K9
                  try simp only [Act.put]
                  have HEQ7 := Lib.hid heq7
                  clear ho7 hb7 hg7 heq7 hS0 hS1 hS7 HL0 HL1 HX HEQ0 HEQ1 hnk hzk hzW
                  refine take_at (i := 10) (.slice A7 (L ++ [(p0.1, x)]).length c7) (some 11) (by decide) (by rfl) (by kernel_rfl) (by kernel_rfl) (by kernel_rfl) (fun _ _ _ h => h) (by rfl) (fun W hW => by go_simp) (by assumption) ?_
                  try simp only [Act.put]
                  refine wpAnyH_done (by kernel_rfl) ?_ _
                  try simp only [Act.put, List.setIfInBounds_toArray, List.set_cons_zero, List.set_cons_succ]
                  have hl7 : (L ++ [(p0.1, x)]).length = gs.length + 1 := by rw [List.length_append, HLL.out]; rfl
                  obtain ⟨l9, hl9⟩ : ∃ l9, (M ++ [(x, t)]).length = l9 := ⟨_, rfl⟩
                  rw [hl7, hl9] at HL7
                  rw [hl7, hl9]
                  have HL9 := Lib.hid hl9
                  clear hl7 hl9
                  go_wp2_with (refine wp_from_kk rfl _ _ rfl b2 off 2 c 2 rfl rfl (by omega) (by omega) (by omega) ?_)
                  intro off9 c9 hfrom
                  have HKD : Hid (KsIn wo wo.heap.size (.slice (some ⟨b2, off9, none⟩) (2 - 2) c9) (rest.drop 2)) := hfrom _ _ _ hkr.out
                  clear hfrom
                  go_wp2_with fail
                  go_roundw
                  case rel => exact ⟨gs ++ [q], rest.drop 2, off9, c9, A6, c6, l9, A7, c7, gs.length + 1, by rw [HDL.out], rfl, rfl, by unfold Hid; rw [HM2.out]; exact HL9.out.symm, by unfold Hid; simp, by rw [HDL.out]; omega, HD2.out, HKD.out, HEQ7.out, by rw [HM2.out, HL2x.out]; exact HL7.out⟩
                  case measure => simp [lenOf]
                · have hq4f : ((n : Int) == 4) = false := by rw [beq_eq_false_iff_ne]; omega
                  have hq2f : ((n : Int) == 2) = false := by rw [beq_eq_false_iff_ne]; omega
                  have hn4i : ¬ (n : Int) = 4 := by omega
                  have hn2i : ¬ (n : Int) = 2 := by omega
                  rw [hmN] at HR HDL HD2
                  clear hmN hq2 hql hnle
                  have hmc : (3 : Int) ≤ (c : Int) := by omega
                  go_wp2_with (refine wp_build_row rfl _ rfl _ (built_trk _ _ _) (by simp [Act.eval]) ?_)
                  refine HR.out.mono ?_
                  rintro e w1 ⟨rfl, hb1⟩
                  have HB1w := Lib.hid hb1
                  clear hb1
                  go_wp2_with fail
                  refine (HRB.out w1).mono ?_
                  rintro e w2 ⟨rfl, hb2⟩
                  have hb12 := HB1w.out.trans (hb2.mono HB1w.out.size)
                  have HL3 : Hid (LeafF wo.heap.size w (w2.alloc (.cells (obC (x, t)).toArray 35)) (.slice A5 l5 c5) (.slice A11 l11 c11) M L) := HL.out.below (hb12.trans ((new_below w2 _).mono hb12.size))
                  have heq3 : (w2.alloc (.cells (obC (x, t)).toArray 35)).heap[b2]? = wo.heap[b2]? := (((hb12.trans ((new_below w2 _).mono hb12.size))).block b2 (by have := HL.out.le; omega)).trans heq.out
                  have hkey3 : (w2.alloc (.cells (obC (x, t)).toArray 35)).cell? ⟨b2, off, none⟩ = some (.string ⟨p0.1.toArray⟩) := (World.cell?_of_block (heq3.trans heq.out.symm)).trans HKEY.out
                  have HOB3 : Hid ((w2.alloc (.cells (obC (x, t)).toArray 35)).heap[w2.heap.size]? = some (.cells (obC (x, t)).toArray 35)) := heap_alloc_new w2 _
                  have hz2 : wo.heap.size ≤ w2.heap.size := Nat.le_trans HL.out.le hb12.size
                  have hz3 : (w2.alloc (.cells (obC (x, t)).toArray 35)).heap.size = w2.heap.size + 1 := asz _ _
                  have HEQ3 := Lib.hid heq3
                  have HKEY3 := Lib.hid hkey3
                  have hbox9 : some w2.heap.size ≠ (Value.slice A5 l5 c5).ownBlock := fun e => by have h9 := (World.ownsRow.lt HL.out.ob _ e.symm).2; have h8 := hb12.size; omega
                  clear hb2 hb12 HB1w HL heq heq3 hkey3 HKEY HR HRB
                  go_wp2_with (first
                    | (refine wp_alloc_row zero_ob rfl rfl ?_)
                    | (refine wp_fill_row size_ob rfl _ _ rfl _ (by simp [vb_length, zer_length]) _ rfl rfl hC (fun u hu => kind_ob.one (x, t) u (by simpa using hu)) ?_)
                    | (refine wpList_load_row rfl 35 _ rfl w2.heap.size rfl 35 (obC (x, t)).toArray (0, 0) _ HOB3.out Tryd.underlying35 rfl (by rw [hC]; exact size_ob) ?_)
                    | (refine wp_one kind_ob (by omega) rfl _ rfl (x, t) rfl ?_)
                    | (refine wp_append_rw kind_ob rfl _ _ rfl rfl (HL3.out.ob.alloc _) (by rw [asz, hz3]; omega) _ _ [(x, t)] rfl (rw_one kind_ob (w2.alloc (.cells (obC (x, t)).toArray 35)) (x, t) 35 _ rfl) (by simp; omega) ?_))
                  intro v5 w6 ho6 hb6 hg6
                  have hL3a : LeafF wo.heap.size w ((w2.alloc (.cells (obC (x, t)).toArray 35)).alloc (.cells (obC (x, t)).toArray 35)) (.slice A5 l5 c5) (.slice A11 l11 c11) M L := HL3.out.below (new_below _ _)
                  have hb2k : (w2.alloc (.cells (obC (x, t)).toArray 35)).heap[b2]? = some (.cells Cb 52 frb) := HEQ3.out.trans HBK.out
                  have heq6 : w6.heap[b2]? = wo.heap[b2]? := ((hg6.block b2 (by rw [asz, hz3]; omega) (box_apart (T' := 52) hL3a.ob (((new_below _ _).block _ (by rw [hz3]; omega)).trans hb2k) (by decide))).trans ((new_below _ _).block _ (by rw [hz3]; omega))).trans HEQ3.out
                  have hkey6 : w6.cell? ⟨b2, off, none⟩ = some (.string ⟨p0.1.toArray⟩) := (World.cell?_of_block (heq6.trans HEQ3.out.symm)).trans HKEY3.out
                  have hob6 : w6.heap[w2.heap.size]? = some (.cells (obC (x, t)).toArray 35) := ((hg6.block _ (by rw [asz, hz3]; omega) hbox9).trans ((new_below _ _).block _ (by rw [hz3]; omega))).trans HOB3.out
                  have HL6 := Lib.hid (hL3a.appO hb6 hg6 ho6)
                  obtain ⟨A6, c6, e6, _, _⟩ := (ho6.rwIn kind_ob).len
                  subst e6
                  have hz6 : w2.heap.size + 2 ≤ w6.heap.size := by have h9 := hg6.size; rw [asz, hz3] at h9; omega
                  clear ho6 hb6 hg6 hL3a hb2k HL3 HEQ3 HKEY3 HOB3 hz3 hbox9
                  go_wp2_with fail
                  obtain ⟨W0, hW0⟩ : ∃ x, w6.drew = x := ⟨_, rfl⟩
                  have HL0 : Hid (LeafF wo.heap.size w W0 (.slice A6 (M ++ [(x, t)]).length c6) (.slice A11 l11 c11) (M ++ [(x, t)]) L) := by rw [← hW0]; exact HL6.out.below (Below.refl _ _).drew
                  have HEQ0 : Hid (W0.heap[b2]? = wo.heap[b2]?) := by rw [← hW0]; exact heq6
                  have hzW : w2.heap.size + 2 ≤ W0.heap.size := by rw [← hW0]; exact hz6
                  have hS0 : W0.cell? ⟨b2, off, none⟩ = some (.string ⟨p0.1.toArray⟩) ∧ W0.heap[w2.heap.size]? = some (.cells (obC (x, t)).toArray 35) := by rw [← hW0]; exact ⟨hkey6, hob6⟩
                  clear heq6 hkey6 hob6 HL6 hz6
                  refine region_begin hW0 (S := fun W => W.cell? ⟨b2, off, none⟩ = some (.string ⟨p0.1.toArray⟩) ∧ W.heap[w2.heap.size]? = some (.cells (obC (x, t)).toArray 35)) (by kernel_rfl) hS0 (fun hHeld => ?_)
                  clear hW0
                  refine take_at (i := 0) (.slice A11 l11 c11) (some 75) (by decide) (by rfl) (by kernel_rfl) (by kernel_rfl) (by kernel_rfl) (fun _ _ _ h => h) (by rfl) (fun W hW => by go_simp) (by assumption) ?_
                  try simp only [Act.put, List.setIfInBounds_toArray, List.set_cons_zero, List.set_cons_succ]
                  refine take_at (i := 1) (.slice (some ⟨b2, off, none⟩) n c) (some 76) (by decide) (by rfl) (by kernel_rfl) (by kernel_rfl) (by kernel_rfl) (fun _ _ _ h => h) (by rfl) (fun W hW => by go_simp) (by assumption) ?_
                  try simp only [Act.put, List.setIfInBounds_toArray, List.set_cons_zero, List.set_cons_succ]
                  refine take_at (i := 2) (.pointer (some ⟨b2, off, none⟩)) (some 77) (by decide) (by rfl) (by kernel_rfl) (by kernel_rfl) (by kernel_rfl) (fun _ _ _ h => h) (by rfl) (fun W hW => by go_simp) (by assumption) ?_
                  try simp only [Act.put, List.setIfInBounds_toArray, List.set_cons_zero, List.set_cons_succ]
                  refine take_at (i := 3) (.pointer (some ⟨b2, off, none⟩)) (some 78) (by decide) (by rfl) (by kernel_rfl) (by kernel_rfl) (by kernel_rfl) (fun _ _ _ h => h) (by rfl) (fun W hW => by go_simp) (by assumption) ?_
                  try simp only [Act.put, List.setIfInBounds_toArray, List.set_cons_zero, List.set_cons_succ]
                  refine take_at (i := 4) (.string ⟨p0.1.toArray⟩) (some 79) (by decide) (by rfl) (by kernel_rfl) (by kernel_rfl) (by kernel_rfl) (fun _ _ _ h => h) (by rfl) (fun W hW => by have h9 := hW.1; go_simp) (by assumption) ?_
                  try simp only [Act.put, List.setIfInBounds_toArray, List.set_cons_zero, List.set_cons_succ]
                  refine take_at (i := 5) (.pointer (some ⟨w2.heap.size, 0, none⟩)) (some 80) (by decide) (by rfl) (by kernel_rfl) (by kernel_rfl) (by kernel_rfl) (fun _ _ _ h => h) (by rfl) (fun W hW => by go_simp) (by assumption) ?_
                  try simp only [Act.put, List.setIfInBounds_toArray, List.set_cons_zero, List.set_cons_succ]
                  refine take_at (i := 6) (idV x.1) (some 81) (by decide) (by rfl) (by kernel_rfl) (by kernel_rfl) (by kernel_rfl) (fun _ _ _ h => h) (by rfl) (fun W hW => by exact exec_load_mid _ _ rfl w2.heap.size 0 rfl (vb x.1) _ (ob_range (o := (x, t)) hW.2) Tryd.underlying27 rfl (cells_ii x)) (by assumption) ?_
                  try simp only [Act.put, List.setIfInBounds_toArray, List.set_cons_zero, List.set_cons_succ]
                  refine take_at (i := 7) (.agg (kkC (p0.1, x)).toArray) (some 82) (by decide) (by rfl) (by kernel_rfl) (by kernel_rfl) (by kernel_rfl) (fun _ _ _ h => h) (by rfl) (fun W hW => by exact exec_build_k2 _ _ rfl p0.1 x rfl rfl) (by assumption) ?_
                  try simp only [Act.put, List.setIfInBounds_toArray, List.set_cons_zero, List.set_cons_succ]
                  refine wpAnyH_ready (rs := [8]) (by kernel_rfl) (by simp) (AllReadyH.cons (Array.getElem?_eq_getElem (i := 8) (by decide)) (fun K9 hK => ?_) AllReadyH.nil)
                  refine step_one kind_kk (by omega) rfl _ rfl (p0.1, x) rfl ?_
                  have hnk : Below W0.heap.size W0 (W0.alloc (.cells (kkC (p0.1, x)).toArray 52)) := new_below W0 _
                  have hbz : b2 < W0.heap.size := by omega
                  have hS1 : (W0.alloc (.cells (kkC (p0.1, x)).toArray 52)).cell? ⟨b2, off, none⟩ = some (.string ⟨p0.1.toArray⟩) ∧ (W0.alloc (.cells (kkC (p0.1, x)).toArray 52)).heap[w2.heap.size]? = some (.cells (obC (x, t)).toArray 35) := ⟨(hnk.cell (p := ⟨b2, off, none⟩) hbz).trans hS0.1, (hnk.block _ (by omega)).trans hS0.2⟩
                  have HL1 := Lib.hid (HL0.out.below hnk)
                  have hzk : (W0.alloc (.cells (kkC (p0.1, x)).toArray 52)).heap.size = W0.heap.size + 1 := asz _ _
                  have HX := Lib.hid (rw_one kind_kk W0 (p0.1, x) 52 _ rfl)
                  have HEQ1 : Hid ((W0.alloc (.cells (kkC (p0.1, x)).toArray 52)).heap[b2]? = wo.heap[b2]?) := (hnk.block _ hbz).trans HEQ0.out
                  refine hK.out _ _ hS1 (fun hHeld => ?_)
                  clear hK K9
                  try simp only [Act.put, List.setIfInBounds_toArray]
                  generalize (W0.alloc (.cells (kkC (p0.1, x)).toArray 52)) = W1 at *
                  refine wpAnyH_ready (rs := [9]) (by kernel_rfl) (by simp) (AllReadyH.cons (Array.getElem?_eq_getElem (i := 9) (by decide)) (fun K9 hK => ?_) AllReadyH.nil)
                  refine step_append_rw kind_kk rfl _ _ rfl rfl HL1.out.row (by omega) (.slice (some ⟨W0.heap.size, 0, none⟩) 1 1) _ [(p0.1, x)] rfl HX.out (by simp; omega) ?_
                  intro v7 w7 ho7 hb7 hg7
                  have HL7 := Lib.hid (HL1.out.appK hb7 hg7 ho7)
                  obtain ⟨A7, c7, e7, _, _⟩ := (ho7.rwIn kind_kk).len
                  subst e7
                  have heq7 : w7.heap[b2]? = wo.heap[b2]? := (hb7.block b2 hb2z).trans HEQ1.out
                  have hS7 : w7.cell? ⟨b2, off, none⟩ = some (.string ⟨p0.1.toArray⟩) ∧ w7.heap[w2.heap.size]? = some (.cells (obC (x, t)).toArray 35) := ⟨(hb7.cell (p := ⟨b2, off, none⟩) hb2z).trans hS1.1, (hg7.block _ (by omega) (box_apart (T' := 35) HL1.out.row hS1.2 (by decide))).trans hS1.2⟩
                  refine hK.out _ _ hS7 (fun hHeld => ?_)
                  clear hK K9
                  try simp only [Act.put]
                  have HEQ7 := Lib.hid heq7
                  clear ho7 hb7 hg7 heq7 hS0 hS1 hS7 HL0 HL1 HX HEQ0 HEQ1 hnk hzk hzW
                  refine take_at (i := 10) (.slice A7 (L ++ [(p0.1, x)]).length c7) (some 11) (by decide) (by rfl) (by kernel_rfl) (by kernel_rfl) (by kernel_rfl) (fun _ _ _ h => h) (by rfl) (fun W hW => by go_simp) (by assumption) ?_
                  try simp only [Act.put]
                  refine wpAnyH_done (by kernel_rfl) ?_ _
                  try simp only [Act.put, List.setIfInBounds_toArray, List.set_cons_zero, List.set_cons_succ]
                  have hl7 : (L ++ [(p0.1, x)]).length = gs.length + 1 := by rw [List.length_append, HLL.out]; rfl
                  obtain ⟨l9, hl9⟩ : ∃ l9, (M ++ [(x, t)]).length = l9 := ⟨_, rfl⟩
                  rw [hl7, hl9] at HL7
                  rw [hl7, hl9]
                  have HL9 := Lib.hid hl9
                  clear hl7 hl9
                  go_wp2_with (refine wp_from_kk rfl _ _ rfl b2 off n c 3 rfl rfl (by omega) (by omega) (by omega) ?_)
                  intro off9 c9 hfrom
                  have HKD : Hid (KsIn wo wo.heap.size (.slice (some ⟨b2, off9, none⟩) (n - 3) c9) (rest.drop 3)) := hfrom _ _ _ hkr.out
                  clear hfrom
                  go_wp2_with fail
                  go_roundw
                  case rel => exact ⟨gs ++ [q], rest.drop 3, off9, c9, A6, c6, l9, A7, c7, gs.length + 1, by rw [HDL.out], rfl, rfl, by unfold Hid; rw [HM2.out]; exact HL9.out.symm, by unfold Hid; simp, by rw [HDL.out]; omega, HD2.out, HKD.out, HEQ7.out, by rw [HM2.out, HL2x.out]; exact HL7.out⟩
                  case measure => simp [lenOf]; omega

end Go.Proofs.YthbahbcihaebeaaDoor.Cd

/-
  Objects are compared: of two rows of the same objects Same answers true; the last object's name is the tree's. Conditions: none. (Printed by tools/gen_tr_rsame.py.)
-/
namespace Go.Proofs.YthbahbcihaebeaaDoor.Cd
open Go.RowKit

theorem equal_idD (d : Nat) (x y : List UInt8) (hx : x.length = 33) (hy : y.length = 33) (w : World) : (Op.equalIn (d + 3) 27 (.agg (vb x).toArray) (.agg (vb y).toArray)).run Tryd.prog w = .ok (x == y) w := by
  rw [run_equalIn_struct w (d + 2) 27 _ _ (by kernel_rfl) (by kernel_rfl)]
  have hf := fields_id
  generalize (Tryd.prog.fieldsOf 27).toList = fs at hf
  obtain ⟨f, g, rfl⟩ : ∃ f g, fs = [f, g] := by
    have hl : fs.length = 2 := by simpa using congrArg List.length hf
    match fs, hl with
    | [f, g], _ => exact ⟨f, g, rfl⟩
  simp only [List.map_cons, List.map_nil, List.cons.injEq, Prod.mk.injEq, and_true, beq_eq_false_iff_ne] at hf
  obtain ⟨⟨f1, f2, f3⟩, g1, g2, g3⟩ := hf
  have e := run_equalIn_int (P := Tryd.prog) w (d + 1) 5 .u8 _ ((x[0]).toNat : Int) ((y[0]).toNat : Int) Tryd.underlying5
  have e2 := equal_sum d (x.drop 1) (y.drop 1) (by simp [hx]) (by simp [hy]) w
  have hb : (((x[0]).toNat : Int) == ((y[0]).toNat : Int)) = (x[0] == y[0]) := by
    rw [Bool.eq_iff_iff]
    simp only [beq_iff_eq, ← UInt8.toNat_inj]
    omega
  have hxy : (x == y) = (x[0] == y[0] && x.drop 1 == y.drop 1) := by
    obtain ⟨a, x, rfl⟩ := List.exists_cons_of_length_pos (l := x) (by omega)
    obtain ⟨b, y, rfl⟩ := List.exists_cons_of_length_pos (l := y) (by omega)
    rfl
  rw [hb] at e
  rw [hxy]
  simp only [Op.eqFields, f1, f2, f3, g1, g2, g3, ne_eq, not_false_eq_true, if_true, Sem.run_bind, ipart_byte x 0 (by omega), ipart_byte y 0 (by omega), Result.andThen_ok, e]
  cases x[0] == y[0]
  · simp
  · simp only [Bool.not_true, Bool.false_eq_true, if_false, Sem.run_bind, part_sum x hx, part_sum y hy, Result.andThen_ok, e2]
    cases x.drop 1 == y.drop 1 <;> simp

theorem fields_ob : (Tryd.prog.fieldsOf 35).toList.map (fun f => (f.name == "_", f.type, f.offset)) = [(false, 27, 0), (false, 9, 33)] := by kernel_rfl
theorem part_obid (o : Ob) (w : World) : (part 27 (obC o).toArray 0).run Tryd.prog w = .ok (.agg (vb o.1.1).toArray) w := by
  have hs : (Tryd.prog.info? 27).map (·.size) = some 33 := by kernel_rfl
  have ht : List.take 33 (obC o) = vb o.1.1 := by
    unfold obC
    exact List.take_left' (by rw [vb_length, o.1.2])
  cases hq : Tryd.prog.info? 27 with
  | none => simp [hq] at hs
  | some i =>
    have hs2 : i.size = 33 := by simpa [hq] using hs
    simp [part, isAgg, run_underlying Tryd.underlying27, sizeOf, typeInfo, hq, hs2, ht]
theorem part_obs (o : Ob) (w : World) : (part 9 (obC o).toArray 33).run Tryd.prog w = .ok (.string ⟨o.2.toArray⟩) w := by
  have hc : (obC o)[33]? = some (.string ⟨o.2.toArray⟩) := by
    unfold obC
    rw [List.getElem?_append_right (by rw [vb_length, o.1.2]; exact Nat.le_refl _), vb_length, o.1.2]
    rfl
  simp [part, isAgg, run_underlying Tryd.underlying9, hc]
theorem equal_ob (o : Ob) (w : World) : (Op.equalIn 10000 35 (.agg (obC o).toArray) (.agg (obC o).toArray)).run Tryd.prog w = .ok true w := by
  rw [run_equalIn_struct w 9999 35 _ _ (by kernel_rfl) (by kernel_rfl)]
  have hf := fields_ob
  generalize (Tryd.prog.fieldsOf 35).toList = fs at hf
  obtain ⟨f, g, rfl⟩ : ∃ f g, fs = [f, g] := by
    have hl : fs.length = 2 := by simpa using congrArg List.length hf
    match fs, hl with
    | [f, g], _ => exact ⟨f, g, rfl⟩
  simp only [List.map_cons, List.map_nil, List.cons.injEq, Prod.mk.injEq, and_true, beq_eq_false_iff_ne] at hf
  obtain ⟨⟨f1, f2, f3⟩, g1, g2, g3⟩ := hf
  have e := equal_idD 9996 o.1.1 o.1.1 o.1.2 o.1.2 w
  have e2 := run_equalIn_string (P := Tryd.prog) w 9998 9 ⟨o.2.toArray⟩ ⟨o.2.toArray⟩ Tryd.underlying9
  simp only [beq_self_eq_true] at e e2
  simp only [Op.eqFields, f1, f2, f3, g1, g2, g3, ne_eq, not_false_eq_true, if_true, Sem.run_bind, part_obid, part_obs, Result.andThen_ok, e, e2, Bool.not_true, Bool.false_eq_true, if_false]
  simp
theorem eqGuard_ob (op : BinOp) (p q : Operand) (o : Ob) (w : World) : (eqGuard op 35 p q (.agg (obC o).toArray) (.agg (obC o).toArray)).run Tryd.prog w = .ok () w := run_eqGuard_agg w op _ p q _ _ (by kernel_rfl)
theorem neq_ob (o : Ob) (w : World) : (binOp .neq 35 (.agg (obC o).toArray) (.agg (obC o).toArray)).run Tryd.prog w = .ok (.bool false) w := by
  rw [run_neq_struct, equal_ob]
  rfl
theorem exec_neq_ob {op : Oper} {a : Act} {w : World} (p q : Operand) (t : TypeId) (ho : op.op = .binOp .neq 35 p q t) (o : Ob) (hp : a.eval p = .agg (obC o).toArray) (hq : a.eval q = .agg (obC o).toArray) : (execOp a.eval op).run Tryd.prog w = .ok (.value (.bool false)) w := by
  unfold execOp
  simp only [ho, hp, hq, Sem.run_bind, eqGuard_ob, neq_ob, Result.andThen_ok, Sem.run_pure]
theorem exec_eql_ii {op : Oper} {a : Act} {w : World} (p q : Operand) (t : TypeId) (ho : op.op = .binOp .eql 27 p q t) (x : List UInt8) (hx : x.length = 33) (hp : a.eval p = idV x) (hq : a.eval q = idV x) : (execOp a.eval op).run Tryd.prog w = .ok (.value (.bool true)) w := by
  unfold execOp
  simp only [ho, hp, hq, Sem.run_bind, eqGuard_id, eql_id x x hx hx, Result.andThen_ok, Sem.run_pure, beq_self_eq_true]

set_option maxRecDepth 100000 in
set_option maxHeartbeats 3200000 in
theorem rsameo_any (v u : Value) (l : List Ob) (w : World) (h : RwIn obC 34 w w.heap.size v l) (k : RwIn obC 34 w w.heap.size u l) : Calls Tryd.prog 11 #[v, u] w (Gives (.bool true) w) := by
  obtain ⟨A, c, rfl, hm1, hm2⟩ := h.len
  obtain ⟨A2, c2, rfl, hm3, hm4⟩ := k.len
  have H1 := Lib.hid h
  have H2 := Lib.hid k
  clear h k
  go_enter Tryd.func11, Tryd.ntmps11
  go_wp2_with fail
  go_loopw [13] (fun i wr => ∃ j : Nat, i = .int .i64 j ∧ j ≤ l.length ∧ Hid (Below w.heap.size w wr)) (fun i _ => l.length - (intOf i).toNat)
  case atStart => exact ⟨0, rfl, by omega, Below.refl _ _⟩
  case round =>
    obtain ⟨j, rfl, hj, hbl⟩ := hrel
    by_cases hlt : j < l.length
    · obtain ⟨o, ho⟩ : ∃ o, l[j]? = some o := ⟨l[j], List.getElem?_eq_getElem hlt⟩
      obtain ⟨b1, off1, e1, hB1, r1⟩ := RwIn.at (H1.out.below hbl.out) ho
      obtain ⟨b2, off2, e2, hB2, r2⟩ := RwIn.at (H2.out.below hbl.out) ho
      subst e1 e2
      have hlo : (Tryd.prog.info? 35).map (·.size) = some (obC o).length := by rw [obC_len]; exact size_ob
      have hlti : (j : Int) < l.length := by omega
      clear ho
      go_wp2_with fail
      obtain ⟨W0, hW0⟩ : ∃ x, wr.drew = x := ⟨_, rfl⟩
      have hS0 : W0.rangeAt b1 (off1 + j * 34) (obC o) ∧ W0.rangeAt b2 (off2 + j * 34) (obC o) := by rw [← hW0]; exact ⟨r1, r2⟩
      have HB0 : Hid (Below w.heap.size w W0) := by rw [← hW0]; exact hbl.out.drew
      clear r1 r2
      refine region_begin hW0 (S := fun W => W.rangeAt b1 (off1 + j * 34) (obC o) ∧ W.rangeAt b2 (off2 + j * 34) (obC o)) (by kernel_rfl) hS0 (fun hHeld => ?_)
      clear hW0
      refine take_at (i := 0) (.slice (some ⟨b1, off1, none⟩) l.length c) (some 16) (by decide) (by rfl) (by kernel_rfl) (by kernel_rfl) (by kernel_rfl) (fun _ _ _ h => h) (by rfl) (fun W hW => by go_simp) (by assumption) ?_
      try simp only [Act.put, List.setIfInBounds_toArray, List.set_cons_zero, List.set_cons_succ]
      refine take_at (i := 1) (.int .i64 (j : Nat)) (some 17) (by decide) (by rfl) (by kernel_rfl) (by kernel_rfl) (by kernel_rfl) (fun _ _ _ h => h) (by rfl) (fun W hW => by go_simp) (by assumption) ?_
      try simp only [Act.put, List.setIfInBounds_toArray, List.set_cons_zero, List.set_cons_succ]
      refine take_at (i := 2) (.pointer (some ⟨b1, off1 + j * 34, none⟩)) (some 18) (by decide) (by rfl) (by kernel_rfl) (by kernel_rfl) (by kernel_rfl) (fun _ _ _ h => h) (by rfl) (fun W hW => by go_simp) (by assumption) ?_
      try simp only [Act.put, List.setIfInBounds_toArray, List.set_cons_zero, List.set_cons_succ]
      refine take_at (i := 3) (.agg (obC o).toArray) (some 19) (by decide) (by rfl) (by kernel_rfl) (by kernel_rfl) (by kernel_rfl) (fun _ _ _ h => h) (by rfl) (fun W hW => by exact exec_load_mid _ _ rfl b1 (off1 + j * 34) rfl (obC o) _ hW.1 Tryd.underlying35 rfl hlo) (by assumption) ?_
      try simp only [Act.put, List.setIfInBounds_toArray, List.set_cons_zero, List.set_cons_succ]
      refine take_at (i := 4) (.slice (some ⟨b2, off2, none⟩) l.length c2) (some 20) (by decide) (by rfl) (by kernel_rfl) (by kernel_rfl) (by kernel_rfl) (fun _ _ _ h => h) (by rfl) (fun W hW => by go_simp) (by assumption) ?_
      try simp only [Act.put, List.setIfInBounds_toArray, List.set_cons_zero, List.set_cons_succ]
      refine take_at (i := 5) (.int .i64 (j : Nat)) (some 21) (by decide) (by rfl) (by kernel_rfl) (by kernel_rfl) (by kernel_rfl) (fun _ _ _ h => h) (by rfl) (fun W hW => by go_simp) (by assumption) ?_
      try simp only [Act.put, List.setIfInBounds_toArray, List.set_cons_zero, List.set_cons_succ]
      refine take_at (i := 6) (.pointer (some ⟨b2, off2 + j * 34, none⟩)) (some 22) (by decide) (by rfl) (by kernel_rfl) (by kernel_rfl) (by kernel_rfl) (fun _ _ _ h => h) (by rfl) (fun W hW => by go_simp) (by assumption) ?_
      try simp only [Act.put, List.setIfInBounds_toArray, List.set_cons_zero, List.set_cons_succ]
      refine take_at (i := 7) (.agg (obC o).toArray) (some 23) (by decide) (by rfl) (by kernel_rfl) (by kernel_rfl) (by kernel_rfl) (fun _ _ _ h => h) (by rfl) (fun W hW => by exact exec_load_mid _ _ rfl b2 (off2 + j * 34) rfl (obC o) _ hW.2 Tryd.underlying35 rfl hlo) (by assumption) ?_
      try simp only [Act.put, List.setIfInBounds_toArray, List.set_cons_zero, List.set_cons_succ]
      refine take_at (i := 8) (.bool false) (some 24) (by decide) (by rfl) (by kernel_rfl) (by kernel_rfl) (by kernel_rfl) (fun _ _ _ h => h) (by rfl) (fun W hW => by exact exec_neq_ob _ _ _ rfl o rfl rfl) (by assumption) ?_
      try simp only [Act.put, List.setIfInBounds_toArray, List.set_cons_zero, List.set_cons_succ]
      refine wpAnyH_done (by kernel_rfl) ?_ _
      try simp only [Act.put, List.setIfInBounds_toArray, List.set_cons_zero, List.set_cons_succ]
      clear hHeld hS0
      go_wp2_with fail
      go_roundw
      case rel => exact ⟨j + 1, by go_num, by omega, HB0.out⟩
      case measure => simp [intOf]; omega
    · go_wp2_with fail
      go_ret
      exact ⟨rfl, hbl.out⟩

/-- The last object's name is the last row's. -/
theorem upAll_last (nm : List UInt8 → Idn) : ∀ (n : Nat) (ks : List Kd) (os : List Ob) (p : Kd), ks.length = n → ks.map (·.2) = os.map (·.1) → (upAll nm ks).1 = [p] → ∃ pre b, os ++ (upAll nm ks).2 = pre ++ [(p.2, b)] := by
  intro n
  induction n using Nat.strongRecOn with
  | ind n ih =>
    intro ks os p hl hko hp
    by_cases h : ks.length ≤ 1
    · rw [upAll_one h] at hp ⊢
      have hp : ks = [p] := hp
      subst hp
      match os, hko with
      | [o], hko =>
        have e : p.2 = o.1 := by simpa using hko
        exact ⟨[], o.2, by rw [e]; rfl⟩
      | [], hko => simp at hko
      | _ :: _ :: _, hko => simp at hko
    · have hm := upAll_more (nm := nm) h
      rw [hm] at hp ⊢
      have hru := rowU_len nm ks
      obtain ⟨pre, b, e⟩ := ih (rowU nm ks).length (by omega) (rowU nm ks) (obsU nm ks) p rfl (by unfold rowU obsU; rw [List.map_map, List.map_map]; rfl) hp
      exact ⟨os ++ pre, b, by show os ++ (obsU nm ks ++ (upAll nm (rowU nm ks)).2) = _; rw [e, List.append_assoc]⟩
theorem obsA_last (nm : List UInt8 → Idn) (ps : List Bp) (p : Kd) (h : (upAll nm (rowL nm ps)).1 = [p]) : ∃ pre b, obsA nm ps = pre ++ [(p.2, b)] := by
  unfold obsA
  refine upAll_last nm _ (rowL nm ps) (obsL nm ps) p rfl ?_ h
  unfold rowL obsL
  split
  · rfl
  · rw [List.map_map, List.map_map]
    rfl

end Go.Proofs.YthbahbcihaebeaaDoor.Cd

/-
  TreeBuilds answers true. Conditions: the rounds' numbers lie in their variable. (Printed by tools/gen_tr_builds.py.)
-/
namespace Go.Proofs.YthbahbcihaebeaaDoor.Cd
open Go.RowKit

theorem rnmK_is (k : UInt8) (h : 0 < sizeI k) : RNameOf k.toNat (nmK k) := by
  unfold sizeI at h
  unfold nmK
  split at h
  · next h1 =>
    obtain rfl : k = 1 := UInt8.toNat_inj.1 h1
    exact rname_fnv
  · split at h
    · next h1 h2 =>
      obtain rfl : k = 2 := UInt8.toNat_inj.1 h2
      exact rname_sha
    · omega
theorem rbuild_any (k : UInt8) (hs : 0 < sizeI k) (v : Value) (ps : List Bp) (w : World) (h : PsIn w w.heap.size v ps) (hg : GoodW ps) :
    Calls Tryd.prog 10 #[.int .u8 k.toNat, v] w fun e w' => ∃ v, e = .returned v ∧ OwnRw obC 34 35 w' w.heap.size v (obsA (nmK k) ps) ∧ Below w.heap.size w w' := by
  by_cases h0 : ps = []
  · subst h0
    obtain ⟨A, c, rfl, _, _⟩ := h.len
    exact rbuild_none k.toNat (nmK k) (rnmK_is k hs) A c w h
  · exact rbuild_some k (nmK k) (rnmK_is k hs) (nmK_is k hs).2 v ps w h hg (List.length_pos_iff.2 h0)
theorem kinds (k : UInt8) : (sizeI k = 0 ∧ ¬ (k.toNat : Int) = 1 ∧ ¬ (k.toNat : Int) = 2) ∨ (0 < sizeI k ∧ ((k.toNat : Int) = 1 ∨ (k.toNat : Int) = 2)) := by
  unfold sizeI
  by_cases h1 : k.toNat = 1
  · rw [if_pos h1]
    exact .inr ⟨by omega, .inl (by omega)⟩
  · rw [if_neg h1]
    by_cases h2 : k.toNat = 2
    · rw [if_pos h2]
      exact .inr ⟨by omega, .inr (by omega)⟩
    · rw [if_neg h2]
      exact .inl ⟨rfl, by omega, by omega⟩

set_option maxRecDepth 100000 in
set_option maxHeartbeats 6400000 in
theorem builds_walk (a0 : Int) (v : Value) (ps : List Bp) (w : World) (hk : KeysIs keysL w) (w0 : (Lit.int .u8 a0).wf = true) (h : PsIn w w.heap.size v ps) : Calls Tryd.prog 3 #[.int .u8 a0, v] w (Gives (.bool true) w) := by
  have hb := bounds_u8 w0
  obtain ⟨k, rfl⟩ := byte_of a0 hb.1 hb.2
  have hal := alive16_any w hk
  have HK := Lib.hid hk
  have HPS := Lib.hid h
  have HAL := Lib.hid hal
  have hkb := k.toNat_lt
  obtain ⟨A, c, rfl, hm1, hm2⟩ := h.len
  clear hal hk h hb w0
  go_enter Tryd.func3, Tryd.ntmps3
  go_wp2_with fail
  refine HAL.out.mono ?_
  rintro e w1 ⟨rfl, hb1⟩
  have HB1 := Lib.hid hb1
  clear hb1
  go_wp2_with fail
  refine (great16_any _ ps w1 ((HPS.out.below HB1.out).more HB1.out.size)).mono ?_
  rintro e w2 ⟨s, rfl, hs, hb2⟩
  have HB2 := Lib.hid (HB1.out.trans (hb2.mono HB1.out.size))
  clear hb2
  cases s with
  | true =>
    go_wp2_with fail
    go_ret
    exact ⟨rfl, HB2.out⟩
  | false =>
    have hl := hs rfl
    clear hs
    go_wp2_with fail
    refine (build_any k _ ps w2 (HK.out.below HB2.out HK.out.1) ((HPS.out.below HB2.out).more HB2.out.size)).mono ?_
    rintro e w3 (⟨⟨n, hn, ⟨rfl, hb3⟩, hn1⟩, hnot⟩ | ⟨hs1, hg, vl, p, rfl, hb3, ho3, hup⟩)
    · have HB3 := Lib.hid (HB2.out.trans (hb3.mono HB2.out.size))
      have hz3 := HB3.out.size
      clear hb3
      have hx33 : (zer 33).length = 33 := zer_length _
      obtain ⟨x, hxz⟩ : ∃ x, zer 33 = x := ⟨_, rfl⟩
      have HZ := Lib.hid hxz
      rw [hxz] at hx33 ⊢
      have HXX : Hid ((x == x) = true) := by unfold Hid; simp
      have HI4 : Hid (IdAt (w3.alloc (.cells (vb x).toArray 27)) w3.heap.size x) := IdAt.new _ _
      have HB4 : Hid (Below w.heap.size w (w3.alloc (.cells (vb x).toArray 27))) := HB3.out.alloc hz3 _
      have HNOT := Lib.hid hnot
      have HN1 := Lib.hid hn1
      have HN := Lib.hid hn
      clear hnot hn1 hn hxz
      go_wp2_with (first
        | (refine wp_alloc_row zero_id rfl rfl ?_)
        | (refine wp_fill_id rfl _ _ rfl rfl (by first | rfl | simp [Act.eval, Act.put]) x hx33 (by first | rfl | simp [Act.eval, Act.put]) ?_))
      generalize w3.alloc (.cells (vb x).toArray 27) = w4 at HI4 HB4 ⊢
      obtain ⟨ia, hia⟩ : ∃ ia, w3.heap.size = ia := ⟨_, rfl⟩
      rw [hia] at HI4 ⊢
      refine (rgoodw_any _ ps w4 ((HPS.out.below HB4.out).more HB4.out.size)).mono ?_
      rintro e w5 ⟨s, rfl, hs5, hb5⟩
      have HB5 := Lib.hid (HB4.out.trans (hb5.mono HB4.out.size))
      have HI5 : Hid (IdAt w5 ia x) := (hb5.block _ (Array.getElem?_eq_some_iff.1 HI4.out).1).trans HI4.out
      have HS5 := Lib.hid hs5
      clear hb5 hs5
      go_wp2_with fail
      refine (goodw_any _ ps w5 ((HPS.out.below HB5.out).more HB5.out.size)).mono ?_
      rintro e w6 ⟨s6, rfl, hs6, hb6⟩
      have HB6 := Lib.hid (HB5.out.trans (hb6.mono HB5.out.size))
      have HI6 : Hid (IdAt w6 ia x) := (hb6.block _ (Array.getElem?_eq_some_iff.1 HI5.out).1).trans HI5.out
      obtain rfl : s6 = s := by
        have h5 := HS5.out
        cases s <;> cases s6 <;> simp_all
      clear hb6 hs6 HI4 HI5 HB4 HB5
      rcases kinds k with ⟨hk0, hk1, hk2⟩ | ⟨hk0, hkk⟩
      · have hn1 : n = 1 := HN1.out.2 (.inl hk0)
        subst hn1
        clear hk0 hia
        generalize (k.toNat : Int) = K at hk1 hk2 ⊢
        have hk3 : (K == 1) = false := by rw [beq_eq_false_iff_ne]; exact hk1
        have hk4 : (K == 2) = false := by rw [beq_eq_false_iff_ne]; exact hk2
        have hk5 : (K != 1) = true := by rw [bne_iff_ne]; exact hk1
        have hk6 : (K != 2) = true := by rw [bne_iff_ne]; exact hk2
        try dsimp only
        repeat (first
          | (refine op_load_id _ rfl ia rfl x hx33 HI6.out ?_; try simp only [Act.put, List.setIfInBounds_toArray, List.set_cons_zero, List.set_cons_succ])
          | (refine op_zero_id rfl ?_; rw [HZ.out]; try simp only [Act.put, List.setIfInBounds_toArray, List.set_cons_zero, List.set_cons_succ])
          | (refine op_eql_id _ _ _ rfl x x hx33 hx33 rfl rfl ?_; rw [HXX.out]; try simp only [Act.put, List.setIfInBounds_toArray, List.set_cons_zero, List.set_cons_succ])
          | go_values | go_skip | go_guarded | go_step | go_upon)
        go_ret
        exact ⟨rfl, HB6.out⟩
      · by_cases hbig : 256 < ps.length
        · have hn3 : n = 3 := by
            rcases HN.out with h9 | h9
            · have := HN1.out.1 h9
              omega
            · exact h9
          subst hn3
          have hbi : (256 : Int) < ps.length := by omega
          clear hk0 hia
          generalize (k.toNat : Int) = K at hkk ⊢
          rcases hkk with rfl | rfl
          all_goals
            try dsimp only
            repeat (first
              | (refine op_load_id _ rfl ia rfl x hx33 HI6.out ?_; try simp only [Act.put, List.setIfInBounds_toArray, List.set_cons_zero, List.set_cons_succ])
              | (refine op_zero_id rfl ?_; rw [HZ.out]; try simp only [Act.put, List.setIfInBounds_toArray, List.set_cons_zero, List.set_cons_succ])
              | (refine op_eql_id _ _ _ rfl x x hx33 hx33 rfl rfl ?_; rw [HXX.out]; try simp only [Act.put, List.setIfInBounds_toArray, List.set_cons_zero, List.set_cons_succ])
              | go_values | go_skip | go_guarded | go_step | go_upon)
            go_ret
            exact ⟨rfl, HB6.out⟩
        · have hn1 : n = 1 := HN1.out.2 (.inr (by omega))
          subst hn1
          have hbi : ¬ (256 : Int) < ps.length := by omega
          have hsf : s6 = false := by
            cases s6 with
            | false => rfl
            | true => exact absurd ⟨hk0, HS5.out.1 rfl⟩ HNOT.out
          subst hsf
          clear hk0 hia
          generalize (k.toNat : Int) = K at hkk ⊢
          rcases hkk with rfl | rfl
          all_goals
            try dsimp only
            repeat (first
              | (refine op_load_id _ rfl ia rfl x hx33 HI6.out ?_; try simp only [Act.put, List.setIfInBounds_toArray, List.set_cons_zero, List.set_cons_succ])
              | (refine op_zero_id rfl ?_; rw [HZ.out]; try simp only [Act.put, List.setIfInBounds_toArray, List.set_cons_zero, List.set_cons_succ])
              | (refine op_eql_id _ _ _ rfl x x hx33 hx33 rfl rfl ?_; rw [HXX.out]; try simp only [Act.put, List.setIfInBounds_toArray, List.set_cons_zero, List.set_cons_succ])
              | go_values | go_skip | go_guarded | go_step | go_upon)
            go_ret
            exact ⟨rfl, HB6.out⟩
    · have HB3 := Lib.hid (HB2.out.trans (hb3.mono HB2.out.size))
      have hz3 := HB3.out.size
      have hfew := hg.few
      have hRB := fun W h => rbuild_any k hs1 (.slice A ps.length c) ps W h hg
      obtain ⟨pre, bb, hla⟩ := obsA_last (nmK k) ps p hup
      have hoa := obsA_few (nmK k) ps hfew
      obtain ⟨l, hl9⟩ : ∃ l, obsA (nmK k) ps = l := ⟨_, rfl⟩
      rw [hl9] at ho3 hla hoa hRB
      obtain ⟨A2, c2, e2, _, _⟩ := (ho3.rwIn kind_ob).len
      subst e2
      have hml : pre.length < l.length := by rw [hla]; simp
      have hlast : l[pre.length]? = some (p.2, bb) := by rw [hla]; simp
      have hlm : l.length = pre.length + 1 := by rw [hla]; simp
      obtain ⟨m, hm⟩ : ∃ m, pre.length = m := ⟨_, rfl⟩
      rw [hm] at hml hlast hlm
      have HLAST := Lib.hid hlast
      have HLM := Lib.hid hlm
      have hx33 : p.2.1.length = 33 := p.2.2
      have HI4 : Hid (IdAt (w3.alloc (.cells (vb p.2.1).toArray 27)) w3.heap.size p.2.1) := IdAt.new _ _
      have HB4 : Hid (Below w.heap.size w (w3.alloc (.cells (vb p.2.1).toArray 27))) := HB3.out.alloc hz3 _
      have HO4 := Lib.hid (ho3.alloc (.cells (vb p.2.1).toArray 27))
      have HG := Lib.hid hg
      have HRB := Lib.hid hRB
      have hs1' := hs1
      clear hb3 ho3 hup hla hlast hl9 hm hg hRB hs1 hlm
      generalize p.2 = y at hx33 HI4 HB4 HO4 HLAST ⊢
      go_wp2_with (first
        | (refine wp_alloc_row zero_id rfl rfl ?_)
        | (refine wp_fill_id rfl _ _ rfl rfl (by first | rfl | simp [Act.eval, Act.put]) y.1 hx33 (by first | rfl | simp [Act.eval, Act.put]) ?_))
      generalize w3.alloc (.cells (vb y.1).toArray 27) = w4 at HI4 HB4 HO4 ⊢
      obtain ⟨ia, hia⟩ : ∃ ia, w3.heap.size = ia := ⟨_, rfl⟩
      rw [hia] at HI4 ⊢
      refine (rgoodw_any _ ps w4 ((HPS.out.below HB4.out).more HB4.out.size)).mono ?_
      rintro e w5 ⟨s, rfl, hs5, hb5⟩
      obtain rfl : s = true := hs5.2 HG.out
      have HB5 := Lib.hid (HB4.out.trans (hb5.mono HB4.out.size))
      have HI5 : Hid (IdAt w5 ia y.1) := (hb5.block _ (Array.getElem?_eq_some_iff.1 HI4.out).1).trans HI4.out
      have HO5 := Lib.hid (HO4.out.keep hb5)
      clear hb5 hs5 HI4 HO4 HB4
      go_wp2_with fail
      refine (goodw_any _ ps w5 ((HPS.out.below HB5.out).more HB5.out.size)).mono ?_
      rintro e w6 ⟨s6, rfl, hs6, hb6⟩
      obtain rfl : s6 = true := hs6.2 HG.out
      have HB6 := Lib.hid (HB5.out.trans (hb6.mono HB5.out.size))
      have HI6 : Hid (IdAt w6 ia y.1) := (hb6.block _ (Array.getElem?_eq_some_iff.1 HI5.out).1).trans HI5.out
      have HO6 := Lib.hid (HO5.out.keep hb6)
      have HP6 : Hid (PsIn w6 w6.heap.size (.slice A ps.length c) ps) := (HPS.out.below HB6.out).more HB6.out.size
      have HRB6 := Lib.hid (HRB.out w6 HP6.out)
      have hbi : ¬ (256 : Int) < ps.length := by omega
      clear hb6 hs6 HI5 HO5 HB5 HRB hia
      have hkk : (k.toNat : Int) = 1 ∨ (k.toNat : Int) = 2 := by
        rcases kinds k with ⟨hk0, _, _⟩ | ⟨_, hkk⟩
        · exact absurd hk0 (by omega)
        · exact hkk
      generalize (k.toNat : Int) = K at hkk HRB6 ⊢
      rcases hkk with rfl | rfl
      all_goals
        go_wp2_with fail
        refine HRB6.out.mono ?_
        rintro e w7 ⟨v9, rfl, ho9, hb7⟩
        have HB7 := Lib.hid (HB6.out.trans (hb7.mono HB6.out.size))
        have HI7 : Hid (IdAt w7 ia y.1) := (hb7.block _ (Array.getElem?_eq_some_iff.1 HI6.out).1).trans HI6.out
        have HO7 := Lib.hid (HO6.out.keep hb7)
        obtain ⟨A9, c9, e9, hc9a, _⟩ := (ho9.rwIn kind_ob).len
        subst e9
        obtain ⟨b9, off9, e9, _, hr9⟩ := RwIn.at (ho9.rwIn kind_ob) HLAST.out
        subst e9
        have HR9 := Lib.hid hr9
        have HO9 := Lib.hid ho9
        have hlo : (Tryd.prog.info? 35).map (·.size) = some (obC (y, bb)).length := by rw [obC_len]; exact size_ob
        have hmi : (m : Int) < l.length := by omega
        have hwm : IntKind.i64.wrap ((l.length : Int) - 1) = (m : Int) := by have h9 := HLM.out; rw [IntKind.wrap_i64]; omega
        have HWM := Lib.hid hwm
        clear ho9 hb7 hr9 HI6 HO6 hwm
        go_wp2_with fail
        obtain ⟨W0, hW0⟩ : ∃ x, w7.drew = x := ⟨_, rfl⟩
        have hS0 : IdAt W0 ia y.1 ∧ W0.rangeAt b9 (off9 + m * 34) (obC (y, bb)) := by rw [← hW0]; exact ⟨HI7.out, HR9.out⟩
        have HB0 : Hid (Below w.heap.size w W0) := by rw [← hW0]; exact HB7.out.drew
        have HV : Hid (RwIn obC 34 W0 W0.heap.size (.slice A2 l.length c2) l) := by rw [← hW0]; exact HO7.out.rwIn kind_ob
        have HW : Hid (RwIn obC 34 W0 W0.heap.size (.slice (some ⟨b9, off9, none⟩) l.length c9) l) := by rw [← hW0]; exact HO9.out.rwIn kind_ob
        have hb9 : b9 < W0.heap.size := World.block_lt_of_cell? W0 _ (hS0.2 0 _ (List.getElem?_eq_getElem (by rw [obC_len]; omega)))
        have hia9 : ia < W0.heap.size := (Array.getElem?_eq_some_iff.1 hS0.1).1
        clear HI7 HR9 HO7 HO9 HB7
        refine region_begin hW0 (S := fun W => IdAt W ia y.1 ∧ W.rangeAt b9 (off9 + m * 34) (obC (y, bb))) (by kernel_rfl) hS0 (fun hHeld => ?_)
        clear hW0
        refine take_at (i := 0) (.int .i64 0) (some 77) (by decide) (by rfl) (by kernel_rfl) (by kernel_rfl) (by kernel_rfl) (fun _ _ _ h => h) (by rfl) (fun W hW => by go_simp) (by assumption) ?_
        try simp only [Act.put, List.setIfInBounds_toArray, List.set_cons_zero, List.set_cons_succ]
        refine take_at (i := 1) (.bool true) (some 78) (by decide) (by rfl) (by kernel_rfl) (by kernel_rfl) (by kernel_rfl) (fun _ _ _ h => h) (by rfl) (fun W hW => by go_simp) (by assumption) ?_
        try simp only [Act.put, List.setIfInBounds_toArray, List.set_cons_zero, List.set_cons_succ]
        refine take_at (i := 2) (.bool true) (some 79) (by decide) (by rfl) (by kernel_rfl) (by kernel_rfl) (by kernel_rfl) (fun _ _ _ h => h) (by rfl) (fun W hW => by go_simp) (by assumption) ?_
        try simp only [Act.put, List.setIfInBounds_toArray, List.set_cons_zero, List.set_cons_succ]
        refine take_at (i := 3) (.slice A2 l.length c2) (some 80) (by decide) (by rfl) (by kernel_rfl) (by kernel_rfl) (by kernel_rfl) (fun _ _ _ h => h) (by rfl) (fun W hW => by go_simp) (by assumption) ?_
        try simp only [Act.put, List.setIfInBounds_toArray, List.set_cons_zero, List.set_cons_succ]
        refine take_at (i := 4) (.slice (some ⟨b9, off9, none⟩) l.length c9) (some 81) (by decide) (by rfl) (by kernel_rfl) (by kernel_rfl) (by kernel_rfl) (fun _ _ _ h => h) (by rfl) (fun W hW => by go_simp) (by assumption) ?_
        try simp only [Act.put, List.setIfInBounds_toArray, List.set_cons_zero, List.set_cons_succ]
        refine wpAnyH_ready (rs := [5]) (by kernel_rfl) (by simp) (AllReadyH.cons (Array.getElem?_eq_getElem (i := 5) (by decide)) (fun K9 hK => ?_) AllReadyH.nil)
        go_simp
        refine (rsameo_any _ _ l W0 HV.out HW.out).mono ?_
        rintro e8 w8 ⟨rfl, hb8⟩
        have HB8 := Lib.hid (HB0.out.trans (hb8.mono HB0.out.size))
        refine hK.out _ _ (⟨(hb8.block _ hia9).trans hS0.1, fun j v hv => (hb8.cell (p := ⟨b9, off9 + m * 34 + j, none⟩) hb9).trans (hS0.2 j v hv)⟩) (fun hHeld => ?_)
        clear hK K9
        try simp only [Act.put, List.setIfInBounds_toArray, List.set_cons_zero, List.set_cons_succ]
        refine take_at (i := 6) (.bool true) (some 83) (by decide) (by rfl) (by kernel_rfl) (by kernel_rfl) (by kernel_rfl) (fun _ _ _ h => h) (by rfl) (fun W hW => by go_simp) (by assumption) ?_
        try simp only [Act.put, List.setIfInBounds_toArray, List.set_cons_zero, List.set_cons_succ]
        refine take_at (i := 7) (.bool true) (some 84) (by decide) (by rfl) (by kernel_rfl) (by kernel_rfl) (by kernel_rfl) (fun _ _ _ h => h) (by rfl) (fun W hW => by go_simp) (by assumption) ?_
        try simp only [Act.put, List.setIfInBounds_toArray, List.set_cons_zero, List.set_cons_succ]
        refine take_at (i := 8) (idV y.1) (some 85) (by decide) (by rfl) (by kernel_rfl) (by kernel_rfl) (by kernel_rfl) (fun _ _ _ h => h) (by rfl) (fun W hW => by exact exec_load_id hW.1 hx33 _ rfl rfl) (by assumption) ?_
        try simp only [Act.put, List.setIfInBounds_toArray, List.set_cons_zero, List.set_cons_succ]
        refine take_at (i := 9) (.slice (some ⟨b9, off9, none⟩) l.length c9) (some 86) (by decide) (by rfl) (by kernel_rfl) (by kernel_rfl) (by kernel_rfl) (fun _ _ _ h => h) (by rfl) (fun W hW => by go_simp) (by assumption) ?_
        try simp only [Act.put, List.setIfInBounds_toArray, List.set_cons_zero, List.set_cons_succ]
        refine take_at (i := 10) (.slice (some ⟨b9, off9, none⟩) l.length c9) (some 87) (by decide) (by rfl) (by kernel_rfl) (by kernel_rfl) (by kernel_rfl) (fun _ _ _ h => h) (by rfl) (fun W hW => by go_simp) (by assumption) ?_
        try simp only [Act.put, List.setIfInBounds_toArray, List.set_cons_zero, List.set_cons_succ]
        refine take_at (i := 11) (.int .i64 (l.length : Nat)) (some 88) (by decide) (by rfl) (by kernel_rfl) (by kernel_rfl) (by kernel_rfl) (fun _ _ _ h => h) (by rfl) (fun W hW => by go_simp) (by assumption) ?_
        try simp only [Act.put, List.setIfInBounds_toArray, List.set_cons_zero, List.set_cons_succ]
        refine take_at (i := 12) (.int .i64 (m : Nat)) (some 89) (by decide) (by rfl) (by kernel_rfl) (by kernel_rfl) (by kernel_rfl) (fun _ _ _ h => h) (by rfl) (fun W hW => by have h9 := HWM.out; go_simp) (by assumption) ?_
        try simp only [Act.put, List.setIfInBounds_toArray, List.set_cons_zero, List.set_cons_succ]
        refine take_at (i := 13) (.pointer (some ⟨b9, off9 + m * 34, none⟩)) (some 90) (by decide) (by rfl) (by kernel_rfl) (by kernel_rfl) (by kernel_rfl) (fun _ _ _ h => h) (by rfl) (fun W hW => by go_simp) (by assumption) ?_
        try simp only [Act.put, List.setIfInBounds_toArray, List.set_cons_zero, List.set_cons_succ]
        refine take_at (i := 14) (.pointer (some ⟨b9, off9 + m * 34, none⟩)) (some 91) (by decide) (by rfl) (by kernel_rfl) (by kernel_rfl) (by kernel_rfl) (fun _ _ _ h => h) (by rfl) (fun W hW => by go_simp) (by assumption) ?_
        try simp only [Act.put, List.setIfInBounds_toArray, List.set_cons_zero, List.set_cons_succ]
        refine take_at (i := 15) (idV y.1) (some 92) (by decide) (by rfl) (by kernel_rfl) (by kernel_rfl) (by kernel_rfl) (fun _ _ _ h => h) (by rfl) (fun W hW => by exact exec_load_mid _ _ rfl b9 (off9 + m * 34) rfl (vb y.1) _ (fun j v hv => hW.2 j v (by unfold obC; rw [List.getElem?_append_left (List.getElem?_eq_some_iff.1 hv).1]; exact hv)) Tryd.underlying27 rfl (cells_ii y)) (by assumption) ?_
        try simp only [Act.put, List.setIfInBounds_toArray, List.set_cons_zero, List.set_cons_succ]
        refine take_at (i := 16) (.bool true) (some 93) (by decide) (by rfl) (by kernel_rfl) (by kernel_rfl) (by kernel_rfl) (fun _ _ _ h => h) (by rfl) (fun W hW => by exact exec_eql_ii _ _ _ rfl y.1 hx33 rfl rfl) (by assumption) ?_
        try simp only [Act.put, List.setIfInBounds_toArray, List.set_cons_zero, List.set_cons_succ]
        refine take_at (i := 17) (.bool true) (some 94) (by decide) (by rfl) (by kernel_rfl) (by kernel_rfl) (by kernel_rfl) (fun _ _ _ h => h) (by rfl) (fun W hW => by go_simp) (by assumption) ?_
        try simp only [Act.put, List.setIfInBounds_toArray, List.set_cons_zero, List.set_cons_succ]
        refine take_at (i := 18) (.bool true) (some 4) (by decide) (by rfl) (by kernel_rfl) (by kernel_rfl) (by kernel_rfl) (fun _ _ _ h => h) (by rfl) (fun W hW => by go_simp) (by assumption) ?_
        try simp only [Act.put, List.setIfInBounds_toArray, List.set_cons_zero, List.set_cons_succ]
        refine wpAnyH_done (by kernel_rfl) ?_ _
        try simp only [Act.put, List.setIfInBounds_toArray, List.set_cons_zero, List.set_cons_succ]
        go_wp2_with fail
        go_ret
        exact ⟨rfl, HB8.out⟩

end Go.Proofs.YthbahbcihaebeaaDoor.Cd

namespace Go.Proofs.YthbahbcihaebeaaDoor.TreeBuilds
open Go.RowKit Go.Proofs.YthbahbcihaebeaaDoor.Cd

theorem walk (a0 : Int) (v1 : Value) (l : List Bp) (w : World) (hk : KeysIs keysL w) (w0 : (Lit.int .u8 a0).wf = true) (h : PsIn w w.heap.size v1 l ∧ ∀ p ∈ l, FitP p) : Calls Tryd.prog 3 #[.int .u8 a0, v1] w (Gives (.bool true) w) :=
  builds_walk a0 v1 l w hk w0 h.1

end Go.Proofs.YthbahbcihaebeaaDoor.TreeBuilds
