/-
  IdentParts answers true. Conditions: the rounds' numbers lie in their variable.
-/
import Derived.Test.YtchimffminpacaaDoorIdTurnedWalk
import Derived.Test.YtchimffminpacaaDoorShaOf
import Derived.LaidLaws
import Derived.LaidMore
import Derived.Lay
import Derived.Stop.Joined
import Derived.Stop.LaidErr
namespace Go.Proofs.YtchimffminpacaaDoor.Cd
open Go.RowKit Go.ChangeShapes Go.WideShapes

theorem one_word {H : Type} {enc : TypeId × Value → H} {w : World} {base n : Nat} {spare : Nat → Bool} {held : Bool} {cs : List Value} {x : DataW H × List MemPlace} (h : DataW.trod enc Tryd.prog w base spare held n 48 cs = some x) : ∃ c : Int, cs = [.int .u32 c] := by
  obtain ⟨a, e, _, _⟩ := DataW.trod_int Tryd.underlying48 h
  exact ⟨a, e⟩
theorem words_of_cells (n : Nat) (cs : List Value) (hn : cs.length = n) (h : ∀ i, i < n → ∃ c : Int, cs[i]? = some (.int .u32 c)) : ∃ l : List Int, l.length = n ∧ cs = vw l := by
  induction cs generalizing n with
  | nil => exact ⟨[], hn, rfl⟩
  | cons v r ih =>
    subst hn
    obtain ⟨c, hc⟩ := h 0 (by simp)
    obtain ⟨l, h1, h2⟩ := ih r.length rfl (fun i hi => by simpa using h (i + 1) (by simp; omega))
    refine ⟨c :: l, by simp [h1], ?_⟩
    simp at hc
    rw [hc, h2]
    rfl
/-- The rounds' numbers lie where a law begins. -/
theorem keys_laid {W : World} (h : laidMetH Tryd.prog [("rootstock/sha.roundKeys", Rows.laid_rootstock_sha_roundKeys)] W) : KeysAt W := by
  rw [MakeChecks.laidMetH_plain _ _ _ (by kernel_rfl)] at h
  obtain ⟨ps, ⟨g, t, cs, fuel, p, q, hg, ht, hv, hd, _, _⟩, _, _⟩ := h
  obtain rfl := Option.some.inj ((show Tryd.prog.globalNamed "rootstock/sha.roundKeys" = some 0 by kernel_rfl).symm.trans hg)
  obtain rfl := Option.some.inj ((show (Tryd.prog.globals[0]?).map (·.type) = some 61 by kernel_rfl).symm.trans ht)
  obtain ⟨xs, m, _, _, hl2, hl3, hf⟩ := DataW.trod_array Tryd.underlying61 hd
  have hcu : Tryd.prog.cellsOf 48 = 1 := by kernel_rfl
  have hlen : cs.toList.length = 64 := hl2.trans (by kernel_rfl)
  obtain ⟨Ks, hK, hcs⟩ := words_of_cells 64 cs.toList hlen (fun i hi => by
    have h3 := hf i hi
    rw [List.getElem?_eq_getElem (by omega)] at h3
    obtain ⟨c, hc⟩ := one_word h3
    refine ⟨c, ?_⟩
    have h4 := congrArg (fun l => l[0]?) hc
    simpa [hcu, List.getElem?_take, List.getElem?_drop] using h4)
  have hcell : ∀ (j : Nat) (hj : j < Ks.length), W.cell? ⟨0, j, none⟩ = some (.int .u32 Ks[j]) := fun j hj => by
    have hc := World.var?_cell hg hv j
    rw [hc, ← Array.getElem?_toList, hcs]
    exact vw_at Ks j hj
  exact ⟨World.block_lt_of_cell? W _ (hcell 0 (by omega)), Ks, hK, hcell⟩

theorem exec_neq_id {W : World} {op : Oper} {a : Act} (p q : Operand) (t : TypeId) (ho : op.op = .binOp .neq 26 p q t) (x y : List UInt8) (hx : x.length = 33) (hy : y.length = 33) (hp : a.eval p = idV x) (hq : a.eval q = idV y) :
    (execOp a.eval op).run Tryd.prog W = .ok (.value (.bool (!(x == y)))) W := by
  simp only [execOp, ho, hp, hq, Sem.run_bind, eqGuard_id, neq_id x y hx hy, Result.andThen_ok, Sem.run_pure]
theorem exec_eql_id {W : World} {op : Oper} {a : Act} (p q : Operand) (t : TypeId) (ho : op.op = .binOp .eql 26 p q t) (x y : List UInt8) (hx : x.length = 33) (hy : y.length = 33) (hp : a.eval p = idV x) (hq : a.eval q = idV y) :
    (execOp a.eval op).run Tryd.prog W = .ok (.value (.bool (x == y))) W := by
  simp only [execOp, ho, hp, hq, Sem.run_bind, eqGuard_id, eql_id x y hx hy, Result.andThen_ok, Sem.run_pure]
/-- append of bytes in a region that draws, behind a guard. -/
theorem step_append_slG {w : World} {ops : Array Oper} {o : Oper} {a : Act} {K : Act → World → Prop} {Q : Exit → Act → World → Prop} {E : Prop} (hw : Region.wanted o (yielded ops a.tmps) = true) (s x : Operand)
    (hop : o.op = .call { callee := .builtin .append, args := #[s, x], argTypes := #[22, 22] })
    (B : Nat) (v : Value) (bs : List UInt8) (hs : a.eval s = v) (ho : Own w B v bs) (hB : B ≤ w.heap.size) (y : Value) (B' : Nat) (ns : List UInt8) (hx : a.eval x = y) (hy : Sl w B' y ns)
    (hm : bs.length + ns.length ≤ 140737488355328)
    (h : ∀ v' w', Own w' B v' (bs ++ ns) → Below B w w' → K (a.put o.dst v') w') : if Region.wanted o (yielded ops a.tmps) = true then Oper.wp Tryd.prog o a w K Q else E := by
  rw [if_pos hw]
  obtain ⟨v', w', hrun, r1, r2⟩ := run_append_sl w B v bs ho hB y B' ns hy hm o.type
  unfold Oper.wp
  simp [execOp, hop, resolve, invoke, builtin, hs, hx, hrun, Result.andThen]
  exact h v' w' r1 r2

theorem good_ofS (D : List UInt8) (hD : D.length = 32) : goodI (ofS D) = true := by
  unfold ofS
  rw [good_iff 2 _ (pad32_length _)]
  refine ⟨by decide, fun j hj hn => ?_⟩
  rw [show sizeI 2 = 32 from rfl] at hn
  rw [pad32_length] at hj
  omega
theorem text_ofS (D : List UInt8) (hD : D.length = 32) : textI (ofS D) = 2 :: D := by
  have hg := good_ofS D hD
  unfold ofS at hg ⊢
  rw [textI_cons, hg, if_pos rfl, show sizeI 2 = 32 from rfl]
  congr 1
  have hp : pad32 D = D := by
    unfold pad32
    rw [List.take_of_length_le (l := D) (i := 32) (by omega), hD]
    simp [zer]
  rw [hp]
  exact List.take_of_length_le (by omega)

set_option maxRecDepth 100000 in
set_option maxHeartbeats 1600000 in
theorem of_shaE (v : Value) (bs : List UInt8) (w : World) (h : Sl w w.heap.size v bs)
    (hsha : ∀ (W : World) (u : Value), Below w.heap.size w W → Sls W W.heap.size u [bs] → Calls Tryd.prog 21 #[u] W fun e w' => ∃ D : List UInt8, D.length = 32 ∧ e = .returned (.agg (vb D).toArray) ∧ Below W.heap.size W w') :
    Calls Tryd.prog 9 #[.int .u8 2, v] w fun e w' => ∃ D : List UInt8, D.length = 32 ∧ e = .returned (idV (ofS D)) ∧ Below w.heap.size w w' := by
  have H := Lib.hid h
  obtain ⟨A, cc, rfl, _, _⟩ := h.len
  clear h
  have hb0 : Below w.heap.size w (w.alloc (.cells (vb (zer 33)).toArray 26)) := (Below.refl _ _).alloc (Nat.le_refl _) _
  have hi0 := IdAt.new w (zer 33)
  have hs0 : (w.alloc (.cells (vb (zer 33)).toArray 26)).heap.size = w.heap.size + 1 := asz _ _
  have HSH := Lib.hid hsha
  clear hsha
  go_enter Tryd.func9, Tryd.ntmps9
  go_wp2_with (refine wp_alloc_row zero_id rfl rfl ?_)
  generalize w.alloc (.cells (vb (zer 33)).toArray 26) = w1 at hb0 hi0 hs0 ⊢
  have hs1 : w.heap.size + 1 ≤ w1.heap.size := by omega
  have HS0 := Lib.hid hs0
  clear hs0
  have H1 := Lib.hid (H.out.below hb0)
  have HI := Lib.hid hi0
  have HB := Lib.hid hb0
  clear H hi0 hb0
  have hsum := HSH.out _ _ (HB.out.alloc (by omega) _) ((Sls.one _ bs H1.out (by omega) 22).more (by simp))
  rw [HS0.out] at hsum
  have HSU := Lib.hid hsum
  clear hsum
  go_wp2_with fail
  refine HSU.out.mono ?_
  rintro e w3 ⟨D, hDl, rfl, hb3⟩
  have HDL := Lib.hid hDl
  clear hDl
  have HB3 := Lib.hid (HB.out.trans (((Below.refl w1.heap.size w1).alloc (Nat.le_refl _) (.cells #[Value.slice A bs.length cc] 22) |>.trans (hb3.mono (by simp))).mono (by omega)))
  have hs3 : w1.heap.size + 1 ≤ w3.heap.size := by have := hb3.size; rw [asz] at this; exact this
  have HI3 : Hid (IdAt w3 w.heap.size (zer 33)) := (HI.out.below ((Below.refl w1.heap.size w1).alloc (Nat.le_refl _) (.cells #[Value.slice A bs.length cc] 22)) (by omega)).below hb3 (by simp; omega)
  clear hb3
  have hsl : Sl (w3.alloc (.cells (vb D).toArray 24)) (w3.heap.size + 1) (.slice (some ⟨w3.heap.size, 0, none⟩) 32 32) D := sl_row w3 D 24 32 HDL.out.symm (by simp [maxLen])
  have HSL := Lib.hid hsl
  clear hsl
  go_wp2_with (first
    | (refine wp_alloc_row zero_32 rfl rfl ?_)
    | (refine wp_fill_32 rfl _ _ rfl rfl (by simp [Act.eval, Act.put]) D HDL.out rfl ?_)
    | (go_at_call 20; refine (named_any 2 _ D _ (by rw [asz]; exact HSL.out)).mono ?_; rintro e w4 ⟨rfl, hb4⟩; have hb5 := ((Below.refl w3.heap.size w3).alloc (Nat.le_refl _) (.cells (vb D).toArray 24)).trans (hb4.mono (by simp)); have HB5 := Lib.hid hb5; have HI5 := Lib.hid (HI3.out.below hb5 (by omega)); have hs5 := hb5.size; clear hb4 hb5)
    | (refine wp_put_id rfl _ _ rfl w.heap.size rfl (2 :: pad32 D) (by rw [List.length_cons, pad32_length]) rfl (zer 33) (zer_length _) HI5.out ?hK))
  intro w6 h6 hg6
  have hb6 : Below w.heap.size w w6 := (HB3.out.trans (HB5.out.mono (by omega))).grown hg6 (by omega) (fun k hk => by injection hk with hk; omega)
  have HOL : Hid ((2 :: pad32 D).length = 33) := ofS_length D
  go_wp2_with fail
  exact bodyPost_ret (v := idV (2 :: pad32 D)) (ret_id Tryd.results9 _ _ w.heap.size (2 :: pad32 D) HOL.out rfl h6) rfl ⟨D, HDL.out, rfl, hb6⟩

set_option maxRecDepth 100000 in
set_option maxHeartbeats 3200000 in
theorem parts_long (va vb' : Value) (a b : List UInt8) (w : World) (ha : Sl w w.heap.size va a) (hb : Sl w w.heap.size vb' b) (hl : 4096 < a.length ∨ 4096 < b.length) :
    Calls Tryd.prog 6 #[va, vb'] w (Gives (.bool true) w) := by
  obtain ⟨A, ca, rfl, _, hm1⟩ := ha.len
  obtain ⟨B, cb, rfl, _, hm2⟩ := hb.len
  unfold maxLen at hm1 hm2
  clear ha hb
  by_cases h1 : 4096 < a.length
  · go_enter Tryd.func6, Tryd.ntmps6
    go_wp2_with fail
    refine (ialive_any w).mono ?_
    rintro e w1 ⟨rfl, hb1⟩
    go_wp2_with fail
    go_ret
    exact ⟨rfl, hb1⟩
  · have h2 : 4096 < b.length := by omega
    go_enter Tryd.func6, Tryd.ntmps6
    go_wp2_with fail
    refine (ialive_any w).mono ?_
    rintro e w1 ⟨rfl, hb1⟩
    go_wp2_with fail
    go_ret
    exact ⟨rfl, hb1⟩

set_option maxRecDepth 100000 in
set_option maxHeartbeats 3200000 in
theorem parts_walk (va vb' : Value) (a b : List UInt8) (w : World) (hk : KeysAt w) (ha : Sl w w.heap.size va a) (hb : Sl w w.heap.size vb' b) (hla : a.length ≤ 4096) (hlb : b.length ≤ 4096) :
    Calls Tryd.prog 6 #[va, vb'] w (Gives (.bool true) w) := by
  have HA := Lib.hid ha
  have HBB := Lib.hid hb
  have HK := Lib.hid hk
  obtain ⟨A, ca, rfl, _, _⟩ := ha.len
  obtain ⟨B, cb, rfl, _, _⟩ := hb.len
  have hw0 := hk.1
  clear ha hb hk
  go_enter Tryd.func6, Tryd.ntmps6
  go_wp2_with fail
  refine (ialive_any w).mono ?_
  rintro e w1 ⟨rfl, hb1⟩
  have hs1 := hb1.size
  have HB1 := Lib.hid hb1
  clear hb1
  have HFA := Lib.hid (of_fnv _ a w1 ((HA.out.below HB1.out).more hs1))
  go_wp2_with fail
  refine HFA.out.mono ?_
  rintro e w2 ⟨rfl, hb2⟩
  have HB2 := Lib.hid (HB1.out.trans (hb2.mono hs1))
  have hs2 := HB2.out.size
  clear hb2 HFA HB1
  have HFB := Lib.hid (of_shaE _ b w2 ((HBB.out.below HB2.out).more hs2) (fun W u hW hu => shof_any u [b] W hu ((HK.out.below HB2.out hw0).below hW (by omega))))
  go_wp2_with fail
  refine HFB.out.mono ?_
  rintro e w3 ⟨D, hD, rfl, hb3⟩
  have HB3 := Lib.hid (HB2.out.trans (hb3.mono hs2))
  have hs3 := HB3.out.size
  clear hb3 HFB HB2
  have hx : (ofF a).length = 33 := ofF_length a
  have hy : (ofS D).length = 33 := ofS_length D
  have hne : (ofF a == ofS D) = false := by
    rw [beq_eq_false_iff_ne]
    intro e
    have := congrArg (fun l => l.head?) e
    simp [ofF, ofS] at this
  have htn : (textI (ofF a) == textI (ofS D)) = false := by
    rw [beq_eq_false_iff_ne, text_ofF, text_ofS D hD]
    intro e
    have := congrArg (fun l => l.head?) e
    simp at this
  have hg1 := good_ofF a
  have hg2 := good_ofS D hD
  have hof : ∀ W u, Sl W W.heap.size u a → Calls Tryd.prog 9 #[.int .u8 1, u] W (Gives (idV (ofF a)) W) := fun W u h => of_fnv u a W h
  obtain ⟨X, hX⟩ : ∃ X, ofF a = X := ⟨_, rfl⟩
  obtain ⟨Y, hY⟩ : ∃ Y, ofS D = Y := ⟨_, rfl⟩
  rw [hX] at hx hne htn hg1 hof
  rw [hY] at hy hne htn hg2
  rw [hX, hY]
  have HNE := Lib.hid hne
  have HXX : Hid ((X == X) = true) := by unfold Hid; simp
  have ht1 : ∀ W, Calls Tryd.prog 16 #[idV X] W (Gives (.string ⟨(textI X).toArray⟩) W) := fun W => text_l X W hx
  have ht2 : ∀ W, Calls Tryd.prog 16 #[idV Y] W (Gives (.string ⟨(textI Y).toArray⟩) W) := fun W => text_l Y W hy
  have hq1 : ∀ W, Calls Tryd.prog 17 #[idV X] W (Gives (.bool (goodI X)) W) := fun W => good_l X W hx
  have hq2 : ∀ W, Calls Tryd.prog 17 #[idV Y] W (Gives (.bool (goodI Y)) W) := fun W => good_l Y W hy
  rw [hg1] at hq1
  rw [hg2] at hq2
  generalize textI X = t1 at htn ht1
  generalize textI Y = t2 at htn ht2
  have HT1 := Lib.hid ht1
  have HT2 := Lib.hid ht2
  have HQ1 := Lib.hid hq1
  have HQ2 := Lib.hid hq2
  have HOF := Lib.hid hof
  have HX := Lib.hid hx
  have HY := Lib.hid hy
  have HTN := Lib.hid htn
  clear ht1 ht2 hq1 hq2 hof hx hy hg1 hg2 hne hX hY htn
  have hx5 := IdAt.new w3 (zer 33)
  have hx6 : IdAt ((w3.alloc (.cells (vb (zer 33)).toArray 26)).alloc (.cells (vb (zer 33)).toArray 26)) w3.heap.size (zer 33) := (Below.heap_alloc _ _ _ (by simp)).trans hx5
  have hy6 : IdAt ((w3.alloc (.cells (vb (zer 33)).toArray 26)).alloc (.cells (vb (zer 33)).toArray 26)) (w3.heap.size + 1) (zer 33) := by
    have h := IdAt.new (w3.alloc (.cells (vb (zer 33)).toArray 26)) (zer 33)
    rwa [asz] at h
  have hb6 := (HB3.out.alloc hs3 (.cells (vb (zer 33)).toArray 26)).alloc (by simp; omega) (.cells (vb (zer 33)).toArray 26)
  have hs6 : ((w3.alloc (.cells (vb (zer 33)).toArray 26)).alloc (.cells (vb (zer 33)).toArray 26)).heap.size = w3.heap.size + 2 := by simp
  clear hx5
  try dsimp only
  iterate 3 (try first | go_values | go_skip | go_guarded | (refine wp_alloc_row zero_id rfl rfl ?_; try simp only [Act.put, List.setIfInBounds_toArray, List.set_cons_zero, List.set_cons_succ, asz]) | go_step | go_upon)
  generalize (w3.alloc (.cells (vb (zer 33)).toArray 26)).alloc (.cells (vb (zer 33)).toArray 26) = w6 at hx6 hy6 hb6 hs6 ⊢
  have hs6' : w3.heap.size + 2 ≤ w6.heap.size := by omega
  have HX6 := Lib.hid hx6
  have HY6 := Lib.hid hy6
  have HB6 := Lib.hid hb6
  clear hx6 hy6 hb6 hs6
  refine wp_put_id rfl _ _ rfl w3.heap.size rfl X HX.out rfl (zer 33) (zer_length _) HX6.out ?_
  intro w7 hx7 hg7
  have HX7 : Hid (IdAt w7 w3.heap.size X) := hx7
  have HY7 : Hid (IdAt w7 (w3.heap.size + 1) (zer 33)) := (hg7.block _ (by omega) (by simp)).trans HY6.out
  have HB7 : Hid (Below w.heap.size w w7) := HB6.out.grown hg7 (by omega) (fun k hk => by injection hk with hk; omega)
  have hs7 : w3.heap.size + 2 ≤ w7.heap.size := by have := hg7.size; omega
  clear hx7 hg7 HX6 HY6 HB6
  refine wp_put_id rfl _ _ rfl (w3.heap.size + 1) rfl Y HY.out rfl (zer 33) (zer_length _) HY7.out ?_
  intro w8 hy8 hg8
  have HY8 : Hid (IdAt w8 (w3.heap.size + 1) Y) := hy8
  have HX8 : Hid (IdAt w8 w3.heap.size X) := (hg8.block _ (by omega) (by simp)).trans HX7.out
  have HB8 : Hid (Below w.heap.size w w8) := HB7.out.grown hg8 (by omega) (fun k hk => by injection hk with hk; omega)
  have hs8 : w3.heap.size + 2 ≤ w8.heap.size := by have := hg8.size; omega
  clear hy8 hg8 HX7 HY7 HB7
  go_wp2_with fail
  obtain ⟨W0, hW0⟩ : ∃ v, w8.drew = v := ⟨_, rfl⟩
  have HX0 : Hid (IdAt W0 w3.heap.size X) := by rw [← hW0]; exact HX8.out.drew
  have HY0 : Hid (IdAt W0 (w3.heap.size + 1) Y) := by rw [← hW0]; exact HY8.out.drew
  have HB0 : Hid (Below w.heap.size w W0) := by rw [← hW0]; exact HB8.out.drew
  have hs0 : w3.heap.size + 2 ≤ W0.heap.size := by rw [← hW0]; exact hs8
  have hsW : w.heap.size ≤ W0.heap.size := HB0.out.size
  clear HX8 HY8 HB8 hs8
  have hS0 : Below W0.heap.size W0 W0 := Below.refl _ _
  refine region_begin hW0 (S := fun W => Below W0.heap.size W0 W) (by kernel_rfl) hS0 (fun hHeld => ?_)
  clear hW0 hS0
  refine take_at (i := 0) (idV X) (some 21) (by decide) (by rfl) (by kernel_rfl) (by kernel_rfl) (by kernel_rfl) (fun _ _ _ h => h) (by rfl) (fun W hW => by exact exec_load_id (HX0.out.below hW (by omega)) HX.out _ rfl rfl) (by assumption) ?_
  try simp only [Act.put, List.setIfInBounds_toArray, List.set_cons_zero, List.set_cons_succ]
  refine take_at (i := 1) (idV Y) (some 22) (by decide) (by rfl) (by kernel_rfl) (by kernel_rfl) (by kernel_rfl) (fun _ _ _ h => h) (by rfl) (fun W hW => by exact exec_load_id (HY0.out.below hW (by omega)) HY.out _ rfl rfl) (by assumption) ?_
  try simp only [Act.put, List.setIfInBounds_toArray, List.set_cons_zero, List.set_cons_succ]
  refine take_at (i := 2) (.bool (!(X == Y))) (some 23) (by decide) (by rfl) (by kernel_rfl) (by kernel_rfl) (by kernel_rfl) (fun _ _ _ h => h) (by rfl) (fun W hW => by exact exec_neq_id _ _ _ rfl X Y HX.out HY.out rfl rfl) (by assumption) ?_
  try simp only [Act.put, List.setIfInBounds_toArray, List.set_cons_zero, List.set_cons_succ]
  rw [HNE.out, Bool.not_false]
  refine take_at (i := 3) (.bool true) (some 24) (by decide) (by rfl) (by kernel_rfl) (by kernel_rfl) (by kernel_rfl) (fun _ _ _ h => h) (by rfl) (fun W hW => by go_simp) (by assumption) ?_
  try simp only [Act.put, List.setIfInBounds_toArray, List.set_cons_zero, List.set_cons_succ]
  refine take_at (i := 4) (idV X) (some 25) (by decide) (by rfl) (by kernel_rfl) (by kernel_rfl) (by kernel_rfl) (fun _ _ _ h => h) (by rfl) (fun W hW => by exact exec_load_id (HX0.out.below hW (by omega)) HX.out _ rfl rfl) (by assumption) ?_
  try simp only [Act.put, List.setIfInBounds_toArray, List.set_cons_zero, List.set_cons_succ]
  refine take_at (i := 6) (idV Y) (some 27) (by decide) (by rfl) (by kernel_rfl) (by kernel_rfl) (by kernel_rfl) (fun _ _ _ h => h) (by rfl) (fun W hW => by exact exec_load_id (HY0.out.below hW (by omega)) HY.out _ rfl rfl) (by assumption) ?_
  try simp only [Act.put, List.setIfInBounds_toArray, List.set_cons_zero, List.set_cons_succ]
  refine wpAnyH_ready (rs := [5]) (by kernel_rfl) (by simp) (AllReadyH.cons (Array.getElem?_eq_getElem (i := 5) (by decide)) (fun K9 hK => ?_) AllReadyH.nil)
  go_simp
  refine (HT1.out _).mono ?_
  rintro e1 w10 ⟨rfl, hb10⟩
  refine hK.out _ _ (hHeld.trans (hb10.mono hHeld.size)) (fun hHeld => ?_)
  clear hK K9
  try simp only [Act.put, List.setIfInBounds_toArray, List.set_cons_zero, List.set_cons_succ]
  refine wpAnyH_ready (rs := [7]) (by kernel_rfl) (by simp) (AllReadyH.cons (Array.getElem?_eq_getElem (i := 7) (by decide)) (fun K9 hK => ?_) AllReadyH.nil)
  go_simp
  refine (HT2.out _).mono ?_
  rintro e1 w11 ⟨rfl, hb11⟩
  refine hK.out _ _ (hHeld.trans (hb11.mono hHeld.size)) (fun hHeld => ?_)
  clear hK K9
  try simp only [Act.put, List.setIfInBounds_toArray, List.set_cons_zero, List.set_cons_succ]
  refine take_at (i := 8) (.bool true) (some 29) (by decide) (by rfl) (by kernel_rfl) (by kernel_rfl) (by kernel_rfl) (fun _ _ _ h => h) (by rfl) (fun W hW => by have h9 := HTN.out; go_simp) (by assumption) ?_
  try simp only [Act.put, List.setIfInBounds_toArray, List.set_cons_zero, List.set_cons_succ]
  refine take_at (i := 9) (.bool true) (some 30) (by decide) (by rfl) (by kernel_rfl) (by kernel_rfl) (by kernel_rfl) (fun _ _ _ h => h) (by rfl) (fun W hW => by go_simp) (by assumption) ?_
  try simp only [Act.put, List.setIfInBounds_toArray, List.set_cons_zero, List.set_cons_succ]
  refine take_at (i := 10) (.bool true) (some 31) (by decide) (by rfl) (by kernel_rfl) (by kernel_rfl) (by kernel_rfl) (fun _ _ _ h => h) (by rfl) (fun W hW => by go_simp) (by assumption) ?_
  try simp only [Act.put, List.setIfInBounds_toArray, List.set_cons_zero, List.set_cons_succ]
  refine take_at (i := 12) (.slice A a.length ca) (some 33) (by decide) (by rfl) (by kernel_rfl) (by kernel_rfl) (by kernel_rfl) (fun _ _ _ h => h) (by rfl) (fun W hW => by go_simp) (by assumption) ?_
  try simp only [Act.put, List.setIfInBounds_toArray, List.set_cons_zero, List.set_cons_succ]
  refine take_at (i := 15) (idV X) (some 36) (by decide) (by rfl) (by kernel_rfl) (by kernel_rfl) (by kernel_rfl) (fun _ _ _ h => h) (by rfl) (fun W hW => by exact exec_load_id (HX0.out.below hW (by omega)) HX.out _ rfl rfl) (by assumption) ?_
  try simp only [Act.put, List.setIfInBounds_toArray, List.set_cons_zero, List.set_cons_succ]
  have hH12 : Below W0.heap.size W0 (w11.alloc (.cells #[] 5)) := hHeld.alloc hHeld.size _
  have ho12 := own_new w11 w11.heap.size (Nat.le_refl _)
  refine wpAnyH_ready (rs := [11]) (by kernel_rfl) (by simp) (come (i := 11) (.slice (some ⟨w11.heap.size, 0, none⟩) 0 0) (w11.alloc (.cells #[] 5)) (some 32) (by decide) (by rfl) (by rfl) (by go_simp) hH12 ?_ AllReadyH.nil)
  try simp only [Act.put, List.setIfInBounds_toArray, List.set_cons_zero, List.set_cons_succ]
  clear hHeld
  have hs12 : (w11.alloc (.cells #[] 5)).heap.size = w11.heap.size + 1 := asz _ _
  generalize w11.alloc (.cells #[] 5) = w12 at hH12 ho12 hs12 ⊢
  have hHeld := hH12
  have hs11 : W0.heap.size ≤ w11.heap.size := by have := hb10.size; have := hb11.size; omega
  refine wpAnyH_ready (rs := [13]) (by kernel_rfl) (by simp) (AllReadyH.cons (Array.getElem?_eq_getElem (i := 13) (by decide)) (fun K9 hK => ?_) AllReadyH.nil)
  refine step_append_slG (by rfl) _ _ rfl w11.heap.size _ [] rfl ho12 (by omega) _ w12.heap.size a rfl ((HA.out.below (HB0.out.trans (hH12.mono hsW))).more (by omega)) (by simp; omega) ?_
  intro v13 w13 ho13 hb13
  rw [List.nil_append] at ho13
  refine hK.out _ _ (hHeld.trans (hb13.mono hs11)) (fun hHeld => ?_)
  clear hK K9
  try simp only [Act.put, List.setIfInBounds_toArray, List.set_cons_zero, List.set_cons_succ]
  refine wpAnyH_ready (rs := [14]) (by kernel_rfl) (by simp) (AllReadyH.cons (Array.getElem?_eq_getElem (i := 14) (by decide)) (fun K9 hK => ?_) AllReadyH.nil)
  go_simp
  refine (HOF.out _ _ ho13.sl).mono ?_
  rintro e1 w14 ⟨rfl, hb14⟩
  refine hK.out _ _ (hHeld.trans (hb14.mono hHeld.size)) (fun hHeld => ?_)
  clear hK K9
  try simp only [Act.put, List.setIfInBounds_toArray, List.set_cons_zero, List.set_cons_succ]
  refine take_at (i := 16) (.bool (X == X)) (some 37) (by decide) (by rfl) (by kernel_rfl) (by kernel_rfl) (by kernel_rfl) (fun _ _ _ h => h) (by rfl) (fun W hW => by exact exec_eql_id _ _ _ rfl X X HX.out HX.out rfl rfl) (by assumption) ?_
  try simp only [Act.put, List.setIfInBounds_toArray, List.set_cons_zero, List.set_cons_succ]
  rw [HXX.out]
  refine take_at (i := 17) (.bool true) (some 38) (by decide) (by rfl) (by kernel_rfl) (by kernel_rfl) (by kernel_rfl) (fun _ _ _ h => h) (by rfl) (fun W hW => by go_simp) (by assumption) ?_
  try simp only [Act.put, List.setIfInBounds_toArray, List.set_cons_zero, List.set_cons_succ]
  refine take_at (i := 18) (.bool true) (some 39) (by decide) (by rfl) (by kernel_rfl) (by kernel_rfl) (by kernel_rfl) (fun _ _ _ h => h) (by rfl) (fun W hW => by go_simp) (by assumption) ?_
  try simp only [Act.put, List.setIfInBounds_toArray, List.set_cons_zero, List.set_cons_succ]
  refine take_at (i := 19) (idV X) (some 40) (by decide) (by rfl) (by kernel_rfl) (by kernel_rfl) (by kernel_rfl) (fun _ _ _ h => h) (by rfl) (fun W hW => by exact exec_load_id (HX0.out.below hW (by omega)) HX.out _ rfl rfl) (by assumption) ?_
  try simp only [Act.put, List.setIfInBounds_toArray, List.set_cons_zero, List.set_cons_succ]
  refine wpAnyH_ready (rs := [20]) (by kernel_rfl) (by simp) (AllReadyH.cons (Array.getElem?_eq_getElem (i := 20) (by decide)) (fun K9 hK => ?_) AllReadyH.nil)
  go_simp
  refine (HQ1.out _).mono ?_
  rintro e1 w15 ⟨rfl, hb15⟩
  refine hK.out _ _ (hHeld.trans (hb15.mono hHeld.size)) (fun hHeld => ?_)
  clear hK K9
  try simp only [Act.put, List.setIfInBounds_toArray, List.set_cons_zero, List.set_cons_succ]
  refine take_at (i := 21) (.bool true) (some 42) (by decide) (by rfl) (by kernel_rfl) (by kernel_rfl) (by kernel_rfl) (fun _ _ _ h => h) (by rfl) (fun W hW => by go_simp) (by assumption) ?_
  try simp only [Act.put, List.setIfInBounds_toArray, List.set_cons_zero, List.set_cons_succ]
  refine take_at (i := 22) (.bool true) (some 43) (by decide) (by rfl) (by kernel_rfl) (by kernel_rfl) (by kernel_rfl) (fun _ _ _ h => h) (by rfl) (fun W hW => by go_simp) (by assumption) ?_
  try simp only [Act.put, List.setIfInBounds_toArray, List.set_cons_zero, List.set_cons_succ]
  refine take_at (i := 23) (idV Y) (some 44) (by decide) (by rfl) (by kernel_rfl) (by kernel_rfl) (by kernel_rfl) (fun _ _ _ h => h) (by rfl) (fun W hW => by exact exec_load_id (HY0.out.below hW (by omega)) HY.out _ rfl rfl) (by assumption) ?_
  try simp only [Act.put, List.setIfInBounds_toArray, List.set_cons_zero, List.set_cons_succ]
  refine wpAnyH_ready (rs := [24]) (by kernel_rfl) (by simp) (AllReadyH.cons (Array.getElem?_eq_getElem (i := 24) (by decide)) (fun K9 hK => ?_) AllReadyH.nil)
  go_simp
  refine (HQ2.out _).mono ?_
  rintro e1 w16 ⟨rfl, hb16⟩
  refine hK.out _ _ (hHeld.trans (hb16.mono hHeld.size)) (fun hHeld => ?_)
  clear hK K9
  try simp only [Act.put, List.setIfInBounds_toArray, List.set_cons_zero, List.set_cons_succ]
  refine take_at (i := 25) (.bool true) (some 46) (by decide) (by rfl) (by kernel_rfl) (by kernel_rfl) (by kernel_rfl) (fun _ _ _ h => h) (by rfl) (fun W hW => by go_simp) (by assumption) ?_
  try simp only [Act.put, List.setIfInBounds_toArray, List.set_cons_zero, List.set_cons_succ]
  refine take_at (i := 26) (.bool true) (some 4) (by decide) (by rfl) (by kernel_rfl) (by kernel_rfl) (by kernel_rfl) (fun _ _ _ h => h) (by rfl) (fun W hW => by go_simp) (by assumption) ?_
  try simp only [Act.put, List.setIfInBounds_toArray, List.set_cons_zero, List.set_cons_succ]
  refine wpAnyH_done (by kernel_rfl) ?_ _
  try simp only [Act.put, List.setIfInBounds_toArray, List.set_cons_zero, List.set_cons_succ]
  go_wp2_with fail
  go_ret
  exact ⟨rfl, HB0.out.trans (hHeld.mono hsW)⟩

end Go.Proofs.YtchimffminpacaaDoor.Cd

namespace Go.Proofs.YtchimffminpacaaDoor.IdentParts
open Go.RowKit Go.Proofs.YtchimffminpacaaDoor.Cd

theorem walk (v0 : Value) (a : List UInt8) (v1 : Value) (b : List UInt8) (w : World) (hk : KeysAt w) (ha : Sl w w.heap.size v0 a) (hb : Sl w w.heap.size v1 b) :
    Calls Tryd.prog 6 #[v0, v1] w (Gives (.bool true) w) := by
  by_cases h : 4096 < a.length ∨ 4096 < b.length
  · exact parts_long v0 v1 a b w ha hb h
  · exact parts_walk v0 v1 a b w hk ha hb (by omega) (by omega)

end Go.Proofs.YtchimffminpacaaDoor.IdentParts
