/-
  IdentNames answers true. Conditions: the rounds' numbers lie in their variable.
-/
import Derived.Test.YthbahbcihaebeaaDoorG11
import Derived.Test.YthbahbcihaebeaaDoorG8
import Derived.LaidLaws
import Derived.LaidMore
import Derived.Lay
import Derived.Stop.Joined
import Derived.Stop.LaidErr
import Derived.Test.YthbahbcihaebeaaDoorG10
import Derived.Test.YthbahbcihaebeaaDoorG6
import Derived.Test.YthbahbcihaebeaaDoorG5
/-
  IdentParts answers true. Conditions: the rounds' numbers lie in their variable.
-/
namespace Go.Proofs.YthbahbcihaebeaaDoor.Cd
open Go.RowKit Go.ChangeShapes Go.WideShapes

theorem one_word {H : Type} {enc : TypeId × Value → H} {w : World} {base n : Nat} {spare : Nat → Bool} {held : Bool} {cs : List Value} {x : DataW H × List MemPlace} (h : DataW.trod enc Tryd.prog w base spare held n 104 cs = some x) : ∃ c : Int, cs = [.int .u32 c] := by
  obtain ⟨a, e, _, _⟩ := DataW.trod_int Tryd.underlying104 h
  exact ⟨a, e⟩
theorem words_of_cells (n : Nat) (cs : List Value) (hn : cs.length = n) (h : ∀ i, i < n → ∃ c : Int, cs[i]? = some (.int .u32 c)) : ∃ l : List Int, l.length = n ∧ cs = vw l := by
  induction cs generalizing n with
  | nil => exact ⟨[], hn, rfl⟩
  | cons v r ih =>
    subst hn
    obtain ⟨c, hc⟩ := h 0 (by simp)
    obtain ⟨l, h1, h2⟩ := ih r.length rfl (fun i hi => by simpa using h (i + 1) (by simp; omega))
    refine ⟨c :: l, by simp [h1], ?_⟩
    simp at hc
    rw [hc, h2]
    rfl
/-- The rounds' numbers lie where a law begins. -/
theorem keys_laid {W : World} (h : laidMetH Tryd.prog [("rootstock/sha.roundKeys", Rows.laid_rootstock_sha_roundKeys)] W) : KeysAt W := by
  rw [MakeChecks.laidMetH_plain _ _ _ (by kernel_rfl)] at h
  obtain ⟨ps, ⟨g, t, cs, fuel, p, q, hg, ht, hv, hd, _, _⟩, _, _⟩ := h
  obtain rfl := Option.some.inj ((show Tryd.prog.globalNamed "rootstock/sha.roundKeys" = some 0 by kernel_rfl).symm.trans hg)
  obtain rfl := Option.some.inj ((show (Tryd.prog.globals[0]?).map (·.type) = some 119 by kernel_rfl).symm.trans ht)
  obtain ⟨xs, m, _, _, hl2, hl3, hf⟩ := DataW.trod_array Tryd.underlying119 hd
  have hcu : Tryd.prog.cellsOf 104 = 1 := by kernel_rfl
  have hlen : cs.toList.length = 64 := hl2.trans (by kernel_rfl)
  obtain ⟨Ks, hK, hcs⟩ := words_of_cells 64 cs.toList hlen (fun i hi => by
    have h3 := hf i hi
    rw [List.getElem?_eq_getElem (by omega)] at h3
    obtain ⟨c, hc⟩ := one_word h3
    refine ⟨c, ?_⟩
    have h4 := congrArg (fun l => l[0]?) hc
    simpa [hcu, List.getElem?_take, List.getElem?_drop] using h4)
  have hcell : ∀ (j : Nat) (hj : j < Ks.length), W.cell? ⟨0, j, none⟩ = some (.int .u32 Ks[j]) := fun j hj => by
    have hc := World.var?_cell hg hv j
    rw [hc, ← Array.getElem?_toList, hcs]
    exact vw_at Ks j hj
  exact ⟨World.block_lt_of_cell? W _ (hcell 0 (by omega)), Ks, hK, hcell⟩

theorem exec_neq_id {W : World} {op : Oper} {a : Act} (p q : Operand) (t : TypeId) (ho : op.op = .binOp .neq 27 p q t) (x y : List UInt8) (hx : x.length = 33) (hy : y.length = 33) (hp : a.eval p = idV x) (hq : a.eval q = idV y) :
    (execOp a.eval op).run Tryd.prog W = .ok (.value (.bool (!(x == y)))) W := by
  simp only [execOp, ho, hp, hq, Sem.run_bind, eqGuard_id, neq_id x y hx hy, Result.andThen_ok, Sem.run_pure]
theorem exec_eql_id {W : World} {op : Oper} {a : Act} (p q : Operand) (t : TypeId) (ho : op.op = .binOp .eql 27 p q t) (x y : List UInt8) (hx : x.length = 33) (hy : y.length = 33) (hp : a.eval p = idV x) (hq : a.eval q = idV y) :
    (execOp a.eval op).run Tryd.prog W = .ok (.value (.bool (x == y))) W := by
  simp only [execOp, ho, hp, hq, Sem.run_bind, eqGuard_id, eql_id x y hx hy, Result.andThen_ok, Sem.run_pure]
/-- append of bytes in a region that draws, behind a guard. -/
theorem step_append_slG {w : World} {ops : Array Oper} {o : Oper} {a : Act} {K : Act → World → Prop} {Q : Exit → Act → World → Prop} {E : Prop} (hw : Region.wanted o (yielded ops a.tmps) = true) (s x : Operand)
    (hop : o.op = .call { callee := .builtin .append, args := #[s, x], argTypes := #[73, 73] })
    (B : Nat) (v : Value) (bs : List UInt8) (hs : a.eval s = v) (ho : Own w B v bs) (hB : B ≤ w.heap.size) (y : Value) (B' : Nat) (ns : List UInt8) (hx : a.eval x = y) (hy : Sl w B' y ns)
    (hm : bs.length + ns.length ≤ 140737488355328)
    (h : ∀ v' w', Own w' B v' (bs ++ ns) → Below B w w' → K (a.put o.dst v') w') : if Region.wanted o (yielded ops a.tmps) = true then Oper.wp Tryd.prog o a w K Q else E := by
  rw [if_pos hw]
  obtain ⟨v', w', hrun, r1, r2⟩ := run_append_sl w B v bs ho hB y B' ns hy hm o.type
  unfold Oper.wp
  simp [execOp, hop, resolve, invoke, builtin, hs, hx, hrun, Result.andThen]
  exact h v' w' r1 r2

theorem good_ofS (D : List UInt8) (hD : D.length = 32) : goodI (ofS D) = true := by
  unfold ofS
  rw [good_iff 2 _ (pad32_length _)]
  refine ⟨by decide, fun j hj hn => ?_⟩
  rw [show sizeI 2 = 32 from rfl] at hn
  rw [pad32_length] at hj
  omega
theorem text_ofS (D : List UInt8) (hD : D.length = 32) : textI (ofS D) = 2 :: D := by
  have hg := good_ofS D hD
  unfold ofS at hg ⊢
  rw [textI_cons, hg, if_pos rfl, show sizeI 2 = 32 from rfl]
  congr 1
  have hp : pad32 D = D := by
    unfold pad32
    rw [List.take_of_length_le (l := D) (i := 32) (by omega), hD]
    simp [zer]
  rw [hp]
  exact List.take_of_length_le (by omega)

set_option maxRecDepth 100000 in
set_option maxHeartbeats 1600000 in
theorem of_shaE (v : Value) (bs : List UInt8) (w : World) (h : Sl w w.heap.size v bs)
    (hsha : ∀ (W : World) (u : Value), Below w.heap.size w W → Sls W W.heap.size u [bs] → Calls Tryd.prog 40 #[u] W fun e w' => ∃ D : List UInt8, D.length = 32 ∧ e = .returned (.agg (vb D).toArray) ∧ Below W.heap.size W w') :
    Calls Tryd.prog 29 #[.int .u8 2, v] w fun e w' => ∃ D : List UInt8, D.length = 32 ∧ e = .returned (idV (ofS D)) ∧ Below w.heap.size w w' := by
  have H := Lib.hid h
  obtain ⟨A, cc, rfl, _, _⟩ := h.len
  clear h
  have hb0 : Below w.heap.size w (w.alloc (.cells (vb (zer 33)).toArray 27)) := (Below.refl _ _).alloc (Nat.le_refl _) _
  have hi0 := IdAt.new w (zer 33)
  have hs0 : (w.alloc (.cells (vb (zer 33)).toArray 27)).heap.size = w.heap.size + 1 := asz _ _
  have HSH := Lib.hid hsha
  clear hsha
  go_enter Tryd.func29, Tryd.ntmps29
  go_wp2_with (refine wp_alloc_row zero_id rfl rfl ?_)
  generalize w.alloc (.cells (vb (zer 33)).toArray 27) = w1 at hb0 hi0 hs0 ⊢
  have hs1 : w.heap.size + 1 ≤ w1.heap.size := by omega
  have HS0 := Lib.hid hs0
  clear hs0
  have H1 := Lib.hid (H.out.below hb0)
  have HI := Lib.hid hi0
  have HB := Lib.hid hb0
  clear H hi0 hb0
  have hsum := HSH.out _ _ (HB.out.alloc (by omega) _) ((Sls.one _ bs H1.out (by omega) 73).more (by simp))
  rw [HS0.out] at hsum
  have HSU := Lib.hid hsum
  clear hsum
  go_wp2_with fail
  refine HSU.out.mono ?_
  rintro e w3 ⟨D, hDl, rfl, hb3⟩
  have HDL := Lib.hid hDl
  clear hDl
  have HB3 := Lib.hid (HB.out.trans (((Below.refl w1.heap.size w1).alloc (Nat.le_refl _) (.cells #[Value.slice A bs.length cc] 73) |>.trans (hb3.mono (by simp))).mono (by omega)))
  have hs3 : w1.heap.size + 1 ≤ w3.heap.size := by have := hb3.size; rw [asz] at this; exact this
  have HI3 : Hid (IdAt w3 w.heap.size (zer 33)) := (HI.out.below ((Below.refl w1.heap.size w1).alloc (Nat.le_refl _) (.cells #[Value.slice A bs.length cc] 73)) (by omega)).below hb3 (by simp; omega)
  clear hb3
  have hsl : Sl (w3.alloc (.cells (vb D).toArray 25)) (w3.heap.size + 1) (.slice (some ⟨w3.heap.size, 0, none⟩) 32 32) D := sl_row w3 D 25 32 HDL.out.symm (by simp [maxLen])
  have HSL := Lib.hid hsl
  clear hsl
  go_wp2_with (first
    | (refine wp_alloc_row zero_32 rfl rfl ?_)
    | (refine wp_fill_32 rfl _ _ rfl rfl (by simp [Act.eval, Act.put]) D HDL.out rfl ?_)
    | (go_at_call 39; refine (named_any 2 _ D _ (by rw [asz]; exact HSL.out)).mono ?_; rintro e w4 ⟨rfl, hb4⟩; have hb5 := ((Below.refl w3.heap.size w3).alloc (Nat.le_refl _) (.cells (vb D).toArray 25)).trans (hb4.mono (by simp)); have HB5 := Lib.hid hb5; have HI5 := Lib.hid (HI3.out.below hb5 (by omega)); have hs5 := hb5.size; clear hb4 hb5)
    | (refine wp_put_id rfl _ _ rfl w.heap.size rfl (2 :: pad32 D) (by rw [List.length_cons, pad32_length]) rfl (zer 33) (zer_length _) HI5.out ?hK))
  intro w6 h6 hg6
  have hb6 : Below w.heap.size w w6 := (HB3.out.trans (HB5.out.mono (by omega))).grown hg6 (by omega) (fun k hk => by injection hk with hk; omega)
  have HOL : Hid ((2 :: pad32 D).length = 33) := ofS_length D
  go_wp2_with fail
  exact bodyPost_ret (v := idV (2 :: pad32 D)) (ret_id Tryd.results29 _ _ w.heap.size (2 :: pad32 D) HOL.out rfl h6) rfl ⟨D, HDL.out, rfl, hb6⟩

end Go.Proofs.YthbahbcihaebeaaDoor.Cd

namespace Go.Proofs.YthbahbcihaebeaaDoor.IdentParts
open Go.RowKit Go.Proofs.YthbahbcihaebeaaDoor.Cd

end Go.Proofs.YthbahbcihaebeaaDoor.IdentParts

/-
  IdentNames answers true. Conditions: the rounds' numbers lie in their variable.
-/
namespace Go.Proofs.YthbahbcihaebeaaDoor.Cd
open Go.RowKit Go.ChangeShapes Go.WideShapes

set_option maxRecDepth 100000 in
theorem keys_data {H : Type} {enc : TypeId × Value → H} {W : World} {base fuel : Nat} {spare : Nat → Bool} {held : Bool} {cs : List Value} {p : List MemPlace}
    (h : DataW.trod enc Tryd.prog W base spare held fuel 119 cs = some ((Rows.laid_rootstock_sha_roundKeys : DataW H), p)) (j : Nat) (hj : j < keysL.length) : cs[j]? = some (.int .u32 keysL[j]) := by
  obtain ⟨xs, m, _, hx, hl2, hl3, hf⟩ := DataW.trod_array Tryd.underlying119 h
  have hcu : Tryd.prog.cellsOf 104 = 1 := by kernel_rfl
  have hj64 : j < 64 := hj
  have e1 : (Rows.laid_rootstock_sha_roundKeys : DataW H) = .agg (keysL.map fun k => .lit (.int .u32 k)) := rfl
  have e2 : xs.map (·.1) = keysL.map fun k => (.lit (.int .u32 k) : DataW H) := by
    have e3 := congrArg Prod.fst hx
    rw [e1] at e3
    injection e3 with e3
    exact e3.symm
  have h3 := hf j hj64
  rw [List.getElem?_eq_getElem (by omega)] at h3
  obtain ⟨a, ha, hb, _⟩ := DataW.trod_int Tryd.underlying104 h3
  have h5 := congrArg (fun l => l[j]?) e2
  simp only [List.getElem?_map] at h5
  rw [List.getElem?_eq_getElem (by omega), List.getElem?_eq_getElem hj, hb] at h5
  injection h5 with h5
  injection h5 with h5
  injection h5 with _ h5
  subst h5
  have h4 := congrArg (fun l => l[0]?) ha
  simpa [hcu, List.getElem?_take, List.getElem?_drop] using h4
/-- The rounds' numbers lie where a law begins. -/
theorem keys_x {W : World} (h : laidMetH Tryd.prog [("rootstock/sha.roundKeys", Rows.laid_rootstock_sha_roundKeys)] W) : KeysIs keysL W := by
  rw [MakeChecks.laidMetH_plain _ _ _ (by kernel_rfl)] at h
  obtain ⟨ps, ⟨g, t, cs, fuel, p, q, hg, ht, hv, hd, _, _⟩, _, _⟩ := h
  obtain rfl := Option.some.inj ((show Tryd.prog.globalNamed "rootstock/sha.roundKeys" = some 0 by kernel_rfl).symm.trans hg)
  obtain rfl := Option.some.inj ((show (Tryd.prog.globals[0]?).map (·.type) = some 119 by kernel_rfl).symm.trans ht)
  have hcell : ∀ (j : Nat) (hj : j < keysL.length), W.cell? ⟨0, j, none⟩ = some (.int .u32 keysL[j]) := fun j hj => by
    have hc := World.var?_cell hg hv j
    rw [hc, ← Array.getElem?_toList]
    exact keys_data hd j hj
  exact ⟨World.block_lt_of_cell? W _ (hcell 0 (by decide)), rfl, hcell⟩

set_option maxRecDepth 100000 in
set_option maxHeartbeats 1600000 in
theorem rtext_fnv (l : List UInt8) (w : World) (hl : l.length ≤ 4096) : Calls Tryd.prog 34 #[.int .u8 1, .string ⟨l.toArray⟩] w (Gives (.string ⟨(1 :: be8 (mor fnv0 l)).toArray⟩) w) := by
  have hsum := ref_sum_any l w (by omega)
  have hlt : mor fnv0 l < 18446744073709551616 := mor_lt _ _ (by unfold fnv0; omega)
  generalize mor fnv0 l = m at hsum hlt ⊢
  have HS := Lib.hid hsum
  clear hsum
  have hbt := ref_bytes_any m w hlt
  have h8 : (be8 m).length = 8 := rfl
  have e1 : (1 : UInt8) :: be8 m = [1] ++ be8 m := rfl
  rw [e1]
  generalize be8 m = B at hbt h8 ⊢
  have hadd := fun W => text_add W [1] B (by rw [h8]; decide)
  have HB := Lib.hid hbt
  clear hbt e1
  go_enter Tryd.func34, Tryd.ntmps34
  go_wp2_with fail
  refine HS.out.mono ?_
  rintro e w1 ⟨rfl, rfl⟩
  go_wp2_with fail
  refine HB.out.mono ?_
  rintro e w2 ⟨rfl, hb2⟩
  go_wp2_with fail
  go_ret
  exact ⟨rfl, hb2⟩

set_option maxRecDepth 100000 in
set_option maxHeartbeats 1600000 in
theorem rtext_sha (l : List UInt8) (w : World) (hl : l.length ≤ 4096) : Calls Tryd.prog 34 #[.int .u8 2, .string ⟨l.toArray⟩] w (Gives (.string ⟨(2 :: shaS keysL l).toArray⟩) w) := by
  have h32 := shaS_length keysL l
  have hof : ∀ W v, Sl W W.heap.size v l → Calls Tryd.prog 53 #[v] W (Gives (.agg (vb (shaS keysL l)).toArray) W) := fun W v h => rshof_x v l W h (by omega)
  have e1 : (2 : UInt8) :: shaS keysL l = [2] ++ shaS keysL l := rfl
  rw [e1]
  generalize shaS keysL l = B at hof h32 ⊢
  have hadd := fun W => text_add W [2] B (by rw [h32]; decide)
  have HOF := Lib.hid hof
  have H32 := Lib.hid h32
  clear hof e1 h32
  go_enter Tryd.func34, Tryd.ntmps34
  go_wp2_with (refine wp_bytes_of rfl _ rfl l rfl (by omega) ?_)
  intro g c w1 hrow _ hb1
  have HB1 := Lib.hid hb1
  have HROW := Lib.hid hrow
  clear hb1 hrow
  go_wp2_with fail
  refine (HOF.out w1 _ HROW.out.sl).mono ?_
  rintro e w2 ⟨rfl, hb2⟩
  have HB2 := Lib.hid (HB1.out.trans (hb2.mono HB1.out.size))
  clear hb2 HROW HB1
  have hsl := sl_row w2 B 25 32 H32.out.symm (by simp [maxLen])
  have htx := run_text_of _ _ _ B hsl
  have HB3 := Lib.hid (HB2.out.alloc HB2.out.size (.cells (vb B).toArray 25))
  clear hsl
  go_wp2_with (first
    | (refine wp_alloc_row zero_32 rfl rfl ?_)
    | (refine wp_fill_32 rfl _ _ rfl rfl (by simp [Act.eval, Act.put]) B H32.out rfl ?_))
  go_ret
  exact ⟨rfl, HB3.out⟩

set_option maxRecDepth 100000 in
set_option maxHeartbeats 1600000 in
theorem rtext_other (K : Int) (l : List UInt8) (w : World) (e1 : (K == 1) = false) (e2 : (K == 2) = false) : Calls Tryd.prog 34 #[.int .u8 K, .string ⟨l.toArray⟩] w (Gives (.string ⟨([] : List UInt8).toArray⟩) w) := by
  go_enter Tryd.func34, Tryd.ntmps34
  go_wp2_with fail
  go_ret
  exact ⟨rfl, Below.refl _ _⟩

set_option maxRecDepth 100000 in
set_option maxHeartbeats 1600000 in
theorem rof_gen (K : Int) (l T L : List UInt8) (w : World) (hL : L.length = 33) (hT : ∀ W, Calls Tryd.prog 34 #[.int .u8 K, .string ⟨l.toArray⟩] W (Gives (.string ⟨T.toArray⟩) W))
    (hI : ∀ W, Calls Tryd.prog 33 #[.string ⟨T.toArray⟩] W (Gives (idV L) W)) : Calls Tryd.prog 26 #[.int .u8 K, .string ⟨l.toArray⟩] w (Gives (idV L) w) := by
  have HT := Lib.hid hT
  have HI := Lib.hid hI
  have HL := Lib.hid hL
  clear hT hI hL
  have hb0 : Below w.heap.size w (w.alloc (.cells (vb (zer 33)).toArray 27)) := (Below.refl _ _).alloc (Nat.le_refl _) _
  have hi0 := IdAt.new w (zer 33)
  have hs0 : (w.alloc (.cells (vb (zer 33)).toArray 27)).heap.size = w.heap.size + 1 := asz _ _
  go_enter Tryd.func26, Tryd.ntmps26
  go_wp2_with (refine wp_alloc_row zero_id rfl rfl ?_)
  generalize w.alloc (.cells (vb (zer 33)).toArray 27) = w1 at hb0 hi0 hs0 ⊢
  have HB := Lib.hid hb0
  have HI0 := Lib.hid hi0
  have hs1 : w.heap.size + 1 ≤ w1.heap.size := by omega
  clear hb0 hi0 hs0
  refine (HT.out w1).mono ?_
  rintro e w2 ⟨rfl, hb2⟩
  have HB2 := Lib.hid (HB.out.trans (hb2.mono (by omega)))
  have HI2 : Hid (IdAt w2 w.heap.size (zer 33)) := HI0.out.below hb2 (by omega)
  have hs2 : w.heap.size + 1 ≤ w2.heap.size := by have := hb2.size; omega
  clear hb2 HB HI0
  go_wp2_with fail
  refine (HI.out w2).mono ?_
  rintro e w3 ⟨rfl, hb3⟩
  have HB3 := Lib.hid (HB2.out.trans (hb3.mono (by omega)))
  have HI3 : Hid (IdAt w3 w.heap.size (zer 33)) := HI2.out.below hb3 (by omega)
  have hs3 : w.heap.size + 1 ≤ w3.heap.size := by have := hb3.size; omega
  clear hb3 HB2 HI2
  go_wp2_with (refine wp_put_id rfl _ _ rfl w.heap.size rfl L HL.out rfl (zer 33) (zer_length _) HI3.out ?hK)
  intro w6 h6 hg6
  have hb6 : Below w.heap.size w w6 := HB3.out.grown hg6 (by omega) (fun k hk => by injection hk with hk; omega)
  go_wp2_with fail
  exact bodyPost_ret (v := idV L) (ret_id Tryd.results26 _ _ w.heap.size L HL.out rfl h6) rfl ⟨rfl, hb6⟩
theorem exec_zero_id {W : World} {op : Oper} {a : Act} (ho : op.op = .build 27 #[]) : (execOp a.eval op).run Tryd.prog W = .ok (.value (idV (zer 33))) W := by
  have h : (Instr.build 27 #[]).run Tryd.prog W = .ok (idV (zer 33)) W := by kernel_rfl
  simp [execOp, ho, h]
/-- ident.Of by Sha. -/
theorem of_shaX (v : Value) (bs : List UInt8) (w : World) (h : Sl w w.heap.size v bs) (hk : KeysIs keysL w) (hl : bs.length ≤ 1048576) : Calls Tryd.prog 29 #[.int .u8 2, v] w (Gives (idV (ofS (shaS keysL bs))) w) :=
  of_sha v bs (shaS keysL bs) w h (shaS_length _ _) fun W u hW hu => by
    have h := shof_x keysL u [bs] W hu (hk.below hW hk.1) (by simp; omega)
    rwa [show [bs].flatten = bs by simp] at h

end Go.Proofs.YthbahbcihaebeaaDoor.Cd

namespace Go.Proofs.YthbahbcihaebeaaDoor.IdentNames
open Go.RowKit Go.Proofs.YthbahbcihaebeaaDoor.Cd

end Go.Proofs.YthbahbcihaebeaaDoor.IdentNames
