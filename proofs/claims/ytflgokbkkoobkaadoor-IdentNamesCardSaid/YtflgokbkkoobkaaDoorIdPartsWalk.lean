/-
  IdentParts answers true. Conditions: the rounds' numbers lie in their variable.
-/
import Derived.Test.YtflgokbkkoobkaaDoorIdTurnedWalk
import Derived.Test.YtflgokbkkoobkaaDoorShaOf
import Derived.LaidLaws
import Derived.LaidMore
import Derived.Lay
import Derived.Stop.Joined
import Derived.Stop.LaidErr
namespace Go.Proofs.YtflgokbkkoobkaaDoor.Cd
open Go.RowKit Go.ChangeShapes Go.WideShapes

theorem one_word {H : Type} {enc : TypeId × Value → H} {w : World} {base n : Nat} {spare : Nat → Bool} {held : Bool} {cs : List Value} {x : DataW H × List MemPlace} (h : DataW.trod enc Tryd.prog w base spare held n 73 cs = some x) : ∃ c : Int, cs = [.int .u32 c] := by
  obtain ⟨a, e, _, _⟩ := DataW.trod_int Tryd.underlying73 h
  exact ⟨a, e⟩
theorem words_of_cells (n : Nat) (cs : List Value) (hn : cs.length = n) (h : ∀ i, i < n → ∃ c : Int, cs[i]? = some (.int .u32 c)) : ∃ l : List Int, l.length = n ∧ cs = vw l := by
  induction cs generalizing n with
  | nil => exact ⟨[], hn, rfl⟩
  | cons v r ih =>
    subst hn
    obtain ⟨c, hc⟩ := h 0 (by simp)
    obtain ⟨l, h1, h2⟩ := ih r.length rfl (fun i hi => by simpa using h (i + 1) (by simp; omega))
    refine ⟨c :: l, by simp [h1], ?_⟩
    simp at hc
    rw [hc, h2]
    rfl
/-- The rounds' numbers lie where a law begins. -/
theorem keys_laid {W : World} (h : laidMetH Tryd.prog [("rootstock/sha.roundKeys", Rows.laid_rootstock_sha_roundKeys)] W) : KeysAt W := by
  rw [MakeChecks.laidMetH_plain _ _ _ (by kernel_rfl)] at h
  obtain ⟨ps, ⟨g, t, cs, fuel, p, q, hg, ht, hv, hd, _, _⟩, _, _⟩ := h
  obtain rfl := Option.some.inj ((show Tryd.prog.globalNamed "rootstock/sha.roundKeys" = some 0 by kernel_rfl).symm.trans hg)
  obtain rfl := Option.some.inj ((show (Tryd.prog.globals[0]?).map (·.type) = some 102 by kernel_rfl).symm.trans ht)
  obtain ⟨xs, m, _, _, hl2, hl3, hf⟩ := DataW.trod_array Tryd.underlying102 hd
  have hcu : Tryd.prog.cellsOf 73 = 1 := by kernel_rfl
  have hlen : cs.toList.length = 64 := hl2.trans (by kernel_rfl)
  obtain ⟨Ks, hK, hcs⟩ := words_of_cells 64 cs.toList hlen (fun i hi => by
    have h3 := hf i hi
    rw [List.getElem?_eq_getElem (by omega)] at h3
    obtain ⟨c, hc⟩ := one_word h3
    refine ⟨c, ?_⟩
    have h4 := congrArg (fun l => l[0]?) hc
    simpa [hcu, List.getElem?_take, List.getElem?_drop] using h4)
  have hcell : ∀ (j : Nat) (hj : j < Ks.length), W.cell? ⟨0, j, none⟩ = some (.int .u32 Ks[j]) := fun j hj => by
    have hc := World.var?_cell hg hv j
    rw [hc, ← Array.getElem?_toList, hcs]
    exact vw_at Ks j hj
  exact ⟨World.block_lt_of_cell? W _ (hcell 0 (by omega)), Ks, hK, hcell⟩

theorem exec_neq_id {W : World} {op : Oper} {a : Act} (p q : Operand) (t : TypeId) (ho : op.op = .binOp .neq 26 p q t) (x y : List UInt8) (hx : x.length = 33) (hy : y.length = 33) (hp : a.eval p = idV x) (hq : a.eval q = idV y) :
    (execOp a.eval op).run Tryd.prog W = .ok (.value (.bool (!(x == y)))) W := by
  simp only [execOp, ho, hp, hq, Sem.run_bind, eqGuard_id, neq_id x y hx hy, Result.andThen_ok, Sem.run_pure]
theorem exec_eql_id {W : World} {op : Oper} {a : Act} (p q : Operand) (t : TypeId) (ho : op.op = .binOp .eql 26 p q t) (x y : List UInt8) (hx : x.length = 33) (hy : y.length = 33) (hp : a.eval p = idV x) (hq : a.eval q = idV y) :
    (execOp a.eval op).run Tryd.prog W = .ok (.value (.bool (x == y))) W := by
  simp only [execOp, ho, hp, hq, Sem.run_bind, eqGuard_id, eql_id x y hx hy, Result.andThen_ok, Sem.run_pure]
/-- append of bytes in a region that draws, behind a guard. -/
theorem step_append_slG {w : World} {ops : Array Oper} {o : Oper} {a : Act} {K : Act → World → Prop} {Q : Exit → Act → World → Prop} {E : Prop} (hw : Region.wanted o (yielded ops a.tmps) = true) (s x : Operand)
    (hop : o.op = .call { callee := .builtin .append, args := #[s, x], argTypes := #[22, 22] })
    (B : Nat) (v : Value) (bs : List UInt8) (hs : a.eval s = v) (ho : Own w B v bs) (hB : B ≤ w.heap.size) (y : Value) (B' : Nat) (ns : List UInt8) (hx : a.eval x = y) (hy : Sl w B' y ns)
    (hm : bs.length + ns.length ≤ 140737488355328)
    (h : ∀ v' w', Own w' B v' (bs ++ ns) → Below B w w' → K (a.put o.dst v') w') : if Region.wanted o (yielded ops a.tmps) = true then Oper.wp Tryd.prog o a w K Q else E := by
  rw [if_pos hw]
  obtain ⟨v', w', hrun, r1, r2⟩ := run_append_sl w B v bs ho hB y B' ns hy hm o.type
  unfold Oper.wp
  simp [execOp, hop, resolve, invoke, builtin, hs, hx, hrun, Result.andThen]
  exact h v' w' r1 r2

theorem good_ofS (D : List UInt8) (hD : D.length = 32) : goodI (ofS D) = true := by
  unfold ofS
  rw [good_iff 2 _ (pad32_length _)]
  refine ⟨by decide, fun j hj hn => ?_⟩
  rw [show sizeI 2 = 32 from rfl] at hn
  rw [pad32_length] at hj
  omega
theorem text_ofS (D : List UInt8) (hD : D.length = 32) : textI (ofS D) = 2 :: D := by
  have hg := good_ofS D hD
  unfold ofS at hg ⊢
  rw [textI_cons, hg, if_pos rfl, show sizeI 2 = 32 from rfl]
  congr 1
  have hp : pad32 D = D := by
    unfold pad32
    rw [List.take_of_length_le (l := D) (i := 32) (by omega), hD]
    simp [zer]
  rw [hp]
  exact List.take_of_length_le (by omega)

set_option maxRecDepth 100000 in
set_option maxHeartbeats 1600000 in
theorem of_shaE (v : Value) (bs : List UInt8) (w : World) (h : Sl w w.heap.size v bs)
    (hsha : ∀ (W : World) (u : Value), Below w.heap.size w W → Sls W W.heap.size u [bs] → Calls Tryd.prog 22 #[u] W fun e w' => ∃ D : List UInt8, D.length = 32 ∧ e = .returned (.agg (vb D).toArray) ∧ Below W.heap.size W w') :
    Calls Tryd.prog 7 #[.int .u8 2, v] w fun e w' => ∃ D : List UInt8, D.length = 32 ∧ e = .returned (idV (ofS D)) ∧ Below w.heap.size w w' := by
  have H := Lib.hid h
  obtain ⟨A, cc, rfl, _, _⟩ := h.len
  clear h
  have hb0 : Below w.heap.size w (w.alloc (.cells (vb (zer 33)).toArray 26)) := (Below.refl _ _).alloc (Nat.le_refl _) _
  have hi0 := IdAt.new w (zer 33)
  have hs0 : (w.alloc (.cells (vb (zer 33)).toArray 26)).heap.size = w.heap.size + 1 := asz _ _
  have HSH := Lib.hid hsha
  clear hsha
  go_enter Tryd.func7, Tryd.ntmps7
  go_wp2_with (refine wp_alloc_row zero_id rfl rfl ?_)
  generalize w.alloc (.cells (vb (zer 33)).toArray 26) = w1 at hb0 hi0 hs0 ⊢
  have hs1 : w.heap.size + 1 ≤ w1.heap.size := by omega
  have HS0 := Lib.hid hs0
  clear hs0
  have H1 := Lib.hid (H.out.below hb0)
  have HI := Lib.hid hi0
  have HB := Lib.hid hb0
  clear H hi0 hb0
  have hsum := HSH.out _ _ (HB.out.alloc (by omega) _) ((Sls.one _ bs H1.out (by omega) 22).more (by simp))
  rw [HS0.out] at hsum
  have HSU := Lib.hid hsum
  clear hsum
  go_wp2_with fail
  refine HSU.out.mono ?_
  rintro e w3 ⟨D, hDl, rfl, hb3⟩
  have HDL := Lib.hid hDl
  clear hDl
  have HB3 := Lib.hid (HB.out.trans (((Below.refl w1.heap.size w1).alloc (Nat.le_refl _) (.cells #[Value.slice A bs.length cc] 22) |>.trans (hb3.mono (by simp))).mono (by omega)))
  have hs3 : w1.heap.size + 1 ≤ w3.heap.size := by have := hb3.size; rw [asz] at this; exact this
  have HI3 : Hid (IdAt w3 w.heap.size (zer 33)) := (HI.out.below ((Below.refl w1.heap.size w1).alloc (Nat.le_refl _) (.cells #[Value.slice A bs.length cc] 22)) (by omega)).below hb3 (by simp; omega)
  clear hb3
  have hsl : Sl (w3.alloc (.cells (vb D).toArray 24)) (w3.heap.size + 1) (.slice (some ⟨w3.heap.size, 0, none⟩) 32 32) D := sl_row w3 D 24 32 HDL.out.symm (by simp [maxLen])
  have HSL := Lib.hid hsl
  clear hsl
  go_wp2_with (first
    | (refine wp_alloc_row zero_32 rfl rfl ?_)
    | (refine wp_fill_32 rfl _ _ rfl rfl (by simp [Act.eval, Act.put]) D HDL.out rfl ?_)
    | (go_at_call 21; refine (named_any 2 _ D _ (by rw [asz]; exact HSL.out)).mono ?_; rintro e w4 ⟨rfl, hb4⟩; have hb5 := ((Below.refl w3.heap.size w3).alloc (Nat.le_refl _) (.cells (vb D).toArray 24)).trans (hb4.mono (by simp)); have HB5 := Lib.hid hb5; have HI5 := Lib.hid (HI3.out.below hb5 (by omega)); have hs5 := hb5.size; clear hb4 hb5)
    | (refine wp_put_id rfl _ _ rfl w.heap.size rfl (2 :: pad32 D) (by rw [List.length_cons, pad32_length]) rfl (zer 33) (zer_length _) HI5.out ?hK))
  intro w6 h6 hg6
  have hb6 : Below w.heap.size w w6 := (HB3.out.trans (HB5.out.mono (by omega))).grown hg6 (by omega) (fun k hk => by injection hk with hk; omega)
  have HOL : Hid ((2 :: pad32 D).length = 33) := ofS_length D
  go_wp2_with fail
  exact bodyPost_ret (v := idV (2 :: pad32 D)) (ret_id Tryd.results7 _ _ w.heap.size (2 :: pad32 D) HOL.out rfl h6) rfl ⟨D, HDL.out, rfl, hb6⟩



end Go.Proofs.YtflgokbkkoobkaaDoor.Cd

namespace Go.Proofs.YtflgokbkkoobkaaDoor.IdentParts
open Go.RowKit Go.Proofs.YtflgokbkkoobkaaDoor.Cd


end Go.Proofs.YtflgokbkkoobkaaDoor.IdentParts
