/-
  ident.Of by Fnv, and of no hash; by Sha, where sha.Of answers. Conditions: none.
-/
import Derived.Test.YtflgokbkkoobkaaDoorIdParse
import Derived.Test.YtflgokbkkoobkaaDoorFnvAlive
import Derived.Test.YtflgokbkkoobkaaDoorBytes
namespace Go.Proofs.YtflgokbkkoobkaaDoor.Cd
open Go.RowKit

theorem zero_8 (W : World) : (zeroValue 43).run Tryd.prog W = .ok (.agg (vb (zer 8)).toArray) W := by kernel_rfl

theorem zero_32 (W : World) : (zeroValue 24).run Tryd.prog W = .ok (.agg (vb (zer 32)).toArray) W := by kernel_rfl

theorem cells_8 : (Tryd.prog.info? 43).map (·.size) = some 8 := by kernel_rfl

theorem cells_32 : (Tryd.prog.info? 24).map (·.size) = some 32 := by kernel_rfl

theorem be8_length (n : Nat) : (be8 n).length = 8 := rfl

/-- Bytes that were laid out a moment ago, as a slice. -/
theorem sl_row (w : World) (l : List UInt8) (T : TypeId) (n : Nat) (hn : n = l.length) (hm : n ≤ maxLen) : Sl (w.alloc (.cells (vb l).toArray T)) (w.heap.size + 1) (.slice (some ⟨w.heap.size, 0, none⟩) n n) l := by
  subst hn
  refine ⟨_, l.length, rfl, Nat.le_refl _, hm, (fun h => by cases h), (fun ad e _ => by injection e with e; subst e; simp), fun ad e j u hu => ?_⟩
  injection e with e
  subst e
  rw [Addr.add_lit, Nat.zero_add, cell_of_row _ _ _ _ _ _ (heap_alloc_new w _), List.getElem?_toArray]
  exact hu

theorem wp_fill_8 {ops : Array Oper} {rest : List Oper} {o : Oper} {a : Act} {W w : World} {Q : Exit → Act → World → Prop} (hgd : o.guard = none) (x y : Operand) (ho : o.op = .store 43 x y)
    (hW : W = w.alloc (.cells (vb (zer 8)).toArray 43))
    (hx : a.eval x = .pointer (some ⟨w.heap.size, 0, none⟩)) (l : List UInt8) (hl : l.length = 8) (hy : a.eval y = .agg (vb l).toArray)
    (h : wpList Tryd.prog ops Q rest (a.put o.dst undef) (w.alloc (.cells (vb l).toArray 43))) : wpList Tryd.prog ops Q (o :: rest) a W := by
  subst hW
  exact wp_fill_row cells_8 hgd x y ho _ (by rw [vb_size, zer_length]) _ hx hy (by rw [vb_size, hl]) (id_one l) h
theorem wp_fill_32 {ops : Array Oper} {rest : List Oper} {o : Oper} {a : Act} {W w : World} {Q : Exit → Act → World → Prop} (hgd : o.guard = none) (x y : Operand) (ho : o.op = .store 24 x y)
    (hW : W = w.alloc (.cells (vb (zer 32)).toArray 24))
    (hx : a.eval x = .pointer (some ⟨w.heap.size, 0, none⟩)) (l : List UInt8) (hl : l.length = 32) (hy : a.eval y = .agg (vb l).toArray)
    (h : wpList Tryd.prog ops Q rest (a.put o.dst undef) (w.alloc (.cells (vb l).toArray 24))) : wpList Tryd.prog ops Q (o :: rest) a W := by
  subst hW
  exact wp_fill_row cells_32 hgd x y ho _ (by rw [vb_size, zer_length]) _ hx hy (by rw [vb_size, hl]) (id_one l) h

/-- A name by Fnv. -/
def ofF (a : List UInt8) : List UInt8 := 1 :: pad32 (be8 (mor fnv0 a))
theorem ofF_length (a : List UInt8) : (ofF a).length = 33 := by simp [ofF, pad32_length]
/-- A name by Sha, of a digest. -/
def ofS (d : List UInt8) : List UInt8 := 2 :: pad32 d
theorem ofS_length (d : List UInt8) : (ofS d).length = 33 := by simp [ofS, pad32_length]

set_option maxRecDepth 100000 in
set_option maxHeartbeats 1600000 in
theorem of_fnv (v : Value) (bs : List UInt8) (w : World) (h : Sl w w.heap.size v bs) : Calls Tryd.prog 7 #[.int .u8 1, v] w (Gives (idV (ofF bs)) w) := by
  have H := Lib.hid h
  obtain ⟨A, cc, rfl, _, _⟩ := h.len
  clear h
  have hb0 : Below w.heap.size w (w.alloc (.cells (vb (zer 33)).toArray 26)) := (Below.refl _ _).alloc (Nat.le_refl _) _
  have hi0 := IdAt.new w (zer 33)
  have hs0 : (w.alloc (.cells (vb (zer 33)).toArray 26)).heap.size = w.heap.size + 1 := asz _ _
  go_enter Tryd.func7, Tryd.ntmps7
  go_wp2_with (refine wp_alloc_row zero_id rfl rfl ?_)
  generalize w.alloc (.cells (vb (zer 33)).toArray 26) = w1 at hb0 hi0 hs0 ⊢
  have hs1 : w.heap.size + 1 ≤ w1.heap.size := by omega
  have HS0 := Lib.hid hs0
  clear hs0
  have H1 := Lib.hid (H.out.below hb0)
  have HI := Lib.hid hi0
  have HB := Lib.hid hb0
  clear H hi0 hb0
  have hsum := sum_any _ [bs] _ (Sls.one _ bs H1.out (by omega) 22)
  rw [show [bs].flatten = bs by simp] at hsum
  have hlt : mor fnv0 bs < 18446744073709551616 := mor_lt _ _ (by unfold fnv0; omega)
  have ho : ofF bs = 1 :: pad32 (be8 (mor fnv0 bs)) := rfl
  generalize mor fnv0 bs = m at hsum hlt ho
  have HO := Lib.hid ho
  rw [HS0.out] at hsum
  have HSU := Lib.hid hsum
  clear ho hsum
  go_wp2_with fail
  refine HSU.out.mono ?_
  rintro e w2 ⟨rfl, rfl⟩
  go_wp2_with fail
  refine (bytes_any m _ hlt).mono ?_
  rintro e w3 ⟨rfl, hb3⟩
  have HB3 := Lib.hid (HB.out.trans (((Below.refl w1.heap.size w1).alloc (Nat.le_refl _) (.cells #[Value.slice A bs.length cc] 22) |>.trans (hb3.mono (by simp))).mono (by omega)))
  have hs3 : w1.heap.size + 1 ≤ w3.heap.size := by have := hb3.size; rw [asz] at this; exact this
  have HI3 : Hid (IdAt w3 w.heap.size (zer 33)) := (HI.out.below ((Below.refl w1.heap.size w1).alloc (Nat.le_refl _) (.cells #[Value.slice A bs.length cc] 22)) (by omega)).below hb3 (by simp; omega)
  clear hb3
  rw [arr_all]
  obtain ⟨D, hD⟩ : ∃ D, be8 m = D := ⟨_, rfl⟩
  have hDl : D.length = 8 := by rw [← hD]; rfl
  rw [hD]
  have HD := Lib.hid hD
  have HDL := Lib.hid hDl
  clear hD hDl
  have hsl : Sl (w3.alloc (.cells (vb D).toArray 43)) (w3.heap.size + 1) (.slice (some ⟨w3.heap.size, 0, none⟩) 8 8) D := sl_row w3 D 43 8 HDL.out.symm (by simp [maxLen])
  have HSL := Lib.hid hsl
  clear hsl
  go_wp2_with (first
    | (refine wp_alloc_row zero_8 rfl rfl ?_)
    | (refine wp_fill_8 rfl _ _ rfl rfl (by simp [Act.eval, Act.put]) D HDL.out rfl ?_)
    | (go_at_call 21; refine (named_any 1 _ D _ (by rw [asz]; exact HSL.out)).mono ?_; rintro e w4 ⟨rfl, hb4⟩; have hb5 := ((Below.refl w3.heap.size w3).alloc (Nat.le_refl _) (.cells (vb D).toArray 43)).trans (hb4.mono (by simp)); have HB5 := Lib.hid hb5; have HI5 := Lib.hid (HI3.out.below hb5 (by omega)); have hs5 := hb5.size; clear hb4 hb5)
    | (refine wp_put_id rfl _ _ rfl w.heap.size rfl (1 :: pad32 D) (by rw [List.length_cons, pad32_length]) rfl (zer 33) (zer_length _) HI5.out ?hK))
  intro w6 h6 hg6
  have hb6 : Below w.heap.size w w6 := (HB3.out.trans (HB5.out.mono (by omega))).grown hg6 (by omega) (fun k hk => by injection hk with hk; omega)
  have hol : (ofF bs).length = 33 := ofF_length bs
  rw [HO.out, HD.out] at hol
  have HOL := Lib.hid hol
  clear hol
  go_wp2_with fail
  exact bodyPost_ret (v := idV (1 :: pad32 D)) (ret_id Tryd.results7 _ _ w.heap.size (1 :: pad32 D) HOL.out rfl h6) rfl ⟨by rw [HO.out, HD.out], hb6⟩

set_option maxRecDepth 100000 in
set_option maxHeartbeats 1600000 in
theorem of_other (k : UInt8) (v : Value) (w : World) (hk : sizeI k = 0) : Calls Tryd.prog 7 #[.int .u8 k.toNat, v] w (Gives (idV (zer 33)) w) := by
  have h1 : k.toNat ≠ 1 := fun e => by simp [sizeI, e] at hk
  have h2 : k.toNat ≠ 2 := fun e => by simp [sizeI, e] at hk
  clear hk
  generalize k.toNat = n at h1 h2
  have e1 : ((n : Int) == 1) = false := by rw [beq_eq_false_iff_ne]; omega
  have e2 : ((n : Int) == 2) = false := by rw [beq_eq_false_iff_ne]; omega
  go_enter Tryd.func7, Tryd.ntmps7
  go_wp2_with (first
    | (refine wp_alloc_row zero_id rfl rfl ?_)
    | (refine wp_build_row rfl _ rfl _ built_id0 (by simp) ?_)
    | (refine wp_put_id rfl _ _ rfl w.heap.size rfl (zer 33) (zer_length _) rfl (zer 33) (zer_length _) (IdAt.new w (zer 33)) ?hK))
  intro w3 h3 hg3
  have hb3 : Below w.heap.size w w3 := ((Below.refl _ _).alloc (Nat.le_refl _) _).grown hg3 (by rw [asz]; omega) (fun k hk => by injection hk with hk; omega)
  go_wp2_with fail
  exact bodyPost_ret (v := idV (zer 33)) (ret_id Tryd.results7 _ _ w.heap.size (zer 33) (zer_length _) rfl h3) rfl ⟨rfl, hb3⟩

set_option maxRecDepth 100000 in
set_option maxHeartbeats 1600000 in
theorem of_sha (v : Value) (bs D : List UInt8) (w : World) (h : Sl w w.heap.size v bs) (hDl : D.length = 32)
    (hsha : ∀ (W : World) (u : Value), Below w.heap.size w W → Sls W W.heap.size u [bs] → Calls Tryd.prog 22 #[u] W (Gives (.agg (vb D).toArray) W)) : Calls Tryd.prog 7 #[.int .u8 2, v] w (Gives (idV (ofS D)) w) := by
  have H := Lib.hid h
  obtain ⟨A, cc, rfl, _, _⟩ := h.len
  clear h
  have hb0 : Below w.heap.size w (w.alloc (.cells (vb (zer 33)).toArray 26)) := (Below.refl _ _).alloc (Nat.le_refl _) _
  have hi0 := IdAt.new w (zer 33)
  have hs0 : (w.alloc (.cells (vb (zer 33)).toArray 26)).heap.size = w.heap.size + 1 := asz _ _
  have HSH := Lib.hid hsha
  have HDL := Lib.hid hDl
  clear hsha hDl
  go_enter Tryd.func7, Tryd.ntmps7
  go_wp2_with (refine wp_alloc_row zero_id rfl rfl ?_)
  generalize w.alloc (.cells (vb (zer 33)).toArray 26) = w1 at hb0 hi0 hs0 ⊢
  have hs1 : w.heap.size + 1 ≤ w1.heap.size := by omega
  have HS0 := Lib.hid hs0
  clear hs0
  have H1 := Lib.hid (H.out.below hb0)
  have HI := Lib.hid hi0
  have HB := Lib.hid hb0
  clear H hi0 hb0
  have hsum := HSH.out _ _ (HB.out.alloc (by omega) _) ((Sls.one _ bs H1.out (by omega) 22).more (by simp))
  rw [HS0.out] at hsum
  have HSU := Lib.hid hsum
  clear hsum
  go_wp2_with fail
  refine HSU.out.mono ?_
  rintro e w3 ⟨rfl, hb3⟩
  have HB3 := Lib.hid (HB.out.trans (((Below.refl w1.heap.size w1).alloc (Nat.le_refl _) (.cells #[Value.slice A bs.length cc] 22) |>.trans (hb3.mono (by simp))).mono (by omega)))
  have hs3 : w1.heap.size + 1 ≤ w3.heap.size := by have := hb3.size; rw [asz] at this; exact this
  have HI3 : Hid (IdAt w3 w.heap.size (zer 33)) := (HI.out.below ((Below.refl w1.heap.size w1).alloc (Nat.le_refl _) (.cells #[Value.slice A bs.length cc] 22)) (by omega)).below hb3 (by simp; omega)
  clear hb3
  have hsl : Sl (w3.alloc (.cells (vb D).toArray 24)) (w3.heap.size + 1) (.slice (some ⟨w3.heap.size, 0, none⟩) 32 32) D := sl_row w3 D 24 32 HDL.out.symm (by simp [maxLen])
  have HSL := Lib.hid hsl
  clear hsl
  go_wp2_with (first
    | (refine wp_alloc_row zero_32 rfl rfl ?_)
    | (refine wp_fill_32 rfl _ _ rfl rfl (by simp [Act.eval, Act.put]) D HDL.out rfl ?_)
    | (go_at_call 21; refine (named_any 2 _ D _ (by rw [asz]; exact HSL.out)).mono ?_; rintro e w4 ⟨rfl, hb4⟩; have hb5 := ((Below.refl w3.heap.size w3).alloc (Nat.le_refl _) (.cells (vb D).toArray 24)).trans (hb4.mono (by simp)); have HB5 := Lib.hid hb5; have HI5 := Lib.hid (HI3.out.below hb5 (by omega)); have hs5 := hb5.size; clear hb4 hb5)
    | (refine wp_put_id rfl _ _ rfl w.heap.size rfl (2 :: pad32 D) (by rw [List.length_cons, pad32_length]) rfl (zer 33) (zer_length _) HI5.out ?hK))
  intro w6 h6 hg6
  have hb6 : Below w.heap.size w w6 := (HB3.out.trans (HB5.out.mono (by omega))).grown hg6 (by omega) (fun k hk => by injection hk with hk; omega)
  have HOL : Hid ((2 :: pad32 D).length = 33) := ofS_length D
  go_wp2_with fail
  exact bodyPost_ret (v := idV (2 :: pad32 D)) (ret_id Tryd.results7 _ _ w.heap.size (2 :: pad32 D) HOL.out rfl h6) rfl ⟨rfl, hb6⟩

end Go.Proofs.YtflgokbkkoobkaaDoor.Cd
