/-
  ident.Parse. Conditions: none.
-/
import Derived.Test.YtflgokbkkoobkaaDoorIdText
namespace Go.Proofs.YtflgokbkkoobkaaDoor.Cd
open Go.RowKit

/-- The name of bytes, and whether they are one's. -/
def parseI : List UInt8 → List UInt8 × Bool
  | [] => (zer 33, false)
  | c :: r => if 0 < sizeI c ∧ r.length = sizeI c then (c :: pad32 r, true) else (zer 33, false)

theorem slice_rest (c : UInt8) (r : List UInt8) (W : World) : (Instr.sliceAt 9 (.string ⟨(c :: r).toArray⟩) (some (.int .i64 1)) none none).run Tryd.prog W = .ok (.string ⟨r.toArray⟩) W := by
  have hs : (ByteArray.mk (c :: r).toArray).size = r.length + 1 := rfl
  rw [run_sliceAt_string (P := Tryd.prog) W 9 _ _ _ _ Tryd.underlying9, run_slice_string_l (P := Tryd.prog) W 9 _ Tryd.underlying9 .i64 1 (by omega) (by rw [hs]; omega)]
  have he : (ByteArray.mk (c :: r).toArray).extract (1 : Int).toNat (ByteArray.mk (c :: r).toArray).size = ⟨r.toArray⟩ := by
    rw [hs]
    apply ByteArray.ext
    simp [ByteArray.data_extract, List.extract_eq_take_drop]
  rw [he]

theorem step_bytes_of {w : World} {ops : Array Oper} {o : Oper} {a : Act} {K : Act → World → Prop} {Q : Exit → Act → World → Prop} {E : Prop} (hgd : o.guard = none) (x : Operand)
    (hop : o.op = .convert 9 22 x) (s : List UInt8) (hx : a.eval x = .string ⟨s.toArray⟩) (hs : s.length ≤ 140737488355328)
    (hK : ∀ g c w', Row w' g c s → w.heap.size ≤ g → Below w.heap.size w w' → K (a.put o.dst (.slice (some ⟨g, 0, none⟩) s.length c)) w') : if Region.wanted o (yielded ops a.tmps) = true then Oper.wp Tryd.prog o a w K Q else E := by
  have hw : Region.wanted o (yielded ops a.tmps) = true := by simp [Region.wanted, hgd]
  rw [if_pos hw]
  have hrun := Lib.run_convert_string_bytes (P := Tryd.prog) w 9 22 5 ⟨s.toArray⟩ Tryd.underlying9 Tryd.underlying22 Tryd.underlying5
  have hsz : (ByteArray.mk s.toArray).size = s.length := rfl
  rw [hsz] at hrun
  unfold Oper.wp
  simp [execOp, hop, hx, hrun, Result.andThen]
  refine hK _ _ _ ⟨grownCap_ge w s.length 0 5, grownCap_le_maxLen w s.length 0 5 (by simp only [maxLen]; omega), by rw [Lib.bytesWorld_size]; omega, fun j u hu => ?_⟩ (Nat.le_refl _) ⟨rfl, rfl, rfl, by rw [Lib.bytesWorld_size]; omega, fun k hk => Lib.bytesWorld_at_old w _ _ k hk⟩
  have hj := (List.getElem?_eq_some_iff.1 hu).1
  rw [vb_length] at hj
  rw [Lib.bytesWorld_cell w 5 ⟨s.toArray⟩ j hj]
  rw [vb_at s j hj] at hu
  rw [← hu]
  simp [List.getD, hj]

theorem step_put_id {w : World} {ops : Array Oper} {o : Oper} {a : Act} {K : Act → World → Prop} {Q : Exit → Act → World → Prop} {E : Prop} (hgd : o.guard = none) (x y : Operand) (ho : o.op = .store 26 x y)
    (g : Nat) (hx : a.eval x = .pointer (some ⟨g, 0, none⟩)) (l : List UInt8) (hl : l.length = 33) (hy : a.eval y = idV l) (old : List UInt8) (hold : old.length = 33) (hg : IdAt w g old)
    (h : ∀ w', IdAt w' g l → w.grownBy w' (some g) → K (a.put o.dst undef) w') : if Region.wanted o (yielded ops a.tmps) = true then Oper.wp Tryd.prog o a w K Q else E := by
  have hw : Region.wanted o (yielded ops a.tmps) = true := by simp [Region.wanted, hgd]
  rw [if_pos hw]
  exact wp_store_row _ x y ho g (vb l).toArray hx hy _ (vb old).toArray hg (by rw [vb_size, hl]; exact cells_id) (by rw [vb_size, vb_size, hl, hold]) (all_oneCell_toArray (vb_one l)) (h _ (setRow_heap w g _ _ _ _ hg) (setRow_grown w g _))

/-- Two answers: a name out of a block of its own, and whether it is one. -/
theorem ret_id2 {fn : Func} {p q : Tmp} (hf : fn.results = #[.cell p 26, .tmp q]) (tmps : Array Value) (w : World) (g : Nat) (l : List UInt8) (hl : l.length = 33) (b : Bool)
    (hp : tmps.getD p undef = .pointer (some ⟨g, 0, none⟩)) (hg : IdAt w g l) (hq : tmps.getD q undef = .bool b) : (results fn tmps).run Tryd.prog w = .ok (.tuple #[idV l, .bool b]) w := by
  have hp' : tmps[p]?.getD undef = .pointer (some ⟨g, 0, none⟩) := by simpa using hp
  have hq' : tmps[q]?.getD undef = .bool b := by simpa using hq
  have hld := run_loadVar_row (P := Tryd.prog) w g _ 26 _ _ _ hg Tryd.underlying26 rfl (by rw [vb_size, hl]; exact cells_id)
  simp [results, hf, hp', hq', asAddr, hld, idV]

theorem parse_no (l : List UInt8) (h : ∀ c r, l = c :: r → ¬ (0 < sizeI c ∧ r.length = sizeI c)) : parseI l = (zer 33, false) := by
  cases l with
  | nil => rfl
  | cons c r => exact if_neg (h c r rfl)

set_option maxRecDepth 100000 in
set_option maxHeartbeats 1600000 in
theorem parse_nil (w : World) : Calls Tryd.prog 80 #[.string ⟨([] : List UInt8).toArray⟩] w (Gives (.tuple #[idV (zer 33), .bool false]) w) := by
  go_enter Tryd.func80, Tryd.ntmps80
  go_wp2_with (first
    | (refine wp_alloc_row zero_id rfl rfl ?_)
    | (refine wp_build_row rfl _ rfl _ built_id0 (by simp) ?_)
    | (refine wp_put_id rfl _ _ rfl w.heap.size rfl (zer 33) (zer_length _) rfl (zer 33) (zer_length _) (IdAt.new w (zer 33)) ?hK))
  intro w3 h3 hg3
  have hb3 : Below w.heap.size w w3 := ((Below.refl _ _).alloc (Nat.le_refl _) _).grown hg3 (by rw [asz]; omega) (fun k hk => by injection hk with hk; omega)
  go_wp2_with fail
  exact bodyPost_ret (v := .tuple #[idV (zer 33), .bool false]) (ret_id2 Tryd.results80 _ _ w.heap.size (zer 33) (zer_length _) false rfl h3 rfl) rfl ⟨rfl, hb3⟩

set_option maxRecDepth 100000 in
set_option maxHeartbeats 1600000 in
theorem parse_none (c : UInt8) (r : List UInt8) (w : World) (hr : r.length ≤ 1099511627776) (h : ¬ (0 < sizeI c ∧ r.length = sizeI c)) : Calls Tryd.prog 80 #[.string ⟨(c :: r).toArray⟩] w (Gives (.tuple #[idV (zer 33), .bool false]) w) := by
  have hsize := fun W => size_any c W
  have hz := sizeI_le c
  generalize sizeI c = n at hsize h hz
  have HSZ := Lib.hid hsize
  clear hsize
  by_cases hn : n = 0
  · subst hn
    go_enter Tryd.func80, Tryd.ntmps80
    go_wp2_with (first
      | (refine wp_alloc_row zero_id rfl rfl ?_)
      | (refine wp_build_row rfl _ rfl _ built_id0 (by simp) ?_)
      | (go_at_call 9; refine (HSZ.out _).mono ?_; rintro e w1 ⟨rfl, rfl⟩)
      | (refine wp_put_id rfl _ _ rfl w.heap.size rfl (zer 33) (zer_length _) rfl (zer 33) (zer_length _) (IdAt.new w (zer 33)) ?hK))
    intro w3 h3 hg3
    have hb3 : Below w.heap.size w w3 := ((Below.refl _ _).alloc (Nat.le_refl _) _).grown hg3 (by rw [asz]; omega) (fun k hk => by injection hk with hk; omega)
    go_wp2_with fail
    exact bodyPost_ret (v := .tuple #[idV (zer 33), .bool false]) (ret_id2 Tryd.results80 _ _ w.heap.size (zer 33) (zer_length _) false rfl h3 rfl) rfl ⟨rfl, hb3⟩
  · have hne : r.length ≠ n := by omega
    have hq0 : ((n : Int) == 0) = false := by simp; omega
    have hq1 : ((r.length : Int) + 1 != 1 + (n : Int)) = true := by simp; omega
    have hq2 : ¬ ((r.length : Int) + 1 = 1 + (n : Int)) := by omega
    have hq3 : ((r.length : Int) + 1 == 1 + (n : Int)) = false := by rw [beq_eq_false_iff_ne]; exact hq2
    have hix : ∀ h, (ByteArray.mk (c :: r).toArray)[0]'h = c := fun _ => rfl
    have hsz : (ByteArray.mk (c :: r).toArray).size = r.length + 1 := rfl
    go_enter Tryd.func80, Tryd.ntmps80
    go_wp2_with (first
      | (refine wp_alloc_row zero_id rfl rfl ?_)
      | (refine wp_build_row rfl _ rfl _ built_id0 (by simp) ?_)
      | (go_at_call 9; refine (HSZ.out _).mono ?_; rintro e w1 ⟨rfl, rfl⟩)
      | (refine wp_put_id rfl _ _ rfl w.heap.size rfl (zer 33) (zer_length _) rfl (zer 33) (zer_length _) (IdAt.new w (zer 33)) ?hK2))
    intro w3 h3 hg3
    have hb3 : Below w.heap.size w w3 := ((Below.refl _ _).alloc (Nat.le_refl _) _).grown hg3 (by rw [asz]; omega) (fun k hk => by injection hk with hk; omega)
    go_wp2_with fail
    exact bodyPost_ret (v := .tuple #[idV (zer 33), .bool false]) (ret_id2 Tryd.results80 _ _ w.heap.size (zer 33) (zer_length _) false rfl h3 rfl) rfl ⟨rfl, hb3⟩

set_option maxRecDepth 100000 in
set_option maxHeartbeats 1600000 in
theorem parse_some (c : UInt8) (r : List UInt8) (w : World) (h0 : 0 < sizeI c) (h1 : r.length = sizeI c) : Calls Tryd.prog 80 #[.string ⟨(c :: r).toArray⟩] w (Gives (.tuple #[idV (c :: pad32 r), .bool true]) w) := by
  have hsize := fun W => size_any c W
  have hz := sizeI_le c
  rw [← h1] at hsize hz h0
  have HSZ := Lib.hid hsize
  clear hsize h1
  have hsz : (ByteArray.mk (c :: r).toArray).size = r.length + 1 := rfl
  have hl : (c :: pad32 r).length = 33 := by simp [pad32_length]
  have HL := Lib.hid hl
  have HZ := Lib.hid hz
  clear hl
  have hq0 : ((r.length : Int) == 0) = false := by
    rw [beq_eq_false_iff_ne]
    omega
  have hq1 : ((r.length : Int) + 1 != 1 + (r.length : Int)) = false := by
    rw [bne_eq_false_iff_eq]
    omega
  have hix : ∀ h, (ByteArray.mk (c :: r).toArray)[0]'h = c := fun _ => rfl
  go_enter Tryd.func80, Tryd.ntmps80
  go_wp2_with (first
    | (refine wp_alloc_row zero_id rfl rfl ?_)
    | (go_at_call 9; refine (HSZ.out _).mono ?_; rintro e w1 ⟨rfl, rfl⟩))
  have hS0 : IdAt (w.alloc (.cells (vb (zer 33)).toArray 26)).drew w.heap.size (zer 33) := (IdAt.new w (zer 33)).drew
  have hB0 : Below w.heap.size w (w.alloc (.cells (vb (zer 33)).toArray 26)).drew := ((Below.refl _ _).alloc (Nat.le_refl _) _).drew
  obtain ⟨W0, hW0⟩ : ∃ x, (w.alloc (.cells (vb (zer 33)).toArray 26)).drew = x := ⟨_, rfl⟩
  have hs0 : W0.heap.size = w.heap.size + 1 := by rw [← hW0]; simp
  rw [hW0] at hS0 hB0
  have HB0 := Lib.hid hB0
  clear hB0
  refine region_begin hW0 (S := fun W => Below w.heap.size w W) (by kernel_rfl) HB0.out (fun hHeld => ?_)
  clear hW0
  refine take_at (i := 0) (.string ⟨(c :: r).toArray⟩) (some 22) (by decide) (by rfl) (by kernel_rfl) (by kernel_rfl) (by kernel_rfl) (fun _ _ _ h => h) (by rfl) (fun W hW => by go_simp) (by assumption) ?_
  try simp only [Act.put, List.setIfInBounds_toArray, List.set_cons_zero, List.set_cons_succ]
  refine take_at (i := 1) (.int .u8 c.toNat) (some 23) (by decide) (by rfl) (by kernel_rfl) (by kernel_rfl) (by kernel_rfl) (fun _ _ _ h => h) (by rfl) (fun W hW => by go_simp) (by assumption) ?_
  try simp only [Act.put, List.setIfInBounds_toArray, List.set_cons_zero, List.set_cons_succ]
  refine take_at (i := 2) (.string ⟨(c :: r).toArray⟩) (some 24) (by decide) (by rfl) (by kernel_rfl) (by kernel_rfl) (by kernel_rfl) (fun _ _ _ h => h) (by rfl) (fun W hW => by go_simp) (by assumption) ?_
  try simp only [Act.put, List.setIfInBounds_toArray, List.set_cons_zero, List.set_cons_succ]
  refine take_at (i := 3) (.string ⟨r.toArray⟩) (some 25) (by decide) (by rfl) (by kernel_rfl) (by kernel_rfl) (by kernel_rfl) (fun _ _ _ h => h) (by rfl) (fun W hW => by have := slice_rest c r W; go_simp) (by assumption) ?_
  try simp only [Act.put, List.setIfInBounds_toArray, List.set_cons_zero, List.set_cons_succ]
  refine wpAnyH_ready (rs := [4]) (by kernel_rfl) (by simp) (AllReadyH.cons (Array.getElem?_eq_getElem (i := 4) (by decide)) (fun K9 hK => ?_) AllReadyH.nil)
  refine step_bytes_of rfl _ rfl r rfl (by have := HZ.out; omega) ?_
  intro g cc w3 hr3 hg3 hb3
  have HB3 := Lib.hid (HB0.out.trans (hb3.mono (by omega)))
  have hI3 : IdAt w3 w.heap.size (zer 33) := hS0.below hb3 (by omega)
  have hs3 := hb3.size
  clear hb3
  refine hK.out _ _ (HB3.out) (fun hHeld => ?_)
  clear hK K9
  try simp only [Act.put, List.setIfInBounds_toArray, List.set_cons_zero, List.set_cons_succ]
  refine wpAnyH_ready (rs := [5]) (by kernel_rfl) (by simp) (AllReadyH.cons (Array.getElem?_eq_getElem (i := 5) (by decide)) (fun K9 hK => ?_) AllReadyH.nil)
  go_simp
  refine (named_any c _ r _ hr3.sl).mono ?_
  rintro e w4 ⟨rfl, hb4⟩
  have HB4 := Lib.hid (HB3.out.trans (hb4.mono (by omega)))
  have hI4 : IdAt w4 w.heap.size (zer 33) := hI3.below hb4 (by omega)
  have hs4 := hb4.size
  clear hb4 hr3
  refine hK.out _ _ (HB4.out) (fun hHeld => ?_)
  clear hK K9
  try simp only [Act.put, List.setIfInBounds_toArray, List.set_cons_zero, List.set_cons_succ]
  refine wpAnyH_ready (rs := [6]) (by kernel_rfl) (by simp) (AllReadyH.cons (Array.getElem?_eq_getElem (i := 6) (by decide)) (fun K9 hK => ?_) AllReadyH.nil)
  refine step_put_id rfl _ _ rfl w.heap.size rfl (c :: pad32 r) HL.out rfl (zer 33) (zer_length _) hI4 ?_
  intro w5 hI5 hg5
  have HB5 := Lib.hid (HB4.out.grown hg5 (by omega) (fun k hk => by injection hk with hk; omega))
  clear hg5 hI4
  refine hK.out _ _ (HB5.out) (fun hHeld => ?_)
  clear hK K9
  try simp only [Act.put, List.setIfInBounds_toArray, List.set_cons_zero, List.set_cons_succ]
  refine take_at (i := 7) (.bool true) (some 3) (by decide) (by rfl) (by kernel_rfl) (by kernel_rfl) (by kernel_rfl) (fun _ _ _ h => h) (by rfl) (fun W hW => by go_simp) (by assumption) ?_
  try simp only [Act.put, List.setIfInBounds_toArray, List.set_cons_zero, List.set_cons_succ]
  refine wpAnyH_done (by kernel_rfl) ?_ _
  try simp only [Act.put, List.setIfInBounds_toArray, List.set_cons_zero, List.set_cons_succ]
  go_wp2_with fail
  exact bodyPost_ret (v := .tuple #[idV (c :: pad32 r), .bool true]) (ret_id2 Tryd.results80 _ _ w.heap.size (c :: pad32 r) HL.out true rfl hI5 rfl) rfl ⟨rfl, HB5.out⟩

theorem parse_any (l : List UInt8) (w : World) (hl : l.length ≤ 1099511627776) : Calls Tryd.prog 80 #[.string ⟨l.toArray⟩] w (Gives (.tuple #[idV (parseI l).1, .bool (parseI l).2]) w) := by
  cases l with
  | nil => exact parse_nil w
  | cons c r =>
    by_cases h : 0 < sizeI c ∧ r.length = sizeI c
    · rw [show parseI (c :: r) = (c :: pad32 r, true) from if_pos h]
      exact parse_some c r w h.1 h.2
    · rw [show parseI (c :: r) = (zer 33, false) from if_neg h]
      exact parse_none c r w (by simp at hl; omega) h

end Go.Proofs.YtflgokbkkoobkaaDoor.Cd
