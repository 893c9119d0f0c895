/-
  A name as thirty-three cells; ident.named, ident.Size and the document's. Conditions: none.
-/
import Derived.Test.YtflgokbkkoobkaaDoorIdRows
import Derived.Test.YtflgokbkkoobkaaDoorShaPad
namespace Go.Proofs.YtflgokbkkoobkaaDoor.Cd
open Go.RowKit

/-- A name's value: its kind, and its sum's bytes. -/
def idV (l : List UInt8) : Value := .agg (vb l).toArray
/-- Bytes cut, or filled up with noughts, to thirty-two. -/
def pad32 (b : List UInt8) : List UInt8 := b.take 32 ++ zer (32 - b.length)
theorem pad32_length (b : List UInt8) : (pad32 b).length = 32 := by simp [pad32, zer_length]; omega
def sizeI (k : UInt8) : Nat := if k.toNat = 1 then 8 else if k.toNat = 2 then 32 else 0

theorem laid_id (k : UInt8) (bs : List UInt8) : laid (vb (k :: zer 32)) 1 (vb (bs.take 32)) = vb (k :: pad32 bs) := by
  have hz : zer 32 = zer (bs.take 32).length ++ zer (32 - bs.length) := by
    unfold zer
    rw [List.replicate_append_replicate, List.length_take]
    congr 1
    omega
  have h := laid_mid [Value.int .u8 k.toNat] (vb (zer (bs.take 32).length)) (vb (zer (32 - bs.length))) (vb (bs.take 32)) (by rw [vb_length, vb_length, zer_length])
  rw [hz]
  show laid (Value.int .u8 k.toNat :: vb (zer (bs.take 32).length ++ zer (32 - bs.length))) 1 _ = Value.int .u8 k.toNat :: vb (bs.take 32 ++ zer (32 - bs.length))
  rw [vb_append, vb_append]
  exact h

theorem vb_size (l : List UInt8) : (vb l).toArray.size = l.length := by simp [vb_length]
theorem cells_id : (Tryd.prog.info? 26).map (·.size) = some 33 := by kernel_rfl

theorem zero_id (W : World) : (zeroValue 26).run Tryd.prog W = .ok (.agg (vb (zer 33)).toArray) W := by kernel_rfl
theorem built_id (n : Int) : Tryd.prog.built 26 [(0, .int .u8 n)] = some (Value.int .u8 n :: vb (zer 32)).toArray := by kernel_rfl
theorem built_id0 : Tryd.prog.built 26 [] = some (vb (zer 33)).toArray := by kernel_rfl
theorem id_one (l : List UInt8) : ∀ u ∈ (vb l).toArray.toList, u.oneCell' = true := fun u hu => vb_one l u (by simpa using hu)

/-- A name that lies in a block is loaded. -/
theorem wp_load_id {ops : Array Oper} {rest : List Oper} {o : Oper} {a : Act} {w : World} {Q : Exit → Act → World → Prop} (hgd : o.guard = none) (x : Operand) (ho : o.op = .load 26 x)
    (g : Nat) (hx : a.eval x = .pointer (some ⟨g, 0, none⟩)) (l : List UInt8) (hl : l.length = 33) (hg : w.heap[g]? = some (.cells (vb l).toArray 26))
    (h : wpList Tryd.prog ops Q rest (a.put o.dst (idV l)) w) : wpList Tryd.prog ops Q (o :: rest) a w :=
  wpList_load_row hgd _ x ho g hx _ (vb l).toArray (0, 0) _ hg Tryd.underlying26 rfl (by rw [vb_size, hl]; exact cells_id) h
/-- A name goes into a block of noughts that was laid out a moment ago. -/
theorem wp_fill_id {ops : Array Oper} {rest : List Oper} {o : Oper} {a : Act} {W w : World} {Q : Exit → Act → World → Prop} (hgd : o.guard = none) (x y : Operand) (ho : o.op = .store 26 x y)
    (hW : W = w.alloc (.cells (vb (zer 33)).toArray 26))
    (hx : a.eval x = .pointer (some ⟨w.heap.size, 0, none⟩)) (l : List UInt8) (hl : l.length = 33) (hy : a.eval y = idV l)
    (h : wpList Tryd.prog ops Q rest (a.put o.dst undef) (w.alloc (.cells (vb l).toArray 26))) : wpList Tryd.prog ops Q (o :: rest) a W := by
  subst hW
  exact wp_fill_row cells_id hgd x y ho _ (by rw [vb_size, zer_length]) _ hx hy (by rw [vb_size, hl]) (id_one l) h
/-- A name goes into a block. -/
theorem wp_put_id {ops : Array Oper} {rest : List Oper} {o : Oper} {a : Act} {w : World} {Q : Exit → Act → World → Prop} (hgd : o.guard = none) (x y : Operand) (ho : o.op = .store 26 x y)
    (g : Nat) (hx : a.eval x = .pointer (some ⟨g, 0, none⟩)) (l : List UInt8) (hl : l.length = 33) (hy : a.eval y = idV l) (old : List UInt8) (hold : old.length = 33) (hg : w.heap[g]? = some (.cells (vb old).toArray 26))
    (h : ∀ w', w'.heap[g]? = some (.cells (vb l).toArray 26) → w.grownBy w' (some g) → wpList Tryd.prog ops Q rest (a.put o.dst undef) w') : wpList Tryd.prog ops Q (o :: rest) a w :=
  wp_put_row cells_id hgd x y ho g hx hy (by rw [vb_size, hl]) (id_one l) _ (by rw [vb_size, hold]) _ hg h

/-- What a call answers out of a block of its own. -/
theorem ret_id {fn : Func} {p : Tmp} (hf : fn.results = #[.cell p 26]) (tmps : Array Value) (w : World) (g : Nat) (l : List UInt8) (hl : l.length = 33)
    (hp : tmps.getD p undef = .pointer (some ⟨g, 0, none⟩)) (hg : w.heap[g]? = some (.cells (vb l).toArray 26)) : (results fn tmps).run Tryd.prog w = .ok (idV l) w :=
  results_cell_row hf tmps w g _ (vb l).toArray (0, 0) _ hp hg Tryd.underlying26 rfl (by rw [vb_size, hl]; exact cells_id)

set_option maxRecDepth 100000 in
set_option maxHeartbeats 800000 in
theorem size_any (k : UInt8) (w : World) : Calls Tryd.prog 9 #[.int .u8 k.toNat] w fun e w' => e = .returned (.int .i64 (sizeI k : Nat)) ∧ w = w' := by
  have hk := k.toNat_lt
  have hq : sizeI k = if k.toNat = 1 then 8 else if k.toNat = 2 then 32 else 0 := rfl
  generalize k.toNat = n at hk hq
  have HQ := Lib.hid hq
  clear hq
  by_cases h1 : n = 1
  · subst h1
    go_enter Tryd.func9, Tryd.ntmps9
    go_wp2
    go_ret
    exact ⟨by rw [HQ.out]; rfl, rfl⟩
  · by_cases h2 : n = 2
    · subst h2
      go_enter Tryd.func9, Tryd.ntmps9
      go_wp2
      go_ret
      exact ⟨by rw [HQ.out]; rfl, rfl⟩
    · have e1 : ((n : Int) == 1) = false := by simp; omega
      have e2 : ((n : Int) == 2) = false := by simp; omega
      go_enter Tryd.func9, Tryd.ntmps9
      go_wp2
      go_ret
      exact ⟨by rw [HQ.out, if_neg h1, if_neg h2]; rfl, rfl⟩

set_option maxRecDepth 100000 in
set_option maxHeartbeats 800000 in
theorem rsize_any (k : UInt8) (w : World) : Calls Tryd.prog 10 #[.int .u8 k.toNat] w fun e w' => e = .returned (.int .i64 (sizeI k : Nat)) ∧ w = w' := by
  have hk := k.toNat_lt
  have hq : sizeI k = if k.toNat = 1 then 8 else if k.toNat = 2 then 32 else 0 := rfl
  generalize k.toNat = n at hk hq
  have HQ := Lib.hid hq
  clear hq
  by_cases h1 : n = 1
  · subst h1
    go_enter Tryd.func10, Tryd.ntmps10
    go_wp2
    go_ret
    exact ⟨by rw [HQ.out]; rfl, rfl⟩
  · by_cases h2 : n = 2
    · subst h2
      go_enter Tryd.func10, Tryd.ntmps10
      go_wp2
      go_ret
      exact ⟨by rw [HQ.out]; rfl, rfl⟩
    · have e1 : ((n : Int) == 1) = false := by simp; omega
      have e2 : ((n : Int) == 2) = false := by simp; omega
      go_enter Tryd.func10, Tryd.ntmps10
      go_wp2
      go_ret
      exact ⟨by rw [HQ.out, if_neg h1, if_neg h2]; rfl, rfl⟩

set_option maxRecDepth 100000 in
set_option maxHeartbeats 1600000 in
theorem named_any (k : UInt8) (v : Value) (bs : List UInt8) (w : World) (h : Sl w w.heap.size v bs) : Calls Tryd.prog 21 #[.int .u8 k.toNat, v] w (Gives (idV (k :: pad32 bs)) w) := by
  have H := Lib.hid h
  obtain ⟨A, c, rfl, _, _⟩ := h.len
  clear h
  go_enter Tryd.func21, Tryd.ntmps21
  go_wp2_with (first
    | (refine wp_alloc_row zero_id rfl rfl ?_)
    | (refine wp_build_row rfl _ rfl _ (built_id k.toNat) rfl ?_)
    | (refine wp_fill_id rfl _ _ rfl rfl (by simp [Act.eval, Act.put]) (k :: zer 32) (by simp [zer_length]) rfl ?_)
    | (refine wp_copy_in rfl _ _ rfl (w.heap.size + 1) 1 32 32 (vb (k :: zer 32)) 26 (by rw [← asz w (.cells (vb (zer 33)).toArray 26)]; exact heap_alloc_new _ _) (by simp [vb_length, zer_length]) rfl _ w.heap.size bs rfl (H.out.below (((Below.refl _ _).alloc (Nat.le_refl _) _).alloc (by simp) _)) ?hK))
  intro w3 hr3 hg3
  rw [laid_id] at hr3
  have hl := pad32_length bs
  obtain ⟨X, hX⟩ : ∃ X, pad32 bs = X := ⟨_, rfl⟩
  rw [hX] at hr3 hl
  have HX := Lib.hid hX
  have hs3 := hg3.size
  rw [asz, asz] at hs3
  have hr4 : w3.heap[w.heap.size]? = some (.cells (vb (zer 33)).toArray 26) := by
    rw [hg3.block _ (by rw [asz, asz]; omega) (by simp)]
    rw [heap_alloc_old _ _ (by rw [asz]; omega)]
    exact heap_alloc_new _ _
  have hb3 : Below w.heap.size w w3 := (((Below.refl _ _).alloc (Nat.le_refl _) _).alloc (by simp) _).grown hg3 (by rw [asz, asz]; omega) (fun k hk => by injection hk with hk; omega)
  have HL := Lib.hid hl
  have HR := Lib.hid hr3
  have HR4 := Lib.hid hr4
  have HB := Lib.hid hb3
  clear hX hl hr3 hr4 hb3 hg3 hs3
  go_wp2_with (first
    | (refine wp_load_id rfl _ rfl (w.heap.size + 1) rfl (k :: X) (by rw [List.length_cons, HL.out]) HR.out ?_)
    | (refine wp_put_id rfl _ _ rfl w.heap.size rfl (k :: X) (by rw [List.length_cons, HL.out]) rfl (zer 33) (zer_length _) HR4.out ?hK2))
  intro w5 hr5 hg5
  have hb5 := HB.out.grown hg5 (by have := HB.out.size; omega) (fun k hk => by injection hk with hk; omega)
  go_wp2_with fail
  exact bodyPost_ret (v := idV (k :: X)) (ret_id Tryd.results21 _ _ w.heap.size (k :: X) (by rw [List.length_cons, HL.out]) rfl hr5) rfl ⟨by rw [HX.out], hb5⟩

end Go.Proofs.YtflgokbkkoobkaaDoor.Cd
