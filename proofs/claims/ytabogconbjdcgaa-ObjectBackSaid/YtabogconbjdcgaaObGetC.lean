/-
  object.getCommit. Conditions: none.
-/
import Derived.Test.YtabogconbjdcgaaObTop
import Derived.Test.YtabogconbjdcgaaObCells
import Derived.Test.YtabogconbjdcgaaObGets
import Derived.Test.YtabogconbjdcgaaObPutC
import Derived.Deep.RegionLaw
import Derived.Deep.DeepMust
namespace Go.Proofs.Ytabogconbjdcgaa.Cd
open Go.RowKit

theorem shape_cm : shapeOf Try.prog 44 = some (.agg (vb (zer 33) ++ [Value.slice none 0 0, Value.string ByteArray.empty, Value.int .i64 0]).toArray, [(0, 33), (33, 1), (34, 1), (35, 1)]) := by kernel_rfl
/-- A commit of a root alone. -/
def cm0 (i : Idn) : Cmt := ⟨i, [], [], 0⟩
theorem zero_cm (W : World) : (zeroValue 44).run Try.prog W = .ok (.agg (cmC (cm0 idZ) (.slice none 0 0)).toArray) W := by kernel_rfl
theorem size_cm : (Try.prog.info? 44).map (·.size) = some 36 := by kernel_rfl
theorem built_cm (i : Idn) : Try.prog.built 44 [(0, idV i.1)] = some (cmC (cm0 i) (.slice none 0 0)).toArray := by
  have hl : (vb i.1).length = 33 := by rw [vb_length, i.2]
  rw [built_shape shape_cm, fill_laid (off := 0) (size := 33) rfl (vb i.1) rfl hl (by simp [Value.cells, vb_length, zer_length])]
  have h := laid_mid [] (vb (zer 33)) [Value.slice none 0 0, Value.string ByteArray.empty, Value.int .i64 0] (vb i.1) (by rw [hl, vb_length, zer_length])
  simp only [List.nil_append, List.length_nil] at h
  show some (laid (vb (zer 33) ++ [Value.slice none 0 0, Value.string ByteArray.empty, Value.int .i64 0]) 0 (vb i.1)).toArray = _
  rw [h]
  rfl
theorem built_cm0 : Try.prog.built 44 [] = some (cmC (cm0 idZ) (.slice none 0 0)).toArray := by kernel_rfl
theorem wp_build_cm {ops : Array Oper} {rest : List Oper} {o : Oper} {a : Act} {w : World} {Q : Exit → Act → World → Prop} (hgd : o.guard = none) (y : Operand) (ho : o.op = .build 44 #[(0, y)])
    (i : Idn) (hy : a.eval y = idV i.1)
    (h : wpList Try.prog ops Q rest (a.put o.dst (.agg (cmC (cm0 i) (.slice none 0 0)).toArray)) w) : wpList Try.prog ops Q (o :: rest) a w :=
  wp_build_row hgd _ ho _ (built_cm i) (by simp [hy]) h

theorem cmC_ok (c : Cmt) (A : Option Addr) (n m : Nat) : ∀ u ∈ (cmC c (.slice A n m)).toArray.toList, u.oneCell' = true := fun u hu => cmC_one c _ rfl u (by simpa using hu)
theorem cmC_size (c : Cmt) (vi : Value) : (cmC c vi).toArray.size = 36 := by simp [cmC_len]
theorem wp_fill_cm {ops : Array Oper} {rest : List Oper} {o : Oper} {a : Act} {W w : World} {Q : Exit → Act → World → Prop} (hgd : o.guard = none) (x y : Operand) (ho : o.op = .store 44 x y)
    (c0 : Cmt) (v0 : Value) (hW : W = w.alloc (.cells (cmC c0 v0).toArray 44))
    (hx : a.eval x = .pointer (some ⟨w.heap.size, 0, none⟩)) (c : Cmt) (A : Option Addr) (n m : Nat) (hy : a.eval y = .agg (cmC c (.slice A n m)).toArray)
    (h : wpList Try.prog ops Q rest (a.put o.dst undef) (w.alloc (.cells (cmC c (.slice A n m)).toArray 44))) : wpList Try.prog ops Q (o :: rest) a W := by
  subst hW
  exact wp_fill_row size_cm hgd x y ho _ (cmC_size _ _) _ hx hy (cmC_size _ _) (cmC_ok c A n m) h
theorem wp_put_cm {ops : Array Oper} {rest : List Oper} {o : Oper} {a : Act} {w : World} {Q : Exit → Act → World → Prop} (hgd : o.guard = none) (x y : Operand) (ho : o.op = .store 44 x y)
    (g : Nat) (hx : a.eval x = .pointer (some ⟨g, 0, none⟩)) (c : Cmt) (A : Option Addr) (n m : Nat) (hy : a.eval y = .agg (cmC c (.slice A n m)).toArray) (c0 : Cmt) (v0 : Value) (hg : ComAt w g c0 v0)
    (h : ∀ w', ComAt w' g c (.slice A n m) → w.grownBy w' (some g) → wpList Try.prog ops Q rest (a.put o.dst undef) w') : wpList Try.prog ops Q (o :: rest) a w :=
  wp_put_row size_cm hgd x y ho g hx hy (cmC_size _ _) (cmC_ok c A n m) _ (cmC_size _ _) _ hg h
theorem ret_cm {fn : Func} {p : Tmp} (hf : fn.results = #[.cell p 44]) (tmps : Array Value) (w : World) (g : Nat) (c : Cmt) (vi : Value)
    (hp : tmps.getD p undef = .pointer (some ⟨g, 0, none⟩)) (hg : ComAt w g c vi) : (results fn tmps).run Try.prog w = .ok (.agg (cmC c vi).toArray) w := by
  have hp' : tmps[p]?.getD undef = .pointer (some ⟨g, 0, none⟩) := by simpa using hp
  have hld := run_loadVar_row (P := Try.prog) w g _ 44 _ _ _ hg Try.underlying44 rfl (by rw [cmC_size]; exact size_cm)
  simp [results, hf, hp', asAddr, hld]
theorem ret_cm2 {fn : Func} {p q : Tmp} (hf : fn.results = #[.cell p 44, .tmp q]) (tmps : Array Value) (w : World) (g : Nat) (c : Cmt) (vi : Value) (x : Value)
    (hp : tmps.getD p undef = .pointer (some ⟨g, 0, none⟩)) (hg : ComAt w g c vi) (hq : tmps.getD q undef = x) : (results fn tmps).run Try.prog w = .ok (.tuple #[.agg (cmC c vi).toArray, x]) w := by
  have hp' : tmps[p]?.getD undef = .pointer (some ⟨g, 0, none⟩) := by simpa using hp
  have hq' : tmps[q]?.getD undef = x := by simpa using hq
  have hld := run_loadVar_row (P := Try.prog) w g _ 44 _ _ _ hg Try.underlying44 rfl (by rw [cmC_size]; exact size_cm)
  simp [results, hf, hp', hq', asAddr, hld]

section
variable {w : World} {g : Nat} {c : Cmt} {vi : Value}
theorem ComAt.frozen (h : ComAt w g c vi) (i : Nat) : w.frozen? ⟨g, i, none⟩ = false := by
  unfold ComAt at h
  simp [World.frozen?, h]
theorem cmC_set33 (v : Value) : (cmC c vi).set 33 v = cmC c v := by
  unfold cmC
  rw [List.set_append_right _ _ (by rw [vb_length, c.root.2]; omega), vb_length, c.root.2]
  rfl
theorem cmC_set34 (s : List UInt8) : (cmC c vi).set 34 (.string ⟨s.toArray⟩) = cmC ⟨c.root, c.is, s, c.num⟩ vi := by
  unfold cmC
  rw [List.set_append_right _ _ (by rw [vb_length, c.root.2]; omega), vb_length, c.root.2]
  rfl
theorem cmC_set35 (n : Int) : (cmC c vi).set 35 (.int .i64 n) = cmC ⟨c.root, c.is, c.note, n⟩ vi := by
  unfold cmC
  rw [List.set_append_right _ _ (by rw [vb_length, c.root.2]; omega), vb_length, c.root.2]
  rfl
theorem ComAt.set33 (h : ComAt w g c vi) (v : Value) : ComAt (w.setCell ⟨g, 33, none⟩ v) g c v := by
  have := heap_setCell_same w g 33 _ _ v h
  rw [List.setIfInBounds_toArray, cmC_set33] at this
  exact this
theorem ComAt.set34 (h : ComAt w g c vi) (s : List UInt8) : ComAt (w.setCell ⟨g, 34, none⟩ (.string ⟨s.toArray⟩)) g ⟨c.root, c.is, s, c.num⟩ vi := by
  have := heap_setCell_same w g 34 _ _ (.string ⟨s.toArray⟩) h
  rw [List.setIfInBounds_toArray, cmC_set34] at this
  exact this
theorem ComAt.set35 (h : ComAt w g c vi) (n : Int) : ComAt (w.setCell ⟨g, 35, none⟩ (.int .i64 n)) g ⟨c.root, c.is, c.note, n⟩ vi := by
  have := heap_setCell_same w g 35 _ _ (.int .i64 n) h
  rw [List.setIfInBounds_toArray, cmC_set35] at this
  exact this
theorem ComAt.far {w' : World} {g' : Nat} (h : ComAt w g c vi) (hg : w.grownBy w' (some g')) (hne : g ≠ g') : ComAt w' g c vi := (hg.block g h.lt (fun e => hne (by injection e))).trans h
/-- What the parents are does not show in the cells. -/
theorem ComAt.as (h : ComAt w g c vi) (is : List Idn) : ComAt w g ⟨c.root, is, c.note, c.num⟩ vi := h
end

/-- What getCommit leaves. -/
def GotC (w : World) (g : Nat) (c : Cmt) (bs : List UInt8) (bad : Bool) (e : Ending) (w' : World) : Prop := ∃ A n m, e = .returned (.agg (cmC c (.slice A n m)).toArray) ∧ OwnRw iiC 33 41 w' w.heap.size (.slice A n m) c.is ∧ Left w g bs bad w'

set_option maxRecDepth 100000 in
set_option maxHeartbeats 3200000 in
theorem getcm_any (g : Nat) (b : List UInt8) (w : World) (hr : Rd w g (gbB false b) (gbX false b)) (hs : b.length ≤ 100000) :
    Calls Try.prog 48 #[.pointer (some ⟨g, 0, none⟩)] w (GotC w g (rdC b) (rdB b) (rdX b)) := by
  have hg0 := hr.lt
  have hr1 : Rd (w.alloc (.cells (cmC (cm0 idZ) (.slice none 0 0)).toArray 44)) g (gbB false b) (gbX false b) := hr.on (new_below _ _)
  have hc1 : ComAt (w.alloc (.cells (cmC (cm0 idZ) (.slice none 0 0)).toArray 44)) w.heap.size (cm0 idZ) (.slice none 0 0) := ComAt.new _ _ _
  have hz1 : (w.alloc (.cells (cmC (cm0 idZ) (.slice none 0 0)).toArray 44)).heap.size = w.heap.size + 1 := asz _ _
  have hw1 : w.grownBy (w.alloc (.cells (cmC (cm0 idZ) (.slice none 0 0)).toArray 44)) (some g) := grown_of _ (new_below _ _)
  have hl1 : (gbB false b).length ≤ 100000 := Nat.le_trans (tkB_len _ _ _) hs
  have hl2 : (gbB (gbX false b) (gbB false b)).length ≤ 100000 := Nat.le_trans (tkB_len _ _ _) hl1
  have HGB := Lib.hid (fun W h => getb_any g (gbB false b) (gbX false b) W h (sane_gb _ _) (by omega))
  have HGN := Lib.hid (fun W h => getn_any g (gbB (gbX false b) (gbB false b)) (gbX (gbX false b) (gbB false b)) W h (sane_gb _ _) (by omega))
  have hcb := byte_lt (gbV (gbX false b) (gbB false b))
  have h0l := gn_len (gbX (gbX false b) (gbB false b)) (gbB (gbX false b) (gbB false b))
  have hsn0 : Sane (rd0 b).bad (rd0 b).bs := sane_gn _ _
  have e1 : gnB (gbX (gbX false b) (gbB false b)) (gbB (gbX false b) (gbB false b)) = (rd0 b).bs := rfl
  have e2 : gnX (gbX (gbX false b) (gbB false b)) (gbB (gbX false b) (gbB false b)) = (rd0 b).bad := rfl
  have e3 : gnV (gbX (gbX false b) (gbB false b)) (gbB (gbX false b) (gbB false b)) = rdR b := rfl
  have e4 : rdI b = atI (rd0 b) (gbV (gbX false b) (gbB false b)).toNat := rfl
  have e5 : rdC b = ⟨rdR b, (rdI b).l, txV 32 (rdI b).bs, inV 1 1024 (txB 32 (rdI b).bs)⟩ := rfl
  have e6 : rdB b = inB 1 1024 (txB 32 (rdI b).bs) := rfl
  have e7 : rdX b = inX 1 1024 (txB 32 (rdI b).bs) := rfl
  have e8 : (rd0 b).l = [] := rfl
  rw [e1, e2, e3] at HGN
  rw [e1] at h0l
  generalize (gbV (gbX false b) (gbB false b)).toNat = n at *
  generalize gbB (gbX false b) (gbB false b) = b2 at *
  generalize gbX (gbX false b) (gbB false b) = x2 at *
  generalize gbB false b = b1 at *
  generalize gbX false b = x1 at *
  generalize rdC b = C at *
  generalize rdB b = CB at *
  generalize rdX b = CX at *
  generalize rdI b = I at *
  generalize rdR b = root at *
  generalize rd0 b = s0 at *
  subst e4 e5 e6 e7
  have hsl : s0.bs.length ≤ 100000 := by omega
  have HSN := Lib.hid hsn0
  have HL0 := Lib.hid e8
  have H1 := Lib.hid hr1
  have HC1 := Lib.hid hc1
  have HW1 := Lib.hid hw1
  have HZ1 := Lib.hid hz1
  clear hsn0 e1 e2 e3 e8 hr1 hc1 hw1 hz1 hr h0l hl1 hl2 hs
  go_enter Try.func48, Try.ntmps48
  go_wp2_with (refine wp_alloc_row zero_cm rfl rfl ?_)
  generalize w.alloc (.cells (cmC (cm0 idZ) (.slice none 0 0)).toArray 44) = w1 at *
  refine (HGB.out _ H1.out).mono ?_
  rintro e w2 ⟨rfl, hl2⟩
  have HR2 := Lib.hid hl2.1
  have hz1 : w1.heap.size = w.heap.size + 1 := HZ1.out
  have HC2 : Hid (ComAt w2 w.heap.size (cm0 idZ) (.slice none 0 0)) := HC1.out.far hl2.2 (by omega)
  have HW2 := Lib.hid (grown_then HW1.out hl2.2)
  have hz2 := hl2.2.size
  clear hl2
  go_wp2_with fail
  refine (HGN.out _ HR2.out).mono ?_
  rintro e w3 ⟨rfl, hl3⟩
  have HR3 := Lib.hid hl3.1
  have HC3 : Hid (ComAt w3 w.heap.size (cm0 idZ) (.slice none 0 0)) := HC2.out.far hl3.2 (by omega)
  have HW3 := Lib.hid (grown_then HW2.out hl3.2)
  have hz3 := hl3.2.size
  clear hl3
  have HD4 : Hid (ComAt (w3.alloc (.cells (cmC (cm0 root) (.slice none 0 0)).toArray 44)) w3.heap.size (cm0 root) (.slice none 0 0)) := ComAt.new _ _ _
  have hb4 : Below w3.heap.size w3 (w3.alloc (.cells (cmC (cm0 root) (.slice none 0 0)).toArray 44)) := new_below _ _
  have hz4 : (w3.alloc (.cells (cmC (cm0 root) (.slice none 0 0)).toArray 44)).heap.size = w3.heap.size + 1 := asz _ _
  have HR4 := Lib.hid (HR3.out.on hb4)
  have HC4 := Lib.hid (HC3.out.below hb4 (by omega))
  have HW4 := Lib.hid (grown_on HW3.out hb4)
  clear hb4
  go_wp2_with (first
    | (refine wp_alloc_row zero_cm rfl rfl ?_)
    | (refine wp_build_cm rfl _ rfl root rfl ?_)
    | (refine wp_fill_cm rfl _ _ rfl _ _ rfl (by simp [Act.eval, Act.put]) (cm0 root) none 0 0 rfl ?_))
  generalize w3.alloc (.cells (cmC (cm0 root) (.slice none 0 0)).toArray 44) = w4 at *
  obtain ⟨G, hG⟩ : ∃ x, w3.heap.size = x := ⟨_, rfl⟩
  rw [hG] at HD4 hz4 ⊢
  have hG2 : w.heap.size + 1 ≤ G := by omega
  clear HR2 HC2 HW2 HR3 HC3 HW3 H1 HC1 HW1
  go_loopw [11] (fun i wr => ∃ (k : Nat) (A : Option Addr) (nn m : Nat), i = .int .u8 k ∧ k ≤ n ∧ Hid (OwnRw iiC 33 41 wr (G + 1) (.slice A nn m) (atI s0 k).l) ∧ Hid (ComAt wr G (cm0 root) (.slice A nn m)) ∧ Hid (ComAt wr w.heap.size (cm0 idZ) (.slice none 0 0)) ∧ Hid (Rd wr g (atI s0 k).bs (atI s0 k).bad) ∧ Hid (w.grownBy wr (some g)) ∧ G + 1 ≤ wr.heap.size) (fun i _ => n - (intOf i).toNat)
  case atStart => exact ⟨0, none, 0, 0, rfl, by omega, (by unfold Hid; show OwnRw _ _ _ _ _ _ s0.l; rw [HL0.out]; exact OwnRw.nil _ _), HD4.out, HC4.out, HR4.out, HW4.out, by omega⟩
  case round =>
    clear HR4 HC4 HW4 HD4
    obtain ⟨k, A, nn, m, rfl, hk, ho, hcg, hcz, hrd, hw, hsz⟩ := hrel
    have hsq := sane_atI HSN.out k
    have hlq := len_atI s0 k
    have hl0 : s0.l.length = 0 := by rw [HL0.out]; rfl
    have hlk : (atI s0 k).l.length ≤ 256 := by omega
    have hlb : (atI s0 k).bs.length ≤ 100000 := by omega
    by_cases hlt : k < n
    · have hnx : Hid (atI s0 (k + 1) = ⟨(atI s0 k).l ++ [gnV (atI s0 k).bad (atI s0 k).bs], gnB (atI s0 k).bad (atI s0 k).bs, gnX (atI s0 k).bad (atI s0 k).bs⟩) := rfl
      generalize atI s0 k = q at *
      obtain ⟨l, bb, x⟩ := q
      simp only at *
      have HT := Lib.hid (fun W h => getn_any g bb x W h hsq (by omega))
      generalize gnV x bb = y at *
      generalize gnB x bb = bb2 at *
      generalize gnX x bb = xx2 at *
      clear hsq hlq
      go_wp2_with fail
      obtain ⟨W0, hW0⟩ : ∃ x, wr.drew = x := ⟨_, rfl⟩
      have HG0 : Hid (ComAt W0 G (cm0 root) (.slice A nn m)) := by rw [← hW0]; exact hcg.out
      have HO0 : Hid (OwnRw iiC 33 41 W0 (G + 1) (.slice A nn m) l) := by rw [← hW0]; exact ho.out.drew
      have HZ0 : Hid (ComAt W0 w.heap.size (cm0 idZ) (.slice none 0 0)) := by rw [← hW0]; exact hcz.out
      have HR0 : Hid (Rd W0 g bb x) := by rw [← hW0]; exact hrd.out.drew
      have HW0 : Hid (w.grownBy W0 (some g)) := by rw [← hW0]; exact grown_on hw.out ⟨rfl, rfl, rfl, Nat.le_refl _, fun _ _ => rfl⟩
      have hsz0 : G + 1 ≤ W0.heap.size := by rw [← hW0]; simpa using hsz
      clear ho hcg hcz hrd hw
      refine region_begin hW0 (S := fun _ => True) (by kernel_rfl) trivial (fun _ => ?_)
      clear hW0
      refine take_at (i := 0) (.pointer (some ⟨G, 33, none⟩)) (some 13) (by decide) (by rfl) (by kernel_rfl) (by kernel_rfl) (by kernel_rfl) (fun _ _ _ h => h) (by rfl) (fun W hW => by go_simp) (by assumption) ?_
      try simp only [Act.put, List.setIfInBounds_toArray, List.set_cons_zero, List.set_cons_succ]
      refine take_at (i := 2) (.pointer (some ⟨g, 0, none⟩)) (some 15) (by decide) (by rfl) (by kernel_rfl) (by kernel_rfl) (by kernel_rfl) (fun _ _ _ h => h) (by rfl) (fun W hW => by go_simp) (by assumption) ?_
      try simp only [Act.put, List.setIfInBounds_toArray, List.set_cons_zero, List.set_cons_succ]
      refine wpAnyH_ready (rs := [1, 3]) (by kernel_rfl) (by simp) ?_
      refine come (i := 1) (.slice A nn m) W0 (some 14) (by decide) (by rfl) (by rfl) (by have := HG0.out.is; go_simp) trivial ?_ ?_
      · try simp only [Act.put, List.setIfInBounds_toArray, List.set_cons_zero, List.set_cons_succ]
        refine wpAnyH_ready (rs := [3]) (by kernel_rfl) (by simp) ?_
        refine AllReadyH.cons (Array.getElem?_eq_getElem (i := 3) (by decide)) (fun K9 hK => ?_) AllReadyH.nil
        go_simp
        refine (HT.out _ HR0.out).mono ?_
        rintro e w5 ⟨rfl, hl5⟩
        have HG5 := Lib.hid (HG0.out.far hl5.2 (by omega))
        have HR5 := Lib.hid hl5.1
        have HW5 := Lib.hid (grown_then HW0.out hl5.2)
        have HO5 := Lib.hid (HO0.out.far hl5.2 (by omega))
        have HZ5 := Lib.hid (HZ0.out.far hl5.2 (by omega))
        have hs5 : G + 1 ≤ w5.heap.size := Nat.le_trans hsz0 hl5.2.size
        clear hl5
        refine hK.out _ _ trivial (fun _ => ?_)
        clear hK K9
        try simp only [Act.put, List.setIfInBounds_toArray, List.set_cons_zero, List.set_cons_succ]
        refine wpAnyH_ready (rs := [4]) (by kernel_rfl) (by simp) ?_
        refine AllReadyH.cons (Array.getElem?_eq_getElem (i := 4) (by decide)) (fun K9 hK => ?_) AllReadyH.nil
        refine step_one kind_ii (by omega) rfl _ rfl y rfl ?_
        have HG6 := Lib.hid (HG5.out.below (new_below w5 (.cells (iiC y).toArray 41)) (by omega))
        have HR6 := Lib.hid (HR5.out.on (new_below w5 (.cells (iiC y).toArray 41)))
        have HZ6 := Lib.hid (HZ5.out.below (new_below w5 (.cells (iiC y).toArray 41)) (by omega))
        have HW6 := Lib.hid (grown_on HW5.out (new_below w5 (.cells (iiC y).toArray 41)))
        have HO6 := Lib.hid (HO5.out.alloc (.cells (iiC y).toArray 41))
        have HY6 := Lib.hid (rw_one kind_ii w5 y 41 _ rfl)
        have hs6 : G + 1 ≤ (w5.alloc (.cells (iiC y).toArray 41)).heap.size := by rw [asz]; omega
        generalize w5.alloc (.cells (iiC y).toArray 41) = w6 at *
        refine hK.out _ _ trivial (fun _ => ?_)
        clear hK K9
        try simp only [Act.put, List.setIfInBounds_toArray, List.set_cons_zero, List.set_cons_succ]
        refine wpAnyH_ready (rs := [5]) (by kernel_rfl) (by simp) ?_
        refine AllReadyH.cons (Array.getElem?_eq_getElem (i := 5) (by decide)) (fun K9 hK => ?_) AllReadyH.nil
        refine step_append_rw kind_ii rfl _ _ rfl rfl HO6.out (by omega) _ _ [y] rfl HY6.out (by simp only [List.length_singleton]; omega) ?_
        intro v7 w7 ho7 hb7 _
        have HG7 := Lib.hid (HG6.out.below hb7 (by omega))
        have HR7 := Lib.hid (HR6.out.below hb7 (by omega))
        have HZ7 := Lib.hid (HZ6.out.below hb7 (by omega))
        have HW7 := Lib.hid (grown_low HW6.out hb7 (by omega))
        have hs7 : G + 1 ≤ w7.heap.size := Nat.le_trans hs6 hb7.size
        obtain ⟨A7, m7, e7⟩ : ∃ A m, v7 = .slice A (l ++ [y]).length m := by
          obtain ⟨A, c, e, _⟩ := (ho7.rwIn kind_ii).len
          exact ⟨A, c, e⟩
        obtain ⟨n7, hn7⟩ : ∃ x, (l ++ [y]).length = x := ⟨_, rfl⟩
        rw [hn7] at e7
        subst e7
        have HO7 := Lib.hid ho7
        clear hb7 ho7 hn7
        refine hK.out _ _ trivial (fun _ => ?_)
        clear hK K9
        try simp only [Act.put, List.setIfInBounds_toArray, List.set_cons_zero, List.set_cons_succ]
        refine take_at (i := 6) (.pointer (some ⟨G, 33, none⟩)) (some 19) (by decide) (by rfl) (by kernel_rfl) (by kernel_rfl) (by kernel_rfl) (fun _ _ _ h => h) (by rfl) (fun W hW => by go_simp) (by assumption) ?_
        try simp only [Act.put, List.setIfInBounds_toArray, List.set_cons_zero, List.set_cons_succ]
        refine wpAnyH_ready (rs := [7]) (by kernel_rfl) (by simp) ?_
        refine AllReadyH.cons (Array.getElem?_eq_getElem (i := 7) (by decide)) (fun K9 hK => ?_) AllReadyH.nil
        have d7 := HG7.out.is
        have f7 := HG7.out.frozen 33
        go_simp
        have HG8 := Lib.hid (HG7.out.set33 (.slice A7 n7 m7))
        have HO8 := Lib.hid (HO7.out.put ⟨G, 33, none⟩ (.slice A7 n7 m7) (by show G < G + 1; omega))
        have HR8 := Lib.hid (HR7.out.other ⟨G, 33, none⟩ (.slice A7 n7 m7) (by show g ≠ G; omega))
        have HZ8 : Hid (ComAt (w7.setCell ⟨G, 33, none⟩ (.slice A7 n7 m7)) w.heap.size (cm0 idZ) (.slice none 0 0)) := (heap_setCell_other _ _ _ _ (by show w.heap.size ≠ G; omega)).trans HZ7.out
        have HW8 := Lib.hid (grown_new HW7.out (grown_set w7 G 33 (.slice A7 n7 m7)) (by omega))
        have hs8 : G + 1 ≤ (w7.setCell ⟨G, 33, none⟩ (.slice A7 n7 m7)).heap.size := by simpa using hs7
        clear d7 f7 HG7 HO7 HR7 HZ7 HW7
        generalize w7.setCell ⟨G, 33, none⟩ (.slice A7 n7 m7) = w8 at *
        refine hK.out _ _ trivial (fun _ => ?_)
        clear hK K9
        try simp only [Act.put, List.setIfInBounds_toArray, List.set_cons_zero, List.set_cons_succ]
        refine wpAnyH_done (by kernel_rfl) ?_ _
        try simp only [Act.put, List.setIfInBounds_toArray, List.set_cons_zero, List.set_cons_succ]
        go_wp2_with fail
        go_roundw
        case rel => exact ⟨k + 1, A7, n7, m7, by go_num, by omega, by rw [hnx.out]; exact HO8.out, HG8.out, HZ8.out, by rw [hnx.out]; exact HR8.out, HW8.out, hs8⟩
        case measure => simp [intOf]; omega
      · refine AllReadyH.cons (Array.getElem?_eq_getElem (i := 3) (by decide)) (fun K9 hK => ?_) AllReadyH.nil
        go_simp
        refine (HT.out _ HR0.out).mono ?_
        rintro e w5 ⟨rfl, hl5⟩
        have HG5 := Lib.hid (HG0.out.far hl5.2 (by omega))
        have HR5 := Lib.hid hl5.1
        have HW5 := Lib.hid (grown_then HW0.out hl5.2)
        have HO5 := Lib.hid (HO0.out.far hl5.2 (by omega))
        have HZ5 := Lib.hid (HZ0.out.far hl5.2 (by omega))
        have hs5 : G + 1 ≤ w5.heap.size := Nat.le_trans hsz0 hl5.2.size
        clear hl5
        refine hK.out _ _ trivial (fun _ => ?_)
        clear hK K9
        try simp only [Act.put, List.setIfInBounds_toArray, List.set_cons_zero, List.set_cons_succ]
        refine wpAnyH_ready (rs := [1, 4]) (by kernel_rfl) (by simp) ?_
        refine come (i := 1) (.slice A nn m) w5 (some 14) (by decide) (by rfl) (by rfl) (by have := HG5.out.is; go_simp) trivial ?_ ?_
        · try simp only [Act.put, List.setIfInBounds_toArray, List.set_cons_zero, List.set_cons_succ]
          refine wpAnyH_ready (rs := [4]) (by kernel_rfl) (by simp) ?_
          refine AllReadyH.cons (Array.getElem?_eq_getElem (i := 4) (by decide)) (fun K9 hK => ?_) AllReadyH.nil
          refine step_one kind_ii (by omega) rfl _ rfl y rfl ?_
          have HG6 := Lib.hid (HG5.out.below (new_below w5 (.cells (iiC y).toArray 41)) (by omega))
          have HR6 := Lib.hid (HR5.out.on (new_below w5 (.cells (iiC y).toArray 41)))
          have HZ6 := Lib.hid (HZ5.out.below (new_below w5 (.cells (iiC y).toArray 41)) (by omega))
          have HW6 := Lib.hid (grown_on HW5.out (new_below w5 (.cells (iiC y).toArray 41)))
          have HO6 := Lib.hid (HO5.out.alloc (.cells (iiC y).toArray 41))
          have HY6 := Lib.hid (rw_one kind_ii w5 y 41 _ rfl)
          have hs6 : G + 1 ≤ (w5.alloc (.cells (iiC y).toArray 41)).heap.size := by rw [asz]; omega
          generalize w5.alloc (.cells (iiC y).toArray 41) = w6 at *
          refine hK.out _ _ trivial (fun _ => ?_)
          clear hK K9
          try simp only [Act.put, List.setIfInBounds_toArray, List.set_cons_zero, List.set_cons_succ]
          refine wpAnyH_ready (rs := [5]) (by kernel_rfl) (by simp) ?_
          refine AllReadyH.cons (Array.getElem?_eq_getElem (i := 5) (by decide)) (fun K9 hK => ?_) AllReadyH.nil
          refine step_append_rw kind_ii rfl _ _ rfl rfl HO6.out (by omega) _ _ [y] rfl HY6.out (by simp only [List.length_singleton]; omega) ?_
          intro v7 w7 ho7 hb7 _
          have HG7 := Lib.hid (HG6.out.below hb7 (by omega))
          have HR7 := Lib.hid (HR6.out.below hb7 (by omega))
          have HZ7 := Lib.hid (HZ6.out.below hb7 (by omega))
          have HW7 := Lib.hid (grown_low HW6.out hb7 (by omega))
          have hs7 : G + 1 ≤ w7.heap.size := Nat.le_trans hs6 hb7.size
          obtain ⟨A7, m7, e7⟩ : ∃ A m, v7 = .slice A (l ++ [y]).length m := by
            obtain ⟨A, c, e, _⟩ := (ho7.rwIn kind_ii).len
            exact ⟨A, c, e⟩
          obtain ⟨n7, hn7⟩ : ∃ x, (l ++ [y]).length = x := ⟨_, rfl⟩
          rw [hn7] at e7
          subst e7
          have HO7 := Lib.hid ho7
          clear hb7 ho7 hn7
          refine hK.out _ _ trivial (fun _ => ?_)
          clear hK K9
          try simp only [Act.put, List.setIfInBounds_toArray, List.set_cons_zero, List.set_cons_succ]
          refine take_at (i := 6) (.pointer (some ⟨G, 33, none⟩)) (some 19) (by decide) (by rfl) (by kernel_rfl) (by kernel_rfl) (by kernel_rfl) (fun _ _ _ h => h) (by rfl) (fun W hW => by go_simp) (by assumption) ?_
          try simp only [Act.put, List.setIfInBounds_toArray, List.set_cons_zero, List.set_cons_succ]
          refine wpAnyH_ready (rs := [7]) (by kernel_rfl) (by simp) ?_
          refine AllReadyH.cons (Array.getElem?_eq_getElem (i := 7) (by decide)) (fun K9 hK => ?_) AllReadyH.nil
          have d7 := HG7.out.is
          have f7 := HG7.out.frozen 33
          go_simp
          have HG8 := Lib.hid (HG7.out.set33 (.slice A7 n7 m7))
          have HO8 := Lib.hid (HO7.out.put ⟨G, 33, none⟩ (.slice A7 n7 m7) (by show G < G + 1; omega))
          have HR8 := Lib.hid (HR7.out.other ⟨G, 33, none⟩ (.slice A7 n7 m7) (by show g ≠ G; omega))
          have HZ8 : Hid (ComAt (w7.setCell ⟨G, 33, none⟩ (.slice A7 n7 m7)) w.heap.size (cm0 idZ) (.slice none 0 0)) := (heap_setCell_other _ _ _ _ (by show w.heap.size ≠ G; omega)).trans HZ7.out
          have HW8 := Lib.hid (grown_new HW7.out (grown_set w7 G 33 (.slice A7 n7 m7)) (by omega))
          have hs8 : G + 1 ≤ (w7.setCell ⟨G, 33, none⟩ (.slice A7 n7 m7)).heap.size := by simpa using hs7
          clear d7 f7 HG7 HO7 HR7 HZ7 HW7
          generalize w7.setCell ⟨G, 33, none⟩ (.slice A7 n7 m7) = w8 at *
          refine hK.out _ _ trivial (fun _ => ?_)
          clear hK K9
          try simp only [Act.put, List.setIfInBounds_toArray, List.set_cons_zero, List.set_cons_succ]
          refine wpAnyH_done (by kernel_rfl) ?_ _
          try simp only [Act.put, List.setIfInBounds_toArray, List.set_cons_zero, List.set_cons_succ]
          go_wp2_with fail
          go_roundw
          case rel => exact ⟨k + 1, A7, n7, m7, by go_num, by omega, by rw [hnx.out]; exact HO8.out, HG8.out, HZ8.out, by rw [hnx.out]; exact HR8.out, HW8.out, hs8⟩
          case measure => simp [intOf]; omega
        · refine AllReadyH.cons (Array.getElem?_eq_getElem (i := 4) (by decide)) (fun K9 hK => ?_) AllReadyH.nil
          refine step_one kind_ii (by omega) rfl _ rfl y rfl ?_
          have HG6 := Lib.hid (HG5.out.below (new_below w5 (.cells (iiC y).toArray 41)) (by omega))
          have HR6 := Lib.hid (HR5.out.on (new_below w5 (.cells (iiC y).toArray 41)))
          have HZ6 := Lib.hid (HZ5.out.below (new_below w5 (.cells (iiC y).toArray 41)) (by omega))
          have HW6 := Lib.hid (grown_on HW5.out (new_below w5 (.cells (iiC y).toArray 41)))
          have HO6 := Lib.hid (HO5.out.alloc (.cells (iiC y).toArray 41))
          have HY6 := Lib.hid (rw_one kind_ii w5 y 41 _ rfl)
          have hs6 : G + 1 ≤ (w5.alloc (.cells (iiC y).toArray 41)).heap.size := by rw [asz]; omega
          generalize w5.alloc (.cells (iiC y).toArray 41) = w6 at *
          refine hK.out _ _ trivial (fun _ => ?_)
          clear hK K9
          try simp only [Act.put, List.setIfInBounds_toArray, List.set_cons_zero, List.set_cons_succ]
          refine wpAnyH_ready (rs := [1]) (by kernel_rfl) (by simp) ?_
          refine come (i := 1) (.slice A nn m) w6 (some 14) (by decide) (by rfl) (by rfl) (by have := HG6.out.is; go_simp) trivial ?_ AllReadyH.nil
          try simp only [Act.put, List.setIfInBounds_toArray, List.set_cons_zero, List.set_cons_succ]
          refine wpAnyH_ready (rs := [5]) (by kernel_rfl) (by simp) ?_
          refine AllReadyH.cons (Array.getElem?_eq_getElem (i := 5) (by decide)) (fun K9 hK => ?_) AllReadyH.nil
          refine step_append_rw kind_ii rfl _ _ rfl rfl HO6.out (by omega) _ _ [y] rfl HY6.out (by simp only [List.length_singleton]; omega) ?_
          intro v7 w7 ho7 hb7 _
          have HG7 := Lib.hid (HG6.out.below hb7 (by omega))
          have HR7 := Lib.hid (HR6.out.below hb7 (by omega))
          have HZ7 := Lib.hid (HZ6.out.below hb7 (by omega))
          have HW7 := Lib.hid (grown_low HW6.out hb7 (by omega))
          have hs7 : G + 1 ≤ w7.heap.size := Nat.le_trans hs6 hb7.size
          obtain ⟨A7, m7, e7⟩ : ∃ A m, v7 = .slice A (l ++ [y]).length m := by
            obtain ⟨A, c, e, _⟩ := (ho7.rwIn kind_ii).len
            exact ⟨A, c, e⟩
          obtain ⟨n7, hn7⟩ : ∃ x, (l ++ [y]).length = x := ⟨_, rfl⟩
          rw [hn7] at e7
          subst e7
          have HO7 := Lib.hid ho7
          clear hb7 ho7 hn7
          refine hK.out _ _ trivial (fun _ => ?_)
          clear hK K9
          try simp only [Act.put, List.setIfInBounds_toArray, List.set_cons_zero, List.set_cons_succ]
          refine take_at (i := 6) (.pointer (some ⟨G, 33, none⟩)) (some 19) (by decide) (by rfl) (by kernel_rfl) (by kernel_rfl) (by kernel_rfl) (fun _ _ _ h => h) (by rfl) (fun W hW => by go_simp) (by assumption) ?_
          try simp only [Act.put, List.setIfInBounds_toArray, List.set_cons_zero, List.set_cons_succ]
          refine wpAnyH_ready (rs := [7]) (by kernel_rfl) (by simp) ?_
          refine AllReadyH.cons (Array.getElem?_eq_getElem (i := 7) (by decide)) (fun K9 hK => ?_) AllReadyH.nil
          have d7 := HG7.out.is
          have f7 := HG7.out.frozen 33
          go_simp
          have HG8 := Lib.hid (HG7.out.set33 (.slice A7 n7 m7))
          have HO8 := Lib.hid (HO7.out.put ⟨G, 33, none⟩ (.slice A7 n7 m7) (by show G < G + 1; omega))
          have HR8 := Lib.hid (HR7.out.other ⟨G, 33, none⟩ (.slice A7 n7 m7) (by show g ≠ G; omega))
          have HZ8 : Hid (ComAt (w7.setCell ⟨G, 33, none⟩ (.slice A7 n7 m7)) w.heap.size (cm0 idZ) (.slice none 0 0)) := (heap_setCell_other _ _ _ _ (by show w.heap.size ≠ G; omega)).trans HZ7.out
          have HW8 := Lib.hid (grown_new HW7.out (grown_set w7 G 33 (.slice A7 n7 m7)) (by omega))
          have hs8 : G + 1 ≤ (w7.setCell ⟨G, 33, none⟩ (.slice A7 n7 m7)).heap.size := by simpa using hs7
          clear d7 f7 HG7 HO7 HR7 HZ7 HW7
          generalize w7.setCell ⟨G, 33, none⟩ (.slice A7 n7 m7) = w8 at *
          refine hK.out _ _ trivial (fun _ => ?_)
          clear hK K9
          try simp only [Act.put, List.setIfInBounds_toArray, List.set_cons_zero, List.set_cons_succ]
          refine wpAnyH_done (by kernel_rfl) ?_ _
          try simp only [Act.put, List.setIfInBounds_toArray, List.set_cons_zero, List.set_cons_succ]
          go_wp2_with fail
          go_roundw
          case rel => exact ⟨k + 1, A7, n7, m7, by go_num, by omega, by rw [hnx.out]; exact HO8.out, HG8.out, HZ8.out, by rw [hnx.out]; exact HR8.out, HW8.out, hs8⟩
          case measure => simp [intOf]; omega
    · have hkn : k = n := by omega
      subst hkn
      generalize atI s0 k = q at *
      obtain ⟨l, bb, x⟩ := q
      simp only at *
      have HT1 := Lib.hid (fun W h => rtext_any g 32 bb x W h hsq (by omega) (by omega))
      have hlb2 := txB_len 32 bb
      have HT2 := Lib.hid (fun W h => rin_any g 1 1024 (txB 32 bb) (txX 32 bb) W h (Sane.tx 32 bb) (by omega))
      generalize txB 32 bb = b3 at *
      generalize txX 32 bb = x3 at *
      generalize txV 32 bb = note at *
      generalize inV 1 1024 b3 = num at *
      go_wp2_with fail
      refine (HT1.out _ hrd.out).mono ?_
      rintro e w5 ⟨rfl, hl5⟩
      have HG5 := Lib.hid (hcg.out.far hl5.2 (by omega))
      have HR5 := Lib.hid hl5.1
      have HW5 := Lib.hid (grown_then hw.out hl5.2)
      have HO5 := Lib.hid (ho.out.far hl5.2 (by omega))
      have HZ5 := Lib.hid (hcz.out.far hl5.2 (by omega))
      have hs5 : G + 1 ≤ w5.heap.size := Nat.le_trans hsz hl5.2.size
      clear hl5 hcg hrd hw ho hcz
      have d5 := HG5.out.note
      have f5 := HG5.out.frozen 34
      have HG6 := Lib.hid (HG5.out.set34 note)
      have HO6 := Lib.hid (HO5.out.put ⟨G, 34, none⟩ (.string ⟨note.toArray⟩) (by show G < G + 1; omega))
      have HR6 := Lib.hid (HR5.out.other ⟨G, 34, none⟩ (.string ⟨note.toArray⟩) (by show g ≠ G; omega))
      have HZ6 : Hid (ComAt (w5.setCell ⟨G, 34, none⟩ (.string ⟨note.toArray⟩)) w.heap.size (cm0 idZ) (.slice none 0 0)) := (heap_setCell_other _ _ _ _ (by show w.heap.size ≠ G; omega)).trans HZ5.out
      have HW6 := Lib.hid (grown_new HW5.out (grown_set w5 G 34 (.string ⟨note.toArray⟩)) (by omega))
      have hs6 : G + 1 ≤ (w5.setCell ⟨G, 34, none⟩ (.string ⟨note.toArray⟩)).heap.size := by simpa using hs5
      go_wp2_with fail
      clear d5 f5
      generalize w5.setCell ⟨G, 34, none⟩ (.string ⟨note.toArray⟩) = w6 at *
      refine (HT2.out _ HR6.out).mono ?_
      rintro e w7 ⟨rfl, hl7⟩
      have HG7 := Lib.hid (HG6.out.far hl7.2 (by omega))
      have HR7 := Lib.hid hl7.1
      have HW7 := Lib.hid (grown_then HW6.out hl7.2)
      have HO7 := Lib.hid (HO6.out.far hl7.2 (by omega))
      have HZ7 := Lib.hid (HZ6.out.far hl7.2 (by omega))
      have hs7 : G + 1 ≤ w7.heap.size := Nat.le_trans hs6 hl7.2.size
      clear hl7 HG6 HR6 HW6 HO6 HZ6 HG5 HR5 HW5 HO5 HZ5
      have d7 := HG7.out.num
      have f7 := HG7.out.frozen 35
      have HG8 := Lib.hid ((HG7.out.set35 num).as l)
      have HO8 := Lib.hid (HO7.out.put ⟨G, 35, none⟩ (.int .i64 num) (by show G < G + 1; omega))
      have HR8 := Lib.hid (HR7.out.other ⟨G, 35, none⟩ (.int .i64 num) (by show g ≠ G; omega))
      have HZ8 : Hid (ComAt (w7.setCell ⟨G, 35, none⟩ (.int .i64 num)) w.heap.size (cm0 idZ) (.slice none 0 0)) := (heap_setCell_other _ _ _ _ (by show w.heap.size ≠ G; omega)).trans HZ7.out
      have HW8 := Lib.hid (grown_new HW7.out (grown_set w7 G 35 (.int .i64 num)) (by omega))
      have hs8 : G + 1 ≤ (w7.setCell ⟨G, 35, none⟩ (.int .i64 num)).heap.size := by simpa using hs7
      have hcw := cells_com ⟨root, l, note, num⟩ (.slice A nn m)
      have HWH : Hid ((w7.setCell ⟨G, 35, none⟩ (.int .i64 num)).rangeAt G 0 (cmC ⟨root, l, note, num⟩ (.slice A nn m))) := ComAt.whole HG8.out
      go_wp2_with (first
        | (refine wpList_load_mid rfl 44 _ rfl G 0 rfl (cmC ⟨root, l, note, num⟩ (.slice A nn m)) _ HWH.out Try.underlying44 rfl hcw ?_)
        | (refine wp_put_cm rfl _ _ rfl w.heap.size rfl ⟨root, l, note, num⟩ A nn m rfl (cm0 idZ) _ HZ8.out ?hK))
      intro w9 h9 hg9
      have hwz := grown_new HW8.out hg9 (Nat.le_refl _)
      have hr9 := HR8.out.far2 hg9 (by omega)
      have hi9 : OwnRw iiC 33 41 w9 w.heap.size (.slice A nn m) l := (HO8.out.far hg9 (by omega)).lower (by omega)
      go_wp2_with fail
      refine bodyPost_ret (v := .agg (cmC ⟨root, l, note, num⟩ (.slice A nn m)).toArray) (ret_cm Try.results48 _ _ w.heap.size ⟨root, l, note, num⟩ (.slice A nn m) rfl h9) rfl ?_
      exact ⟨A, nn, m, rfl, hi9, hr9, hwz⟩

end Go.Proofs.Ytabogconbjdcgaa.Cd
