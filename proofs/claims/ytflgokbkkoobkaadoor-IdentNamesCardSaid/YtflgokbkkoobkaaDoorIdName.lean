/-
  The document's Name of a name. Conditions: none.
-/
import Derived.Test.YtflgokbkkoobkaaDoorIdRef
namespace Go.Proofs.YtflgokbkkoobkaaDoor.Cd
open Go.RowKit

theorem pad_take (s : List UInt8) (n : Nat) (hs : s.length = 32) (hn : n ≤ 32) : (s = pad32 (s.take n)) ↔ ∀ j (hj : j < s.length), n ≤ j → s[j] = 0 := by
  have hl : (s.take n).length = n := by rw [List.length_take]; omega
  have hp : pad32 (s.take n) = s.take n ++ zer (32 - n) := by
    unfold pad32
    rw [hl, List.take_of_length_le (by omega)]
  rw [hp]
  constructor
  · intro h j hj hnj
    have e := congrArg (fun l => l[j]?) h
    replace e : s[j]? = (s.take n ++ zer (32 - n))[j]? := e
    rw [List.getElem?_eq_getElem hj, List.getElem?_append_right (by omega), hl] at e
    have h2 : j - n < 32 - n := by omega
    simpa [zer, h2] using e
  · intro h
    apply List.ext_getElem
    · simp [zer_length]; omega
    · intro j h1 h2
      by_cases hj : j < n
      · rw [List.getElem_append_left (by omega), List.getElem_take]
      · rw [List.getElem_append_right (by omega), h j h1 (by omega)]
        simp [zer]

theorem good_iff (k : UInt8) (s : List UInt8) (hs : s.length = 32) : goodI (k :: s) = true ↔ 0 < sizeI k ∧ ∀ j (hj : j < s.length), sizeI k ≤ j → s[j] = 0 := by
  rw [← pad_take s (sizeI k) hs (sizeI_le k)]
  unfold goodI
  simp

theorem text_add (W : World) (a b : List UInt8) (h : a.length + b.length ≤ 9223372036854775807) :
    (Op.stringOp .add ⟨a.toArray⟩ ⟨b.toArray⟩).run Tryd.prog W = .ok (.string ⟨(a ++ b).toArray⟩) W := by
  rw [run_string_add_sum _ _ _ (by simpa [ByteArray.size] using h)]
  rw [ByteArray.mk_append_mk]

theorem index_sum (X : Array Value) (j : Nat) (u : UInt8) (h : X[j]? = some (.int .u8 u.toNat)) (hj : j < 32) (W : World) : (Instr.index 24 (.agg X) (.int .i64 j)).run Tryd.prog W = .ok (.int .u8 u.toNat) W := by
  have hs : (Tryd.prog.info? 5).map (·.size) = some 1 := by kernel_rfl
  cases hq : Tryd.prog.info? 5 with
  | none => simp [hq] at hs
  | some i =>
    have hs2 : i.size = 1 := by simpa [hq] using hs
    simp [Instr.index, asIntOf, run_underlying Tryd.underlying24, sizeOf, typeInfo, hq, hs2, hj, part, isAgg, run_underlying Tryd.underlying5, h]

theorem load_sum (w : World) (b : Nat) (k : UInt8) (s : List UInt8) (hs : s.length = 32) (h : IdAt w b (k :: s)) : w.rangeAt b 1 (vb s) := fun j v hv => by
  rw [cell_of_row _ _ _ _ _ _ h, List.getElem?_toArray, show 1 + j = j + 1 by omega]
  exact hv

set_option maxRecDepth 100000 in
set_option maxHeartbeats 1600000 in
theorem name_any (k : UInt8) (s : List UInt8) (w : World) (hs : s.length = 32) : Calls Tryd.prog 47 #[idV (k :: s)] w (Gives (.string ⟨(textI (k :: s)).toArray⟩) w) := by
  have hgd := good_iff k s hs
  have htx := textI_cons k s
  have hz := sizeI_le k
  have hsize := fun W => rsize_any k W
  generalize sizeI k = n at hgd htx hz hsize
  have h0 := IdAt.new w (k :: s)
  have hb0 : Below w.heap.size w (w.alloc (.cells (vb (k :: s)).toArray 26)) := (Below.refl _ _).alloc (Nat.le_refl _) _
  have hcv := run_text_one ((w.alloc (.cells (vb (k :: s)).toArray 26)).alloc (.cells #[.int .u8 k.toNat] 5)) (w.heap.size + 1) 1 _ k rfl (by
    have := cell_of_row ((w.alloc (.cells (vb (k :: s)).toArray 26)).alloc (.cells #[.int .u8 k.toNat] 5)) (w.heap.size + 1) 0 _ _ _ (by
      have := heap_alloc_new (w.alloc (.cells (vb (k :: s)).toArray 26)) (.cells #[.int .u8 k.toNat] 5)
      rwa [asz] at this)
    rw [this]
    rfl)
  have hld := load_sum _ _ k s hs h0
  have d0 := h0.kind
  have hb1 := hb0.alloc (by simp) (.cells #[.int .u8 k.toNat] 5)
  have hi1 : IdAt ((w.alloc (.cells (vb (k :: s)).toArray 26)).alloc (.cells #[.int .u8 k.toNat] 5)) w.heap.size (k :: s) := h0.below ((Below.refl _ _).alloc (Nat.le_refl _) _) (by simp)
  have HGD := Lib.hid hgd
  have HTX := Lib.hid htx
  have HSZ := Lib.hid hsize
  have HB1 := Lib.hid hb1
  have HI1 := Lib.hid hi1
  have HS := Lib.hid hs
  clear hgd htx hsize hb1 hi1 h0 hb0
  go_enter Tryd.func47, Tryd.ntmps47
  go_wp2_with (refine wp_box_row rfl _ rfl rfl ?_)
  refine (HSZ.out _).mono ?_
  rintro e w1 ⟨rfl, rfl⟩
  go_wp2_with (first
    | (refine wpList_load_mid rfl 24 _ rfl w.heap.size 1 rfl (vb s) _ (load_sum _ _ k s HS.out HI1.out) Tryd.underlying24 rfl (by rw [vb_length, HS.out]; exact cells_32) ?_))
  generalize (w.alloc (.cells (vb (k :: s)).toArray 26)).alloc (.cells #[.int .u8 k.toNat] 5) = w1 at HB1 HI1 ⊢
  clear hcv hld d0
  go_loopw [4, 16] (fun s1 i wr => ∃ j : Nat, j ≤ 32 ∧ i = .int .i64 j ∧ s1 = .string ⟨(k :: s.take (min j n)).toArray⟩ ∧ Hid (∀ x (hx : x < s.length), n ≤ x → x < j → s[x] = 0) ∧ Hid (Below w.heap.size w wr)) (fun _ i _ => 32 - (intOf i).toNat)
  case atStart => exact ⟨0, by omega, rfl, by simp, fun x _ _ h => by omega, HB1.out⟩
  case round =>
    obtain ⟨j, hj, rfl, rfl, HJ, HW⟩ := hrel
    by_cases hlt : j < 32
    · have hjs : j < s.length := by have := HS.out; omega
      have hcell : (vb s).toArray[j]? = some (.int .u8 (s[j]).toNat) := by
        rw [List.getElem?_toArray]
        exact vb_at s j hjs
      have hsw := HW.out.size
      have hidx := index_sum _ j s[j] hcell hlt
      clear hcell
      by_cases hjn : j < n
      · have hmin : min j n = j := by omega
        have hsn : Hid (s.take (min (j + 1) n) = s.take j ++ [s[j]]) := by unfold Hid; rw [show min (j + 1) n = j + 1 by omega, List.take_succ_eq_append_getElem hjs]
        rw [hmin]
        generalize s[j] = b at hidx hsn
        have hcv := run_text_one (wr.alloc (.cells #[.int .u8 b.toNat] 5)) wr.heap.size 1 _ b rfl (by
          rw [cell_of_row _ _ _ _ _ _ (heap_alloc_new _ _)]
          rfl)
        have hadd := fun W => text_add W (k :: s.take j) [b] (by simp only [List.length_cons, List.length_take, List.length_nil]; omega)
        generalize (vb s).toArray = X at hidx ⊢
        go_wp2
        go_roundw
        case rel => exact ⟨j + 1, by omega, by go_num, by rw [hsn.out], fun x hx h1 h2 => by omega, HW.out.alloc hsw _⟩
        case measure => simp [intOf]; omega
      · have hmin : min j n = n := by omega
        have hmin2 : min (j + 1) n = n := by omega
        by_cases hb : s[j] = 0
        · have hsn : Hid (∀ x (hx : x < s.length), n ≤ x → x < j + 1 → s[x] = 0) := fun x hx h1 h2 => by
            by_cases e : x = j
            · subst e; exact hb
            · exact HJ.out x hx h1 (by omega)
          rw [hb] at hidx
          rw [hmin]
          generalize (vb s).toArray = X at hidx ⊢
          go_wp2
          go_roundw
          case rel => exact ⟨j + 1, by omega, by go_num, by rw [hmin2], hsn, HW⟩
          case measure => simp [intOf]; omega
        · have hg : goodI (k :: s) = false := by
            rw [Bool.eq_false_iff]
            intro h
            exact hb ((HGD.out.1 h).2 j hjs (by omega))
          have hq : (((s[j]).toNat : Int) != 0) = true := by
            rw [bne_iff_ne]
            intro h
            apply hb
            apply UInt8.toNat_inj.1
            show _ = 0
            omega
          have HG := Lib.hid hg
          clear hb hg
          rw [hmin]
          generalize s[j] = b at hidx hq
          generalize (vb s).toArray = X at hidx ⊢
          go_wp2
          go_ret
          exact ⟨by rw [HTX.out, HG.out]; rfl, HW.out⟩
    · obtain rfl : j = 32 := by omega
      have hmin : min 32 n = n := by omega
      rw [hmin]
      have HZ : Hid (∀ x (hx : x < s.length), n ≤ x → s[x] = 0) := fun x hx h1 => HJ.out x hx h1 (by have := HS.out; omega)
      generalize (vb s).toArray = X
      by_cases hn : n = 0
      · have hg : goodI (k :: s) = false := by
          rw [Bool.eq_false_iff]
          intro h
          have := (HGD.out.1 h).1
          omega
        have HG := Lib.hid hg
        clear hg
        subst hn
        go_wp2
        go_ret
        exact ⟨by rw [HTX.out, HG.out]; rfl, HW.out⟩
      · have hq : ((n : Int) == 0) = false := by rw [beq_eq_false_iff_ne]; omega
        have hg : goodI (k :: s) = true := HGD.out.2 ⟨by omega, HZ.out⟩
        have HG := Lib.hid hg
        clear hg
        go_wp2
        go_ret
        exact ⟨by rw [HTX.out, HG.out]; rfl, HW.out⟩

end Go.Proofs.YtflgokbkkoobkaaDoor.Cd
