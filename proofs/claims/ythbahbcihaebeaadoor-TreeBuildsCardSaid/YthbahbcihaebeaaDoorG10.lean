/-
  The document's digest is the program's. Conditions: none.
-/
import Derived.Test.YthbahbcihaebeaaDoorG9
namespace Go.Proofs.YthbahbcihaebeaaDoor.Cd
open Go.RowKit

/-- The rounds' numbers. -/
def keysL : List Int := [1116352408, 1899447441, 3049323471, 3921009573, 961987163, 1508970993, 2453635748, 2870763221, 3624381080, 310598401, 607225278, 1426881987, 1925078388, 2162078206, 2614888103, 3248222580, 3835390401, 4022224774, 264347078, 604807628, 770255983, 1249150122, 1555081692, 1996064986, 2554220882, 2821834349, 2952996808, 3210313671, 3336571891, 3584528711, 113926993, 338241895, 666307205, 773529912, 1294757372, 1396182291, 1695183700, 1986661051, 2177026350, 2456956037, 2730485921, 2820302411, 3259730800, 3345764771, 3516065817, 3600352804, 4094571909, 275423344, 430227734, 506948616, 659060556, 883997877, 958139571, 1322822218, 1537002063, 1747873779, 1955562222, 2024104815, 2227730452, 2361852424, 2428436474, 2756734187, 3204031479, 3329325298]
theorem built_keys : Tryd.prog.built 119 [(0, .int .u32 1116352408), (1, .int .u32 1899447441), (2, .int .u32 3049323471), (3, .int .u32 3921009573), (4, .int .u32 961987163), (5, .int .u32 1508970993), (6, .int .u32 2453635748), (7, .int .u32 2870763221), (8, .int .u32 3624381080), (9, .int .u32 310598401), (10, .int .u32 607225278), (11, .int .u32 1426881987), (12, .int .u32 1925078388), (13, .int .u32 2162078206), (14, .int .u32 2614888103), (15, .int .u32 3248222580), (16, .int .u32 3835390401), (17, .int .u32 4022224774), (18, .int .u32 264347078), (19, .int .u32 604807628), (20, .int .u32 770255983), (21, .int .u32 1249150122), (22, .int .u32 1555081692), (23, .int .u32 1996064986), (24, .int .u32 2554220882), (25, .int .u32 2821834349), (26, .int .u32 2952996808), (27, .int .u32 3210313671), (28, .int .u32 3336571891), (29, .int .u32 3584528711), (30, .int .u32 113926993), (31, .int .u32 338241895), (32, .int .u32 666307205), (33, .int .u32 773529912), (34, .int .u32 1294757372), (35, .int .u32 1396182291), (36, .int .u32 1695183700), (37, .int .u32 1986661051), (38, .int .u32 2177026350), (39, .int .u32 2456956037), (40, .int .u32 2730485921), (41, .int .u32 2820302411), (42, .int .u32 3259730800), (43, .int .u32 3345764771), (44, .int .u32 3516065817), (45, .int .u32 3600352804), (46, .int .u32 4094571909), (47, .int .u32 275423344), (48, .int .u32 430227734), (49, .int .u32 506948616), (50, .int .u32 659060556), (51, .int .u32 883997877), (52, .int .u32 958139571), (53, .int .u32 1322822218), (54, .int .u32 1537002063), (55, .int .u32 1747873779), (56, .int .u32 1955562222), (57, .int .u32 2024104815), (58, .int .u32 2227730452), (59, .int .u32 2361852424), (60, .int .u32 2428436474), (61, .int .u32 2756734187), (62, .int .u32 3204031479), (63, .int .u32 3329325298)] = some (vw keysL).toArray := by kernel_rfl
set_option maxRecDepth 100000 in
set_option maxHeartbeats 3200000 in
theorem numbers_x (w : World) : Calls Tryd.prog 67 #[] w fun e w' => e = .returned (.agg (vw keysL).toArray) ∧ Below w.heap.size w w' := by
  have hk : (vw keysL).toArray.size = 64 := by rfl
  have hnew := heap_alloc_new w (.cells (vw (zerw 64)).toArray 119)
  go_enter Tryd.func67, Tryd.ntmps67
  go_wp2_with (first
    | (refine wp_alloc_row zero_w64 rfl rfl ?_)
    | (refine wp_build_row rfl _ rfl _ built_keys (by first | rfl | simp [Act.eval]) ?_)
    | (refine wp_fill_row cells_w64 rfl _ _ rfl (vw (zerw 64)).toArray (by simp [vw_length, zerw_length]) 119 (by first | rfl | simp [Act.eval, Act.put]) rfl rfl (vw_one keysL) ?_))
  exact bodyPost_ret (results_cell_row Tryd.results67 _ _ w.heap.size 119 (vw keysL).toArray (0, 0) _ rfl (heap_alloc_new _ _) Tryd.underlying119 rfl (by exact cells_w64)) rfl ⟨rfl, (Below.refl _ _).alloc (Nat.le_refl _) _⟩

theorem range_of_row {w : World} {g : Nat} {l : List Value} {T : TypeId} (h : w.heap[g]? = some (.cells l.toArray T)) : w.rangeAt g 0 l := fun j v hv => by
  rw [Nat.zero_add, cell_of_row _ _ _ _ _ _ h, List.getElem?_toArray]
  exact hv
theorem exec_load_w8 {w : World} {g : Nat} {l : List Int} (h : w.heap[g]? = some (.cells (vw l).toArray 105)) (hl : l.length = 8) {op : Oper} {a : Act} (x : Operand) (ho : op.op = .load 105 x) (hx : a.eval x = .pointer (some ⟨g, 0, none⟩)) :
    (execOp a.eval op).run Tryd.prog w = .ok (.value (.agg (vw l).toArray)) w := by
  have hl := run_loadAt_mid (P := Tryd.prog) w g 0 105 (vw l) _ (range_of_row h) Tryd.underlying105 rfl (by rw [vw_length, hl]; exact cells_w8)
  unfold execOp
  simp only [ho, hx, Sem.run_bind, hl, Result.andThen_ok, Sem.run_pure]
theorem exec_load_w64 {w : World} {g : Nat} {l : List Int} (h : w.heap[g]? = some (.cells (vw l).toArray 119)) (hl : l.length = 64) {op : Oper} {a : Act} (x : Operand) (ho : op.op = .load 119 x) (hx : a.eval x = .pointer (some ⟨g, 0, none⟩)) :
    (execOp a.eval op).run Tryd.prog w = .ok (.value (.agg (vw l).toArray)) w := by
  have hl := run_loadAt_mid (P := Tryd.prog) w g 0 119 (vw l) _ (range_of_row h) Tryd.underlying119 rfl (by rw [vw_length, hl]; exact cells_w64)
  unfold execOp
  simp only [ho, hx, Sem.run_bind, hl, Result.andThen_ok, Sem.run_pure]
theorem step_put_w8 {w : World} {ops : Array Oper} {o : Oper} {a : Act} {K : Act → World → Prop} {Q : Exit → Act → World → Prop} {E : Prop} (hgd : o.guard = none) (x y : Operand) (ho : o.op = .store 105 x y)
    {g : Nat} {l : List Int} (hg : w.heap[g]? = some (.cells (vw l).toArray 105)) (hl : l.length = 8) (hx : a.eval x = .pointer (some ⟨g, 0, none⟩)) (S : List Int) (hS : S.length = 8) (hy : a.eval y = .agg (vw S).toArray)
    (h : ∀ w', w'.heap[g]? = some (.cells (vw S).toArray 105) → w.grownBy w' (some g) → K (a.put o.dst undef) w') : if Region.wanted o (yielded ops a.tmps) = true then Oper.wp Tryd.prog o a w K Q else E := by
  have hw : Region.wanted o (yielded ops a.tmps) = true := by simp [Region.wanted, hgd]
  rw [if_pos hw]
  have hsz : (vw S).toArray.size = 8 := by simp [vw_length, hS]
  have hth : w.there g 0 8 := fun j hj => by
    refine ⟨?_, frozen_of_row _ _ _ _ _ hg⟩
    rw [Nat.zero_add, cell_of_row _ _ _ _ _ _ hg, List.getElem?_toArray, List.getElem?_eq_getElem (by rw [vw_length]; omega)]
    rfl
  have h2 := setCells_row g _ (vw S) w _ 0 hg
  rw [show laid (vw l) 0 (vw S) = vw S by simpa using laid_mid [] (vw l) [] (vw S) (by rw [vw_length, vw_length, hS, hl])] at h2
  refine wp_store_mid _ x y ho g 0 (vw S).toArray hx hy (by rw [hsz]; exact hth) (by rw [hsz]; exact cells_w8) (by have := all_oneCell_toArray (vw_one S); simpa using this) ?_
  have h3 := h _ h2 (setCells_grown g (vw S) w 0)
  simpa using h3
theorem slice_mid64 (b L c n : Nat) (h1 : n + 64 ≤ L) (h2 : L ≤ c) (W : World) : (Instr.sliceAt 73 (.slice (some ⟨b, 0, none⟩) L c) (some (.int .i64 n)) (some (.int .i64 ((n : Int) + 64))) none).run Tryd.prog W = .ok (.slice (some ⟨b, n, none⟩) 64 (c - n)) W := by
  have h0 : (0 : Int) ≤ (n : Int) := by omega
  have h3 : (n : Int) ≤ (n : Int) + 64 := by omega
  have h4 : (n : Int) + 64 ≤ (c : Int) := by omega
  have h5 : (0 : Int) ≤ (n : Int) + 64 := by omega
  have h6 : ((n : Int) + 64).toNat = n + 64 := by omega
  have h7 : ¬ c = n := by omega
  have h8 : n + 64 - n = 64 := by omega
  go_simp
theorem sl_mid64 {w : World} {B b c : Nat} {bs : List UInt8} (n : Nat) (hn : n + 64 ≤ bs.length) (hbc : bs.length ≤ c) (hcm : c ≤ maxLen) (hb : b < B) (hc : ∀ j (hj : j < bs.length), w.cell? ⟨b, j, none⟩ = some (.int .u8 (bs[j]).toNat)) :
    Sl w B (.slice (some ⟨b, n, none⟩) 64 (c - n)) ((bs.drop n).take 64) := by
  have hl : ((bs.drop n).take 64).length = 64 := by rw [List.length_take, List.length_drop]; omega
  refine ⟨_, c - n, by rw [hl], by omega, by omega, (fun h => by cases h), (fun ad e _ => by injection e with e; subst e; exact hb), fun ad e j u hu => ?_⟩
  injection e with e
  subst e
  have hj := (List.getElem?_eq_some_iff.1 hu).1
  rw [vb_length, hl] at hj
  rw [Addr.add_mid, hc (n + j) (by omega), ← hu, vb_at _ j (by omega), List.getElem_take, List.getElem_drop]
theorem blks_next {σ : Type} (mix : σ → List UInt8 → σ) (s : σ) (b : List UInt8) (k : Nat) (h : 64 * k + 64 ≤ b.length) : blks mix (k + 1) s b = mix (blks mix k s b) ((b.drop (64 * k)).take 64) := blks_snoc mix k s b (by omega)

set_option maxRecDepth 100000 in
set_option maxHeartbeats 6400000 in
theorem rshof_x (v : Value) (bs : List UInt8) (w : World) (h : Sl w w.heap.size v bs) (hN : bs.length ≤ 1048576) :
    Calls Tryd.prog 53 #[v] w fun e w' => e = .returned (.agg (vb (shaS keysL bs)).toArray) ∧ Below w.heap.size w w' := by
  have hb2 : Below w.heap.size w ((w.alloc (.cells (vb (zer 32)).toArray 25)).alloc (.cells (vw st0).toArray 105)) := ((Below.refl _ _).alloc (Nat.le_refl _) _).alloc (by simp) _
  have hr2 : ((w.alloc (.cells (vb (zer 32)).toArray 25)).alloc (.cells (vw st0).toArray 105)).heap[w.heap.size]? = some (.cells (vb (zer 32)).toArray 25) := (Below.heap_alloc _ _ _ (by simp)).trans (heap_alloc_new _ _)
  have hs2 : ((w.alloc (.cells (vb (zer 32)).toArray 25)).alloc (.cells (vw st0).toArray 105)).heap[w.heap.size + 1]? = some (.cells (vw st0).toArray 105) := by
    have h := heap_alloc_new (w.alloc (.cells (vb (zer 32)).toArray 25)) (.cells (vw st0).toArray 105)
    rwa [asz] at h
  have hz2 : w.heap.size + 2 ≤ ((w.alloc (.cells (vb (zer 32)).toArray 25)).alloc (.cells (vw st0).toArray 105)).heap.size := by simp
  have hv2 := h.below hb2
  obtain ⟨A, c, rfl, hbc, hcm⟩ := h.len
  clear h
  go_enter Tryd.func53, Tryd.ntmps53
  go_wp2_with (first
    | (refine wp_alloc_row zero_32 rfl rfl ?_)
    | (refine wp_alloc_row zero_w8 rfl rfl ?_)
    | (refine wp_build_row rfl _ rfl _ (built_w8 1779033703 3144134277 1013904242 2773480762 1359893119 2600822924 528734635 1541459225) (by first | rfl | simp [Act.eval]) ?_)
    | (refine wp_fill_row cells_w8 rfl _ _ rfl (vw (zerw 8)).toArray (by simp [vw_length, zerw_length]) 105 (by first | rfl | simp [Act.eval, Act.put]) rfl rfl (vw_one _) ?_))
  try simp only [asz]
  try rw [show vw [1779033703, 3144134277, 1013904242, 2773480762, 1359893119, 2600822924, 528734635, 1541459225] = vw st0 from rfl]
  generalize (w.alloc (.cells (vb (zer 32)).toArray 25)).alloc (.cells (vw st0).toArray 105) = w2 at hb2 hr2 hs2 hz2 hv2 ⊢
  have HB2 := Lib.hid hb2
  have HR2 := Lib.hid hr2
  have HS2 := Lib.hid hs2
  have HV2 := Lib.hid hv2
  clear hb2 hr2 hs2 hv2
  generalize hg : w.heap.size + 1 = g at HS2 ⊢
  have hg0 : w.heap.size < g := by omega
  have hgz : g + 1 ≤ w2.heap.size := by omega
  clear hg hz2
  go_wp2_with fail
  refine (padded_any _ bs w2 (HV2.out.more (by omega)) hN).mono ?_
  rintro e w3 ⟨v3, rfl, hs3, hb3⟩
  have hpl := padS_length bs
  have hpm := padS_mod bs
  have hg63 : gapZ bs.length < 64 := Nat.mod_lt _ (by omega)
  obtain ⟨P, hP⟩ : ∃ P, padS bs = P := ⟨_, rfl⟩
  have HE : Kept (shaS keysL bs = sumS (blks (mixP keysL) (P.length / 64) st0 P)) := ⟨by rw [← hP]; rfl⟩
  rw [hP] at hs3 hpl hpm
  obtain ⟨b3, c3, cur, rfl, hB3, hbB3, hh3, hbc3, hcm3, hcur⟩ := own_block hs3 (by omega)
  have hcl3 : ∀ j (hj : j < P.length), w3.cell? ⟨b3, j, none⟩ = some (.int .u8 (P[j]).toNat) := fun j hj => by
    rw [cell_of_row _ _ _ _ _ _ hh3, hcur j _ (vb_at P j hj)]
  have hb3g : b3 ≠ g := by omega
  have hz3 := hb3.size
  have HR3 : Hid (w3.heap[w.heap.size]? = some (.cells (vb (zer 32)).toArray 25)) := (hb3.block _ (by omega)).trans HR2.out
  have HS3 : Hid (w3.heap[g]? = some (.cells (vw st0).toArray 105)) := (hb3.block _ (by omega)).trans HS2.out
  have HB3 : Hid (Below w.heap.size w w3) := HB2.out.trans (hb3.mono (by omega))
  have HC3 := Lib.hid hcl3
  have hPN : P.length ≤ 1048576 + 72 := by omega
  clear hs3 hb3 HR2 HS2 HB2 HV2 hcl3 hP hpl hg63 hh3 hcur
  go_wp2_with fail
  refine (numbers_x w3).mono ?_
  rintro e w4 ⟨rfl, hb4⟩
  have hz4 := hb4.size
  have HR4 : Hid (w4.heap[w.heap.size]? = some (.cells (vb (zer 32)).toArray 25)) := (hb4.block _ (by omega)).trans HR3.out
  have HS4 : Hid (w4.heap[g]? = some (.cells (vw st0).toArray 105)) := (hb4.block _ (by omega)).trans HS3.out
  have HB4 : Hid (Below w.heap.size w w4) := HB3.out.trans (hb4.mono (by omega))
  have HC4 : Hid (∀ j (hj : j < P.length), w4.cell? ⟨b3, j, none⟩ = some (.int .u8 (P[j]).toNat)) := fun j hj => (hb4.cell (p := ⟨b3, j, none⟩) hbB3).trans (HC3.out j hj)
  clear hb4 HR3 HS3 HB3 HC3
  have hb5 : Below w4.heap.size w4 (w4.alloc (.cells (vw keysL).toArray 119)) := (Below.refl _ _).alloc (Nat.le_refl _) _
  have hk5 := heap_alloc_new w4 (.cells (vw keysL).toArray 119)
  try dsimp only
  go_wp2_with (first
    | (refine wp_alloc_row zero_w64 rfl rfl ?_)
    | (refine wp_fill_row cells_w64 rfl _ _ rfl (vw (zerw 64)).toArray (by simp [vw_length, zerw_length]) 119 (by first | rfl | simp [Act.eval, Act.put]) rfl rfl (vw_one _) ?_))
  generalize hw5 : w4.alloc (.cells (vw keysL).toArray 119) = w5 at hb5 hk5 ⊢
  clear hw5
  generalize hbk : w4.heap.size = bk at hk5 hb5 ⊢
  have HR5 : Hid (w5.heap[w.heap.size]? = some (.cells (vb (zer 32)).toArray 25)) := (hb5.block _ (by omega)).trans HR4.out
  have HS5 : Hid (w5.heap[g]? = some (.cells (vw st0).toArray 105)) := (hb5.block _ (by omega)).trans HS4.out
  have HB5 : Hid (Below w.heap.size w w5) := HB4.out.trans (hb5.mono (by omega))
  have HC5 : Hid (∀ j (hj : j < P.length), w5.cell? ⟨b3, j, none⟩ = some (.int .u8 (P[j]).toNat)) := fun j hj => (hb5.cell (p := ⟨b3, j, none⟩) (by show b3 < bk; omega)).trans (HC4.out j hj)
  have HK5 := Lib.hid hk5
  have hgk : g < bk := by omega
  have hbk3 : b3 < bk := by omega
  have hkz : bk < w5.heap.size := by have h9 := (Array.getElem?_eq_some_iff.1 hk5).1; exact h9
  clear hb5 hk5 HR4 HS4 HB4 HC4 hbk hbB3
  have hqm : 64 * (P.length / 64) = P.length := by omega
  obtain ⟨q, hq⟩ : ∃ q, P.length / 64 = q := ⟨_, rfl⟩
  rw [hq] at HE hqm
  clear hq hpm
  have hkl : keysL.length = 64 := rfl
  go_loopw [6] (fun i wr => ∃ (k n : Nat) (S : List Int), k ≤ q ∧ Hid (n = 64 * k) ∧ i = .int .i64 n ∧ Hid (S = blks (mixP keysL) k st0 P) ∧ Hid (W32L S) ∧ S.length = 8 ∧ Hid (wr.heap[g]? = some (.cells (vw S).toArray 105)) ∧ Hid (wr.heap[w.heap.size]? = some (.cells (vb (zer 32)).toArray 25)) ∧ Hid (wr.heap[bk]? = some (.cells (vw keysL).toArray 119)) ∧ Hid (∀ j (hj : j < P.length), wr.cell? ⟨b3, j, none⟩ = some (.int .u8 (P[j]).toNat)) ∧ Hid (Below w.heap.size w wr) ∧ bk < wr.heap.size) (fun i _ => P.length - (intOf i).toNat)
  case atStart => exact ⟨0, 0, st0, by omega, rfl, rfl, rfl, st0_w, rfl, HS5, HR5, HK5, HC5, HB5, hkz⟩
  case round =>
    clear HS5 HR5 HC5 HB5 HK5 hkz
    obtain ⟨k, n, S, hk, HN, rfl, HSE, HSW, hS8, HS, HR, HKK, HC, HB, hkz⟩ := hrel
    have hn := HN.out
    by_cases hlt : k < q
    · have hnl : n + 64 ≤ P.length := by omega
      have hcl : (n : Int) < (P.length : Int) := by omega
      have hw64 : IntKind.i64.wrap ((n : Int) + 64) = (n : Int) + 64 := Go.wrap_small _ (by omega) (by omega)
      have HSN : Kept (blks (mixP keysL) (k + 1) st0 P = mixP keysL S ((P.drop n).take 64)) := ⟨by rw [blks_next _ _ _ _ (by omega), ← HSE.out, ← hn]⟩
      have HK1 : Hid (k + 1 ≤ q) := by unfold Hid; omega
      clear hn hlt HSE
      go_wp2_with fail
      obtain ⟨W0, hW0⟩ : ∃ x, wr.drew = x := ⟨_, rfl⟩
      have HS0 : Hid (W0.heap[g]? = some (.cells (vw S).toArray 105)) := by rw [← hW0]; exact HS.out
      have HR0 : Hid (W0.heap[w.heap.size]? = some (.cells (vb (zer 32)).toArray 25)) := by rw [← hW0]; exact HR.out
      have HK0 : Hid (W0.heap[bk]? = some (.cells (vw keysL).toArray 119)) := by rw [← hW0]; exact HKK.out
      have HC0 : Hid (∀ j (hj : j < P.length), W0.cell? ⟨b3, j, none⟩ = some (.int .u8 (P[j]).toNat)) := by rw [← hW0]; exact HC.out
      have HB0 : Hid (Below w.heap.size w W0) := by rw [← hW0]; exact HB.out.drew
      have hkz0 : bk < W0.heap.size := by rw [← hW0]; exact hkz
      have hsl := fun W => slice_mid64 b3 P.length c3 n hnl hbc3 W
      clear HS HR HKK HC HB hkz
      refine region_begin hW0 (S := fun W => Below w.heap.size w W) (by kernel_rfl) HB0.out (fun hHeld => ?_)
      clear hW0
      refine take_at (i := 1) (.slice (some ⟨b3, 0, none⟩) P.length c3) (some 22) (by decide) (by rfl) (by kernel_rfl) (by kernel_rfl) (by kernel_rfl) (fun _ _ _ h => h) (by rfl) (fun W hW => by go_simp) (by assumption) ?_
      try simp only [Act.put, List.setIfInBounds_toArray, List.set_cons_zero, List.set_cons_succ]
      refine take_at (i := 2) (.int .i64 (n : Int)) (some 23) (by decide) (by rfl) (by kernel_rfl) (by kernel_rfl) (by kernel_rfl) (fun _ _ _ h => h) (by rfl) (fun W hW => by go_simp) (by assumption) ?_
      try simp only [Act.put, List.setIfInBounds_toArray, List.set_cons_zero, List.set_cons_succ]
      refine take_at (i := 3) (.int .i64 (n : Int)) (some 24) (by decide) (by rfl) (by kernel_rfl) (by kernel_rfl) (by kernel_rfl) (fun _ _ _ h => h) (by rfl) (fun W hW => by go_simp) (by assumption) ?_
      try simp only [Act.put, List.setIfInBounds_toArray, List.set_cons_zero, List.set_cons_succ]
      refine take_at (i := 4) (.int .i64 ((n : Int) + 64)) (some 25) (by decide) (by rfl) (by kernel_rfl) (by kernel_rfl) (by kernel_rfl) (fun _ _ _ h => h) (by rfl) (fun W hW => by go_simp) (by assumption) ?_
      try simp only [Act.put, List.setIfInBounds_toArray, List.set_cons_zero, List.set_cons_succ]
      refine take_at (i := 5) (.slice (some ⟨b3, n, none⟩) 64 (c3 - n)) (some 26) (by decide) (by rfl) (by kernel_rfl) (by kernel_rfl) (by kernel_rfl) (fun _ _ _ h => h) (by rfl) (fun W hW => by have h9 := hsl W; go_simp) (by assumption) ?_
      try simp only [Act.put, List.setIfInBounds_toArray, List.set_cons_zero, List.set_cons_succ]
      refine wpAnyH_ready (rs := [0, 6]) (by kernel_rfl) (by simp) ?_
      refine come (i := 0) (.agg (vw S).toArray) W0 (some 21) (by decide) (by rfl) (by rfl) (exec_load_w8 HS0.out hS8 _ rfl rfl) HB0.out ?_ (come (i := 6) (.agg (vw keysL).toArray) W0 (some 27) (by decide) (by rfl) (by rfl) (exec_load_w64 HK0.out hkl _ rfl rfl) HB0.out ?_ AllReadyH.nil)
      · try simp only [Act.put, List.setIfInBounds_toArray, List.set_cons_zero, List.set_cons_succ]
        refine wpAnyH_ready (rs := [6]) (by kernel_rfl) (by simp) (come (i := 6) (.agg (vw keysL).toArray) W0 (some 27) (by decide) (by rfl) (by rfl) (exec_load_w64 HK0.out hkl _ rfl rfl) HB0.out ?_ AllReadyH.nil)
        try simp only [Act.put, List.setIfInBounds_toArray, List.set_cons_zero, List.set_cons_succ]
        refine wpAnyH_ready (rs := [7]) (by kernel_rfl) (by simp) (AllReadyH.cons (Array.getElem?_eq_getElem (i := 7) (by decide)) (fun K9 hK => ?_) AllReadyH.nil)
        go_simp
        refine (next_x keysL S ((P.drop n).take 64) (.slice (some ⟨b3, n, none⟩) 64 (c3 - n)) W0 hS8 HSW.out (by rw [List.length_take, List.length_drop]; omega) hkl (sl_mid64 n hnl hbc3 hcm3 (by omega) HC0.out)).mono ?_
        rintro e w6 ⟨hM8, hMW, rfl, hb6⟩
        rw [← HSN.out] at hM8 hMW ⊢
        obtain ⟨M, hM⟩ : ∃ M, blks (mixP keysL) (k + 1) st0 P = M := ⟨_, rfl⟩
        rw [hM] at hM8 hMW ⊢
        have HM : Hid (M = blks (mixP keysL) (k + 1) st0 P) := hM.symm
        have HMW := Lib.hid hMW
        have HS6 : Hid (w6.heap[g]? = some (.cells (vw S).toArray 105)) := (hb6.block _ (by omega)).trans HS0.out
        have HR6 : Hid (w6.heap[w.heap.size]? = some (.cells (vb (zer 32)).toArray 25)) := (hb6.block _ (by omega)).trans HR0.out
        have HK6 : Hid (w6.heap[bk]? = some (.cells (vw keysL).toArray 119)) := (hb6.block _ (by omega)).trans HK0.out
        have HC6 : Hid (∀ j (hj : j < P.length), w6.cell? ⟨b3, j, none⟩ = some (.int .u8 (P[j]).toNat)) := fun j hj => (hb6.cell (p := ⟨b3, j, none⟩) (by show b3 < W0.heap.size; omega)).trans (HC0.out j hj)
        have HB6 : Hid (Below w.heap.size w w6) := HB0.out.trans (hb6.mono (by omega))
        have hkz6 : bk < w6.heap.size := by have := hb6.size; omega
        clear hb6 hM hMW HS0 HR0 HK0 HC0 HB0 hsl
        refine hK.out _ _ (HB6.out) (fun hHeld => ?_)
        clear hK K9
        try simp only [Act.put, List.setIfInBounds_toArray, List.set_cons_zero, List.set_cons_succ]
        refine wpAnyH_ready (rs := [8]) (by kernel_rfl) (by simp) (AllReadyH.cons (Array.getElem?_eq_getElem (i := 8) (by decide)) (fun K9 hK => ?_) AllReadyH.nil)
        refine step_put_w8 rfl _ _ rfl HS6.out hS8 rfl M hM8 rfl ?_
        intro w7 hs7 hg7
        have HS7 := Lib.hid hs7
        have HR7 : Hid (w7.heap[w.heap.size]? = some (.cells (vb (zer 32)).toArray 25)) := (hg7.block _ (by omega) (fun e => by injection e with e; omega)).trans HR6.out
        have HK7 : Hid (w7.heap[bk]? = some (.cells (vw keysL).toArray 119)) := (hg7.block _ (by omega) (fun e => by injection e with e; omega)).trans HK6.out
        have HC7 : Hid (∀ j (hj : j < P.length), w7.cell? ⟨b3, j, none⟩ = some (.int .u8 (P[j]).toNat)) := fun j hj => (World.cell?_of_block (w := w6) (hg7.block b3 (by omega) (fun e => by injection e with e; omega))).trans (HC6.out j hj)
        have HB7 : Hid (Below w.heap.size w w7) := HB6.out.grown hg7 (by omega) (fun k hk => by injection hk with hk; omega)
        have hkz7 : bk < w7.heap.size := by have := hg7.size; omega
        clear hs7 hg7 HS6 HR6 HK6 HC6 HB6 hHeld
        refine hK.out _ _ (HB7.out) (fun hHeld => ?_)
        clear hK K9 hHeld
        try simp only [Act.put, List.setIfInBounds_toArray, List.set_cons_zero, List.set_cons_succ]
        refine wpAnyH_done (by kernel_rfl) ?_ _
        try simp only [Act.put, List.setIfInBounds_toArray, List.set_cons_zero, List.set_cons_succ]
        go_wp2_with fail
        go_roundw
        case rel => exact ⟨k + 1, n + 64, M, HK1.out, by unfold Hid; rw [HN.out]; omega, by go_num, HM, HMW, hM8, HS7, HR7, HK7, HC7, HB7, hkz7⟩
        case measure => simp [intOf]; omega
      · try simp only [Act.put, List.setIfInBounds_toArray, List.set_cons_zero, List.set_cons_succ]
        refine wpAnyH_ready (rs := [0]) (by kernel_rfl) (by simp) (come (i := 0) (.agg (vw S).toArray) W0 (some 21) (by decide) (by rfl) (by rfl) (exec_load_w8 HS0.out hS8 _ rfl rfl) HB0.out ?_ AllReadyH.nil)
        try simp only [Act.put, List.setIfInBounds_toArray, List.set_cons_zero, List.set_cons_succ]
        refine wpAnyH_ready (rs := [7]) (by kernel_rfl) (by simp) (AllReadyH.cons (Array.getElem?_eq_getElem (i := 7) (by decide)) (fun K9 hK => ?_) AllReadyH.nil)
        go_simp
        refine (next_x keysL S ((P.drop n).take 64) (.slice (some ⟨b3, n, none⟩) 64 (c3 - n)) W0 hS8 HSW.out (by rw [List.length_take, List.length_drop]; omega) hkl (sl_mid64 n hnl hbc3 hcm3 (by omega) HC0.out)).mono ?_
        rintro e w6 ⟨hM8, hMW, rfl, hb6⟩
        rw [← HSN.out] at hM8 hMW ⊢
        obtain ⟨M, hM⟩ : ∃ M, blks (mixP keysL) (k + 1) st0 P = M := ⟨_, rfl⟩
        rw [hM] at hM8 hMW ⊢
        have HM : Hid (M = blks (mixP keysL) (k + 1) st0 P) := hM.symm
        have HMW := Lib.hid hMW
        have HS6 : Hid (w6.heap[g]? = some (.cells (vw S).toArray 105)) := (hb6.block _ (by omega)).trans HS0.out
        have HR6 : Hid (w6.heap[w.heap.size]? = some (.cells (vb (zer 32)).toArray 25)) := (hb6.block _ (by omega)).trans HR0.out
        have HK6 : Hid (w6.heap[bk]? = some (.cells (vw keysL).toArray 119)) := (hb6.block _ (by omega)).trans HK0.out
        have HC6 : Hid (∀ j (hj : j < P.length), w6.cell? ⟨b3, j, none⟩ = some (.int .u8 (P[j]).toNat)) := fun j hj => (hb6.cell (p := ⟨b3, j, none⟩) (by show b3 < W0.heap.size; omega)).trans (HC0.out j hj)
        have HB6 : Hid (Below w.heap.size w w6) := HB0.out.trans (hb6.mono (by omega))
        have hkz6 : bk < w6.heap.size := by have := hb6.size; omega
        clear hb6 hM hMW HS0 HR0 HK0 HC0 HB0 hsl
        refine hK.out _ _ (HB6.out) (fun hHeld => ?_)
        clear hK K9
        try simp only [Act.put, List.setIfInBounds_toArray, List.set_cons_zero, List.set_cons_succ]
        refine wpAnyH_ready (rs := [8]) (by kernel_rfl) (by simp) (AllReadyH.cons (Array.getElem?_eq_getElem (i := 8) (by decide)) (fun K9 hK => ?_) AllReadyH.nil)
        refine step_put_w8 rfl _ _ rfl HS6.out hS8 rfl M hM8 rfl ?_
        intro w7 hs7 hg7
        have HS7 := Lib.hid hs7
        have HR7 : Hid (w7.heap[w.heap.size]? = some (.cells (vb (zer 32)).toArray 25)) := (hg7.block _ (by omega) (fun e => by injection e with e; omega)).trans HR6.out
        have HK7 : Hid (w7.heap[bk]? = some (.cells (vw keysL).toArray 119)) := (hg7.block _ (by omega) (fun e => by injection e with e; omega)).trans HK6.out
        have HC7 : Hid (∀ j (hj : j < P.length), w7.cell? ⟨b3, j, none⟩ = some (.int .u8 (P[j]).toNat)) := fun j hj => (World.cell?_of_block (w := w6) (hg7.block b3 (by omega) (fun e => by injection e with e; omega))).trans (HC6.out j hj)
        have HB7 : Hid (Below w.heap.size w w7) := HB6.out.grown hg7 (by omega) (fun k hk => by injection hk with hk; omega)
        have hkz7 : bk < w7.heap.size := by have := hg7.size; omega
        clear hs7 hg7 HS6 HR6 HK6 HC6 HB6 hHeld
        refine hK.out _ _ (HB7.out) (fun hHeld => ?_)
        clear hK K9 hHeld
        try simp only [Act.put, List.setIfInBounds_toArray, List.set_cons_zero, List.set_cons_succ]
        refine wpAnyH_done (by kernel_rfl) ?_ _
        try simp only [Act.put, List.setIfInBounds_toArray, List.set_cons_zero, List.set_cons_succ]
        go_wp2_with fail
        go_roundw
        case rel => exact ⟨k + 1, n + 64, M, HK1.out, by unfold Hid; rw [HN.out]; omega, by go_num, HM, HMW, hM8, HS7, HR7, HK7, HC7, HB7, hkz7⟩
        case measure => simp [intOf]; omega
    · have hk64 : k = q := by omega
      have hcl : ¬ (n : Int) < (P.length : Int) := by omega
      have HE2 : Kept (shaS keysL bs = sumS S) := ⟨by rw [HE.out, HSE.out, hk64]⟩
      clear HE HSE hk64 hn hlt hk HN HC HKK
      have hst := HS.out
      have hx7 : wr.heap.size + 1 ≤ (wr.alloc (.cells (vb (zer 32)).toArray 25)).heap.size := by simp
      have hb6 : Below wr.heap.size wr (wr.alloc (.cells (vb (zer 32)).toArray 25)) := (Below.refl _ _).alloc (Nat.le_refl _) _
      have ho6 := heap_alloc_new wr (.cells (vb (zer 32)).toArray 25)
      have hs6 : (wr.alloc (.cells (vb (zer 32)).toArray 25)).heap[g]? = some (.cells (vw S).toArray 105) := (hb6.block _ (by omega)).trans HS.out
      have HB6 : Hid (Below w.heap.size w (wr.alloc (.cells (vb (zer 32)).toArray 25))) := HB.out.trans (hb6.mono (by omega))
      have HR6 : Hid ((wr.alloc (.cells (vb (zer 32)).toArray 25)).heap[w.heap.size]? = some (.cells (vb (zer 32)).toArray 25)) := (hb6.block _ (by omega)).trans HR.out
      have HO6 := Lib.hid ho6
      have HS6 := Lib.hid hs6
      clear hst hb6 ho6 hs6 HB HR HS
      go_wp2_with (first
        | (refine wp_alloc_row zero_32 rfl rfl ?_)
        | (refine wpList_load_row rfl 105 _ rfl g rfl 105 (vw S).toArray (0, 0) _ HS6.out Tryd.underlying105 rfl (by rw [show (vw S).toArray.size = 8 by simp [vw_length, hS8]]; exact cells_w8) ?_))
      generalize wr.alloc (.cells (vb (zer 32)).toArray 25) = w8 at HB6 HR6 HO6 HS6 hx7 ⊢
      generalize hbo : wr.heap.size = bo at hx7 HO6 ⊢
      have hob : w.heap.size < bo := by omega
      clear hbo HS6
      go_loopw [8, 9, 10, 30] (fun v8 v9 v10 vi wz => ∃ (i : Nat) (D : List UInt8), i ≤ 8 ∧ vi = .int .i64 i ∧ D.length = 32 ∧ Hid (D.take (4 * i) = (sumS S).take (4 * i)) ∧ Hid (wz.heap[bo]? = some (.cells (vb D).toArray 25)) ∧ Hid (wz.heap[w.heap.size]? = some (.cells (vb (zer 32)).toArray 25)) ∧ Hid (Below w.heap.size w wz)) (fun _ _ _ vi _ => 8 - (intOf vi).toNat)
      case atStart => exact ⟨0, zer 32, by omega, rfl, zer_length 32, rfl, HO6, HR6, HB6⟩
      case round =>
        clear HO6 HR6 HB6
        obtain ⟨i, D, hi, rfl, hD, HT, HO, HR, HB⟩ := hrel
        by_cases hlt : i < 8
        · have hiS : i < S.length := by omega
          have hidx := fun W => index_w8 S i hS8 hiS W
          have gq : S.getD i 0 = S[i] := by rw [List.getD_eq_getElem?_getD, List.getElem?_eq_getElem hiS]; rfl
          have hx0 := (HSW.out S[i] (List.getElem_mem hiS)).1
          generalize S[i] = x at hidx gq hx0
          have GQ := Lib.hid gq
          have HX0 := Lib.hid hx0
          have gi : (i : Int) < 8 := by omega
          clear gq hx0
          go_wp2_with fail
          go_loopw [10] (fun vj wz => ∃ (j : Nat) (D : List UInt8), j ≤ 4 ∧ vj = .int .i64 j ∧ D.length = 32 ∧ Hid (D.take (4 * i + j) = (sumS S).take (4 * i + j)) ∧ Hid (wz.heap[bo]? = some (.cells (vb D).toArray 25)) ∧ Hid (wz.heap[w.heap.size]? = some (.cells (vb (zer 32)).toArray 25)) ∧ Hid (Below w.heap.size w wz)) (fun vj _ => 4 - (intOf vj).toNat)
          case atStart => exact ⟨0, D, by omega, rfl, hD, HT, HO, HR, HB⟩
          case round =>
            clear HT HO HR HB hD hidx
            obtain ⟨j, D, hj, rfl, hD, HT, HO, HR, HB⟩ := hrel
            by_cases hjt : j < 4
            · obtain ⟨m, hm⟩ : ∃ m : Nat, m = 4 * i + j := ⟨_, rfl⟩
              obtain ⟨s, hs⟩ : ∃ s : Nat, s = 24 - 8 * j := ⟨_, rfl⟩
              have w1 : IntKind.i64.wrap (4 * (i : Int)) = 4 * (i : Int) := Go.wrap_small _ (by omega) (by omega)
              have w2 : IntKind.i64.wrap (4 * (i : Int) + (j : Int)) = (m : Int) := by rw [show 4 * (i : Int) + (j : Int) = (m : Int) by omega]; exact Go.wrap_small _ (by omega) (by omega)
              have w2b : 4 * (i : Int) + (j : Int) = (m : Int) := by omega
              have w3 : IntKind.i64.wrap (8 * (j : Int)) = 8 * (j : Int) := Go.wrap_small _ (by omega) (by omega)
              have w4 : IntKind.i64.wrap (24 - 8 * (j : Int)) = (s : Int) := by rw [show (24 : Int) - 8 * (j : Int) = (s : Int) by omega]; exact Go.wrap_small _ (by omega) (by omega)
              have w4b : (24 : Int) - 8 * (j : Int) = (s : Int) := by omega
              have w5 : IntKind.u64.wrap (s : Int) = (s : Int) := wrap_few64 _ (by omega) (by omega)
              have s32 : (s : Int) ≤ 32 := by omega
              have s32n : s ≤ 32 := by omega
              have gj : (j : Int) < 4 := by omega
              have gm : (m : Int) < 32 := by omega
              obtain ⟨y, hy⟩ : ∃ y, x / 2 ^ s = y := ⟨_, rfl⟩
              have hyb := bounds_u8 (Go.wf_wrap .u8 y)
              obtain ⟨cb, hcb⟩ := byte_of (IntKind.u8.wrap y) hyb.1 hyb.2
              have hmD : m < D.length := by omega
              have HT2 : Hid ((D.set m cb).take (4 * i + (j + 1)) = (sumS S).take (4 * i + (j + 1))) := by
                unfold Hid
                rw [show 4 * i + (j + 1) = m + 1 by omega, put_tail D m hmD cb, sumS_at S m (by omega), show m / 4 = i by omega, show m % 4 = j by omega, GQ.out, ← hs, sum_byte x s cb HX0.out (by rw [hy]; exact hcb), hm, HT.out]
              have cO : wr.cell? ⟨bo, m, none⟩ = some (.int .u8 (D[m]).toNat) := by
                rw [cell_of_row _ _ _ _ _ _ HO.out, List.getElem?_toArray]
                exact vb_at D m hmD
              generalize D[m] = b9 at cO
              have fO : wr.frozen? ⟨bo, m, none⟩ = false := frozen_of_row _ _ _ _ _ HO.out
              have HO2 : Hid ((wr.setCell ⟨bo, m, none⟩ (.int .u8 cb.toNat)).heap[bo]? = some (.cells (vb (D.set m cb)).toArray 25)) := by
                have h := heap_setCell_same wr bo m _ _ (.int .u8 cb.toNat) HO.out
                rw [List.setIfInBounds_toArray] at h
                rw [show vb (D.set m cb) = (vb D).set m (.int .u8 cb.toNat) by simp [vb, List.map_set]]
                exact h
              have HR2 : Hid ((wr.setCell ⟨bo, m, none⟩ (.int .u8 cb.toNat)).heap[w.heap.size]? = some (.cells (vb (zer 32)).toArray 25)) := (Below.heap_setCell wr ⟨bo, m, none⟩ _ _ (by show w.heap.size ≠ bo; omega)).trans HR.out
              have HB2 : Hid (Below w.heap.size w (wr.setCell ⟨bo, m, none⟩ (.int .u8 cb.toNat))) := HB.out.setCell (by show w.heap.size ≤ bo; omega) _
              clear hm hs hyb HT HO HR HB hmD
              go_wp2_with fail
              go_roundw
              case rel => exact ⟨j + 1, D.set m cb, by omega, by go_num, by simp [hD], HT2, HO2, HR2, HB2⟩
              case measure => simp [intOf]; omega
            · have hj4 : j = 4 := by omega
              have HT4 : Hid (D.take (4 * (i + 1)) = (sumS S).take (4 * (i + 1))) := by
                have h := HT.out
                rwa [show 4 * i + j = 4 * (i + 1) by omega] at h
              have gj : ¬ (j : Int) < 4 := by omega
              clear HT hj4 hjt hj
              go_wp2_with fail
              go_roundw
              case rel => exact ⟨i + 1, D, by omega, by go_num, hD, HT4, HO, HR, HB⟩
              case measure => simp [intOf]; omega
        · have hi8 : i = 8 := by omega
          have hDe : D = sumS S := by
            have h1 := HT.out
            have h2 := sumS_length S
            rwa [List.take_of_length_le (by omega), List.take_of_length_le (by omega)] at h1
          have HDE : Kept (shaS keysL bs = D) := ⟨by rw [HE2.out, hDe]⟩
          have gi : ¬ (i : Int) < 8 := by omega
          clear hDe HT HE2 hi8 hlt hi
          go_wp2_with (first
            | (refine wpList_load_row rfl 25 _ rfl bo rfl 25 (vb D).toArray (0, 0) _ HO.out Tryd.underlying25 rfl (by rw [vb_size, hD]; exact cells_32) ?_)
            | (refine wp_put_row cells_32 rfl _ _ rfl w.heap.size rfl rfl (by rw [vb_size, hD]) (id_one D) (vb (zer 32)).toArray (by rw [vb_size, zer_length]) 25 HR.out ?hK9))
          intro w9 h9 hg9
          have hb9 : Below w.heap.size w w9 := HB.out.grown hg9 (by have := HB.out.size; omega) (fun k hk => by injection hk with hk; omega)
          go_wp2_with fail
          exact bodyPost_ret (v := .agg (vb D).toArray) (results_cell_row Tryd.results53 _ w9 w.heap.size 25 (vb D).toArray (0, 0) _ rfl h9 Tryd.underlying25 rfl (by rw [vb_size, hD]; exact cells_32)) rfl ⟨by rw [HDE.out], hb9⟩

end Go.Proofs.YthbahbcihaebeaaDoor.Cd
