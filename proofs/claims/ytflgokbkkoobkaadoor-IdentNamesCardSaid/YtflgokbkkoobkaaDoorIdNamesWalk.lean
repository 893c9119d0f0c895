/-
  IdentNames answers true. Conditions: the rounds' numbers lie in their variable.
-/
import Derived.Test.YtflgokbkkoobkaaDoorRefSha
import Derived.Test.YtflgokbkkoobkaaDoorIdRef
import Derived.Test.YtflgokbkkoobkaaDoorIdName
import Derived.Test.YtflgokbkkoobkaaDoorIdPartsWalk
import Derived.Test.YtflgokbkkoobkaaDoorSkipAt
namespace Go.Proofs.YtflgokbkkoobkaaDoor.Cd
open Go.RowKit Go.ChangeShapes Go.WideShapes

set_option maxRecDepth 100000 in
theorem keys_data {H : Type} {enc : TypeId × Value → H} {W : World} {base fuel : Nat} {spare : Nat → Bool} {held : Bool} {cs : List Value} {p : List MemPlace}
    (h : DataW.trod enc Tryd.prog W base spare held fuel 102 cs = some ((Rows.laid_rootstock_sha_roundKeys : DataW H), p)) (j : Nat) (hj : j < keysL.length) : cs[j]? = some (.int .u32 keysL[j]) := by
  obtain ⟨xs, m, _, hx, hl2, hl3, hf⟩ := DataW.trod_array Tryd.underlying102 h
  have hcu : Tryd.prog.cellsOf 73 = 1 := by kernel_rfl
  have hj64 : j < 64 := hj
  have e1 : (Rows.laid_rootstock_sha_roundKeys : DataW H) = .agg (keysL.map fun k => .lit (.int .u32 k)) := rfl
  have e2 : xs.map (·.1) = keysL.map fun k => (.lit (.int .u32 k) : DataW H) := by
    have e3 := congrArg Prod.fst hx
    rw [e1] at e3
    injection e3 with e3
    exact e3.symm
  have h3 := hf j hj64
  rw [List.getElem?_eq_getElem (by omega)] at h3
  obtain ⟨a, ha, hb, _⟩ := DataW.trod_int Tryd.underlying73 h3
  have h5 := congrArg (fun l => l[j]?) e2
  simp only [List.getElem?_map] at h5
  rw [List.getElem?_eq_getElem (by omega), List.getElem?_eq_getElem hj, hb] at h5
  injection h5 with h5
  injection h5 with h5
  injection h5 with _ h5
  subst h5
  have h4 := congrArg (fun l => l[0]?) ha
  simpa [hcu, List.getElem?_take, List.getElem?_drop] using h4
/-- The rounds' numbers lie where a law begins. -/
theorem keys_x {W : World} (h : laidMetH Tryd.prog [("rootstock/sha.roundKeys", Rows.laid_rootstock_sha_roundKeys)] W) : KeysIs keysL W := by
  rw [MakeChecks.laidMetH_plain _ _ _ (by kernel_rfl)] at h
  obtain ⟨ps, ⟨g, t, cs, fuel, p, q, hg, ht, hv, hd, _, _⟩, _, _⟩ := h
  obtain rfl := Option.some.inj ((show Tryd.prog.globalNamed "rootstock/sha.roundKeys" = some 0 by kernel_rfl).symm.trans hg)
  obtain rfl := Option.some.inj ((show (Tryd.prog.globals[0]?).map (·.type) = some 102 by kernel_rfl).symm.trans ht)
  have hcell : ∀ (j : Nat) (hj : j < keysL.length), W.cell? ⟨0, j, none⟩ = some (.int .u32 keysL[j]) := fun j hj => by
    have hc := World.var?_cell hg hv j
    rw [hc, ← Array.getElem?_toList]
    exact keys_data hd j hj
  exact ⟨World.block_lt_of_cell? W _ (hcell 0 (by decide)), rfl, hcell⟩

set_option maxRecDepth 100000 in
set_option maxHeartbeats 1600000 in
theorem rtext_fnv (l : List UInt8) (w : World) (hl : l.length ≤ 4096) : Calls Tryd.prog 24 #[.int .u8 1, .string ⟨l.toArray⟩] w (Gives (.string ⟨(1 :: be8 (mor fnv0 l)).toArray⟩) w) := by
  have hsum := ref_sum_any l w (by omega)
  have hlt : mor fnv0 l < 18446744073709551616 := mor_lt _ _ (by unfold fnv0; omega)
  generalize mor fnv0 l = m at hsum hlt ⊢
  have HS := Lib.hid hsum
  clear hsum
  have hbt := ref_bytes_any m w hlt
  have h8 : (be8 m).length = 8 := rfl
  have e1 : (1 : UInt8) :: be8 m = [1] ++ be8 m := rfl
  rw [e1]
  generalize be8 m = B at hbt h8 ⊢
  have hadd := fun W => text_add W [1] B (by rw [h8]; decide)
  have HB := Lib.hid hbt
  clear hbt e1
  go_enter Tryd.func24, Tryd.ntmps24
  go_wp2_with fail
  refine HS.out.mono ?_
  rintro e w1 ⟨rfl, rfl⟩
  go_wp2_with fail
  refine HB.out.mono ?_
  rintro e w2 ⟨rfl, hb2⟩
  go_wp2_with fail
  go_ret
  exact ⟨rfl, hb2⟩

set_option maxRecDepth 100000 in
set_option maxHeartbeats 1600000 in
theorem rtext_sha (l : List UInt8) (w : World) (hl : l.length ≤ 4096) : Calls Tryd.prog 24 #[.int .u8 2, .string ⟨l.toArray⟩] w (Gives (.string ⟨(2 :: shaS keysL l).toArray⟩) w) := by
  have h32 := shaS_length keysL l
  have hof : ∀ W v, Sl W W.heap.size v l → Calls Tryd.prog 39 #[v] W (Gives (.agg (vb (shaS keysL l)).toArray) W) := fun W v h => rshof_x v l W h (by omega)
  have e1 : (2 : UInt8) :: shaS keysL l = [2] ++ shaS keysL l := rfl
  rw [e1]
  generalize shaS keysL l = B at hof h32 ⊢
  have hadd := fun W => text_add W [2] B (by rw [h32]; decide)
  have HOF := Lib.hid hof
  have H32 := Lib.hid h32
  clear hof e1 h32
  go_enter Tryd.func24, Tryd.ntmps24
  go_wp2_with (refine wp_bytes_of rfl _ rfl l rfl (by omega) ?_)
  intro g c w1 hrow _ hb1
  have HB1 := Lib.hid hb1
  have HROW := Lib.hid hrow
  clear hb1 hrow
  go_wp2_with fail
  refine (HOF.out w1 _ HROW.out.sl).mono ?_
  rintro e w2 ⟨rfl, hb2⟩
  have HB2 := Lib.hid (HB1.out.trans (hb2.mono HB1.out.size))
  clear hb2 HROW HB1
  have hsl := sl_row w2 B 24 32 H32.out.symm (by simp [maxLen])
  have htx := run_text_of _ _ _ B hsl
  have HB3 := Lib.hid (HB2.out.alloc HB2.out.size (.cells (vb B).toArray 24))
  clear hsl
  go_wp2_with (first
    | (refine wp_alloc_row zero_32 rfl rfl ?_)
    | (refine wp_fill_32 rfl _ _ rfl rfl (by simp [Act.eval, Act.put]) B H32.out rfl ?_))
  go_ret
  exact ⟨rfl, HB3.out⟩

set_option maxRecDepth 100000 in
set_option maxHeartbeats 1600000 in
theorem rtext_other (K : Int) (l : List UInt8) (w : World) (e1 : (K == 1) = false) (e2 : (K == 2) = false) : Calls Tryd.prog 24 #[.int .u8 K, .string ⟨l.toArray⟩] w (Gives (.string ⟨([] : List UInt8).toArray⟩) w) := by
  go_enter Tryd.func24, Tryd.ntmps24
  go_wp2_with fail
  go_ret
  exact ⟨rfl, Below.refl _ _⟩

set_option maxRecDepth 100000 in
set_option maxHeartbeats 1600000 in
theorem rof_gen (K : Int) (l T L : List UInt8) (w : World) (hL : L.length = 33) (hT : ∀ W, Calls Tryd.prog 24 #[.int .u8 K, .string ⟨l.toArray⟩] W (Gives (.string ⟨T.toArray⟩) W))
    (hI : ∀ W, Calls Tryd.prog 23 #[.string ⟨T.toArray⟩] W (Gives (idV L) W)) : Calls Tryd.prog 8 #[.int .u8 K, .string ⟨l.toArray⟩] w (Gives (idV L) w) := by
  have HT := Lib.hid hT
  have HI := Lib.hid hI
  have HL := Lib.hid hL
  clear hT hI hL
  have hb0 : Below w.heap.size w (w.alloc (.cells (vb (zer 33)).toArray 26)) := (Below.refl _ _).alloc (Nat.le_refl _) _
  have hi0 := IdAt.new w (zer 33)
  have hs0 : (w.alloc (.cells (vb (zer 33)).toArray 26)).heap.size = w.heap.size + 1 := asz _ _
  go_enter Tryd.func8, Tryd.ntmps8
  go_wp2_with (refine wp_alloc_row zero_id rfl rfl ?_)
  generalize w.alloc (.cells (vb (zer 33)).toArray 26) = w1 at hb0 hi0 hs0 ⊢
  have HB := Lib.hid hb0
  have HI0 := Lib.hid hi0
  have hs1 : w.heap.size + 1 ≤ w1.heap.size := by omega
  clear hb0 hi0 hs0
  refine (HT.out w1).mono ?_
  rintro e w2 ⟨rfl, hb2⟩
  have HB2 := Lib.hid (HB.out.trans (hb2.mono (by omega)))
  have HI2 : Hid (IdAt w2 w.heap.size (zer 33)) := HI0.out.below hb2 (by omega)
  have hs2 : w.heap.size + 1 ≤ w2.heap.size := by have := hb2.size; omega
  clear hb2 HB HI0
  go_wp2_with fail
  refine (HI.out w2).mono ?_
  rintro e w3 ⟨rfl, hb3⟩
  have HB3 := Lib.hid (HB2.out.trans (hb3.mono (by omega)))
  have HI3 : Hid (IdAt w3 w.heap.size (zer 33)) := HI2.out.below hb3 (by omega)
  have hs3 : w.heap.size + 1 ≤ w3.heap.size := by have := hb3.size; omega
  clear hb3 HB2 HI2
  go_wp2_with (refine wp_put_id rfl _ _ rfl w.heap.size rfl L HL.out rfl (zer 33) (zer_length _) HI3.out ?hK)
  intro w6 h6 hg6
  have hb6 : Below w.heap.size w w6 := HB3.out.grown hg6 (by omega) (fun k hk => by injection hk with hk; omega)
  go_wp2_with fail
  exact bodyPost_ret (v := idV L) (ret_id Tryd.results8 _ _ w.heap.size L HL.out rfl h6) rfl ⟨rfl, hb6⟩
theorem exec_zero_id {W : World} {op : Oper} {a : Act} (ho : op.op = .build 26 #[]) : (execOp a.eval op).run Tryd.prog W = .ok (.value (idV (zer 33))) W := by
  have h : (Instr.build 26 #[]).run Tryd.prog W = .ok (idV (zer 33)) W := by kernel_rfl
  simp [execOp, ho, h]
/-- ident.Of by Sha. -/
theorem of_shaX (v : Value) (bs : List UInt8) (w : World) (h : Sl w w.heap.size v bs) (hk : KeysIs keysL w) (hl : bs.length ≤ 1048576) : Calls Tryd.prog 7 #[.int .u8 2, v] w (Gives (idV (ofS (shaS keysL bs))) w) :=
  of_sha v bs (shaS keysL bs) w h (shaS_length _ _) fun W u hW hu => by
    have h := shof_x keysL u [bs] W hu (hk.below hW hk.1) (by simp; omega)
    rwa [show [bs].flatten = bs by simp] at h
set_option maxRecDepth 100000 in
set_option maxHeartbeats 3200000 in
theorem names_one (n : Nat) (L : List UInt8) (v : Value) (bs : List UInt8) (w : World) (h : Sl w w.heap.size v bs) (hl : bs.length ≤ 4096) (hL : L.length = 33)
    (hof : ∀ W u, Below w.heap.size w W → Sl W W.heap.size u bs → Calls Tryd.prog 7 #[.int .u8 1, u] W (Gives (idV L) W))
    (hrof : ∀ W, Calls Tryd.prog 8 #[.int .u8 1, .string ⟨bs.toArray⟩] W (Gives (idV L) W))
    (hsz : ∀ W, Calls Tryd.prog 9 #[.int .u8 1] W fun e w' => e = .returned (.int .i64 n) ∧ W = w')
    (hrsz : ∀ W, Calls Tryd.prog 10 #[.int .u8 1] W fun e w' => e = .returned (.int .i64 n) ∧ W = w') :
    Calls Tryd.prog 3 #[.int .u8 1, v] w (Gives (.bool true) w) := by
  have H := Lib.hid h
  obtain ⟨A, c, rfl, _, _⟩ := h.len
  have HOF := Lib.hid hof
  have HROF := Lib.hid hrof
  have HSZ := Lib.hid hsz
  have HRSZ := Lib.hid hrsz
  have HL := Lib.hid hL
  have HLL : Hid ((L == L) = true) := by unfold Hid; simp
  clear h hof hrof hsz hrsz hL
  go_enter Tryd.func3, Tryd.ntmps3
  go_wp2_with fail
  refine (ialive_any w).mono ?_
  rintro e w1 ⟨rfl, hb1⟩
  have hs1 := hb1.size
  have HB1 := Lib.hid hb1
  clear hb1
  go_wp2_with fail
  refine (HOF.out w1 _ HB1.out ((H.out.below HB1.out).more hs1)).mono ?_
  rintro e w2 ⟨rfl, hb2⟩
  have HB2 := Lib.hid (HB1.out.trans (hb2.mono hs1))
  have hs2 := HB2.out.size
  clear hb2 HB1
  have hb3 : Below w.heap.size w (w2.alloc (.cells (vb L).toArray 26)) := HB2.out.alloc hs2 _
  have hi3 := IdAt.new w2 L
  have hs3 : (w2.alloc (.cells (vb L).toArray 26)).heap.size = w2.heap.size + 1 := asz _ _
  go_wp2_with (first
    | (refine wp_alloc_row zero_id rfl rfl ?_)
    | (refine wp_fill_id rfl _ _ rfl rfl (by first | rfl | simp [Act.eval, Act.put]) L HL.out (by first | rfl | simp [Act.eval, Act.put]) ?_))
  generalize w2.alloc (.cells (vb L).toArray 26) = w3 at hb3 hi3 hs3 ⊢
  obtain ⟨W0, hW0⟩ : ∃ x, w3.drew = x := ⟨_, rfl⟩
  have HI0 : Hid (IdAt W0 w2.heap.size L) := by rw [← hW0]; exact hi3.drew
  have HB0 : Hid (Below w.heap.size w W0) := by rw [← hW0]; exact hb3.drew
  have hs0 : w2.heap.size < W0.heap.size := by rw [← hW0]; show _ < w3.heap.size; omega
  have HS0 : Hid (Sl W0 W0.heap.size (.slice A bs.length c) bs) := (H.out.below HB0.out).more HB0.out.size
  clear hi3 hb3 hs3 HB2
  have hS0 : Below W0.heap.size W0 W0 := Below.refl _ _
  refine region_begin hW0 (S := fun W => Below W0.heap.size W0 W) (by kernel_rfl) hS0 (fun hHeld => ?_)
  clear hW0 hS0
  refine take_at (i := 0) (idV L) (some 14) (by decide) (by rfl) (by kernel_rfl) (by kernel_rfl) (by kernel_rfl) (fun _ _ _ h => h) (by rfl) (fun W hW => by exact exec_load_id (HI0.out.below hW (by omega)) HL.out _ rfl rfl) (by assumption) ?_
  try simp only [Act.put, List.setIfInBounds_toArray, List.set_cons_zero, List.set_cons_succ]
  refine take_at (i := 1) (.int .u8 1) (some 15) (by decide) (by rfl) (by kernel_rfl) (by kernel_rfl) (by kernel_rfl) (fun _ _ _ h => h) (by rfl) (fun W hW => by go_simp) (by assumption) ?_
  try simp only [Act.put, List.setIfInBounds_toArray, List.set_cons_zero, List.set_cons_succ]
  refine take_at (i := 2) (.slice A bs.length c) (some 16) (by decide) (by rfl) (by kernel_rfl) (by kernel_rfl) (by kernel_rfl) (fun _ _ _ h => h) (by rfl) (fun W hW => by go_simp) (by assumption) ?_
  try simp only [Act.put, List.setIfInBounds_toArray, List.set_cons_zero, List.set_cons_succ]
  refine take_at (i := 3) (.string ⟨bs.toArray⟩) (some 17) (by decide) (by rfl) (by kernel_rfl) (by kernel_rfl) (by kernel_rfl) (fun _ _ _ h => h) (by rfl) (fun W hW => by have h9 := run_text_of W _ _ bs (HS0.out.below hW); go_simp) (by assumption) ?_
  try simp only [Act.put, List.setIfInBounds_toArray, List.set_cons_zero, List.set_cons_succ]
  refine wpAnyH_ready (rs := [4]) (by kernel_rfl) (by simp) (AllReadyH.cons (Array.getElem?_eq_getElem (i := 4) (by decide)) (fun K9 hK => ?_) AllReadyH.nil)
  go_simp
  refine (HROF.out _).mono ?_
  rintro e w4 ⟨rfl, hb4⟩
  refine hK.out _ _ (hHeld.trans (hb4.mono hHeld.size)) (fun hHeld => ?_)
  clear hK K9
  try simp only [Act.put, List.setIfInBounds_toArray, List.set_cons_zero, List.set_cons_succ]
  clear hb4
  refine take_at (i := 5) (.bool (L == L)) (some 19) (by decide) (by rfl) (by kernel_rfl) (by kernel_rfl) (by kernel_rfl) (fun _ _ _ h => h) (by rfl) (fun W hW => by exact exec_eql_id _ _ _ rfl L L HL.out HL.out rfl rfl) (by assumption) ?_
  try simp only [Act.put, List.setIfInBounds_toArray, List.set_cons_zero, List.set_cons_succ]
  rw [HLL.out]
  refine take_at (i := 6) (.bool true) (some 20) (by decide) (by rfl) (by kernel_rfl) (by kernel_rfl) (by kernel_rfl) (fun _ _ _ h => h) (by rfl) (fun W hW => by go_simp) (by assumption) ?_
  try simp only [Act.put, List.setIfInBounds_toArray, List.set_cons_zero, List.set_cons_succ]
  refine take_at (i := 7) (.int .u8 1) (some 21) (by decide) (by rfl) (by kernel_rfl) (by kernel_rfl) (by kernel_rfl) (fun _ _ _ h => h) (by rfl) (fun W hW => by go_simp) (by assumption) ?_
  try simp only [Act.put, List.setIfInBounds_toArray, List.set_cons_zero, List.set_cons_succ]
  refine take_at (i := 9) (.int .u8 1) (some 23) (by decide) (by rfl) (by kernel_rfl) (by kernel_rfl) (by kernel_rfl) (fun _ _ _ h => h) (by rfl) (fun W hW => by go_simp) (by assumption) ?_
  try simp only [Act.put, List.setIfInBounds_toArray, List.set_cons_zero, List.set_cons_succ]
  refine wpAnyH_ready (rs := [8]) (by kernel_rfl) (by simp) (AllReadyH.cons (Array.getElem?_eq_getElem (i := 8) (by decide)) (fun K9 hK => ?_) AllReadyH.nil)
  go_simp
  refine (HSZ.out _).mono ?_
  rintro e w5 ⟨rfl, rfl⟩
  refine hK.out _ _ (hHeld) (fun hHeld => ?_)
  clear hK K9
  try simp only [Act.put, List.setIfInBounds_toArray, List.set_cons_zero, List.set_cons_succ]
  refine wpAnyH_ready (rs := [10]) (by kernel_rfl) (by simp) (AllReadyH.cons (Array.getElem?_eq_getElem (i := 10) (by decide)) (fun K9 hK => ?_) AllReadyH.nil)
  go_simp
  refine (HRSZ.out _).mono ?_
  rintro e w6 ⟨rfl, rfl⟩
  refine hK.out _ _ (hHeld) (fun hHeld => ?_)
  clear hK K9
  try simp only [Act.put, List.setIfInBounds_toArray, List.set_cons_zero, List.set_cons_succ]
  refine take_at (i := 11) (.bool true) (some 25) (by decide) (by rfl) (by kernel_rfl) (by kernel_rfl) (by kernel_rfl) (fun _ _ _ h => h) (by rfl) (fun W hW => by go_simp) (by assumption) ?_
  try simp only [Act.put, List.setIfInBounds_toArray, List.set_cons_zero, List.set_cons_succ]
  refine take_at (i := 12) (.bool true) (some 26) (by decide) (by rfl) (by kernel_rfl) (by kernel_rfl) (by kernel_rfl) (fun _ _ _ h => h) (by rfl) (fun W hW => by go_simp) (by assumption) ?_
  try simp only [Act.put, List.setIfInBounds_toArray, List.set_cons_zero, List.set_cons_succ]
  refine take_at (i := 13) (.bool true) (some 27) (by decide) (by rfl) (by kernel_rfl) (by kernel_rfl) (by kernel_rfl) (fun _ _ _ h => h) (by rfl) (fun W hW => by go_simp) (by assumption) ?_
  try simp only [Act.put, List.setIfInBounds_toArray, List.set_cons_zero, List.set_cons_succ]
  refine take_at (i := 14) (.int .u8 1) (some 28) (by decide) (by rfl) (by kernel_rfl) (by kernel_rfl) (by kernel_rfl) (fun _ _ _ h => h) (by rfl) (fun W hW => by go_simp) (by assumption) ?_
  try simp only [Act.put, List.setIfInBounds_toArray, List.set_cons_zero, List.set_cons_succ]
  refine take_at (i := 15) (.bool true) (some 29) (by decide) (by rfl) (by kernel_rfl) (by kernel_rfl) (by kernel_rfl) (fun _ _ _ h => h) (by rfl) (fun W hW => by go_simp) (by assumption) ?_
  try simp only [Act.put, List.setIfInBounds_toArray, List.set_cons_zero, List.set_cons_succ]
  refine take_at (i := 16) (.bool true) (some 30) (by decide) (by rfl) (by kernel_rfl) (by kernel_rfl) (by kernel_rfl) (fun _ _ _ h => h) (by rfl) (fun W hW => by go_simp) (by assumption) ?_
  try simp only [Act.put, List.setIfInBounds_toArray, List.set_cons_zero, List.set_cons_succ]
  refine skip_at (i := 17) (some 31) (by decide) (by rfl) (by kernel_rfl) (by kernel_rfl) (by kernel_rfl) (fun _ _ _ h => h) (by rfl) (by assumption) ?_
  try simp only [Act.put, List.setIfInBounds_toArray, List.set_cons_zero, List.set_cons_succ]
  refine skip_at (i := 18) (some 32) (by decide) (by rfl) (by kernel_rfl) (by kernel_rfl) (by kernel_rfl) (fun _ _ _ h => h) (by rfl) (by assumption) ?_
  try simp only [Act.put, List.setIfInBounds_toArray, List.set_cons_zero, List.set_cons_succ]
  refine take_at (i := 19) (.bool true) (some 33) (by decide) (by rfl) (by kernel_rfl) (by kernel_rfl) (by kernel_rfl) (fun _ _ _ h => h) (by rfl) (fun W hW => by go_simp) (by assumption) ?_
  try simp only [Act.put, List.setIfInBounds_toArray, List.set_cons_zero, List.set_cons_succ]
  refine take_at (i := 20) (.bool true) (some 34) (by decide) (by rfl) (by kernel_rfl) (by kernel_rfl) (by kernel_rfl) (fun _ _ _ h => h) (by rfl) (fun W hW => by go_simp) (by assumption) ?_
  try simp only [Act.put, List.setIfInBounds_toArray, List.set_cons_zero, List.set_cons_succ]
  refine skip_at (i := 21) (some 35) (by decide) (by rfl) (by kernel_rfl) (by kernel_rfl) (by kernel_rfl) (fun _ _ _ h => h) (by rfl) (by assumption) ?_
  try simp only [Act.put, List.setIfInBounds_toArray, List.set_cons_zero, List.set_cons_succ]
  refine skip_at (i := 22) (some 36) (by decide) (by rfl) (by kernel_rfl) (by kernel_rfl) (by kernel_rfl) (fun _ _ _ h => h) (by rfl) (by assumption) ?_
  try simp only [Act.put, List.setIfInBounds_toArray, List.set_cons_zero, List.set_cons_succ]
  refine skip_at (i := 23) (some 37) (by decide) (by rfl) (by kernel_rfl) (by kernel_rfl) (by kernel_rfl) (fun _ _ _ h => h) (by rfl) (by assumption) ?_
  try simp only [Act.put, List.setIfInBounds_toArray, List.set_cons_zero, List.set_cons_succ]
  refine take_at (i := 24) (.bool true) (some 38) (by decide) (by rfl) (by kernel_rfl) (by kernel_rfl) (by kernel_rfl) (fun _ _ _ h => h) (by rfl) (fun W hW => by go_simp) (by assumption) ?_
  try simp only [Act.put, List.setIfInBounds_toArray, List.set_cons_zero, List.set_cons_succ]
  refine take_at (i := 25) (.bool true) (some 39) (by decide) (by rfl) (by kernel_rfl) (by kernel_rfl) (by kernel_rfl) (fun _ _ _ h => h) (by rfl) (fun W hW => by go_simp) (by assumption) ?_
  try simp only [Act.put, List.setIfInBounds_toArray, List.set_cons_zero, List.set_cons_succ]
  refine take_at (i := 26) (.bool true) (some 4) (by decide) (by rfl) (by kernel_rfl) (by kernel_rfl) (by kernel_rfl) (fun _ _ _ h => h) (by rfl) (fun W hW => by go_simp) (by assumption) ?_
  try simp only [Act.put, List.setIfInBounds_toArray, List.set_cons_zero, List.set_cons_succ]
  refine wpAnyH_done (by kernel_rfl) ?_ _
  try simp only [Act.put, List.setIfInBounds_toArray, List.set_cons_zero, List.set_cons_succ]
  have hbe : Below w.heap.size w _ := HB0.out.trans (hHeld.mono HB0.out.size)
  go_wp2_with fail
  go_ret
  exact ⟨rfl, hbe⟩

set_option maxRecDepth 100000 in
set_option maxHeartbeats 3200000 in
theorem names_two (n : Nat) (L : List UInt8) (v : Value) (bs : List UInt8) (w : World) (h : Sl w w.heap.size v bs) (hl : bs.length ≤ 4096) (hL : L.length = 33)
    (hof : ∀ W u, Below w.heap.size w W → Sl W W.heap.size u bs → Calls Tryd.prog 7 #[.int .u8 2, u] W (Gives (idV L) W))
    (hrof : ∀ W, Calls Tryd.prog 8 #[.int .u8 2, .string ⟨bs.toArray⟩] W (Gives (idV L) W))
    (hsz : ∀ W, Calls Tryd.prog 9 #[.int .u8 2] W fun e w' => e = .returned (.int .i64 n) ∧ W = w')
    (hrsz : ∀ W, Calls Tryd.prog 10 #[.int .u8 2] W fun e w' => e = .returned (.int .i64 n) ∧ W = w') :
    Calls Tryd.prog 3 #[.int .u8 2, v] w (Gives (.bool true) w) := by
  have H := Lib.hid h
  obtain ⟨A, c, rfl, _, _⟩ := h.len
  have HOF := Lib.hid hof
  have HROF := Lib.hid hrof
  have HSZ := Lib.hid hsz
  have HRSZ := Lib.hid hrsz
  have HL := Lib.hid hL
  have HLL : Hid ((L == L) = true) := by unfold Hid; simp
  clear h hof hrof hsz hrsz hL
  go_enter Tryd.func3, Tryd.ntmps3
  go_wp2_with fail
  refine (ialive_any w).mono ?_
  rintro e w1 ⟨rfl, hb1⟩
  have hs1 := hb1.size
  have HB1 := Lib.hid hb1
  clear hb1
  go_wp2_with fail
  refine (HOF.out w1 _ HB1.out ((H.out.below HB1.out).more hs1)).mono ?_
  rintro e w2 ⟨rfl, hb2⟩
  have HB2 := Lib.hid (HB1.out.trans (hb2.mono hs1))
  have hs2 := HB2.out.size
  clear hb2 HB1
  have hb3 : Below w.heap.size w (w2.alloc (.cells (vb L).toArray 26)) := HB2.out.alloc hs2 _
  have hi3 := IdAt.new w2 L
  have hs3 : (w2.alloc (.cells (vb L).toArray 26)).heap.size = w2.heap.size + 1 := asz _ _
  go_wp2_with (first
    | (refine wp_alloc_row zero_id rfl rfl ?_)
    | (refine wp_fill_id rfl _ _ rfl rfl (by first | rfl | simp [Act.eval, Act.put]) L HL.out (by first | rfl | simp [Act.eval, Act.put]) ?_))
  generalize w2.alloc (.cells (vb L).toArray 26) = w3 at hb3 hi3 hs3 ⊢
  obtain ⟨W0, hW0⟩ : ∃ x, w3.drew = x := ⟨_, rfl⟩
  have HI0 : Hid (IdAt W0 w2.heap.size L) := by rw [← hW0]; exact hi3.drew
  have HB0 : Hid (Below w.heap.size w W0) := by rw [← hW0]; exact hb3.drew
  have hs0 : w2.heap.size < W0.heap.size := by rw [← hW0]; show _ < w3.heap.size; omega
  have HS0 : Hid (Sl W0 W0.heap.size (.slice A bs.length c) bs) := (H.out.below HB0.out).more HB0.out.size
  clear hi3 hb3 hs3 HB2
  have hS0 : Below W0.heap.size W0 W0 := Below.refl _ _
  refine region_begin hW0 (S := fun W => Below W0.heap.size W0 W) (by kernel_rfl) hS0 (fun hHeld => ?_)
  clear hW0 hS0
  refine take_at (i := 0) (idV L) (some 14) (by decide) (by rfl) (by kernel_rfl) (by kernel_rfl) (by kernel_rfl) (fun _ _ _ h => h) (by rfl) (fun W hW => by exact exec_load_id (HI0.out.below hW (by omega)) HL.out _ rfl rfl) (by assumption) ?_
  try simp only [Act.put, List.setIfInBounds_toArray, List.set_cons_zero, List.set_cons_succ]
  refine take_at (i := 1) (.int .u8 2) (some 15) (by decide) (by rfl) (by kernel_rfl) (by kernel_rfl) (by kernel_rfl) (fun _ _ _ h => h) (by rfl) (fun W hW => by go_simp) (by assumption) ?_
  try simp only [Act.put, List.setIfInBounds_toArray, List.set_cons_zero, List.set_cons_succ]
  refine take_at (i := 2) (.slice A bs.length c) (some 16) (by decide) (by rfl) (by kernel_rfl) (by kernel_rfl) (by kernel_rfl) (fun _ _ _ h => h) (by rfl) (fun W hW => by go_simp) (by assumption) ?_
  try simp only [Act.put, List.setIfInBounds_toArray, List.set_cons_zero, List.set_cons_succ]
  refine take_at (i := 3) (.string ⟨bs.toArray⟩) (some 17) (by decide) (by rfl) (by kernel_rfl) (by kernel_rfl) (by kernel_rfl) (fun _ _ _ h => h) (by rfl) (fun W hW => by have h9 := run_text_of W _ _ bs (HS0.out.below hW); go_simp) (by assumption) ?_
  try simp only [Act.put, List.setIfInBounds_toArray, List.set_cons_zero, List.set_cons_succ]
  refine wpAnyH_ready (rs := [4]) (by kernel_rfl) (by simp) (AllReadyH.cons (Array.getElem?_eq_getElem (i := 4) (by decide)) (fun K9 hK => ?_) AllReadyH.nil)
  go_simp
  refine (HROF.out _).mono ?_
  rintro e w4 ⟨rfl, hb4⟩
  refine hK.out _ _ (hHeld.trans (hb4.mono hHeld.size)) (fun hHeld => ?_)
  clear hK K9
  try simp only [Act.put, List.setIfInBounds_toArray, List.set_cons_zero, List.set_cons_succ]
  clear hb4
  refine take_at (i := 5) (.bool (L == L)) (some 19) (by decide) (by rfl) (by kernel_rfl) (by kernel_rfl) (by kernel_rfl) (fun _ _ _ h => h) (by rfl) (fun W hW => by exact exec_eql_id _ _ _ rfl L L HL.out HL.out rfl rfl) (by assumption) ?_
  try simp only [Act.put, List.setIfInBounds_toArray, List.set_cons_zero, List.set_cons_succ]
  rw [HLL.out]
  refine take_at (i := 6) (.bool true) (some 20) (by decide) (by rfl) (by kernel_rfl) (by kernel_rfl) (by kernel_rfl) (fun _ _ _ h => h) (by rfl) (fun W hW => by go_simp) (by assumption) ?_
  try simp only [Act.put, List.setIfInBounds_toArray, List.set_cons_zero, List.set_cons_succ]
  refine take_at (i := 7) (.int .u8 2) (some 21) (by decide) (by rfl) (by kernel_rfl) (by kernel_rfl) (by kernel_rfl) (fun _ _ _ h => h) (by rfl) (fun W hW => by go_simp) (by assumption) ?_
  try simp only [Act.put, List.setIfInBounds_toArray, List.set_cons_zero, List.set_cons_succ]
  refine take_at (i := 9) (.int .u8 2) (some 23) (by decide) (by rfl) (by kernel_rfl) (by kernel_rfl) (by kernel_rfl) (fun _ _ _ h => h) (by rfl) (fun W hW => by go_simp) (by assumption) ?_
  try simp only [Act.put, List.setIfInBounds_toArray, List.set_cons_zero, List.set_cons_succ]
  refine wpAnyH_ready (rs := [8]) (by kernel_rfl) (by simp) (AllReadyH.cons (Array.getElem?_eq_getElem (i := 8) (by decide)) (fun K9 hK => ?_) AllReadyH.nil)
  go_simp
  refine (HSZ.out _).mono ?_
  rintro e w5 ⟨rfl, rfl⟩
  refine hK.out _ _ (hHeld) (fun hHeld => ?_)
  clear hK K9
  try simp only [Act.put, List.setIfInBounds_toArray, List.set_cons_zero, List.set_cons_succ]
  refine wpAnyH_ready (rs := [10]) (by kernel_rfl) (by simp) (AllReadyH.cons (Array.getElem?_eq_getElem (i := 10) (by decide)) (fun K9 hK => ?_) AllReadyH.nil)
  go_simp
  refine (HRSZ.out _).mono ?_
  rintro e w6 ⟨rfl, rfl⟩
  refine hK.out _ _ (hHeld) (fun hHeld => ?_)
  clear hK K9
  try simp only [Act.put, List.setIfInBounds_toArray, List.set_cons_zero, List.set_cons_succ]
  refine take_at (i := 11) (.bool true) (some 25) (by decide) (by rfl) (by kernel_rfl) (by kernel_rfl) (by kernel_rfl) (fun _ _ _ h => h) (by rfl) (fun W hW => by go_simp) (by assumption) ?_
  try simp only [Act.put, List.setIfInBounds_toArray, List.set_cons_zero, List.set_cons_succ]
  refine take_at (i := 12) (.bool true) (some 26) (by decide) (by rfl) (by kernel_rfl) (by kernel_rfl) (by kernel_rfl) (fun _ _ _ h => h) (by rfl) (fun W hW => by go_simp) (by assumption) ?_
  try simp only [Act.put, List.setIfInBounds_toArray, List.set_cons_zero, List.set_cons_succ]
  refine take_at (i := 13) (.bool true) (some 27) (by decide) (by rfl) (by kernel_rfl) (by kernel_rfl) (by kernel_rfl) (fun _ _ _ h => h) (by rfl) (fun W hW => by go_simp) (by assumption) ?_
  try simp only [Act.put, List.setIfInBounds_toArray, List.set_cons_zero, List.set_cons_succ]
  refine take_at (i := 14) (.int .u8 2) (some 28) (by decide) (by rfl) (by kernel_rfl) (by kernel_rfl) (by kernel_rfl) (fun _ _ _ h => h) (by rfl) (fun W hW => by go_simp) (by assumption) ?_
  try simp only [Act.put, List.setIfInBounds_toArray, List.set_cons_zero, List.set_cons_succ]
  refine take_at (i := 15) (.bool false) (some 29) (by decide) (by rfl) (by kernel_rfl) (by kernel_rfl) (by kernel_rfl) (fun _ _ _ h => h) (by rfl) (fun W hW => by go_simp) (by assumption) ?_
  try simp only [Act.put, List.setIfInBounds_toArray, List.set_cons_zero, List.set_cons_succ]
  refine take_at (i := 16) (.bool false) (some 30) (by decide) (by rfl) (by kernel_rfl) (by kernel_rfl) (by kernel_rfl) (fun _ _ _ h => h) (by rfl) (fun W hW => by go_simp) (by assumption) ?_
  try simp only [Act.put, List.setIfInBounds_toArray, List.set_cons_zero, List.set_cons_succ]
  refine take_at (i := 17) (.int .u8 2) (some 31) (by decide) (by rfl) (by kernel_rfl) (by kernel_rfl) (by kernel_rfl) (fun _ _ _ h => h) (by rfl) (fun W hW => by go_simp) (by assumption) ?_
  try simp only [Act.put, List.setIfInBounds_toArray, List.set_cons_zero, List.set_cons_succ]
  refine take_at (i := 18) (.bool true) (some 32) (by decide) (by rfl) (by kernel_rfl) (by kernel_rfl) (by kernel_rfl) (fun _ _ _ h => h) (by rfl) (fun W hW => by go_simp) (by assumption) ?_
  try simp only [Act.put, List.setIfInBounds_toArray, List.set_cons_zero, List.set_cons_succ]
  refine take_at (i := 19) (.bool true) (some 33) (by decide) (by rfl) (by kernel_rfl) (by kernel_rfl) (by kernel_rfl) (fun _ _ _ h => h) (by rfl) (fun W hW => by go_simp) (by assumption) ?_
  try simp only [Act.put, List.setIfInBounds_toArray, List.set_cons_zero, List.set_cons_succ]
  refine take_at (i := 20) (.bool true) (some 34) (by decide) (by rfl) (by kernel_rfl) (by kernel_rfl) (by kernel_rfl) (fun _ _ _ h => h) (by rfl) (fun W hW => by go_simp) (by assumption) ?_
  try simp only [Act.put, List.setIfInBounds_toArray, List.set_cons_zero, List.set_cons_succ]
  refine skip_at (i := 21) (some 35) (by decide) (by rfl) (by kernel_rfl) (by kernel_rfl) (by kernel_rfl) (fun _ _ _ h => h) (by rfl) (by assumption) ?_
  try simp only [Act.put, List.setIfInBounds_toArray, List.set_cons_zero, List.set_cons_succ]
  refine skip_at (i := 22) (some 36) (by decide) (by rfl) (by kernel_rfl) (by kernel_rfl) (by kernel_rfl) (fun _ _ _ h => h) (by rfl) (by assumption) ?_
  try simp only [Act.put, List.setIfInBounds_toArray, List.set_cons_zero, List.set_cons_succ]
  refine skip_at (i := 23) (some 37) (by decide) (by rfl) (by kernel_rfl) (by kernel_rfl) (by kernel_rfl) (fun _ _ _ h => h) (by rfl) (by assumption) ?_
  try simp only [Act.put, List.setIfInBounds_toArray, List.set_cons_zero, List.set_cons_succ]
  refine take_at (i := 24) (.bool true) (some 38) (by decide) (by rfl) (by kernel_rfl) (by kernel_rfl) (by kernel_rfl) (fun _ _ _ h => h) (by rfl) (fun W hW => by go_simp) (by assumption) ?_
  try simp only [Act.put, List.setIfInBounds_toArray, List.set_cons_zero, List.set_cons_succ]
  refine take_at (i := 25) (.bool true) (some 39) (by decide) (by rfl) (by kernel_rfl) (by kernel_rfl) (by kernel_rfl) (fun _ _ _ h => h) (by rfl) (fun W hW => by go_simp) (by assumption) ?_
  try simp only [Act.put, List.setIfInBounds_toArray, List.set_cons_zero, List.set_cons_succ]
  refine take_at (i := 26) (.bool true) (some 4) (by decide) (by rfl) (by kernel_rfl) (by kernel_rfl) (by kernel_rfl) (fun _ _ _ h => h) (by rfl) (fun W hW => by go_simp) (by assumption) ?_
  try simp only [Act.put, List.setIfInBounds_toArray, List.set_cons_zero, List.set_cons_succ]
  refine wpAnyH_done (by kernel_rfl) ?_ _
  try simp only [Act.put, List.setIfInBounds_toArray, List.set_cons_zero, List.set_cons_succ]
  have hbe : Below w.heap.size w _ := HB0.out.trans (hHeld.mono HB0.out.size)
  go_wp2_with fail
  go_ret
  exact ⟨rfl, hbe⟩

set_option maxRecDepth 100000 in
set_option maxHeartbeats 3200000 in
theorem names_other (K : Int) (n : Nat) (L : List UInt8) (v : Value) (bs : List UInt8) (w : World) (h : Sl w w.heap.size v bs) (hl : bs.length ≤ 4096) (hL : L.length = 33)
    (hof : ∀ W u, Below w.heap.size w W → Sl W W.heap.size u bs → Calls Tryd.prog 7 #[.int .u8 K, u] W (Gives (idV L) W))
    (hrof : ∀ W, Calls Tryd.prog 8 #[.int .u8 K, .string ⟨bs.toArray⟩] W (Gives (idV L) W))
    (hsz : ∀ W, Calls Tryd.prog 9 #[.int .u8 K] W fun e w' => e = .returned (.int .i64 n) ∧ W = w')
    (hrsz : ∀ W, Calls Tryd.prog 10 #[.int .u8 K] W fun e w' => e = .returned (.int .i64 n) ∧ W = w') (e1 : (K == 1) = false) (e2 : (K == 2) = false) (hzz : (L == zer 33) = true) :
    Calls Tryd.prog 3 #[.int .u8 K, v] w (Gives (.bool true) w) := by
  have H := Lib.hid h
  obtain ⟨A, c, rfl, _, _⟩ := h.len
  have HOF := Lib.hid hof
  have HROF := Lib.hid hrof
  have HSZ := Lib.hid hsz
  have HRSZ := Lib.hid hrsz
  have HL := Lib.hid hL
  have HLL : Hid ((L == L) = true) := by unfold Hid; simp
  have HZZ := Lib.hid hzz
  clear h hof hrof hsz hrsz hL hzz
  go_enter Tryd.func3, Tryd.ntmps3
  go_wp2_with fail
  refine (ialive_any w).mono ?_
  rintro e w1 ⟨rfl, hb1⟩
  have hs1 := hb1.size
  have HB1 := Lib.hid hb1
  clear hb1
  go_wp2_with fail
  refine (HOF.out w1 _ HB1.out ((H.out.below HB1.out).more hs1)).mono ?_
  rintro e w2 ⟨rfl, hb2⟩
  have HB2 := Lib.hid (HB1.out.trans (hb2.mono hs1))
  have hs2 := HB2.out.size
  clear hb2 HB1
  have hb3 : Below w.heap.size w (w2.alloc (.cells (vb L).toArray 26)) := HB2.out.alloc hs2 _
  have hi3 := IdAt.new w2 L
  have hs3 : (w2.alloc (.cells (vb L).toArray 26)).heap.size = w2.heap.size + 1 := asz _ _
  go_wp2_with (first
    | (refine wp_alloc_row zero_id rfl rfl ?_)
    | (refine wp_fill_id rfl _ _ rfl rfl (by first | rfl | simp [Act.eval, Act.put]) L HL.out (by first | rfl | simp [Act.eval, Act.put]) ?_))
  generalize w2.alloc (.cells (vb L).toArray 26) = w3 at hb3 hi3 hs3 ⊢
  obtain ⟨W0, hW0⟩ : ∃ x, w3.drew = x := ⟨_, rfl⟩
  have HI0 : Hid (IdAt W0 w2.heap.size L) := by rw [← hW0]; exact hi3.drew
  have HB0 : Hid (Below w.heap.size w W0) := by rw [← hW0]; exact hb3.drew
  have hs0 : w2.heap.size < W0.heap.size := by rw [← hW0]; show _ < w3.heap.size; omega
  have HS0 : Hid (Sl W0 W0.heap.size (.slice A bs.length c) bs) := (H.out.below HB0.out).more HB0.out.size
  clear hi3 hb3 hs3 HB2
  have hS0 : Below W0.heap.size W0 W0 := Below.refl _ _
  refine region_begin hW0 (S := fun W => Below W0.heap.size W0 W) (by kernel_rfl) hS0 (fun hHeld => ?_)
  clear hW0 hS0
  refine take_at (i := 0) (idV L) (some 14) (by decide) (by rfl) (by kernel_rfl) (by kernel_rfl) (by kernel_rfl) (fun _ _ _ h => h) (by rfl) (fun W hW => by exact exec_load_id (HI0.out.below hW (by omega)) HL.out _ rfl rfl) (by assumption) ?_
  try simp only [Act.put, List.setIfInBounds_toArray, List.set_cons_zero, List.set_cons_succ]
  refine take_at (i := 1) (.int .u8 K) (some 15) (by decide) (by rfl) (by kernel_rfl) (by kernel_rfl) (by kernel_rfl) (fun _ _ _ h => h) (by rfl) (fun W hW => by go_simp) (by assumption) ?_
  try simp only [Act.put, List.setIfInBounds_toArray, List.set_cons_zero, List.set_cons_succ]
  refine take_at (i := 2) (.slice A bs.length c) (some 16) (by decide) (by rfl) (by kernel_rfl) (by kernel_rfl) (by kernel_rfl) (fun _ _ _ h => h) (by rfl) (fun W hW => by go_simp) (by assumption) ?_
  try simp only [Act.put, List.setIfInBounds_toArray, List.set_cons_zero, List.set_cons_succ]
  refine take_at (i := 3) (.string ⟨bs.toArray⟩) (some 17) (by decide) (by rfl) (by kernel_rfl) (by kernel_rfl) (by kernel_rfl) (fun _ _ _ h => h) (by rfl) (fun W hW => by have h9 := run_text_of W _ _ bs (HS0.out.below hW); go_simp) (by assumption) ?_
  try simp only [Act.put, List.setIfInBounds_toArray, List.set_cons_zero, List.set_cons_succ]
  refine wpAnyH_ready (rs := [4]) (by kernel_rfl) (by simp) (AllReadyH.cons (Array.getElem?_eq_getElem (i := 4) (by decide)) (fun K9 hK => ?_) AllReadyH.nil)
  go_simp
  refine (HROF.out _).mono ?_
  rintro e w4 ⟨rfl, hb4⟩
  refine hK.out _ _ (hHeld.trans (hb4.mono hHeld.size)) (fun hHeld => ?_)
  clear hK K9
  try simp only [Act.put, List.setIfInBounds_toArray, List.set_cons_zero, List.set_cons_succ]
  clear hb4
  refine take_at (i := 5) (.bool (L == L)) (some 19) (by decide) (by rfl) (by kernel_rfl) (by kernel_rfl) (by kernel_rfl) (fun _ _ _ h => h) (by rfl) (fun W hW => by exact exec_eql_id _ _ _ rfl L L HL.out HL.out rfl rfl) (by assumption) ?_
  try simp only [Act.put, List.setIfInBounds_toArray, List.set_cons_zero, List.set_cons_succ]
  rw [HLL.out]
  refine take_at (i := 6) (.bool true) (some 20) (by decide) (by rfl) (by kernel_rfl) (by kernel_rfl) (by kernel_rfl) (fun _ _ _ h => h) (by rfl) (fun W hW => by go_simp) (by assumption) ?_
  try simp only [Act.put, List.setIfInBounds_toArray, List.set_cons_zero, List.set_cons_succ]
  refine take_at (i := 7) (.int .u8 K) (some 21) (by decide) (by rfl) (by kernel_rfl) (by kernel_rfl) (by kernel_rfl) (fun _ _ _ h => h) (by rfl) (fun W hW => by go_simp) (by assumption) ?_
  try simp only [Act.put, List.setIfInBounds_toArray, List.set_cons_zero, List.set_cons_succ]
  refine take_at (i := 9) (.int .u8 K) (some 23) (by decide) (by rfl) (by kernel_rfl) (by kernel_rfl) (by kernel_rfl) (fun _ _ _ h => h) (by rfl) (fun W hW => by go_simp) (by assumption) ?_
  try simp only [Act.put, List.setIfInBounds_toArray, List.set_cons_zero, List.set_cons_succ]
  refine wpAnyH_ready (rs := [8]) (by kernel_rfl) (by simp) (AllReadyH.cons (Array.getElem?_eq_getElem (i := 8) (by decide)) (fun K9 hK => ?_) AllReadyH.nil)
  go_simp
  refine (HSZ.out _).mono ?_
  rintro e w5 ⟨rfl, rfl⟩
  refine hK.out _ _ (hHeld) (fun hHeld => ?_)
  clear hK K9
  try simp only [Act.put, List.setIfInBounds_toArray, List.set_cons_zero, List.set_cons_succ]
  refine wpAnyH_ready (rs := [10]) (by kernel_rfl) (by simp) (AllReadyH.cons (Array.getElem?_eq_getElem (i := 10) (by decide)) (fun K9 hK => ?_) AllReadyH.nil)
  go_simp
  refine (HRSZ.out _).mono ?_
  rintro e w6 ⟨rfl, rfl⟩
  refine hK.out _ _ (hHeld) (fun hHeld => ?_)
  clear hK K9
  try simp only [Act.put, List.setIfInBounds_toArray, List.set_cons_zero, List.set_cons_succ]
  refine take_at (i := 11) (.bool true) (some 25) (by decide) (by rfl) (by kernel_rfl) (by kernel_rfl) (by kernel_rfl) (fun _ _ _ h => h) (by rfl) (fun W hW => by go_simp) (by assumption) ?_
  try simp only [Act.put, List.setIfInBounds_toArray, List.set_cons_zero, List.set_cons_succ]
  refine take_at (i := 12) (.bool true) (some 26) (by decide) (by rfl) (by kernel_rfl) (by kernel_rfl) (by kernel_rfl) (fun _ _ _ h => h) (by rfl) (fun W hW => by go_simp) (by assumption) ?_
  try simp only [Act.put, List.setIfInBounds_toArray, List.set_cons_zero, List.set_cons_succ]
  refine take_at (i := 13) (.bool true) (some 27) (by decide) (by rfl) (by kernel_rfl) (by kernel_rfl) (by kernel_rfl) (fun _ _ _ h => h) (by rfl) (fun W hW => by go_simp) (by assumption) ?_
  try simp only [Act.put, List.setIfInBounds_toArray, List.set_cons_zero, List.set_cons_succ]
  refine take_at (i := 14) (.int .u8 K) (some 28) (by decide) (by rfl) (by kernel_rfl) (by kernel_rfl) (by kernel_rfl) (fun _ _ _ h => h) (by rfl) (fun W hW => by go_simp) (by assumption) ?_
  try simp only [Act.put, List.setIfInBounds_toArray, List.set_cons_zero, List.set_cons_succ]
  refine take_at (i := 15) (.bool false) (some 29) (by decide) (by rfl) (by kernel_rfl) (by kernel_rfl) (by kernel_rfl) (fun _ _ _ h => h) (by rfl) (fun W hW => by go_simp) (by assumption) ?_
  try simp only [Act.put, List.setIfInBounds_toArray, List.set_cons_zero, List.set_cons_succ]
  refine take_at (i := 16) (.bool false) (some 30) (by decide) (by rfl) (by kernel_rfl) (by kernel_rfl) (by kernel_rfl) (fun _ _ _ h => h) (by rfl) (fun W hW => by go_simp) (by assumption) ?_
  try simp only [Act.put, List.setIfInBounds_toArray, List.set_cons_zero, List.set_cons_succ]
  refine take_at (i := 17) (.int .u8 K) (some 31) (by decide) (by rfl) (by kernel_rfl) (by kernel_rfl) (by kernel_rfl) (fun _ _ _ h => h) (by rfl) (fun W hW => by go_simp) (by assumption) ?_
  try simp only [Act.put, List.setIfInBounds_toArray, List.set_cons_zero, List.set_cons_succ]
  refine take_at (i := 18) (.bool false) (some 32) (by decide) (by rfl) (by kernel_rfl) (by kernel_rfl) (by kernel_rfl) (fun _ _ _ h => h) (by rfl) (fun W hW => by go_simp) (by assumption) ?_
  try simp only [Act.put, List.setIfInBounds_toArray, List.set_cons_zero, List.set_cons_succ]
  refine take_at (i := 19) (.bool false) (some 33) (by decide) (by rfl) (by kernel_rfl) (by kernel_rfl) (by kernel_rfl) (fun _ _ _ h => h) (by rfl) (fun W hW => by go_simp) (by assumption) ?_
  try simp only [Act.put, List.setIfInBounds_toArray, List.set_cons_zero, List.set_cons_succ]
  refine take_at (i := 20) (.bool false) (some 34) (by decide) (by rfl) (by kernel_rfl) (by kernel_rfl) (by kernel_rfl) (fun _ _ _ h => h) (by rfl) (fun W hW => by go_simp) (by assumption) ?_
  try simp only [Act.put, List.setIfInBounds_toArray, List.set_cons_zero, List.set_cons_succ]
  refine take_at (i := 21) (idV L) (some 35) (by decide) (by rfl) (by kernel_rfl) (by kernel_rfl) (by kernel_rfl) (fun _ _ _ h => h) (by rfl) (fun W hW => by exact exec_load_id (HI0.out.below hW (by omega)) HL.out _ rfl rfl) (by assumption) ?_
  try simp only [Act.put, List.setIfInBounds_toArray, List.set_cons_zero, List.set_cons_succ]
  refine take_at (i := 22) (idV (zer 33)) (some 36) (by decide) (by rfl) (by kernel_rfl) (by kernel_rfl) (by kernel_rfl) (fun _ _ _ h => h) (by rfl) (fun W hW => by exact exec_zero_id rfl) (by assumption) ?_
  try simp only [Act.put, List.setIfInBounds_toArray, List.set_cons_zero, List.set_cons_succ]
  refine take_at (i := 23) (.bool (L == zer 33)) (some 37) (by decide) (by rfl) (by kernel_rfl) (by kernel_rfl) (by kernel_rfl) (fun _ _ _ h => h) (by rfl) (fun W hW => by exact exec_eql_id _ _ _ rfl L (zer 33) HL.out (zer_length _) rfl rfl) (by assumption) ?_
  try simp only [Act.put, List.setIfInBounds_toArray, List.set_cons_zero, List.set_cons_succ]
  rw [HZZ.out]
  refine take_at (i := 24) (.bool true) (some 38) (by decide) (by rfl) (by kernel_rfl) (by kernel_rfl) (by kernel_rfl) (fun _ _ _ h => h) (by rfl) (fun W hW => by go_simp) (by assumption) ?_
  try simp only [Act.put, List.setIfInBounds_toArray, List.set_cons_zero, List.set_cons_succ]
  refine take_at (i := 25) (.bool true) (some 39) (by decide) (by rfl) (by kernel_rfl) (by kernel_rfl) (by kernel_rfl) (fun _ _ _ h => h) (by rfl) (fun W hW => by go_simp) (by assumption) ?_
  try simp only [Act.put, List.setIfInBounds_toArray, List.set_cons_zero, List.set_cons_succ]
  refine take_at (i := 26) (.bool true) (some 4) (by decide) (by rfl) (by kernel_rfl) (by kernel_rfl) (by kernel_rfl) (fun _ _ _ h => h) (by rfl) (fun W hW => by go_simp) (by assumption) ?_
  try simp only [Act.put, List.setIfInBounds_toArray, List.set_cons_zero, List.set_cons_succ]
  refine wpAnyH_done (by kernel_rfl) ?_ _
  try simp only [Act.put, List.setIfInBounds_toArray, List.set_cons_zero, List.set_cons_succ]
  have hbe : Below w.heap.size w _ := HB0.out.trans (hHeld.mono HB0.out.size)
  go_wp2_with fail
  go_ret
  exact ⟨rfl, hbe⟩

set_option maxRecDepth 100000 in
set_option maxHeartbeats 1600000 in
theorem names_long (K : Int) (v : Value) (bs : List UInt8) (w : World) (h : Sl w w.heap.size v bs) (hl : 4096 < bs.length) : Calls Tryd.prog 3 #[.int .u8 K, v] w (Gives (.bool true) w) := by
  obtain ⟨A, c, rfl, h2, h3⟩ := h.len
  clear h
  have hm2 : bs.length ≤ 9223372036854775807 := by unfold maxLen at h3; omega
  clear h3
  have hq : (4096 : Int) < (bs.length : Int) := by omega
  go_enter Tryd.func3, Tryd.ntmps3
  go_wp2_with fail
  refine (ialive_any w).mono ?_
  rintro e w1 ⟨rfl, hb1⟩
  go_wp2_with fail
  go_ret
  exact ⟨rfl, hb1⟩

theorem names_walk (a0 : Int) (v : Value) (bs : List UInt8) (w : World) (hk : KeysIs keysL w) (w0 : (Lit.int .u8 a0).wf = true) (h : Sl w w.heap.size v bs) : Calls Tryd.prog 3 #[.int .u8 a0, v] w (Gives (.bool true) w) := by
  by_cases hl : 4096 < bs.length
  · exact names_long a0 v bs w h hl
  · have hl2 : bs.length ≤ 4096 := by omega
    have hb := bounds_u8 w0
    obtain ⟨k, rfl⟩ := byte_of a0 hb.1 hb.2
    have hsz := fun W => size_any k W
    have hrsz := fun W => rsize_any k W
    by_cases h1 : k.toNat = 1
    · obtain rfl : k = 1 := UInt8.toNat_inj.1 h1
      exact names_one (sizeI 1) (ofF bs) v bs w h hl2 (ofF_length _) (fun W u _ hu => of_fnv u bs W hu)
        (fun W => rof_gen 1 bs (1 :: be8 (mor fnv0 bs)) (ofF bs) W (ofF_length _) (fun W => rtext_fnv bs W hl2) (fun W => rid_cons 1 (be8 (mor fnv0 bs)) W (by rw [show (be8 (mor fnv0 bs)).length = 8 from rfl]; omega))) hsz hrsz
    · by_cases h2 : k.toNat = 2
      · obtain rfl : k = 2 := UInt8.toNat_inj.1 h2
        exact names_two (sizeI 2) (ofS (shaS keysL bs)) v bs w h hl2 (ofS_length _) (fun W u hW hu => of_shaX u bs W hu (hk.below hW hk.1) (by omega))
          (fun W => rof_gen 2 bs (2 :: shaS keysL bs) (ofS (shaS keysL bs)) W (ofS_length _) (fun W => rtext_sha bs W hl2) (fun W => rid_cons 2 (shaS keysL bs) W (by rw [shaS_length]; omega))) hsz hrsz
      · have hs0 : sizeI k = 0 := by unfold sizeI; rw [if_neg h1, if_neg h2]
        have e1 : ((k.toNat : Int) == 1) = false := by rw [beq_eq_false_iff_ne]; omega
        have e2 : ((k.toNat : Int) == 2) = false := by rw [beq_eq_false_iff_ne]; omega
        exact names_other k.toNat (sizeI k) (zer 33) v bs w h hl2 (zer_length _) (fun W u _ _ => of_other k u W hs0)
          (fun W => rof_gen k.toNat bs [] (zer 33) W (zer_length _) (fun W => rtext_other k.toNat bs W e1 e2) (fun W => rid_nil W)) hsz hrsz e1 e2 (by simp)

end Go.Proofs.YtflgokbkkoobkaaDoor.Cd

namespace Go.Proofs.YtflgokbkkoobkaaDoor.IdentNames
open Go.RowKit Go.Proofs.YtflgokbkkoobkaaDoor.Cd

theorem walk (a0 : Int) (v1 : Value) (b : List UInt8) (w : World) (hk : KeysIs keysL w) (w0 : (Lit.int .u8 a0).wf = true) (h : Sl w w.heap.size v1 b) :
    Calls Tryd.prog 3 #[.int .u8 a0, v1] w (Gives (.bool true) w) := names_walk a0 v1 b w hk w0 h

end Go.Proofs.YtflgokbkkoobkaaDoor.IdentNames
