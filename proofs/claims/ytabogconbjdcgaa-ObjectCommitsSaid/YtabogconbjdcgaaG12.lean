/-
  ObjectCommits: the law's walk. Conditions: none.
-/
import Derived.Test.YtabogconbjdcgaaG7
import Derived.Test.YtabogconbjdcgaaG11
import Derived.Test.YtabogconbjdcgaaG10
/-
  The document's GetCommit. Conditions: none.
-/
namespace Go.Proofs.Ytabogconbjdcgaa.Cd
open Go.RowKit

/-- What the document's Get leaves: the commit of the bytes, or the nought. -/
def RGotC (b : List UInt8) (w : World) (e : Ending) (w' : World) : Prop :=
  ∃ (o : Option Cmt) (v : Value), e = .returned (.tuple #[v, .bool o.isSome]) ∧ GetsC b o ∧ Below w.heap.size w w' ∧ CmtIn w' w'.heap.size v (o.getD (cm0 idZ))
theorem rgot_none {b : List UInt8} {w w' : World} (h : GetsC b none) (hb : Below w.heap.size w w') : RGotC b w (.returned (.tuple #[.agg (cmC (cm0 idZ) (.slice none 0 0)).toArray, .bool false])) w' :=
  ⟨none, _, rfl, h, hb, ⟨_, rfl, RwIn.nil _ _⟩⟩

set_option maxRecDepth 100000 in
set_option maxHeartbeats 6400000 in
theorem rgetc_any (b : List UInt8) (w : World) (hs : b.length ≤ 100000) : Calls Try.prog 23 #[.string ⟨b.toArray⟩] w (RGotC b w) := by
  have hz1 : (w.alloc (.cells (cmC (cm0 idZ) (.slice none 0 0)).toArray 44)).heap.size = w.heap.size + 1 := asz _ _
  have hz2 : ((w.alloc (.cells (cmC (cm0 idZ) (.slice none 0 0)).toArray 44)).alloc (.cells #[.string ⟨b.toArray⟩, .bool false] 74)).heap.size = w.heap.size + 2 := by rw [asz, hz1]
  have HZ1 : Hid (ComAt ((w.alloc (.cells (cmC (cm0 idZ) (.slice none 0 0)).toArray 44)).alloc (.cells #[.string ⟨b.toArray⟩, .bool false] 74)) w.heap.size (cm0 idZ) (.slice none 0 0)) := (ComAt.new _ _ _).below (new_below _ _) (by omega)
  have HR1 : Hid (Rf ((w.alloc (.cells (cmC (cm0 idZ) (.slice none 0 0)).toArray 44)).alloc (.cells #[.string ⟨b.toArray⟩, .bool false] 74)) (w.heap.size + 1) b false) := by
    have h := heap_alloc_new (w.alloc (.cells (cmC (cm0 idZ) (.slice none 0 0)).toArray 44)) (.cells #[.string ⟨b.toArray⟩, .bool false] 74)
    rw [hz1] at h
    exact h
  have HB1 : Hid (Below w.heap.size w ((w.alloc (.cells (cmC (cm0 idZ) (.slice none 0 0)).toArray 44)).alloc (.cells #[.string ⟨b.toArray⟩, .bool false] 74))) := (new_below _ _).trans ((new_below _ _).mono (by omega))
  clear hz1
  go_enter Try.func23, Try.ntmps23
  go_wp2_with (refine wp_alloc_row zero_cm rfl rfl ?_)
  generalize (w.alloc (.cells (cmC (cm0 idZ) (.slice none 0 0)).toArray 44)).alloc (.cells #[.string ⟨b.toArray⟩, .bool false] 74) = w1 at *
  obtain ⟨g, hg⟩ : ∃ g, w.heap.size + 1 = g := ⟨_, rfl⟩
  rw [hg] at HR1 ⊢
  refine (ftake_any g 2 b false w1 HR1.out (by omega)).mono ?_
  rintro e w2 ⟨rfl, hl2⟩
  have HR2 := Lib.hid hl2.1
  have HB2 := Lib.hid (below_of_grown HB1.out hl2.2 (by omega) (by omega))
  have HZ2 : Hid (ComAt w2 w.heap.size (cm0 idZ) (.slice none 0 0)) := HZ1.out.far hl2.2 (by omega)
  have hs2 : w.heap.size + 2 ≤ w2.heap.size := by have := hl2.2.size; omega
  clear hl2 HR1 HB1 HZ1 hz2
  by_cases hsh : b.length < 2
  · have hb : TkBad false 2 b := .inr (.inr (by omega))
    rw [show tkV false 2 b = [] from if_pos hb]
    rw [show tkB false 2 b = [] from if_pos hb, show tkX false 2 b = true from decide_eq_true hb] at HR2
    have HN := Lib.hid (fC_short hsh)
    clear hb hsh
    go_wp2_with fail
    refine (fgood_any g _ _ w2 HR2.out).mono ?_
    rintro e w3 ⟨rfl, rfl⟩
    go_wp2_with (first
      | go_skip | go_guarded
      | (refine wp_build_row rfl _ rfl _ built_cm0 (by simp) ?_)
      | (refine wp_put_cm rfl _ _ rfl w.heap.size rfl (cm0 idZ) none 0 0 rfl (cm0 idZ) _ HZ2.out ?_; intro w7 ht7 hg7))
    have hb7 := below_of_grown HB2.out hg7 (by omega) (by omega)
    exact bodyPost_ret (ret_cm2 Try.results23 _ _ w.heap.size _ _ (.bool false) rfl ht7 rfl) rfl (rgot_none HN.out hb7)
  match b, hsh, hs with
  | [], hsh, _ => exact absurd (by simp) hsh
  | [_], hsh, _ => exact absurd (by simp) hsh
  | c0 :: n :: r, _, hs =>
  have hb : ¬ TkBad false 2 (c0 :: n :: r) := by
    rintro (h | h | h)
    · cases h
    · omega
    · simp only [List.length_cons] at h; omega
  rw [show tkV false 2 (c0 :: n :: r) = [c0, n] by unfold tkV; rw [if_neg hb]; rfl]
  rw [show tkB false 2 (c0 :: n :: r) = r by unfold tkB; rw [if_neg hb]; rfl, show tkX false 2 (c0 :: n :: r) = false from decide_eq_false hb] at HR2
  have hrl : r.length ≤ 100000 := by simp only [List.length_cons] at hs; omega
  have hix0 : ∀ h, (ByteArray.mk [c0, n].toArray)[0]'h = c0 := fun _ => rfl
  have hix1 : ∀ h, (ByteArray.mk [c0, n].toArray)[1]'h = n := fun _ => rfl
  clear hb hs
  go_wp2_with fail
  refine (fgood_any g _ _ w2 HR2.out).mono ?_
  rintro e w3 ⟨rfl, rfl⟩
  by_cases hk : c0 = 3
  case neg =>
    have HN : Hid (GetsC (c0 :: n :: r) none) := fC_kind hk
    have hq : ((c0.toNat : Int) != 3) = true := by
      rw [bne_iff_ne]
      exact fun e => hk (UInt8.toNat_inj.1 (by show _ = 3; omega))
    clear hk
    go_wp2_with (first
      | go_skip | go_guarded
      | (refine wp_build_row rfl _ rfl _ built_cm0 (by simp) ?_)
      | (refine wp_put_cm rfl _ _ rfl w.heap.size rfl (cm0 idZ) none 0 0 rfl (cm0 idZ) _ HZ2.out ?_; intro w7 ht7 hg7))
    have hb7 := below_of_grown HB2.out hg7 (by omega) (by omega)
    exact bodyPost_ret (ret_cm2 Try.results23 _ _ w.heap.size _ _ (.bool false) rfl ht7 rfl) rfl (rgot_none HN.out hb7)
  subst hk
  have hq : (((3 : UInt8).toNat : Int) != 3) = false := by decide
  by_cases hn2 : 2 < n.toNat
  · have HN : Hid (GetsC (3 :: n :: r) none) := fC_many hn2
    have hq2 : decide ((2 : Int) < (n.toNat : Int)) = true := decide_eq_true (by omega)
    clear hn2
    go_wp2_with (first
      | go_skip | go_guarded
      | (refine wp_build_row rfl _ rfl _ built_cm0 (by simp) ?_)
      | (refine wp_put_cm rfl _ _ rfl w.heap.size rfl (cm0 idZ) none 0 0 rfl (cm0 idZ) _ HZ2.out ?_; intro w7 ht7 hg7))
    have hb7 := below_of_grown HB2.out hg7 (by omega) (by omega)
    exact bodyPost_ret (ret_cm2 Try.results23 _ _ w.heap.size _ _ (.bool false) rfl ht7 rfl) rfl (rgot_none HN.out hb7)
  have hq2 : decide ((2 : Int) < (n.toNat : Int)) = false := decide_eq_false (by omega)
  have HNO : Hid (¬ (fX r n.toNat = false ∧ fB r n.toNat = [] ∧ GoodC (fC r n.toNat)) → GetsC (3 :: n :: r) none) := fun h => fC_no h
  have HYES : Hid (fX r n.toNat = false → fB r n.toNat = [] → GoodC (fC r n.toNat) → GetsC (3 :: n :: r) (some (fC r n.toNat))) := fun h1 h2 h3 => fC_yes h1 h2 h3
  have HNM := Lib.hid (fun W h => fname_any g r false W h (fun h => by cases h) (by omega))
  have hsn0 : Sane (f0 r).bad (f0 r).bs := sane_fn _
  have hl0 : (f0 r).bs.length ≤ 100000 := Nat.le_trans (fn_len r) hrl
  have e1 : fnB r = (f0 r).bs := rfl
  have e2 : fnX r = (f0 r).bad := rfl
  have e4 : ∀ m, fI r m = atF (f0 r) m := fun _ => rfl
  have e8 : (f0 r).l = [] := rfl
  unfold fC fB fX at HNO HYES
  rw [e4] at HNO HYES
  rw [e1, e2] at HNM
  generalize fnV r = root at *
  generalize f0 r = s0 at *
  have HSN := Lib.hid hsn0
  have HL0 := Lib.hid e8
  clear e1 e2 e4 e8 hsn0
  go_wp2_with fail
  refine (HNM.out w2 HR2.out).mono ?_
  rintro e w3 ⟨rfl, hl3⟩
  have HR3 := Lib.hid hl3.1
  have HB3 := Lib.hid (below_of_grown HB2.out hl3.2 (by omega) (by omega))
  have HZ3 : Hid (ComAt w3 w.heap.size (cm0 idZ) (.slice none 0 0)) := HZ2.out.far hl3.2 (by omega)
  have hs3 : w.heap.size + 2 ≤ w3.heap.size := by have := hl3.2.size; omega
  clear hl3 HR2 HB2 HZ2 HNM
  have HD4 : Hid (ComAt (w3.alloc (.cells (cmC (cm0 root) (.slice none 0 0)).toArray 44)) w3.heap.size (cm0 root) (.slice none 0 0)) := ComAt.new _ _ _
  have hb4 : Below w3.heap.size w3 (w3.alloc (.cells (cmC (cm0 root) (.slice none 0 0)).toArray 44)) := new_below _ _
  have hz4 : (w3.alloc (.cells (cmC (cm0 root) (.slice none 0 0)).toArray 44)).heap.size = w3.heap.size + 1 := asz _ _
  have HR4 : Hid (Rf (w3.alloc (.cells (cmC (cm0 root) (.slice none 0 0)).toArray 44)) g s0.bs s0.bad) := HR3.out.on hb4
  have HC4 := Lib.hid (HZ3.out.below hb4 (by omega))
  have HW4 := Lib.hid (HB3.out.trans (hb4.mono (by omega)))
  clear hb4
  go_wp2_with (first
    | (refine wp_alloc_row zero_cm rfl rfl ?_)
    | (refine wp_build_cm rfl _ rfl root rfl ?_)
    | (refine wp_fill_cm rfl _ _ rfl _ _ rfl (by simp [Act.eval, Act.put]) (cm0 root) none 0 0 rfl ?_))
  generalize w3.alloc (.cells (cmC (cm0 root) (.slice none 0 0)).toArray 44) = w4 at *
  obtain ⟨G, hG⟩ : ∃ x, w3.heap.size = x := ⟨_, rfl⟩
  rw [hG] at HD4 hz4 ⊢
  have hG2 : w.heap.size + 2 ≤ G := by omega
  clear HR3 HB3 HZ3
  go_loopw [7] (fun i wr => ∃ (k : Nat) (A : Option Addr) (nn m : Nat), i = .int .i64 k ∧ k ≤ n.toNat ∧ Hid (OwnRw iiC 33 41 wr (G + 1) (.slice A nn m) (atF s0 k).l) ∧ Hid (ComAt wr G (cm0 root) (.slice A nn m)) ∧ Hid (ComAt wr w.heap.size (cm0 idZ) (.slice none 0 0)) ∧ Hid (Rf wr g (atF s0 k).bs (atF s0 k).bad) ∧ Hid (Below w.heap.size w wr) ∧ G + 1 ≤ wr.heap.size) (fun i _ => n.toNat - (intOf i).toNat)
  case atStart => exact ⟨0, none, 0, 0, rfl, by omega, (by unfold Hid; show OwnRw _ _ _ _ _ _ s0.l; rw [HL0.out]; exact OwnRw.nil _ _), HD4.out, HC4.out, HR4.out, HW4.out, by omega⟩
  case round =>
    clear HR4 HC4 HW4 HD4
    obtain ⟨k, A, nn, m, rfl, hk, ho, hcg, hcz, hrd, hw, hsz⟩ := hrel
    have hsq := sane_atF HSN.out k
    have hlq := len_atF s0 k
    have hll : s0.l.length = 0 := by rw [HL0.out]; rfl
    have hlk : (atF s0 k).l.length ≤ 2 := by omega
    have hlb : (atF s0 k).bs.length ≤ 100000 := by omega
    by_cases hlt : k < n.toNat
    · have hnx : Hid (atF s0 (k + 1) = ⟨(atF s0 k).l ++ [fnV (atF s0 k).bs], fnB (atF s0 k).bs, fnX (atF s0 k).bs⟩) := rfl
      generalize atF s0 k = q at *
      obtain ⟨l, bb, x⟩ := q
      simp only at *
      have HT := Lib.hid (fun W h => fname_any g bb x W h hsq (by omega))
      generalize fnV bb = y at *
      generalize fnB bb = bb2 at *
      generalize fnX bb = xx2 at *
      clear hsq hlq
      go_wp2_with fail
      obtain ⟨W0, hW0⟩ : ∃ x, wr.drew = x := ⟨_, rfl⟩
      have HG0 : Hid (ComAt W0 G (cm0 root) (.slice A nn m)) := by rw [← hW0]; exact hcg.out
      have HO0 : Hid (OwnRw iiC 33 41 W0 (G + 1) (.slice A nn m) l) := by rw [← hW0]; exact ho.out.drew
      have HZ0 : Hid (ComAt W0 w.heap.size (cm0 idZ) (.slice none 0 0)) := by rw [← hW0]; exact hcz.out
      have HR0 : Hid (Rf W0 g bb x) := by rw [← hW0]; exact hrd.out.drew
      have HW0 : Hid (Below w.heap.size w W0) := by rw [← hW0]; exact hw.out.drew
      have hsz0 : G + 1 ≤ W0.heap.size := by rw [← hW0]; simpa using hsz
      clear ho hcg hcz hrd hw
      refine region_begin hW0 (S := fun _ => True) (by kernel_rfl) trivial (fun _ => ?_)
      clear hW0
      refine take_at (i := 0) (.pointer (some ⟨G, 33, none⟩)) (some 37) (by decide) (by rfl) (by kernel_rfl) (by kernel_rfl) (by kernel_rfl) (fun _ _ _ h => h) (by rfl) (fun W hW => by go_simp) (by assumption) ?_
      try simp only [Act.put, List.setIfInBounds_toArray, List.set_cons_zero, List.set_cons_succ]
      refine take_at (i := 2) (.pointer (some ⟨g, 0, none⟩)) (some 39) (by decide) (by rfl) (by kernel_rfl) (by kernel_rfl) (by kernel_rfl) (fun _ _ _ h => h) (by rfl) (fun W hW => by go_simp) (by assumption) ?_
      try simp only [Act.put, List.setIfInBounds_toArray, List.set_cons_zero, List.set_cons_succ]
      refine wpAnyH_ready (rs := [1, 3]) (by kernel_rfl) (by simp) ?_
      refine come (i := 1) (.slice A nn m) W0 (some 38) (by decide) (by rfl) (by rfl) (by have := HG0.out.is; go_simp) trivial ?_ ?_
      · try simp only [Act.put, List.setIfInBounds_toArray, List.set_cons_zero, List.set_cons_succ]
        refine wpAnyH_ready (rs := [3]) (by kernel_rfl) (by simp) ?_
        refine AllReadyH.cons (Array.getElem?_eq_getElem (i := 3) (by decide)) (fun K9 hK => ?_) AllReadyH.nil
        go_simp
        refine (HT.out _ HR0.out).mono ?_
        rintro e w5 ⟨rfl, hl5⟩
        have HG5 := Lib.hid (HG0.out.far hl5.2 (by omega))
        have HR5 := Lib.hid hl5.1
        have HW5 := Lib.hid (below_of_grown HW0.out hl5.2 (by omega) (by omega))
        have HO5 := Lib.hid (HO0.out.far hl5.2 (by omega))
        have HZ5 := Lib.hid (HZ0.out.far hl5.2 (by omega))
        have hs5 : G + 1 ≤ w5.heap.size := Nat.le_trans hsz0 hl5.2.size
        clear hl5
        refine hK.out _ _ trivial (fun _ => ?_)
        clear hK K9
        try simp only [Act.put, List.setIfInBounds_toArray, List.set_cons_zero, List.set_cons_succ]
        refine wpAnyH_ready (rs := [4]) (by kernel_rfl) (by simp) ?_
        refine AllReadyH.cons (Array.getElem?_eq_getElem (i := 4) (by decide)) (fun K9 hK => ?_) AllReadyH.nil
        refine step_one kind_ii (by omega) rfl _ rfl y rfl ?_
        have HG6 := Lib.hid (HG5.out.below (new_below w5 (.cells (iiC y).toArray 41)) (by omega))
        have HR6 := Lib.hid (HR5.out.on (new_below w5 (.cells (iiC y).toArray 41)))
        have HZ6 := Lib.hid (HZ5.out.below (new_below w5 (.cells (iiC y).toArray 41)) (by omega))
        have HW6 := Lib.hid (HW5.out.trans ((new_below w5 (.cells (iiC y).toArray 41)).mono (by omega)))
        have HO6 := Lib.hid (HO5.out.alloc (.cells (iiC y).toArray 41))
        have HY6 := Lib.hid (rw_one kind_ii w5 y 41 _ rfl)
        have hs6 : G + 1 ≤ (w5.alloc (.cells (iiC y).toArray 41)).heap.size := by rw [asz]; omega
        generalize w5.alloc (.cells (iiC y).toArray 41) = w6 at *
        refine hK.out _ _ trivial (fun _ => ?_)
        clear hK K9
        try simp only [Act.put, List.setIfInBounds_toArray, List.set_cons_zero, List.set_cons_succ]
        refine wpAnyH_ready (rs := [5]) (by kernel_rfl) (by simp) ?_
        refine AllReadyH.cons (Array.getElem?_eq_getElem (i := 5) (by decide)) (fun K9 hK => ?_) AllReadyH.nil
        refine step_append_rw kind_ii rfl _ _ rfl rfl HO6.out (by omega) _ _ [y] rfl HY6.out (by simp only [List.length_singleton]; omega) ?_
        intro v7 w7 ho7 hb7 _
        have HG7 := Lib.hid (HG6.out.below hb7 (by omega))
        have HR7 := Lib.hid (HR6.out.below hb7 (by omega))
        have HZ7 := Lib.hid (HZ6.out.below hb7 (by omega))
        have HW7 := Lib.hid (HW6.out.trans (hb7.mono (by omega)))
        have hs7 : G + 1 ≤ w7.heap.size := Nat.le_trans hs6 hb7.size
        obtain ⟨A7, m7, e7⟩ : ∃ A m, v7 = .slice A (l ++ [y]).length m := by
          obtain ⟨A, c, e, _⟩ := (ho7.rwIn kind_ii).len
          exact ⟨A, c, e⟩
        obtain ⟨n7, hn7⟩ : ∃ x, (l ++ [y]).length = x := ⟨_, rfl⟩
        rw [hn7] at e7
        subst e7
        have HO7 := Lib.hid ho7
        clear hb7 ho7 hn7
        refine hK.out _ _ trivial (fun _ => ?_)
        clear hK K9
        try simp only [Act.put, List.setIfInBounds_toArray, List.set_cons_zero, List.set_cons_succ]
        refine take_at (i := 6) (.pointer (some ⟨G, 33, none⟩)) (some 43) (by decide) (by rfl) (by kernel_rfl) (by kernel_rfl) (by kernel_rfl) (fun _ _ _ h => h) (by rfl) (fun W hW => by go_simp) (by assumption) ?_
        try simp only [Act.put, List.setIfInBounds_toArray, List.set_cons_zero, List.set_cons_succ]
        refine wpAnyH_ready (rs := [7]) (by kernel_rfl) (by simp) ?_
        refine AllReadyH.cons (Array.getElem?_eq_getElem (i := 7) (by decide)) (fun K9 hK => ?_) AllReadyH.nil
        have d7 := HG7.out.is
        have f7 := HG7.out.frozen 33
        go_simp
        have HG8 := Lib.hid (HG7.out.set33 (.slice A7 n7 m7))
        have HO8 := Lib.hid (HO7.out.put ⟨G, 33, none⟩ (.slice A7 n7 m7) (by show G < G + 1; omega))
        have HR8 := Lib.hid (HR7.out.other ⟨G, 33, none⟩ (.slice A7 n7 m7) (by show g ≠ G; omega))
        have HZ8 : Hid (ComAt (w7.setCell ⟨G, 33, none⟩ (.slice A7 n7 m7)) w.heap.size (cm0 idZ) (.slice none 0 0)) := (heap_setCell_other _ _ _ _ (by show w.heap.size ≠ G; omega)).trans HZ7.out
        have HW8 := Lib.hid (HW7.out.setCell (p := ⟨G, 33, none⟩) (by show w.heap.size ≤ G; omega) (.slice A7 n7 m7))
        have hs8 : G + 1 ≤ (w7.setCell ⟨G, 33, none⟩ (.slice A7 n7 m7)).heap.size := by simpa using hs7
        clear d7 f7 HG7 HO7 HR7 HZ7 HW7
        generalize w7.setCell ⟨G, 33, none⟩ (.slice A7 n7 m7) = w8 at *
        refine hK.out _ _ trivial (fun _ => ?_)
        clear hK K9
        try simp only [Act.put, List.setIfInBounds_toArray, List.set_cons_zero, List.set_cons_succ]
        refine wpAnyH_done (by kernel_rfl) ?_ _
        try simp only [Act.put, List.setIfInBounds_toArray, List.set_cons_zero, List.set_cons_succ]
        go_wp2_with fail
        go_roundw
        case rel => exact ⟨k + 1, A7, n7, m7, by go_num, by omega, by rw [hnx.out]; exact HO8.out, HG8.out, HZ8.out, by rw [hnx.out]; exact HR8.out, HW8.out, hs8⟩
        case measure => simp [intOf]; omega
      · refine AllReadyH.cons (Array.getElem?_eq_getElem (i := 3) (by decide)) (fun K9 hK => ?_) AllReadyH.nil
        go_simp
        refine (HT.out _ HR0.out).mono ?_
        rintro e w5 ⟨rfl, hl5⟩
        have HG5 := Lib.hid (HG0.out.far hl5.2 (by omega))
        have HR5 := Lib.hid hl5.1
        have HW5 := Lib.hid (below_of_grown HW0.out hl5.2 (by omega) (by omega))
        have HO5 := Lib.hid (HO0.out.far hl5.2 (by omega))
        have HZ5 := Lib.hid (HZ0.out.far hl5.2 (by omega))
        have hs5 : G + 1 ≤ w5.heap.size := Nat.le_trans hsz0 hl5.2.size
        clear hl5
        refine hK.out _ _ trivial (fun _ => ?_)
        clear hK K9
        try simp only [Act.put, List.setIfInBounds_toArray, List.set_cons_zero, List.set_cons_succ]
        refine wpAnyH_ready (rs := [1, 4]) (by kernel_rfl) (by simp) ?_
        refine come (i := 1) (.slice A nn m) w5 (some 38) (by decide) (by rfl) (by rfl) (by have := HG5.out.is; go_simp) trivial ?_ ?_
        · try simp only [Act.put, List.setIfInBounds_toArray, List.set_cons_zero, List.set_cons_succ]
          refine wpAnyH_ready (rs := [4]) (by kernel_rfl) (by simp) ?_
          refine AllReadyH.cons (Array.getElem?_eq_getElem (i := 4) (by decide)) (fun K9 hK => ?_) AllReadyH.nil
          refine step_one kind_ii (by omega) rfl _ rfl y rfl ?_
          have HG6 := Lib.hid (HG5.out.below (new_below w5 (.cells (iiC y).toArray 41)) (by omega))
          have HR6 := Lib.hid (HR5.out.on (new_below w5 (.cells (iiC y).toArray 41)))
          have HZ6 := Lib.hid (HZ5.out.below (new_below w5 (.cells (iiC y).toArray 41)) (by omega))
          have HW6 := Lib.hid (HW5.out.trans ((new_below w5 (.cells (iiC y).toArray 41)).mono (by omega)))
          have HO6 := Lib.hid (HO5.out.alloc (.cells (iiC y).toArray 41))
          have HY6 := Lib.hid (rw_one kind_ii w5 y 41 _ rfl)
          have hs6 : G + 1 ≤ (w5.alloc (.cells (iiC y).toArray 41)).heap.size := by rw [asz]; omega
          generalize w5.alloc (.cells (iiC y).toArray 41) = w6 at *
          refine hK.out _ _ trivial (fun _ => ?_)
          clear hK K9
          try simp only [Act.put, List.setIfInBounds_toArray, List.set_cons_zero, List.set_cons_succ]
          refine wpAnyH_ready (rs := [5]) (by kernel_rfl) (by simp) ?_
          refine AllReadyH.cons (Array.getElem?_eq_getElem (i := 5) (by decide)) (fun K9 hK => ?_) AllReadyH.nil
          refine step_append_rw kind_ii rfl _ _ rfl rfl HO6.out (by omega) _ _ [y] rfl HY6.out (by simp only [List.length_singleton]; omega) ?_
          intro v7 w7 ho7 hb7 _
          have HG7 := Lib.hid (HG6.out.below hb7 (by omega))
          have HR7 := Lib.hid (HR6.out.below hb7 (by omega))
          have HZ7 := Lib.hid (HZ6.out.below hb7 (by omega))
          have HW7 := Lib.hid (HW6.out.trans (hb7.mono (by omega)))
          have hs7 : G + 1 ≤ w7.heap.size := Nat.le_trans hs6 hb7.size
          obtain ⟨A7, m7, e7⟩ : ∃ A m, v7 = .slice A (l ++ [y]).length m := by
            obtain ⟨A, c, e, _⟩ := (ho7.rwIn kind_ii).len
            exact ⟨A, c, e⟩
          obtain ⟨n7, hn7⟩ : ∃ x, (l ++ [y]).length = x := ⟨_, rfl⟩
          rw [hn7] at e7
          subst e7
          have HO7 := Lib.hid ho7
          clear hb7 ho7 hn7
          refine hK.out _ _ trivial (fun _ => ?_)
          clear hK K9
          try simp only [Act.put, List.setIfInBounds_toArray, List.set_cons_zero, List.set_cons_succ]
          refine take_at (i := 6) (.pointer (some ⟨G, 33, none⟩)) (some 43) (by decide) (by rfl) (by kernel_rfl) (by kernel_rfl) (by kernel_rfl) (fun _ _ _ h => h) (by rfl) (fun W hW => by go_simp) (by assumption) ?_
          try simp only [Act.put, List.setIfInBounds_toArray, List.set_cons_zero, List.set_cons_succ]
          refine wpAnyH_ready (rs := [7]) (by kernel_rfl) (by simp) ?_
          refine AllReadyH.cons (Array.getElem?_eq_getElem (i := 7) (by decide)) (fun K9 hK => ?_) AllReadyH.nil
          have d7 := HG7.out.is
          have f7 := HG7.out.frozen 33
          go_simp
          have HG8 := Lib.hid (HG7.out.set33 (.slice A7 n7 m7))
          have HO8 := Lib.hid (HO7.out.put ⟨G, 33, none⟩ (.slice A7 n7 m7) (by show G < G + 1; omega))
          have HR8 := Lib.hid (HR7.out.other ⟨G, 33, none⟩ (.slice A7 n7 m7) (by show g ≠ G; omega))
          have HZ8 : Hid (ComAt (w7.setCell ⟨G, 33, none⟩ (.slice A7 n7 m7)) w.heap.size (cm0 idZ) (.slice none 0 0)) := (heap_setCell_other _ _ _ _ (by show w.heap.size ≠ G; omega)).trans HZ7.out
          have HW8 := Lib.hid (HW7.out.setCell (p := ⟨G, 33, none⟩) (by show w.heap.size ≤ G; omega) (.slice A7 n7 m7))
          have hs8 : G + 1 ≤ (w7.setCell ⟨G, 33, none⟩ (.slice A7 n7 m7)).heap.size := by simpa using hs7
          clear d7 f7 HG7 HO7 HR7 HZ7 HW7
          generalize w7.setCell ⟨G, 33, none⟩ (.slice A7 n7 m7) = w8 at *
          refine hK.out _ _ trivial (fun _ => ?_)
          clear hK K9
          try simp only [Act.put, List.setIfInBounds_toArray, List.set_cons_zero, List.set_cons_succ]
          refine wpAnyH_done (by kernel_rfl) ?_ _
          try simp only [Act.put, List.setIfInBounds_toArray, List.set_cons_zero, List.set_cons_succ]
          go_wp2_with fail
          go_roundw
          case rel => exact ⟨k + 1, A7, n7, m7, by go_num, by omega, by rw [hnx.out]; exact HO8.out, HG8.out, HZ8.out, by rw [hnx.out]; exact HR8.out, HW8.out, hs8⟩
          case measure => simp [intOf]; omega
        · refine AllReadyH.cons (Array.getElem?_eq_getElem (i := 4) (by decide)) (fun K9 hK => ?_) AllReadyH.nil
          refine step_one kind_ii (by omega) rfl _ rfl y rfl ?_
          have HG6 := Lib.hid (HG5.out.below (new_below w5 (.cells (iiC y).toArray 41)) (by omega))
          have HR6 := Lib.hid (HR5.out.on (new_below w5 (.cells (iiC y).toArray 41)))
          have HZ6 := Lib.hid (HZ5.out.below (new_below w5 (.cells (iiC y).toArray 41)) (by omega))
          have HW6 := Lib.hid (HW5.out.trans ((new_below w5 (.cells (iiC y).toArray 41)).mono (by omega)))
          have HO6 := Lib.hid (HO5.out.alloc (.cells (iiC y).toArray 41))
          have HY6 := Lib.hid (rw_one kind_ii w5 y 41 _ rfl)
          have hs6 : G + 1 ≤ (w5.alloc (.cells (iiC y).toArray 41)).heap.size := by rw [asz]; omega
          generalize w5.alloc (.cells (iiC y).toArray 41) = w6 at *
          refine hK.out _ _ trivial (fun _ => ?_)
          clear hK K9
          try simp only [Act.put, List.setIfInBounds_toArray, List.set_cons_zero, List.set_cons_succ]
          refine wpAnyH_ready (rs := [1]) (by kernel_rfl) (by simp) ?_
          refine come (i := 1) (.slice A nn m) w6 (some 38) (by decide) (by rfl) (by rfl) (by have := HG6.out.is; go_simp) trivial ?_ AllReadyH.nil
          try simp only [Act.put, List.setIfInBounds_toArray, List.set_cons_zero, List.set_cons_succ]
          refine wpAnyH_ready (rs := [5]) (by kernel_rfl) (by simp) ?_
          refine AllReadyH.cons (Array.getElem?_eq_getElem (i := 5) (by decide)) (fun K9 hK => ?_) AllReadyH.nil
          refine step_append_rw kind_ii rfl _ _ rfl rfl HO6.out (by omega) _ _ [y] rfl HY6.out (by simp only [List.length_singleton]; omega) ?_
          intro v7 w7 ho7 hb7 _
          have HG7 := Lib.hid (HG6.out.below hb7 (by omega))
          have HR7 := Lib.hid (HR6.out.below hb7 (by omega))
          have HZ7 := Lib.hid (HZ6.out.below hb7 (by omega))
          have HW7 := Lib.hid (HW6.out.trans (hb7.mono (by omega)))
          have hs7 : G + 1 ≤ w7.heap.size := Nat.le_trans hs6 hb7.size
          obtain ⟨A7, m7, e7⟩ : ∃ A m, v7 = .slice A (l ++ [y]).length m := by
            obtain ⟨A, c, e, _⟩ := (ho7.rwIn kind_ii).len
            exact ⟨A, c, e⟩
          obtain ⟨n7, hn7⟩ : ∃ x, (l ++ [y]).length = x := ⟨_, rfl⟩
          rw [hn7] at e7
          subst e7
          have HO7 := Lib.hid ho7
          clear hb7 ho7 hn7
          refine hK.out _ _ trivial (fun _ => ?_)
          clear hK K9
          try simp only [Act.put, List.setIfInBounds_toArray, List.set_cons_zero, List.set_cons_succ]
          refine take_at (i := 6) (.pointer (some ⟨G, 33, none⟩)) (some 43) (by decide) (by rfl) (by kernel_rfl) (by kernel_rfl) (by kernel_rfl) (fun _ _ _ h => h) (by rfl) (fun W hW => by go_simp) (by assumption) ?_
          try simp only [Act.put, List.setIfInBounds_toArray, List.set_cons_zero, List.set_cons_succ]
          refine wpAnyH_ready (rs := [7]) (by kernel_rfl) (by simp) ?_
          refine AllReadyH.cons (Array.getElem?_eq_getElem (i := 7) (by decide)) (fun K9 hK => ?_) AllReadyH.nil
          have d7 := HG7.out.is
          have f7 := HG7.out.frozen 33
          go_simp
          have HG8 := Lib.hid (HG7.out.set33 (.slice A7 n7 m7))
          have HO8 := Lib.hid (HO7.out.put ⟨G, 33, none⟩ (.slice A7 n7 m7) (by show G < G + 1; omega))
          have HR8 := Lib.hid (HR7.out.other ⟨G, 33, none⟩ (.slice A7 n7 m7) (by show g ≠ G; omega))
          have HZ8 : Hid (ComAt (w7.setCell ⟨G, 33, none⟩ (.slice A7 n7 m7)) w.heap.size (cm0 idZ) (.slice none 0 0)) := (heap_setCell_other _ _ _ _ (by show w.heap.size ≠ G; omega)).trans HZ7.out
          have HW8 := Lib.hid (HW7.out.setCell (p := ⟨G, 33, none⟩) (by show w.heap.size ≤ G; omega) (.slice A7 n7 m7))
          have hs8 : G + 1 ≤ (w7.setCell ⟨G, 33, none⟩ (.slice A7 n7 m7)).heap.size := by simpa using hs7
          clear d7 f7 HG7 HO7 HR7 HZ7 HW7
          generalize w7.setCell ⟨G, 33, none⟩ (.slice A7 n7 m7) = w8 at *
          refine hK.out _ _ trivial (fun _ => ?_)
          clear hK K9
          try simp only [Act.put, List.setIfInBounds_toArray, List.set_cons_zero, List.set_cons_succ]
          refine wpAnyH_done (by kernel_rfl) ?_ _
          try simp only [Act.put, List.setIfInBounds_toArray, List.set_cons_zero, List.set_cons_succ]
          go_wp2_with fail
          go_roundw
          case rel => exact ⟨k + 1, A7, n7, m7, by go_num, by omega, by rw [hnx.out]; exact HO8.out, HG8.out, HZ8.out, by rw [hnx.out]; exact HR8.out, HW8.out, hs8⟩
          case measure => simp [intOf]; omega
    · have hkn : k = n.toNat := by omega
      rw [hkn] at ho hrd hsq hlk hlb
      generalize atF s0 n.toNat = q at *
      obtain ⟨l, bb, x⟩ := q
      simp only at *
      have HT1 := Lib.hid (fun W h => ftext_any g 32 bb x W h hsq (by omega) (by omega))
      have hlb2 := txB_len 32 bb
      have HT2 := Lib.hid (fun W h => fint_any g (txB 32 bb) (txX 32 bb) W h (Sane.tx 32 bb) (by omega))
      generalize txB 32 bb = b3 at *
      generalize txX 32 bb = x3 at *
      generalize txV 32 bb = note at *
      generalize zag (nv b3) = num at *
      generalize uB b3 = b4 at *
      generalize uX b3 = x4 at *
      clear hsq hlq hkn hk
      go_wp2_with fail
      refine (HT1.out _ hrd.out).mono ?_
      rintro e w5 ⟨rfl, hl5⟩
      have HG5 := Lib.hid (hcg.out.far hl5.2 (by omega))
      have HR5 := Lib.hid hl5.1
      have HW5 := Lib.hid (below_of_grown hw.out hl5.2 (by omega) (by omega))
      have HO5 := Lib.hid (ho.out.far hl5.2 (by omega))
      have HZ5 := Lib.hid (hcz.out.far hl5.2 (by omega))
      have hs5 : G + 1 ≤ w5.heap.size := Nat.le_trans hsz hl5.2.size
      clear hl5 hcg hrd hw ho hcz
      have d5 := HG5.out.note
      have f5 := HG5.out.frozen 34
      have HG6 := Lib.hid (HG5.out.set34 note)
      have HO6 := Lib.hid (HO5.out.put ⟨G, 34, none⟩ (.string ⟨note.toArray⟩) (by show G < G + 1; omega))
      have HR6 := Lib.hid (HR5.out.other ⟨G, 34, none⟩ (.string ⟨note.toArray⟩) (by show g ≠ G; omega))
      have HZ6 : Hid (ComAt (w5.setCell ⟨G, 34, none⟩ (.string ⟨note.toArray⟩)) w.heap.size (cm0 idZ) (.slice none 0 0)) := (heap_setCell_other _ _ _ _ (by show w.heap.size ≠ G; omega)).trans HZ5.out
      have HW6 := Lib.hid (HW5.out.setCell (p := ⟨G, 34, none⟩) (by show w.heap.size ≤ G; omega) (.string ⟨note.toArray⟩))
      have hs6 : G + 1 ≤ (w5.setCell ⟨G, 34, none⟩ (.string ⟨note.toArray⟩)).heap.size := by simpa using hs5
      go_wp2_with fail
      clear d5 f5
      generalize w5.setCell ⟨G, 34, none⟩ (.string ⟨note.toArray⟩) = w6 at *
      refine (HT2.out _ HR6.out).mono ?_
      rintro e w7 ⟨rfl, hl7⟩
      have HG7 := Lib.hid (HG6.out.far hl7.2 (by omega))
      have HR7 := Lib.hid hl7.1
      have HW7 := Lib.hid (below_of_grown HW6.out hl7.2 (by omega) (by omega))
      have HO7 := Lib.hid (HO6.out.far hl7.2 (by omega))
      have HZ7 := Lib.hid (HZ6.out.far hl7.2 (by omega))
      have hs7 : G + 1 ≤ w7.heap.size := Nat.le_trans hs6 hl7.2.size
      clear hl7 HG6 HR6 HW6 HO6 HZ6 HG5 HR5 HW5 HO5 HZ5
      have d7 := HG7.out.num
      have f7 := HG7.out.frozen 35
      have HG8 := Lib.hid ((HG7.out.set35 num).as l)
      have HO8 := Lib.hid (HO7.out.put ⟨G, 35, none⟩ (.int .i64 num) (by show G < G + 1; omega))
      have HR8 := Lib.hid (HR7.out.other ⟨G, 35, none⟩ (.int .i64 num) (by show g ≠ G; omega))
      have HZ8 : Hid (ComAt (w7.setCell ⟨G, 35, none⟩ (.int .i64 num)) w.heap.size (cm0 idZ) (.slice none 0 0)) := (heap_setCell_other _ _ _ _ (by show w.heap.size ≠ G; omega)).trans HZ7.out
      have HW8 := Lib.hid (HW7.out.setCell (p := ⟨G, 35, none⟩) (by show w.heap.size ≤ G; omega) (.int .i64 num))
      have hs8 : G + 1 ≤ (w7.setCell ⟨G, 35, none⟩ (.int .i64 num)).heap.size := by simpa using hs7
      go_wp2_with fail
      clear d7 f7 HG7 HO7 HR7 HZ7 HW7
      generalize w7.setCell ⟨G, 35, none⟩ (.int .i64 num) = w8 at *
      obtain ⟨CC, hCC⟩ : ∃ C : Cmt, C = ⟨root, l, note, num⟩ := ⟨_, rfl⟩
      have HG9 : Hid (ComAt w8 G CC (.slice A nn m)) := by rw [hCC]; exact HG8.out
      have HO9 : Hid (OwnRw iiC 33 41 w8 (G + 1) (.slice A nn m) CC.is) := by rw [hCC]; exact HO8.out
      rw [← hCC] at HNO HYES
      clear HG8 HO8 hCC
      refine (fend_any g b4 x4 w8 HR8.out).mono ?_
      rintro e w9 ⟨rfl, rfl⟩
      have hcw := cells_com CC (.slice A nn m)
      have HWH : Hid (w8.rangeAt G 0 (cmC CC (.slice A nn m))) := ComAt.whole HG9.out
      by_cases hend : x4 = false ∧ b4 = []
      · obtain ⟨rfl, rfl⟩ := hend
        have hyes2 : Hid (GoodC CC → GetsC (3 :: n :: r) (some CC)) := fun hg => HYES.out rfl rfl hg
        have hno2 : Hid (¬ GoodC CC → GetsC (3 :: n :: r) none) := fun hg => HNO.out (fun hn => hg hn.2.2)
        clear HYES HNO
        try dsimp only
        repeat (first
          | go_values | go_skip | go_guarded
          | (refine wp_load_mid 44 _ rfl G 0 rfl (cmC CC (.slice A nn m)) _ HWH.out Try.underlying44 rfl hcw ?_; try simp only [Act.put, List.setIfInBounds_toArray, List.set_cons_zero, List.set_cons_succ])
          | go_step | go_upon)
        refine (rgoodc_any _ CC w8 ⟨_, rfl, HO9.out.rwIn kind_ii⟩).mono ?_
        rintro e wa ⟨s, rfl, hsa, hba⟩
        have HBa := Lib.hid (HW8.out.trans (hba.mono (by omega)))
        have HZa := Lib.hid (HZ8.out.below hba (by omega))
        have HOa := Lib.hid (HO9.out.keep hba)
        have HGa := Lib.hid (HG9.out.below hba (by omega))
        have hsa2 : G + 1 ≤ wa.heap.size := Nat.le_trans hs8 hba.size
        clear hba HW8 HZ8 HO9 HG9 HWH
        have HWH : Hid (wa.rangeAt G 0 (cmC CC (.slice A nn m))) := ComAt.whole HGa.out
        cases s
        · have HN : Hid (GetsC (3 :: n :: r) none) := hno2.out (fun hn => by have := hsa.2 hn; cases this)
          clear hsa hyes2 hno2
          go_wp2_with (first
            | (refine wp_build_row rfl _ rfl _ built_cm0 (by simp) ?_)
            | (refine wp_put_cm rfl _ _ rfl w.heap.size rfl (cm0 idZ) none 0 0 rfl (cm0 idZ) _ HZa.out ?_; intro wz htz hgz))
          have hbz := below_of_grown HBa.out hgz (by omega) (by omega)
          exact bodyPost_ret (ret_cm2 Try.results23 _ _ w.heap.size _ _ (.bool false) rfl htz rfl) rfl (rgot_none HN.out hbz)
        · have HY : Hid (GetsC (3 :: n :: r) (some CC)) := hyes2.out (hsa.1 rfl)
          clear hsa hyes2 hno2
          go_wp2_with (first
            | (refine wpList_load_mid rfl 44 _ rfl G 0 rfl (cmC CC (.slice A nn m)) _ HWH.out Try.underlying44 rfl hcw ?_)
            | (refine wp_put_cm rfl _ _ rfl w.heap.size rfl CC A nn m rfl (cm0 idZ) _ HZa.out ?_; intro wz htz hgz))
          have hbz := below_of_grown HBa.out hgz (by omega) (by omega)
          have hoz := (HOa.out.far hgz (by omega)).rwIn kind_ii
          refine bodyPost_ret (ret_cm2 Try.results23 _ _ w.heap.size _ _ (.bool true) rfl htz rfl) rfl ?_
          exact ⟨some CC, _, rfl, HY.out, hbz, ⟨_, rfl, hoz⟩⟩
      · have HN : Hid (GetsC (3 :: n :: r) none) := HNO.out (fun hn => hend ⟨hn.1, hn.2.1⟩)
        have hbb : (!x4 && b4.isEmpty) = false := by
          cases x4
          · cases b4
            · exact absurd ⟨rfl, rfl⟩ hend
            · rfl
          · rfl
        rw [hbb]
        clear hend hbb HNO HYES
        go_wp2_with (first
          | go_skip | go_guarded
          | (refine wp_build_row rfl _ rfl _ built_cm0 (by simp) ?_)
          | (refine wp_put_cm rfl _ _ rfl w.heap.size rfl (cm0 idZ) none 0 0 rfl (cm0 idZ) _ HZ8.out ?_; intro wz htz hgz))
        have hbz := below_of_grown HW8.out hgz (by omega) (by omega)
        exact bodyPost_ret (ret_cm2 Try.results23 _ _ w.heap.size _ _ (.bool false) rfl htz rfl) rfl (rgot_none HN.out hbz)

end Go.Proofs.Ytabogconbjdcgaa.Cd

/-
  ObjectCommits: the law's walk. Conditions: none.
-/
namespace Go.Proofs.Ytabogconbjdcgaa.ObjectCommits
open Go.RowKit Go.Proofs.Ytabogconbjdcgaa.Cd

/-- The commit's box, of a law that was called in the world w, as it lies in W. -/
structure HeldC (w W : World) (c : Cmt) (vi : Value) : Prop where
  is : IsIn w w.heap.size vi c.is
  bel : Below w.heap.size w W
  cm : ComAt W w.heap.size c vi
  top : w.heap.size + 1 ≤ W.heap.size
section
variable {w W W' : World} {c : Cmt} {vi : Value}
theorem HeldC.step (h : HeldC w W c vi) (hb : Below W.heap.size W W') : HeldC w W' c vi :=
  ⟨h.is, h.bel.trans (hb.mono h.bel.size), h.cm.below hb h.top, Nat.le_trans h.top hb.size⟩
theorem HeldC.new (h : HeldC w W c vi) (o : Obj) : HeldC w (W.alloc o) c vi := h.step (new_below _ _)
theorem HeldC.isIn (h : HeldC w W c vi) : IsIn W W.heap.size vi c.is := (h.is.below h.bel).more h.bel.size
theorem HeldC.cmt (h : HeldC w W c vi) : CmtIn W W.heap.size (.agg (cmC c vi).toArray) c := ⟨_, rfl, h.isIn⟩
end
theorem HeldC.start {w : World} {c : Cmt} {vi : Value} (h : IsIn w w.heap.size vi c.is) : HeldC w (w.alloc (.cells (cmC c vi).toArray 44)) c vi :=
  ⟨h, new_below _ _, ComAt.new _ _ _, by rw [asz]; omega⟩

set_option maxRecDepth 100000 in
set_option maxHeartbeats 12800000 in
theorem walk (vc : Value) (c : Cmt) (vb : Value) (bb : List UInt8) (w : World) (hc : CmtIn w w.heap.size vc c ∧ FitC c) (hb0 : Sl w w.heap.size vb bb) : Calls Try.prog 4 #[vc, vb] w (Gives (.bool true) w) := by
  obtain ⟨⟨vi, rfl, hi0⟩, hfc⟩ := hc
  obtain ⟨A3, c3, e3, k3, l3⟩ := hi0.len
  obtain ⟨Ab, cb, eb, kb, lb⟩ := hb0.len
  subst e3 eb
  have lb : cb ≤ 9223372036854775807 := lb
  have HSB := Lib.hid hb0
  have HH1 := Lib.hid (HeldC.start hi0)
  clear hi0 hb0
  go_enter Try.func4, Try.ntmps4
  go_wp2_with (refine wp_box_row rfl _ rfl rfl ?_)
  generalize w.alloc (.cells (cmC c (.slice A3 c.is.length c3)).toArray 44) = W1 at *
  refine (oalive_any W1).mono ?_
  rintro e W2 ⟨rfl, hb⟩
  have HH2 := Lib.hid (HH1.out.step hb)
  clear hb HH1
  go_wp2_with (first
    | (refine wpList_load_mid rfl 44 _ rfl w.heap.size 0 rfl (cmC c (.slice A3 c.is.length c3)) _ HH2.out.cm.whole Try.underlying44 rfl (cells_com _ _) ?_))
  refine (greatc_any _ c W2 HH2.out.cmt).mono ?_
  rintro e W4 ⟨s, rfl, hs, hb⟩
  have HH4 := Lib.hid (HH2.out.step hb)
  clear hb HH2
  cases s
  case true =>
    have HB := Lib.hid HH4.out.bel
    clear hs
    go_wp2_with fail
    go_ret
    exact ⟨rfl, HB.out⟩
  clear hs
  by_cases hbb : 4096 < bb.length
  · have hbb' : (4096 : Int) < bb.length := by omega
    have HB := Lib.hid HH4.out.bel
    clear hbb
    go_wp2_with fail
    go_ret
    exact ⟨rfl, HB.out⟩
  have hbb' : ¬ (4096 : Int) < bb.length := by omega
  have HLEN : Hid (bb.length ≤ 4096) := by show bb.length ≤ 4096; omega
  clear hbb
  go_wp2_with (first
    | go_skip | go_guarded
    | (refine wpList_load_mid rfl 44 _ rfl w.heap.size 0 rfl (cmC c (.slice A3 c.is.length c3)) _ HH4.out.cm.whole Try.underlying44 rfl (cells_com _ _) ?_))
  refine (putc_any _ c W4 HH4.out.cmt).mono ?_
  rintro e W5 ⟨v5, n5, rfl, hb, hput⟩
  have HH5 := Lib.hid (HH4.out.step hb)
  clear hb HH4 hbb'
  rcases hput with ⟨hg, rfl, ho⟩ | ⟨hng, rfl, rfl⟩
  · have HGC := Lib.hid hg
    have HO5 := Lib.hid ho
    obtain ⟨A5, c5, e5, _, _⟩ := ho.sl.len
    clear ho hg
    subst e5
    go_wp2_with (first
      | (refine wpList_load_mid rfl 44 _ rfl w.heap.size 0 rfl (cmC c (.slice A3 c.is.length c3)) _ HH5.out.cm.whole Try.underlying44 rfl (cells_com _ _) ?_))
    refine (rgoodc_any _ c W5 HH5.out.cmt).mono ?_
    rintro e W6 ⟨s, rfl, hs, hb⟩
    obtain rfl : s = true := hs.2 HGC.out
    have HO6 := Lib.hid (HO5.out.keep hb)
    have HH6 := Lib.hid (HH5.out.step hb)
    clear hb hs HH5 HO5
    go_wp2_with fail
    obtain ⟨W0, hW0⟩ : ∃ x, W6.drew = x := ⟨_, rfl⟩
    have hS0 : HeldC w W0 c (.slice A3 c.is.length c3) ∧ Own W0 W4.heap.size (.slice A5 (comB c).length c5) (comB c) := by
      rw [← hW0]
      exact ⟨⟨HH6.out.is, HH6.out.bel.drew, HH6.out.cm, HH6.out.top⟩, HO6.out.drew⟩
    have HRC := Lib.hid (fun W h => rcom_any (.agg (cmC c (.slice A3 c.is.length c3)).toArray) c W h HGC.out)
    have HGD := Lib.hid (fun W h => goodc_any (.agg (cmC c (.slice A3 c.is.length c3)).toArray) c W h)
    have HSL := Lib.hid (fun (W : World) (h : Own W W4.heap.size (.slice A5 (comB c).length c5) (comB c)) => run_text_of _ _ _ _ h.sl)
    generalize (comB c) = CB at *
    clear HH6 HO6
    refine region_begin hW0 (S := fun W => HeldC w W c (.slice A3 c.is.length c3) ∧ Own W W4.heap.size (.slice A5 CB.length c5) CB) (by kernel_rfl) hS0 (fun hHeld => ?_)
    clear hW0 hS0
    refine take_at (i := 0) (.agg (cmC c (.slice A3 c.is.length c3)).toArray) (some 28) (by decide) (by rfl) (by kernel_rfl) (by kernel_rfl) (by kernel_rfl) (fun _ _ _ h => h) (by rfl) (fun W hW => by exact exec_load_mid _ _ rfl w.heap.size 0 rfl (cmC c (.slice A3 c.is.length c3)) _ hW.1.cm.whole Try.underlying44 rfl (cells_com _ _)) (by assumption) ?_
    try simp only [Act.put, List.setIfInBounds_toArray, List.set_cons_zero, List.set_cons_succ]
    refine take_at (i := 2) (.bool true) (some 30) (by decide) (by rfl) (by kernel_rfl) (by kernel_rfl) (by kernel_rfl) (fun _ _ _ h => h) (by rfl) (fun W hW => by go_simp) (by assumption) ?_
    try simp only [Act.put, List.setIfInBounds_toArray, List.set_cons_zero, List.set_cons_succ]
    refine wpAnyH_ready (rs := [1]) (by kernel_rfl) (by simp) (AllReadyH.cons (Array.getElem?_eq_getElem (i := 1) (by decide)) (fun K9 hK => ?_) AllReadyH.nil)
    go_simp
    refine (HGD.out _ hHeld.1.cmt).mono ?_
    rintro e wa ⟨s, rfl, hs, hba⟩
    obtain rfl : s = true := hs.2 HGC.out
    refine hK.out _ _ (⟨hHeld.1.step hba, hHeld.2.keep hba⟩) (fun hHeld => ?_)
    clear hK K9
    try simp only [Act.put, List.setIfInBounds_toArray, List.set_cons_zero, List.set_cons_succ]
    clear hba hs
    refine take_at (i := 3) (.bool false) (some 31) (by decide) (by rfl) (by kernel_rfl) (by kernel_rfl) (by kernel_rfl) (fun _ _ _ h => h) (by rfl) (fun W hW => by go_simp) (by assumption) ?_
    try simp only [Act.put, List.setIfInBounds_toArray, List.set_cons_zero, List.set_cons_succ]
    refine take_at (i := 4) (.bool false) (some 32) (by decide) (by rfl) (by kernel_rfl) (by kernel_rfl) (by kernel_rfl) (fun _ _ _ h => h) (by rfl) (fun W hW => by go_simp) (by assumption) ?_
    try simp only [Act.put, List.setIfInBounds_toArray, List.set_cons_zero, List.set_cons_succ]
    refine take_at (i := 5) (.int .i64 0) (some 33) (by decide) (by rfl) (by kernel_rfl) (by kernel_rfl) (by kernel_rfl) (fun _ _ _ h => h) (by rfl) (fun W hW => by go_simp) (by assumption) ?_
    try simp only [Act.put, List.setIfInBounds_toArray, List.set_cons_zero, List.set_cons_succ]
    refine take_at (i := 6) (.bool true) (some 34) (by decide) (by rfl) (by kernel_rfl) (by kernel_rfl) (by kernel_rfl) (fun _ _ _ h => h) (by rfl) (fun W hW => by go_simp) (by assumption) ?_
    try simp only [Act.put, List.setIfInBounds_toArray, List.set_cons_zero, List.set_cons_succ]
    refine take_at (i := 7) (.bool true) (some 35) (by decide) (by rfl) (by kernel_rfl) (by kernel_rfl) (by kernel_rfl) (fun _ _ _ h => h) (by rfl) (fun W hW => by go_simp) (by assumption) ?_
    try simp only [Act.put, List.setIfInBounds_toArray, List.set_cons_zero, List.set_cons_succ]
    refine take_at (i := 8) (.bool false) (some 36) (by decide) (by rfl) (by kernel_rfl) (by kernel_rfl) (by kernel_rfl) (fun _ _ _ h => h) (by rfl) (fun W hW => by go_simp) (by assumption) ?_
    try simp only [Act.put, List.setIfInBounds_toArray, List.set_cons_zero, List.set_cons_succ]
    refine take_at (i := 9) (.bool false) (some 37) (by decide) (by rfl) (by kernel_rfl) (by kernel_rfl) (by kernel_rfl) (fun _ _ _ h => h) (by rfl) (fun W hW => by go_simp) (by assumption) ?_
    try simp only [Act.put, List.setIfInBounds_toArray, List.set_cons_zero, List.set_cons_succ]
    refine take_at (i := 10) (.bool false) (some 38) (by decide) (by rfl) (by kernel_rfl) (by kernel_rfl) (by kernel_rfl) (fun _ _ _ h => h) (by rfl) (fun W hW => by go_simp) (by assumption) ?_
    try simp only [Act.put, List.setIfInBounds_toArray, List.set_cons_zero, List.set_cons_succ]
    refine take_at (i := 11) (.bool true) (some 39) (by decide) (by rfl) (by kernel_rfl) (by kernel_rfl) (by kernel_rfl) (fun _ _ _ h => h) (by rfl) (fun W hW => by go_simp) (by assumption) ?_
    try simp only [Act.put, List.setIfInBounds_toArray, List.set_cons_zero, List.set_cons_succ]
    refine take_at (i := 12) (.bool true) (some 40) (by decide) (by rfl) (by kernel_rfl) (by kernel_rfl) (by kernel_rfl) (fun _ _ _ h => h) (by rfl) (fun W hW => by go_simp) (by assumption) ?_
    try simp only [Act.put, List.setIfInBounds_toArray, List.set_cons_zero, List.set_cons_succ]
    refine take_at (i := 13) (.slice A5 CB.length c5) (some 41) (by decide) (by rfl) (by kernel_rfl) (by kernel_rfl) (by kernel_rfl) (fun _ _ _ h => h) (by rfl) (fun W hW => by go_simp) (by assumption) ?_
    try simp only [Act.put, List.setIfInBounds_toArray, List.set_cons_zero, List.set_cons_succ]
    refine take_at (i := 14) (.string ⟨CB.toArray⟩) (some 42) (by decide) (by rfl) (by kernel_rfl) (by kernel_rfl) (by kernel_rfl) (fun _ _ _ h => h) (by rfl) (fun W hW => by have := HSL.out W hW.2; go_simp) (by assumption) ?_
    try simp only [Act.put, List.setIfInBounds_toArray, List.set_cons_zero, List.set_cons_succ]
    refine take_at (i := 15) (.agg (cmC c (.slice A3 c.is.length c3)).toArray) (some 43) (by decide) (by rfl) (by kernel_rfl) (by kernel_rfl) (by kernel_rfl) (fun _ _ _ h => h) (by rfl) (fun W hW => by exact exec_load_mid _ _ rfl w.heap.size 0 rfl (cmC c (.slice A3 c.is.length c3)) _ hW.1.cm.whole Try.underlying44 rfl (cells_com _ _)) (by assumption) ?_
    try simp only [Act.put, List.setIfInBounds_toArray, List.set_cons_zero, List.set_cons_succ]
    refine wpAnyH_ready (rs := [16]) (by kernel_rfl) (by simp) (AllReadyH.cons (Array.getElem?_eq_getElem (i := 16) (by decide)) (fun K9 hK => ?_) AllReadyH.nil)
    go_simp
    refine (HRC.out _ hHeld.1.cmt).mono ?_
    rintro e wb ⟨rfl, hbc⟩
    refine hK.out _ _ (⟨hHeld.1.step hbc, hHeld.2.keep hbc⟩) (fun hHeld => ?_)
    clear hK K9
    try simp only [Act.put, List.setIfInBounds_toArray, List.set_cons_zero, List.set_cons_succ]
    clear hbc
    refine take_at (i := 17) (.bool false) (some 45) (by decide) (by rfl) (by kernel_rfl) (by kernel_rfl) (by kernel_rfl) (fun _ _ _ h => h) (by rfl) (fun W hW => by go_simp) (by assumption) ?_
    try simp only [Act.put, List.setIfInBounds_toArray, List.set_cons_zero, List.set_cons_succ]
    refine take_at (i := 18) (.bool false) (some 46) (by decide) (by rfl) (by kernel_rfl) (by kernel_rfl) (by kernel_rfl) (fun _ _ _ h => h) (by rfl) (fun W hW => by go_simp) (by assumption) ?_
    try simp only [Act.put, List.setIfInBounds_toArray, List.set_cons_zero, List.set_cons_succ]
    refine take_at (i := 19) (.bool false) (some 47) (by decide) (by rfl) (by kernel_rfl) (by kernel_rfl) (by kernel_rfl) (fun _ _ _ h => h) (by rfl) (fun W hW => by go_simp) (by assumption) ?_
    try simp only [Act.put, List.setIfInBounds_toArray, List.set_cons_zero, List.set_cons_succ]
    refine take_at (i := 20) (.bool false) (some 48) (by decide) (by rfl) (by kernel_rfl) (by kernel_rfl) (by kernel_rfl) (fun _ _ _ h => h) (by rfl) (fun W hW => by go_simp) (by assumption) ?_
    try simp only [Act.put, List.setIfInBounds_toArray, List.set_cons_zero, List.set_cons_succ]
    refine take_at (i := 21) (.bool true) (some 49) (by decide) (by rfl) (by kernel_rfl) (by kernel_rfl) (by kernel_rfl) (fun _ _ _ h => h) (by rfl) (fun W hW => by go_simp) (by assumption) ?_
    try simp only [Act.put, List.setIfInBounds_toArray, List.set_cons_zero, List.set_cons_succ]
    refine take_at (i := 22) (.bool false) (some 50) (by decide) (by rfl) (by kernel_rfl) (by kernel_rfl) (by kernel_rfl) (fun _ _ _ h => h) (by rfl) (fun W hW => by go_simp) (by assumption) ?_
    try simp only [Act.put, List.setIfInBounds_toArray, List.set_cons_zero, List.set_cons_succ]
    refine take_at (i := 23) (.bool false) (some 51) (by decide) (by rfl) (by kernel_rfl) (by kernel_rfl) (by kernel_rfl) (fun _ _ _ h => h) (by rfl) (fun W hW => by go_simp) (by assumption) ?_
    try simp only [Act.put, List.setIfInBounds_toArray, List.set_cons_zero, List.set_cons_succ]
    refine skip_at (i := 24) (some 52) (by decide) (by rfl) (by kernel_rfl) (by kernel_rfl) (by kernel_rfl) (fun _ _ _ h => h) (by rfl) (by assumption) ?_
    try simp only [Act.put, List.setIfInBounds_toArray, List.set_cons_zero, List.set_cons_succ]
    refine skip_at (i := 25) (some 53) (by decide) (by rfl) (by kernel_rfl) (by kernel_rfl) (by kernel_rfl) (fun _ _ _ h => h) (by rfl) (by assumption) ?_
    try simp only [Act.put, List.setIfInBounds_toArray, List.set_cons_zero, List.set_cons_succ]
    refine skip_at (i := 26) (some 54) (by decide) (by rfl) (by kernel_rfl) (by kernel_rfl) (by kernel_rfl) (fun _ _ _ h => h) (by rfl) (by assumption) ?_
    try simp only [Act.put, List.setIfInBounds_toArray, List.set_cons_zero, List.set_cons_succ]
    refine skip_at (i := 27) (some 55) (by decide) (by rfl) (by kernel_rfl) (by kernel_rfl) (by kernel_rfl) (fun _ _ _ h => h) (by rfl) (by assumption) ?_
    try simp only [Act.put, List.setIfInBounds_toArray, List.set_cons_zero, List.set_cons_succ]
    refine skip_at (i := 28) (some 56) (by decide) (by rfl) (by kernel_rfl) (by kernel_rfl) (by kernel_rfl) (fun _ _ _ h => h) (by rfl) (by assumption) ?_
    try simp only [Act.put, List.setIfInBounds_toArray, List.set_cons_zero, List.set_cons_succ]
    refine skip_at (i := 29) (some 57) (by decide) (by rfl) (by kernel_rfl) (by kernel_rfl) (by kernel_rfl) (fun _ _ _ h => h) (by rfl) (by assumption) ?_
    try simp only [Act.put, List.setIfInBounds_toArray, List.set_cons_zero, List.set_cons_succ]
    refine skip_at (i := 30) (some 58) (by decide) (by rfl) (by kernel_rfl) (by kernel_rfl) (by kernel_rfl) (fun _ _ _ h => h) (by rfl) (by assumption) ?_
    try simp only [Act.put, List.setIfInBounds_toArray, List.set_cons_zero, List.set_cons_succ]
    refine take_at (i := 31) (.bool false) (some 59) (by decide) (by rfl) (by kernel_rfl) (by kernel_rfl) (by kernel_rfl) (fun _ _ _ h => h) (by rfl) (fun W hW => by go_simp) (by assumption) ?_
    try simp only [Act.put, List.setIfInBounds_toArray, List.set_cons_zero, List.set_cons_succ]
    refine take_at (i := 32) (.bool false) (some 60) (by decide) (by rfl) (by kernel_rfl) (by kernel_rfl) (by kernel_rfl) (fun _ _ _ h => h) (by rfl) (fun W hW => by go_simp) (by assumption) ?_
    try simp only [Act.put, List.setIfInBounds_toArray, List.set_cons_zero, List.set_cons_succ]
    refine wpAnyH_done (by kernel_rfl) ?_ _
    try simp only [Act.put, List.setIfInBounds_toArray, List.set_cons_zero, List.set_cons_succ]
    have HX := Lib.hid hHeld.1
    clear hHeld
    have hsl : Sl wb wb.heap.size (.slice Ab bb.length cb) bb := (HSB.out.below HX.out.bel).more HX.out.bel.size
    go_wp2_with fail
    refine (getcmt_any _ bb wb hsl (by have := HLEN.out; omega)).mono ?_
    rintro e X1 ⟨o, y1, m1, rfl, hg1, hb, hcy, hm1⟩
    have HX1 := Lib.hid (HX.out.step hb)
    clear hb hsl HX
    obtain ⟨i1, rfl, ii1⟩ := hcy
    cases o with
    | some cc =>
      obtain rfl : m1 = 0 := hm1
      obtain ⟨B1, d1, e1, _, _⟩ := RwIn.len (show IsIn X1 X1.heap.size i1 cc.is from ii1)
      have e1 : i1 = .slice B1 cc.is.length d1 := e1
      subst e1
      have hnb := new_below X1 (.cells (cmC cc (.slice B1 cc.is.length d1)).toArray 44)
      have hnz : (X1.alloc (.cells (cmC cc (.slice B1 cc.is.length d1)).toArray 44)).heap.size = X1.heap.size + 1 := asz _ _
      have HI2 : Hid (IsIn (X1.alloc (.cells (cmC cc (.slice B1 cc.is.length d1)).toArray 44)) (X1.alloc (.cells (cmC cc (.slice B1 cc.is.length d1)).toArray 44)).heap.size (.slice B1 cc.is.length d1) cc.is) := RwIn.on ii1 hnb
      have HC2 : Hid (ComAt (X1.alloc (.cells (cmC cc (.slice B1 cc.is.length d1)).toArray 44)) X1.heap.size cc (.slice B1 cc.is.length d1)) := ComAt.new _ _ _
      have HX2 := Lib.hid (HX1.out.step hnb)
      have hcv := run_text_of _ _ _ _ (HSB.out.below HX2.out.bel)
      clear hnb ii1 HX1
      go_wp2_with (first
        | (refine wp_alloc_row zero_cm rfl rfl ?_)
        | (refine wp_fill_cm rfl _ _ rfl _ _ rfl (by simp [Act.eval, Act.put]) cc B1 cc.is.length d1 rfl ?_))
      generalize X1.alloc (.cells (cmC cc (.slice B1 cc.is.length d1)).toArray 44) = X2 at *
      refine (rgetc_any bb X2 (by have := HLEN.out; omega)).mono ?_
      rintro e X3 ⟨o3, y3, rfl, hg3, hb, hcy3⟩
      have HX3 := Lib.hid (HX2.out.step hb)
      have HI3 : Hid (IsIn X3 X3.heap.size (.slice B1 cc.is.length d1) cc.is) := RwIn.on HI2.out hb
      have HC3 := Lib.hid (HC2.out.below hb (by omega))
      have hz3 : X1.heap.size < X3.heap.size := by have := hb.size; omega
      clear hb HX2 HI2 HC2 hcv hnz
      obtain rfl : o3 = some cc := getC_uniq hg3 hg1
      obtain ⟨i3, rfl, ii3⟩ := hcy3
      obtain ⟨B3, d3, e3, _, _⟩ := RwIn.len (show IsIn X3 X3.heap.size i3 cc.is from ii3)
      have e3 : i3 = .slice B3 cc.is.length d3 := e3
      subst e3
      have hnb := new_below X3 (.cells (cmC cc (.slice B3 cc.is.length d3)).toArray 44)
      have HX4 := Lib.hid (HX3.out.step hnb)
      have HI4 : Hid (IsIn (X3.alloc (.cells (cmC cc (.slice B3 cc.is.length d3)).toArray 44)) (X3.alloc (.cells (cmC cc (.slice B3 cc.is.length d3)).toArray 44)).heap.size (.slice B1 cc.is.length d1) cc.is) := RwIn.on HI3.out hnb
      have HJ4 : Hid (IsIn (X3.alloc (.cells (cmC cc (.slice B3 cc.is.length d3)).toArray 44)) (X3.alloc (.cells (cmC cc (.slice B3 cc.is.length d3)).toArray 44)).heap.size (.slice B3 cc.is.length d3) cc.is) := RwIn.on ii3 hnb
      have HC4 := Lib.hid (HC3.out.below hnb hz3).whole
      have HD4 : Hid ((X3.alloc (.cells (cmC cc (.slice B3 cc.is.length d3)).toArray 44)).rangeAt X3.heap.size 0 (cmC cc (.slice B3 cc.is.length d3))) := (ComAt.new _ _ _).whole
      clear hnb ii3 HX3 HI3 HC3 hg1 hg3
      try dsimp only
      repeat (first
        | (refine wp_alloc_row zero_cm rfl rfl ?_; try simp only [Act.put, List.setIfInBounds_toArray, List.set_cons_zero, List.set_cons_succ])
        | (refine wp_fill_cm rfl _ _ rfl _ _ rfl (by simp [Act.eval, Act.put]) cc B3 cc.is.length d3 rfl ?_; try simp only [Act.put, List.setIfInBounds_toArray, List.set_cons_zero, List.set_cons_succ])
        | go_values | go_skip | go_guarded
        | (refine wp_load_mid 44 _ rfl X1.heap.size 0 rfl (cmC cc (.slice B1 cc.is.length d1)) _ HC4.out Try.underlying44 rfl (cells_com _ _) ?_; try simp only [Act.put, List.setIfInBounds_toArray, List.set_cons_zero, List.set_cons_succ])
        | (refine wp_load_mid 44 _ rfl X3.heap.size 0 rfl (cmC cc (.slice B3 cc.is.length d3)) _ HD4.out Try.underlying44 rfl (cells_com _ _) ?_; try simp only [Act.put, List.setIfInBounds_toArray, List.set_cons_zero, List.set_cons_succ])
        | go_step | go_upon | go_back)
      generalize X3.alloc (.cells (cmC cc (.slice B3 cc.is.length d3)).toArray 44) = X4 at *
      refine (samec_any _ _ cc cc X4 ⟨_, rfl, HI4.out⟩ ⟨_, rfl, HJ4.out⟩).mono ?_
      rintro e X5 ⟨s, rfl, hs, hb⟩
      obtain rfl : s = true := hs.2 rfl
      have HX5 := Lib.hid (HX4.out.step hb)
      have HB := Lib.hid HX5.out.bel
      clear hb hs
      go_wp2_with fail
      go_ret
      exact ⟨rfl, HB.out⟩
    | none =>
      obtain rfl : m1 = 4 := hm1
      obtain ⟨B1, d1, e1, _, _⟩ := RwIn.len (show IsIn X1 X1.heap.size i1 [] from ii1)
      have e1 : i1 = .slice B1 0 d1 := e1
      subst e1
      have hnb := new_below X1 (.cells (cmC (cm0 idZ) (.slice B1 0 d1)).toArray 44)
      have hnz : (X1.alloc (.cells (cmC (cm0 idZ) (.slice B1 0 d1)).toArray 44)).heap.size = X1.heap.size + 1 := asz _ _
      have HI2 : Hid (IsIn (X1.alloc (.cells (cmC (cm0 idZ) (.slice B1 0 d1)).toArray 44)) (X1.alloc (.cells (cmC (cm0 idZ) (.slice B1 0 d1)).toArray 44)).heap.size (.slice B1 0 d1) []) := RwIn.on ii1 hnb
      have HC2 : Hid (ComAt (X1.alloc (.cells (cmC (cm0 idZ) (.slice B1 0 d1)).toArray 44)) X1.heap.size (cm0 idZ) (.slice B1 0 d1)) := ComAt.new _ _ _
      have HX2 := Lib.hid (HX1.out.step hnb)
      have hcv := run_text_of _ _ _ _ (HSB.out.below HX2.out.bel)
      clear hnb ii1 HX1
      go_wp2_with (first
        | (refine wp_alloc_row zero_cm rfl rfl ?_)
        | (refine wp_fill_cm rfl _ _ rfl _ _ rfl (by simp [Act.eval, Act.put]) (cm0 idZ) B1 0 d1 rfl ?_))
      generalize X1.alloc (.cells (cmC (cm0 idZ) (.slice B1 0 d1)).toArray 44) = X2 at *
      refine (rgetc_any bb X2 (by have := HLEN.out; omega)).mono ?_
      rintro e X3 ⟨o3, y3, rfl, hg3, hb, hcy3⟩
      have HX3 := Lib.hid (HX2.out.step hb)
      have HI3 : Hid (IsIn X3 X3.heap.size (.slice B1 0 d1) []) := RwIn.on HI2.out hb
      have HC3 := Lib.hid (HC2.out.below hb (by omega))
      have hz3 : X1.heap.size < X3.heap.size := by have := hb.size; omega
      clear hb HX2 HI2 HC2 hcv hnz
      obtain rfl : o3 = none := getC_uniq hg3 hg1
      obtain ⟨i3, rfl, ii3⟩ := hcy3
      obtain ⟨B3, d3, e3, _, _⟩ := RwIn.len (show IsIn X3 X3.heap.size i3 [] from ii3)
      have e3 : i3 = .slice B3 0 d3 := e3
      subst e3
      have hnb := new_below X3 (.cells (cmC (cm0 idZ) (.slice B3 0 d3)).toArray 44)
      have HX4 := Lib.hid (HX3.out.step hnb)
      have HI4 : Hid (IsIn (X3.alloc (.cells (cmC (cm0 idZ) (.slice B3 0 d3)).toArray 44)) (X3.alloc (.cells (cmC (cm0 idZ) (.slice B3 0 d3)).toArray 44)).heap.size (.slice B1 0 d1) []) := RwIn.on HI3.out hnb
      have HJ4 : Hid (IsIn (X3.alloc (.cells (cmC (cm0 idZ) (.slice B3 0 d3)).toArray 44)) (X3.alloc (.cells (cmC (cm0 idZ) (.slice B3 0 d3)).toArray 44)).heap.size (.slice B3 0 d3) []) := RwIn.on ii3 hnb
      have HC4 := Lib.hid (HC3.out.below hnb hz3).whole
      have HD4 : Hid ((X3.alloc (.cells (cmC (cm0 idZ) (.slice B3 0 d3)).toArray 44)).rangeAt X3.heap.size 0 (cmC (cm0 idZ) (.slice B3 0 d3))) := (ComAt.new _ _ _).whole
      clear hnb ii3 HX3 HI3 HC3 hg1 hg3
      try dsimp only
      repeat (first
        | (refine wp_alloc_row zero_cm rfl rfl ?_; try simp only [Act.put, List.setIfInBounds_toArray, List.set_cons_zero, List.set_cons_succ])
        | (refine wp_fill_cm rfl _ _ rfl _ _ rfl (by simp [Act.eval, Act.put]) (cm0 idZ) B3 0 d3 rfl ?_; try simp only [Act.put, List.setIfInBounds_toArray, List.set_cons_zero, List.set_cons_succ])
        | go_values | go_skip | go_guarded
        | (refine wp_load_mid 44 _ rfl X1.heap.size 0 rfl (cmC (cm0 idZ) (.slice B1 0 d1)) _ HC4.out Try.underlying44 rfl (cells_com _ _) ?_; try simp only [Act.put, List.setIfInBounds_toArray, List.set_cons_zero, List.set_cons_succ])
        | (refine wp_load_mid 44 _ rfl X3.heap.size 0 rfl (cmC (cm0 idZ) (.slice B3 0 d3)) _ HD4.out Try.underlying44 rfl (cells_com _ _) ?_; try simp only [Act.put, List.setIfInBounds_toArray, List.set_cons_zero, List.set_cons_succ])
        | go_step | go_upon | go_back)
      generalize X3.alloc (.cells (cmC (cm0 idZ) (.slice B3 0 d3)).toArray 44) = X4 at *
      refine (samec_any _ _ (cm0 idZ) (cm0 idZ) X4 ⟨_, rfl, HI4.out⟩ ⟨_, rfl, HJ4.out⟩).mono ?_
      rintro e X5 ⟨s, rfl, hs, hb⟩
      obtain rfl : s = true := hs.2 rfl
      have HX5 := Lib.hid (HX4.out.step hb)
      have HB := Lib.hid HX5.out.bel
      clear hb hs
      go_wp2_with fail
      go_ret
      exact ⟨rfl, HB.out⟩
  · have HNG := Lib.hid hng
    clear hng
    go_wp2_with (first
      | (refine wpList_load_mid rfl 44 _ rfl w.heap.size 0 rfl (cmC c (.slice A3 c.is.length c3)) _ HH5.out.cm.whole Try.underlying44 rfl (cells_com _ _) ?_))
    refine (rgoodc_any _ c W5 HH5.out.cmt).mono ?_
    rintro e W6 ⟨s, rfl, hs, hb⟩
    obtain rfl : s = false := by
      cases s
      · rfl
      · exact absurd (hs.1 rfl) HNG.out
    have HH6 := Lib.hid (HH5.out.step hb)
    clear hb hs HH5
    go_wp2_with fail
    obtain ⟨W0, hW0⟩ : ∃ x, W6.drew = x := ⟨_, rfl⟩
    have hS0 : HeldC w W0 c (.slice A3 c.is.length c3) := by
      rw [← hW0]
      exact ⟨HH6.out.is, HH6.out.bel.drew, HH6.out.cm, HH6.out.top⟩
    have HGD := Lib.hid (fun W h => goodc_any (.agg (cmC c (.slice A3 c.is.length c3)).toArray) c W h)
    clear HH6
    refine region_begin hW0 (S := fun W => HeldC w W c (.slice A3 c.is.length c3)) (by kernel_rfl) hS0 (fun hHeld => ?_)
    clear hW0 hS0
    refine take_at (i := 0) (.agg (cmC c (.slice A3 c.is.length c3)).toArray) (some 28) (by decide) (by rfl) (by kernel_rfl) (by kernel_rfl) (by kernel_rfl) (fun _ _ _ h => h) (by rfl) (fun W hW => by exact exec_load_mid _ _ rfl w.heap.size 0 rfl (cmC c (.slice A3 c.is.length c3)) _ hW.cm.whole Try.underlying44 rfl (cells_com _ _)) (by assumption) ?_
    try simp only [Act.put, List.setIfInBounds_toArray, List.set_cons_zero, List.set_cons_succ]
    refine take_at (i := 2) (.bool false) (some 30) (by decide) (by rfl) (by kernel_rfl) (by kernel_rfl) (by kernel_rfl) (fun _ _ _ h => h) (by rfl) (fun W hW => by go_simp) (by assumption) ?_
    try simp only [Act.put, List.setIfInBounds_toArray, List.set_cons_zero, List.set_cons_succ]
    refine wpAnyH_ready (rs := [1]) (by kernel_rfl) (by simp) (AllReadyH.cons (Array.getElem?_eq_getElem (i := 1) (by decide)) (fun K9 hK => ?_) AllReadyH.nil)
    go_simp
    refine (HGD.out _ hHeld.cmt).mono ?_
    rintro e wa ⟨s, rfl, hs, hba⟩
    obtain rfl : s = false := by
          cases s
          · rfl
          · exact absurd (hs.1 rfl) HNG.out
    refine hK.out _ _ (hHeld.step hba) (fun hHeld => ?_)
    clear hK K9
    try simp only [Act.put, List.setIfInBounds_toArray, List.set_cons_zero, List.set_cons_succ]
    clear hba hs
    refine take_at (i := 3) (.bool false) (some 31) (by decide) (by rfl) (by kernel_rfl) (by kernel_rfl) (by kernel_rfl) (fun _ _ _ h => h) (by rfl) (fun W hW => by go_simp) (by assumption) ?_
    try simp only [Act.put, List.setIfInBounds_toArray, List.set_cons_zero, List.set_cons_succ]
    refine take_at (i := 4) (.bool false) (some 32) (by decide) (by rfl) (by kernel_rfl) (by kernel_rfl) (by kernel_rfl) (fun _ _ _ h => h) (by rfl) (fun W hW => by go_simp) (by assumption) ?_
    try simp only [Act.put, List.setIfInBounds_toArray, List.set_cons_zero, List.set_cons_succ]
    refine take_at (i := 5) (.int .i64 1) (some 33) (by decide) (by rfl) (by kernel_rfl) (by kernel_rfl) (by kernel_rfl) (fun _ _ _ h => h) (by rfl) (fun W hW => by go_simp) (by assumption) ?_
    try simp only [Act.put, List.setIfInBounds_toArray, List.set_cons_zero, List.set_cons_succ]
    refine take_at (i := 6) (.bool false) (some 34) (by decide) (by rfl) (by kernel_rfl) (by kernel_rfl) (by kernel_rfl) (fun _ _ _ h => h) (by rfl) (fun W hW => by go_simp) (by assumption) ?_
    try simp only [Act.put, List.setIfInBounds_toArray, List.set_cons_zero, List.set_cons_succ]
    refine take_at (i := 7) (.bool false) (some 35) (by decide) (by rfl) (by kernel_rfl) (by kernel_rfl) (by kernel_rfl) (fun _ _ _ h => h) (by rfl) (fun W hW => by go_simp) (by assumption) ?_
    try simp only [Act.put, List.setIfInBounds_toArray, List.set_cons_zero, List.set_cons_succ]
    refine take_at (i := 8) (.bool false) (some 36) (by decide) (by rfl) (by kernel_rfl) (by kernel_rfl) (by kernel_rfl) (fun _ _ _ h => h) (by rfl) (fun W hW => by go_simp) (by assumption) ?_
    try simp only [Act.put, List.setIfInBounds_toArray, List.set_cons_zero, List.set_cons_succ]
    refine take_at (i := 9) (.bool false) (some 37) (by decide) (by rfl) (by kernel_rfl) (by kernel_rfl) (by kernel_rfl) (fun _ _ _ h => h) (by rfl) (fun W hW => by go_simp) (by assumption) ?_
    try simp only [Act.put, List.setIfInBounds_toArray, List.set_cons_zero, List.set_cons_succ]
    refine take_at (i := 10) (.bool false) (some 38) (by decide) (by rfl) (by kernel_rfl) (by kernel_rfl) (by kernel_rfl) (fun _ _ _ h => h) (by rfl) (fun W hW => by go_simp) (by assumption) ?_
    try simp only [Act.put, List.setIfInBounds_toArray, List.set_cons_zero, List.set_cons_succ]
    refine take_at (i := 11) (.bool false) (some 39) (by decide) (by rfl) (by kernel_rfl) (by kernel_rfl) (by kernel_rfl) (fun _ _ _ h => h) (by rfl) (fun W hW => by go_simp) (by assumption) ?_
    try simp only [Act.put, List.setIfInBounds_toArray, List.set_cons_zero, List.set_cons_succ]
    refine take_at (i := 12) (.bool false) (some 40) (by decide) (by rfl) (by kernel_rfl) (by kernel_rfl) (by kernel_rfl) (fun _ _ _ h => h) (by rfl) (fun W hW => by go_simp) (by assumption) ?_
    try simp only [Act.put, List.setIfInBounds_toArray, List.set_cons_zero, List.set_cons_succ]
    refine skip_at (i := 13) (some 41) (by decide) (by rfl) (by kernel_rfl) (by kernel_rfl) (by kernel_rfl) (fun _ _ _ h => h) (by rfl) (by assumption) ?_
    try simp only [Act.put, List.setIfInBounds_toArray, List.set_cons_zero, List.set_cons_succ]
    refine skip_at (i := 14) (some 42) (by decide) (by rfl) (by kernel_rfl) (by kernel_rfl) (by kernel_rfl) (fun _ _ _ h => h) (by rfl) (by assumption) ?_
    try simp only [Act.put, List.setIfInBounds_toArray, List.set_cons_zero, List.set_cons_succ]
    refine skip_at (i := 15) (some 43) (by decide) (by rfl) (by kernel_rfl) (by kernel_rfl) (by kernel_rfl) (fun _ _ _ h => h) (by rfl) (by assumption) ?_
    try simp only [Act.put, List.setIfInBounds_toArray, List.set_cons_zero, List.set_cons_succ]
    refine skip_at (i := 16) (some 44) (by decide) (by rfl) (by kernel_rfl) (by kernel_rfl) (by kernel_rfl) (fun _ _ _ h => h) (by rfl) (by assumption) ?_
    try simp only [Act.put, List.setIfInBounds_toArray, List.set_cons_zero, List.set_cons_succ]
    refine skip_at (i := 17) (some 45) (by decide) (by rfl) (by kernel_rfl) (by kernel_rfl) (by kernel_rfl) (fun _ _ _ h => h) (by rfl) (by assumption) ?_
    try simp only [Act.put, List.setIfInBounds_toArray, List.set_cons_zero, List.set_cons_succ]
    refine take_at (i := 18) (.bool false) (some 46) (by decide) (by rfl) (by kernel_rfl) (by kernel_rfl) (by kernel_rfl) (fun _ _ _ h => h) (by rfl) (fun W hW => by go_simp) (by assumption) ?_
    try simp only [Act.put, List.setIfInBounds_toArray, List.set_cons_zero, List.set_cons_succ]
    refine take_at (i := 19) (.bool false) (some 47) (by decide) (by rfl) (by kernel_rfl) (by kernel_rfl) (by kernel_rfl) (fun _ _ _ h => h) (by rfl) (fun W hW => by go_simp) (by assumption) ?_
    try simp only [Act.put, List.setIfInBounds_toArray, List.set_cons_zero, List.set_cons_succ]
    refine take_at (i := 20) (.bool false) (some 48) (by decide) (by rfl) (by kernel_rfl) (by kernel_rfl) (by kernel_rfl) (fun _ _ _ h => h) (by rfl) (fun W hW => by go_simp) (by assumption) ?_
    try simp only [Act.put, List.setIfInBounds_toArray, List.set_cons_zero, List.set_cons_succ]
    refine take_at (i := 21) (.bool false) (some 49) (by decide) (by rfl) (by kernel_rfl) (by kernel_rfl) (by kernel_rfl) (fun _ _ _ h => h) (by rfl) (fun W hW => by go_simp) (by assumption) ?_
    try simp only [Act.put, List.setIfInBounds_toArray, List.set_cons_zero, List.set_cons_succ]
    refine take_at (i := 22) (.bool true) (some 50) (by decide) (by rfl) (by kernel_rfl) (by kernel_rfl) (by kernel_rfl) (fun _ _ _ h => h) (by rfl) (fun W hW => by go_simp) (by assumption) ?_
    try simp only [Act.put, List.setIfInBounds_toArray, List.set_cons_zero, List.set_cons_succ]
    refine take_at (i := 23) (.bool true) (some 51) (by decide) (by rfl) (by kernel_rfl) (by kernel_rfl) (by kernel_rfl) (fun _ _ _ h => h) (by rfl) (fun W hW => by go_simp) (by assumption) ?_
    try simp only [Act.put, List.setIfInBounds_toArray, List.set_cons_zero, List.set_cons_succ]
    refine take_at (i := 24) (.int .i64 1) (some 52) (by decide) (by rfl) (by kernel_rfl) (by kernel_rfl) (by kernel_rfl) (fun _ _ _ h => h) (by rfl) (fun W hW => by go_simp) (by assumption) ?_
    try simp only [Act.put, List.setIfInBounds_toArray, List.set_cons_zero, List.set_cons_succ]
    refine take_at (i := 25) (.bool false) (some 53) (by decide) (by rfl) (by kernel_rfl) (by kernel_rfl) (by kernel_rfl) (fun _ _ _ h => h) (by rfl) (fun W hW => by go_simp) (by assumption) ?_
    try simp only [Act.put, List.setIfInBounds_toArray, List.set_cons_zero, List.set_cons_succ]
    refine take_at (i := 26) (.bool false) (some 54) (by decide) (by rfl) (by kernel_rfl) (by kernel_rfl) (by kernel_rfl) (fun _ _ _ h => h) (by rfl) (fun W hW => by go_simp) (by assumption) ?_
    try simp only [Act.put, List.setIfInBounds_toArray, List.set_cons_zero, List.set_cons_succ]
    refine take_at (i := 27) (.slice none 0 0) (some 55) (by decide) (by rfl) (by kernel_rfl) (by kernel_rfl) (by kernel_rfl) (fun _ _ _ h => h) (by rfl) (fun W hW => by go_simp) (by assumption) ?_
    try simp only [Act.put, List.setIfInBounds_toArray, List.set_cons_zero, List.set_cons_succ]
    refine take_at (i := 28) (.int .i64 0) (some 56) (by decide) (by rfl) (by kernel_rfl) (by kernel_rfl) (by kernel_rfl) (fun _ _ _ h => h) (by rfl) (fun W hW => by go_simp) (by assumption) ?_
    try simp only [Act.put, List.setIfInBounds_toArray, List.set_cons_zero, List.set_cons_succ]
    refine take_at (i := 29) (.bool false) (some 57) (by decide) (by rfl) (by kernel_rfl) (by kernel_rfl) (by kernel_rfl) (fun _ _ _ h => h) (by rfl) (fun W hW => by go_simp) (by assumption) ?_
    try simp only [Act.put, List.setIfInBounds_toArray, List.set_cons_zero, List.set_cons_succ]
    refine take_at (i := 30) (.bool false) (some 58) (by decide) (by rfl) (by kernel_rfl) (by kernel_rfl) (by kernel_rfl) (fun _ _ _ h => h) (by rfl) (fun W hW => by go_simp) (by assumption) ?_
    try simp only [Act.put, List.setIfInBounds_toArray, List.set_cons_zero, List.set_cons_succ]
    refine take_at (i := 31) (.bool false) (some 59) (by decide) (by rfl) (by kernel_rfl) (by kernel_rfl) (by kernel_rfl) (fun _ _ _ h => h) (by rfl) (fun W hW => by go_simp) (by assumption) ?_
    try simp only [Act.put, List.setIfInBounds_toArray, List.set_cons_zero, List.set_cons_succ]
    refine take_at (i := 32) (.bool false) (some 60) (by decide) (by rfl) (by kernel_rfl) (by kernel_rfl) (by kernel_rfl) (fun _ _ _ h => h) (by rfl) (fun W hW => by go_simp) (by assumption) ?_
    try simp only [Act.put, List.setIfInBounds_toArray, List.set_cons_zero, List.set_cons_succ]
    refine wpAnyH_done (by kernel_rfl) ?_ _
    try simp only [Act.put, List.setIfInBounds_toArray, List.set_cons_zero, List.set_cons_succ]
    have HX := Lib.hid hHeld
    clear hHeld
    have hsl : Sl wa wa.heap.size (.slice Ab bb.length cb) bb := (HSB.out.below HX.out.bel).more HX.out.bel.size
    go_wp2_with fail
    refine (getcmt_any _ bb wa hsl (by have := HLEN.out; omega)).mono ?_
    rintro e X1 ⟨o, y1, m1, rfl, hg1, hb, hcy, hm1⟩
    have HX1 := Lib.hid (HX.out.step hb)
    clear hb hsl HX
    obtain ⟨i1, rfl, ii1⟩ := hcy
    cases o with
    | some cc =>
      obtain rfl : m1 = 0 := hm1
      obtain ⟨B1, d1, e1, _, _⟩ := RwIn.len (show IsIn X1 X1.heap.size i1 cc.is from ii1)
      have e1 : i1 = .slice B1 cc.is.length d1 := e1
      subst e1
      have hnb := new_below X1 (.cells (cmC cc (.slice B1 cc.is.length d1)).toArray 44)
      have hnz : (X1.alloc (.cells (cmC cc (.slice B1 cc.is.length d1)).toArray 44)).heap.size = X1.heap.size + 1 := asz _ _
      have HI2 : Hid (IsIn (X1.alloc (.cells (cmC cc (.slice B1 cc.is.length d1)).toArray 44)) (X1.alloc (.cells (cmC cc (.slice B1 cc.is.length d1)).toArray 44)).heap.size (.slice B1 cc.is.length d1) cc.is) := RwIn.on ii1 hnb
      have HC2 : Hid (ComAt (X1.alloc (.cells (cmC cc (.slice B1 cc.is.length d1)).toArray 44)) X1.heap.size cc (.slice B1 cc.is.length d1)) := ComAt.new _ _ _
      have HX2 := Lib.hid (HX1.out.step hnb)
      have hcv := run_text_of _ _ _ _ (HSB.out.below HX2.out.bel)
      clear hnb ii1 HX1
      go_wp2_with (first
        | (refine wp_alloc_row zero_cm rfl rfl ?_)
        | (refine wp_fill_cm rfl _ _ rfl _ _ rfl (by simp [Act.eval, Act.put]) cc B1 cc.is.length d1 rfl ?_))
      generalize X1.alloc (.cells (cmC cc (.slice B1 cc.is.length d1)).toArray 44) = X2 at *
      refine (rgetc_any bb X2 (by have := HLEN.out; omega)).mono ?_
      rintro e X3 ⟨o3, y3, rfl, hg3, hb, hcy3⟩
      have HX3 := Lib.hid (HX2.out.step hb)
      have HI3 : Hid (IsIn X3 X3.heap.size (.slice B1 cc.is.length d1) cc.is) := RwIn.on HI2.out hb
      have HC3 := Lib.hid (HC2.out.below hb (by omega))
      have hz3 : X1.heap.size < X3.heap.size := by have := hb.size; omega
      clear hb HX2 HI2 HC2 hcv hnz
      obtain rfl : o3 = some cc := getC_uniq hg3 hg1
      obtain ⟨i3, rfl, ii3⟩ := hcy3
      obtain ⟨B3, d3, e3, _, _⟩ := RwIn.len (show IsIn X3 X3.heap.size i3 cc.is from ii3)
      have e3 : i3 = .slice B3 cc.is.length d3 := e3
      subst e3
      have hnb := new_below X3 (.cells (cmC cc (.slice B3 cc.is.length d3)).toArray 44)
      have HX4 := Lib.hid (HX3.out.step hnb)
      have HI4 : Hid (IsIn (X3.alloc (.cells (cmC cc (.slice B3 cc.is.length d3)).toArray 44)) (X3.alloc (.cells (cmC cc (.slice B3 cc.is.length d3)).toArray 44)).heap.size (.slice B1 cc.is.length d1) cc.is) := RwIn.on HI3.out hnb
      have HJ4 : Hid (IsIn (X3.alloc (.cells (cmC cc (.slice B3 cc.is.length d3)).toArray 44)) (X3.alloc (.cells (cmC cc (.slice B3 cc.is.length d3)).toArray 44)).heap.size (.slice B3 cc.is.length d3) cc.is) := RwIn.on ii3 hnb
      have HC4 := Lib.hid (HC3.out.below hnb hz3).whole
      have HD4 : Hid ((X3.alloc (.cells (cmC cc (.slice B3 cc.is.length d3)).toArray 44)).rangeAt X3.heap.size 0 (cmC cc (.slice B3 cc.is.length d3))) := (ComAt.new _ _ _).whole
      clear hnb ii3 HX3 HI3 HC3 hg1 hg3
      try dsimp only
      repeat (first
        | (refine wp_alloc_row zero_cm rfl rfl ?_; try simp only [Act.put, List.setIfInBounds_toArray, List.set_cons_zero, List.set_cons_succ])
        | (refine wp_fill_cm rfl _ _ rfl _ _ rfl (by simp [Act.eval, Act.put]) cc B3 cc.is.length d3 rfl ?_; try simp only [Act.put, List.setIfInBounds_toArray, List.set_cons_zero, List.set_cons_succ])
        | go_values | go_skip | go_guarded
        | (refine wp_load_mid 44 _ rfl X1.heap.size 0 rfl (cmC cc (.slice B1 cc.is.length d1)) _ HC4.out Try.underlying44 rfl (cells_com _ _) ?_; try simp only [Act.put, List.setIfInBounds_toArray, List.set_cons_zero, List.set_cons_succ])
        | (refine wp_load_mid 44 _ rfl X3.heap.size 0 rfl (cmC cc (.slice B3 cc.is.length d3)) _ HD4.out Try.underlying44 rfl (cells_com _ _) ?_; try simp only [Act.put, List.setIfInBounds_toArray, List.set_cons_zero, List.set_cons_succ])
        | go_step | go_upon | go_back)
      generalize X3.alloc (.cells (cmC cc (.slice B3 cc.is.length d3)).toArray 44) = X4 at *
      refine (samec_any _ _ cc cc X4 ⟨_, rfl, HI4.out⟩ ⟨_, rfl, HJ4.out⟩).mono ?_
      rintro e X5 ⟨s, rfl, hs, hb⟩
      obtain rfl : s = true := hs.2 rfl
      have HX5 := Lib.hid (HX4.out.step hb)
      have HB := Lib.hid HX5.out.bel
      clear hb hs
      go_wp2_with fail
      go_ret
      exact ⟨rfl, HB.out⟩
    | none =>
      obtain rfl : m1 = 4 := hm1
      obtain ⟨B1, d1, e1, _, _⟩ := RwIn.len (show IsIn X1 X1.heap.size i1 [] from ii1)
      have e1 : i1 = .slice B1 0 d1 := e1
      subst e1
      have hnb := new_below X1 (.cells (cmC (cm0 idZ) (.slice B1 0 d1)).toArray 44)
      have hnz : (X1.alloc (.cells (cmC (cm0 idZ) (.slice B1 0 d1)).toArray 44)).heap.size = X1.heap.size + 1 := asz _ _
      have HI2 : Hid (IsIn (X1.alloc (.cells (cmC (cm0 idZ) (.slice B1 0 d1)).toArray 44)) (X1.alloc (.cells (cmC (cm0 idZ) (.slice B1 0 d1)).toArray 44)).heap.size (.slice B1 0 d1) []) := RwIn.on ii1 hnb
      have HC2 : Hid (ComAt (X1.alloc (.cells (cmC (cm0 idZ) (.slice B1 0 d1)).toArray 44)) X1.heap.size (cm0 idZ) (.slice B1 0 d1)) := ComAt.new _ _ _
      have HX2 := Lib.hid (HX1.out.step hnb)
      have hcv := run_text_of _ _ _ _ (HSB.out.below HX2.out.bel)
      clear hnb ii1 HX1
      go_wp2_with (first
        | (refine wp_alloc_row zero_cm rfl rfl ?_)
        | (refine wp_fill_cm rfl _ _ rfl _ _ rfl (by simp [Act.eval, Act.put]) (cm0 idZ) B1 0 d1 rfl ?_))
      generalize X1.alloc (.cells (cmC (cm0 idZ) (.slice B1 0 d1)).toArray 44) = X2 at *
      refine (rgetc_any bb X2 (by have := HLEN.out; omega)).mono ?_
      rintro e X3 ⟨o3, y3, rfl, hg3, hb, hcy3⟩
      have HX3 := Lib.hid (HX2.out.step hb)
      have HI3 : Hid (IsIn X3 X3.heap.size (.slice B1 0 d1) []) := RwIn.on HI2.out hb
      have HC3 := Lib.hid (HC2.out.below hb (by omega))
      have hz3 : X1.heap.size < X3.heap.size := by have := hb.size; omega
      clear hb HX2 HI2 HC2 hcv hnz
      obtain rfl : o3 = none := getC_uniq hg3 hg1
      obtain ⟨i3, rfl, ii3⟩ := hcy3
      obtain ⟨B3, d3, e3, _, _⟩ := RwIn.len (show IsIn X3 X3.heap.size i3 [] from ii3)
      have e3 : i3 = .slice B3 0 d3 := e3
      subst e3
      have hnb := new_below X3 (.cells (cmC (cm0 idZ) (.slice B3 0 d3)).toArray 44)
      have HX4 := Lib.hid (HX3.out.step hnb)
      have HI4 : Hid (IsIn (X3.alloc (.cells (cmC (cm0 idZ) (.slice B3 0 d3)).toArray 44)) (X3.alloc (.cells (cmC (cm0 idZ) (.slice B3 0 d3)).toArray 44)).heap.size (.slice B1 0 d1) []) := RwIn.on HI3.out hnb
      have HJ4 : Hid (IsIn (X3.alloc (.cells (cmC (cm0 idZ) (.slice B3 0 d3)).toArray 44)) (X3.alloc (.cells (cmC (cm0 idZ) (.slice B3 0 d3)).toArray 44)).heap.size (.slice B3 0 d3) []) := RwIn.on ii3 hnb
      have HC4 := Lib.hid (HC3.out.below hnb hz3).whole
      have HD4 : Hid ((X3.alloc (.cells (cmC (cm0 idZ) (.slice B3 0 d3)).toArray 44)).rangeAt X3.heap.size 0 (cmC (cm0 idZ) (.slice B3 0 d3))) := (ComAt.new _ _ _).whole
      clear hnb ii3 HX3 HI3 HC3 hg1 hg3
      try dsimp only
      repeat (first
        | (refine wp_alloc_row zero_cm rfl rfl ?_; try simp only [Act.put, List.setIfInBounds_toArray, List.set_cons_zero, List.set_cons_succ])
        | (refine wp_fill_cm rfl _ _ rfl _ _ rfl (by simp [Act.eval, Act.put]) (cm0 idZ) B3 0 d3 rfl ?_; try simp only [Act.put, List.setIfInBounds_toArray, List.set_cons_zero, List.set_cons_succ])
        | go_values | go_skip | go_guarded
        | (refine wp_load_mid 44 _ rfl X1.heap.size 0 rfl (cmC (cm0 idZ) (.slice B1 0 d1)) _ HC4.out Try.underlying44 rfl (cells_com _ _) ?_; try simp only [Act.put, List.setIfInBounds_toArray, List.set_cons_zero, List.set_cons_succ])
        | (refine wp_load_mid 44 _ rfl X3.heap.size 0 rfl (cmC (cm0 idZ) (.slice B3 0 d3)) _ HD4.out Try.underlying44 rfl (cells_com _ _) ?_; try simp only [Act.put, List.setIfInBounds_toArray, List.set_cons_zero, List.set_cons_succ])
        | go_step | go_upon | go_back)
      generalize X3.alloc (.cells (cmC (cm0 idZ) (.slice B3 0 d3)).toArray 44) = X4 at *
      refine (samec_any _ _ (cm0 idZ) (cm0 idZ) X4 ⟨_, rfl, HI4.out⟩ ⟨_, rfl, HJ4.out⟩).mono ?_
      rintro e X5 ⟨s, rfl, hs, hb⟩
      obtain rfl : s = true := hs.2 rfl
      have HX5 := Lib.hid (HX4.out.step hb)
      have HB := Lib.hid HX5.out.bel
      clear hb hs
      go_wp2_with fail
      go_ret
      exact ⟨rfl, HB.out⟩

end Go.Proofs.Ytabogconbjdcgaa.ObjectCommits
