/-
  The document's Commit: a commit's bytes, of one that can be. Conditions: none.
-/
import Derived.Test.YtabogconbjdcgaaG9
import Derived.Test.YtabogconbjdcgaaG8
/-
  The document's GoodCommit. Conditions: none.
-/
namespace Go.Proofs.Ytabogconbjdcgaa.Cd
open Go.RowKit

set_option maxRecDepth 100000 in
set_option maxHeartbeats 6400000 in
theorem rgoodc_any (v : Value) (c : Cmt) (w : World) (h : CmtIn w w.heap.size v c) : Calls Try.prog 19 #[v] w (Says (GoodC c) w) := by
  obtain ⟨vi, rfl, hi⟩ := h
  obtain ⟨A, cc, rfl, k1, l1⟩ := hi.len
  have HI0 : Hid (IsIn w w.heap.size (.slice A c.is.length cc) c.is) := hi
  have hb1 : Below w.heap.size w (w.alloc (.cells (cmC c (.slice A c.is.length cc)).toArray 44)) := new_below _ _
  have hz1 : (w.alloc (.cells (cmC c (.slice A c.is.length cc)).toArray 44)).heap.size = w.heap.size + 1 := asz _ _
  have HC : Hid (ComAt (w.alloc (.cells (cmC c (.slice A c.is.length cc)).toArray 44)) w.heap.size c (.slice A c.is.length cc)) := ComAt.new _ _ _
  have HB1 := Lib.hid hb1
  clear hb1 hi
  have hzn : (ByteArray.mk c.note.toArray).size = c.note.length := rfl
  have HN := Lib.hid (fun W => name_l c.root.1 W c.root.2)
  go_enter Try.func19, Try.ntmps19
  go_wp2_with (first
    | (refine wp_box_row rfl _ rfl rfl ?_)
    | (refine wpList_load_mid rfl 41 _ rfl w.heap.size 0 rfl (vb c.root.1) _ HC.out.id Try.underlying41 rfl (cells_ii c.root) ?_))
  generalize w.alloc (.cells (cmC c (.slice A c.is.length cc)).toArray 44) = W1 at *
  refine (HN.out W1).mono ?_
  rintro e W2 ⟨rfl, hb2⟩
  have HB2 := Lib.hid (HB1.out.trans (hb2.mono (by omega)))
  have HC2 := Lib.hid (HC.out.below hb2 (by omega))
  have hz2 : w.heap.size < W2.heap.size := by have := hb2.size; omega
  clear hb2 HB1 HC hz1 HN
  have d33 := HC2.out.is
  have d34 := HC2.out.note
  have d35 := HC2.out.num
  cases hg : goodI c.root.1
  · have hno : Hid (¬ GoodC c) := fun h => by have := h.root; rw [hg] at this; cases this
    rw [textI_bad hg]
    clear hg
    go_wp2_with fail
    go_ret
    exact ⟨false, rfl, ⟨(fun h => by cases h), fun h => absurd h hno.out⟩, HB2.out⟩
  obtain ⟨s0, e0, _, _, _⟩ := textI_good hg
  rw [e0]
  have HG := Lib.hid hg
  clear hg e0
  rcases (by omega : 2 < c.is.length ∨ (¬ 2 < c.is.length ∧ 32 < c.note.length) ∨ (¬ 2 < c.is.length ∧ ¬ 32 < c.note.length ∧ c.num < 1) ∨ (¬ 2 < c.is.length ∧ ¬ 32 < c.note.length ∧ ¬ c.num < 1 ∧ 1024 < c.num) ∨ (¬ 2 < c.is.length ∧ ¬ 32 < c.note.length ∧ ¬ c.num < 1 ∧ ¬ 1024 < c.num)) with h1 | ⟨h1, h2⟩ | ⟨h1, h2, h3⟩ | ⟨h1, h2, h3, h4⟩ | ⟨h1, h2, h3, h4⟩
  · have hno : Hid (¬ GoodC c) := fun h => by have := h.is.few; omega
    have q1 : decide ((2 : Int) < c.is.length) = true := decide_eq_true (by omega)
    go_wp2_with fail
    go_ret
    exact ⟨false, rfl, ⟨(fun h => by cases h), fun h => absurd h hno.out⟩, HB2.out⟩
  · have hno : Hid (¬ GoodC c) := fun h => by have := h.note; omega
    have q1 : decide ((2 : Int) < c.is.length) = false := decide_eq_false (by omega)
    have q2 : decide ((32 : Int) < c.note.length) = true := decide_eq_true (by omega)
    go_wp2_with fail
    go_ret
    exact ⟨false, rfl, ⟨(fun h => by cases h), fun h => absurd h hno.out⟩, HB2.out⟩
  · have hno : Hid (¬ GoodC c) := fun h => by have := h.low; omega
    have q1 : decide ((2 : Int) < c.is.length) = false := decide_eq_false (by omega)
    have q2 : decide ((32 : Int) < c.note.length) = false := decide_eq_false (by omega)
    have q3 : decide (c.num < 1) = true := decide_eq_true h3
    go_wp2_with fail
    go_ret
    exact ⟨false, rfl, ⟨(fun h => by cases h), fun h => absurd h hno.out⟩, HB2.out⟩
  · have hno : Hid (¬ GoodC c) := fun h => by have := h.high; omega
    have q1 : decide ((2 : Int) < c.is.length) = false := decide_eq_false (by omega)
    have q2 : decide ((32 : Int) < c.note.length) = false := decide_eq_false (by omega)
    have q3 : decide (c.num < 1) = false := decide_eq_false h3
    have q4 : decide (1024 < c.num) = true := decide_eq_true h4
    go_wp2_with fail
    go_ret
    exact ⟨false, rfl, ⟨(fun h => by cases h), fun h => absurd h hno.out⟩, HB2.out⟩
  have q1 : decide ((2 : Int) < c.is.length) = false := decide_eq_false (by omega)
  have q2 : decide ((32 : Int) < c.note.length) = false := decide_eq_false (by omega)
  have q3 : decide (c.num < 1) = false := decide_eq_false h3
  have q4 : decide (1024 < c.num) = false := decide_eq_false h4
  have HNOTE : Hid (c.note.length ≤ 32) := by show c.note.length ≤ 32; omega
  have HLOW : Hid (1 ≤ c.num) := by show 1 ≤ c.num; omega
  have HHI : Hid (c.num ≤ 1024) := by show c.num ≤ 1024; omega
  have HFEW : Hid (c.is.length ≤ 2) := by show c.is.length ≤ 2; omega
  clear h1 h2 h3 h4
  go_wp2_with fail
  clear q1 q2 q3 q4 d33 d34 d35
  go_loopw [34] (fun i wr => ∃ k : Nat, i = .int .i64 k ∧ k ≤ c.is.length ∧ Hid (∀ (j : Nat) p, j < k → c.is[j]? = some p → goodI p.1 = true ∧ kd p = kd c.root) ∧ Hid (Below w.heap.size w wr) ∧ Hid (ComAt wr w.heap.size c (.slice A c.is.length cc)) ∧ w.heap.size < wr.heap.size) (fun i _ => c.is.length - (intOf i).toNat)
  case atStart => exact ⟨0, rfl, by omega, fun j _ h => by omega, HB2.out, HC2.out, hz2⟩
  case round =>
    clear HB2 HC2 hz2
    obtain ⟨k, rfl, hk, hp, hbl, hcm, hzr⟩ := hrel
    by_cases hlt : k < c.is.length
    · obtain ⟨x, hxk⟩ : ∃ x, c.is[k]? = some x := ⟨c.is[k], List.getElem?_eq_getElem hlt⟩
      obtain ⟨b2, off2, e2, hB2, rx⟩ := IsIn.range (HI0.out.below hbl.out) hxk
      subst e2
      have HX := Lib.hid hxk
      have RX := Lib.hid rx
      clear hxk rx
      have hb6 : Below wr.heap.size wr (wr.alloc (.cells (vb x.1).toArray 41)) := new_below _ _
      have hz6 : (wr.alloc (.cells (vb x.1).toArray 41)).heap.size = wr.heap.size + 1 := asz _ _
      have HI : Hid (IdAt (wr.alloc (.cells (vb x.1).toArray 41)) wr.heap.size x.1) := IdAt.new _ _
      have HB6 := Lib.hid (hbl.out.trans (hb6.mono (by omega)))
      have HC6 := Lib.hid (hcm.out.below hb6 hzr)
      have hx33 : Hid (x.1.length = 33) := x.2
      have HN := Lib.hid (fun W => name_l x.1 W x.2)
      clear hb6 hbl hcm
      go_wp2_with (first
        | (refine wpList_load_mid rfl 41 _ rfl b2 (off2 + k * 33) rfl (vb x.1) _ RX.out Try.underlying41 rfl (cells_ii x) ?_)
        | (refine wp_alloc_row zero_id rfl rfl ?_)
        | (refine wp_fill_id rfl _ _ rfl rfl (by simp [Act.eval, Act.put]) x.1 hx33.out rfl ?_)
        | (refine wp_load_id rfl _ rfl wr.heap.size rfl x.1 hx33.out HI.out ?_))
      generalize wr.alloc (.cells (vb x.1).toArray 41) = W6 at *
      refine (HN.out W6).mono ?_
      rintro e W7 ⟨rfl, hb7⟩
      have HB7 := Lib.hid (HB6.out.trans (hb7.mono (by omega)))
      have HC7 := Lib.hid (HC6.out.below hb7 (by omega))
      have HI7 := Lib.hid (HI.out.below hb7 (by omega))
      have hz7 : w.heap.size < W7.heap.size := by have := hb7.size; omega
      clear hb7 HB6 HC6 HI
      cases hg : goodI x.1
      · have hno : Hid (¬ GoodC c) := fun h => by have := h.is.name _ (List.mem_of_getElem? HX.out); rw [hg] at this; cases this
        rw [textI_bad hg]
        clear hg
        go_wp2_with fail
        go_ret
        exact ⟨false, rfl, ⟨(fun h => by cases h), fun h => absurd h hno.out⟩, HB7.out⟩
      · obtain ⟨s1, e1, _, _, _⟩ := textI_good hg
        rw [e1]
        have HGX := Lib.hid hg
        clear hg e1
        have f0 := idAt_kind HI7.out
        have f1 := HC7.out.kind
        by_cases hkk : kd x = kd c.root
        · have hp2 : Hid (∀ (j : Nat) p, j < k + 1 → c.is[j]? = some p → goodI p.1 = true ∧ kd p = kd c.root) := fun j p hj hjp => by
            by_cases e : j = k
            · subst e
              rw [HX.out] at hjp
              injection hjp with hjp
              subst hjp
              exact ⟨HGX.out, hkk⟩
            · exact hp.out j p (by omega) hjp
          have hnq : (((kd x).toNat : Int) != ((kd c.root).toNat : Int)) = false := by rw [hkk]; simp
          generalize kd x = K1 at *
          clear hkk
          go_wp2_with fail
          go_roundw
          case rel => exact ⟨k + 1, by go_num, by omega, hp2, HB7.out, HC7.out, hz7⟩
          case measure => simp [intOf]; omega
        · have hno : Hid (¬ GoodC c) := fun h => hkk (h.is.kind _ (List.mem_of_getElem? HX.out))
          have hnq : (((kd x).toNat : Int) != ((kd c.root).toNat : Int)) = true := by
            rw [bne_iff_ne]
            exact fun e => hkk (UInt8.toNat_inj.1 (by omega))
          generalize kd x = K1 at *
          clear hkk
          go_wp2_with fail
          go_ret
          exact ⟨false, rfl, ⟨(fun h => by cases h), fun h => absurd h hno.out⟩, HB7.out⟩
    · have hall : Hid (∀ p ∈ c.is, goodI p.1 = true ∧ kd p = kd c.root) := fun p hpl => by
        obtain ⟨j, hj, rfl⟩ := List.getElem_of_mem hpl
        exact hp.out j _ (by omega) (List.getElem?_eq_getElem hj)
      have hyes : Hid ((∀ a b, c.is[0]? = some a → c.is[1]? = some b → a ≠ b) → GoodC c) := fun h2 => ⟨HG.out, ⟨HFEW.out, fun p h => (hall.out p h).1, fun p h => (hall.out p h).2, h2⟩, HNOTE.out, HLOW.out, HHI.out⟩
      clear hp
      have hkk : k = c.is.length := by omega
      go_wp2_with fail
      obtain ⟨W0, hW0⟩ : ∃ x, wr.drew = x := ⟨_, rfl⟩
      have HBD : Hid (Below w.heap.size w W0) := by rw [← hW0]; exact hbl.out.drew
      have hCM : ComAt W0 w.heap.size c (.slice A c.is.length cc) := by rw [← hW0]; exact hcm.out
      clear hbl hcm
      by_cases hl : c.is.length < 2
      · have hd : decide ((c.is.length : Int) < 2) = true := decide_eq_true (by omega)
        have HY : Hid (GoodC c) := hyes.out (fun a b _ hb => by have := (List.getElem?_eq_some_iff.1 hb).1; omega)
        refine region_begin hW0 (S := fun W => ComAt W w.heap.size c (.slice A c.is.length cc)) (by kernel_rfl) hCM (fun hHeld => ?_)
        clear hW0 hCM
        refine take_at (i := 0) (.pointer (some ⟨w.heap.size, 33, none⟩)) (some 50) (by decide) (by rfl) (by kernel_rfl) (by kernel_rfl) (by kernel_rfl) (fun _ _ _ h => h) (by rfl) (fun W hW => by go_simp) (by assumption) ?_
        try simp only [Act.put, List.setIfInBounds_toArray, List.set_cons_zero, List.set_cons_succ]
        refine take_at (i := 1) (.slice A c.is.length cc) (some 51) (by decide) (by rfl) (by kernel_rfl) (by kernel_rfl) (by kernel_rfl) (fun _ _ _ h => h) (by rfl) (fun W hW => by have := hW.is; go_simp) (by assumption) ?_
        try simp only [Act.put, List.setIfInBounds_toArray, List.set_cons_zero, List.set_cons_succ]
        refine take_at (i := 2) (.int .i64 c.is.length) (some 52) (by decide) (by rfl) (by kernel_rfl) (by kernel_rfl) (by kernel_rfl) (fun _ _ _ h => h) (by rfl) (fun W hW => by go_simp) (by assumption) ?_
        try simp only [Act.put, List.setIfInBounds_toArray, List.set_cons_zero, List.set_cons_succ]
        refine take_at (i := 3) (.bool true) (some 53) (by decide) (by rfl) (by kernel_rfl) (by kernel_rfl) (by kernel_rfl) (fun _ _ _ h => h) (by rfl) (fun W hW => by go_simp) (by assumption) ?_
        try simp only [Act.put, List.setIfInBounds_toArray, List.set_cons_zero, List.set_cons_succ]
        refine take_at (i := 4) (.bool true) (some 54) (by decide) (by rfl) (by kernel_rfl) (by kernel_rfl) (by kernel_rfl) (fun _ _ _ h => h) (by rfl) (fun W hW => by go_simp) (by assumption) ?_
        try simp only [Act.put, List.setIfInBounds_toArray, List.set_cons_zero, List.set_cons_succ]
        refine skip_at (i := 5) (some 55) (by decide) (by rfl) (by kernel_rfl) (by kernel_rfl) (by kernel_rfl) (fun _ _ _ h => h) (by rfl) (by assumption) ?_
        try simp only [Act.put, List.setIfInBounds_toArray, List.set_cons_zero, List.set_cons_succ]
        refine skip_at (i := 6) (some 56) (by decide) (by rfl) (by kernel_rfl) (by kernel_rfl) (by kernel_rfl) (fun _ _ _ h => h) (by rfl) (by assumption) ?_
        try simp only [Act.put, List.setIfInBounds_toArray, List.set_cons_zero, List.set_cons_succ]
        refine skip_at (i := 7) (some 57) (by decide) (by rfl) (by kernel_rfl) (by kernel_rfl) (by kernel_rfl) (fun _ _ _ h => h) (by rfl) (by assumption) ?_
        try simp only [Act.put, List.setIfInBounds_toArray, List.set_cons_zero, List.set_cons_succ]
        refine skip_at (i := 8) (some 58) (by decide) (by rfl) (by kernel_rfl) (by kernel_rfl) (by kernel_rfl) (fun _ _ _ h => h) (by rfl) (by assumption) ?_
        try simp only [Act.put, List.setIfInBounds_toArray, List.set_cons_zero, List.set_cons_succ]
        refine skip_at (i := 9) (some 59) (by decide) (by rfl) (by kernel_rfl) (by kernel_rfl) (by kernel_rfl) (fun _ _ _ h => h) (by rfl) (by assumption) ?_
        try simp only [Act.put, List.setIfInBounds_toArray, List.set_cons_zero, List.set_cons_succ]
        refine skip_at (i := 10) (some 60) (by decide) (by rfl) (by kernel_rfl) (by kernel_rfl) (by kernel_rfl) (fun _ _ _ h => h) (by rfl) (by assumption) ?_
        try simp only [Act.put, List.setIfInBounds_toArray, List.set_cons_zero, List.set_cons_succ]
        refine skip_at (i := 11) (some 61) (by decide) (by rfl) (by kernel_rfl) (by kernel_rfl) (by kernel_rfl) (fun _ _ _ h => h) (by rfl) (by assumption) ?_
        try simp only [Act.put, List.setIfInBounds_toArray, List.set_cons_zero, List.set_cons_succ]
        refine skip_at (i := 12) (some 62) (by decide) (by rfl) (by kernel_rfl) (by kernel_rfl) (by kernel_rfl) (fun _ _ _ h => h) (by rfl) (by assumption) ?_
        try simp only [Act.put, List.setIfInBounds_toArray, List.set_cons_zero, List.set_cons_succ]
        refine skip_at (i := 13) (some 63) (by decide) (by rfl) (by kernel_rfl) (by kernel_rfl) (by kernel_rfl) (fun _ _ _ h => h) (by rfl) (by assumption) ?_
        try simp only [Act.put, List.setIfInBounds_toArray, List.set_cons_zero, List.set_cons_succ]
        refine take_at (i := 14) (.bool true) (some 64) (by decide) (by rfl) (by kernel_rfl) (by kernel_rfl) (by kernel_rfl) (fun _ _ _ h => h) (by rfl) (fun W hW => by go_simp) (by assumption) ?_
        try simp only [Act.put, List.setIfInBounds_toArray, List.set_cons_zero, List.set_cons_succ]
        refine take_at (i := 15) (.bool true) (some 2) (by decide) (by rfl) (by kernel_rfl) (by kernel_rfl) (by kernel_rfl) (fun _ _ _ h => h) (by rfl) (fun W hW => by go_simp) (by assumption) ?_
        try simp only [Act.put, List.setIfInBounds_toArray, List.set_cons_zero, List.set_cons_succ]
        refine wpAnyH_done (by kernel_rfl) ?_ _
        try simp only [Act.put, List.setIfInBounds_toArray, List.set_cons_zero, List.set_cons_succ]
        go_wp2_with fail
        go_ret
        exact ⟨true, rfl, ⟨fun _ => HY.out, fun _ => rfl⟩, HBD.out⟩
      · have hd : decide ((c.is.length : Int) < 2) = false := decide_eq_false (by omega)
        obtain ⟨x, hx0⟩ : ∃ x, c.is[0]? = some x := ⟨c.is[0]'(by omega), List.getElem?_eq_getElem (by omega)⟩
        obtain ⟨y, hy0⟩ : ∃ y, c.is[1]? = some y := ⟨c.is[1]'(by omega), List.getElem?_eq_getElem (by omega)⟩
        obtain ⟨b2, off2, e2, hB2, rx⟩ := IsIn.range (HI0.out.below HBD.out) hx0
        obtain ⟨b3, off3, e3, hB3, ry⟩ := IsIn.range (HI0.out.below HBD.out) hy0
        subst e2
        injection e3 with e3
        injection e3 with e3 e4
        subst e3 e4
        rw [show off2 + 0 * 33 = off2 by omega] at rx
        rw [show off2 + 1 * 33 = off2 + 33 by omega] at ry
        have hne := fun W => neq_id x.1 y.1 x.2 y.2 W
        have heg := fun p q W => eqGuard_id .neq p q x.1 y.1 W
        have hj0 : (0 : Int) < c.is.length := by omega
        have hj1 : (1 : Int) < c.is.length := by omega
        have HXY : Hid ((!(x.1 == y.1)) = true → GoodC c) := fun h => hyes.out (fun a b ha hb e => by
          rw [hx0] at ha
          rw [hy0] at hb
          injection ha with ha
          injection hb with hb
          subst ha hb e
          simp at h)
        have HXN : Hid (GoodC c → (!(x.1 == y.1)) = true) := fun h => by
          have := h.is.two x y hx0 hy0
          rw [Bool.not_eq_true', beq_eq_false_iff_ne]
          exact fun e => this (Subtype.ext e)
        have HS0 : Hid (ComAt W0 w.heap.size c (.slice (some ⟨b2, off2, none⟩) c.is.length cc) ∧ W0.rangeAt b2 off2 (vb x.1) ∧ W0.rangeAt b2 (off2 + 33) (vb y.1)) := ⟨hCM, rx, ry⟩
        obtain ⟨s, hs⟩ : ∃ s, (!(x.1 == y.1)) = s := ⟨_, rfl⟩
        rw [hs] at hne HXY HXN
        clear hs rx ry hCM hx0 hy0
        refine region_begin hW0 (S := fun W => ComAt W w.heap.size c (.slice (some ⟨b2, off2, none⟩) c.is.length cc) ∧ W.rangeAt b2 off2 (vb x.1) ∧ W.rangeAt b2 (off2 + 33) (vb y.1)) (by kernel_rfl) HS0.out (fun hHeld => ?_)
        clear hW0 HS0
        refine take_at (i := 0) (.pointer (some ⟨w.heap.size, 33, none⟩)) (some 50) (by decide) (by rfl) (by kernel_rfl) (by kernel_rfl) (by kernel_rfl) (fun _ _ _ h => h) (by rfl) (fun W hW => by go_simp) (by assumption) ?_
        try simp only [Act.put, List.setIfInBounds_toArray, List.set_cons_zero, List.set_cons_succ]
        refine take_at (i := 1) (.slice (some ⟨b2, off2, none⟩) c.is.length cc) (some 51) (by decide) (by rfl) (by kernel_rfl) (by kernel_rfl) (by kernel_rfl) (fun _ _ _ h => h) (by rfl) (fun W hW => by have := hW.1.is; go_simp) (by assumption) ?_
        try simp only [Act.put, List.setIfInBounds_toArray, List.set_cons_zero, List.set_cons_succ]
        refine take_at (i := 2) (.int .i64 c.is.length) (some 52) (by decide) (by rfl) (by kernel_rfl) (by kernel_rfl) (by kernel_rfl) (fun _ _ _ h => h) (by rfl) (fun W hW => by go_simp) (by assumption) ?_
        try simp only [Act.put, List.setIfInBounds_toArray, List.set_cons_zero, List.set_cons_succ]
        refine take_at (i := 3) (.bool false) (some 53) (by decide) (by rfl) (by kernel_rfl) (by kernel_rfl) (by kernel_rfl) (fun _ _ _ h => h) (by rfl) (fun W hW => by go_simp) (by assumption) ?_
        try simp only [Act.put, List.setIfInBounds_toArray, List.set_cons_zero, List.set_cons_succ]
        refine take_at (i := 4) (.bool false) (some 54) (by decide) (by rfl) (by kernel_rfl) (by kernel_rfl) (by kernel_rfl) (fun _ _ _ h => h) (by rfl) (fun W hW => by go_simp) (by assumption) ?_
        try simp only [Act.put, List.setIfInBounds_toArray, List.set_cons_zero, List.set_cons_succ]
        refine take_at (i := 5) (.pointer (some ⟨w.heap.size, 33, none⟩)) (some 55) (by decide) (by rfl) (by kernel_rfl) (by kernel_rfl) (by kernel_rfl) (fun _ _ _ h => h) (by rfl) (fun W hW => by go_simp) (by assumption) ?_
        try simp only [Act.put, List.setIfInBounds_toArray, List.set_cons_zero, List.set_cons_succ]
        refine take_at (i := 6) (.slice (some ⟨b2, off2, none⟩) c.is.length cc) (some 56) (by decide) (by rfl) (by kernel_rfl) (by kernel_rfl) (by kernel_rfl) (fun _ _ _ h => h) (by rfl) (fun W hW => by have := hW.1.is; go_simp) (by assumption) ?_
        try simp only [Act.put, List.setIfInBounds_toArray, List.set_cons_zero, List.set_cons_succ]
        refine take_at (i := 7) (.pointer (some ⟨b2, off2, none⟩)) (some 57) (by decide) (by rfl) (by kernel_rfl) (by kernel_rfl) (by kernel_rfl) (fun _ _ _ h => h) (by rfl) (fun W hW => by go_simp; first | done | (intro he; rw [he] at hj0; simp at hj0)) (by assumption) ?_
        try simp only [Act.put, List.setIfInBounds_toArray, List.set_cons_zero, List.set_cons_succ]
        refine take_at (i := 8) (idV x.1) (some 58) (by decide) (by rfl) (by kernel_rfl) (by kernel_rfl) (by kernel_rfl) (fun _ _ _ h => h) (by rfl) (fun W hW => by exact exec_load_mid _ _ rfl b2 off2 rfl (vb x.1) _ hW.2.1 Try.underlying41 rfl (cells_ii x)) (by assumption) ?_
        try simp only [Act.put, List.setIfInBounds_toArray, List.set_cons_zero, List.set_cons_succ]
        refine take_at (i := 9) (.pointer (some ⟨w.heap.size, 33, none⟩)) (some 59) (by decide) (by rfl) (by kernel_rfl) (by kernel_rfl) (by kernel_rfl) (fun _ _ _ h => h) (by rfl) (fun W hW => by go_simp) (by assumption) ?_
        try simp only [Act.put, List.setIfInBounds_toArray, List.set_cons_zero, List.set_cons_succ]
        refine take_at (i := 10) (.slice (some ⟨b2, off2, none⟩) c.is.length cc) (some 60) (by decide) (by rfl) (by kernel_rfl) (by kernel_rfl) (by kernel_rfl) (fun _ _ _ h => h) (by rfl) (fun W hW => by have := hW.1.is; go_simp) (by assumption) ?_
        try simp only [Act.put, List.setIfInBounds_toArray, List.set_cons_zero, List.set_cons_succ]
        refine take_at (i := 11) (.pointer (some ⟨b2, off2 + 33, none⟩)) (some 61) (by decide) (by rfl) (by kernel_rfl) (by kernel_rfl) (by kernel_rfl) (fun _ _ _ h => h) (by rfl) (fun W hW => by go_simp) (by assumption) ?_
        try simp only [Act.put, List.setIfInBounds_toArray, List.set_cons_zero, List.set_cons_succ]
        refine take_at (i := 12) (idV y.1) (some 62) (by decide) (by rfl) (by kernel_rfl) (by kernel_rfl) (by kernel_rfl) (fun _ _ _ h => h) (by rfl) (fun W hW => by exact exec_load_mid _ _ rfl b2 (off2 + 33) rfl (vb y.1) _ hW.2.2 Try.underlying41 rfl (cells_ii y)) (by assumption) ?_
        try simp only [Act.put, List.setIfInBounds_toArray, List.set_cons_zero, List.set_cons_succ]
        refine take_at (i := 13) (.bool s) (some 63) (by decide) (by rfl) (by kernel_rfl) (by kernel_rfl) (by kernel_rfl) (fun _ _ _ h => h) (by rfl) (fun W hW => by go_simp) (by assumption) ?_
        try simp only [Act.put, List.setIfInBounds_toArray, List.set_cons_zero, List.set_cons_succ]
        refine take_at (i := 14) (.bool s) (some 64) (by decide) (by rfl) (by kernel_rfl) (by kernel_rfl) (by kernel_rfl) (fun _ _ _ h => h) (by rfl) (fun W hW => by go_simp) (by assumption) ?_
        try simp only [Act.put, List.setIfInBounds_toArray, List.set_cons_zero, List.set_cons_succ]
        refine take_at (i := 15) (.bool s) (some 2) (by decide) (by rfl) (by kernel_rfl) (by kernel_rfl) (by kernel_rfl) (fun _ _ _ h => h) (by rfl) (fun W hW => by go_simp) (by assumption) ?_
        try simp only [Act.put, List.setIfInBounds_toArray, List.set_cons_zero, List.set_cons_succ]
        refine wpAnyH_done (by kernel_rfl) ?_ _
        try simp only [Act.put, List.setIfInBounds_toArray, List.set_cons_zero, List.set_cons_succ]
        go_wp2_with fail
        go_ret
        exact ⟨s, rfl, ⟨HXY.out, HXN.out⟩, HBD.out⟩

end Go.Proofs.Ytabogconbjdcgaa.Cd

/-
  The document's Tree: a tree's bytes. Conditions: not too many bytes.
-/
namespace Go.Proofs.Ytabogconbjdcgaa.Cd
open Go.RowKit

theorem rtxt_any (s : List UInt8) (w : World) (hs : s.length ≤ 100000000) : Calls Try.prog 30 #[.string ⟨s.toArray⟩] w (Gives (.string ⟨(txt s).toArray⟩) w) := by
  have := ref_text_any ⟨s.toArray⟩ w (by have : (ByteArray.mk s.toArray).size = s.length := rfl; omega)
  exact this

set_option maxRecDepth 100000 in
set_option maxHeartbeats 6400000 in
theorem rtree_any (v : Value) (t : Tre) (w : World) (h : TreIn w w.heap.size v t) (hl1 : (psB t.ps).length ≤ 100000000) (hl2 : (ksB t.ks).length ≤ 100000000) : Calls Try.prog 13 #[v] w (Gives (.string ⟨(treeB t).toArray⟩) w) := by
  obtain ⟨ps, ks⟩ := t
  obtain ⟨vp, vk, rfl, h1, h2⟩ := h
  have h1 : PsIn w w.heap.size vp ps := h1
  have h2 : KsIn w w.heap.size vk ks := h2
  simp only at hl1 hl2
  obtain ⟨A1, c1, e1, k1, l1⟩ := h1.len
  obtain ⟨A2, c2, e2, k2, l2⟩ := h2.len
  have H1 := Lib.hid h1
  have H2 := Lib.hid h2
  clear h1 h2
  subst e1 e2
  have hb1 : Below w.heap.size w (w.alloc (.cells #[.slice A1 ps.length c1, .slice A2 ks.length c2] 25)) := new_below _ _
  have HTR : Hid ((w.alloc (.cells #[.slice A1 ps.length c1, .slice A2 ks.length c2] 25)).heap[w.heap.size]? = some (.cells #[.slice A1 ps.length c1, .slice A2 ks.length c2] 25)) := heap_alloc_new _ _
  have HB1 := Lib.hid hb1
  have hzz : (w.alloc (.cells #[.slice A1 ps.length c1, .slice A2 ks.length c2] 25)).heap.size = w.heap.size + 1 := asz _ _
  clear hb1
  by_cases hk : ks.length = 0
  · have hks : ks = [] := List.eq_nil_of_length_eq_zero hk
    have HT : Hid (treeB ⟨ps, ks⟩ = 1 :: UInt8.ofNat ps.length :: psB ps) := if_pos hks
    have hkq : ((ks.length : Int) == 0) = true := by rw [hk]; rfl
    have hl := hl1
    have hwl := wrap_len ps.length
    generalize UInt8.ofNat ps.length = n8 at *
    clear hk hks hl1 hl2
    have hcv := run_text_of _ _ _ _ (own_two (w.alloc (.cells #[.slice A1 ps.length c1, .slice A2 ks.length c2] 25)) 0 (Nat.zero_le _) 1 n8 1 n8.toNat rfl rfl).sl
    rw [hzz] at hcv
    have HB0 : Hid (Below w.heap.size w ((w.alloc (.cells #[.slice A1 ps.length c1, .slice A2 ks.length c2] 25)).alloc (.cells #[.int .u8 1, .int .u8 n8.toNat] 5))) := HB1.out.alloc (by omega) _
    have d0 : ((w.alloc (.cells #[.slice A1 ps.length c1, .slice A2 ks.length c2] 25)).alloc (.cells #[.int .u8 1, .int .u8 n8.toNat] 5)).cell? ⟨w.heap.size, 0, none⟩ = some (.slice A1 ps.length c1) := cell_kept (new_below _ _) (cell_of_row _ _ 0 _ _ _ HTR.out)
    clear HTR
    go_enter Try.func13, Try.ntmps13
    go_wp2_with fail
    generalize (w.alloc (.cells #[.slice A1 ps.length c1, .slice A2 ks.length c2] 25)).alloc (.cells #[.int .u8 1, .int .u8 n8.toNat] 5) = w0 at *
    clear hcv d0
    go_loopw [3, 22] (fun u i wr => ∃ k : Nat, i = .int .i64 k ∧ k ≤ ps.length ∧ u = .string ⟨(1 :: n8 :: psB (ps.take k)).toArray⟩ ∧ Hid (Below w.heap.size w wr)) (fun _ i _ => ps.length - (intOf i).toNat)
    case atStart => exact ⟨0, rfl, by omega, rfl, HB0.out⟩
    case round =>
      clear HB0
      obtain ⟨k, rfl, hk, rfl, hbl⟩ := hrel
      by_cases hlt : k < ps.length
      · obtain ⟨x, hxk⟩ : ∃ x, ps[k]? = some x := ⟨ps[k], List.getElem?_eq_getElem hlt⟩
        obtain ⟨b2, off2, e2, hB2, d0, d1⟩ := PsIn.at2 (H1.out.below hbl.out) hxk
        subst e2
        have hnx := psB_take hxk
        have hlk1 := psB_len hl (k := k + 1)
        rw [hnx] at hlk1
        have HNX := Lib.hid hnx
        clear hnx hxk
        generalize psB (ps.take k) = R at *
        have hlk : R.length + ((enc x.1.length).length + x.1.length + ((enc x.2.length).length + x.2.length)) ≤ 100000000 := by simpa [txt_len] using hlk1
        clear hlk1
        have HP : Hid (PairAt (wr.alloc (.cells #[.string ⟨x.1.toArray⟩, .string ⟨x.2.toArray⟩] 56)) wr.heap.size x) := heap_alloc_new _ _
        have hz1 : (wr.alloc (.cells #[.string ⟨x.1.toArray⟩, .string ⟨x.2.toArray⟩] 56)).heap.size = wr.heap.size + 1 := asz _ _
        have HB1 : Hid (Below w.heap.size w (wr.alloc (.cells #[.string ⟨x.1.toArray⟩, .string ⟨x.2.toArray⟩] 56))) := hbl.out.alloc hbl.out.size _
        have hzr := hbl.out.size
        have HX1 := Lib.hid (fun W => rtxt_any x.1 W (by omega))
        have HX2 := Lib.hid (fun W => rtxt_any x.2 W (by omega))
        have hT1 := txt_len x.1
        have hT2 : (txt x.2).length ≤ (enc x.2.length).length + x.2.length := Nat.le_of_eq (txt_len x.2)
        generalize txt x.1 = T1 at *
        generalize txt x.2 = T2 at *
        obtain ⟨L0, hL0⟩ : ∃ L, (1 :: n8 :: R : List UInt8) = L := ⟨_, rfl⟩
        have hL0l : L0.length = R.length + 2 := by rw [← hL0]; rfl
        obtain ⟨L1, hL1⟩ : ∃ L, L0 ++ T1 = L := ⟨_, rfl⟩
        have hL1l : L1.length = L0.length + T1.length := by rw [← hL1, List.length_append]
        obtain ⟨L2, hL2⟩ : ∃ L, L1 ++ T2 = L := ⟨_, rfl⟩
        have hadd1 := fun W => add_text W L0 T1 (by omega)
        have hadd2 := fun W => add_text W L1 T2 (by omega)
        rw [hL1] at hadd1
        rw [hL2] at hadd2
        have HL0 := Lib.hid hL0
        have HL1 := Lib.hid hL1
        have HL2 := Lib.hid hL2
        rw [hL0]
        clear hL0 hL1 hL2 hL0l hL1l hT1 hT2 hlk
        go_wp2_with fail
        generalize wr.alloc (.cells #[.string ⟨x.1.toArray⟩, .string ⟨x.2.toArray⟩] 56) = W1 at *
        obtain ⟨W0, hW0⟩ : ∃ x, W1.drew = x := ⟨_, rfl⟩
        have hS0 : PairAt W0 wr.heap.size x := by rw [← hW0]; exact HP.out
        have HBD : Hid (Below w.heap.size w W0) := by rw [← hW0]; exact HB1.out.drew
        have hs0 : W0.heap.size = wr.heap.size + 1 := by rw [← hW0]; exact hz1
        clear HP HB1 hz1
        refine region_begin hW0 (S := fun W => PairAt W wr.heap.size x) (by kernel_rfl) hS0 (fun hHeld => ?_)
        clear hW0 hS0
        refine take_at (i := 0) (.string ⟨L0.toArray⟩) (some 26) (by decide) (by rfl) (by kernel_rfl) (by kernel_rfl) (by kernel_rfl) (fun _ _ _ h => h) (by rfl) (fun W hW => by go_simp) (by assumption) ?_
        try simp only [Act.put, List.setIfInBounds_toArray, List.set_cons_zero, List.set_cons_succ]
        refine take_at (i := 1) (.pointer (some ⟨wr.heap.size, 0, none⟩)) (some 27) (by decide) (by rfl) (by kernel_rfl) (by kernel_rfl) (by kernel_rfl) (fun _ _ _ h => h) (by rfl) (fun W hW => by go_simp) (by assumption) ?_
        try simp only [Act.put, List.setIfInBounds_toArray, List.set_cons_zero, List.set_cons_succ]
        refine take_at (i := 2) (.string ⟨x.1.toArray⟩) (some 28) (by decide) (by rfl) (by kernel_rfl) (by kernel_rfl) (by kernel_rfl) (fun _ _ _ h => h) (by rfl) (fun W hW => by have := hW.key; go_simp) (by assumption) ?_
        try simp only [Act.put, List.setIfInBounds_toArray, List.set_cons_zero, List.set_cons_succ]
        refine take_at (i := 5) (.pointer (some ⟨wr.heap.size, 1, none⟩)) (some 31) (by decide) (by rfl) (by kernel_rfl) (by kernel_rfl) (by kernel_rfl) (fun _ _ _ h => h) (by rfl) (fun W hW => by go_simp) (by assumption) ?_
        try simp only [Act.put, List.setIfInBounds_toArray, List.set_cons_zero, List.set_cons_succ]
        refine take_at (i := 6) (.string ⟨x.2.toArray⟩) (some 32) (by decide) (by rfl) (by kernel_rfl) (by kernel_rfl) (by kernel_rfl) (fun _ _ _ h => h) (by rfl) (fun W hW => by have := hW.val; go_simp) (by assumption) ?_
        try simp only [Act.put, List.setIfInBounds_toArray, List.set_cons_zero, List.set_cons_succ]
        refine wpAnyH_ready (rs := [3]) (by kernel_rfl) (by simp) (AllReadyH.cons (Array.getElem?_eq_getElem (i := 3) (by decide)) (fun K9 hK => ?_) AllReadyH.nil)
        go_simp
        refine (HX1.out _).mono ?_
        rintro e w3 ⟨rfl, hb3⟩
        have HB3 := Lib.hid (HBD.out.trans (hb3.mono (by omega)))
        have hs3 := hb3.size
        refine hK.out _ _ (hb3.block _ (by omega) |>.trans hHeld) (fun hHeld => ?_)
        clear hK K9
        try simp only [Act.put, List.setIfInBounds_toArray, List.set_cons_zero, List.set_cons_succ]
        clear hb3
        refine take_at (i := 4) (.string ⟨L1.toArray⟩) (some 30) (by decide) (by rfl) (by kernel_rfl) (by kernel_rfl) (by kernel_rfl) (fun _ _ _ h => h) (by rfl) (fun W hW => by go_simp) (by assumption) ?_
        try simp only [Act.put, List.setIfInBounds_toArray, List.set_cons_zero, List.set_cons_succ]
        refine wpAnyH_ready (rs := [7]) (by kernel_rfl) (by simp) (AllReadyH.cons (Array.getElem?_eq_getElem (i := 7) (by decide)) (fun K9 hK => ?_) AllReadyH.nil)
        go_simp
        refine (HX2.out _).mono ?_
        rintro e w4 ⟨rfl, hb4⟩
        have HB4 := Lib.hid (HB3.out.trans (hb4.mono (by omega)))
        refine hK.out _ _ (hb4.block _ (by omega) |>.trans hHeld) (fun hHeld => ?_)
        clear hK K9
        try simp only [Act.put, List.setIfInBounds_toArray, List.set_cons_zero, List.set_cons_succ]
        clear hb4
        refine take_at (i := 8) (.string ⟨L2.toArray⟩) (some 34) (by decide) (by rfl) (by kernel_rfl) (by kernel_rfl) (by kernel_rfl) (fun _ _ _ h => h) (by rfl) (fun W hW => by go_simp) (by assumption) ?_
        try simp only [Act.put, List.setIfInBounds_toArray, List.set_cons_zero, List.set_cons_succ]
        refine take_at (i := 9) (.string ⟨L2.toArray⟩) (some 3) (by decide) (by rfl) (by kernel_rfl) (by kernel_rfl) (by kernel_rfl) (fun _ _ _ h => h) (by rfl) (fun W hW => by go_simp) (by assumption) ?_
        try simp only [Act.put, List.setIfInBounds_toArray, List.set_cons_zero, List.set_cons_succ]
        refine wpAnyH_done (by kernel_rfl) ?_ _
        try simp only [Act.put, List.setIfInBounds_toArray, List.set_cons_zero, List.set_cons_succ]
        go_wp2_with fail
        go_roundw
        case rel => exact ⟨k + 1, by go_num, by omega, by rw [HNX.out]; show Value.string ⟨L2.toArray⟩ = _; rw [← HL2.out, ← HL1.out, ← HL0.out]; simp, HB4.out⟩
        case measure => simp [intOf]; omega
      · have hkk : k = ps.length := by omega
        subst hkk
        rw [List.take_length]
        go_wp2_with fail
        go_ret
        exact ⟨by rw [HT.out]; rfl, hbl.out⟩
  · have hks : ks ≠ [] := fun e => hk (by rw [e]; rfl)
    have HT : Hid (treeB ⟨ps, ks⟩ = 2 :: UInt8.ofNat ks.length :: ksB ks) := if_neg hks
    have hkq : ((ks.length : Int) == 0) = false := by rw [beq_eq_false_iff_ne]; omega
    have hl := hl2
    have hwl := wrap_len ks.length
    generalize UInt8.ofNat ks.length = n8 at *
    clear hk hks hl1 hl2
    have hcv := run_text_of _ _ _ _ (own_two (w.alloc (.cells #[.slice A1 ps.length c1, .slice A2 ks.length c2] 25)) 0 (Nat.zero_le _) 2 n8 2 n8.toNat rfl rfl).sl
    rw [hzz] at hcv
    have HB0 : Hid (Below w.heap.size w ((w.alloc (.cells #[.slice A1 ps.length c1, .slice A2 ks.length c2] 25)).alloc (.cells #[.int .u8 2, .int .u8 n8.toNat] 5))) := HB1.out.alloc (by omega) _
    have d0 : ((w.alloc (.cells #[.slice A1 ps.length c1, .slice A2 ks.length c2] 25)).alloc (.cells #[.int .u8 2, .int .u8 n8.toNat] 5)).cell? ⟨w.heap.size, 1, none⟩ = some (.slice A2 ks.length c2) := cell_kept (new_below _ _) (cell_of_row _ _ 1 _ _ _ HTR.out)
    clear HTR
    go_enter Try.func13, Try.ntmps13
    go_wp2_with fail
    generalize (w.alloc (.cells #[.slice A1 ps.length c1, .slice A2 ks.length c2] 25)).alloc (.cells #[.int .u8 2, .int .u8 n8.toNat] 5) = w0 at *
    clear hcv d0
    go_loopw [6, 46] (fun u i wr => ∃ k : Nat, i = .int .i64 k ∧ k ≤ ks.length ∧ u = .string ⟨(2 :: n8 :: ksB (ks.take k)).toArray⟩ ∧ Hid (Below w.heap.size w wr)) (fun _ i _ => ks.length - (intOf i).toNat)
    case atStart => exact ⟨0, rfl, by omega, rfl, HB0.out⟩
    case round =>
      clear HB0
      obtain ⟨k, rfl, hk, rfl, hbl⟩ := hrel
      by_cases hlt : k < ks.length
      · obtain ⟨x, hxk⟩ : ∃ x, ks[k]? = some x := ⟨ks[k], List.getElem?_eq_getElem hlt⟩
        obtain ⟨b2, off2, e2, hB2, rx⟩ := KsIn.range (H2.out.below hbl.out) hxk
        subst e2
        have RX := Lib.hid rx
        clear rx
        have hnx := ksB_take hxk
        have hlk1 := ksB_len hl (k := k + 1)
        rw [hnx] at hlk1
        have HNX := Lib.hid hnx
        clear hnx hxk
        generalize ksB (ks.take k) = R at *
        have hlk : R.length + ((enc x.1.length).length + x.1.length + (textI x.2.1).length) ≤ 100000000 := by simpa [txt_len] using hlk1
        clear hlk1
        have HP : Hid (KidAt (wr.alloc (.cells (kkC x).toArray 59)) wr.heap.size x) := KidAt.new _ _
        have hz1 : (wr.alloc (.cells (kkC x).toArray 59)).heap.size = wr.heap.size + 1 := asz _ _
        have HB1 : Hid (Below w.heap.size w (wr.alloc (.cells (kkC x).toArray 59))) := hbl.out.alloc hbl.out.size _
        have hzr := hbl.out.size
        have HX1 := Lib.hid (fun W => rtxt_any x.1 W (by omega))
        have HX2 := Lib.hid (fun W => name_l x.2.1 W x.2.2)
        have hT1 := txt_len x.1
        have hT2 : (textI x.2.1).length ≤ 33 := textI_len _
        generalize txt x.1 = T1 at *
        generalize textI x.2.1 = T2 at *
        obtain ⟨L0, hL0⟩ : ∃ L, (2 :: n8 :: R : List UInt8) = L := ⟨_, rfl⟩
        have hL0l : L0.length = R.length + 2 := by rw [← hL0]; rfl
        obtain ⟨L1, hL1⟩ : ∃ L, L0 ++ T1 = L := ⟨_, rfl⟩
        have hL1l : L1.length = L0.length + T1.length := by rw [← hL1, List.length_append]
        obtain ⟨L2, hL2⟩ : ∃ L, L1 ++ T2 = L := ⟨_, rfl⟩
        have hadd1 := fun W => add_text W L0 T1 (by omega)
        have hadd2 := fun W => add_text W L1 T2 (by omega)
        rw [hL1] at hadd1
        rw [hL2] at hadd2
        have HL0 := Lib.hid hL0
        have HL1 := Lib.hid hL1
        have HL2 := Lib.hid hL2
        rw [hL0]
        clear hL0 hL1 hL2 hL0l hL1l hT1 hT2 hlk
        go_wp2_with (first
          | (refine wpList_load_mid rfl 59 _ rfl b2 (off2 + k * 34) rfl (kkC x) _ RX.out Try.underlying59 rfl (cells_kk x) ?_)
          | (refine wp_alloc_row zero_kk rfl rfl ?_)
          | (refine wp_fill_kk rfl _ _ rfl rfl (by simp [Act.eval, Act.put]) x rfl ?_))
        generalize wr.alloc (.cells (kkC x).toArray 59) = W1 at *
        obtain ⟨W0, hW0⟩ : ∃ x, W1.drew = x := ⟨_, rfl⟩
        have hS0 : KidAt W0 wr.heap.size x := by rw [← hW0]; exact HP.out
        have HBD : Hid (Below w.heap.size w W0) := by rw [← hW0]; exact HB1.out.drew
        have hs0 : W0.heap.size = wr.heap.size + 1 := by rw [← hW0]; exact hz1
        clear HP HB1 hz1
        refine region_begin hW0 (S := fun W => KidAt W wr.heap.size x) (by kernel_rfl) hS0 (fun hHeld => ?_)
        clear hW0 hS0
        refine take_at (i := 0) (.string ⟨L0.toArray⟩) (some 50) (by decide) (by rfl) (by kernel_rfl) (by kernel_rfl) (by kernel_rfl) (fun _ _ _ h => h) (by rfl) (fun W hW => by go_simp) (by assumption) ?_
        try simp only [Act.put, List.setIfInBounds_toArray, List.set_cons_zero, List.set_cons_succ]
        refine take_at (i := 1) (.pointer (some ⟨wr.heap.size, 0, none⟩)) (some 51) (by decide) (by rfl) (by kernel_rfl) (by kernel_rfl) (by kernel_rfl) (fun _ _ _ h => h) (by rfl) (fun W hW => by go_simp) (by assumption) ?_
        try simp only [Act.put, List.setIfInBounds_toArray, List.set_cons_zero, List.set_cons_succ]
        refine take_at (i := 2) (.string ⟨x.1.toArray⟩) (some 52) (by decide) (by rfl) (by kernel_rfl) (by kernel_rfl) (by kernel_rfl) (fun _ _ _ h => h) (by rfl) (fun W hW => by have := hW.key; go_simp) (by assumption) ?_
        try simp only [Act.put, List.setIfInBounds_toArray, List.set_cons_zero, List.set_cons_succ]
        refine take_at (i := 5) (.pointer (some ⟨wr.heap.size, 1, none⟩)) (some 55) (by decide) (by rfl) (by kernel_rfl) (by kernel_rfl) (by kernel_rfl) (fun _ _ _ h => h) (by rfl) (fun W hW => by go_simp) (by assumption) ?_
        try simp only [Act.put, List.setIfInBounds_toArray, List.set_cons_zero, List.set_cons_succ]
        refine take_at (i := 6) (idV x.2.1) (some 56) (by decide) (by rfl) (by kernel_rfl) (by kernel_rfl) (by kernel_rfl) (fun _ _ _ h => h) (by rfl) (fun W hW => by exact exec_load_mid _ _ rfl wr.heap.size 1 rfl (vb x.2.1) _ hW.id Try.underlying41 rfl (cells_ii x.2)) (by assumption) ?_
        try simp only [Act.put, List.setIfInBounds_toArray, List.set_cons_zero, List.set_cons_succ]
        refine wpAnyH_ready (rs := [3]) (by kernel_rfl) (by simp) (AllReadyH.cons (Array.getElem?_eq_getElem (i := 3) (by decide)) (fun K9 hK => ?_) AllReadyH.nil)
        go_simp
        refine (HX1.out _).mono ?_
        rintro e w3 ⟨rfl, hb3⟩
        have HB3 := Lib.hid (HBD.out.trans (hb3.mono (by omega)))
        have hs3 := hb3.size
        refine hK.out _ _ (hb3.block _ (by omega) |>.trans hHeld) (fun hHeld => ?_)
        clear hK K9
        try simp only [Act.put, List.setIfInBounds_toArray, List.set_cons_zero, List.set_cons_succ]
        clear hb3
        refine take_at (i := 4) (.string ⟨L1.toArray⟩) (some 54) (by decide) (by rfl) (by kernel_rfl) (by kernel_rfl) (by kernel_rfl) (fun _ _ _ h => h) (by rfl) (fun W hW => by go_simp) (by assumption) ?_
        try simp only [Act.put, List.setIfInBounds_toArray, List.set_cons_zero, List.set_cons_succ]
        refine wpAnyH_ready (rs := [7]) (by kernel_rfl) (by simp) (AllReadyH.cons (Array.getElem?_eq_getElem (i := 7) (by decide)) (fun K9 hK => ?_) AllReadyH.nil)
        go_simp
        refine (HX2.out _).mono ?_
        rintro e w4 ⟨rfl, hb4⟩
        have HB4 := Lib.hid (HB3.out.trans (hb4.mono (by omega)))
        refine hK.out _ _ (hb4.block _ (by omega) |>.trans hHeld) (fun hHeld => ?_)
        clear hK K9
        try simp only [Act.put, List.setIfInBounds_toArray, List.set_cons_zero, List.set_cons_succ]
        clear hb4
        refine take_at (i := 8) (.string ⟨L2.toArray⟩) (some 58) (by decide) (by rfl) (by kernel_rfl) (by kernel_rfl) (by kernel_rfl) (fun _ _ _ h => h) (by rfl) (fun W hW => by go_simp) (by assumption) ?_
        try simp only [Act.put, List.setIfInBounds_toArray, List.set_cons_zero, List.set_cons_succ]
        refine take_at (i := 9) (.string ⟨L2.toArray⟩) (some 6) (by decide) (by rfl) (by kernel_rfl) (by kernel_rfl) (by kernel_rfl) (fun _ _ _ h => h) (by rfl) (fun W hW => by go_simp) (by assumption) ?_
        try simp only [Act.put, List.setIfInBounds_toArray, List.set_cons_zero, List.set_cons_succ]
        refine wpAnyH_done (by kernel_rfl) ?_ _
        try simp only [Act.put, List.setIfInBounds_toArray, List.set_cons_zero, List.set_cons_succ]
        go_wp2_with fail
        go_roundw
        case rel => exact ⟨k + 1, by go_num, by omega, by rw [HNX.out]; show Value.string ⟨L2.toArray⟩ = _; rw [← HL2.out, ← HL1.out, ← HL0.out]; simp, HB4.out⟩
        case measure => simp [intOf]; omega
      · have hkk : k = ks.length := by omega
        subst hkk
        rw [List.take_length]
        go_wp2_with fail
        go_ret
        exact ⟨by rw [HT.out]; rfl, hbl.out⟩

end Go.Proofs.Ytabogconbjdcgaa.Cd

/-
  The document's Commit: a commit's bytes, of one that can be. Conditions: none.
-/
namespace Go.Proofs.Ytabogconbjdcgaa.Cd
open Go.RowKit

theorem rint_l (n : Int) (w : World) (h0 : 1 ≤ n) (h1 : n ≤ 1024) : Calls Try.prog 47 #[.int .i64 n] w (Gives (.string ⟨(enc (zig n)).toArray⟩) w) := ref_int_any n w (by omega) (by omega)

set_option maxRecDepth 100000 in
set_option maxHeartbeats 6400000 in
theorem rcom_any (v : Value) (c : Cmt) (w : World) (h : CmtIn w w.heap.size v c) (hg : GoodC c) : Calls Try.prog 21 #[v] w (Gives (.string ⟨(comB c).toArray⟩) w) := by
  obtain ⟨vi, rfl, hi⟩ := h
  obtain ⟨A, cc, rfl, k1, l1⟩ := hi.len
  have HI0 : Hid (IsIn w w.heap.size (.slice A c.is.length cc) c.is) := hi
  have hb1 : Below w.heap.size w (w.alloc (.cells (cmC c (.slice A c.is.length cc)).toArray 44)) := new_below _ _
  have hz1 : (w.alloc (.cells (cmC c (.slice A c.is.length cc)).toArray 44)).heap.size = w.heap.size + 1 := asz _ _
  have HC : Hid (ComAt (w.alloc (.cells (cmC c (.slice A c.is.length cc)).toArray 44)) w.heap.size c (.slice A c.is.length cc)) := ComAt.new _ _ _
  have HB1 := Lib.hid hb1
  have hcb : Hid (comB c = 3 :: UInt8.ofNat c.is.length :: (textI c.root.1 ++ (isB c.is ++ (txt c.note ++ enc (zig c.num))))) := rfl
  have HT0 := Lib.hid (fun W => name_l c.root.1 W c.root.2)
  have hl0 := textI_len c.root.1
  have hl1 := isB_small hg.is
  have hl3 := hg.note
  have hn0 := hg.low
  have hn1 := hg.high
  have hl4 := num_small hn0 hn1
  have hl5 : (txt c.note).length ≤ 33 := by rw [txt_short (by omega)]; omega
  have HX1 := Lib.hid (fun W => rtxt_any c.note W (by omega))
  have HX2 := Lib.hid (fun W => rint_l c.num W hn0 hn1)
  have hwl := wrap_len c.is.length
  have hfin : Hid (isB (c.is.take c.is.length) = isB c.is) := by unfold Hid; rw [List.take_length]
  generalize comB c = CB at *
  generalize UInt8.ofNat c.is.length = n8 at *
  generalize textI c.root.1 = T0 at *
  generalize txt c.note = T1 at *
  generalize enc (zig c.num) = T2 at *
  obtain ⟨L0, hL0⟩ : ∃ L, [3, n8] ++ T0 = L := ⟨_, rfl⟩
  have hL0l : L0.length = T0.length + 2 := by rw [← hL0, List.length_append]; simp; omega
  have hadd0 := fun W => add_text W [3, n8] T0 (by simp only [List.length_cons, List.length_nil]; omega)
  rw [hL0] at hadd0
  have HL0 := Lib.hid hL0
  clear hL0 hi hg hb1
  go_enter Try.func21, Try.ntmps21
  go_wp2_with (refine wp_box_row rfl _ rfl rfl ?_)
  generalize w.alloc (.cells (cmC c (.slice A c.is.length cc)).toArray 44) = w1 at *
  obtain ⟨W0, hW0⟩ : ∃ x, w1.drew = x := ⟨_, rfl⟩
  have hS0 : ComAt W0 w.heap.size c (.slice A c.is.length cc) := by rw [← hW0]; exact HC.out
  have HB0 : Hid (Below w.heap.size w W0) := by rw [← hW0]; exact HB1.out.drew
  have hs0 : W0.heap.size = w.heap.size + 1 := by rw [← hW0]; exact hz1
  clear HC HB1 hz1
  refine region_begin hW0 (S := fun W => ComAt W w.heap.size c (.slice A c.is.length cc)) (by kernel_rfl) hS0 (fun hHeld => ?_)
  clear hW0 hS0
  refine take_at (i := 0) (.pointer (some ⟨w.heap.size, 33, none⟩)) (some 6) (by decide) (by rfl) (by kernel_rfl) (by kernel_rfl) (by kernel_rfl) (fun _ _ _ h => h) (by rfl) (fun W hW => by go_simp) (by assumption) ?_
  try simp only [Act.put, List.setIfInBounds_toArray, List.set_cons_zero, List.set_cons_succ]
  refine take_at (i := 1) (.slice A c.is.length cc) (some 7) (by decide) (by rfl) (by kernel_rfl) (by kernel_rfl) (by kernel_rfl) (fun _ _ _ h => h) (by rfl) (fun W hW => by have := hW.is; go_simp) (by assumption) ?_
  try simp only [Act.put, List.setIfInBounds_toArray, List.set_cons_zero, List.set_cons_succ]
  refine take_at (i := 2) (.int .i64 c.is.length) (some 8) (by decide) (by rfl) (by kernel_rfl) (by kernel_rfl) (by kernel_rfl) (fun _ _ _ h => h) (by rfl) (fun W hW => by go_simp) (by assumption) ?_
  try simp only [Act.put, List.setIfInBounds_toArray, List.set_cons_zero, List.set_cons_succ]
  refine take_at (i := 3) (.int .u8 n8.toNat) (some 9) (by decide) (by rfl) (by kernel_rfl) (by kernel_rfl) (by kernel_rfl) (fun _ _ _ h => h) (by rfl) (fun W hW => by go_simp) (by assumption) ?_
  try simp only [Act.put, List.setIfInBounds_toArray, List.set_cons_zero, List.set_cons_succ]
  refine take_at (i := 6) (.pointer (some ⟨w.heap.size, 0, none⟩)) (some 12) (by decide) (by rfl) (by kernel_rfl) (by kernel_rfl) (by kernel_rfl) (fun _ _ _ h => h) (by rfl) (fun W hW => by go_simp) (by assumption) ?_
  try simp only [Act.put, List.setIfInBounds_toArray, List.set_cons_zero, List.set_cons_succ]
  refine take_at (i := 7) (idV c.root.1) (some 13) (by decide) (by rfl) (by kernel_rfl) (by kernel_rfl) (by kernel_rfl) (fun _ _ _ h => h) (by rfl) (fun W hW => by exact exec_load_mid _ _ rfl w.heap.size 0 rfl (vb c.root.1) _ hW.id Try.underlying41 rfl (cells_ii c.root)) (by assumption) ?_
  try simp only [Act.put, List.setIfInBounds_toArray, List.set_cons_zero, List.set_cons_succ]
  refine wpAnyH_ready (rs := [4, 8]) (by kernel_rfl) (by simp) ?_
  refine AllReadyH.cons (Array.getElem?_eq_getElem (i := 4) (by decide)) (fun K9 hK => ?_) ?_
  · go_simp
    have hnb := new_below W0 (.cells #[.int .u8 3, .int .u8 n8.toNat] 5)
    have HO4 : Hid (Own (W0.alloc (.cells #[.int .u8 3, .int .u8 n8.toNat] 5)) W0.heap.size (.slice (some ⟨W0.heap.size, 0, none⟩) 2 2) [3, n8]) := own_two W0 _ (Nat.le_refl _) 3 n8 _ _ rfl rfl
    have HB4 := Lib.hid (HB0.out.trans (hnb.mono (by omega)))
    have hs4 : W0.heap.size + 1 = (W0.alloc (.cells #[.int .u8 3, .int .u8 n8.toNat] 5)).heap.size := (asz _ _).symm
    refine hK.out _ _ (hHeld.below hnb (by omega)) (fun hHeld => ?_)
    clear hK K9 hnb
    try simp only [Act.put, List.setIfInBounds_toArray, List.set_cons_zero, List.set_cons_succ]
    rw [hs0] at HO4
    generalize W0.alloc (.cells #[.int .u8 3, .int .u8 n8.toNat] 5) = w4 at *
    refine wpAnyH_ready (rs := [5, 8]) (by kernel_rfl) (by simp) ?_
    refine come (i := 5) (.string ⟨[3, n8].toArray⟩) w4 (some 11) (by decide) (by rfl) (by rfl) (by have := run_text_of _ _ _ _ HO4.out.sl; go_simp) hHeld ?_ ?_
    · try simp only [Act.put, List.setIfInBounds_toArray, List.set_cons_zero, List.set_cons_succ]
      refine wpAnyH_ready (rs := [8]) (by kernel_rfl) (by simp) ?_
      refine AllReadyH.cons (Array.getElem?_eq_getElem (i := 8) (by decide)) (fun K9 hK => ?_) AllReadyH.nil
      go_simp
      refine (HT0.out _).mono ?_
      rintro e w8 ⟨rfl, hb8⟩
      have HB8 := Lib.hid (HB4.out.trans (hb8.mono (by omega)))
      have hs8 := hb8.size
      refine hK.out _ _ (hHeld.below hb8 (by omega)) (fun hHeld => ?_)
      clear hK K9 hb8
      try simp only [Act.put, List.setIfInBounds_toArray, List.set_cons_zero, List.set_cons_succ]
      refine take_at (i := 9) (.string ⟨L0.toArray⟩) (some 15) (by decide) (by rfl) (by kernel_rfl) (by kernel_rfl) (by kernel_rfl) (fun _ _ _ h => h) (by rfl) (fun W hW => by go_simp) (by assumption) ?_
      try simp only [Act.put, List.setIfInBounds_toArray, List.set_cons_zero, List.set_cons_succ]
      refine take_at (i := 10) (.string ⟨L0.toArray⟩) (some 3) (by decide) (by rfl) (by kernel_rfl) (by kernel_rfl) (by kernel_rfl) (fun _ _ _ h => h) (by rfl) (fun W hW => by go_simp) (by assumption) ?_
      try simp only [Act.put, List.setIfInBounds_toArray, List.set_cons_zero, List.set_cons_succ]
      refine wpAnyH_done (by kernel_rfl) ?_ _
      try simp only [Act.put, List.setIfInBounds_toArray, List.set_cons_zero, List.set_cons_succ]
      have HCX := Lib.hid hHeld
      have HBX := Lib.hid HB8.out
      have hsx : w.heap.size < w8.heap.size := by omega
      clear hHeld HB0
      have d33 := HCX.out.is
      go_wp2_with fail
      go_loopw [3, 19] (fun u i wr => ∃ k : Nat, i = .int .i64 k ∧ k ≤ c.is.length ∧ u = .string ⟨(L0 ++ isB (c.is.take k)).toArray⟩ ∧ Hid (ComAt wr w.heap.size c (.slice A c.is.length cc)) ∧ Hid (Below w.heap.size w wr) ∧ w.heap.size < wr.heap.size) (fun _ i _ => c.is.length - (intOf i).toNat)
      case atStart => exact ⟨0, rfl, by omega, by rw [show isB (c.is.take 0) = [] from rfl, List.append_nil], HCX.out, HBX.out, hsx⟩
      case round =>
        clear HCX HBX hsx d33
        obtain ⟨k, rfl, hk, rfl, hcm, hbl, hsr⟩ := hrel
        by_cases hlt : k < c.is.length
        · obtain ⟨x, hxk⟩ : ∃ x, c.is[k]? = some x := ⟨c.is[k], List.getElem?_eq_getElem hlt⟩
          obtain ⟨b2, off2, e2, hB2, rx⟩ := IsIn.range (HI0.out.below hbl.out) hxk
          subst e2
          have RX := Lib.hid rx
          clear rx
          have hnx := isB_take hxk
          have hlk1 := isB_takelen hl1 (k := k + 1)
          rw [hnx] at hlk1
          have HNX := Lib.hid hnx
          clear hnx hxk
          generalize isB (c.is.take k) = R at *
          rw [List.length_append] at hlk1
          have hx33 : Hid (x.1.length = 33) := x.2
          have HXN := Lib.hid (fun W => name_l x.1 W x.2)
          generalize textI x.1 = T at *
          obtain ⟨M0, hM0⟩ : ∃ L, L0 ++ R = L := ⟨_, rfl⟩
          have hM0l : M0.length = L0.length + R.length := by rw [← hM0, List.length_append]
          have hadd := fun W => add_text W M0 T (by omega)
          have HM0 := Lib.hid hM0
          rw [hM0]
          clear hM0
          have HX : Hid (IdAt (wr.alloc (.cells (vb x.1).toArray 41)) wr.heap.size x.1) := IdAt.new _ _
          have hb6 : Below wr.heap.size wr (wr.alloc (.cells (vb x.1).toArray 41)) := new_below _ _
          have hz6 : (wr.alloc (.cells (vb x.1).toArray 41)).heap.size = wr.heap.size + 1 := asz _ _
          have HB6 := Lib.hid (hbl.out.trans (hb6.mono (by omega)))
          have HC6 := Lib.hid (hcm.out.below hb6 (by omega))
          clear hb6
          go_wp2_with (first
            | (refine wpList_load_mid rfl 41 _ rfl b2 (off2 + k * 33) rfl (vb x.1) _ RX.out Try.underlying41 rfl (cells_ii x) ?_)
            | (refine wp_alloc_row zero_id rfl rfl ?_)
            | (refine wp_fill_id rfl _ _ rfl rfl (by simp [Act.eval, Act.put]) x.1 hx33.out rfl ?_)
            | (refine wp_load_id rfl _ rfl wr.heap.size rfl x.1 hx33.out HX.out ?_))
          generalize wr.alloc (.cells (vb x.1).toArray 41) = W6 at *
          refine (HXN.out W6).mono ?_
          rintro e w7 ⟨rfl, hb7⟩
          have HB7 := Lib.hid (HB6.out.trans (hb7.mono (by omega)))
          have HC7 := Lib.hid (HC6.out.below hb7 (by omega))
          have hs7 : w.heap.size < w7.heap.size := by have := hb7.size; omega
          clear hb7 HB6 HC6
          go_wp2_with fail
          go_roundw
          case rel => exact ⟨k + 1, by go_num, by omega, by rw [HNX.out, ← List.append_assoc, HM0.out], HC7.out, HB7.out, hs7⟩
          case measure => simp [intOf]; omega
        · have hkk : k = c.is.length := by omega
          subst hkk
          rw [hfin.out]
          generalize isB c.is = R at *
          obtain ⟨M0, hM0⟩ : ∃ L, L0 ++ R = L := ⟨_, rfl⟩
          have hM0l : M0.length = L0.length + R.length := by rw [← hM0, List.length_append]
          obtain ⟨M1, hM1⟩ : ∃ L, M0 ++ T1 = L := ⟨_, rfl⟩
          have hM1l : M1.length = M0.length + T1.length := by rw [← hM1, List.length_append]
          obtain ⟨M2, hM2⟩ : ∃ L, M1 ++ T2 = L := ⟨_, rfl⟩
          have hadd1 := fun W => add_text W M0 T1 (by omega)
          have hadd2 := fun W => add_text W M1 T2 (by omega)
          rw [hM1] at hadd1
          rw [hM2] at hadd2
          have HE : Hid (CB = M2) := by
            unfold Hid
            rw [hcb.out, ← hM2, ← hM1, ← hM0, ← HL0.out]
            simp
          rw [hM0]
          clear hM0 hM1 hM2
          go_wp2_with fail
          obtain ⟨W9, hW0⟩ : ∃ x, wr.drew = x := ⟨_, rfl⟩
          have hS0 : ComAt W9 w.heap.size c (.slice A c.is.length cc) := by rw [← hW0]; exact hcm.out
          have HBD : Hid (Below w.heap.size w W9) := by rw [← hW0]; exact hbl.out.drew
          have hs9 : w.heap.size < W9.heap.size := by rw [← hW0]; simpa using hsr
          clear hcm hbl hsr
          refine region_begin hW0 (S := fun W => ComAt W w.heap.size c (.slice A c.is.length cc)) (by kernel_rfl) hS0 (fun hHeld => ?_)
          clear hW0 hS0
          refine take_at (i := 0) (.string ⟨M0.toArray⟩) (some 28) (by decide) (by rfl) (by kernel_rfl) (by kernel_rfl) (by kernel_rfl) (fun _ _ _ h => h) (by rfl) (fun W hW => by go_simp) (by assumption) ?_
          try simp only [Act.put, List.setIfInBounds_toArray, List.set_cons_zero, List.set_cons_succ]
          refine take_at (i := 1) (.pointer (some ⟨w.heap.size, 34, none⟩)) (some 29) (by decide) (by rfl) (by kernel_rfl) (by kernel_rfl) (by kernel_rfl) (fun _ _ _ h => h) (by rfl) (fun W hW => by go_simp) (by assumption) ?_
          try simp only [Act.put, List.setIfInBounds_toArray, List.set_cons_zero, List.set_cons_succ]
          refine take_at (i := 2) (.string ⟨c.note.toArray⟩) (some 30) (by decide) (by rfl) (by kernel_rfl) (by kernel_rfl) (by kernel_rfl) (fun _ _ _ h => h) (by rfl) (fun W hW => by have := hW.note; go_simp) (by assumption) ?_
          try simp only [Act.put, List.setIfInBounds_toArray, List.set_cons_zero, List.set_cons_succ]
          refine take_at (i := 5) (.pointer (some ⟨w.heap.size, 35, none⟩)) (some 33) (by decide) (by rfl) (by kernel_rfl) (by kernel_rfl) (by kernel_rfl) (fun _ _ _ h => h) (by rfl) (fun W hW => by go_simp) (by assumption) ?_
          try simp only [Act.put, List.setIfInBounds_toArray, List.set_cons_zero, List.set_cons_succ]
          refine take_at (i := 6) (.int .i64 c.num) (some 34) (by decide) (by rfl) (by kernel_rfl) (by kernel_rfl) (by kernel_rfl) (fun _ _ _ h => h) (by rfl) (fun W hW => by have := hW.num; go_simp) (by assumption) ?_
          try simp only [Act.put, List.setIfInBounds_toArray, List.set_cons_zero, List.set_cons_succ]
          refine wpAnyH_ready (rs := [3]) (by kernel_rfl) (by simp) (AllReadyH.cons (Array.getElem?_eq_getElem (i := 3) (by decide)) (fun K9 hK => ?_) AllReadyH.nil)
          go_simp
          refine (HX1.out _).mono ?_
          rintro e wa ⟨rfl, hba⟩
          have HBa := Lib.hid (HBD.out.trans (hba.mono (by omega)))
          have hsa := hba.size
          refine hK.out _ _ (hHeld.below hba (by omega)) (fun hHeld => ?_)
          clear hK K9
          try simp only [Act.put, List.setIfInBounds_toArray, List.set_cons_zero, List.set_cons_succ]
          clear hba
          refine take_at (i := 4) (.string ⟨M1.toArray⟩) (some 32) (by decide) (by rfl) (by kernel_rfl) (by kernel_rfl) (by kernel_rfl) (fun _ _ _ h => h) (by rfl) (fun W hW => by go_simp) (by assumption) ?_
          try simp only [Act.put, List.setIfInBounds_toArray, List.set_cons_zero, List.set_cons_succ]
          refine wpAnyH_ready (rs := [7]) (by kernel_rfl) (by simp) (AllReadyH.cons (Array.getElem?_eq_getElem (i := 7) (by decide)) (fun K9 hK => ?_) AllReadyH.nil)
          go_simp
          refine (HX2.out _).mono ?_
          rintro e wb ⟨rfl, hbb⟩
          have HBb := Lib.hid (HBa.out.trans (hbb.mono (by omega)))
          refine hK.out _ _ (hHeld.below hbb (by omega)) (fun hHeld => ?_)
          clear hK K9
          try simp only [Act.put, List.setIfInBounds_toArray, List.set_cons_zero, List.set_cons_succ]
          clear hbb
          refine take_at (i := 8) (.string ⟨M2.toArray⟩) (some 36) (by decide) (by rfl) (by kernel_rfl) (by kernel_rfl) (by kernel_rfl) (fun _ _ _ h => h) (by rfl) (fun W hW => by go_simp) (by assumption) ?_
          try simp only [Act.put, List.setIfInBounds_toArray, List.set_cons_zero, List.set_cons_succ]
          refine take_at (i := 9) (.string ⟨M2.toArray⟩) (some 2) (by decide) (by rfl) (by kernel_rfl) (by kernel_rfl) (by kernel_rfl) (fun _ _ _ h => h) (by rfl) (fun W hW => by go_simp) (by assumption) ?_
          try simp only [Act.put, List.setIfInBounds_toArray, List.set_cons_zero, List.set_cons_succ]
          refine wpAnyH_done (by kernel_rfl) ?_ _
          try simp only [Act.put, List.setIfInBounds_toArray, List.set_cons_zero, List.set_cons_succ]
          go_wp2_with fail
          go_ret
          exact ⟨by rw [HE.out]; rfl, HBb.out⟩
    · refine AllReadyH.cons (Array.getElem?_eq_getElem (i := 8) (by decide)) (fun K9 hK => ?_) AllReadyH.nil
      go_simp
      refine (HT0.out _).mono ?_
      rintro e w8 ⟨rfl, hb8⟩
      have HB8 := Lib.hid (HB4.out.trans (hb8.mono (by omega)))
      have hs8 := hb8.size
      have HO8 := Lib.hid (HO4.out.keep hb8)
      refine hK.out _ _ (hHeld.below hb8 (by omega)) (fun hHeld => ?_)
      clear hK K9 hb8
      try simp only [Act.put, List.setIfInBounds_toArray, List.set_cons_zero, List.set_cons_succ]
      refine wpAnyH_ready (rs := [5]) (by kernel_rfl) (by simp) ?_
      refine come (i := 5) (.string ⟨[3, n8].toArray⟩) w8 (some 11) (by decide) (by rfl) (by rfl) (by have := run_text_of _ _ _ _ HO8.out.sl; go_simp) hHeld ?_ AllReadyH.nil
      try simp only [Act.put, List.setIfInBounds_toArray, List.set_cons_zero, List.set_cons_succ]
      refine take_at (i := 9) (.string ⟨L0.toArray⟩) (some 15) (by decide) (by rfl) (by kernel_rfl) (by kernel_rfl) (by kernel_rfl) (fun _ _ _ h => h) (by rfl) (fun W hW => by go_simp) (by assumption) ?_
      try simp only [Act.put, List.setIfInBounds_toArray, List.set_cons_zero, List.set_cons_succ]
      refine take_at (i := 10) (.string ⟨L0.toArray⟩) (some 3) (by decide) (by rfl) (by kernel_rfl) (by kernel_rfl) (by kernel_rfl) (fun _ _ _ h => h) (by rfl) (fun W hW => by go_simp) (by assumption) ?_
      try simp only [Act.put, List.setIfInBounds_toArray, List.set_cons_zero, List.set_cons_succ]
      refine wpAnyH_done (by kernel_rfl) ?_ _
      try simp only [Act.put, List.setIfInBounds_toArray, List.set_cons_zero, List.set_cons_succ]
      have HCX := Lib.hid hHeld
      have HBX := Lib.hid HB8.out
      have hsx : w.heap.size < w8.heap.size := by omega
      clear hHeld HB0
      have d33 := HCX.out.is
      go_wp2_with fail
      go_loopw [3, 19] (fun u i wr => ∃ k : Nat, i = .int .i64 k ∧ k ≤ c.is.length ∧ u = .string ⟨(L0 ++ isB (c.is.take k)).toArray⟩ ∧ Hid (ComAt wr w.heap.size c (.slice A c.is.length cc)) ∧ Hid (Below w.heap.size w wr) ∧ w.heap.size < wr.heap.size) (fun _ i _ => c.is.length - (intOf i).toNat)
      case atStart => exact ⟨0, rfl, by omega, by rw [show isB (c.is.take 0) = [] from rfl, List.append_nil], HCX.out, HBX.out, hsx⟩
      case round =>
        clear HCX HBX hsx d33
        obtain ⟨k, rfl, hk, rfl, hcm, hbl, hsr⟩ := hrel
        by_cases hlt : k < c.is.length
        · obtain ⟨x, hxk⟩ : ∃ x, c.is[k]? = some x := ⟨c.is[k], List.getElem?_eq_getElem hlt⟩
          obtain ⟨b2, off2, e2, hB2, rx⟩ := IsIn.range (HI0.out.below hbl.out) hxk
          subst e2
          have RX := Lib.hid rx
          clear rx
          have hnx := isB_take hxk
          have hlk1 := isB_takelen hl1 (k := k + 1)
          rw [hnx] at hlk1
          have HNX := Lib.hid hnx
          clear hnx hxk
          generalize isB (c.is.take k) = R at *
          rw [List.length_append] at hlk1
          have hx33 : Hid (x.1.length = 33) := x.2
          have HXN := Lib.hid (fun W => name_l x.1 W x.2)
          generalize textI x.1 = T at *
          obtain ⟨M0, hM0⟩ : ∃ L, L0 ++ R = L := ⟨_, rfl⟩
          have hM0l : M0.length = L0.length + R.length := by rw [← hM0, List.length_append]
          have hadd := fun W => add_text W M0 T (by omega)
          have HM0 := Lib.hid hM0
          rw [hM0]
          clear hM0
          have HX : Hid (IdAt (wr.alloc (.cells (vb x.1).toArray 41)) wr.heap.size x.1) := IdAt.new _ _
          have hb6 : Below wr.heap.size wr (wr.alloc (.cells (vb x.1).toArray 41)) := new_below _ _
          have hz6 : (wr.alloc (.cells (vb x.1).toArray 41)).heap.size = wr.heap.size + 1 := asz _ _
          have HB6 := Lib.hid (hbl.out.trans (hb6.mono (by omega)))
          have HC6 := Lib.hid (hcm.out.below hb6 (by omega))
          clear hb6
          go_wp2_with (first
            | (refine wpList_load_mid rfl 41 _ rfl b2 (off2 + k * 33) rfl (vb x.1) _ RX.out Try.underlying41 rfl (cells_ii x) ?_)
            | (refine wp_alloc_row zero_id rfl rfl ?_)
            | (refine wp_fill_id rfl _ _ rfl rfl (by simp [Act.eval, Act.put]) x.1 hx33.out rfl ?_)
            | (refine wp_load_id rfl _ rfl wr.heap.size rfl x.1 hx33.out HX.out ?_))
          generalize wr.alloc (.cells (vb x.1).toArray 41) = W6 at *
          refine (HXN.out W6).mono ?_
          rintro e w7 ⟨rfl, hb7⟩
          have HB7 := Lib.hid (HB6.out.trans (hb7.mono (by omega)))
          have HC7 := Lib.hid (HC6.out.below hb7 (by omega))
          have hs7 : w.heap.size < w7.heap.size := by have := hb7.size; omega
          clear hb7 HB6 HC6
          go_wp2_with fail
          go_roundw
          case rel => exact ⟨k + 1, by go_num, by omega, by rw [HNX.out, ← List.append_assoc, HM0.out], HC7.out, HB7.out, hs7⟩
          case measure => simp [intOf]; omega
        · have hkk : k = c.is.length := by omega
          subst hkk
          rw [hfin.out]
          generalize isB c.is = R at *
          obtain ⟨M0, hM0⟩ : ∃ L, L0 ++ R = L := ⟨_, rfl⟩
          have hM0l : M0.length = L0.length + R.length := by rw [← hM0, List.length_append]
          obtain ⟨M1, hM1⟩ : ∃ L, M0 ++ T1 = L := ⟨_, rfl⟩
          have hM1l : M1.length = M0.length + T1.length := by rw [← hM1, List.length_append]
          obtain ⟨M2, hM2⟩ : ∃ L, M1 ++ T2 = L := ⟨_, rfl⟩
          have hadd1 := fun W => add_text W M0 T1 (by omega)
          have hadd2 := fun W => add_text W M1 T2 (by omega)
          rw [hM1] at hadd1
          rw [hM2] at hadd2
          have HE : Hid (CB = M2) := by
            unfold Hid
            rw [hcb.out, ← hM2, ← hM1, ← hM0, ← HL0.out]
            simp
          rw [hM0]
          clear hM0 hM1 hM2
          go_wp2_with fail
          obtain ⟨W9, hW0⟩ : ∃ x, wr.drew = x := ⟨_, rfl⟩
          have hS0 : ComAt W9 w.heap.size c (.slice A c.is.length cc) := by rw [← hW0]; exact hcm.out
          have HBD : Hid (Below w.heap.size w W9) := by rw [← hW0]; exact hbl.out.drew
          have hs9 : w.heap.size < W9.heap.size := by rw [← hW0]; simpa using hsr
          clear hcm hbl hsr
          refine region_begin hW0 (S := fun W => ComAt W w.heap.size c (.slice A c.is.length cc)) (by kernel_rfl) hS0 (fun hHeld => ?_)
          clear hW0 hS0
          refine take_at (i := 0) (.string ⟨M0.toArray⟩) (some 28) (by decide) (by rfl) (by kernel_rfl) (by kernel_rfl) (by kernel_rfl) (fun _ _ _ h => h) (by rfl) (fun W hW => by go_simp) (by assumption) ?_
          try simp only [Act.put, List.setIfInBounds_toArray, List.set_cons_zero, List.set_cons_succ]
          refine take_at (i := 1) (.pointer (some ⟨w.heap.size, 34, none⟩)) (some 29) (by decide) (by rfl) (by kernel_rfl) (by kernel_rfl) (by kernel_rfl) (fun _ _ _ h => h) (by rfl) (fun W hW => by go_simp) (by assumption) ?_
          try simp only [Act.put, List.setIfInBounds_toArray, List.set_cons_zero, List.set_cons_succ]
          refine take_at (i := 2) (.string ⟨c.note.toArray⟩) (some 30) (by decide) (by rfl) (by kernel_rfl) (by kernel_rfl) (by kernel_rfl) (fun _ _ _ h => h) (by rfl) (fun W hW => by have := hW.note; go_simp) (by assumption) ?_
          try simp only [Act.put, List.setIfInBounds_toArray, List.set_cons_zero, List.set_cons_succ]
          refine take_at (i := 5) (.pointer (some ⟨w.heap.size, 35, none⟩)) (some 33) (by decide) (by rfl) (by kernel_rfl) (by kernel_rfl) (by kernel_rfl) (fun _ _ _ h => h) (by rfl) (fun W hW => by go_simp) (by assumption) ?_
          try simp only [Act.put, List.setIfInBounds_toArray, List.set_cons_zero, List.set_cons_succ]
          refine take_at (i := 6) (.int .i64 c.num) (some 34) (by decide) (by rfl) (by kernel_rfl) (by kernel_rfl) (by kernel_rfl) (fun _ _ _ h => h) (by rfl) (fun W hW => by have := hW.num; go_simp) (by assumption) ?_
          try simp only [Act.put, List.setIfInBounds_toArray, List.set_cons_zero, List.set_cons_succ]
          refine wpAnyH_ready (rs := [3]) (by kernel_rfl) (by simp) (AllReadyH.cons (Array.getElem?_eq_getElem (i := 3) (by decide)) (fun K9 hK => ?_) AllReadyH.nil)
          go_simp
          refine (HX1.out _).mono ?_
          rintro e wa ⟨rfl, hba⟩
          have HBa := Lib.hid (HBD.out.trans (hba.mono (by omega)))
          have hsa := hba.size
          refine hK.out _ _ (hHeld.below hba (by omega)) (fun hHeld => ?_)
          clear hK K9
          try simp only [Act.put, List.setIfInBounds_toArray, List.set_cons_zero, List.set_cons_succ]
          clear hba
          refine take_at (i := 4) (.string ⟨M1.toArray⟩) (some 32) (by decide) (by rfl) (by kernel_rfl) (by kernel_rfl) (by kernel_rfl) (fun _ _ _ h => h) (by rfl) (fun W hW => by go_simp) (by assumption) ?_
          try simp only [Act.put, List.setIfInBounds_toArray, List.set_cons_zero, List.set_cons_succ]
          refine wpAnyH_ready (rs := [7]) (by kernel_rfl) (by simp) (AllReadyH.cons (Array.getElem?_eq_getElem (i := 7) (by decide)) (fun K9 hK => ?_) AllReadyH.nil)
          go_simp
          refine (HX2.out _).mono ?_
          rintro e wb ⟨rfl, hbb⟩
          have HBb := Lib.hid (HBa.out.trans (hbb.mono (by omega)))
          refine hK.out _ _ (hHeld.below hbb (by omega)) (fun hHeld => ?_)
          clear hK K9
          try simp only [Act.put, List.setIfInBounds_toArray, List.set_cons_zero, List.set_cons_succ]
          clear hbb
          refine take_at (i := 8) (.string ⟨M2.toArray⟩) (some 36) (by decide) (by rfl) (by kernel_rfl) (by kernel_rfl) (by kernel_rfl) (fun _ _ _ h => h) (by rfl) (fun W hW => by go_simp) (by assumption) ?_
          try simp only [Act.put, List.setIfInBounds_toArray, List.set_cons_zero, List.set_cons_succ]
          refine take_at (i := 9) (.string ⟨M2.toArray⟩) (some 2) (by decide) (by rfl) (by kernel_rfl) (by kernel_rfl) (by kernel_rfl) (fun _ _ _ h => h) (by rfl) (fun W hW => by go_simp) (by assumption) ?_
          try simp only [Act.put, List.setIfInBounds_toArray, List.set_cons_zero, List.set_cons_succ]
          refine wpAnyH_done (by kernel_rfl) ?_ _
          try simp only [Act.put, List.setIfInBounds_toArray, List.set_cons_zero, List.set_cons_succ]
          go_wp2_with fail
          go_ret
          exact ⟨by rw [HE.out]; rfl, HBb.out⟩
  · refine AllReadyH.cons (Array.getElem?_eq_getElem (i := 8) (by decide)) (fun K9 hK => ?_) AllReadyH.nil
    go_simp
    refine (HT0.out _).mono ?_
    rintro e w8 ⟨rfl, hb8⟩
    have HB8 := Lib.hid (HB0.out.trans (hb8.mono (by omega)))
    have hs8 := hb8.size
    refine hK.out _ _ (hHeld.below hb8 (by omega)) (fun hHeld => ?_)
    clear hK K9 hb8
    try simp only [Act.put, List.setIfInBounds_toArray, List.set_cons_zero, List.set_cons_succ]
    refine wpAnyH_ready (rs := [4]) (by kernel_rfl) (by simp) ?_
    refine AllReadyH.cons (Array.getElem?_eq_getElem (i := 4) (by decide)) (fun K9 hK => ?_) AllReadyH.nil
    go_simp
    have hnb := new_below w8 (.cells #[.int .u8 3, .int .u8 n8.toNat] 5)
    have HO4 : Hid (Own (w8.alloc (.cells #[.int .u8 3, .int .u8 n8.toNat] 5)) w8.heap.size (.slice (some ⟨w8.heap.size, 0, none⟩) 2 2) [3, n8]) := own_two w8 _ (Nat.le_refl _) 3 n8 _ _ rfl rfl
    have HB4 := Lib.hid (HB8.out.trans (hnb.mono (by omega)))
    have hs4 : w8.heap.size + 1 = (w8.alloc (.cells #[.int .u8 3, .int .u8 n8.toNat] 5)).heap.size := (asz _ _).symm
    refine hK.out _ _ (hHeld.below hnb (by omega)) (fun hHeld => ?_)
    clear hK K9 hnb
    try simp only [Act.put, List.setIfInBounds_toArray, List.set_cons_zero, List.set_cons_succ]
    generalize w8.alloc (.cells #[.int .u8 3, .int .u8 n8.toNat] 5) = w4 at *
    refine wpAnyH_ready (rs := [5]) (by kernel_rfl) (by simp) ?_
    refine come (i := 5) (.string ⟨[3, n8].toArray⟩) w4 (some 11) (by decide) (by rfl) (by rfl) (by have := run_text_of _ _ _ _ HO4.out.sl; go_simp) hHeld ?_ AllReadyH.nil
    try simp only [Act.put, List.setIfInBounds_toArray, List.set_cons_zero, List.set_cons_succ]
    refine take_at (i := 9) (.string ⟨L0.toArray⟩) (some 15) (by decide) (by rfl) (by kernel_rfl) (by kernel_rfl) (by kernel_rfl) (fun _ _ _ h => h) (by rfl) (fun W hW => by go_simp) (by assumption) ?_
    try simp only [Act.put, List.setIfInBounds_toArray, List.set_cons_zero, List.set_cons_succ]
    refine take_at (i := 10) (.string ⟨L0.toArray⟩) (some 3) (by decide) (by rfl) (by kernel_rfl) (by kernel_rfl) (by kernel_rfl) (fun _ _ _ h => h) (by rfl) (fun W hW => by go_simp) (by assumption) ?_
    try simp only [Act.put, List.setIfInBounds_toArray, List.set_cons_zero, List.set_cons_succ]
    refine wpAnyH_done (by kernel_rfl) ?_ _
    try simp only [Act.put, List.setIfInBounds_toArray, List.set_cons_zero, List.set_cons_succ]
    have HCX := Lib.hid hHeld
    have HBX := Lib.hid HB4.out
    have hsx : w.heap.size < w4.heap.size := by omega
    clear hHeld HB0
    have d33 := HCX.out.is
    go_wp2_with fail
    go_loopw [3, 19] (fun u i wr => ∃ k : Nat, i = .int .i64 k ∧ k ≤ c.is.length ∧ u = .string ⟨(L0 ++ isB (c.is.take k)).toArray⟩ ∧ Hid (ComAt wr w.heap.size c (.slice A c.is.length cc)) ∧ Hid (Below w.heap.size w wr) ∧ w.heap.size < wr.heap.size) (fun _ i _ => c.is.length - (intOf i).toNat)
    case atStart => exact ⟨0, rfl, by omega, by rw [show isB (c.is.take 0) = [] from rfl, List.append_nil], HCX.out, HBX.out, hsx⟩
    case round =>
      clear HCX HBX hsx d33
      obtain ⟨k, rfl, hk, rfl, hcm, hbl, hsr⟩ := hrel
      by_cases hlt : k < c.is.length
      · obtain ⟨x, hxk⟩ : ∃ x, c.is[k]? = some x := ⟨c.is[k], List.getElem?_eq_getElem hlt⟩
        obtain ⟨b2, off2, e2, hB2, rx⟩ := IsIn.range (HI0.out.below hbl.out) hxk
        subst e2
        have RX := Lib.hid rx
        clear rx
        have hnx := isB_take hxk
        have hlk1 := isB_takelen hl1 (k := k + 1)
        rw [hnx] at hlk1
        have HNX := Lib.hid hnx
        clear hnx hxk
        generalize isB (c.is.take k) = R at *
        rw [List.length_append] at hlk1
        have hx33 : Hid (x.1.length = 33) := x.2
        have HXN := Lib.hid (fun W => name_l x.1 W x.2)
        generalize textI x.1 = T at *
        obtain ⟨M0, hM0⟩ : ∃ L, L0 ++ R = L := ⟨_, rfl⟩
        have hM0l : M0.length = L0.length + R.length := by rw [← hM0, List.length_append]
        have hadd := fun W => add_text W M0 T (by omega)
        have HM0 := Lib.hid hM0
        rw [hM0]
        clear hM0
        have HX : Hid (IdAt (wr.alloc (.cells (vb x.1).toArray 41)) wr.heap.size x.1) := IdAt.new _ _
        have hb6 : Below wr.heap.size wr (wr.alloc (.cells (vb x.1).toArray 41)) := new_below _ _
        have hz6 : (wr.alloc (.cells (vb x.1).toArray 41)).heap.size = wr.heap.size + 1 := asz _ _
        have HB6 := Lib.hid (hbl.out.trans (hb6.mono (by omega)))
        have HC6 := Lib.hid (hcm.out.below hb6 (by omega))
        clear hb6
        go_wp2_with (first
          | (refine wpList_load_mid rfl 41 _ rfl b2 (off2 + k * 33) rfl (vb x.1) _ RX.out Try.underlying41 rfl (cells_ii x) ?_)
          | (refine wp_alloc_row zero_id rfl rfl ?_)
          | (refine wp_fill_id rfl _ _ rfl rfl (by simp [Act.eval, Act.put]) x.1 hx33.out rfl ?_)
          | (refine wp_load_id rfl _ rfl wr.heap.size rfl x.1 hx33.out HX.out ?_))
        generalize wr.alloc (.cells (vb x.1).toArray 41) = W6 at *
        refine (HXN.out W6).mono ?_
        rintro e w7 ⟨rfl, hb7⟩
        have HB7 := Lib.hid (HB6.out.trans (hb7.mono (by omega)))
        have HC7 := Lib.hid (HC6.out.below hb7 (by omega))
        have hs7 : w.heap.size < w7.heap.size := by have := hb7.size; omega
        clear hb7 HB6 HC6
        go_wp2_with fail
        go_roundw
        case rel => exact ⟨k + 1, by go_num, by omega, by rw [HNX.out, ← List.append_assoc, HM0.out], HC7.out, HB7.out, hs7⟩
        case measure => simp [intOf]; omega
      · have hkk : k = c.is.length := by omega
        subst hkk
        rw [hfin.out]
        generalize isB c.is = R at *
        obtain ⟨M0, hM0⟩ : ∃ L, L0 ++ R = L := ⟨_, rfl⟩
        have hM0l : M0.length = L0.length + R.length := by rw [← hM0, List.length_append]
        obtain ⟨M1, hM1⟩ : ∃ L, M0 ++ T1 = L := ⟨_, rfl⟩
        have hM1l : M1.length = M0.length + T1.length := by rw [← hM1, List.length_append]
        obtain ⟨M2, hM2⟩ : ∃ L, M1 ++ T2 = L := ⟨_, rfl⟩
        have hadd1 := fun W => add_text W M0 T1 (by omega)
        have hadd2 := fun W => add_text W M1 T2 (by omega)
        rw [hM1] at hadd1
        rw [hM2] at hadd2
        have HE : Hid (CB = M2) := by
          unfold Hid
          rw [hcb.out, ← hM2, ← hM1, ← hM0, ← HL0.out]
          simp
        rw [hM0]
        clear hM0 hM1 hM2
        go_wp2_with fail
        obtain ⟨W9, hW0⟩ : ∃ x, wr.drew = x := ⟨_, rfl⟩
        have hS0 : ComAt W9 w.heap.size c (.slice A c.is.length cc) := by rw [← hW0]; exact hcm.out
        have HBD : Hid (Below w.heap.size w W9) := by rw [← hW0]; exact hbl.out.drew
        have hs9 : w.heap.size < W9.heap.size := by rw [← hW0]; simpa using hsr
        clear hcm hbl hsr
        refine region_begin hW0 (S := fun W => ComAt W w.heap.size c (.slice A c.is.length cc)) (by kernel_rfl) hS0 (fun hHeld => ?_)
        clear hW0 hS0
        refine take_at (i := 0) (.string ⟨M0.toArray⟩) (some 28) (by decide) (by rfl) (by kernel_rfl) (by kernel_rfl) (by kernel_rfl) (fun _ _ _ h => h) (by rfl) (fun W hW => by go_simp) (by assumption) ?_
        try simp only [Act.put, List.setIfInBounds_toArray, List.set_cons_zero, List.set_cons_succ]
        refine take_at (i := 1) (.pointer (some ⟨w.heap.size, 34, none⟩)) (some 29) (by decide) (by rfl) (by kernel_rfl) (by kernel_rfl) (by kernel_rfl) (fun _ _ _ h => h) (by rfl) (fun W hW => by go_simp) (by assumption) ?_
        try simp only [Act.put, List.setIfInBounds_toArray, List.set_cons_zero, List.set_cons_succ]
        refine take_at (i := 2) (.string ⟨c.note.toArray⟩) (some 30) (by decide) (by rfl) (by kernel_rfl) (by kernel_rfl) (by kernel_rfl) (fun _ _ _ h => h) (by rfl) (fun W hW => by have := hW.note; go_simp) (by assumption) ?_
        try simp only [Act.put, List.setIfInBounds_toArray, List.set_cons_zero, List.set_cons_succ]
        refine take_at (i := 5) (.pointer (some ⟨w.heap.size, 35, none⟩)) (some 33) (by decide) (by rfl) (by kernel_rfl) (by kernel_rfl) (by kernel_rfl) (fun _ _ _ h => h) (by rfl) (fun W hW => by go_simp) (by assumption) ?_
        try simp only [Act.put, List.setIfInBounds_toArray, List.set_cons_zero, List.set_cons_succ]
        refine take_at (i := 6) (.int .i64 c.num) (some 34) (by decide) (by rfl) (by kernel_rfl) (by kernel_rfl) (by kernel_rfl) (fun _ _ _ h => h) (by rfl) (fun W hW => by have := hW.num; go_simp) (by assumption) ?_
        try simp only [Act.put, List.setIfInBounds_toArray, List.set_cons_zero, List.set_cons_succ]
        refine wpAnyH_ready (rs := [3]) (by kernel_rfl) (by simp) (AllReadyH.cons (Array.getElem?_eq_getElem (i := 3) (by decide)) (fun K9 hK => ?_) AllReadyH.nil)
        go_simp
        refine (HX1.out _).mono ?_
        rintro e wa ⟨rfl, hba⟩
        have HBa := Lib.hid (HBD.out.trans (hba.mono (by omega)))
        have hsa := hba.size
        refine hK.out _ _ (hHeld.below hba (by omega)) (fun hHeld => ?_)
        clear hK K9
        try simp only [Act.put, List.setIfInBounds_toArray, List.set_cons_zero, List.set_cons_succ]
        clear hba
        refine take_at (i := 4) (.string ⟨M1.toArray⟩) (some 32) (by decide) (by rfl) (by kernel_rfl) (by kernel_rfl) (by kernel_rfl) (fun _ _ _ h => h) (by rfl) (fun W hW => by go_simp) (by assumption) ?_
        try simp only [Act.put, List.setIfInBounds_toArray, List.set_cons_zero, List.set_cons_succ]
        refine wpAnyH_ready (rs := [7]) (by kernel_rfl) (by simp) (AllReadyH.cons (Array.getElem?_eq_getElem (i := 7) (by decide)) (fun K9 hK => ?_) AllReadyH.nil)
        go_simp
        refine (HX2.out _).mono ?_
        rintro e wb ⟨rfl, hbb⟩
        have HBb := Lib.hid (HBa.out.trans (hbb.mono (by omega)))
        refine hK.out _ _ (hHeld.below hbb (by omega)) (fun hHeld => ?_)
        clear hK K9
        try simp only [Act.put, List.setIfInBounds_toArray, List.set_cons_zero, List.set_cons_succ]
        clear hbb
        refine take_at (i := 8) (.string ⟨M2.toArray⟩) (some 36) (by decide) (by rfl) (by kernel_rfl) (by kernel_rfl) (by kernel_rfl) (fun _ _ _ h => h) (by rfl) (fun W hW => by go_simp) (by assumption) ?_
        try simp only [Act.put, List.setIfInBounds_toArray, List.set_cons_zero, List.set_cons_succ]
        refine take_at (i := 9) (.string ⟨M2.toArray⟩) (some 2) (by decide) (by rfl) (by kernel_rfl) (by kernel_rfl) (by kernel_rfl) (fun _ _ _ h => h) (by rfl) (fun W hW => by go_simp) (by assumption) ?_
        try simp only [Act.put, List.setIfInBounds_toArray, List.set_cons_zero, List.set_cons_succ]
        refine wpAnyH_done (by kernel_rfl) ?_ _
        try simp only [Act.put, List.setIfInBounds_toArray, List.set_cons_zero, List.set_cons_succ]
        go_wp2_with fail
        go_ret
        exact ⟨by rw [HE.out]; rfl, HBb.out⟩

end Go.Proofs.Ytabogconbjdcgaa.Cd
