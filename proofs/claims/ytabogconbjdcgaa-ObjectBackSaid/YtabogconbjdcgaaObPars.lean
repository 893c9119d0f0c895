/-
  object.goodParents. Conditions: none.
-/
import Derived.Test.YtabogconbjdcgaaObKids
namespace Go.Proofs.Ytabogconbjdcgaa.Cd
open Go.RowKit

theorem IsIn.range {w : World} {B : Nat} {l : List Idn} {A : Option Addr} {m c : Nat} (h : IsIn w B (.slice A m c) l) {k : Nat} {p : Idn} (hk : l[k]? = some p) :
    ∃ b off, A = some ⟨b, off, none⟩ ∧ b < B ∧ w.rangeAt b (off + k * 33) (vb p.1) := RwIn.at h hk
theorem idAt_kind {w : World} {b : Nat} {x : Idn} (h : IdAt w b x.1) : w.cell? ⟨b, 0, none⟩ = some (.int .u8 (kd x).toNat) :=
  (cell_of_row _ _ _ _ _ _ h).trans (by rw [List.getElem?_toArray]; exact vb_kd x)

set_option maxRecDepth 100000 in
set_option maxHeartbeats 3200000 in
theorem goodis_any (v : Value) (l : List Idn) (c0 : UInt8) (w : World) (h : IsIn w w.heap.size v l) : Calls Try.prog 46 #[v, .int .u8 c0.toNat] w (Says (GoodIs c0 l) w) := by
  obtain ⟨A, c, rfl, hm1, hm2⟩ := h.len
  have H := Lib.hid h
  clear h
  by_cases hbig : 2 < l.length
  · have hno : Hid (¬ GoodIs c0 l) := fun h => by have := h.few; omega
    have hbig' : (2 : Int) < l.length := by omega
    clear hbig
    go_enter Try.func46, Try.ntmps46
    go_wp2_with fail
    go_ret
    exact ⟨false, rfl, ⟨(fun h => by cases h), fun h => absurd h hno.out⟩, Below.refl _ _⟩
  have hb2 : ¬ (2 : Int) < l.length := by omega
  go_enter Try.func46, Try.ntmps46
  go_wp2_with fail
  go_loopw [12] (fun i wr => ∃ k : Nat, i = .int .i64 k ∧ k ≤ l.length ∧ Hid (∀ (j : Nat) p, j < k → l[j]? = some p → goodI p.1 = true ∧ kd p = c0) ∧ Hid (1 < k → ∀ a b, l[0]? = some a → l[1]? = some b → a ≠ b) ∧ Hid (Below w.heap.size w wr)) (fun i _ => l.length - (intOf i).toNat)
  case atStart => exact ⟨0, rfl, by omega, fun j _ h => by omega, fun h => by omega, Below.refl _ _⟩
  case round =>
    obtain ⟨k, rfl, hk, hp, hq, hbl⟩ := hrel
    by_cases hlt : k < l.length
    · obtain ⟨x, hxk⟩ : ∃ x, l[k]? = some x := ⟨l[k], List.getElem?_eq_getElem hlt⟩
      obtain ⟨b2, off2, e2, hB2, rx⟩ := IsIn.range (H.out.below hbl.out) hxk
      subst e2
      have HX := Lib.hid hxk
      have RX := Lib.hid rx
      clear hxk rx
      have HI : Hid (IdAt (wr.alloc (.cells (vb x.1).toArray 41)) wr.heap.size x.1) := IdAt.new _ _
      have hz1 : (wr.alloc (.cells (vb x.1).toArray 41)).heap.size = wr.heap.size + 1 := asz _ _
      have HB1 : Hid (Below w.heap.size w (wr.alloc (.cells (vb x.1).toArray 41))) := hbl.out.alloc hbl.out.size _
      have hzr := hbl.out.size
      have hx33 : Hid (x.1.length = 33) := x.2
      go_wp2_with (first
        | (refine wpList_load_mid rfl 41 _ rfl b2 (off2 + k * 33) rfl (vb x.1) _ RX.out Try.underlying41 rfl (cells_ii x) ?_)
        | (refine wp_alloc_row zero_id rfl rfl ?_)
        | (refine wp_fill_id rfl _ _ rfl rfl (by simp [Act.eval, Act.put]) x.1 hx33.out rfl ?_)
        | (refine wp_load_id rfl _ rfl wr.heap.size rfl x.1 hx33.out HI.out ?_))
      generalize wr.alloc (.cells (vb x.1).toArray 41) = W1 at *
      have hgood := good_l x.1 W1 hx33.out
      have hidx := idAt_kind HI.out
      cases hg : goodI x.1
      · have hno : Hid (¬ GoodIs c0 l) := fun h => by have := h.name _ (List.mem_of_getElem? HX.out); rw [hg] at this; cases this
        rw [hg] at hgood
        clear hg
        refine hgood.mono ?_
        rintro e w2 ⟨rfl, hb3⟩
        have HB2 := Lib.hid (HB1.out.trans (hb3.mono (by omega)))
        clear hb3
        go_wp2_with fail
        go_ret
        exact ⟨false, rfl, ⟨(fun h => by cases h), fun h => absurd h hno.out⟩, HB2.out⟩
      · have HG := Lib.hid hg
        rw [hg] at hgood
        clear hg
        refine hgood.mono ?_
        rintro e w2 ⟨rfl, hb3⟩
        have HB2 := Lib.hid (HB1.out.trans (hb3.mono (by omega)))
        have HI2 := Lib.hid (HI.out.below hb3 (by omega))
        have hs2 := hb3.size
        clear hb3 hidx
        have hidx := idAt_kind HI2.out
        by_cases hkk : kd x = c0
        · have hp2 : Hid (∀ (j : Nat) p, j < k + 1 → l[j]? = some p → goodI p.1 = true ∧ kd p = c0) := fun j p hj hjp => by
            by_cases e : j = k
            · subst e
              rw [HX.out] at hjp
              injection hjp with hjp
              subst hjp
              exact ⟨HG.out, hkk⟩
            · exact hp.out j p (by omega) hjp
          have hnq : (((kd x).toNat : Int) != (c0.toNat : Int)) = false := by rw [hkk]; simp
          clear hkk
          go_wp2_with fail
          by_cases h0 : 0 < k
          · obtain ⟨j, rfl⟩ : ∃ j, k = j + 1 := ⟨k - 1, by omega⟩
            obtain ⟨y, hyk⟩ : ∃ y, l[j]? = some y := ⟨l[j], List.getElem?_eq_getElem (by omega)⟩
            obtain ⟨b3, off3, e3, hB3, ry⟩ := IsIn.range (H.out.below HB2.out) hyk
            injection e3 with e3
            injection e3 with e3 e4
            subst e3 e4
            have HY := Lib.hid hyk
            clear hyk
            have hj0 : Hid (j = 0) := by show j = 0; omega
            have hjl : (j : Int) < l.length := by omega
            have hwj : IntKind.i64.wrap (j : Int) = (j : Int) := IntWalk.i64_in _ (by omega)
            have HLE : Hid (¬ 2 < l.length) := hbig
            clear hbig hb2
            have hgd : decide ((0 : Int) < (j : Int) + 1) = true := decide_eq_true (by omega)
            have heg := fun p q W => eqGuard_id .eql p q y.1 x.1 W
            have heq := fun W => eql_id y.1 x.1 y.2 hx33.out W
            obtain ⟨W0, hW0⟩ : ∃ x, w2.drew = x := ⟨_, rfl⟩
            have hS0 : IdAt W0 wr.heap.size x.1 ∧ W0.rangeAt b2 (off2 + j * 33) (vb y.1) := by
              rw [← hW0]
              exact ⟨HI2.out, ry⟩
            have HBD : Hid (Below w.heap.size w W0) := by rw [← hW0]; exact HB2.out.drew
            clear HB2 HB1 hz1 HI HI2 hidx
            cases hs : (y.1 == x.1)
            · have hq2 : Hid (1 < j + 1 + 1 → ∀ a b, l[0]? = some a → l[1]? = some b → a ≠ b) := fun _ a b ha hb e => by
                obtain rfl : j = 0 := hj0.out
                rw [HY.out] at ha
                rw [HX.out] at hb
                injection ha with ha
                injection hb with hb
                subst ha hb e
                simp at hs
              rw [hs] at heq
              refine region_begin hW0 (S := fun W => IdAt W wr.heap.size x.1 ∧ W.rangeAt b2 (off2 + j * 33) (vb y.1)) (by kernel_rfl) hS0 (fun hHeld => ?_)
              clear hW0 hS0 hs
              refine take_at (i := 0) (.int .i64 ((j : Int) + 1)) (some 26) (by decide) (by rfl) (by kernel_rfl) (by kernel_rfl) (by kernel_rfl) (fun _ _ _ h => h) (by rfl) (fun W hW => by go_simp) (by assumption) ?_
              try simp only [Act.put, List.setIfInBounds_toArray, List.set_cons_zero, List.set_cons_succ]
              refine take_at (i := 1) (.bool true) (some 27) (by decide) (by rfl) (by kernel_rfl) (by kernel_rfl) (by kernel_rfl) (fun _ _ _ h => h) (by rfl) (fun W hW => by go_simp) (by assumption) ?_
              try simp only [Act.put, List.setIfInBounds_toArray, List.set_cons_zero, List.set_cons_succ]
              refine take_at (i := 2) (.bool true) (some 28) (by decide) (by rfl) (by kernel_rfl) (by kernel_rfl) (by kernel_rfl) (fun _ _ _ h => h) (by rfl) (fun W hW => by go_simp) (by assumption) ?_
              try simp only [Act.put, List.setIfInBounds_toArray, List.set_cons_zero, List.set_cons_succ]
              refine take_at (i := 3) (.slice (some ⟨b2, off2, none⟩) l.length c) (some 29) (by decide) (by rfl) (by kernel_rfl) (by kernel_rfl) (by kernel_rfl) (fun _ _ _ h => h) (by rfl) (fun W hW => by go_simp) (by assumption) ?_
              try simp only [Act.put, List.setIfInBounds_toArray, List.set_cons_zero, List.set_cons_succ]
              refine take_at (i := 4) (.int .i64 ((j : Int) + 1)) (some 30) (by decide) (by rfl) (by kernel_rfl) (by kernel_rfl) (by kernel_rfl) (fun _ _ _ h => h) (by rfl) (fun W hW => by go_simp) (by assumption) ?_
              try simp only [Act.put, List.setIfInBounds_toArray, List.set_cons_zero, List.set_cons_succ]
              refine take_at (i := 5) (.int .i64 (j : Int)) (some 31) (by decide) (by rfl) (by kernel_rfl) (by kernel_rfl) (by kernel_rfl) (fun _ _ _ h => h) (by rfl) (fun W hW => by go_simp) (by assumption) ?_
              try simp only [Act.put, List.setIfInBounds_toArray, List.set_cons_zero, List.set_cons_succ]
              refine take_at (i := 6) (.pointer (some ⟨b2, off2 + j * 33, none⟩)) (some 32) (by decide) (by rfl) (by kernel_rfl) (by kernel_rfl) (by kernel_rfl) (fun _ _ _ h => h) (by rfl) (fun W hW => by go_simp) (by assumption) ?_
              try simp only [Act.put, List.setIfInBounds_toArray, List.set_cons_zero, List.set_cons_succ]
              refine take_at (i := 7) (idV y.1) (some 33) (by decide) (by rfl) (by kernel_rfl) (by kernel_rfl) (by kernel_rfl) (fun _ _ _ h => h) (by rfl) (fun W hW => by exact exec_load_mid _ _ rfl b2 (off2 + j * 33) rfl (vb y.1) _ hW.2 Try.underlying41 rfl (cells_ii y)) (by assumption) ?_
              try simp only [Act.put, List.setIfInBounds_toArray, List.set_cons_zero, List.set_cons_succ]
              refine take_at (i := 8) (idV x.1) (some 34) (by decide) (by rfl) (by kernel_rfl) (by kernel_rfl) (by kernel_rfl) (fun _ _ _ h => h) (by rfl) (fun W hW => by exact exec_load_id hW.1 hx33.out _ rfl rfl) (by assumption) ?_
              try simp only [Act.put, List.setIfInBounds_toArray, List.set_cons_zero, List.set_cons_succ]
              refine take_at (i := 9) (.bool false) (some 35) (by decide) (by rfl) (by kernel_rfl) (by kernel_rfl) (by kernel_rfl) (fun _ _ _ h => h) (by rfl) (fun W hW => by go_simp) (by assumption) ?_
              try simp only [Act.put, List.setIfInBounds_toArray, List.set_cons_zero, List.set_cons_succ]
              refine take_at (i := 10) (.bool false) (some 36) (by decide) (by rfl) (by kernel_rfl) (by kernel_rfl) (by kernel_rfl) (fun _ _ _ h => h) (by rfl) (fun W hW => by go_simp) (by assumption) ?_
              try simp only [Act.put, List.setIfInBounds_toArray, List.set_cons_zero, List.set_cons_succ]
              refine wpAnyH_done (by kernel_rfl) ?_ _
              try simp only [Act.put, List.setIfInBounds_toArray, List.set_cons_zero, List.set_cons_succ]
              go_wp2_with fail
              go_roundw
              case rel => exact ⟨j + 1 + 1, by go_num, by omega, hp2, hq2, HBD.out⟩
              case measure => simp [intOf]; omega
            · have hno : Hid (¬ GoodIs c0 l) := fun h => by
                have hxy : y.1 = x.1 := by simpa using hs
                obtain rfl : j = 0 := hj0.out
                exact h.two y x HY.out HX.out (Subtype.ext hxy)
              rw [hs] at heq
              refine region_begin hW0 (S := fun W => IdAt W wr.heap.size x.1 ∧ W.rangeAt b2 (off2 + j * 33) (vb y.1)) (by kernel_rfl) hS0 (fun hHeld => ?_)
              clear hW0 hS0 hs
              refine take_at (i := 0) (.int .i64 ((j : Int) + 1)) (some 26) (by decide) (by rfl) (by kernel_rfl) (by kernel_rfl) (by kernel_rfl) (fun _ _ _ h => h) (by rfl) (fun W hW => by go_simp) (by assumption) ?_
              try simp only [Act.put, List.setIfInBounds_toArray, List.set_cons_zero, List.set_cons_succ]
              refine take_at (i := 1) (.bool true) (some 27) (by decide) (by rfl) (by kernel_rfl) (by kernel_rfl) (by kernel_rfl) (fun _ _ _ h => h) (by rfl) (fun W hW => by go_simp) (by assumption) ?_
              try simp only [Act.put, List.setIfInBounds_toArray, List.set_cons_zero, List.set_cons_succ]
              refine take_at (i := 2) (.bool true) (some 28) (by decide) (by rfl) (by kernel_rfl) (by kernel_rfl) (by kernel_rfl) (fun _ _ _ h => h) (by rfl) (fun W hW => by go_simp) (by assumption) ?_
              try simp only [Act.put, List.setIfInBounds_toArray, List.set_cons_zero, List.set_cons_succ]
              refine take_at (i := 3) (.slice (some ⟨b2, off2, none⟩) l.length c) (some 29) (by decide) (by rfl) (by kernel_rfl) (by kernel_rfl) (by kernel_rfl) (fun _ _ _ h => h) (by rfl) (fun W hW => by go_simp) (by assumption) ?_
              try simp only [Act.put, List.setIfInBounds_toArray, List.set_cons_zero, List.set_cons_succ]
              refine take_at (i := 4) (.int .i64 ((j : Int) + 1)) (some 30) (by decide) (by rfl) (by kernel_rfl) (by kernel_rfl) (by kernel_rfl) (fun _ _ _ h => h) (by rfl) (fun W hW => by go_simp) (by assumption) ?_
              try simp only [Act.put, List.setIfInBounds_toArray, List.set_cons_zero, List.set_cons_succ]
              refine take_at (i := 5) (.int .i64 (j : Int)) (some 31) (by decide) (by rfl) (by kernel_rfl) (by kernel_rfl) (by kernel_rfl) (fun _ _ _ h => h) (by rfl) (fun W hW => by go_simp) (by assumption) ?_
              try simp only [Act.put, List.setIfInBounds_toArray, List.set_cons_zero, List.set_cons_succ]
              refine take_at (i := 6) (.pointer (some ⟨b2, off2 + j * 33, none⟩)) (some 32) (by decide) (by rfl) (by kernel_rfl) (by kernel_rfl) (by kernel_rfl) (fun _ _ _ h => h) (by rfl) (fun W hW => by go_simp) (by assumption) ?_
              try simp only [Act.put, List.setIfInBounds_toArray, List.set_cons_zero, List.set_cons_succ]
              refine take_at (i := 7) (idV y.1) (some 33) (by decide) (by rfl) (by kernel_rfl) (by kernel_rfl) (by kernel_rfl) (fun _ _ _ h => h) (by rfl) (fun W hW => by exact exec_load_mid _ _ rfl b2 (off2 + j * 33) rfl (vb y.1) _ hW.2 Try.underlying41 rfl (cells_ii y)) (by assumption) ?_
              try simp only [Act.put, List.setIfInBounds_toArray, List.set_cons_zero, List.set_cons_succ]
              refine take_at (i := 8) (idV x.1) (some 34) (by decide) (by rfl) (by kernel_rfl) (by kernel_rfl) (by kernel_rfl) (fun _ _ _ h => h) (by rfl) (fun W hW => by exact exec_load_id hW.1 hx33.out _ rfl rfl) (by assumption) ?_
              try simp only [Act.put, List.setIfInBounds_toArray, List.set_cons_zero, List.set_cons_succ]
              refine take_at (i := 9) (.bool true) (some 35) (by decide) (by rfl) (by kernel_rfl) (by kernel_rfl) (by kernel_rfl) (fun _ _ _ h => h) (by rfl) (fun W hW => by go_simp) (by assumption) ?_
              try simp only [Act.put, List.setIfInBounds_toArray, List.set_cons_zero, List.set_cons_succ]
              refine take_at (i := 10) (.bool true) (some 36) (by decide) (by rfl) (by kernel_rfl) (by kernel_rfl) (by kernel_rfl) (fun _ _ _ h => h) (by rfl) (fun W hW => by go_simp) (by assumption) ?_
              try simp only [Act.put, List.setIfInBounds_toArray, List.set_cons_zero, List.set_cons_succ]
              refine wpAnyH_done (by kernel_rfl) ?_ _
              try simp only [Act.put, List.setIfInBounds_toArray, List.set_cons_zero, List.set_cons_succ]
              go_wp2_with fail
              go_ret
              exact ⟨false, rfl, ⟨(fun h => by cases h), fun h => absurd h hno.out⟩, HBD.out⟩
          · obtain rfl : k = 0 := by omega
            have hgd : decide ((0 : Int) < ((0 : Nat) : Int)) = false := rfl
            have hq2 : Hid (1 < 0 + 1 → ∀ a b, l[0]? = some a → l[1]? = some b → a ≠ b) := fun h => by omega
            go_quiet (fail)
            go_wp2_with fail
            go_roundw
            case rel => exact ⟨0 + 1, by go_num, by omega, hp2, hq2, below_drewN HB2.out _⟩
            case measure => simp [intOf]; omega
        · have hno : Hid (¬ GoodIs c0 l) := fun h => hkk (h.kind _ (List.mem_of_getElem? HX.out))
          have hnq : (((kd x).toNat : Int) != (c0.toNat : Int)) = true := by
            rw [bne_iff_ne]
            exact fun e => hkk (UInt8.toNat_inj.1 (by omega))
          clear hkk
          go_wp2_with fail
          go_ret
          exact ⟨false, rfl, ⟨(fun h => by cases h), fun h => absurd h hno.out⟩, HB2.out⟩
    · have hyes : Hid (GoodIs c0 l) := ⟨by omega, fun p hpl => by
        obtain ⟨j, hj, rfl⟩ := List.getElem_of_mem hpl
        exact (hp.out j _ (by omega) (List.getElem?_eq_getElem hj)).1, fun p hpl => by
        obtain ⟨j, hj, rfl⟩ := List.getElem_of_mem hpl
        exact (hp.out j _ (by omega) (List.getElem?_eq_getElem hj)).2, fun a b ha hb => hq.out (by have := (List.getElem?_eq_some_iff.1 hb).1; omega) a b ha hb⟩
      clear hp hq
      go_wp2_with fail
      go_ret
      exact ⟨true, rfl, ⟨fun _ => hyes.out, fun _ => rfl⟩, hbl.out⟩

end Go.Proofs.Ytabogconbjdcgaa.Cd
