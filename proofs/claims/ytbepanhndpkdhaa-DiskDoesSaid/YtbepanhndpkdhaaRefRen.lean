/-
  The reference's disk: Rename. Conditions: none.
-/
import Derived.Test.YtbepanhndpkdhaaRefLose
import Derived.Test.YtbepanhndpkdhaaRefA
namespace Go.Proofs.Ytbepanhndpkdhaa.Cd
open Go.RowKit

theorem ownW_stored {w : World} {B g cap : Nat} {l : List Wrt} (h : OwnW w B (.slice (some ⟨g, 0, none⟩) l.length cap) l) (k : Nat) (hk : k < l.length) (b : List UInt8) :
    OwnW (w.setCell ⟨g, k * 3, none⟩ (.string ⟨b.toArray⟩)) B (.slice (some ⟨g, 0, none⟩) l.length cap) (l.set k ⟨b, (l[k]).page, (l[k]).data⟩) := by
  have h2 := (World.ownsRow.stored h (k * 3) (.string ⟨b.toArray⟩)).1
  unfold OwnW
  rw [List.length_set, wc_set l k b hk]
  exact h2
theorem ownW_open {w : World} {B : Nat} {v : Value} {l : List Wrt} (h : OwnW w B v l) (h0 : 0 < l.length) :
    ∃ g cap cur, v = .slice (some ⟨g, 0, none⟩) l.length cap ∧ B ≤ g ∧ g < w.heap.size ∧ w.heap[g]? = some (.cells cur 100 (0, 0)) := by
  have hlt := World.ownsRow.lt h
  rcases h.2 with ⟨_, h1⟩ | ⟨g, cap, cur, rfl, hb, hh, hn, hm, _, _⟩
  · omega
  · exact ⟨g, cap, cur, rfl, hb, (hlt g rfl).2, hh⟩

theorem new_lower (w : World) (o : Obj) : Below w.heap.size w (w.alloc o) := (Below.refl _ _).alloc (Nat.le_refl _) _
theorem name_row {w : World} {g : Nat} {x y z : Value} (h : w.heap[g]? = some (.cells #[x, y] 41 (0, 0))) : (w.setCell ⟨g, 0, none⟩ z).heap[g]? = some (.cells #[z, y] 41 (0, 0)) := by
  simp [World.setCell, Array.getElem?_modify, h]

set_option maxRecDepth 100000 in
set_option maxHeartbeats 4000000 in
theorem rren_any (g : Nat) (T : Nat → Prop) (D : Dsk) (a b : List UInt8) (w : World) (h : RefR w g T D) (bd : Bd D) :
    Calls Try.prog 37 #[.pointer (some ⟨g, 0, none⟩), .string ⟨a.toArray⟩, .string ⟨b.toArray⟩] w (MakesR g T (renameD D a b).1 (.int .i64 ((renameD D a b).2 : Nat)) w) := by
  have KM := Lib.hid (rmay_any g T D a w h bd)
  have HR := Lib.hid h
  have hbd := Lib.hid (@mayD_ok D a)
  clear h
  have HRM : Hid (renameD D a b = if (mayD D a).2 = 0 ∧ a ≠ b then (renames (mayD D a).1 a b, 0) else mayD D a) := rfl
  generalize mayD D a = R at *
  go_enter Try.func37, Try.ntmps37
  go_wp2_with fail
  refine KM.out.mono ?_
  rintro e w1 ⟨rfl, hr1, ha1⟩
  by_cases hdo : R.2 = 0 ∧ a ≠ b
  · obtain ⟨h0, hne⟩ := hdo
    have hq : ((R.2 : Int) != 0) = false := by rw [h0]; rfl
    have hqn : (a == b) = false := beq_eq_false_iff_ne.2 hne
    have HE : Hid (renameD D a b = (renames (actD D) a b, 0)) := by unfold Hid; rw [HRM.out, if_pos ⟨h0, hne⟩, hbd.out h0]
    obtain ⟨vn, vs, vw, h1⟩ := hr1
    rw [hbd.out h0] at h1
    have H0 := Lib.hid h0
    clear h0 hne
    obtain ⟨A, c, rfl, hlc, hm'⟩ := h1.now.len
    obtain ⟨As, cs, rfl, hls, hms⟩ := h1.safe.len
    have c01 : w1.cell? ⟨g, 0, none⟩ = some (.slice A D.now.length c) := cell_of_row _ _ _ _ _ _ h1.row
    have KG1 : Hid (Calls Try.prog 58 #[.slice A D.now.length c, .string ⟨a.toArray⟩] w1 (GetIs (since T w w1) D.now a w1)) := get_any _ _ D.now a w1 h1.lt h1.now (by have := bd.now; omega)
    have S1 : Hid (St g T (actD D) _ _ vw w w1) := ⟨h1, ha1⟩
    clear ha1 h1 KM
    go_wp2_with fail
    refine KG1.out.mono ?_
    rintro e wa ⟨hba, ya, rfl, hya⟩
    obtain ⟨Aa, ca, rfl, hca, hma⟩ := hya.len
    have hsz1 := S1.out.2.size
    have B2 : Hid (Below w1.heap.size w1 (wa.alloc (.cells #[.string ⟨a.toArray⟩, .slice Aa (pagesF D.now a).length ca] 41))) := hba.alloc hba.size _
    have R2 : Hid ((wa.alloc (.cells #[.string ⟨a.toArray⟩, .slice Aa (pagesF D.now a).length ca] 41)).heap[wa.heap.size]? = some (.cells #[.string ⟨a.toArray⟩, .slice Aa (pagesF D.now a).length ca] 41)) := heap_alloc_new _ _
    have Y2 : Hid (StrsT (since T w w1) (wa.alloc (.cells #[.string ⟨a.toArray⟩, .slice Aa (pagesF D.now a).length ca] 41)) (.slice Aa (pagesF D.now a).length ca) (pagesF D.now a)) := hya.below (B := wa.heap.size) (fun j hj => by have := S1.out.1.lt j hj; have := hba.size; omega) ((Below.refl _ _).alloc (Nat.le_refl _) _)
    have hfa : w1.heap.size ≤ wa.heap.size := hba.size
    clear KG1 hba hya c01
    have S2 := Lib.hid (S1.out.below B2.out)
    have c12 : (wa.alloc (.cells #[.string ⟨a.toArray⟩, .slice Aa (pagesF D.now a).length ca] 41)).cell? ⟨g, 1, none⟩ = some (.slice As D.safe.length cs) := cell_of_row _ _ _ _ _ _ S2.out.1.row
    have KG2 : Hid (Calls Try.prog 58 #[.slice As D.safe.length cs, .string ⟨a.toArray⟩] (wa.alloc (.cells #[.string ⟨a.toArray⟩, .slice Aa (pagesF D.now a).length ca] 41)) (GetIs (since T w w1) D.safe a _)) :=
      get_any _ (.slice As D.safe.length cs) D.safe a _ (fun j hj => by have := S1.out.1.lt j hj; have := B2.out.size; omega) (S1.out.1.safe.below S1.out.1.lt B2.out) (by have := bd.safe; omega)
    go_wp2_with fail
    generalize wa.heap.size = fa at *
    generalize wa.alloc (.cells #[.string ⟨a.toArray⟩, .slice Aa (pagesF D.now a).length ca] 41) = W2 at *
    refine KG2.out.mono ?_
    rintro e wb ⟨hbb, yb, rfl, hyb⟩
    obtain ⟨Ab, cb, rfl, hcb, hmb⟩ := hyb.len
    have hfb : W2.heap.size ≤ wb.heap.size := hbb.size
    have hlt2 := (Array.getElem?_eq_some_iff.1 R2.out).1
    have R23 : Hid (wb.heap[fa]? = some (.cells #[.string ⟨a.toArray⟩, .slice Aa (pagesF D.now a).length ca] 41)) := (hbb.block _ hlt2).trans R2.out
    have ef0 : wb.cell? ⟨fa, 0, none⟩ = some (.string ⟨a.toArray⟩) := cell_of_row _ _ _ _ _ _ R23.out
    have ff0 : wb.frozen? ⟨fa, 0, none⟩ = false := by simp [World.frozen?, R23.out]
    have hfe : fa ≠ wb.heap.size := by omega
    have Ra : Hid ((wb.alloc (.cells #[.string ⟨a.toArray⟩, .slice Ab (pagesF D.safe a).length cb] 41)).heap[fa]? = some (.cells #[.string ⟨a.toArray⟩, .slice Aa (pagesF D.now a).length ca] 41)) := ((new_lower wb _).block fa (by omega)).trans R23.out
    have Rb : Hid ((wb.alloc (.cells #[.string ⟨a.toArray⟩, .slice Ab (pagesF D.safe a).length cb] 41)).heap[wb.heap.size]? = some (.cells #[.string ⟨a.toArray⟩, .slice Ab (pagesF D.safe a).length cb] 41)) := heap_alloc_new _ _
    have R4a := Lib.hid (name_row (z := .string ⟨b.toArray⟩) Ra.out)
    have R4b : Hid (((wb.alloc (.cells #[.string ⟨a.toArray⟩, .slice Ab (pagesF D.safe a).length cb] 41)).setCell ⟨fa, 0, none⟩ (.string ⟨b.toArray⟩)).heap[wb.heap.size]? = some (.cells #[.string ⟨a.toArray⟩, .slice Ab (pagesF D.safe a).length cb] 41)) := (heap_setCell_other _ _ _ _ (by show wb.heap.size ≠ fa; omega)).trans Rb.out
    have eb0 : ((wb.alloc (.cells #[.string ⟨a.toArray⟩, .slice Ab (pagesF D.safe a).length cb] 41)).setCell ⟨fa, 0, none⟩ (.string ⟨b.toArray⟩)).cell? ⟨wb.heap.size, 0, none⟩ = some (.string ⟨a.toArray⟩) := cell_of_row _ _ _ _ _ _ R4b.out
    have fb0 : ((wb.alloc (.cells #[.string ⟨a.toArray⟩, .slice Ab (pagesF D.safe a).length cb] 41)).setCell ⟨fa, 0, none⟩ (.string ⟨b.toArray⟩)).frozen? ⟨wb.heap.size, 0, none⟩ = false := by simp only [World.frozen?, R4b.out]; rfl
    have R5b := Lib.hid (name_row (z := .string ⟨b.toArray⟩) R4b.out)
    have R5a : Hid ((((wb.alloc (.cells #[.string ⟨a.toArray⟩, .slice Ab (pagesF D.safe a).length cb] 41)).setCell ⟨fa, 0, none⟩ (.string ⟨b.toArray⟩)).setCell ⟨wb.heap.size, 0, none⟩ (.string ⟨b.toArray⟩)).heap[fa]? = some (.cells #[.string ⟨b.toArray⟩, .slice Aa (pagesF D.now a).length ca] 41)) := (heap_setCell_other _ _ _ _ (by show fa ≠ wb.heap.size; omega)).trans R4a.out
    have hltT : ∀ j, since T w w1 j → j < w1.heap.size := S1.out.1.lt
    have Bb5 : Below w1.heap.size wb (((wb.alloc (.cells #[.string ⟨a.toArray⟩, .slice Ab (pagesF D.safe a).length cb] 41)).setCell ⟨fa, 0, none⟩ (.string ⟨b.toArray⟩)).setCell ⟨wb.heap.size, 0, none⟩ (.string ⟨b.toArray⟩)) := (((Below.refl _ _).alloc (by have := B2.out.size; omega) _).setCell (p := ⟨fa, 0, none⟩) hfa _).setCell (p := ⟨wb.heap.size, 0, none⟩) (by show w1.heap.size ≤ wb.heap.size; have := B2.out.size; omega) _
    have B1b : Below w1.heap.size w1 wb := B2.out.trans (hbb.mono B2.out.size)
    have Y5a := Lib.hid (((Y2.out.below (B := W2.heap.size) (fun j hj => by have := hltT j hj; have := B2.out.size; omega) hbb)).below hltT Bb5)
    have Y5b := Lib.hid (hyb.below hltT Bb5)
    have B15 := Lib.hid (B1b.trans Bb5)
    have C5 := Lib.hid (S1.out.1.below B15.out)
    clear Ra Rb R4a R4b R23 Y2 R2 Bb5 B1b B2 S2 KG2 hbb hyb c12
    have KD : Hid (Calls Try.prog 63 #[.pointer (some ⟨g, 0, none⟩), .string ⟨b.toArray⟩, .int .i64 0] (((wb.alloc (.cells #[.string ⟨a.toArray⟩, .slice Ab (pagesF D.safe a).length cb] 41)).setCell ⟨fa, 0, none⟩ (.string ⟨b.toArray⟩)).setCell ⟨wb.heap.size, 0, none⟩ (.string ⟨b.toArray⟩)) (DropIs (((wb.alloc (.cells #[.string ⟨a.toArray⟩, .slice Ab (pagesF D.safe a).length cb] 41)).setCell ⟨fa, 0, none⟩ (.string ⟨b.toArray⟩)).setCell ⟨wb.heap.size, 0, none⟩ (.string ⟨b.toArray⟩)) g { actD D with waits := dropW (actD D).waits b 0 } (.slice A D.now.length c) (.slice As D.safe.length cs))) := (rdrop_own g _ (actD D) _ _ _ b 0 _ C5.out (by have := bd.waits; show D.waits.length ≤ _; omega) (fun x hx => by have := bd.page x hx; omega) (by omega))
    have ef1 : ∀ o, (wb.alloc o).cell? ⟨fa, 0, none⟩ = some (.string ⟨a.toArray⟩) := fun o => ((new_lower wb o).cell (p := ⟨fa, 0, none⟩) (World.block_lt_of_cell? _ _ ef0)).trans ef0
    have ff1 : ∀ o, (wb.alloc o).frozen? ⟨fa, 0, none⟩ = false := fun o => ((World.frozen?_of_block ((new_lower wb o).block fa (World.block_lt_of_cell? _ _ ef0))).trans ff0)
    go_wp2_with fail
    generalize (((wb.alloc (.cells #[.string ⟨a.toArray⟩, .slice Ab (pagesF D.safe a).length cb] 41)).setCell ⟨fa, 0, none⟩ (.string ⟨b.toArray⟩)).setCell ⟨wb.heap.size, 0, none⟩ (.string ⟨b.toArray⟩)) = W5 at *
    generalize wb.heap.size = fb at *
    refine KD.out.mono ?_
    rintro e w6 ⟨rfl, v6, ho6, hrow6, ha6⟩
    have hwl : (dropW (actD D).waits b 0).length ≤ 65536 := Nat.le_trans (List.length_filter_le _ _) bd.waits
    obtain ⟨L, hL⟩ : ∃ l, dropW (actD D).waits b 0 = l := ⟨_, rfl⟩
    have HL := Lib.hid hL
    have ho6 : OwnW w6 W5.heap.size v6 L := by rw [← hL]; exact ho6
    rw [hL] at hwl
    obtain ⟨A6, c6, rfl, hc6, hm6⟩ := ho6.wrts.len
    have O6 := Lib.hid ho6
    have P6 : Hid (w6.heap[g]? = some (.cells (rcells { actD D with waits := L } (.slice A D.now.length c) (.slice As D.safe.length cs) (.slice A6 L.length c6)) 38 (0, 0))) := by
      rw [← hL]
      rw [hL]
      exact hrow6
    have Q6 : Hid (Apart (fun k => k = g ∨ W5.heap.size ≤ k) W5 w6) := ha6.mono (fun k hk => .inl hk)
    have hg6 : w6.cell? ⟨g, 2, none⟩ = some (.slice A6 L.length c6) := cell_of_row _ _ _ _ _ _ P6.out
    clear KD ho6 hrow6 ha6 hL ef0 ff0 ef1 ff1 eb0 fb0
    have hLi : (L.length : Int) ≤ 65536 := by omega
    go_wp2_with fail
    go_loopw [55] (fun i wr => ∃ k : Nat, i = .int .i64 k ∧ k ≤ L.length ∧ Hid (OwnW wr W5.heap.size (.slice A6 L.length c6) (turnW a b L k)) ∧ Hid (wr.heap[g]? = some (.cells (rcells { actD D with waits := L } (.slice A D.now.length c) (.slice As D.safe.length cs) (.slice A6 L.length c6)) 38 (0, 0))) ∧ Hid (Apart (fun k => k = g ∨ W5.heap.size ≤ k) W5 wr)) (fun i _ => L.length - (intOf i).toNat)
    case atStart => exact ⟨0, rfl, by omega, by unfold Hid; rw [turnW_zero]; exact O6.out, P6.out, Q6.out⟩
    case round =>
      clear O6 P6 Q6 hg6
      obtain ⟨k, rfl, hk, ho, hp, ha⟩ := hrel
      have hg6 : wr.cell? ⟨g, 2, none⟩ = some (.slice A6 L.length c6) := cell_of_row _ _ _ _ _ _ hp.out
      by_cases hlt : k < L.length
      · have hki : (k : Int) < L.length := by omega
        have hlt2 : k < (turnW a b L k).length := by rw [turnW_len]; exact hlt
        have hat := turnW_at a b L k hlt hlt2
        have hsucc := turnW_succ a b L k hlt
        obtain ⟨g6, cap, cur, hv6, hgB, hgl, hblk⟩ := ownW_open ho.out (by omega)
        rw [turnW_len] at hv6
        injection hv6 with hv1 _ hv3
        subst hv1 hv3
        obtain ⟨q1, q2, q3⟩ := wc_at (turnW a b L k) k hlt2
        have hcl := fun j u (hu : (wc (turnW a b L k))[j]? = some u) => World.ownsRow.cells ho.out (g := g6) rfl j u hu
        have e1 := hcl _ _ q1
        have e2 := hcl _ _ q2
        have e3 := hcl _ _ q3
        rw [Addr.add_lit, Nat.zero_add, hat] at e1 e2 e3
        obtain ⟨x, hx⟩ : ∃ x, L[k] = x := ⟨_, rfl⟩
        rw [hx] at e1 e2 e3 hsucc
        have f1 : wr.frozen? ⟨g6, k * 3, none⟩ = false := by simp [World.frozen?, hblk]
        have HSC := Lib.hid hsucc
        have hgne : g < W5.heap.size := (Array.getElem?_eq_some_iff.1 C5.out.row).1
        have hf1 := fun o => (World.frozen?_of_block ((new_lower wr o).block g6 hgl)).trans f1
        have he1 := fun o => ((new_lower wr o).cell (p := ⟨g6, k * 3, none⟩) hgl).trans e1
        have hgc := fun o => ((new_lower wr o).cell (p := ⟨g, 2, none⟩) (World.block_lt_of_cell? _ _ hg6)).trans hg6
        clear hsucc hcl q1 q2 q3 hblk
        have HO := Lib.hid (fun o => ho.out.keep (new_lower wr o))
        have HP := Lib.hid (fun o => ((new_lower wr o).block g (World.block_lt_of_cell? _ _ hg6)).trans hp.out)
        have HA := Lib.hid (fun o => ha.out.trans ((Apart.below (new_lower wr o) : Apart (since (fun k => k = g ∨ W5.heap.size ≤ k) W5 wr) wr _)))
        have hpg : (x.page : Int) ≤ 9223372036854775807 ∨ True := .inr trivial
        by_cases hnm : x.name = a
        · have hqb : (x.name == a) = true := by simp [hnm]
          have HN : Hid (turnW a b L (k + 1) = (turnW a b L k).set k ⟨b, x.page, x.data⟩) := by
            have h := HSC.out
            unfold Hid
            rw [h]
            unfold nameW
            rw [if_pos hnm]
          have hst : OwnW (wr.setCell ⟨g6, k * 3, none⟩ (.string ⟨b.toArray⟩)) W5.heap.size (.slice (some ⟨g6, 0, none⟩) L.length c6) (turnW a b L (k + 1)) := by
            have h := ownW_stored (b := b) (l := turnW a b L k) (g := g6) (cap := c6) (k := k) (by rw [turnW_len]; exact ho.out) hlt2
            rw [hat, hx, ← HN.out, turnW_len] at h
            exact h
          have hz := World.size_setCell wr ⟨g6, k * 3, none⟩ (.string ⟨b.toArray⟩)
          have HST := Lib.hid (fun o => hst.keep (new_lower _ o))
          have HP2 := Lib.hid (fun o => ((new_lower (wr.setCell ⟨g6, k * 3, none⟩ (.string ⟨b.toArray⟩)) o).block g (by rw [hz]; exact World.block_lt_of_cell? _ _ hg6)).trans ((heap_setCell_other _ _ _ _ (by show g ≠ g6; omega)).trans hp.out))
          have ha2 : Apart (since (fun k => k = g ∨ W5.heap.size ≤ k) W5 wr) wr (wr.setCell ⟨g6, k * 3, none⟩ (.string ⟨b.toArray⟩)) := ⟨rfl, rfl, rfl, by simp, fun j _ hj => heap_setCell_other _ _ _ _ (fun e => hj (.inl (.inr (by rw [e]; exact hgB))))⟩
          have HA2 := Lib.hid (fun o => (ha.out.trans ha2).trans (Apart.below (new_lower (wr.setCell ⟨g6, k * 3, none⟩ (.string ⟨b.toArray⟩)) o) : Apart (since (fun k => k = g ∨ W5.heap.size ≤ k) W5 (wr.setCell ⟨g6, k * 3, none⟩ (.string ⟨b.toArray⟩))) _ _))
          clear hst ha2 hz
          clear hnm
          go_wp2_with fail
          go_roundw
          case rel => exact ⟨k + 1, by go_num, by omega, HST.out _, HP2.out _, HA2.out _⟩
          case measure => simp [intOf]; omega
        · have hqb : (x.name == a) = false := by simpa using hnm
          have HN : Hid (turnW a b L (k + 1) = turnW a b L k) := by
            have h := HSC.out
            unfold Hid
            rw [h]
            unfold nameW
            rw [if_neg hnm, ← hx, ← hat]
            exact set_same _ _ hlt2
          clear hnm
          go_wp2_with fail
          go_roundw
          case rel => exact ⟨k + 1, by go_num, by omega, by rw [HN.out]; exact HO.out _, HP.out _, HA.out _⟩
          case measure => simp [intOf]; omega
      · have hki : (L.length : Int) ≤ k := by omega
        obtain rfl : k = L.length := by omega
        rw [turnW_all] at ho
        obtain ⟨M, hM⟩ : ∃ l, L.map (nameW a b) = l := ⟨_, rfl⟩
        have HM := Lib.hid hM
        have hML : M.length = L.length := by rw [← hM]; simp
        rw [hM] at ho
        have hglt : g < w.heap.size := HR.out.glt
        have hw1s : w.heap.size ≤ w1.heap.size := S1.out.2.size
        have hw5s : w1.heap.size ≤ W5.heap.size := B15.out.size
        have hwrs : W5.heap.size ≤ wr.heap.size := ha.out.size
        have hfa5 : fa < W5.heap.size := (Array.getElem?_eq_some_iff.1 R5a.out).1
        have hfb5 : fb < W5.heap.size := (Array.getElem?_eq_some_iff.1 R5b.out).1
        have hfbw : w1.heap.size ≤ fb := by omega
        have hdis : ∀ j, since T w w1 j → ¬ (j = g ∨ W5.heap.size ≤ j) := fun j hj e => e.elim (fun e => C5.out.out (by rw [← e]; exact hj)) (fun e => by have := C5.out.lt j hj; omega)
        have hup : ∀ j, since T w w1 j → since T w wr j := fun j hj => hj.elim .inl (fun e => .inr ⟨e.1, by omega⟩)
        have R7a : Hid (wr.heap[fa]? = some (.cells #[.string ⟨b.toArray⟩, .slice Aa (pagesF D.now a).length ca] 41)) := (ha.out.block fa hfa5 (fun e => by omega)).trans R5a.out
        have R7b : Hid (wr.heap[fb]? = some (.cells #[.string ⟨b.toArray⟩, .slice Ab (pagesF D.safe a).length cb] 41)) := (ha.out.block fb hfb5 (fun e => by omega)).trans R5b.out
        have Y7a : Hid (StrsT (since T w wr) wr (.slice Aa (pagesF D.now a).length ca) (pagesF D.now a)) := (Y5a.out.apart C5.out.lt ha.out hdis).mono hup
        have Y7b : Hid (StrsT (since T w wr) wr (.slice Ab (pagesF D.safe a).length cb) (pagesF D.safe a)) := (Y5b.out.apart C5.out.lt ha.out hdis).mono hup
        have hltr : ∀ j, since T w wr j → j < wr.heap.size := fun j hj => hj.elim (fun h => by have := HR.out.lt j h; omega) (fun e => e.2)
        have S7 : Hid (St g T { actD D with waits := M } (.slice A D.now.length c) (.slice As D.safe.length cs) (.slice A6 M.length c6) w wr) := by
          refine ⟨⟨?_, fun hk => hk.elim HR.out.out (fun e => by omega), hltr, (C5.out.now.apart C5.out.lt ha.out hdis).mono hup, (C5.out.safe.apart C5.out.lt ha.out hdis).mono hup, ?_⟩, ?_⟩
          · rw [hML]
            exact hp.out
          · rw [hML]
            exact ho.out.wrts.mono (fun j hj => .inr ⟨by omega, hj.2⟩)
          · refine (S1.out.2.trans (Apart.below B15.out)).trans ?_
            exact ⟨ha.out.os, ha.out.tape, ha.out.output, ha.out.size, fun j hj hn => ha.out.block j hj (fun e => e.elim (fun e => hn (.inl (.inr e))) (fun e => by omega))⟩
        rw [← hML]
        have hmi : (M.length : Int) ≤ 65536 := by omega
        have hltT7 := hltr
        clear hp ha ho hg6 hk hlt R5a R5b Y5a Y5b hdis hup hM S1 C5 B15 hltT hltr hw1s hw5s hwrs hfbw hfa5 hfb5 hwl hLi hc6 hm6 hfe hsz1 hfa hfb hlt2
        have hglr : g < wr.heap.size := S7.out.1.glt
        have eg : wr.cell? ⟨g, 0, none⟩ = some (.slice A D.now.length c) := cell_of_row _ _ _ _ _ _ S7.out.1.row
        clear ho6
        obtain ⟨LN, hLN⟩ : ∃ l, without D.now a = l := ⟨_, rfl⟩
        have HLN := Lib.hid hLN
        have hLl : LN.length ≤ 65536 := by rw [← hLN]; exact Nat.le_trans (without_len _ _) (by have := bd.now; omega)
        obtain ⟨LS, hLS⟩ : ∃ l, without D.safe a = l := ⟨_, rfl⟩
        have HLS := Lib.hid hLS
        have hLsl : LS.length ≤ 65536 := by rw [← hLS]; exact Nat.le_trans (without_len _ _) (by have := bd.safe; omega)
        obtain ⟨PA, hPA⟩ : ∃ l, pagesF D.now a = l := ⟨_, rfl⟩
        have HPA := Lib.hid hPA
        obtain ⟨PB, hPB⟩ : ∃ l, pagesF D.safe a = l := ⟨_, rfl⟩
        have HPB := Lib.hid hPB
        have KW : Hid (Calls Try.prog 65 #[.slice A D.now.length c, .string ⟨a.toArray⟩] wr.drew (GivesF (since T w wr) LN wr.drew)) := by
          have h := without_any (since T w wr) (.slice A D.now.length c) D.now a wr.drew (fun j hj => S7.out.1.lt j hj) (S7.out.1.now.below S7.out.1.lt (Below.refl _ _).drew) (by have := bd.now; omega)
          rw [hLN] at h
          exact h
        rw [hPA] at R7a Y7a ⊢
        rw [hPB] at R7b Y7b ⊢
        have ea0 : wr.cell? ⟨fa, 0, none⟩ = some (.string ⟨b.toArray⟩) := cell_of_row _ _ _ _ _ _ R7a.out
        have ea1 : wr.cell? ⟨fa, 1, none⟩ = some (.slice Aa PA.length ca) := cell_of_row _ _ _ _ _ _ R7a.out
        clear hLN hLS hPA hPB
        have hsz7 := S7.out.2.size
        go_wp2_with fail
        go_region_law (first
          | (go_simp
             go_at_call 65
             refine KW.out.mono ?_
             rintro e wS ⟨hbS, yS, rfl, hyS⟩
             obtain ⟨AS, cS, rfl, hcS, hmS⟩ := hyS.len
             have HYS := Lib.hid hyS
             have HBS : Hid (Below wr.heap.size wr wS) := (Below.refl _ _).drew.trans hbS
             have egS : wS.cell? ⟨g, 0, none⟩ = some (.slice A D.now.length c) := (HBS.out.cell (p := ⟨g, 0, none⟩) S7.out.1.glt).trans eg
             have eaS : wS.cell? ⟨fa, 0, none⟩ = some (.string ⟨b.toArray⟩) := (HBS.out.cell (p := ⟨fa, 0, none⟩) (World.block_lt_of_cell? _ _ ea0)).trans ea0
             have eaS1 : wS.cell? ⟨fa, 1, none⟩ = some (.slice Aa PA.length ca) := (HBS.out.cell (p := ⟨fa, 1, none⟩) (World.block_lt_of_cell? _ _ ea1)).trans ea1
             have KP : Hid (Calls Try.prog 60 #[.slice AS LN.length cS, .agg #[.string ⟨b.toArray⟩, .slice Aa PA.length ca]] wS (GivesF (since T w wS) (putF LN ⟨b, PA⟩) wS)) :=
               put_any (since T w wS) _ _ LN ⟨b, PA⟩ wS (S7.out.below HBS.out).1.lt (HYS.out.mono (fun j hj => hj.elim (fun e => e.elim .inl (fun e => .inr ⟨e.1, by have := HBS.out.size; omega⟩)) (fun e => .inr ⟨by have := e.1; simp at this; omega, e.2⟩))) ((Y7a.out.below hltT7 HBS.out).mono (fun j hj => hj.elim .inl (fun e => .inr ⟨e.1, by have := HBS.out.size; omega⟩))) (by omega)
             clear hyS hbS)
          | (go_simp
             go_at_call 60
             refine KP.out.mono ?_
             rintro e wP ⟨hbP, yP, rfl, hyP⟩
             obtain ⟨AP, cP, rfl, hcP, hmP⟩ := hyP.len
             have SP := Lib.hid (S7.out.below HBS.out)
             have HYP := Lib.hid hyP
             have HBP := Lib.hid hbP
             have eg3 : wP.cell? ⟨g, 0, none⟩ = some (.slice A D.now.length c) := (hbP.cell (p := ⟨g, 0, none⟩) SP.out.1.glt).trans egS
             have fg3 : wP.frozen? ⟨g, 0, none⟩ = false := (SP.out.1.below hbP).frozen 0
             clear hyP hbP))
        all_goals
          have S8 := Lib.hid (SP.out.now (D' := { actD D with waits := M, now := putF LN ⟨b, PA⟩ }) HBP.out HYP.out rfl rfl rfl rfl rfl rfl rfl)
          clear eg ea0 ea1 egS eaS eaS1 eg3 fg3 KW KP
          go_wp2_with fail
          obtain ⟨W8, hW8⟩ : ∃ x, wP.setCell ⟨g, 0, none⟩ (.slice AP (putF LN ⟨b, PA⟩).length cP) = x := ⟨_, rfl⟩
          have hfbg : fb ≠ g := fun e => by
            have h := R7b.out
            rw [e, S7.out.1.row] at h
            simp [rcells] at h
          have hb78 : Below wr.heap.size wr wP := HBS.out.trans (HBP.out.mono HBS.out.size)
          have ha8 : Apart (fun j => j = g) wP W8 := by rw [← hW8]; exact ⟨rfl, rfl, rfl, by simp, fun j _ hj => heap_setCell_other _ _ _ _ hj⟩
          have rb8 : Hid (W8.heap[fb]? = some (.cells #[.string ⟨b.toArray⟩, .slice Ab PB.length cb] 41)) := by
            rw [← hW8]
            exact (heap_setCell_other _ _ _ _ hfbg).trans ((hb78.block _ (Array.getElem?_eq_some_iff.1 R7b.out).1).trans R7b.out)
          have hs8 : wr.heap.size ≤ W8.heap.size := by have := hb78.size; have := ha8.size; omega
          have yb8 : Hid (StrsT (since T w W8) W8 (.slice Ab PB.length cb) PB) :=
            ((Y7b.out.below S7.out.1.lt hb78).apart (fun j hj => by have := S7.out.1.lt j hj; have := hb78.size; omega) ha8 (fun j hj e => S7.out.1.out (by rw [← e]; exact hj))).mono (fun j hj => hj.elim .inl (fun e => .inr ⟨e.1, by omega⟩))
          rw [hW8] at S8 ⊢
          clear hb78 ha8 hW8 hfbg
          have eg : W8.cell? ⟨g, 1, none⟩ = some (.slice As D.safe.length cs) := cell_of_row _ _ _ _ _ _ S8.out.1.row
          have eb0 : W8.cell? ⟨fb, 0, none⟩ = some (.string ⟨b.toArray⟩) := cell_of_row _ _ _ _ _ _ rb8.out
          have eb1 : W8.cell? ⟨fb, 1, none⟩ = some (.slice Ab PB.length cb) := cell_of_row _ _ _ _ _ _ rb8.out
          have KW : Hid (Calls Try.prog 65 #[.slice As D.safe.length cs, .string ⟨a.toArray⟩] W8.drew (GivesF (since T w W8) LS W8.drew)) := by
            have h := without_any (since T w W8) (.slice As D.safe.length cs) D.safe a W8.drew (fun j hj => S8.out.1.lt j hj) (S8.out.1.safe.below S8.out.1.lt (Below.refl _ _).drew) (by have := bd.safe; omega)
            rw [HLS.out] at h
            exact h
          have hsz8 := S8.out.2.size
          have hlt8 : ∀ j, since T w W8 j → j < W8.heap.size := S8.out.1.lt
          go_region_law (first
            | (go_simp
               go_at_call 65
               refine KW.out.mono ?_
               rintro e wT ⟨hbT, yT, rfl, hyT⟩
               obtain ⟨AT, cT, rfl, hcT, hmT⟩ := hyT.len
               have HYT := Lib.hid hyT
               have HBT : Hid (Below W8.heap.size W8 wT) := (Below.refl _ _).drew.trans hbT
               have egT : wT.cell? ⟨g, 1, none⟩ = some (.slice As D.safe.length cs) := (HBT.out.cell (p := ⟨g, 1, none⟩) S8.out.1.glt).trans eg
               have ebT : wT.cell? ⟨fb, 0, none⟩ = some (.string ⟨b.toArray⟩) := (HBT.out.cell (p := ⟨fb, 0, none⟩) (World.block_lt_of_cell? _ _ eb0)).trans eb0
               have ebT1 : wT.cell? ⟨fb, 1, none⟩ = some (.slice Ab PB.length cb) := (HBT.out.cell (p := ⟨fb, 1, none⟩) (World.block_lt_of_cell? _ _ eb1)).trans eb1
               have KP : Hid (Calls Try.prog 60 #[.slice AT LS.length cT, .agg #[.string ⟨b.toArray⟩, .slice Ab PB.length cb]] wT (GivesF (since T w wT) (putF LS ⟨b, PB⟩) wT)) :=
                 put_any (since T w wT) _ _ LS ⟨b, PB⟩ wT (S8.out.below HBT.out).1.lt (HYT.out.mono (fun j hj => hj.elim (fun e => e.elim .inl (fun e => .inr ⟨e.1, by have := HBT.out.size; omega⟩)) (fun e => .inr ⟨by have := e.1; simp at this; omega, e.2⟩))) ((yb8.out.below hlt8 HBT.out).mono (fun j hj => hj.elim .inl (fun e => .inr ⟨e.1, by have := HBT.out.size; omega⟩))) (by omega)
               clear hyT hbT)
            | (go_simp
               go_at_call 60
               refine KP.out.mono ?_
               rintro e wQ ⟨hbQ, yQ, rfl, hyQ⟩
               obtain ⟨AQ, cQ, rfl, hcQ, hmQ⟩ := hyQ.len
               have SQ := Lib.hid (S8.out.below HBT.out)
               have HYQ := Lib.hid hyQ
               have HBQ := Lib.hid hbQ
               have eg3 : wQ.cell? ⟨g, 1, none⟩ = some (.slice As D.safe.length cs) := (hbQ.cell (p := ⟨g, 1, none⟩) SQ.out.1.glt).trans egT
               have fg3 : wQ.frozen? ⟨g, 1, none⟩ = false := (SQ.out.1.below hbQ).frozen 1
               clear hyQ hbQ))
          all_goals
            have S9 := Lib.hid (SQ.out.safe (D' := { actD D with waits := M, now := putF LN ⟨b, PA⟩, safe := putF LS ⟨b, PB⟩ }) HBQ.out HYQ.out rfl rfl rfl rfl rfl rfl rfl)
            clear eg eb0 eb1 egT ebT ebT1 eg3 fg3 KW KP
            obtain ⟨W9, hW9⟩ : ∃ x, wQ.setCell ⟨g, 1, none⟩ (.slice AQ (putF LS ⟨b, PB⟩).length cQ) = x := ⟨_, rfl⟩
            rw [hW9] at S9
            have HF : Hid (DidR g T (renames (actD D) a b) w (wQ.setCell ⟨g, 1, none⟩ (.slice AQ (putF LS ⟨b, PB⟩).length cQ))) := by
              rw [hW9]
              have h := S9.out.did
              rw [← HM.out, ← HL.out, ← HLN.out, ← HLS.out, ← HPA.out, ← HPB.out] at h
              exact h
            clear hW9 S9
            go_wp2_with fail
            go_ret
            rw [HE.out]
            refine ⟨?_, HF.out⟩
            show Ending.returned (.int .i64 (R.2 : Nat)) = _
            rw [H0.out]
  · have HE : Hid (renameD D a b = R) := by unfold Hid; rw [HRM.out, if_neg hdo]
    have HM : Hid (MakesR g T R.1 (.int .i64 (R.2 : Nat)) w (.returned (.int .i64 (R.2 : Nat))) w1) := ⟨rfl, hr1, ha1⟩
    clear hr1 ha1
    clear HRM
    by_cases h0 : R.2 = 0
    · have hab : a = b := Classical.byContradiction fun h => hdo ⟨h0, h⟩
      subst hab
      have hq : ((R.2 : Int) != 0) = false := by rw [h0]; rfl
      have hqn : (a == a) = true := by simp
      clear hdo h0
      go_wp2_with fail
      go_ret
      rw [HE.out]
      exact HM.out
    · have hq : ((R.2 : Int) != 0) = true := bne_iff_ne.2 (by omega)
      clear hdo h0
      go_wp2_with fail
      go_ret
      rw [HE.out]
      exact HM.out

end Go.Proofs.Ytbepanhndpkdhaa.Cd
