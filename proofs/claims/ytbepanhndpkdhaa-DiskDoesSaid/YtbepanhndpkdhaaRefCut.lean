/-
  The reference's disk: Cut. Conditions: none.
-/
import Derived.Test.YtbepanhndpkdhaaRefLose
namespace Go.Proofs.Ytbepanhndpkdhaa.Cd
open Go.RowKit

theorem st_refl {g : Nat} {T : Nat → Prop} {D : Dsk} {vn vs vw : Value} {w : World} (h : RefC w g T D vn vs vw) : St g T D vn vs vw w w :=
  ⟨h.mono (fun _ h => .inl h) (fun j hj => hj.elim (h.lt j) (fun e => by omega)) (fun e => e.elim h.out (fun e => by omega)), Apart.refl _ _⟩
theorem mayD_on {D : Dsk} {n : List UInt8} (h0 : (mayD D n).2 = 0) : D.off = false ∧ (getF D.now n).isSome = true := by
  unfold mayD at h0
  split at h0
  · simp at h0
  · split at h0
    · simp at h0
    · rename_i h1 h2
      refine ⟨by simpa using h1, ?_⟩
      cases hh : (getF D.now n).isSome
      · exact absurd hh h2
      · rfl

set_option maxRecDepth 100000 in
set_option maxHeartbeats 16000000 in
theorem rcut_any (g : Nat) (T : Nat → Prop) (D : Dsk) (n : List UInt8) (i : Int) (w : World) (h : RefR w g T D) (bd : Bd D) (hi : (Lit.int .i64 i).wf = true) :
    Calls Try.prog 36 #[.pointer (some ⟨g, 0, none⟩), .string ⟨n.toArray⟩, .int .i64 i] w (MakesR g T (cutD D n i).1 (.int .i64 ((cutD D n i).2 : Nat)) w) := by
  have hbi := bounds_i64 hi
  obtain ⟨vn, vs, vw, h⟩ := h
  obtain ⟨A, c, rfl, hlc, hm'⟩ := h.now.len
  have c0 : w.cell? ⟨g, 0, none⟩ = some (.slice A D.now.length c) := cell_of_row _ _ _ _ _ _ h.row
  have KG : Hid (Calls Try.prog 58 #[.slice A D.now.length c, .string ⟨n.toArray⟩] w (GetIs T D.now n w)) := get_any T _ D.now n w h.lt h.now (by have := bd.now; omega)
  have H := Lib.hid h
  have hpn := bd.smalln.pages n
  have hps := bd.small.pages n
  clear h
  go_enter Try.func36, Try.ntmps36
  go_wp2_with fail
  refine KG.out.mono ?_
  rintro e wG ⟨hbG, yG, rfl, hyG⟩
  obtain ⟨Ag, cg, rfl, hcg, hmg⟩ := hyG.len
  have HB1 : Hid (Below w.heap.size w (wG.alloc (.cells #[.string ⟨n.toArray⟩, .slice Ag (pagesF D.now n).length cg] 41))) := hbG.alloc hbG.size _
  have c4 : (wG.alloc (.cells #[.string ⟨n.toArray⟩, .slice Ag (pagesF D.now n).length cg] 41)).cell? ⟨g, 4, none⟩ = some (.bool D.off) := (HB1.out.cell (p := ⟨g, 4, none⟩) H.out.glt).trans (cell_of_row _ _ _ _ _ _ H.out.row)
  clear hyG hbG KG
  by_cases hneg : D.off = false ∧ (getF D.now n).isSome = true ∧ i < 0
  · have HE : Hid (cutD D n i = (D, 1)) := by unfold Hid cutD; rw [if_pos hneg]
    obtain ⟨h1, h2, h3⟩ := hneg
    rw [h1] at c4
    rw [h2]
    have HR : Hid (RefR w g T D) := ⟨_, _, _, H.out⟩
    clear h1 h2
    go_wp2_with fail
    go_ret
    rw [HE.out]
    exact makesR_below HR.out HB1.out
  · have HRM : Hid (cutD D n i = if (mayD D n).2 = 0 then (cuts (mayD D n).1 n i.toNat, 0) else mayD D n) := by unfold Hid cutD; rw [if_neg hneg]
    obtain ⟨W0, hW0⟩ : ∃ x, wG.alloc (.cells #[.string ⟨n.toArray⟩, .slice Ag (pagesF D.now n).length cg] 41) = x := ⟨_, rfl⟩
    rw [hW0] at HB1 c4
    have D0 := Lib.hid ((st_refl H.out).below HB1.out).did
    have KM := Lib.hid (rmay_any g (since T w _) D n _ D0.out.1 bd)
    have hbd := Lib.hid (@mayD_ok D n)
    have hon := Lib.hid (@mayD_on D n)
    have hcase : (D.off = true) ∨ (D.off = false ∧ (getF D.now n).isSome = false) ∨ (D.off = false ∧ (getF D.now n).isSome = true ∧ ¬ i < 0) := by
      cases h1 : D.off
      · cases h2 : (getF D.now n).isSome
        · exact .inr (.inl ⟨rfl, rfl⟩)
        · exact .inr (.inr ⟨rfl, rfl, fun h3 => hneg ⟨h1, h2, h3⟩⟩)
      · exact .inl rfl
    generalize mayD D n = R at *
    have KEY : ∀ w1, MakesR g (since T w W0) R.1 (.int .i64 (R.2 : Nat)) W0 (.returned (.int .i64 (R.2 : Nat))) w1 → ¬ R.2 = 0 → MakesR g T (cutD D n i).1 (.int .i64 ((cutD D n i).2 : Nat)) w (.returned (.int .i64 (R.2 : Nat))) w1 := fun w1 hm h0 => by
      have HE : cutD D n i = R := by rw [HRM.out, if_neg h0]
      rw [HE]
      exact ⟨rfl, D0.out.trans hm.2⟩
    have HKEY := Lib.hid KEY
    clear KEY hneg
    rcases hcase with h1 | ⟨h1, h2⟩ | ⟨h1, h2, h3⟩
    · have hr0 : ¬ R.2 = 0 := fun h0 => by have := (hon.out h0).1; rw [h1] at this; cases this
      have hq : ((R.2 : Int) == 0) = false := beq_eq_false_iff_ne.2 (by omega)
      rw [h1] at c4
      clear h1
      go_wp2_with fail
      refine KM.out.mono ?_
      rintro e w1 ⟨rfl, hr1, ha1⟩
      have HM := Lib.hid (HKEY.out w1 ⟨rfl, hr1, ha1⟩ hr0)
      clear hr1 ha1
      go_wp2_with fail
      go_ret
      exact HM.out
    · have hr0 : ¬ R.2 = 0 := fun h0 => by have := (hon.out h0).2; rw [h2] at this; cases this
      have hq : ((R.2 : Int) == 0) = false := beq_eq_false_iff_ne.2 (by omega)
      rw [h1] at c4
      rw [h2]
      clear h1 h2
      go_wp2_with fail
      refine KM.out.mono ?_
      rintro e w1 ⟨rfl, hr1, ha1⟩
      have HM := Lib.hid (HKEY.out w1 ⟨rfl, hr1, ha1⟩ hr0)
      clear hr1 ha1
      go_wp2_with fail
      go_ret
      exact HM.out
    · rw [h1] at c4
      rw [h2]
      clear h1 h2
      obtain ⟨k, rfl⟩ := Int.eq_ofNat_of_zero_le (a := i) (by omega)
      go_wp2_with fail
      refine KM.out.mono ?_
      rintro e w1 ⟨rfl, hr1, ha1⟩
      by_cases hr0 : R.2 = 0
      · have hq : ((R.2 : Int) == 0) = true := by rw [hr0]; rfl
        have HE : Hid (cutD D n (k : Nat) = (cuts (actD D) n k, 0)) := by unfold Hid; rw [HRM.out, if_pos hr0, hbd.out hr0, Int.toNat_natCast]
        have D1 : DidR g T R.1 w w1 := D0.out.trans ⟨hr1, ha1⟩
        rw [hbd.out hr0] at D1
        obtain ⟨⟨vn, vs, vw, h1⟩, a1⟩ := D1
        obtain ⟨A, c, rfl, hlc, hm'⟩ := h1.now.len
        obtain ⟨As, cs, rfl, hls, hms⟩ := h1.safe.len
        have c01 : w1.cell? ⟨g, 0, none⟩ = some (.slice A D.now.length c) := cell_of_row _ _ _ _ _ _ h1.row
        have KG1 : Hid (Calls Try.prog 58 #[.slice A D.now.length c, .string ⟨n.toArray⟩] w1 (GetIs (since T w w1) D.now n w1)) := get_any _ _ D.now n w1 h1.lt h1.now (by have := bd.now; omega)
        have S1 : Hid (St g T (actD D) _ _ vw w w1) := ⟨h1, a1⟩
        clear hr1 ha1 h1 a1 HKEY KM c4 c0
        go_wp2_with fail
        refine KG1.out.mono ?_
        rintro e wa ⟨hba, ya, rfl, hya⟩
        obtain ⟨Aa, ca, rfl, hca, hma⟩ := hya.len
        have hsz1 := S1.out.2.size
        have B2 : Hid (Below w1.heap.size w1 (wa.alloc (.cells #[.string ⟨n.toArray⟩, .slice Aa (pagesF D.now n).length ca] 41))) := hba.alloc hba.size _
        have R2 : Hid ((wa.alloc (.cells #[.string ⟨n.toArray⟩, .slice Aa (pagesF D.now n).length ca] 41)).heap[wa.heap.size]? = some (.cells #[.string ⟨n.toArray⟩, .slice Aa (pagesF D.now n).length ca] 41)) := heap_alloc_new _ _
        have Y2 : Hid (StrsT (since T w w1) (wa.alloc (.cells #[.string ⟨n.toArray⟩, .slice Aa (pagesF D.now n).length ca] 41)) (.slice Aa (pagesF D.now n).length ca) (pagesF D.now n)) := hya.below (B := wa.heap.size) (fun j hj => by have := S1.out.1.lt j hj; have := hba.size; omega) ((Below.refl _ _).alloc (Nat.le_refl _) _)
        have hz2 := hba.size
        clear KG1 hba hya c01
        have S2 := Lib.hid (S1.out.below B2.out)
        have c12 : (wa.alloc (.cells #[.string ⟨n.toArray⟩, .slice Aa (pagesF D.now n).length ca] 41)).cell? ⟨g, 1, none⟩ = some (.slice As D.safe.length cs) := cell_of_row _ _ _ _ _ _ S2.out.1.row
        have KG2 := Lib.hid (get_any _ (.slice As D.safe.length cs) D.safe n _ S2.out.1.lt S2.out.1.safe (by have := bd.safe; omega))
        go_wp2_with fail
        generalize wa.heap.size = fa at *
        generalize wa.alloc (.cells #[.string ⟨n.toArray⟩, .slice Aa (pagesF D.now n).length ca] 41) = W2 at *
        refine KG2.out.mono ?_
        rintro e wb ⟨hbb, yb, rfl, hyb⟩
        obtain ⟨Ab, cb, rfl, hcb, hmb⟩ := hyb.len
        have hsz2 := S2.out.2.size
        have B3 : Hid (Below W2.heap.size W2 (wb.alloc (.cells #[.string ⟨n.toArray⟩, .slice Ab (pagesF D.safe n).length cb] 41))) := hbb.alloc hbb.size _
        have R3 : Hid ((wb.alloc (.cells #[.string ⟨n.toArray⟩, .slice Ab (pagesF D.safe n).length cb] 41)).heap[wb.heap.size]? = some (.cells #[.string ⟨n.toArray⟩, .slice Ab (pagesF D.safe n).length cb] 41)) := heap_alloc_new _ _
        have Y3 : Hid (StrsT (since T w W2) (wb.alloc (.cells #[.string ⟨n.toArray⟩, .slice Ab (pagesF D.safe n).length cb] 41)) (.slice Ab (pagesF D.safe n).length cb) (pagesF D.safe n)) := hyb.below (B := wb.heap.size) (fun j hj => by have := S2.out.1.lt j hj; have := hbb.size; omega) ((Below.refl _ _).alloc (Nat.le_refl _) _)
        clear KG2 hbb hyb c12
        go_wp2_with fail
        generalize wb.heap.size = fb at *
        generalize wb.alloc (.cells #[.string ⟨n.toArray⟩, .slice Ab (pagesF D.safe n).length cb] 41) = W3 at *
        have S3 := Lib.hid (S2.out.below B3.out)
        have ya3 : Hid (StrsT (since T w W3) W3 (.slice Aa (pagesF D.now n).length ca) (pagesF D.now n)) := (Y2.out.below (B := W2.heap.size) (fun j hj => by have := S1.out.1.lt j hj; have := B2.out.size; omega) B3.out).mono (fun j hj => hj.elim .inl (fun e => .inr ⟨e.1, by have := B2.out.size; have := B3.out.size; omega⟩))
        have yb3 : Hid (StrsT (since T w W3) W3 (.slice Ab (pagesF D.safe n).length cb) (pagesF D.safe n)) := Y3.out.mono (fun j hj => hj.elim .inl (fun e => .inr ⟨e.1, by have := B3.out.size; omega⟩))
        have ra3 : Hid (W3.heap[fa]? = some (.cells #[.string ⟨n.toArray⟩, .slice Aa (pagesF D.now n).length ca] 41)) := (B3.out.block _ (Array.getElem?_eq_some_iff.1 R2.out).1).trans R2.out
        have eg : W3.cell? ⟨g, 0, none⟩ = some (.slice A D.now.length c) := cell_of_row _ _ _ _ _ _ S3.out.1.row
        have ef : W3.cell? ⟨fa, 0, none⟩ = some (.string ⟨n.toArray⟩) := cell_of_row _ _ _ _ _ _ ra3.out
        have ef1 : W3.cell? ⟨fa, 1, none⟩ = some (.slice Aa (pagesF D.now n).length ca) := cell_of_row _ _ _ _ _ _ ra3.out
        have hki : (k : Int) ≤ 9223372036854775807 := by omega
        obtain ⟨pa, hpa⟩ : ∃ x, (pagesF D.now n).take k = x := ⟨_, rfl⟩
        have HPA := Lib.hid hpa
        have KS : Hid (Calls Try.prog 64 #[.agg #[.string ⟨n.toArray⟩, .slice Aa (pagesF D.now n).length ca], .int .i64 k] W3.drew (GivesFil (since T w W3) ⟨n, pa⟩ W3.drew)) := by
          have h := short_any (since T w W3) _ ⟨n, pagesF D.now n⟩ k W3.drew (fun j hj => S3.out.1.lt j hj) (ya3.out.below S3.out.1.lt (Below.refl _ _).drew) hki hpn
          rw [hpa] at h
          exact h
        clear hpa
        have hsz3 := S3.out.2.size
        go_region_law (first
          | (go_simp
             go_at_call 64
             refine KS.out.mono ?_
             rintro e wS ⟨hbS, yS, rfl, hyS⟩
             obtain ⟨AS, cS, rfl, hcS, hmS⟩ := hyS.len
             have HYS := Lib.hid hyS
             have HBS : Hid (Below W3.heap.size W3 wS) := (Below.refl _ _).drew.trans hbS
             have egS : wS.cell? ⟨g, 0, none⟩ = some (.slice A D.now.length c) := (HBS.out.cell (p := ⟨g, 0, none⟩) S3.out.1.glt).trans eg
             have KP : Hid (Calls Try.prog 60 #[.slice A D.now.length c, .agg #[.string ⟨n.toArray⟩, .slice AS pa.length cS]] wS (GivesF (since T w wS) (putF D.now ⟨n, pa⟩) wS)) :=
               put_any (since T w wS) _ _ D.now ⟨n, pa⟩ wS (S3.out.below HBS.out).1.lt (S3.out.below HBS.out).1.now (HYS.out.mono (fun j hj => hj.elim (fun e => e.elim .inl (fun e => .inr ⟨e.1, by have := HBS.out.size; omega⟩)) (fun e => .inr ⟨by have := e.1; simp at this; omega, e.2⟩))) (by have := bd.now; omega)
             clear hyS hbS)
          | (go_simp
             go_at_call 60
             refine KP.out.mono ?_
             rintro e wP ⟨hbP, yP, rfl, hyP⟩
             obtain ⟨AP, cP, rfl, hcP, hmP⟩ := hyP.len
             have SP := Lib.hid (S3.out.below HBS.out)
             have HYP := Lib.hid hyP
             have HBP := Lib.hid hbP
             have eg3 : wP.cell? ⟨g, 0, none⟩ = some (.slice A D.now.length c) := (hbP.cell (p := ⟨g, 0, none⟩) SP.out.1.glt).trans egS
             have fg3 : wP.frozen? ⟨g, 0, none⟩ = false := (SP.out.1.below hbP).frozen 0
             clear hyP hbP))
        all_goals
          have S5 := Lib.hid (SP.out.now (D' := { actD D with now := putF D.now ⟨n, pa⟩ }) HBP.out HYP.out rfl rfl rfl rfl rfl rfl rfl)
          clear eg ef ef1 egS eg3 fg3 KS KP
          go_wp2_with fail
          obtain ⟨W5, hW5⟩ : ∃ x, wP.setCell ⟨g, 0, none⟩ (.slice AP (putF D.now ⟨n, pa⟩).length cP) = x := ⟨_, rfl⟩
          have hfb : fb ≠ g := fun e => by
            have h := R3.out
            rw [e, S3.out.1.row] at h
            simp [rcells] at h
          have hb35 : Below W3.heap.size W3 wP := HBS.out.trans (HBP.out.mono HBS.out.size)
          have ha5 : Apart (fun j => j = g) wP W5 := by rw [← hW5]; exact ⟨rfl, rfl, rfl, by simp, fun j _ hj => heap_setCell_other _ _ _ _ hj⟩
          have rb5 : Hid (W5.heap[fb]? = some (.cells #[.string ⟨n.toArray⟩, .slice Ab (pagesF D.safe n).length cb] 41)) := by
            rw [← hW5]
            exact (heap_setCell_other _ _ _ _ hfb).trans ((hb35.block _ (Array.getElem?_eq_some_iff.1 R3.out).1).trans R3.out)
          have hs5 : W3.heap.size ≤ W5.heap.size := by have := hb35.size; have := ha5.size; omega
          have yb5 : Hid (StrsT (since T w W5) W5 (.slice Ab (pagesF D.safe n).length cb) (pagesF D.safe n)) :=
            ((yb3.out.below S3.out.1.lt hb35).apart (fun j hj => by have := S3.out.1.lt j hj; have := hb35.size; omega) ha5 (fun j hj e => S3.out.1.out (by rw [← e]; exact hj))).mono (fun j hj => hj.elim .inl (fun e => .inr ⟨e.1, by omega⟩))
          rw [hW5] at S5 ⊢
          clear hb35 ha5 hW5 hfb
          have eg : W5.cell? ⟨g, 1, none⟩ = some (.slice As D.safe.length cs) := cell_of_row _ _ _ _ _ _ S5.out.1.row
          have ef : W5.cell? ⟨fb, 0, none⟩ = some (.string ⟨n.toArray⟩) := cell_of_row _ _ _ _ _ _ rb5.out
          have ef1 : W5.cell? ⟨fb, 1, none⟩ = some (.slice Ab (pagesF D.safe n).length cb) := cell_of_row _ _ _ _ _ _ rb5.out
          obtain ⟨pb, hpb⟩ : ∃ x, (pagesF D.safe n).take k = x := ⟨_, rfl⟩
          have HPB := Lib.hid hpb
          have KS : Hid (Calls Try.prog 64 #[.agg #[.string ⟨n.toArray⟩, .slice Ab (pagesF D.safe n).length cb], .int .i64 k] W5.drew (GivesFil (since T w W5) ⟨n, pb⟩ W5.drew)) := by
            have h := short_any (since T w W5) _ ⟨n, pagesF D.safe n⟩ k W5.drew (fun j hj => S5.out.1.lt j hj) (yb5.out.below S5.out.1.lt (Below.refl _ _).drew) hki hps
            rw [hpb] at h
            exact h
          clear hpb
          have hsz5 := S5.out.2.size
          go_region_law (first
            | (go_simp
               go_at_call 64
               refine KS.out.mono ?_
               rintro e wT ⟨hbT, yT, rfl, hyT⟩
               obtain ⟨AT, cT, rfl, hcT, hmT⟩ := hyT.len
               have HYT := Lib.hid hyT
               have HBT : Hid (Below W5.heap.size W5 wT) := (Below.refl _ _).drew.trans hbT
               have egT : wT.cell? ⟨g, 1, none⟩ = some (.slice As D.safe.length cs) := (HBT.out.cell (p := ⟨g, 1, none⟩) S5.out.1.glt).trans eg
               have KP : Hid (Calls Try.prog 60 #[.slice As D.safe.length cs, .agg #[.string ⟨n.toArray⟩, .slice AT pb.length cT]] wT (GivesF (since T w wT) (putF D.safe ⟨n, pb⟩) wT)) :=
                 put_any (since T w wT) _ _ D.safe ⟨n, pb⟩ wT (S5.out.below HBT.out).1.lt (S5.out.below HBT.out).1.safe (HYT.out.mono (fun j hj => hj.elim (fun e => e.elim .inl (fun e => .inr ⟨e.1, by have := HBT.out.size; omega⟩)) (fun e => .inr ⟨by have := e.1; simp at this; omega, e.2⟩))) (by have := bd.safe; omega)
               clear hyT hbT)
            | (go_simp
               go_at_call 60
               refine KP.out.mono ?_
               rintro e wQ ⟨hbQ, yQ, rfl, hyQ⟩
               obtain ⟨AQ, cQ, rfl, hcQ, hmQ⟩ := hyQ.len
               have SQ := Lib.hid (S5.out.below HBT.out)
               have HYQ := Lib.hid hyQ
               have HBQ := Lib.hid hbQ
               have eg3 : wQ.cell? ⟨g, 1, none⟩ = some (.slice As D.safe.length cs) := (hbQ.cell (p := ⟨g, 1, none⟩) SQ.out.1.glt).trans egT
               have fg3 : wQ.frozen? ⟨g, 1, none⟩ = false := (SQ.out.1.below hbQ).frozen 1
               clear hyQ hbQ))
          all_goals
            have S6 := Lib.hid (SQ.out.safe (D' := { actD D with now := putF D.now ⟨n, pa⟩, safe := putF D.safe ⟨n, pb⟩ }) HBQ.out HYQ.out rfl rfl rfl rfl rfl rfl rfl)
            have KD := Lib.hid (rdrop_any g _ _ n k _ S6.out.did.1 (by have := bd.waits; show D.waits.length ≤ _; omega) (fun x hx => by have := bd.page x hx; omega) hki)
            clear eg ef ef1 egT eg3 fg3 KS KP
            go_wp2_with fail
            refine KD.out.mono ?_
            rintro e w6 ⟨rfl, hr6, ha6⟩
            have HF : Hid (DidR g T (cuts (actD D) n k) w w6) := by
              have h := S6.out.did.trans ⟨hr6, ha6⟩
              rw [← HPA.out, ← HPB.out] at h
              exact h
            clear KD hr6 ha6
            go_wp2_with fail
            go_ret
            rw [HE.out]
            exact ⟨rfl, HF.out⟩
      · have hq : ((R.2 : Int) == 0) = false := beq_eq_false_iff_ne.2 (by omega)
        have HM := Lib.hid (HKEY.out w1 ⟨rfl, hr1, ha1⟩ hr0)
        clear hr1 ha1
        go_wp2_with fail
        go_ret
        exact HM.out

end Go.Proofs.Ytbepanhndpkdhaa.Cd
