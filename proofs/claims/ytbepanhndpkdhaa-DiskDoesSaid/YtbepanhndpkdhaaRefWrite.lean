/-
  The reference's disk: Write. Conditions: none.
-/
import Derived.Test.YtbepanhndpkdhaaRefLose
namespace Go.Proofs.Ytbepanhndpkdhaa.Cd
open Go.RowKit

set_option maxRecDepth 100000 in
theorem ract_own (g : Nat) (T : Nat → Prop) (D : Dsk) (w : World) (h : RefR w g T D) (ha : D.acts < 9223372036854775807) (hf : D.fuse ≤ 9223372036854775807) :
    Calls Try.prog 59 #[.pointer (some ⟨g, 0, none⟩)] w (fun e w' => e = .returned (.bool (decide (D.fuse = 1))) ∧ RefR w' g T (actD D) ∧ Apart (fun k => k = g) w w' ∧ w'.heap.size = w.heap.size) := by
  obtain ⟨vn, vs, vw, h⟩ := h
  have c5 : w.cell? ⟨g, 5, none⟩ = some (.int .i64 D.acts) := cell_of_row _ _ _ _ _ _ h.row
  have c6 : w.cell? ⟨g, 6, none⟩ = some (.int .i64 D.fuse) := cell_of_row _ _ _ _ _ _ h.row
  have f5 := h.frozen 5
  have f6 := h.frozen 6
  have ha' : (D.acts : Int) + 1 ≤ 9223372036854775807 := by omega
  have H := Lib.hid h
  clear h
  by_cases h0 : D.fuse = 0
  · have hq : ((D.fuse : Int) == 0) = true := by rw [h0]; rfl
    go_enter Try.func59, Try.ntmps59
    go_wp2_with fail
    go_ret
    refine ⟨by rw [h0]; rfl, ⟨vn, vs, vw, H.out.poke 5 _ ?_ H.out.now H.out.safe H.out.waits⟩, ⟨rfl, rfl, rfl, by simp, fun k _ hk => heap_setCell_other _ _ _ _ hk⟩, by simp⟩
    simp [rcells, actD, h0]
  · have hq : ((D.fuse : Int) == 0) = false := beq_eq_false_iff_ne.2 (by omega)
    have hw : IntKind.i64.wrap ((D.fuse : Int) - 1) = (D.fuse : Int) - 1 := by rw [IntKind.wrap_i64]; omega
    have hfi : (D.fuse : Int) ≤ 9223372036854775807 := by omega
    have hf1 : (1 : Int) ≤ D.fuse := by omega
    have H5 := Lib.hid (H.out.poke (D' := { D with acts := D.acts + 1 }) 5 (.int .i64 ((D.acts : Int) + 1)) (by simp [rcells]) H.out.now H.out.safe H.out.waits)
    have H6 := Lib.hid (H5.out.poke (D' := actD D) 6 (.int .i64 ((D.fuse : Int) - 1)) (by simp [rcells, actD]; omega) (H5.out.now) (H5.out.safe) (H5.out.waits))
    have d6 : (w.setCell ⟨g, 5, none⟩ (.int .i64 ((D.acts : Int) + 1))).cell? ⟨g, 6, none⟩ = some (.int .i64 D.fuse) := cell_of_row _ _ _ _ _ _ H5.out.row
    have g6 := H5.out.frozen 6
    have e6 : ((w.setCell ⟨g, 5, none⟩ (.int .i64 ((D.acts : Int) + 1))).setCell ⟨g, 6, none⟩ (.int .i64 ((D.fuse : Int) - 1))).cell? ⟨g, 6, none⟩ = some (.int .i64 ((D.fuse : Int) - 1)) := by
      have := cell_of_row _ g 6 _ _ _ H6.out.row
      rw [this]
      simp [rcells, actD]
      omega
    have ha5 : Hid (Apart (fun k => k = g) w ((w.setCell ⟨g, 5, none⟩ (.int .i64 ((D.acts : Int) + 1))).setCell ⟨g, 6, none⟩ (.int .i64 ((D.fuse : Int) - 1)))) :=
      ⟨rfl, rfl, rfl, by simp, fun k _ hk => by rw [heap_setCell_other _ _ _ _ hk, heap_setCell_other _ _ _ _ hk]⟩
    have hqq : ((D.fuse : Int) - 1 == 0) = decide (D.fuse = 1) := by
      by_cases e : D.fuse = 1
      · rw [decide_eq_true e]; exact beq_iff_eq.2 (by omega)
      · rw [decide_eq_false e]; exact beq_eq_false_iff_ne.2 (by omega)
    clear ha'
    have ha' : (D.acts : Int) + 1 ≤ 9223372036854775807 := by omega
    go_enter Try.func59, Try.ntmps59
    go_wp2_with fail
    go_ret
    first
      | exact ⟨rfl, ⟨vn, vs, vw, H6.out⟩, ha5.out, by simp⟩
      | (refine ⟨?_, ⟨vn, vs, vw, H6.out⟩, ha5.out, by simp⟩; simp [← hqq])

theorem poke_waits {w1 w2 : World} {g : Nat} {T : Nat → Prop} {D D' : Dsk} {vn vs vw y : Value} (h : RefC w1 g T D vn vs vw) (hb : Below w1.heap.size w1 w2) (hy : Wrts (since T w1 w2) w2 y D'.waits)
    (e0 : D'.now = D.now) (e1 : D'.safe = D.safe) (e3 : D'.room = D.room) (e4 : D'.off = D.off) (e5 : D'.acts = D.acts) (e6 : D'.fuse = D.fuse) (e7 : D'.keep = D.keep) :
    RefC (w2.setCell ⟨g, 2, none⟩ y) g (since T w1 w2) D' vn vs y := by
  have h1 := (h.below hb).mono (T' := since T w1 w2) (fun _ h => .inl h) (fun j hj => hj.elim (fun k => Nat.lt_of_lt_of_le (h.lt j k) hb.size) (fun e => e.2)) (fun e => e.elim h.out (fun e => by have := h.glt; have := e.1; omega))
  exact h1.poke 2 y (by simp [rcells, e3, e4, e5, e6, e7]) (by rw [e0]; exact h1.now) (by rw [e1]; exact h1.safe) hy
theorem pad_add (b : List UInt8) : b ++ noughts (512 - b.length) = pad b := rfl

set_option maxRecDepth 100000 in
set_option maxHeartbeats 16000000 in
theorem rwrite_any (g : Nat) (T : Nat → Prop) (D : Dsk) (n : List UInt8) (i : Int) (b : List UInt8) (w : World) (h : RefR w g T D) (bd : Bd D) (hi : (Lit.int .i64 i).wf = true) (hb : b.length ≤ 140737488355328) (hwl : D.waits.length < 65536) (hnl : D.now.length < 65536) (hpl : (pagesF D.now n).length ≤ 65536) :
    Calls Try.prog 33 #[.pointer (some ⟨g, 0, none⟩), .string ⟨n.toArray⟩, .int .i64 i, .string ⟨b.toArray⟩] w (MakesR g T (writeD D n i b).1 (.int .i64 ((writeD D n i b).2 : Nat)) w) := by
  have hbi := bounds_i64 hi
  have HR : Hid (RefR w g T D) := h
  obtain ⟨vn, vs, vw, h⟩ := h
  obtain ⟨A, c, rfl, hlc, hm'⟩ := h.now.len
  have c0 : w.cell? ⟨g, 0, none⟩ = some (.slice A D.now.length c) := cell_of_row _ _ _ _ _ _ h.row
  have KG : Hid (Calls Try.prog 58 #[.slice A D.now.length c, .string ⟨n.toArray⟩] w (GetIs T D.now n w)) := get_any T _ D.now n w h.lt h.now (by omega)
  have H := Lib.hid h
  have hbl : (b.length : Int) ≤ 140737488355328 := by omega
  clear h
  go_enter Try.func33, Try.ntmps33
  go_wp2_with fail
  refine KG.out.mono ?_
  rintro e wG ⟨hbG, yG, rfl, hyG⟩
  obtain ⟨Ag, cg, rfl, hcg, hmg⟩ := hyG.len
  obtain ⟨W0, hW0⟩ : ∃ x, wG.alloc (.cells #[.string ⟨n.toArray⟩, .slice Ag (pagesF D.now n).length cg] 41) = x := ⟨_, rfl⟩
  have HB1 : Hid (Below w.heap.size w W0) := by rw [← hW0]; exact hbG.alloc hbG.size _
  have HRW : Hid (W0.heap[wG.heap.size]? = some (.cells #[.string ⟨n.toArray⟩, .slice Ag (pagesF D.now n).length cg] 41)) := by rw [← hW0]; exact heap_alloc_new _ _
  have HY : Hid (StrsT T W0 (.slice Ag (pagesF D.now n).length cg) (pagesF D.now n)) := by rw [← hW0]; exact hyG.below (B := wG.heap.size) (fun j hj => by have := H.out.lt j hj; have := hbG.size; omega) ((Below.refl _ _).alloc (Nat.le_refl _) _)
  have c4 : W0.cell? ⟨g, 4, none⟩ = some (.bool D.off) := (HB1.out.cell (p := ⟨g, 4, none⟩) H.out.glt).trans (cell_of_row _ _ _ _ _ _ H.out.row)
  have ef1 : W0.cell? ⟨wG.heap.size, 1, none⟩ = some (.slice Ag (pagesF D.now n).length cg) := cell_of_row _ _ _ _ _ _ HRW.out
  have HGL : Hid (w.heap.size ≤ wG.heap.size) := hbG.size
  have KF : Hid (Calls Try.prog 42 #[.pointer (some ⟨g, 0, none⟩)] W0 (Gives (.int .i64 (freeD D)) W0)) := rfree_any g T D W0 (HR.out.below HB1.out) bd.room bd.cnt (by omega)
  clear hyG hbG KG c0
  by_cases c1 : D.off = true
  · have HE : Hid (writeD D n i b = (D, 8)) := by unfold Hid writeD; rw [if_pos c1]
    rw [c1] at c4
    clear c1
    go_wp2_with fail
    go_ret
    rw [HE.out]
    exact makesR_below HR.out HB1.out
  · have hoff : D.off = false := by simpa using c1
    rw [hoff] at c4
    by_cases c2 : 512 < b.length
    · have HE : Hid (writeD D n i b = (D, 3)) := by unfold Hid writeD; rw [if_neg c1, if_pos c2]
      have c2' : (512 : Int) < b.length := by omega
      clear c1 hoff
      go_wp2_with fail
      go_ret
      rw [HE.out]
      exact makesR_below HR.out HB1.out
    · have c2' : (b.length : Int) ≤ 512 := by omega
      by_cases c3 : i < 0 ∨ ((pagesF D.now n).length : Int) < i
      · have HE : Hid (writeD D n i b = (D, 1)) := by unfold Hid writeD; rw [if_neg c1, if_neg c2, if_pos c3]
        have c3' : i < 0 ∨ (¬ i < 0 ∧ ((pagesF D.now n).length : Int) < i) := by omega
        clear c1 hoff c3
        rcases c3' with k1 | ⟨k1, k2⟩
        all_goals
          go_wp2_with fail
          go_ret
          rw [HE.out]
          exact makesR_below HR.out HB1.out
      · obtain ⟨k, rfl⟩ := Int.eq_ofNat_of_zero_le (a := i) (by omega)
        have hk1 : ¬ (k : Int) < 0 := by omega
        have hk2 : (k : Int) ≤ (pagesF D.now n).length := by omega
        by_cases c5 : (k : Int) = ((pagesF D.now n).length : Int) ∧ freeD D = 0
        · have HE : Hid (writeD D n (k : Nat) b = (D, 7)) := by unfold Hid writeD; rw [if_neg c1, if_neg c2, if_neg c3, if_pos c5]
          have hke : ((k : Int) == ((pagesF D.now n).length : Int)) = true := beq_iff_eq.2 c5.1
          have hfe : (freeD D == 0) = true := beq_iff_eq.2 c5.2
          clear c1 hoff c3 c5
          go_wp2_with fail
          refine KF.out.mono ?_
          rintro e w1 ⟨rfl, hb1⟩
          have HB2 : Hid (Below w.heap.size w w1) := HB1.out.trans (hb1.mono HB1.out.size)
          clear hb1
          go_wp2_with fail
          go_ret
          rw [HE.out]
          exact makesR_below HR.out HB2.out
        · have HE : Hid (writeD D n (k : Nat) b = ends D (wrote D n k b) 0) := by unfold Hid writeD; rw [if_neg c1, if_neg c2, if_neg c3, if_neg c5, Int.toNat_natCast]
          have hcase : ((k : Int) == ((pagesF D.now n).length : Int)) = true ∧ (freeD D == 0) = false ∨ ((k : Int) == ((pagesF D.now n).length : Int)) = false := by
            by_cases e : (k : Int) = ((pagesF D.now n).length : Int)
            · exact .inl ⟨beq_iff_eq.2 e, beq_eq_false_iff_ne.2 (fun e2 => c5 ⟨e, e2⟩)⟩
            · exact .inr (beq_eq_false_iff_ne.2 e)
          clear c1 hoff c2 c3 c5
          rcases hcase with ⟨hke, hfe⟩ | hke
          · go_wp2_with fail
            refine KF.out.mono ?_
            rintro e w1 ⟨rfl, hb1⟩
            have HBX : Hid (Below W0.heap.size W0 w1) := hb1
            clear hb1
            go_wp2_with fail
            have HBW : Hid (Below w.heap.size w w1) := HB1.out.trans (HBX.out.mono HB1.out.size)
            have HRw1 : Hid (w1.heap[wG.heap.size]? = some (.cells #[.string ⟨n.toArray⟩, .slice Ag (pagesF D.now n).length cg] 41)) := (HBX.out.block _ (Array.getElem?_eq_some_iff.1 HRW.out).1).trans HRW.out
            have HYW : Hid (StrsT T w1 (.slice Ag (pagesF D.now n).length cg) (pagesF D.now n)) := HY.out.below (B := W0.heap.size) (fun j hj => by have := H.out.lt j hj; have := HB1.out.size; omega) HBX.out
            have KA := Lib.hid (ract_own g T D w1 (HR.out.below HBW.out) bd.acts bd.fuse)
            refine KA.out.mono ?_
            rintro e w2 ⟨rfl, hr2, ha2, hs2⟩
            obtain ⟨vn2, vs2, vw2, h2⟩ := hr2
            have hgG : wG.heap.size ≠ g := by have := HGL.out; have := H.out.glt; omega
            have HRW2 : Hid (w2.heap[wG.heap.size]? = some (.cells #[.string ⟨n.toArray⟩, .slice Ag (pagesF D.now n).length cg] 41)) := (ha2.block _ (Array.getElem?_eq_some_iff.1 HRw1.out).1 hgG).trans HRw1.out
            have HY2 : Hid (StrsT T w2 (.slice Ag (pagesF D.now n).length cg) (pagesF D.now n)) := HYW.out.apart (fun j hj => by have := H.out.lt j hj; have := HBW.out.size; omega) ha2 (fun j hj e => H.out.out (by rw [← e]; exact hj))
            have hszw2 : w.heap.size ≤ w2.heap.size := by have := HBW.out.size; omega
            have S2 : Hid (St g T (actD D) vn2 vs2 vw2 w w2) := ⟨h2.mono (fun _ h => .inl h) (fun j hj => hj.elim (h2.lt j) (fun e => e.2)) (fun e => e.elim H.out.out (fun e => by have := H.out.glt; have := e.1; omega)),
              ⟨ha2.os.trans HBW.out.os, ha2.tape.trans HBW.out.tape, ha2.output.trans HBW.out.output, hszw2, fun j hj hn => (ha2.block j (by have := HBW.out.size; omega) (fun e => hn (.inr e))).trans (HBW.out.block j hj)⟩⟩
            obtain ⟨dt, hdt⟩ : ∃ x, b ++ noughts (512 - b.length) = x := ⟨_, rfl⟩
            have HDT : Hid (pad b = dt) := hdt
            have hwrap : IntKind.i64.wrap (512 - (b.length : Int)) = 512 - (b.length : Int) := by rw [IntKind.wrap_i64]; omega
            have hmk : ∀ W, (Instr.makeSlice 29 (.int .i64 (512 - (b.length : Int))) (.int .i64 (512 - (b.length : Int)))).run Try.prog W = .ok (.slice (some ⟨W.heap.size, 0, none⟩) (512 - b.length) (512 - b.length)) (W.alloc (.cells (vb (noughts (512 - b.length))).toArray 5)) := fun W => by
              have := make_bytes (512 - b.length) (by omega) W
              rw [show ((512 - b.length : Nat) : Int) = 512 - (b.length : Int) by omega] at this
              exact this
            have hcv := fun W => text_noughts W (512 - b.length) (by omega) _ rfl
            have hadd : ∀ W, (Op.stringOp .add ⟨b.toArray⟩ ⟨(noughts (512 - b.length)).toArray⟩).run Try.prog W = .ok (.string ⟨dt.toArray⟩) W := fun W => by rw [← hdt]; exact add_text W b (noughts (512 - b.length)) (by rw [noughts_len]; omega)
            obtain ⟨pk, hpk⟩ : ∃ x, setP (pagesF D.now n) k dt = x := ⟨_, rfl⟩
            have HPK := Lib.hid hpk
            obtain ⟨w3, hw3⟩ : ∃ x, w2.alloc (.cells (vb (noughts (512 - b.length))).toArray 5) = x := ⟨_, rfl⟩
            have hcv3 := hcv w2
            rw [hw3] at hcv3
            have hb3 : Below w2.heap.size w2 w3 := by rw [← hw3]; exact (Below.refl _ _).alloc (Nat.le_refl _) _
            have S3 := Lib.hid (S2.out.below hb3)
            have HRW3 : Hid (w3.heap[wG.heap.size]? = some (.cells #[.string ⟨n.toArray⟩, .slice Ag (pagesF D.now n).length cg] 41)) := (hb3.block _ (Array.getElem?_eq_some_iff.1 HRW2.out).1).trans HRW2.out
            have HY3 : Hid (StrsT T w3 (.slice Ag (pagesF D.now n).length cg) (pagesF D.now n)) := HY2.out.below (B := w2.heap.size) (fun j hj => by have := H.out.lt j hj; omega) hb3
            obtain ⟨An, cn, rfl, hnc, hnm⟩ := h2.now.len
            obtain ⟨Aw, cw, rfl, hwc, hwm⟩ := h2.waits.len
            have eg : w3.cell? ⟨g, 0, none⟩ = some (.slice An D.now.length cn) := cell_of_row _ _ _ _ _ _ S3.out.1.row
            have ef : w3.cell? ⟨wG.heap.size, 0, none⟩ = some (.string ⟨n.toArray⟩) := cell_of_row _ _ _ _ _ _ HRW3.out
            have ef3 : w3.cell? ⟨wG.heap.size, 1, none⟩ = some (.slice Ag (pagesF D.now n).length cg) := cell_of_row _ _ _ _ _ _ HRW3.out
            have KS : Hid (Calls Try.prog 61 #[.agg #[.string ⟨n.toArray⟩, .slice Ag (pagesF D.now n).length cg], .int .i64 k, .string ⟨dt.toArray⟩] w3.drew (GivesFil (since T w w3) ⟨n, pk⟩ w3.drew)) := by
              have h := set_any (since T w w3) _ ⟨n, pagesF D.now n⟩ k dt w3.drew (fun j hj => S3.out.1.lt j hj) ((HY3.out.mono (fun _ h => .inl h)).below S3.out.1.lt (Below.refl _ _).drew) (by omega) (by show (pagesF D.now n).length ≤ _; omega)
              rw [hpk] at h
              exact h
            have hsz3 := S3.out.2.size
            clear hpk hb3 h2 ha2 hs2 hdt c4 ef1 KF HRW2 HY2 S2 KA
            go_wp2_with fail
            go_region_law (first
              | (go_simp
                 go_at_call 61
                 refine KS.out.mono ?_
                 rintro e wS ⟨hbS, yS, rfl, hyS⟩
                 obtain ⟨AS, cS, rfl, hcS, hmS⟩ := hyS.len
                 have HYS := Lib.hid hyS
                 have HBS : Hid (Below w3.heap.size w3 wS) := (Below.refl _ _).drew.trans hbS
                 have egS : wS.cell? ⟨g, 0, none⟩ = some (.slice An D.now.length cn) := (HBS.out.cell (p := ⟨g, 0, none⟩) S3.out.1.glt).trans eg
                 have KP : Hid (Calls Try.prog 60 #[.slice An D.now.length cn, .agg #[.string ⟨n.toArray⟩, .slice AS pk.length cS]] wS (GivesF (since T w wS) (putF D.now ⟨n, pk⟩) wS)) :=
                   put_any (since T w wS) _ _ D.now ⟨n, pk⟩ wS (S3.out.below HBS.out).1.lt (S3.out.below HBS.out).1.now (HYS.out.mono (fun j hj => hj.elim (fun e => e.elim .inl (fun e => .inr ⟨e.1, by have := HBS.out.size; omega⟩)) (fun e => .inr ⟨by have := e.1; simp at this; omega, e.2⟩))) (by omega)
                 clear hyS hbS)
              | (go_simp
                 go_at_call 60
                 refine KP.out.mono ?_
                 rintro e wP ⟨hbP, yP, rfl, hyP⟩
                 obtain ⟨AP, cP, rfl, hcP, hmP⟩ := hyP.len
                 have SP := Lib.hid (S3.out.below HBS.out)
                 have HYP := Lib.hid hyP
                 have HBP := Lib.hid hbP
                 have eg3 : wP.cell? ⟨g, 0, none⟩ = some (.slice An D.now.length cn) := (hbP.cell (p := ⟨g, 0, none⟩) SP.out.1.glt).trans egS
                 have fg3 : wP.frozen? ⟨g, 0, none⟩ = false := (SP.out.1.below hbP).frozen 0
                 clear hyP hbP))
            all_goals
              have S5 := Lib.hid (SP.out.now (D' := { actD D with now := putF D.now ⟨n, pk⟩ }) HBP.out HYP.out rfl rfl rfl rfl rfl rfl rfl)
              clear eg ef ef3 egS KS KP hw3
              obtain ⟨w5, hw5⟩ : ∃ x, wP.setCell ⟨g, 0, none⟩ (.slice AP (putF D.now ⟨n, pk⟩).length cP) = x := ⟨_, rfl⟩
              rw [hw5] at S5
              have c25 : w5.cell? ⟨g, 2, none⟩ = some (.slice Aw D.waits.length cw) := cell_of_row _ _ _ _ _ _ S5.out.1.row
              have B6 : Hid (Below w5.heap.size w5 (w5.alloc (.cells #[] 100))) := (Below.refl _ _).alloc (Nat.le_refl _) _
              have c26 : (w5.alloc (.cells #[] 100)).cell? ⟨g, 2, none⟩ = some (.slice Aw D.waits.length cw) := (B6.out.cell (p := ⟨g, 2, none⟩) S5.out.1.glt).trans c25
              have hw5b := hw5
              go_wp2_with (at_builtin; refine wp_append_wrts rfl _ _ rfl rfl (OwnW.new w5 w5.heap.size (Nat.le_refl _)) (by simp) _ D.waits rfl (S5.out.1.waits.below S5.out.1.lt B6.out) (by simp; omega) ?_)
              intro v6 w6 ho6 hb6
              have HO6 := Lib.hid ho6
              have HB6 : Hid (Below w5.heap.size w5 w6) := B6.out.trans hb6
              have hz6 := HB6.out.size
              obtain ⟨A6, c6, hv6, hc6, hm6⟩ := ho6.wrts.len
              subst hv6
              clear ho6 hb6 c25 c26
              have HX7 : Hid (Below w6.heap.size w6 (w6.alloc (.cells #[.string ⟨n.toArray⟩, .int .i64 k, .string ⟨dt.toArray⟩] 100))) := (Below.refl _ _).alloc (Nat.le_refl _) _
              have HR7 := Lib.hid (wrts_one (w6.alloc (.cells #[.string ⟨n.toArray⟩, .int .i64 k, .string ⟨dt.toArray⟩] 100)) ⟨n, k, dt⟩ w6.heap.size (heap_alloc_new _ _))
              go_wp2_with (at_builtin; refine wp_append_wrts rfl _ _ rfl rfl (HO6.out.keep HX7.out) (by simp; omega) _ [⟨n, k, dt⟩] rfl HR7.out (by simp; omega) ?_)
              intro v7 w7 ho7 hb7
              have HO7 := Lib.hid ho7
              have HB7 : Hid (Below w5.heap.size w5 w7) := HB6.out.trans ((HX7.out.mono hz6).trans hb7)
              obtain ⟨A7, c7, hv7, hc7, hm7⟩ := ho7.wrts.len
              subst hv7
              have c27 : w7.cell? ⟨g, 2, none⟩ = some (.slice Aw D.waits.length cw) := (HB7.out.cell (p := ⟨g, 2, none⟩) S5.out.1.glt).trans (cell_of_row _ _ _ _ _ _ S5.out.1.row)
              have f27 : w7.frozen? ⟨g, 2, none⟩ = false := (S5.out.1.below HB7.out).frozen 2
              have hwn : wrote D n k b = { actD D with now := putF D.now ⟨n, pk⟩, waits := D.waits ++ [⟨n, k, dt⟩] } := by
                unfold wrote
                rw [HDT.out, HPK.out]
              have S8 := Lib.hid (st_of S5.out HB7.out (poke_waits (D' := wrote D n k b) S5.out.1 HB7.out (by rw [hwn]; exact HO7.out.wrts.mono (fun _ hk => .inr hk)) (by rw [hwn]) (by rw [hwn]) (by rw [hwn]) (by rw [hwn]) (by rw [hwn]) (by rw [hwn]) (by rw [hwn])))
              have c78 : (w7.setCell ⟨g, 2, none⟩ (.slice A7 (D.waits ++ [(⟨n, k, dt⟩ : Wrt)]).length c7)).cell? ⟨g, 7, none⟩ = some (.int .u64 D.keep) := by
                have h := cell_of_row _ g 7 _ _ _ S8.out.1.row
                rw [h, hwn]
                rfl
              have HWN := Lib.hid hwn
              obtain ⟨n7, hn7⟩ : ∃ x, (D.waits ++ [(⟨n, k, dt⟩ : Wrt)]).length = x := ⟨_, rfl⟩
              rw [hn7] at S8 c78 ⊢
              clear ho7 hb7 hwn hn7 HR7 hw5 hw5b hmk hcv hcv3 hadd
              by_cases hf : D.fuse = 1
              · have hd : decide (D.fuse = 1) = true := decide_eq_true hf
                have HE2 : Hid (writeD D n (k : Nat) b = (lose (wrote D n k b) D.keep, 8)) := by unfold Hid; rw [HE.out]; unfold ends; rw [if_pos hf]
                have KL : Hid (Calls Try.prog 39 #[.pointer (some ⟨g, 0, none⟩), .int .u64 D.keep] (w7.setCell ⟨g, 2, none⟩ (.slice A7 n7 c7)) (MakesR g (since T w (w7.setCell ⟨g, 2, none⟩ (.slice A7 n7 c7))) (lose (wrote D n k b) D.keep) (.tuple #[]) (w7.setCell ⟨g, 2, none⟩ (.slice A7 n7 c7)))) :=
                  rlose_any g _ (wrote D n k b) D.keep _ S8.out.did.1 bd.keep (by rw [HWN.out]; simp; omega) (by
                    rw [HWN.out]
                    intro x hx
                    rcases List.mem_append.1 hx with hx | hx
                    · exact bd.page x hx
                    · rw [List.mem_singleton.1 hx]; show k ≤ _; omega) (by rw [HWN.out]; exact bd.safe) (by rw [HWN.out]; have := putF_len D.now ⟨n, pk⟩; show (putF D.now ⟨n, pk⟩).length ≤ _; omega) (by rw [HWN.out]; exact bd.small)
                go_wp2_with fail
                generalize w7.setCell ⟨g, 2, none⟩ (.slice A7 n7 c7) = w8 at *
                refine KL.out.mono ?_
                rintro e w9 ⟨rfl, hr9, ha9⟩
                have HF : Hid (DidR g T (lose (wrote D n k b) D.keep) w w9) := S8.out.did.trans ⟨hr9, ha9⟩
                clear KL hr9 ha9
                go_wp2_with fail
                go_ret
                rw [HE2.out]
                exact ⟨rfl, HF.out⟩
              · have hd : decide (D.fuse = 1) = false := decide_eq_false hf
                have HE2 : Hid (writeD D n (k : Nat) b = (wrote D n k b, 0)) := by unfold Hid; rw [HE.out]; unfold ends; rw [if_neg hf]
                go_wp2_with fail
                go_ret
                rw [HE2.out]
                exact ⟨rfl, S8.out.did⟩
          · have HBX : Hid (Below W0.heap.size W0 W0) := Below.refl _ _
            go_wp2_with fail
            have HBW : Hid (Below w.heap.size w W0) := HB1.out.trans (HBX.out.mono HB1.out.size)
            have HRw1 : Hid (W0.heap[wG.heap.size]? = some (.cells #[.string ⟨n.toArray⟩, .slice Ag (pagesF D.now n).length cg] 41)) := (HBX.out.block _ (Array.getElem?_eq_some_iff.1 HRW.out).1).trans HRW.out
            have HYW : Hid (StrsT T W0 (.slice Ag (pagesF D.now n).length cg) (pagesF D.now n)) := HY.out.below (B := W0.heap.size) (fun j hj => by have := H.out.lt j hj; have := HB1.out.size; omega) HBX.out
            have KA := Lib.hid (ract_own g T D W0 (HR.out.below HBW.out) bd.acts bd.fuse)
            refine KA.out.mono ?_
            rintro e w2 ⟨rfl, hr2, ha2, hs2⟩
            obtain ⟨vn2, vs2, vw2, h2⟩ := hr2
            have hgG : wG.heap.size ≠ g := by have := HGL.out; have := H.out.glt; omega
            have HRW2 : Hid (w2.heap[wG.heap.size]? = some (.cells #[.string ⟨n.toArray⟩, .slice Ag (pagesF D.now n).length cg] 41)) := (ha2.block _ (Array.getElem?_eq_some_iff.1 HRw1.out).1 hgG).trans HRw1.out
            have HY2 : Hid (StrsT T w2 (.slice Ag (pagesF D.now n).length cg) (pagesF D.now n)) := HYW.out.apart (fun j hj => by have := H.out.lt j hj; have := HBW.out.size; omega) ha2 (fun j hj e => H.out.out (by rw [← e]; exact hj))
            have hszw2 : w.heap.size ≤ w2.heap.size := by have := HBW.out.size; omega
            have S2 : Hid (St g T (actD D) vn2 vs2 vw2 w w2) := ⟨h2.mono (fun _ h => .inl h) (fun j hj => hj.elim (h2.lt j) (fun e => e.2)) (fun e => e.elim H.out.out (fun e => by have := H.out.glt; have := e.1; omega)),
              ⟨ha2.os.trans HBW.out.os, ha2.tape.trans HBW.out.tape, ha2.output.trans HBW.out.output, hszw2, fun j hj hn => (ha2.block j (by have := HBW.out.size; omega) (fun e => hn (.inr e))).trans (HBW.out.block j hj)⟩⟩
            obtain ⟨dt, hdt⟩ : ∃ x, b ++ noughts (512 - b.length) = x := ⟨_, rfl⟩
            have HDT : Hid (pad b = dt) := hdt
            have hwrap : IntKind.i64.wrap (512 - (b.length : Int)) = 512 - (b.length : Int) := by rw [IntKind.wrap_i64]; omega
            have hmk : ∀ W, (Instr.makeSlice 29 (.int .i64 (512 - (b.length : Int))) (.int .i64 (512 - (b.length : Int)))).run Try.prog W = .ok (.slice (some ⟨W.heap.size, 0, none⟩) (512 - b.length) (512 - b.length)) (W.alloc (.cells (vb (noughts (512 - b.length))).toArray 5)) := fun W => by
              have := make_bytes (512 - b.length) (by omega) W
              rw [show ((512 - b.length : Nat) : Int) = 512 - (b.length : Int) by omega] at this
              exact this
            have hcv := fun W => text_noughts W (512 - b.length) (by omega) _ rfl
            have hadd : ∀ W, (Op.stringOp .add ⟨b.toArray⟩ ⟨(noughts (512 - b.length)).toArray⟩).run Try.prog W = .ok (.string ⟨dt.toArray⟩) W := fun W => by rw [← hdt]; exact add_text W b (noughts (512 - b.length)) (by rw [noughts_len]; omega)
            obtain ⟨pk, hpk⟩ : ∃ x, setP (pagesF D.now n) k dt = x := ⟨_, rfl⟩
            have HPK := Lib.hid hpk
            obtain ⟨w3, hw3⟩ : ∃ x, w2.alloc (.cells (vb (noughts (512 - b.length))).toArray 5) = x := ⟨_, rfl⟩
            have hcv3 := hcv w2
            rw [hw3] at hcv3
            have hb3 : Below w2.heap.size w2 w3 := by rw [← hw3]; exact (Below.refl _ _).alloc (Nat.le_refl _) _
            have S3 := Lib.hid (S2.out.below hb3)
            have HRW3 : Hid (w3.heap[wG.heap.size]? = some (.cells #[.string ⟨n.toArray⟩, .slice Ag (pagesF D.now n).length cg] 41)) := (hb3.block _ (Array.getElem?_eq_some_iff.1 HRW2.out).1).trans HRW2.out
            have HY3 : Hid (StrsT T w3 (.slice Ag (pagesF D.now n).length cg) (pagesF D.now n)) := HY2.out.below (B := w2.heap.size) (fun j hj => by have := H.out.lt j hj; omega) hb3
            obtain ⟨An, cn, rfl, hnc, hnm⟩ := h2.now.len
            obtain ⟨Aw, cw, rfl, hwc, hwm⟩ := h2.waits.len
            have eg : w3.cell? ⟨g, 0, none⟩ = some (.slice An D.now.length cn) := cell_of_row _ _ _ _ _ _ S3.out.1.row
            have ef : w3.cell? ⟨wG.heap.size, 0, none⟩ = some (.string ⟨n.toArray⟩) := cell_of_row _ _ _ _ _ _ HRW3.out
            have ef3 : w3.cell? ⟨wG.heap.size, 1, none⟩ = some (.slice Ag (pagesF D.now n).length cg) := cell_of_row _ _ _ _ _ _ HRW3.out
            have KS : Hid (Calls Try.prog 61 #[.agg #[.string ⟨n.toArray⟩, .slice Ag (pagesF D.now n).length cg], .int .i64 k, .string ⟨dt.toArray⟩] w3.drew (GivesFil (since T w w3) ⟨n, pk⟩ w3.drew)) := by
              have h := set_any (since T w w3) _ ⟨n, pagesF D.now n⟩ k dt w3.drew (fun j hj => S3.out.1.lt j hj) ((HY3.out.mono (fun _ h => .inl h)).below S3.out.1.lt (Below.refl _ _).drew) (by omega) (by show (pagesF D.now n).length ≤ _; omega)
              rw [hpk] at h
              exact h
            have hsz3 := S3.out.2.size
            clear hpk hb3 h2 ha2 hs2 hdt c4 ef1 KF HRW2 HY2 S2 KA
            go_wp2_with fail
            go_region_law (first
              | (go_simp
                 go_at_call 61
                 refine KS.out.mono ?_
                 rintro e wS ⟨hbS, yS, rfl, hyS⟩
                 obtain ⟨AS, cS, rfl, hcS, hmS⟩ := hyS.len
                 have HYS := Lib.hid hyS
                 have HBS : Hid (Below w3.heap.size w3 wS) := (Below.refl _ _).drew.trans hbS
                 have egS : wS.cell? ⟨g, 0, none⟩ = some (.slice An D.now.length cn) := (HBS.out.cell (p := ⟨g, 0, none⟩) S3.out.1.glt).trans eg
                 have KP : Hid (Calls Try.prog 60 #[.slice An D.now.length cn, .agg #[.string ⟨n.toArray⟩, .slice AS pk.length cS]] wS (GivesF (since T w wS) (putF D.now ⟨n, pk⟩) wS)) :=
                   put_any (since T w wS) _ _ D.now ⟨n, pk⟩ wS (S3.out.below HBS.out).1.lt (S3.out.below HBS.out).1.now (HYS.out.mono (fun j hj => hj.elim (fun e => e.elim .inl (fun e => .inr ⟨e.1, by have := HBS.out.size; omega⟩)) (fun e => .inr ⟨by have := e.1; simp at this; omega, e.2⟩))) (by omega)
                 clear hyS hbS)
              | (go_simp
                 go_at_call 60
                 refine KP.out.mono ?_
                 rintro e wP ⟨hbP, yP, rfl, hyP⟩
                 obtain ⟨AP, cP, rfl, hcP, hmP⟩ := hyP.len
                 have SP := Lib.hid (S3.out.below HBS.out)
                 have HYP := Lib.hid hyP
                 have HBP := Lib.hid hbP
                 have eg3 : wP.cell? ⟨g, 0, none⟩ = some (.slice An D.now.length cn) := (hbP.cell (p := ⟨g, 0, none⟩) SP.out.1.glt).trans egS
                 have fg3 : wP.frozen? ⟨g, 0, none⟩ = false := (SP.out.1.below hbP).frozen 0
                 clear hyP hbP))
            all_goals
              have S5 := Lib.hid (SP.out.now (D' := { actD D with now := putF D.now ⟨n, pk⟩ }) HBP.out HYP.out rfl rfl rfl rfl rfl rfl rfl)
              clear eg ef ef3 egS KS KP hw3
              obtain ⟨w5, hw5⟩ : ∃ x, wP.setCell ⟨g, 0, none⟩ (.slice AP (putF D.now ⟨n, pk⟩).length cP) = x := ⟨_, rfl⟩
              rw [hw5] at S5
              have c25 : w5.cell? ⟨g, 2, none⟩ = some (.slice Aw D.waits.length cw) := cell_of_row _ _ _ _ _ _ S5.out.1.row
              have B6 : Hid (Below w5.heap.size w5 (w5.alloc (.cells #[] 100))) := (Below.refl _ _).alloc (Nat.le_refl _) _
              have c26 : (w5.alloc (.cells #[] 100)).cell? ⟨g, 2, none⟩ = some (.slice Aw D.waits.length cw) := (B6.out.cell (p := ⟨g, 2, none⟩) S5.out.1.glt).trans c25
              have hw5b := hw5
              go_wp2_with (at_builtin; refine wp_append_wrts rfl _ _ rfl rfl (OwnW.new w5 w5.heap.size (Nat.le_refl _)) (by simp) _ D.waits rfl (S5.out.1.waits.below S5.out.1.lt B6.out) (by simp; omega) ?_)
              intro v6 w6 ho6 hb6
              have HO6 := Lib.hid ho6
              have HB6 : Hid (Below w5.heap.size w5 w6) := B6.out.trans hb6
              have hz6 := HB6.out.size
              obtain ⟨A6, c6, hv6, hc6, hm6⟩ := ho6.wrts.len
              subst hv6
              clear ho6 hb6 c25 c26
              have HX7 : Hid (Below w6.heap.size w6 (w6.alloc (.cells #[.string ⟨n.toArray⟩, .int .i64 k, .string ⟨dt.toArray⟩] 100))) := (Below.refl _ _).alloc (Nat.le_refl _) _
              have HR7 := Lib.hid (wrts_one (w6.alloc (.cells #[.string ⟨n.toArray⟩, .int .i64 k, .string ⟨dt.toArray⟩] 100)) ⟨n, k, dt⟩ w6.heap.size (heap_alloc_new _ _))
              go_wp2_with (at_builtin; refine wp_append_wrts rfl _ _ rfl rfl (HO6.out.keep HX7.out) (by simp; omega) _ [⟨n, k, dt⟩] rfl HR7.out (by simp; omega) ?_)
              intro v7 w7 ho7 hb7
              have HO7 := Lib.hid ho7
              have HB7 : Hid (Below w5.heap.size w5 w7) := HB6.out.trans ((HX7.out.mono hz6).trans hb7)
              obtain ⟨A7, c7, hv7, hc7, hm7⟩ := ho7.wrts.len
              subst hv7
              have c27 : w7.cell? ⟨g, 2, none⟩ = some (.slice Aw D.waits.length cw) := (HB7.out.cell (p := ⟨g, 2, none⟩) S5.out.1.glt).trans (cell_of_row _ _ _ _ _ _ S5.out.1.row)
              have f27 : w7.frozen? ⟨g, 2, none⟩ = false := (S5.out.1.below HB7.out).frozen 2
              have hwn : wrote D n k b = { actD D with now := putF D.now ⟨n, pk⟩, waits := D.waits ++ [⟨n, k, dt⟩] } := by
                unfold wrote
                rw [HDT.out, HPK.out]
              have S8 := Lib.hid (st_of S5.out HB7.out (poke_waits (D' := wrote D n k b) S5.out.1 HB7.out (by rw [hwn]; exact HO7.out.wrts.mono (fun _ hk => .inr hk)) (by rw [hwn]) (by rw [hwn]) (by rw [hwn]) (by rw [hwn]) (by rw [hwn]) (by rw [hwn]) (by rw [hwn])))
              have c78 : (w7.setCell ⟨g, 2, none⟩ (.slice A7 (D.waits ++ [(⟨n, k, dt⟩ : Wrt)]).length c7)).cell? ⟨g, 7, none⟩ = some (.int .u64 D.keep) := by
                have h := cell_of_row _ g 7 _ _ _ S8.out.1.row
                rw [h, hwn]
                rfl
              have HWN := Lib.hid hwn
              obtain ⟨n7, hn7⟩ : ∃ x, (D.waits ++ [(⟨n, k, dt⟩ : Wrt)]).length = x := ⟨_, rfl⟩
              rw [hn7] at S8 c78 ⊢
              clear ho7 hb7 hwn hn7 HR7 hw5 hw5b hmk hcv hcv3 hadd
              by_cases hf : D.fuse = 1
              · have hd : decide (D.fuse = 1) = true := decide_eq_true hf
                have HE2 : Hid (writeD D n (k : Nat) b = (lose (wrote D n k b) D.keep, 8)) := by unfold Hid; rw [HE.out]; unfold ends; rw [if_pos hf]
                have KL : Hid (Calls Try.prog 39 #[.pointer (some ⟨g, 0, none⟩), .int .u64 D.keep] (w7.setCell ⟨g, 2, none⟩ (.slice A7 n7 c7)) (MakesR g (since T w (w7.setCell ⟨g, 2, none⟩ (.slice A7 n7 c7))) (lose (wrote D n k b) D.keep) (.tuple #[]) (w7.setCell ⟨g, 2, none⟩ (.slice A7 n7 c7)))) :=
                  rlose_any g _ (wrote D n k b) D.keep _ S8.out.did.1 bd.keep (by rw [HWN.out]; simp; omega) (by
                    rw [HWN.out]
                    intro x hx
                    rcases List.mem_append.1 hx with hx | hx
                    · exact bd.page x hx
                    · rw [List.mem_singleton.1 hx]; show k ≤ _; omega) (by rw [HWN.out]; exact bd.safe) (by rw [HWN.out]; have := putF_len D.now ⟨n, pk⟩; show (putF D.now ⟨n, pk⟩).length ≤ _; omega) (by rw [HWN.out]; exact bd.small)
                go_wp2_with fail
                generalize w7.setCell ⟨g, 2, none⟩ (.slice A7 n7 c7) = w8 at *
                refine KL.out.mono ?_
                rintro e w9 ⟨rfl, hr9, ha9⟩
                have HF : Hid (DidR g T (lose (wrote D n k b) D.keep) w w9) := S8.out.did.trans ⟨hr9, ha9⟩
                clear KL hr9 ha9
                go_wp2_with fail
                go_ret
                rw [HE2.out]
                exact ⟨rfl, HF.out⟩
              · have hd : decide (D.fuse = 1) = false := decide_eq_false hf
                have HE2 : Hid (writeD D n (k : Nat) b = (wrote D n k b, 0)) := by unfold Hid; rw [HE.out]; unfold ends; rw [if_neg hf]
                go_wp2_with fail
                go_ret
                rw [HE2.out]
                exact ⟨rfl, S8.out.did⟩

end Go.Proofs.Ytbepanhndpkdhaa.Cd
