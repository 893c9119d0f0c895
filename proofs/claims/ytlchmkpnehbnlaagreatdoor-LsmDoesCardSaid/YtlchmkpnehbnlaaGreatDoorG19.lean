/-
  settle: a file's writes are safe. Conditions: none.
-/
import Derived.Test.YtlchmkpnehbnlaaGreatDoorG18
namespace Go.Proofs.YtlchmkpnehbnlaaGreatDoor.Cd
open Go.RowKit

set_option maxRecDepth 100000 in
set_option maxHeartbeats 4000000 in
theorem settle_any (g N f : Nat) (S : Nat → Prop) (P : Pd) (w : World) (h : Rep w g S P N) (hf : f ≤ P.made) :
    Calls Tryz.prog 124 #[.pointer (some ⟨g, 0, none⟩), .int .i64 f] w (Makes g S (settleP P f) N (.tuple #[]) w) := by
  obtain ⟨bf, c1, p1, c2, p2, lv, h⟩ := h
  have hl : ∀ x ∈ P.late, x.data.length = 512 := fun x hx => (h.fits.late x hx).2.2
  have hlen : P.late.length ≤ 137438953472 := by obtain ⟨_, _, h9⟩ := h.safe; have := h.fits.top; omega
  have hg := h.lt g h.ins.1
  have hneg : ∀ b, lv.ownBlock = some b → b ≠ g := fun b hb => (h.nel b hb).1
  have c7 : w.cell? ⟨g, 7, none⟩ = some lv := cell_of_row _ _ _ _ _ _ h.row
  have hlate := h.late
  obtain ⟨j0, hsf, hj0⟩ := h.safe
  rcases hlate.2 with ⟨rfl, h0⟩ | ⟨b, cap, cur, rfl, _, _, hncap, hcapm, _, _⟩
  · have hnil : P.late = [] := List.eq_nil_of_length_eq_zero h0
    have hfg := forget_core g bf c1 p1 c2 p2 f 0 P (.slice none 0 0) w h.row h.late hl hlen hneg
    have HFG := Lib.hid hfg
    have H := Lib.hid h
    have HN := Lib.hid hnil
    have HSF := Lib.hid hsf
    clear h hfg hsf hlate hl hneg h0 hnil
    go_enter Tryz.func124, Tryz.ntmps124
    go_wp2_with fail
    refine wp_loop_rounds 1 ?_
    rw [rounds_succ]
    go_wp2_with fail
    refine HFG.out.mono ?_
    intro e w2 hfg
    have hend := settle_end H.out (Apart.refl _ _) (j := j0) (by rw [HN.out]; exact HSF.out) hj0 hfg
    have HEND := Lib.hid hend
    obtain rfl := hfg.1
    clear hend hfg
    go_wp2_with fail
    go_end0
    exact HEND.out
  · have hbl := (World.ownsRow.lt hlate b rfl).2
    have hbn := h.nel b rfl
    have H := Lib.hid h
    have HL := Lib.hid hl
    have HAT := Lib.hid (row_at h.late hl rfl)
    have HSF := Lib.hid hsf
    have hneq := h.neg
    have hi5 := h.lt c2 h.ins.2.2.2.2.1
    have hi6 := h.lt p2 h.ins.2.2.2.2.2
    have hns := h.fits.nss
    have htop := h.fits.top
    have hmade := h.fits.made
    clear h hl hsf hlate
    go_enter Tryz.func124, Tryz.ntmps124
    go_wp2_with fail
    go_loopw [11] (fun i wr => ∃ k : Nat, i = .int .i64 k ∧ k ≤ P.late.length ∧ Hid (Side wr c2 p2 (playS (ofFile f) 0 (P.late.take k) (P.safe, P.ns)).1 (playS (ofFile f) 0 (P.late.take k) (P.safe, P.ns)).2 (j0 + cntS (ofFile f) 0 (P.late.take k))) ∧ Hid (Apart (two c2 p2) w wr)) (fun i _ => P.late.length - (intOf i).toNat)
    case atStart => exact ⟨0, rfl, Nat.zero_le _, HSF.out, Apart.refl _ _⟩
    case round =>
      obtain ⟨k, rfl, hk, hsd, ha⟩ := hrel
      have hwsz := ha.out.size
      have hrow1 : Hid (wr.heap[g]? = some (.cells (dcells P bf c1 p1 c2 p2 (.slice (some ⟨b, 0, none⟩) P.late.length cap)) 73)) := (ha.out.block g hg (by rintro (e | e) <;> omega)).trans H.out.row
      by_cases hlt : k < P.late.length
      · have hlt2 : (k : Int) < P.late.length := by omega
        have hra : Hid (wr.rangeAt b (k * 514) (wv P.late[k].file P.late[k].spot P.late[k].data).toList) := fun o v hv => (ha.out.cell (p := ⟨b, k * 514 + o, none⟩) hbl (by rintro (e | e); exact hbn.2.2.2.2.1 e; exact hbn.2.2.2.2.2 e)).trans (HAT.out k hlt o v hv)
        have hlk := HL.out _ (List.getElem_mem hlt)
        have hxok := H.out.fits.late _ (List.getElem_mem hlt)
        have hpt := playS_take (ofFile f) hlt (P.safe, P.ns)
        have hct := cntS_take (ofFile f) hlt
        have hcle := cntS_le (ofFile f) (P.late.take k) 0
        rw [List.length_take] at hcle
        have hok := playS_ok (sel := ofFile f) (P.late.take k) 0 (P.safe, P.ns) (m := P.made) ⟨H.out.fits.safe, fun x hx => (H.out.fits.fresh x hx).2⟩ (fun x hx => H.out.fits.late x (List.mem_of_mem_take hx))
        have hnle : (playS (ofFile f) 0 (P.late.take k) (P.safe, P.ns)).2 ≤ P.ns + 4097 * cntS (ofFile f) 0 (P.late.take k) := playS_n (sel := ofFile f) (P.late.take k) 0 (P.safe, P.ns) (fun x hx => H.out.fits.late x (List.mem_of_mem_take hx))
        have hsel : ofFile f k P.late[k] = decide (P.late[k].file = f) := rfl
        rw [hsel] at hpt hct
        have HPT := Lib.hid hpt
        have HCT := Lib.hid hct
        clear hpt hct hsel
        generalize P.late[k] = x at *
        generalize playS (ofFile f) 0 (P.late.take k) (P.safe, P.ns) = s at *
        have hsz := wv_size x.file x.spot hlk
        obtain ⟨C, hC⟩ : ∃ C, wv x.file x.spot x.data = C := ⟨_, rfl⟩
        have hone : Hid (∀ v ∈ C.toList, v.oneCell' = true) := by rw [← hC]; exact wv_one x.file x.spot x.data
        have h0 : Hid (C[0]? = some (.int .i64 x.file)) := by subst hC; rfl
        have hput : Hid (x.file = f → Calls Tryz.prog 79 #[.agg #[.map (some c2), .map (some p2)], .agg C] (wr.alloc (.cells C 126)).drew (SidePut c2 p2 x.file x.spot x.data s.1 s.2 (j0 + cntS (ofFile f) 0 (P.late.take k)) (wr.alloc (.cells C 126)).drew)) := fun _ => by
          rw [← hC]
          exact sideput_any c2 p2 x.file x.spot x.data s.1 s.2 _ _ (hsd.out.heap (Below.heap_alloc _ _ _ (by omega)) (Below.heap_alloc _ _ _ (by omega))) hlk (by have := hxok.1; unfold lim; omega) (by have := hxok.2.1; omega) (by have := hok.len x.file; omega) (by unfold lim; omega) (by unfold lim; omega)
        rw [hC] at hsz hra
        have hsl : C.toList.length = 514 := by simpa using hsz
        have hst : ∀ w' : World, (storeCells ⟨w'.heap.size, 0, none⟩ C.toList 0).run Tryz.prog (w'.alloc (.cells Tryz.zeroCells126 126)) = .ok () (w'.alloc (.cells C 126)) := fun w' =>
          run_storeCells_new (P := Tryz.prog) w' 126 _ _ (by rw [hsz]; kernel_rfl) (by rw [zero_pw, wv_size _ _ nought_len, hsz]) (by have := all_oneCell_toArray hone.out; simpa using this)
        have hC0 : C[0] = .int .i64 x.file := by have := h0.out; rw [Array.getElem?_eq_getElem (by omega)] at this; injection this
        clear hC
        by_cases hq : x.file = f
        · have hq1 : ((x.file : Int) == (f : Int)) = true := by simp [hq]
          have HPUT := Lib.hid (hput.out hq)
          have hpt2 := HPT.out
          have hct2 := HCT.out
          rw [if_pos (decide_eq_true hq)] at hpt2 hct2
          have HP2 := Lib.hid hpt2
          have HC2 := Lib.hid hct2
          have hh3 : (wr.alloc (.cells C 126)).heap[wr.heap.size]? = some (.cells C 126) ∧ (wr.alloc (.cells C 126)).cell? ⟨g, 5, none⟩ = some (.map (some c2)) ∧ (wr.alloc (.cells C 126)).cell? ⟨g, 6, none⟩ = some (.map (some p2)) :=
            ⟨heap_alloc_new wr _, cell_kept ((Below.refl _ _).alloc (Nat.le_refl _) _) (cell_of_row _ _ _ _ _ _ hrow1.out), cell_kept ((Below.refl _ _).alloc (Nat.le_refl _) _) (cell_of_row _ _ _ _ _ _ hrow1.out)⟩
          clear hq hpt2 hct2 hput
          go_wp2_with (first | (refine wpList_load_mid rfl 126 _ rfl b (k * 514) (by simp [Act.eval]) _ _ hra.out Tryz.underlying126 rfl (by rw [hsl]; kernel_rfl) ?_) | fail)
          refine wp_region_held_drew (S := fun W => W.heap[wr.heap.size]? = some (.cells C 126) ∧ W.cell? ⟨g, 5, none⟩ = some (.map (some c2)) ∧ W.cell? ⟨g, 6, none⟩ = some (.map (some p2))) (by kernel_rfl) hh3 (fun hS => ?_)
          refine wpAnyH_take (i := 4) (v := .agg C) rfl (by kernel_rfl) (by kernel_rfl) (by kernel_rfl) (fun _ _ _ h => h) (yieldsIf_load_pw (by rfl) _ rfl wr.heap.size rfl hsz (fun _ hW => hW.1)) hS ?_
          try simp only [Act.put, List.getElem_toArray, List.getElem_cons_succ, List.getElem_cons_zero, List.setIfInBounds_toArray, List.set_cons_zero, List.set_cons_succ]
          refine wpAnyH_take (i := 0) (v := .pointer (some ⟨g, 0, none⟩)) rfl (by kernel_rfl) (by kernel_rfl) (by kernel_rfl) (fun _ _ _ h => h) (Or.inl ⟨by rfl, fun W hW => by obtain ⟨_, hW3, hW4⟩ := hW; go_simp⟩) hS ?_
          try simp only [Act.put, List.getElem_toArray, List.getElem_cons_zero, List.setIfInBounds_toArray, List.set_cons_zero, List.set_cons_succ]
          refine wpAnyH_take (i := 1) (v := .pointer (some ⟨g, 0, none⟩)) rfl (by kernel_rfl) (by kernel_rfl) (by kernel_rfl) (fun _ _ _ h => h) (Or.inl ⟨by rfl, fun W hW => by obtain ⟨_, hW3, hW4⟩ := hW; go_simp⟩) hS ?_
          try simp only [Act.put, List.getElem_toArray, List.getElem_cons_succ, List.getElem_cons_zero, List.setIfInBounds_toArray, List.set_cons_zero, List.set_cons_succ]
          refine wpAnyH_take (i := 2) (v := .pointer (some ⟨g, 5, none⟩)) rfl (by kernel_rfl) (by kernel_rfl) (by kernel_rfl) (fun _ _ _ h => h) (Or.inl ⟨by rfl, fun W hW => by obtain ⟨_, hW3, hW4⟩ := hW; go_simp⟩) hS ?_
          try simp only [Act.put, List.getElem_toArray, List.getElem_cons_succ, List.getElem_cons_zero, List.setIfInBounds_toArray, List.set_cons_zero, List.set_cons_succ]
          refine wpAnyH_take (i := 3) (v := .agg #[.map (some c2), .map (some p2)]) rfl (by kernel_rfl) (by kernel_rfl) (by kernel_rfl) (fun _ _ _ h => h) (Or.inl ⟨by rfl, fun W hW => by obtain ⟨_, hW3, hW4⟩ := hW; go_simp⟩) hS ?_
          try simp only [Act.put, List.getElem_toArray, List.getElem_cons_succ, List.getElem_cons_zero, List.setIfInBounds_toArray, List.set_cons_zero, List.set_cons_succ]
          refine wpAnyH_ready (rs := [5]) (by kernel_rfl) (by simp) ?_
          refine AllReadyH.cons rfl (fun K hK => ?_) AllReadyH.nil
          rw [if_pos (by rfl)]
          go_simp
          refine HPUT.out.mono ?_
          rintro e w4 ⟨rfl, hsd4, ha4⟩
          have hs4 := ha4.size
          have hh4 : w4.heap[wr.heap.size]? = some (.cells C 126) ∧ w4.cell? ⟨g, 5, none⟩ = some (.map (some c2)) ∧ w4.cell? ⟨g, 6, none⟩ = some (.map (some p2)) := by
            refine ⟨(ha4.block wr.heap.size (by show wr.heap.size < (wr.alloc (.cells C 126)).heap.size; simp) (by rintro (e | e) <;> omega)).trans hh3.1, (ha4.cell (p := ⟨g, 5, none⟩) (by show g < (wr.alloc (.cells C 126)).heap.size; simp; omega) (by rintro (e | e) <;> (have e : g = _ := e; omega))).trans hh3.2.1, (ha4.cell (p := ⟨g, 6, none⟩) (by show g < (wr.alloc (.cells C 126)).heap.size; simp; omega) (by rintro (e | e) <;> (have e : g = _ := e; omega))).trans hh3.2.2⟩
          refine hK.out _ _ hh4 (fun hS4 => ?_)
          refine wpAnyH_done (by kernel_rfl) ?_ _
          try simp only [Act.put, List.getElem_toArray, List.getElem_cons_succ, List.getElem_cons_zero, List.setIfInBounds_toArray, List.set_cons_zero, List.set_cons_succ]
          have HSD4 := Lib.hid hsd4
          have HA4 : Hid (Apart (two c2 p2) w w4) := (ha.out.alloc _).drew.trans (ha4.mono (fun _ => .inl))
          clear hS4 hS hh4 hsd4 ha4 hK K hh3
          go_wp2_with fail
          go_roundw
          case rel => exact ⟨k + 1, by go_num, by omega, (by rw [HP2.out, HC2.out]; exact HSD4.out), HA4.out⟩
          case measure => simp [intOf]; omega
        · have hq1 : ((x.file : Int) == (f : Int)) = false := by simp; omega
          have hpt2 := HPT.out
          have hct2 := HCT.out
          rw [if_neg (by simpa using hq)] at hpt2 hct2
          have HP2 := Lib.hid hpt2
          have HC2 := Lib.hid hct2
          clear hq hpt2 hct2 hput
          go_wp2_with (first | (refine wpList_load_mid rfl 126 _ rfl b (k * 514) (by simp [Act.eval]) _ _ hra.out Tryz.underlying126 rfl (by rw [hsl]; kernel_rfl) ?_) | fail)
          go_roundw
          case rel => exact ⟨k + 1, by go_num, by omega, (by rw [HP2.out, HC2.out]; exact hsd.out.heap (Below.heap_alloc _ _ _ (by omega)) (Below.heap_alloc _ _ _ (by omega))), ha.out.alloc _⟩
          case measure => simp [intOf]; omega
      · have hkl : k = P.late.length := by omega
        have hs2 := hsd.out
        rw [hkl, List.take_of_length_le (Nat.le_refl _)] at hs2
        have hge : (P.late.length : Int) ≤ k := by omega
        have hlate1 := row_kept (w' := wr) H.out.late (fun c hc => by injection hc with hc; rw [← hc]; exact ha.out.block b hbl (by rintro (e | e); exact hbn.2.2.2.2.1 e; exact hbn.2.2.2.2.2 e))
        have hfg := forget_core g bf c1 p1 c2 p2 f 0 P _ wr hrow1.out hlate1 HL.out hlen hneg
        have HFG := Lib.hid hfg
        have HS2 := Lib.hid hs2
        clear hfg hs2 hlate1 hkl
        go_wp2_with fail
        refine HFG.out.mono ?_
        intro e w2 hfg
        have hend := settle_end H.out ha.out HS2.out hj0 hfg
        have HEND := Lib.hid hend
        obtain rfl := hfg.1
        clear hend hfg
        go_wp2_with fail
        go_end0
        exact HEND.out

end Go.Proofs.YtlchmkpnehbnlaaGreatDoor.Cd
