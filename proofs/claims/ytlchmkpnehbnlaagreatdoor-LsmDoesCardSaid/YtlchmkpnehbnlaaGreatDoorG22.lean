/-
  A disk whose blocks are those of a set: Cut, Remove, Rename, and what is asked of it. Conditions: none.
-/
import Derived.Test.YtlchmkpnehbnlaaGreatDoorG19
import Derived.Test.YtlchmkpnehbnlaaGreatDoorG21
import Derived.Test.YtlchmkpnehbnlaaGreatDoorG20
import Derived.Test.YtlchmkpnehbnlaaGreatDoorG1
/-
  lose: the power goes. Conditions: none.
-/
namespace Go.Proofs.YtlchmkpnehbnlaaGreatDoor.Cd
open Go.RowKit

def keepSel (keep : Nat) : Nat → Pw → Bool := fun i _ => keepBit keep i
def loseP (P : Pd) (keep : Nat) : Pd :=
  { P with now := (playS (keepSel keep) 0 P.late (P.safe, P.ns)).1, nn := (playS (keepSel keep) 0 P.late (P.safe, P.ns)).2, safe := (playS (keepSel keep) 0 P.late (P.safe, P.ns)).1, ns := (playS (keepSel keep) 0 P.late (P.safe, P.ns)).2, late := [], off := true, fuse := 0 }

theorem loseP_fits {P : Pd} {N keep : Nat} (h : Fits P N) (hr : (playS (keepSel keep) 0 P.late (P.safe, P.ns)).2 ≤ P.room) : Fits (loseP P keep) N := by
  have hok := playS_ok (sel := keepSel keep) P.late 0 (P.safe, P.ns) (m := P.made) ⟨h.safe, fun x hx => (h.fresh x hx).2⟩ h.late
  have hn : (playS (keepSel keep) 0 P.late (P.safe, P.ns)).2 ≤ P.ns + 4097 * cntS (keepSel keep) 0 P.late := playS_n (sel := keepSel keep) P.late 0 (P.safe, P.ns) h.late
  have hc := cntS_le (keepSel keep) P.late 0
  have hs := h.nss
  refine ⟨h.top, h.room, h.made, h.acts, Nat.zero_le _, h.keep, fun x hx => by simp [loseP] at hx, hok.len, hok.len, hr, ?_, h.files, fun x hx => ⟨hok.fresh x hx, hok.fresh x hx⟩⟩
  show (playS (keepSel keep) 0 P.late (P.safe, P.ns)).2 + 4097 * ([] : List Pw).length ≤ _
  simp only [List.length_nil]
  omega

def lostW (w : World) (g c p : Nat) : World :=
  ((((w.setCell ⟨g, 3, none⟩ (.map (some c))).setCell ⟨g, 4, none⟩ (.map (some p))).setCell ⟨g, 7, none⟩ (.slice none 0 0)).setCell ⟨g, 8, none⟩ (.bool true)).setCell ⟨g, 10, none⟩ (.int .i64 0)
theorem lostW_other (w : World) (g c p b : Nat) (h : b ≠ g) : (lostW w g c p).heap[b]? = w.heap[b]? := by
  unfold lostW
  rw [heap_setCell_other _ _ _ _ h, heap_setCell_other _ _ _ _ h, heap_setCell_other _ _ _ _ h, heap_setCell_other _ _ _ _ h, heap_setCell_other _ _ _ _ h]
theorem lostW_size (w : World) (g c p : Nat) : (lostW w g c p).heap.size = w.heap.size := by simp [lostW]

theorem lose_end {w w1 w2 : World} {g N bf c1 p1 c2 p2 j keep c p : Nat} {S : Nat → Prop} {P : Pd} {lv : Value} (h : DiskR w g S P N bf c1 p1 c2 p2 lv) (ha : Apart (two c2 p2) w w1)
    (hs : Side w1 c2 p2 (playS (keepSel keep) 0 P.late (P.safe, P.ns)).1 (playS (keepSel keep) 0 P.late (P.safe, P.ns)).2 (j + cntS (keepSel keep) 0 P.late)) (hj : j + P.late.length ≤ N) (hr : (playS (keepSel keep) 0 P.late (P.safe, P.ns)).2 ≤ P.room)
    (hb : Below w1.heap.size w1 w2) (ht : Side w2 c p (playS (keepSel keep) 0 P.late (P.safe, P.ns)).1 (playS (keepSel keep) 0 P.late (P.safe, P.ns)).2 (j + cntS (keepSel keep) 0 P.late)) (hc : w1.heap.size ≤ c) (hp : w1.heap.size ≤ p) :
    Makes g S (loseP P keep) N (.tuple #[]) w (.returned (.tuple #[])) (lostW w2 g c p) := by
  obtain ⟨i1, i2, i3, i4, i5, i6⟩ := h.ins
  obtain ⟨n1, n2, n3, n4, n5⟩ := h.neg
  obtain ⟨m1, m2, m3, m4⟩ := h.nef
  obtain ⟨q1, q2, q3, q4⟩ := h.nes
  have hcl := cntS_le (keepSel keep) P.late 0
  have l1 := h.lt g i1
  have l2 := h.lt bf i2
  have l5 := h.lt c2 i5
  have l6 := h.lt p2 i6
  have s1 := ha.size
  have s2 := hb.size
  have ltc := ht.lt
  have hap : Apart S w (lostW w2 g c p) := by
    have h1 : Apart S w w2 := (ha.mono (by rintro b (rfl | rfl) <;> assumption)).trans (.below hb)
    exact apart_setCell (apart_setCell (apart_setCell (apart_setCell (apart_setCell h1 i1 _) i1 _) i1 _) i1 _) i1 _
  have hrow : w2.heap[g]? = some (.cells (dcells P bf c1 p1 c2 p2 lv) 73) := (hb.block g (by omega)).trans ((ha.block g l1 (by rintro (e | e); exact n4 e; exact n5 e)).trans h.row)
  obtain ⟨n, hfl, hn⟩ := h.fil
  have hrow2 : (lostW w2 g c p).heap[g]? = some (.cells (dcells (loseP P keep) bf c p c2 p2 (.slice none 0 0)) 73) :=
    heap_setCell_same _ g 10 _ _ _ (heap_setCell_same _ g 8 _ _ _ (heap_setCell_same _ g 7 _ _ _ (heap_setCell_same _ g 4 _ _ _ (heap_setCell_same w2 g 3 _ _ (.map (some c)) hrow))))
  have hd : DiskR (lostW w2 g c p) g (since S w (lostW w2 g c p)) (loseP P keep) N bf c p c2 p2 (.slice none 0 0) := by
    refine ⟨loseP_fits h.fits hr, hrow2, ⟨n, ?_, hn⟩, ?_, ⟨_, ?_, by show j + cntS (keepSel keep) 0 P.late + ([] : List Pw).length ≤ N; simp only [List.length_nil]; omega⟩, World.ownsRow_nil _ _ _ _, ⟨n1, by omega, by omega, n4, n5⟩, ⟨by omega, by omega, m3, m4⟩, ⟨by omega, by omega, by omega, by omega⟩, (fun b hb => by cases hb), ⟨.inl i1, .inl i2, .inr ⟨by omega, by rw [lostW_size]; omega⟩, .inr ⟨by omega, by rw [lostW_size]; omega⟩, .inl i5, .inl i6⟩, (fun b hb => by cases hb), since_lt h.lt hap.size⟩
    · exact hfl.heap ((lostW_other _ _ _ _ _ (fun e => n1 e.symm)).trans ((hb.block bf (by omega)).trans (ha.block bf l2 (by rintro (e | e); exact m3 e; exact m4 e))))
    · exact (ht.heap (lostW_other _ _ _ _ _ (by omega)) (lostW_other _ _ _ _ _ (by omega))).mono (by omega)
    · exact (hs.below hb (by omega) (by omega)).heap (lostW_other _ _ _ _ _ (fun e => n4 e.symm)) (lostW_other _ _ _ _ _ (fun e => n5 e.symm))
  exact ⟨rfl, ⟨_, _, _, _, _, _, hd⟩, hap⟩

theorem bit_is (keep k : Nat) (hk : keep < 18446744073709551616) : (bits BinOp.and IntKind.u64 ((keep : Int) / 2 ^ (k % 64)) 1 == 1) = keepBit keep k := by
  have h1 : ((keep : Int) / 2 ^ (k % 64)) = ((keep / 2 ^ (k % 64) : Nat) : Int) := by
    rw [Int.natCast_ediv, Int.natCast_pow]
    rfl
  have h2 : keep / 2 ^ (k % 64) < 18446744073709551616 := Nat.lt_of_le_of_lt (Nat.div_le_self _ _) hk
  rw [h1]
  unfold keepBit
  generalize keep / 2 ^ (k % 64) = x at *
  rw [and_one_u64 _ (by omega) (by omega)]
  by_cases h : x % 2 = 1
  · have : ((x : Int) % 2) = 1 := by omega
    simp [h, this]
  · have h0 : x % 2 = 0 := by omega
    have : ((x : Int) % 2) = 0 := by omega
    simp [h0, this]
theorem bit_on {keep k : Nat} (hk : keep < 18446744073709551616) (h : keepBit keep k = true) : (bits BinOp.and IntKind.u64 ((keep : Int) / 2 ^ (k % 64)) 1 == 1) = true := by rw [bit_is keep k hk, h]
theorem bit_off {keep k : Nat} (hk : keep < 18446744073709551616) (h : ¬ keepBit keep k = true) : (bits BinOp.and IntKind.u64 ((keep : Int) / 2 ^ (k % 64)) 1 == 1) = false := by
  rw [bit_is keep k hk]
  cases hb : keepBit keep k
  · rfl
  · exact absurd hb h

set_option maxRecDepth 100000 in
set_option maxHeartbeats 4000000 in
theorem lose_any (g N keep : Nat) (S : Nat → Prop) (P : Pd) (w : World) (h : Rep w g S P N) (hkeep : keep < 18446744073709551616) (hr : (playS (keepSel keep) 0 P.late (P.safe, P.ns)).2 ≤ P.room) :
    Calls Tryz.prog 44 #[.pointer (some ⟨g, 0, none⟩), .int .u64 keep] w (Makes g S (loseP P keep) N (.tuple #[]) w) := by
  obtain ⟨bf, c1, p1, c2, p2, lv, h⟩ := h
  have hl : ∀ x ∈ P.late, x.data.length = 512 := fun x hx => (h.fits.late x hx).2.2
  have hlen : P.late.length ≤ 137438953472 := by obtain ⟨_, _, h9⟩ := h.safe; have := h.fits.top; omega
  have hg := h.lt g h.ins.1
  have hneg : ∀ b, lv.ownBlock = some b → b ≠ g := fun b hb => (h.nel b hb).1
  have c7 : w.cell? ⟨g, 7, none⟩ = some lv := cell_of_row _ _ _ _ _ _ h.row
  have hlate := h.late
  obtain ⟨j0, hsf, hj0⟩ := h.safe
  rcases hlate.2 with ⟨rfl, h0⟩ | ⟨b, cap, cur, rfl, _, _, hncap, hcapm, _, _⟩
  · have hnil : P.late = [] := List.eq_nil_of_length_eq_zero h0
    have hneq := h.neg
    have hi5 := h.lt c2 h.ins.2.2.2.2.1
    have hi6 := h.lt p2 h.ins.2.2.2.2.2
    have hs0 : Side w c2 p2 (playS (keepSel keep) 0 P.late (P.safe, P.ns)).1 (playS (keepSel keep) 0 P.late (P.safe, P.ns)).2 (j0 + cntS (keepSel keep) 0 P.late) := by rw [hnil]; exact hsf
    have htw := twin_any c2 p2 _ _ _ w hs0
    have HTW := Lib.hid htw
    have H := Lib.hid h
    have HS0 := Lib.hid hs0
    have d5 : w.cell? ⟨g, 5, none⟩ = some (.map (some c2)) := cell_of_row _ _ _ _ _ _ h.row
    have d6 : w.cell? ⟨g, 6, none⟩ = some (.map (some p2)) := cell_of_row _ _ _ _ _ _ h.row
    clear h htw hsf hlate hl hneg h0 hnil hs0
    go_enter Tryz.func44, Tryz.ntmps44
    go_wp2_with fail
    refine wp_loop_rounds 1 ?_
    rw [rounds_succ]
    go_wp2_with fail
    refine HTW.out.mono ?_
    rintro e w2 ⟨c, p, rfl, htt, hc, hp, hb⟩
    have hend := lose_end H.out (Apart.refl _ _) HS0.out hj0 hr hb htt hc hp
    have HEND := Lib.hid hend
    have hrow2 : w2.heap[g]? = some (.cells (dcells P bf c1 p1 c2 p2 (.slice none 0 0)) 73) := (hb.block g hg).trans H.out.row
    have z : ∀ k, w2.frozen? ⟨g, k, none⟩ = false := fun k => by simp [World.frozen?, hrow2]
    have x3 : w2.cell? ⟨g, 3, none⟩ = some (.map (some c1)) := cell_of_row _ _ _ _ _ _ hrow2
    have x4 : w2.cell? ⟨g, 4, none⟩ = some (.map (some p1)) := cell_of_row _ _ _ _ _ _ hrow2
    have x7 : w2.cell? ⟨g, 7, none⟩ = some (.slice none 0 0) := cell_of_row _ _ _ _ _ _ hrow2
    have x8 : w2.cell? ⟨g, 8, none⟩ = some (.bool P.off) := cell_of_row _ _ _ _ _ _ hrow2
    have x10 : w2.cell? ⟨g, 10, none⟩ = some (.int .i64 P.fuse) := cell_of_row _ _ _ _ _ _ hrow2
    have z3 := z 3
    have z4 := z 4
    have z7 := z 7
    have z8 := z 8
    have z10 := z 10
    clear hend htt hc hp hb hrow2 z
    go_wp2_with fail
    go_end0
    exact HEND.out
  · have hbl := (World.ownsRow.lt hlate b rfl).2
    have hbn := h.nel b rfl
    have H := Lib.hid h
    have HL := Lib.hid hl
    have HAT := Lib.hid (row_at h.late hl rfl)
    have HSF := Lib.hid hsf
    have hneq := h.neg
    have hi5 := h.lt c2 h.ins.2.2.2.2.1
    have hi6 := h.lt p2 h.ins.2.2.2.2.2
    have hns := h.fits.nss
    have htop := h.fits.top
    have hmade := h.fits.made
    clear h hl hsf hlate
    go_enter Tryz.func44, Tryz.ntmps44
    go_wp2_with fail
    go_loopw [11] (fun i wr => ∃ k : Nat, i = .int .i64 k ∧ k ≤ P.late.length ∧ Hid (Side wr c2 p2 (playS (keepSel keep) 0 (P.late.take k) (P.safe, P.ns)).1 (playS (keepSel keep) 0 (P.late.take k) (P.safe, P.ns)).2 (j0 + cntS (keepSel keep) 0 (P.late.take k))) ∧ Hid (Apart (two c2 p2) w wr)) (fun i _ => P.late.length - (intOf i).toNat)
    case atStart => exact ⟨0, rfl, Nat.zero_le _, HSF.out, Apart.refl _ _⟩
    case round =>
      obtain ⟨k, rfl, hk, hsd, ha⟩ := hrel
      have hwsz := ha.out.size
      have hrow1 : Hid (wr.heap[g]? = some (.cells (dcells P bf c1 p1 c2 p2 (.slice (some ⟨b, 0, none⟩) P.late.length cap)) 73)) := (ha.out.block g hg (by rintro (e | e) <;> omega)).trans H.out.row
      by_cases hlt : k < P.late.length
      · have hlt2 : (k : Int) < P.late.length := by omega
        have hra : Hid (wr.rangeAt b (k * 514) (wv P.late[k].file P.late[k].spot P.late[k].data).toList) := fun o v hv => (ha.out.cell (p := ⟨b, k * 514 + o, none⟩) hbl (by rintro (e | e); exact hbn.2.2.2.2.1 e; exact hbn.2.2.2.2.2 e)).trans (HAT.out k hlt o v hv)
        have hlk := HL.out _ (List.getElem_mem hlt)
        have hxok := H.out.fits.late _ (List.getElem_mem hlt)
        have hpt := playS_take (keepSel keep) hlt (P.safe, P.ns)
        have hct := cntS_take (keepSel keep) hlt
        have hcle := cntS_le (keepSel keep) (P.late.take k) 0
        rw [List.length_take] at hcle
        have hok := playS_ok (sel := keepSel keep) (P.late.take k) 0 (P.safe, P.ns) (m := P.made) ⟨H.out.fits.safe, fun x hx => (H.out.fits.fresh x hx).2⟩ (fun x hx => H.out.fits.late x (List.mem_of_mem_take hx))
        have hnle : (playS (keepSel keep) 0 (P.late.take k) (P.safe, P.ns)).2 ≤ P.ns + 4097 * cntS (keepSel keep) 0 (P.late.take k) := playS_n (sel := keepSel keep) (P.late.take k) 0 (P.safe, P.ns) (fun x hx => H.out.fits.late x (List.mem_of_mem_take hx))
        have hsel : keepSel keep k P.late[k] = keepBit keep k := rfl
        rw [hsel] at hpt hct
        have HPT := Lib.hid hpt
        have HCT := Lib.hid hct
        clear hpt hct hsel
        generalize P.late[k] = x at *
        generalize playS (keepSel keep) 0 (P.late.take k) (P.safe, P.ns) = s at *
        have hsz := wv_size x.file x.spot hlk
        obtain ⟨C, hC⟩ : ∃ C, wv x.file x.spot x.data = C := ⟨_, rfl⟩
        have hone : Hid (∀ v ∈ C.toList, v.oneCell' = true) := by rw [← hC]; exact wv_one x.file x.spot x.data
        have h0 : Hid (C[0]? = some (.int .i64 x.file)) := by subst hC; rfl
        have hput : Hid (Calls Tryz.prog 79 #[.agg #[.map (some c2), .map (some p2)], .agg C] (wr.alloc (.cells C 126)).drew (SidePut c2 p2 x.file x.spot x.data s.1 s.2 (j0 + cntS (keepSel keep) 0 (P.late.take k)) (wr.alloc (.cells C 126)).drew)) := by
          rw [← hC]
          exact sideput_any c2 p2 x.file x.spot x.data s.1 s.2 _ _ (hsd.out.heap (Below.heap_alloc _ _ _ (by omega)) (Below.heap_alloc _ _ _ (by omega))) hlk (by have := hxok.1; unfold lim; omega) (by have := hxok.2.1; omega) (by have := hok.len x.file; omega) (by unfold lim; omega) (by unfold lim; omega)
        rw [hC] at hsz hra
        have hsl : C.toList.length = 514 := by simpa using hsz
        have hst : ∀ w' : World, (storeCells ⟨w'.heap.size, 0, none⟩ C.toList 0).run Tryz.prog (w'.alloc (.cells Tryz.zeroCells126 126)) = .ok () (w'.alloc (.cells C 126)) := fun w' =>
          run_storeCells_new (P := Tryz.prog) w' 126 _ _ (by rw [hsz]; kernel_rfl) (by rw [zero_pw, wv_size _ _ nought_len, hsz]) (by have := all_oneCell_toArray hone.out; simpa using this)
        clear hC
        by_cases hq : keepBit keep k = true
        · have hq1 := bit_on hkeep hq
          have HPUT := Lib.hid hput.out
          have hpt2 := HPT.out
          have hct2 := HCT.out
          rw [if_pos hq] at hpt2 hct2
          have HP2 := Lib.hid hpt2
          have HC2 := Lib.hid hct2
          have hh3 : (wr.alloc (.cells C 126)).heap[wr.heap.size]? = some (.cells C 126) ∧ (wr.alloc (.cells C 126)).cell? ⟨g, 5, none⟩ = some (.map (some c2)) ∧ (wr.alloc (.cells C 126)).cell? ⟨g, 6, none⟩ = some (.map (some p2)) :=
            ⟨heap_alloc_new wr _, cell_kept ((Below.refl _ _).alloc (Nat.le_refl _) _) (cell_of_row _ _ _ _ _ _ hrow1.out), cell_kept ((Below.refl _ _).alloc (Nat.le_refl _) _) (cell_of_row _ _ _ _ _ _ hrow1.out)⟩
          clear hq hpt2 hct2 hput
          go_wp2_with (first | (refine wpList_load_mid rfl 126 _ rfl b (k * 514) (by simp [Act.eval]) _ _ hra.out Tryz.underlying126 rfl (by rw [hsl]; kernel_rfl) ?_) | fail)
          refine wp_region_held_drew (S := fun W => W.heap[wr.heap.size]? = some (.cells C 126) ∧ W.cell? ⟨g, 5, none⟩ = some (.map (some c2)) ∧ W.cell? ⟨g, 6, none⟩ = some (.map (some p2))) (by kernel_rfl) hh3 (fun hS => ?_)
          refine wpAnyH_take (i := 4) (v := .agg C) rfl (by kernel_rfl) (by kernel_rfl) (by kernel_rfl) (fun _ _ _ h => h) (yieldsIf_load_pw (by rfl) _ rfl wr.heap.size rfl hsz (fun _ hW => hW.1)) hS ?_
          try simp only [Act.put, List.getElem_toArray, List.getElem_cons_succ, List.getElem_cons_zero, List.setIfInBounds_toArray, List.set_cons_zero, List.set_cons_succ]
          refine wpAnyH_take (i := 0) (v := .pointer (some ⟨g, 0, none⟩)) rfl (by kernel_rfl) (by kernel_rfl) (by kernel_rfl) (fun _ _ _ h => h) (Or.inl ⟨by rfl, fun W hW => by obtain ⟨_, hW3, hW4⟩ := hW; go_simp⟩) hS ?_
          try simp only [Act.put, List.getElem_toArray, List.getElem_cons_zero, List.setIfInBounds_toArray, List.set_cons_zero, List.set_cons_succ]
          refine wpAnyH_take (i := 1) (v := .pointer (some ⟨g, 0, none⟩)) rfl (by kernel_rfl) (by kernel_rfl) (by kernel_rfl) (fun _ _ _ h => h) (Or.inl ⟨by rfl, fun W hW => by obtain ⟨_, hW3, hW4⟩ := hW; go_simp⟩) hS ?_
          try simp only [Act.put, List.getElem_toArray, List.getElem_cons_succ, List.getElem_cons_zero, List.setIfInBounds_toArray, List.set_cons_zero, List.set_cons_succ]
          refine wpAnyH_take (i := 2) (v := .pointer (some ⟨g, 5, none⟩)) rfl (by kernel_rfl) (by kernel_rfl) (by kernel_rfl) (fun _ _ _ h => h) (Or.inl ⟨by rfl, fun W hW => by obtain ⟨_, hW3, hW4⟩ := hW; go_simp⟩) hS ?_
          try simp only [Act.put, List.getElem_toArray, List.getElem_cons_succ, List.getElem_cons_zero, List.setIfInBounds_toArray, List.set_cons_zero, List.set_cons_succ]
          refine wpAnyH_take (i := 3) (v := .agg #[.map (some c2), .map (some p2)]) rfl (by kernel_rfl) (by kernel_rfl) (by kernel_rfl) (fun _ _ _ h => h) (Or.inl ⟨by rfl, fun W hW => by obtain ⟨_, hW3, hW4⟩ := hW; go_simp⟩) hS ?_
          try simp only [Act.put, List.getElem_toArray, List.getElem_cons_succ, List.getElem_cons_zero, List.setIfInBounds_toArray, List.set_cons_zero, List.set_cons_succ]
          refine wpAnyH_ready (rs := [5]) (by kernel_rfl) (by simp) ?_
          refine AllReadyH.cons rfl (fun K hK => ?_) AllReadyH.nil
          rw [if_pos (by rfl)]
          go_simp
          refine HPUT.out.mono ?_
          rintro e w4 ⟨rfl, hsd4, ha4⟩
          have hs4 := ha4.size
          have hh4 : w4.heap[wr.heap.size]? = some (.cells C 126) ∧ w4.cell? ⟨g, 5, none⟩ = some (.map (some c2)) ∧ w4.cell? ⟨g, 6, none⟩ = some (.map (some p2)) := by
            refine ⟨(ha4.block wr.heap.size (by show wr.heap.size < (wr.alloc (.cells C 126)).heap.size; simp) (by rintro (e | e) <;> omega)).trans hh3.1, (ha4.cell (p := ⟨g, 5, none⟩) (by show g < (wr.alloc (.cells C 126)).heap.size; simp; omega) (by rintro (e | e) <;> (have e : g = _ := e; omega))).trans hh3.2.1, (ha4.cell (p := ⟨g, 6, none⟩) (by show g < (wr.alloc (.cells C 126)).heap.size; simp; omega) (by rintro (e | e) <;> (have e : g = _ := e; omega))).trans hh3.2.2⟩
          refine hK.out _ _ hh4 (fun hS4 => ?_)
          refine wpAnyH_done (by kernel_rfl) ?_ _
          try simp only [Act.put, List.getElem_toArray, List.getElem_cons_succ, List.getElem_cons_zero, List.setIfInBounds_toArray, List.set_cons_zero, List.set_cons_succ]
          have HSD4 := Lib.hid hsd4
          have HA4 : Hid (Apart (two c2 p2) w w4) := (ha.out.alloc _).drew.trans (ha4.mono (fun _ => .inl))
          clear hS4 hS hh4 hsd4 ha4 hK K hh3
          go_wp2_with fail
          go_roundw
          case rel => exact ⟨k + 1, by go_num, by omega, (by rw [HP2.out, HC2.out]; exact HSD4.out), HA4.out⟩
          case measure => simp [intOf]; omega
        · have hq1 := bit_off hkeep hq
          have hpt2 := HPT.out
          have hct2 := HCT.out
          rw [if_neg hq] at hpt2 hct2
          have HP2 := Lib.hid hpt2
          have HC2 := Lib.hid hct2
          clear hq hpt2 hct2 hput
          go_wp2_with (first | (refine wpList_load_mid rfl 126 _ rfl b (k * 514) (by simp [Act.eval]) _ _ hra.out Tryz.underlying126 rfl (by rw [hsl]; kernel_rfl) ?_) | fail)
          go_roundw
          case rel => exact ⟨k + 1, by go_num, by omega, (by rw [HP2.out, HC2.out]; exact hsd.out.heap (Below.heap_alloc _ _ _ (by omega)) (Below.heap_alloc _ _ _ (by omega))), ha.out.alloc _⟩
          case measure => simp [intOf]; omega
      · have hkl : k = P.late.length := by omega
        have hs2 := hsd.out
        rw [hkl, List.take_of_length_le (Nat.le_refl _)] at hs2
        have hge : (P.late.length : Int) ≤ k := by omega
        have htw := twin_any c2 p2 _ _ _ wr hs2
        have HTW := Lib.hid htw
        have HS2 := Lib.hid hs2
        have d5 : wr.cell? ⟨g, 5, none⟩ = some (.map (some c2)) := cell_of_row _ _ _ _ _ _ hrow1.out
        have d6 : wr.cell? ⟨g, 6, none⟩ = some (.map (some p2)) := cell_of_row _ _ _ _ _ _ hrow1.out
        clear htw hs2 hkl
        go_wp2_with fail
        refine HTW.out.mono ?_
        rintro e w2 ⟨c, p, rfl, htt, hc, hp, hb⟩
        have hend := lose_end H.out ha.out HS2.out hj0 hr hb htt hc hp
        have HEND := Lib.hid hend
        have hrow2 : w2.heap[g]? = some (.cells (dcells P bf c1 p1 c2 p2 (.slice (some ⟨b, 0, none⟩) P.late.length cap)) 73) := (hb.block g (by omega)).trans hrow1.out
        have z : ∀ k, w2.frozen? ⟨g, k, none⟩ = false := fun k => by simp [World.frozen?, hrow2]
        have x3 : w2.cell? ⟨g, 3, none⟩ = some (.map (some c1)) := cell_of_row _ _ _ _ _ _ hrow2
        have x4 : w2.cell? ⟨g, 4, none⟩ = some (.map (some p1)) := cell_of_row _ _ _ _ _ _ hrow2
        have x7 : w2.cell? ⟨g, 7, none⟩ = some (.slice (some ⟨b, 0, none⟩) P.late.length cap) := cell_of_row _ _ _ _ _ _ hrow2
        have x8 : w2.cell? ⟨g, 8, none⟩ = some (.bool P.off) := cell_of_row _ _ _ _ _ _ hrow2
        have x10 : w2.cell? ⟨g, 10, none⟩ = some (.int .i64 P.fuse) := cell_of_row _ _ _ _ _ _ hrow2
        have z3 := z 3
        have z4 := z 4
        have z7 := z 7
        have z8 := z 8
        have z10 := z 10
        clear hend htt hc hp hb hrow2 z
        go_wp2_with fail
        go_end0
        exact HEND.out

end Go.Proofs.YtlchmkpnehbnlaaGreatDoor.Cd

/-
  burn: an act is counted, and the power may go in it; Off. Conditions: none.
-/
namespace Go.Proofs.YtlchmkpnehbnlaaGreatDoor.Cd
open Go.RowKit

theorem Makes.trans {g N M : Nat} {S : Nat → Prop} {P Q : Pd} {u v : Value} {w w1 w2 : World} {e1 e2 : Ending} (h : Makes g S P N u w e1 w1) (k : Makes g (since S w w1) Q M v w1 e2 w2) : Makes g S Q M v w e2 w2 := by
  obtain ⟨_, h2, h3⟩ := h
  obtain ⟨k1, k2, k3⟩ := k
  have hs1 := h3.size
  have hs2 := k3.size
  refine ⟨k1, k2.more (fun b hb => (since_trans hs1 hs2 b).1 hb) (fun b hb => k2.lt b ((since_trans hs1 hs2 b).2 hb)), h3.trans k3⟩

def ticP (P : Pd) : Pd := { P with acts := P.acts + 1, fuse := P.fuse - 1 }
def burnP (P : Pd) : Pd := if P.fuse = 1 then loseP (ticP P) P.keep else ticP P

theorem ticP_fits {P : Pd} {N : Nat} (h : Fits P N) (hN : N < 137438953472) : Fits (ticP P) (N + 1) := by
  have h2 := h.mono (Nat.le_succ N) (by omega)
  exact ⟨h2.top, h.room, h2.made, by show P.acts + 1 ≤ N + 1; have := h.acts; omega, by show P.fuse - 1 ≤ _; have := h.fuse; omega, h.keep, h.late, h.now, h.safe, h.nns, h2.nss, h.files, h.fresh⟩

set_option maxRecDepth 100000 in
set_option maxHeartbeats 1600000 in
theorem burn_any (g N : Nat) (S : Nat → Prop) (P : Pd) (w : World) (h : Rep w g S P N) (hr : P.fuse = 1 → (playS (keepSel P.keep) 0 P.late (P.safe, P.ns)).2 ≤ P.room) (hN : N < 137438953472) :
    Calls Tryz.prog 135 #[.pointer (some ⟨g, 0, none⟩)] w (Makes g S (burnP P) (N + 1) (.bool (decide (P.fuse = 1))) w) := by
  obtain ⟨bf, c1, p1, c2, p2, lv, h⟩ := h
  have c9 : w.cell? ⟨g, 9, none⟩ = some (.int .i64 P.acts) := cell_of_row _ _ _ _ _ _ h.row
  have c10 : w.cell? ⟨g, 10, none⟩ = some (.int .i64 P.fuse) := cell_of_row _ _ _ _ _ _ h.row
  have c11 : w.cell? ⟨g, 11, none⟩ = some (.int .u64 P.keep) := cell_of_row _ _ _ _ _ _ h.row
  have f9 := h.frozen 9
  have f10 := h.frozen 10
  have hacts := h.fits.acts
  have htop := h.fits.top
  have hfuse := h.fits.fuse
  have hkeep := h.fits.keep
  have hmono := h.mono (Nat.le_succ N) (by omega)
  have hfit := ticP_fits h.fits hN
  have hd1 := hmono.cell 9 (.int .i64 ((P.acts + 1 : Nat) : Int)) { P with acts := P.acts + 1 } rfl ⟨rfl, rfl, rfl, rfl, rfl, rfl⟩ ⟨hfit.top, hfit.room, hfit.made, hfit.acts, hfuse, hfit.keep, hfit.late, hfit.now, hfit.safe, hfit.nns, hfit.nss, hfit.files, hfit.fresh⟩
  have hd2 := hd1.cell 10 (.int .i64 ((P.fuse - 1 : Nat) : Int)) (ticP P) rfl ⟨rfl, rfl, rfl, rfl, rfl, rfl⟩ hfit
  have hi1 := h.ins.1
  have hltS := h.lt
  have hA1 : Apart S w (w.setCell ⟨g, 9, none⟩ (.int .i64 ((P.acts + 1 : Nat) : Int))) := apart_setCell (.refl _ _) hi1 _
  have hA2 : Apart S w ((w.setCell ⟨g, 9, none⟩ (.int .i64 ((P.acts + 1 : Nat) : Int))).setCell ⟨g, 10, none⟩ (.int .i64 ((P.fuse - 1 : Nat) : Int))) := apart_setCell hA1 hi1 _
  have hcast : ((P.acts + 1 : Nat) : Int) = (P.acts : Int) + 1 := by omega
  rw [hcast] at hd1 hd2 hA1 hA2
  by_cases h0 : P.fuse = 0
  · have hb : burnP P = { P with acts := P.acts + 1 } := by
      unfold burnP ticP
      rw [if_neg (by omega), h0]
    have hq : ((P.fuse : Int) == 0) = true := by simp [h0]
    rw [hb, decide_eq_false (by omega)]
    have HD := Lib.hid hd1
    have HA := Lib.hid hA1
    have HLT := Lib.hid hltS
    clear h hmono hfit hd1 hd2 hA1 hA2 hr hb
    go_enter Tryz.func135, Tryz.ntmps135
    go_wp2_with fail
    go_ret
    exact ⟨rfl, ⟨_, _, _, _, _, _, HD.out.more (fun _ => .inl) (since_lt HLT.out HA.out.size)⟩, HA.out⟩
  · have hq : ((P.fuse : Int) == 0) = false := by simp [h0]
    have hcf : ((P.fuse - 1 : Nat) : Int) = (P.fuse : Int) - 1 := by omega
    rw [hcf] at hd2 hA2
    have x10 : (w.setCell ⟨g, 9, none⟩ (.int .i64 ((P.acts : Int) + 1))).cell? ⟨g, 10, none⟩ = some (.int .i64 P.fuse) := by rw [World.cell?_setCell_other _ _ _ _ (by simp)]; exact c10
    by_cases h1 : P.fuse = 1
    · have hb : burnP P = loseP (ticP P) P.keep := by unfold burnP; rw [if_pos h1]
      have hle : (P.fuse : Int) - 1 = 0 := by omega
      rw [hle] at hd2 hA2
      rw [hb, decide_eq_true h1]
      have x11 : ((w.setCell ⟨g, 9, none⟩ (.int .i64 ((P.acts : Int) + 1))).setCell ⟨g, 10, none⟩ (.int .i64 0)).cell? ⟨g, 11, none⟩ = some (.int .u64 P.keep) := cell_of_row _ _ _ _ _ _ hd2.row
      have hlo := lose_any g (N + 1) P.keep S (ticP P) _ ⟨_, _, _, _, _, _, hd2⟩ hkeep (hr h1)
      have HLO := Lib.hid hlo
      have HA := Lib.hid hA2
      clear h hmono hfit hd1 hd2 hA1 hA2 hr hb hlo
      go_enter Tryz.func135, Tryz.ntmps135
      go_wp2_with fail
      refine HLO.out.mono ?_
      intro e w2 hmk
      have HMK := Lib.hid (makes_up HA.out hmk)
      obtain rfl := hmk.1
      clear hmk
      go_wp2_with fail
      go_ret
      exact ⟨rfl, HMK.out.2⟩
    · have hb : burnP P = ticP P := by unfold burnP; rw [if_neg h1]
      have hgt : (0 : Int) < (P.fuse : Int) - 1 := by omega
      rw [hb, decide_eq_false h1]
      have HD := Lib.hid hd2
      have HA := Lib.hid hA2
      have HLT := Lib.hid hltS
      clear h hmono hfit hd1 hd2 hA1 hA2 hr hb
      go_enter Tryz.func135, Tryz.ntmps135
      go_wp2_with fail
      go_ret
      exact ⟨rfl, ⟨_, _, _, _, _, _, HD.out.more (fun _ => .inl) (since_lt HLT.out HA.out.size)⟩, HA.out⟩

def offP (P : Pd) (keep : Nat) : Pd := if P.off = true then P else loseP P keep

set_option maxRecDepth 100000 in
set_option maxHeartbeats 800000 in
theorem off_any (g N keep : Nat) (S : Nat → Prop) (P : Pd) (w : World) (h : Rep w g S P N) (hkeep : keep < 18446744073709551616) (hr : P.off = false → (playS (keepSel keep) 0 P.late (P.safe, P.ns)).2 ≤ P.room) :
    Calls Tryz.prog 22 #[.pointer (some ⟨g, 0, none⟩), .int .u64 keep] w (Makes g S (offP P keep) N (.tuple #[]) w) := by
  have hre := ready_any g N S P w h
  cases hoff : P.off
  · have he : errR P = 0 := by unfold errR; rw [hoff]; rfl
    have hb : offP P keep = loseP P keep := by unfold offP; rw [hoff]; rfl
    rw [he] at hre
    rw [hb]
    have HR := Lib.hid hre
    have HLO := Lib.hid (lose_any g N keep S P w h hkeep (hr hoff))
    clear hre h hr hb
    go_enter Tryz.func22, Tryz.ntmps22
    go_wp2_with fail
    refine HR.out.mono ?_
    rintro e w1 ⟨rfl, rfl⟩
    go_wp2_with fail
    refine HLO.out.mono ?_
    intro e w2 hmk
    have HMK := Lib.hid hmk
    obtain rfl := hmk.1
    clear hmk
    go_wp2_with fail
    go_end0
    exact HMK.out
  · have he : errR P = 8 := by unfold errR; rw [hoff]; rfl
    have hb : offP P keep = P := by unfold offP; rw [hoff]; rfl
    rw [he] at hre
    rw [hb]
    have HR := Lib.hid hre
    have H := Lib.hid h
    clear hre h hr hb
    go_enter Tryz.func22, Tryz.ntmps22
    go_wp2_with fail
    refine HR.out.mono ?_
    rintro e w1 ⟨rfl, rfl⟩
    go_wp2_with fail
    go_end0
    exact ⟨rfl, H.out.more (fun _ => .inl) (since_lt H.out.lt (Nat.le_refl _)), Apart.refl _ _⟩

end Go.Proofs.YtlchmkpnehbnlaaGreatDoor.Cd

/-
  Acts: Sync, Cut, Remove; what an act does unless the power goes in it. Conditions: none.
-/
namespace Go.Proofs.YtlchmkpnehbnlaaGreatDoor.Cd
open Go.RowKit

def Acted (g N M : Nat) (S : Nat → Prop) (P Q : Pd) (w : World) (e : Ending) (w' : World) : Prop :=
  (P.fuse = 1 → Makes g S (loseP (ticP P) P.keep) (N + 1) (.int .i64 8) w e w') ∧ (P.fuse ≠ 1 → Makes g S Q M (.int .i64 0) w e w')

def Does (fn : Nat) (caps : Array Value) (g N M : Nat) (S : Nat → Prop) (P Q : Pd) (w : World) : Prop :=
  ∀ w1, Apart S w w1 → Rep w1 g (since S w w1) (ticP P) (N + 1) → Calls Tryz.prog fn caps w1 (Makes g (since S w w1) Q M (.tuple #[]) w1)

set_option maxRecDepth 100000 in
set_option maxHeartbeats 800000 in
theorem act_sync (g N M : Nat) (S : Nat → Prop) (P Q : Pd) (a1 a2 : Addr) (w : World) (h : Rep w g S P N) (hr : P.fuse = 1 → (playS (keepSel P.keep) 0 P.late (P.safe, P.ns)).2 ≤ P.room) (hN : N < 137438953472)
    (hd : P.fuse ≠ 1 → Does 123 #[.pointer (some a1), .pointer (some a2)] g N M S P Q w) :
    Calls Tryz.prog 102 #[.pointer (some ⟨g, 0, none⟩), .func (.func 123) #[] #[.pointer (some a1), .pointer (some a2)]] w (Acted g N M S P Q w) := by
  have hb := burn_any g N S P w h hr hN
  have HB := Lib.hid hb
  have HD := Lib.hid hd
  clear hb h hd hr
  by_cases h1 : P.fuse = 1
  · have he : burnP P = loseP (ticP P) P.keep := by unfold burnP; rw [if_pos h1]
    rw [he, decide_eq_true h1] at HB
    go_enter Tryz.func102, Tryz.ntmps102
    go_wp2_with fail
    refine HB.out.mono ?_
    intro e w2 hmk
    have HMK := Lib.hid hmk
    obtain rfl := hmk.1
    clear hmk
    go_wp2_with fail
    go_ret
    exact ⟨fun _ => ⟨rfl, HMK.out.2⟩, fun h => absurd h1 h⟩
  · have he : burnP P = ticP P := by unfold burnP; rw [if_neg h1]
    rw [he, decide_eq_false h1] at HB
    have HD2 := Lib.hid (HD.out h1)
    clear HD
    go_enter Tryz.func102, Tryz.ntmps102
    go_wp2_with fail
    refine HB.out.mono ?_
    intro e w2 hmk
    have HMK := Lib.hid hmk
    have hdo := Lib.hid (HD2.out w2 hmk.2.2 hmk.2.1)
    obtain rfl := hmk.1
    clear hmk HD2
    go_wp2_with fail
    refine hdo.out.mono ?_
    intro e w3 hmk3
    have HM3 := Lib.hid (HMK.out.trans hmk3)
    obtain rfl := hmk3.1
    clear hmk3 hdo
    go_wp2_with fail
    go_ret
    exact ⟨fun h => absurd h h1, fun _ => ⟨rfl, HM3.out.2⟩⟩

set_option maxRecDepth 100000 in
set_option maxHeartbeats 800000 in
theorem act_cut (g N M : Nat) (S : Nat → Prop) (P Q : Pd) (a1 a2 a3 : Addr) (w : World) (h : Rep w g S P N) (hr : P.fuse = 1 → (playS (keepSel P.keep) 0 P.late (P.safe, P.ns)).2 ≤ P.room) (hN : N < 137438953472)
    (hd : P.fuse ≠ 1 → Does 132 #[.pointer (some a1), .pointer (some a2), .pointer (some a3)] g N M S P Q w) :
    Calls Tryz.prog 102 #[.pointer (some ⟨g, 0, none⟩), .func (.func 132) #[] #[.pointer (some a1), .pointer (some a2), .pointer (some a3)]] w (Acted g N M S P Q w) := by
  have hb := burn_any g N S P w h hr hN
  have HB := Lib.hid hb
  have HD := Lib.hid hd
  clear hb h hd hr
  by_cases h1 : P.fuse = 1
  · have he : burnP P = loseP (ticP P) P.keep := by unfold burnP; rw [if_pos h1]
    rw [he, decide_eq_true h1] at HB
    go_enter Tryz.func102, Tryz.ntmps102
    go_wp2_with fail
    refine HB.out.mono ?_
    intro e w2 hmk
    have HMK := Lib.hid hmk
    obtain rfl := hmk.1
    clear hmk
    go_wp2_with fail
    go_ret
    exact ⟨fun _ => ⟨rfl, HMK.out.2⟩, fun h => absurd h1 h⟩
  · have he : burnP P = ticP P := by unfold burnP; rw [if_neg h1]
    rw [he, decide_eq_false h1] at HB
    have HD2 := Lib.hid (HD.out h1)
    clear HD
    go_enter Tryz.func102, Tryz.ntmps102
    go_wp2_with fail
    refine HB.out.mono ?_
    intro e w2 hmk
    have HMK := Lib.hid hmk
    have hdo := Lib.hid (HD2.out w2 hmk.2.2 hmk.2.1)
    obtain rfl := hmk.1
    clear hmk HD2
    go_wp2_with fail
    refine hdo.out.mono ?_
    intro e w3 hmk3
    have HM3 := Lib.hid (HMK.out.trans hmk3)
    obtain rfl := hmk3.1
    clear hmk3 hdo
    go_wp2_with fail
    go_ret
    exact ⟨fun h => absurd h h1, fun _ => ⟨rfl, HM3.out.2⟩⟩

set_option maxRecDepth 100000 in
set_option maxHeartbeats 800000 in
theorem act_remove (g N M : Nat) (S : Nat → Prop) (P Q : Pd) (a1 a2 : Addr) (w : World) (h : Rep w g S P N) (hr : P.fuse = 1 → (playS (keepSel P.keep) 0 P.late (P.safe, P.ns)).2 ≤ P.room) (hN : N < 137438953472)
    (hd : P.fuse ≠ 1 → Does 103 #[.pointer (some a1), .pointer (some a2)] g N M S P Q w) :
    Calls Tryz.prog 102 #[.pointer (some ⟨g, 0, none⟩), .func (.func 103) #[] #[.pointer (some a1), .pointer (some a2)]] w (Acted g N M S P Q w) := by
  have hb := burn_any g N S P w h hr hN
  have HB := Lib.hid hb
  have HD := Lib.hid hd
  clear hb h hd hr
  by_cases h1 : P.fuse = 1
  · have he : burnP P = loseP (ticP P) P.keep := by unfold burnP; rw [if_pos h1]
    rw [he, decide_eq_true h1] at HB
    go_enter Tryz.func102, Tryz.ntmps102
    go_wp2_with fail
    refine HB.out.mono ?_
    intro e w2 hmk
    have HMK := Lib.hid hmk
    obtain rfl := hmk.1
    clear hmk
    go_wp2_with fail
    go_ret
    exact ⟨fun _ => ⟨rfl, HMK.out.2⟩, fun h => absurd h1 h⟩
  · have he : burnP P = ticP P := by unfold burnP; rw [if_neg h1]
    rw [he, decide_eq_false h1] at HB
    have HD2 := Lib.hid (HD.out h1)
    clear HD
    go_enter Tryz.func102, Tryz.ntmps102
    go_wp2_with fail
    refine HB.out.mono ?_
    intro e w2 hmk
    have HMK := Lib.hid hmk
    have hdo := Lib.hid (HD2.out w2 hmk.2.2 hmk.2.1)
    obtain rfl := hmk.1
    clear hmk HD2
    go_wp2_with fail
    refine hdo.out.mono ?_
    intro e w3 hmk3
    have HM3 := Lib.hid (HMK.out.trans hmk3)
    obtain rfl := hmk3.1
    clear hmk3 hdo
    go_wp2_with fail
    go_ret
    exact ⟨fun h => absurd h h1, fun _ => ⟨rfl, HM3.out.2⟩⟩

set_option maxRecDepth 100000 in
set_option maxHeartbeats 800000 in
theorem act_rename (g N M : Nat) (S : Nat → Prop) (P Q : Pd) (a1 a2 a3 a4 : Addr) (w : World) (h : Rep w g S P N) (hr : P.fuse = 1 → (playS (keepSel P.keep) 0 P.late (P.safe, P.ns)).2 ≤ P.room) (hN : N < 137438953472)
    (hd : P.fuse ≠ 1 → Does 158 #[.pointer (some a1), .pointer (some a2), .pointer (some a3), .pointer (some a4)] g N M S P Q w) :
    Calls Tryz.prog 102 #[.pointer (some ⟨g, 0, none⟩), .func (.func 158) #[] #[.pointer (some a1), .pointer (some a2), .pointer (some a3), .pointer (some a4)]] w (Acted g N M S P Q w) := by
  have hb := burn_any g N S P w h hr hN
  have HB := Lib.hid hb
  have HD := Lib.hid hd
  clear hb h hd hr
  by_cases h1 : P.fuse = 1
  · have he : burnP P = loseP (ticP P) P.keep := by unfold burnP; rw [if_pos h1]
    rw [he, decide_eq_true h1] at HB
    go_enter Tryz.func102, Tryz.ntmps102
    go_wp2_with fail
    refine HB.out.mono ?_
    intro e w2 hmk
    have HMK := Lib.hid hmk
    obtain rfl := hmk.1
    clear hmk
    go_wp2_with fail
    go_ret
    exact ⟨fun _ => ⟨rfl, HMK.out.2⟩, fun h => absurd h1 h⟩
  · have he : burnP P = ticP P := by unfold burnP; rw [if_neg h1]
    rw [he, decide_eq_false h1] at HB
    have HD2 := Lib.hid (HD.out h1)
    clear HD
    go_enter Tryz.func102, Tryz.ntmps102
    go_wp2_with fail
    refine HB.out.mono ?_
    intro e w2 hmk
    have HMK := Lib.hid hmk
    have hdo := Lib.hid (HD2.out w2 hmk.2.2 hmk.2.1)
    obtain rfl := hmk.1
    clear hmk HD2
    go_wp2_with fail
    refine hdo.out.mono ?_
    intro e w3 hmk3
    have HM3 := Lib.hid (HMK.out.trans hmk3)
    obtain rfl := hmk3.1
    clear hmk3 hdo
    go_wp2_with fail
    go_ret
    exact ⟨fun h => absurd h h1, fun _ => ⟨rfl, HM3.out.2⟩⟩

def CaptD (w : World) (a : Addr) (g : Nat) : Prop := w.cell? a = some (.pointer (some ⟨g, 0, none⟩))

def CaptS (w : World) (a : Addr) (s : List UInt8) : Prop := w.cell? a = some (.string ⟨s.toArray⟩)

def CaptN (w : World) (a : Addr) (n : Nat) : Prop := w.cell? a = some (.int .i64 n)

theorem cell_far {w w1 : World} {S : Nat → Prop} (ha : Apart S w w1) {a : Addr} {v : Value} (h : w.cell? a = some v) (hs : ¬ S a.block) : w1.cell? a = some v := (ha.cell (World.block_lt_of_cell? w a h) hs).trans h

theorem does_sync (g N k : Nat) (S : Nat → Prop) (P : Pd) (a1 a2 : Addr) (w : World) (hk : k ≤ P.made) (h1 : CaptD w a1 g) (h2 : CaptN w a2 k) (hs1 : ¬ S a1.block) (hs2 : ¬ S a2.block) :
    Does 123 #[.pointer (some a1), .pointer (some a2)] g N (N + 1) S P (settleP (ticP P) k) w := by
  intro w1 ha hrep
  have e1 : w1.cell? a1 = some (.pointer (some ⟨g, 0, none⟩)) := cell_far ha h1 hs1
  have e2 : w1.cell? a2 = some (.int .i64 k) := cell_far ha h2 hs2
  have hse := settle_any g (N + 1) k (since S w w1) (ticP P) w1 hrep hk
  have HSE := Lib.hid hse
  clear hse hrep ha h1 h2
  go_enter Tryz.func123, Tryz.ntmps123
  go_wp2_with fail
  refine HSE.out.mono ?_
  intro e w2 hmk
  have HM := Lib.hid hmk
  obtain rfl := hmk.1
  clear hmk
  go_wp2_with fail
  go_end0
  exact HM.out

theorem does_cut (g N k m : Nat) (S : Nat → Prop) (P : Pd) (a1 a2 a3 : Addr) (w : World) (hk : k ≤ P.made) (hm : m ≤ 9223372036854775807) (hN : N + 1 < 137438953472) (h1 : CaptD w a1 g) (h2 : CaptN w a2 k) (h3 : CaptN w a3 m) (hs1 : ¬ S a1.block) (hs2 : ¬ S a2.block) (hs3 : ¬ S a3.block) :
    Does 132 #[.pointer (some a1), .pointer (some a2), .pointer (some a3)] g N (N + 2) S P (shortenP (ticP P) k m) w := by
  intro w1 ha hrep
  have e1 : w1.cell? a1 = some (.pointer (some ⟨g, 0, none⟩)) := cell_far ha h1 hs1
  have e2 : w1.cell? a2 = some (.int .i64 k) := cell_far ha h2 hs2
  have e3 : w1.cell? a3 = some (.int .i64 m) := cell_far ha h3 hs3
  have hse := shorten_any g (N + 1) k m (since S w w1) (ticP P) w1 hrep hk hm hN
  have HSE := Lib.hid hse
  clear hse hrep ha h1 h2 h3
  go_enter Tryz.func132, Tryz.ntmps132
  go_wp2_with fail
  refine HSE.out.mono ?_
  intro e w2 hmk
  have HM := Lib.hid hmk
  obtain rfl := hmk.1
  clear hmk
  go_wp2_with fail
  go_end0
  exact HM.out

theorem does_remove (g N : Nat) (s : List UInt8) (S : Nat → Prop) (P : Pd) (a1 a2 : Addr) (w : World) (hs : s.length ≤ 140737488355328) (hN : N + 1 < 137438953472) (h1 : CaptD w a1 g) (h2 : CaptS w a2 s) (hs1 : ¬ S a1.block) (hs2 : ¬ S a2.block) :
    Does 103 #[.pointer (some a1), .pointer (some a2)] g N (N + 2) S P (dropP (ticP P) s) w := by
  intro w1 ha hrep
  have e1 : w1.cell? a1 = some (.pointer (some ⟨g, 0, none⟩)) := cell_far ha h1 hs1
  have e2 : w1.cell? a2 = some (.string ⟨s.toArray⟩) := cell_far ha h2 hs2
  have hse := dropd_any g (N + 1) (since S w w1) (ticP P) s w1 hrep hs hN
  have HSE := Lib.hid hse
  clear hse hrep ha h1 h2
  go_enter Tryz.func103, Tryz.ntmps103
  go_wp2_with fail
  refine HSE.out.mono ?_
  intro e w2 hmk
  have HM := Lib.hid hmk
  obtain rfl := hmk.1
  clear hmk
  go_wp2_with fail
  go_end0
  exact HM.out

def actR (P : Pd) (s : List UInt8) (Q : Nat → Pd) : Pd × Nat := if P.off = true then (P, 8) else match P.files s with
  | none => (P, 5)
  | some k => if P.fuse = 1 then (loseP (ticP P) P.keep, 8) else (Q k, 0)

def AnsD (g N : Nat) (S : Nat → Prop) (r : Pd × Nat) (w : World) (e : Ending) (w' : World) : Prop := Makes g S r.1 N (.int .i64 (r.2 : Nat)) w e w'

theorem actR_find {P : Pd} {s : List UInt8} {Q : Nat → Pd} : (P.off = true ∧ findR P s = (0, 8) ∧ actR P s Q = (P, 8)) ∨ (P.off = false ∧ P.files s = none ∧ findR P s = (0, 5) ∧ actR P s Q = (P, 5)) ∨
    ∃ k, P.off = false ∧ P.files s = some k ∧ findR P s = (k, 0) ∧ actR P s Q = if P.fuse = 1 then (loseP (ticP P) P.keep, 8) else (Q k, 0) := by
  unfold findR actR
  cases hoff : P.off
  · right
    cases hf : P.files s with
    | none => left; simp
    | some k => right; exact ⟨k, by simp⟩
  · left; simp

theorem same_makes {g N M : Nat} {S : Nat → Prop} {P : Pd} {v : Value} {w w' : World} (h : Rep w g S P N) (hb : Below w.heap.size w w') (hN : N ≤ M) (hM : M ≤ 137438953472) : Makes g S P M v w (.returned v) w' :=
  ⟨rfl, ((h.mono hN hM).below hb h.lt).more (fun _ => .inl) (since_lt h.lt hb.size), .below hb⟩

theorem acted_ans {g N M L : Nat} {S : Nat → Prop} {P Q : Pd} {w0 w w' : World} {e : Ending} (ha : Apart S w0 w) (h : Acted g N M S P Q w e w') (h1 : N + 1 ≤ L) (h2 : M ≤ L) (hL : L ≤ 137438953472) : AnsD g L S (if P.fuse = 1 then (loseP (ticP P) P.keep, 8) else (Q, 0)) w0 e w' := by
  by_cases hf : P.fuse = 1
  · rw [if_pos hf]
    have := makes_up ha (h.1 hf)
    exact ⟨this.1, this.2.1.mono h1 hL, this.2.2⟩
  · rw [if_neg hf]
    have := makes_up ha (h.2 hf)
    exact ⟨this.1, this.2.1.mono h2 hL, this.2.2⟩

theorem acted_val {g N M : Nat} {S : Nat → Prop} {P Q : Pd} {w w' : World} {e : Ending} (h : Acted g N M S P Q w e w') : ∃ n : Nat, e = .returned (.int .i64 n) := by
  by_cases hf : P.fuse = 1
  · exact ⟨8, (h.1 hf).1⟩
  · exact ⟨0, (h.2 hf).1⟩

theorem cell_new_at (w w' : World) {v : Value} {T : TypeId} (b : Nat) (hb : b = w.heap.size) (h : w'.heap[w.heap.size]? = (w.alloc (.cells #[v] T)).heap[w.heap.size]?) : w'.cell? ⟨b, 0, none⟩ = some v := by
  subst hb
  exact cell_of_row _ _ _ _ _ _ (h.trans (heap_alloc_new w _))

set_option maxRecDepth 100000 in
set_option maxHeartbeats 1600000 in
theorem sync_any (g N : Nat) (S : Nat → Prop) (P : Pd) (s : List UInt8) (w : World) (h : Rep w g S P N) (hs : s.length ≤ 140737488355328) (hN : N + 4 ≤ 137438953472) (hr : P.fuse = 1 → P.off = false → (playS (keepSel P.keep) 0 P.late (P.safe, P.ns)).2 ≤ P.room) :
    Calls Tryz.prog 73 #[.pointer (some ⟨g, 0, none⟩), .string ⟨s.toArray⟩] w (AnsD g (N + 4) S (actR P s (fun k => settleP (ticP P) k)) w) := by
  have hB : Below w.heap.size w (w.alloc (.cells #[.pointer (some ⟨g, 0, none⟩)] 29)) := ((Below.refl _ _).alloc (Nat.le_refl _) _)
  have hrep1 := h.below hB h.lt
  have hfi := find_any g N S P s _ hrep1 hs
  have hfit := h.fits
  have hnS : ∀ b, w.heap.size ≤ b → ¬ S b := fun b hb e => by have := h.lt _ e; omega
  rcases actR_find (P := P) (s := s) (Q := fun k => settleP (ticP P) k) with ⟨hoff, hf, ha⟩ | ⟨hoff, hq, hf, ha⟩ | ⟨k, hoff, hq, hf, ha⟩
  · rw [hf] at hfi
    rw [ha]
    have HF := Lib.hid hfi
    have H := Lib.hid h
    clear hfi h hB hrep1 hfit hf ha
    go_enter Tryz.func73, Tryz.ntmps73
    go_wp2_with fail
    refine HF.out.mono ?_
    rintro e w1 ⟨rfl, rfl⟩
    go_wp2_with fail
    go_ret
    exact same_makes H.out (((Below.refl _ _).alloc (Nat.le_refl _) _).alloc (by simp) _) (by omega) hN
  · rw [hf] at hfi
    rw [ha]
    have HF := Lib.hid hfi
    have H := Lib.hid h
    clear hfi h hB hrep1 hfit hf ha
    go_enter Tryz.func73, Tryz.ntmps73
    go_wp2_with fail
    refine HF.out.mono ?_
    rintro e w1 ⟨rfl, rfl⟩
    go_wp2_with fail
    go_ret
    exact same_makes H.out (((Below.refl _ _).alloc (Nat.le_refl _) _).alloc (by simp) _) (by omega) hN
  · rw [hf] at hfi
    rw [ha]
    show Calls _ _ _ _ (AnsD g (N + 4) S (if P.fuse = 1 then (loseP (ticP P) P.keep, 8) else (settleP (ticP P) k, 0)) w)
    have hW2 : Below w.heap.size w ((w.alloc (.cells #[.pointer (some ⟨g, 0, none⟩)] 29)).alloc (.cells #[.int .i64 k] 3)) := (((Below.refl _ _).alloc (Nat.le_refl _) _).alloc (by simp) _)
    have hrep2 := h.below hW2 h.lt
    have hap : Apart S w ((w.alloc (.cells #[.pointer (some ⟨g, 0, none⟩)] 29)).alloc (.cells #[.int .i64 k] 3)) := (((Apart.refl _ _).alloc _).alloc _)
    have hcell0 : ((w.alloc (.cells #[.pointer (some ⟨g, 0, none⟩)] 29)).alloc (.cells #[.int .i64 k] 3)).heap[w.heap.size]? = (w.alloc (.cells #[.pointer (some ⟨g, 0, none⟩)] 29)).heap[w.heap.size]? := by
      rw [Below.heap_alloc _ _ _ (by simp; try omega)]
    have hcell1 : ((w.alloc (.cells #[.pointer (some ⟨g, 0, none⟩)] 29)).alloc (.cells #[.int .i64 k] 3)).heap[(w.alloc (.cells #[.pointer (some ⟨g, 0, none⟩)] 29)).heap.size]? = ((w.alloc (.cells #[.pointer (some ⟨g, 0, none⟩)] 29)).alloc (.cells #[.int .i64 k] 3)).heap[(w.alloc (.cells #[.pointer (some ⟨g, 0, none⟩)] 29)).heap.size]? := by
      rfl
    have hact := act_sync g N (N + 1) S P (settleP (ticP P) k) ⟨w.heap.size, 0, none⟩ ⟨w.heap.size + 1, 0, none⟩ _ hrep2 (fun h1 => hr h1 hoff) (by omega)
      (fun _ => does_sync g N k S P _ _ _ (hfit.files s k hq) (cell_new_at w _ _ (by simp) hcell0) (cell_new_at (w.alloc (.cells #[.pointer (some ⟨g, 0, none⟩)] 29)) _ _ (by simp) hcell1) (hnS _ (by show w.heap.size ≤ w.heap.size; omega)) (hnS _ (by show w.heap.size ≤ w.heap.size + 1; omega)))
    obtain ⟨R, hR⟩ : ∃ R, (if P.fuse = 1 then (loseP (ticP P) P.keep, 8) else (settleP (ticP P) k, 0)) = R := ⟨_, rfl⟩
    rw [hR]
    have HRR := Lib.hid hR
    have HF := Lib.hid hfi
    have HACT := Lib.hid hact
    have HAP := Lib.hid hap
    clear hfi h hB hrep1 hrep2 hfit hf ha hact hap hr hR hW2
    go_enter Tryz.func73, Tryz.ntmps73
    go_wp2_with fail
    refine HF.out.mono ?_
    rintro e w1 ⟨rfl, rfl⟩
    go_wp2_with fail
    refine HACT.out.mono ?_
    intro e w2 hac
    have HA2 := Lib.hid (acted_ans (L := N + 4) HAP.out hac (by omega) (by omega) hN)
    obtain ⟨n, rfl⟩ := acted_val hac
    clear hac
    go_wp2_with fail
    go_ret
    rw [← HRR.out]
    exact HA2.out

set_option maxRecDepth 100000 in
set_option maxHeartbeats 1600000 in
theorem remove_any (g N : Nat) (S : Nat → Prop) (P : Pd) (s : List UInt8) (w : World) (h : Rep w g S P N) (hs : s.length ≤ 140737488355328) (hN : N + 4 ≤ 137438953472) (hr : P.fuse = 1 → P.off = false → (playS (keepSel P.keep) 0 P.late (P.safe, P.ns)).2 ≤ P.room) :
    Calls Tryz.prog 58 #[.pointer (some ⟨g, 0, none⟩), .string ⟨s.toArray⟩] w (AnsD g (N + 4) S (actR P s (fun _ => dropP (ticP P) s)) w) := by
  have hB : Below w.heap.size w ((w.alloc (.cells #[.pointer (some ⟨g, 0, none⟩)] 29)).alloc (.cells #[.string ⟨s.toArray⟩] 9)) := (((Below.refl _ _).alloc (Nat.le_refl _) _).alloc (by simp) _)
  have hrep1 := h.below hB h.lt
  have hfi := find_any g N S P s _ hrep1 hs
  have hfit := h.fits
  have hnS : ∀ b, w.heap.size ≤ b → ¬ S b := fun b hb e => by have := h.lt _ e; omega
  rcases actR_find (P := P) (s := s) (Q := fun k => dropP (ticP P) s) with ⟨hoff, hf, ha⟩ | ⟨hoff, hq, hf, ha⟩ | ⟨k, hoff, hq, hf, ha⟩
  · rw [hf] at hfi
    rw [ha]
    have HF := Lib.hid hfi
    have H := Lib.hid h
    clear hfi h hB hrep1 hfit hf ha
    go_enter Tryz.func58, Tryz.ntmps58
    go_wp2_with fail
    refine HF.out.mono ?_
    rintro e w1 ⟨rfl, rfl⟩
    go_wp2_with fail
    go_ret
    exact same_makes H.out (((Below.refl _ _).alloc (Nat.le_refl _) _).alloc (by simp) _) (by omega) hN
  · rw [hf] at hfi
    rw [ha]
    have HF := Lib.hid hfi
    have H := Lib.hid h
    clear hfi h hB hrep1 hfit hf ha
    go_enter Tryz.func58, Tryz.ntmps58
    go_wp2_with fail
    refine HF.out.mono ?_
    rintro e w1 ⟨rfl, rfl⟩
    go_wp2_with fail
    go_ret
    exact same_makes H.out (((Below.refl _ _).alloc (Nat.le_refl _) _).alloc (by simp) _) (by omega) hN
  · rw [hf] at hfi
    rw [ha]
    show Calls _ _ _ _ (AnsD g (N + 4) S (if P.fuse = 1 then (loseP (ticP P) P.keep, 8) else (dropP (ticP P) s, 0)) w)
    have hW2 : Below w.heap.size w ((w.alloc (.cells #[.pointer (some ⟨g, 0, none⟩)] 29)).alloc (.cells #[.string ⟨s.toArray⟩] 9)) := (((Below.refl _ _).alloc (Nat.le_refl _) _).alloc (by simp) _)
    have hrep2 := h.below hW2 h.lt
    have hap : Apart S w ((w.alloc (.cells #[.pointer (some ⟨g, 0, none⟩)] 29)).alloc (.cells #[.string ⟨s.toArray⟩] 9)) := (((Apart.refl _ _).alloc _).alloc _)
    have hcell0 : ((w.alloc (.cells #[.pointer (some ⟨g, 0, none⟩)] 29)).alloc (.cells #[.string ⟨s.toArray⟩] 9)).heap[w.heap.size]? = (w.alloc (.cells #[.pointer (some ⟨g, 0, none⟩)] 29)).heap[w.heap.size]? := by
      rw [Below.heap_alloc _ _ _ (by simp; try omega)]
    have hcell1 : ((w.alloc (.cells #[.pointer (some ⟨g, 0, none⟩)] 29)).alloc (.cells #[.string ⟨s.toArray⟩] 9)).heap[(w.alloc (.cells #[.pointer (some ⟨g, 0, none⟩)] 29)).heap.size]? = ((w.alloc (.cells #[.pointer (some ⟨g, 0, none⟩)] 29)).alloc (.cells #[.string ⟨s.toArray⟩] 9)).heap[(w.alloc (.cells #[.pointer (some ⟨g, 0, none⟩)] 29)).heap.size]? := by
      rfl
    have hact := act_remove g N (N + 2) S P (dropP (ticP P) s) ⟨w.heap.size, 0, none⟩ ⟨w.heap.size + 1, 0, none⟩ _ hrep2 (fun h1 => hr h1 hoff) (by omega)
      (fun _ => does_remove g N s S P _ _ _ hs (by omega) (cell_new_at w _ _ (by simp) hcell0) (cell_new_at (w.alloc (.cells #[.pointer (some ⟨g, 0, none⟩)] 29)) _ _ (by simp) hcell1) (hnS _ (by show w.heap.size ≤ w.heap.size; omega)) (hnS _ (by show w.heap.size ≤ w.heap.size + 1; omega)))
    obtain ⟨R, hR⟩ : ∃ R, (if P.fuse = 1 then (loseP (ticP P) P.keep, 8) else (dropP (ticP P) s, 0)) = R := ⟨_, rfl⟩
    rw [hR]
    have HRR := Lib.hid hR
    have HF := Lib.hid hfi
    have HACT := Lib.hid hact
    have HAP := Lib.hid hap
    clear hfi h hB hrep1 hrep2 hfit hf ha hact hap hr hR hW2
    go_enter Tryz.func58, Tryz.ntmps58
    go_wp2_with fail
    refine HF.out.mono ?_
    rintro e w1 ⟨rfl, rfl⟩
    go_wp2_with fail
    refine HACT.out.mono ?_
    intro e w2 hac
    have HA2 := Lib.hid (acted_ans (L := N + 4) HAP.out hac (by omega) (by omega) hN)
    obtain ⟨n, rfl⟩ := acted_val hac
    clear hac
    go_wp2_with fail
    go_ret
    rw [← HRR.out]
    exact HA2.out

end Go.Proofs.YtlchmkpnehbnlaaGreatDoor.Cd

/-
  Write. Conditions: none.
-/
namespace Go.Proofs.YtlchmkpnehbnlaaGreatDoor.Cd
open Go.RowKit

def writeR (P : Pd) (s : List UInt8) (i : Int) (bs : List UInt8) : Pd × Nat :=
  if P.off = true then (P, 8) else if 512 < bs.length then (P, 3) else if i < 0 ∨ (countR P s : Int) < i then (P, 1)
  else if i = (countR P s : Int) ∧ (P.room : Int) - P.nn = 0 then (P, 7) else if P.fuse = 1 then (loseP (ticP (putP P s i.toNat (pad bs))) P.keep, 8) else (ticP (putP P s i.toNat (pad bs)), 0)

theorem count_num {P : Pd} {N : Nat} (h : Fits P N) (hoff : P.off = false) (s : List UInt8) : (P.now (numP P s)).length = countR P s := by
  unfold countR numP
  rw [if_neg (by rw [hoff]; simp)]
  cases hq : P.files s with
  | some k => rfl
  | none =>
    have := (h.fresh (P.made + 1) (by omega)).1
    simp only
    rw [this]
    rfl

set_option maxRecDepth 100000 in
set_option maxHeartbeats 1600000 in
theorem write_any (g N : Nat) (S : Nat → Prop) (P : Pd) (s bs : List UInt8) (i : Int) (b : Value) (w : World) (h : Rep w g S P N) (hs : s.length ≤ 140737488355328) (hb : Sl w w.heap.size b bs) (hbS : 0 < bs.length → ∀ A n c, b = .slice (some A) n c → ¬ S A.block)
    (hi2 : i ≤ 9223372036854775807) (hN : N + 4 ≤ 137438953472) (hcn : countR P s ≤ P.nn) (hr : P.fuse = 1 → P.off = false → 0 ≤ i ∧ i ≤ (countR P s : Int) → ¬ (i = (countR P s : Int) ∧ (P.room : Int) - P.nn = 0) → ∀ x, (playS (keepSel P.keep) 0 (P.late ++ [⟨numP P s, i.toNat, x⟩]) (P.safe, P.ns)).2 ≤ P.room) :
    Calls Tryz.prog 88 #[.pointer (some ⟨g, 0, none⟩), .string ⟨s.toArray⟩, .int .i64 i, b] w (AnsD g (N + 4) S (writeR P s i bs) w) := by
  have hre := ready_any g N S P w h
  obtain ⟨A, c, rfl, hbc, hcm⟩ := hb.len
  have hcm : c ≤ 9223372036854775807 := hcm
  cases hoff : P.off
  · have he : errR P = 0 := by unfold errR; rw [hoff]; rfl
    rw [he] at hre
    have HR := Lib.hid hre
    by_cases hlong : 512 < bs.length
    · have hw : writeR P s i bs = (P, 3) := by unfold writeR; rw [if_neg (by rw [hoff]; simp), if_pos hlong]
      have hl1 : (512 : Int) < bs.length := by omega
      rw [hw]
      have H := Lib.hid h
      clear hre h hb hbS hr hw
      go_enter Tryz.func88, Tryz.ntmps88
      go_wp2_with fail
      refine HR.out.mono ?_
      rintro e w1 ⟨rfl, rfl⟩
      go_wp2_with fail
      go_ret
      exact same_makes H.out (Below.refl _ _) (by omega) hN
    · have hl1 : (bs.length : Int) ≤ 512 := by omega
      have hco := count_any g N S P s w h hs
      have HCO := Lib.hid hco
      have hcount : (countR P s : Int) ≤ 4096 := by have := h.fits.nns; have := h.fits.room; omega
      by_cases harg : i < 0 ∨ (countR P s : Int) < i
      · have hw : writeR P s i bs = (P, 1) := by unfold writeR; rw [if_neg (by rw [hoff]; simp), if_neg hlong, if_pos harg]
        rw [hw]
        have H := Lib.hid h
        clear hre h hb hbS hr hw hco
        rcases harg with ha | ha
        · go_enter Tryz.func88, Tryz.ntmps88
          go_wp2_with fail
          refine HR.out.mono ?_
          rintro e w1 ⟨rfl, rfl⟩
          go_wp2_with fail
          refine HCO.out.mono ?_
          rintro e w1 ⟨rfl, rfl⟩
          go_wp2_with fail
          go_ret
          exact same_makes H.out (Below.refl _ _) (by omega) hN
        · have ha0 : (0 : Int) ≤ i := by omega
          go_enter Tryz.func88, Tryz.ntmps88
          go_wp2_with fail
          refine HR.out.mono ?_
          rintro e w1 ⟨rfl, rfl⟩
          go_wp2_with fail
          refine HCO.out.mono ?_
          rintro e w1 ⟨rfl, rfl⟩
          go_wp2_with fail
          go_ret
          exact same_makes H.out (Below.refl _ _) (by omega) hN
      · have hi0 : 0 ≤ i := by omega
        have hic : i ≤ (countR P s : Int) := by omega
        have hcnum := count_num h.fits hoff s
        have hfr := free_any g N S P w h
        have HFR := Lib.hid hfr
        by_cases hfull : i = (countR P s : Int) ∧ (P.room : Int) - P.nn = 0
        · have hw : writeR P s i bs = (P, 7) := by unfold writeR; rw [if_neg (by rw [hoff]; simp), if_neg hlong, if_neg harg, if_pos hfull]
          rw [hw]
          have q1 : ((i : Int) == (countR P s : Int)) = true := by simp [hfull.1]
          have q2 : (((P.room : Int) - P.nn) == 0) = true := by simp [hfull.2]
          have H := Lib.hid h
          clear hre h hb hbS hr hw hco hfr harg hfull
          go_enter Tryz.func88, Tryz.ntmps88
          go_wp2_with fail
          refine HR.out.mono ?_
          rintro e w1 ⟨rfl, rfl⟩
          go_wp2_with fail
          refine HCO.out.mono ?_
          rintro e w1 ⟨rfl, rfl⟩
          go_wp2_with fail
          refine HFR.out.mono ?_
          rintro e w1 ⟨rfl, hbf⟩
          have HBF := Lib.hid hbf
          clear hbf
          go_wp2_with fail
          go_ret
          exact same_makes H.out HBF.out (by omega) hN
        · obtain ⟨j, rfl⟩ := Int.eq_ofNat_of_zero_le hi0
          have hroom : P.nn + (j + 1 - (P.now (numP P s)).length) ≤ P.room ∧ j < 4096 := by
            have h1 := h.fits.nns
            have h2 := h.fits.room
            have h3 := h.fits.now (numP P s)
            rw [hcnum] at h3 ⊢
            by_cases he : (j : Int) = (countR P s : Int)
            · have : ¬ (P.room : Int) - P.nn = 0 := fun e => hfull ⟨he, e⟩
              omega
            · omega
          have hp1 : (putP P s j (pad bs)).fuse = P.fuse ∧ (putP P s j (pad bs)).keep = P.keep ∧ (putP P s j (pad bs)).late = P.late ++ [⟨numP P s, j, pad bs⟩] ∧ (putP P s j (pad bs)).safe = P.safe ∧ (putP P s j (pad bs)).ns = P.ns ∧ (putP P s j (pad bs)).room = P.room := ⟨rfl, rfl, rfl, rfl, rfl, rfl⟩
          have hw : writeR P s (j : Int) bs = if P.fuse = 1 then (loseP (ticP (putP P s j (pad bs))) P.keep, 8) else (ticP (putP P s j (pad bs)), 0) := by
            unfold writeR
            rw [if_neg (by rw [hoff]; simp), if_neg hlong, if_neg harg, if_neg hfull, Int.toNat_natCast]
          rw [hw]
          have hput : Hid (∀ w1, Below w.heap.size w w1 → Calls Tryz.prog 134 #[.pointer (some ⟨g, 0, none⟩), .string ⟨s.toArray⟩, .int .i64 j, .slice A bs.length c] w1 (Makes g S (putP P s j (pad bs)) (N + 2) (.tuple #[]) w1)) := fun w1 hb1 =>
            putd_any g N S P s bs j _ w1 (h.below hb1 h.lt) hs ((hb.below hb1).more hb1.size) (by omega) hbS hroom.2 hroom.1 (by omega)
          have hburn : Hid (∀ w1 w2 e, Makes g S (putP P s j (pad bs)) (N + 2) (.tuple #[]) w1 e w2 → Calls Tryz.prog 135 #[.pointer (some ⟨g, 0, none⟩)] w2 (Makes g (since S w1 w2) (burnP (putP P s j (pad bs))) (N + 2 + 1) (.bool (decide (P.fuse = 1))) w2)) := fun w1 w2 e hm =>
            burn_any g (N + 2) _ _ w2 hm.2.1 (fun hf => by rw [hp1.2.2.1, hp1.2.2.2.1, hp1.2.2.2.2.1, hp1.2.2.2.2.2, hp1.2.1]; exact hr hf hoff ⟨hi0, hic⟩ hfull (pad bs)) (by omega)
          have hbp : burnP (putP P s j (pad bs)) = if P.fuse = 1 then loseP (ticP (putP P s j (pad bs))) P.keep else ticP (putP P s j (pad bs)) := rfl
          clear hre h hb hbS hr hw hco hfr hp1 hcnum
          generalize putP P s j (pad bs) = Q at *
          by_cases hf1 : P.fuse = 1
          · rw [if_pos hf1] at hbp ⊢
            rw [decide_eq_true hf1] at hburn
            rw [hbp] at hburn
            clear hbp
            by_cases hend : (j : Int) = (countR P s : Int)
            · have q1 : ((j : Int) == (countR P s : Int)) = true := by simp [hend]
              have q2 : (((P.room : Int) - P.nn) == 0) = false := by rw [beq_eq_false_iff_ne]; exact fun e => hfull ⟨hend, e⟩
              clear hfull harg hend
              go_enter Tryz.func88, Tryz.ntmps88
              go_wp2_with fail
              refine HR.out.mono ?_
              rintro e w1 ⟨rfl, rfl⟩
              go_wp2_with fail
              refine HCO.out.mono ?_
              rintro e w1 ⟨rfl, rfl⟩
              go_wp2_with fail
              refine HFR.out.mono ?_
              rintro e w2 ⟨rfl, hbf⟩
              have HP := Lib.hid (hput.out w2 hbf)
              have HBF := Lib.hid hbf
              clear hbf
              go_wp2_with fail
              refine HP.out.mono ?_
              intro e w3 hm
              have HM := Lib.hid hm
              have HBU := Lib.hid (hburn.out w2 w3 e hm)
              obtain rfl := hm.1
              clear hm
              go_wp2_with fail
              refine HBU.out.mono ?_
              intro e w4 hm4
              have HM4 := Lib.hid (makes_up (.below HBF.out) (HM.out.trans hm4))
              obtain rfl := hm4.1
              clear hm4
              go_wp2_with fail
              go_ret
              exact ⟨rfl, HM4.out.2.1.mono (by omega) hN, HM4.out.2.2⟩
            · have q1 : ((j : Int) == (countR P s : Int)) = false := by simpa using hend
              clear hfull harg hend
              go_enter Tryz.func88, Tryz.ntmps88
              go_wp2_with fail
              refine HR.out.mono ?_
              rintro e w1 ⟨rfl, rfl⟩
              go_wp2_with fail
              refine HCO.out.mono ?_
              rintro e w2 ⟨rfl, rfl⟩
              have HP := Lib.hid (hput.out _ (Below.refl _ _))
              go_wp2_with fail
              refine HP.out.mono ?_
              intro e w3 hm
              have HM := Lib.hid hm
              have HBU := Lib.hid (hburn.out _ w3 e hm)
              obtain rfl := hm.1
              clear hm
              go_wp2_with fail
              refine HBU.out.mono ?_
              intro e w4 hm4
              have HM4 := Lib.hid (HM.out.trans hm4)
              obtain rfl := hm4.1
              clear hm4
              go_wp2_with fail
              go_ret
              exact ⟨rfl, HM4.out.2.1.mono (by omega) hN, HM4.out.2.2⟩
          · rw [if_neg hf1] at hbp ⊢
            rw [decide_eq_false hf1] at hburn
            rw [hbp] at hburn
            clear hbp
            by_cases hend : (j : Int) = (countR P s : Int)
            · have q1 : ((j : Int) == (countR P s : Int)) = true := by simp [hend]
              have q2 : (((P.room : Int) - P.nn) == 0) = false := by rw [beq_eq_false_iff_ne]; exact fun e => hfull ⟨hend, e⟩
              clear hfull harg hend
              go_enter Tryz.func88, Tryz.ntmps88
              go_wp2_with fail
              refine HR.out.mono ?_
              rintro e w1 ⟨rfl, rfl⟩
              go_wp2_with fail
              refine HCO.out.mono ?_
              rintro e w1 ⟨rfl, rfl⟩
              go_wp2_with fail
              refine HFR.out.mono ?_
              rintro e w2 ⟨rfl, hbf⟩
              have HP := Lib.hid (hput.out w2 hbf)
              have HBF := Lib.hid hbf
              clear hbf
              go_wp2_with fail
              refine HP.out.mono ?_
              intro e w3 hm
              have HM := Lib.hid hm
              have HBU := Lib.hid (hburn.out w2 w3 e hm)
              obtain rfl := hm.1
              clear hm
              go_wp2_with fail
              refine HBU.out.mono ?_
              intro e w4 hm4
              have HM4 := Lib.hid (makes_up (.below HBF.out) (HM.out.trans hm4))
              obtain rfl := hm4.1
              clear hm4
              go_wp2_with fail
              go_ret
              exact ⟨rfl, HM4.out.2.1.mono (by omega) hN, HM4.out.2.2⟩
            · have q1 : ((j : Int) == (countR P s : Int)) = false := by simpa using hend
              clear hfull harg hend
              go_enter Tryz.func88, Tryz.ntmps88
              go_wp2_with fail
              refine HR.out.mono ?_
              rintro e w1 ⟨rfl, rfl⟩
              go_wp2_with fail
              refine HCO.out.mono ?_
              rintro e w2 ⟨rfl, rfl⟩
              have HP := Lib.hid (hput.out _ (Below.refl _ _))
              go_wp2_with fail
              refine HP.out.mono ?_
              intro e w3 hm
              have HM := Lib.hid hm
              have HBU := Lib.hid (hburn.out _ w3 e hm)
              obtain rfl := hm.1
              clear hm
              go_wp2_with fail
              refine HBU.out.mono ?_
              intro e w4 hm4
              have HM4 := Lib.hid (HM.out.trans hm4)
              obtain rfl := hm4.1
              clear hm4
              go_wp2_with fail
              go_ret
              exact ⟨rfl, HM4.out.2.1.mono (by omega) hN, HM4.out.2.2⟩
  · have he : errR P = 8 := by unfold errR; rw [hoff]; rfl
    have hw : writeR P s i bs = (P, 8) := by unfold writeR; rw [if_pos hoff]
    rw [he] at hre
    rw [hw]
    have HR := Lib.hid hre
    have H := Lib.hid h
    clear hre h hb hbS hr hw
    go_enter Tryz.func88, Tryz.ntmps88
    go_wp2_with fail
    refine HR.out.mono ?_
    rintro e w1 ⟨rfl, rfl⟩
    go_wp2_with fail
    go_ret
    exact same_makes H.out (Below.refl _ _) (by omega) hN

end Go.Proofs.YtlchmkpnehbnlaaGreatDoor.Cd

/-
  Read. Conditions: none.
-/
namespace Go.Proofs.YtlchmkpnehbnlaaGreatDoor.Cd
open Go.RowKit

def readR (P : Pd) (s : List UInt8) (i : Int) : List UInt8 × Nat := if P.off = true then ([], 8) else match P.files s with
  | none => ([], 5)
  | some k => match lst P.now (k, i) with
    | none => ([], 5)
    | some p => (p, 0)

def ReadIs (P : Pd) (s : List UInt8) (i : Int) (w : World) (e : Ending) (w' : World) : Prop :=
  (∃ p, readR P s i = (p, 0) ∧ p.length = 512 ∧ e = .returned (.tuple #[.slice (some ⟨w.heap.size, 0, none⟩) 512 512, .int .i64 0]) ∧ w' = w.alloc (.cells (vb p).toArray 124)) ∨
    ∃ n : Nat, n ≠ 0 ∧ readR P s i = ([], n) ∧ e = .returned (.tuple #[.slice none 0 0, .int .i64 n]) ∧ Below w.heap.size w w'

set_option maxRecDepth 100000 in
set_option maxHeartbeats 1600000 in
theorem read_disk (g N : Nat) (S : Nat → Prop) (P : Pd) (s : List UInt8) (i : Int) (w : World) (h : Rep w g S P N) (hs : s.length ≤ 140737488355328) (hi : (Lit.int .i64 i).wf = true) :
    Calls Tryz.prog 82 #[.pointer (some ⟨g, 0, none⟩), .string ⟨s.toArray⟩, .int .i64 i] w (ReadIs P s i w) := by
  have hfi := find_any g N S P s w h hs
  rcases actR_find (P := P) (s := s) (Q := fun _ => P) with ⟨hoff, hf, _⟩ | ⟨hoff, hq, hf, _⟩ | ⟨k, hoff, hq, hf, _⟩
  · have hr : readR P s i = ([], 8) := by unfold readR; rw [if_pos hoff]
    rw [hf] at hfi
    have HF := Lib.hid hfi
    have HR := Lib.hid hr
    clear hfi h hf hr
    go_enter Tryz.func82, Tryz.ntmps82
    go_wp2_with fail
    refine HF.out.mono ?_
    rintro e w1 ⟨rfl, rfl⟩
    go_wp2_with fail
    go_ret2
    exact .inr ⟨8, by omega, HR.out, rfl, Below.refl _ _⟩
  · have hr : readR P s i = ([], 5) := by unfold readR; rw [if_neg (by rw [hoff]; simp), hq]
    rw [hf] at hfi
    have HF := Lib.hid hfi
    have HR := Lib.hid hr
    clear hfi h hf hr
    go_enter Tryz.func82, Tryz.ntmps82
    go_wp2_with fail
    refine HF.out.mono ?_
    rintro e w1 ⟨rfl, rfl⟩
    go_wp2_with fail
    go_ret2
    exact .inr ⟨5, by omega, HR.out, rfl, Below.refl _ _⟩
  · obtain ⟨bf, c1, p1, c2, p2, lv, hd⟩ := h
    have d4 : w.cell? ⟨g, 4, none⟩ = some (.map (some p1)) := cell_of_row _ _ _ _ _ _ hd.row
    have hk : k ≤ lim := by have h1 := hd.fits.files s k hq; have h2 := hd.fits.made; have h3 := hd.fits.top; unfold lim; omega
    have hlk := pg_look hd.now.pgs hk hi
    have hokv := fun p hp => MapF.okv hd.now.pgs (x := (k, i)) ⟨hk, hi⟩ (v := p) hp
    rw [hf] at hfi
    have HF := Lib.hid hfi
    obtain ⟨p, hp⟩ : ∃ p, (lst P.now (k, i)).getD nought = p := ⟨_, rfl⟩
    have hpl : p.length = 512 := by
      rw [← hp]
      cases hl : lst P.now (k, i) with
      | none => exact nought_len
      | some q => exact hokv q hl
    rw [hp] at hlk
    have hst : ∀ w' : World, (storeCells ⟨w'.heap.size, 0, none⟩ (vb p) 0).run Tryz.prog (w'.alloc (.cells Tryz.zeroCells124 124)) = .ok () (w'.alloc (.cells (vb p).toArray 124)) := fun w' => by
      have := run_storeCells_new (P := Tryz.prog) w' 124 Tryz.zeroCells124 (vb p).toArray (by rw [List.size_toArray, vb_length, hpl]; kernel_rfl) (by rw [zero_page, List.size_toArray, List.size_toArray, vb_length, vb_length, nought_len, hpl]) (all_oneCell_toArray (vb_one p))
      simpa using this
    have hsz : (vb p).length = 512 := by rw [vb_length]; exact hpl
    cases hl : lst P.now (k, i) with
    | none =>
      have hr : readR P s i = ([], 5) := by unfold readR; rw [if_neg (by rw [hoff]; simp), hq]; simp only [hl]
      rw [hl] at hlk
      have HR := Lib.hid hr
      clear hfi hf hr hd hokv hl hp
      go_enter Tryz.func82, Tryz.ntmps82
      go_wp2_with fail
      refine HF.out.mono ?_
      rintro e w1 ⟨rfl, rfl⟩
      go_wp2_with fail
      go_ret2
      exact .inr ⟨5, by omega, HR.out, rfl, (Below.refl _ _).alloc (Nat.le_refl _) _⟩
    | some q =>
      have hqp : q = p := by rw [← hp, hl]; rfl
      have hr : readR P s i = (p, 0) := by unfold readR; rw [if_neg (by rw [hoff]; simp), hq]; simp only [hl]; rw [hqp]
      rw [hl] at hlk
      have HR := Lib.hid hr
      clear hfi hf hr hd hokv hl hp hqp
      go_enter Tryz.func82, Tryz.ntmps82
      go_wp2_with fail
      refine HF.out.mono ?_
      rintro e w1 ⟨rfl, rfl⟩
      go_wp2_with fail
      go_ret2
      exact .inl ⟨p, HR.out, hpl, rfl, rfl⟩

end Go.Proofs.YtlchmkpnehbnlaaGreatDoor.Cd

/-
  A disk of the call's own: its blocks lie at B and above. Conditions: none.
-/
namespace Go.Proofs.YtlchmkpnehbnlaaGreatDoor.Cd
open Go.RowKit

section
variable {w w' : World} {B g N M : Nat} {P Q : Pd} {v : Value} {e : Ending}

end

end Go.Proofs.YtlchmkpnehbnlaaGreatDoor.Cd

/-
  Cut. Conditions: none.
-/
namespace Go.Proofs.YtlchmkpnehbnlaaGreatDoor.Cd
open Go.RowKit

set_option maxRecDepth 100000 in
set_option maxHeartbeats 1600000 in
theorem cut_pos (g N : Nat) (S : Nat → Prop) (P : Pd) (s : List UInt8) (m : Nat) (w : World) (h : Rep w g S P N) (hs : s.length ≤ 140737488355328) (hm : m ≤ 9223372036854775807) (hN : N + 4 ≤ 137438953472) (hr : P.fuse = 1 → P.off = false → (playS (keepSel P.keep) 0 P.late (P.safe, P.ns)).2 ≤ P.room) :
    Calls Tryz.prog 87 #[.pointer (some ⟨g, 0, none⟩), .string ⟨s.toArray⟩, .int .i64 m] w (AnsD g (N + 4) S (actR P s (fun k => shortenP (ticP P) k m)) w) := by
  have hB : Below w.heap.size w ((w.alloc (.cells #[.pointer (some ⟨g, 0, none⟩)] 29)).alloc (.cells #[.int .i64 m] 3)) := (((Below.refl _ _).alloc (Nat.le_refl _) _).alloc (by simp) _)
  have hrep1 := h.below hB h.lt
  have hfi := find_any g N S P s _ hrep1 hs
  have hfit := h.fits
  have hnS : ∀ b, w.heap.size ≤ b → ¬ S b := fun b hb e => by have := h.lt _ e; omega
  rcases actR_find (P := P) (s := s) (Q := fun k => shortenP (ticP P) k m) with ⟨hoff, hf, ha⟩ | ⟨hoff, hq, hf, ha⟩ | ⟨k, hoff, hq, hf, ha⟩
  · rw [hf] at hfi
    rw [ha]
    have HF := Lib.hid hfi
    have H := Lib.hid h
    clear hfi h hB hrep1 hfit hf ha
    go_enter Tryz.func87, Tryz.ntmps87
    go_wp2_with fail
    refine HF.out.mono ?_
    rintro e w1 ⟨rfl, rfl⟩
    go_wp2_with fail
    go_ret
    exact same_makes H.out ((((Below.refl _ _).alloc (Nat.le_refl _) _).alloc (by simp) _).alloc (by simp; omega) _) (by omega) hN
  · rw [hf] at hfi
    rw [ha]
    have HF := Lib.hid hfi
    have H := Lib.hid h
    clear hfi h hB hrep1 hfit hf ha
    go_enter Tryz.func87, Tryz.ntmps87
    go_wp2_with fail
    refine HF.out.mono ?_
    rintro e w1 ⟨rfl, rfl⟩
    go_wp2_with fail
    go_ret
    exact same_makes H.out ((((Below.refl _ _).alloc (Nat.le_refl _) _).alloc (by simp) _).alloc (by simp; omega) _) (by omega) hN
  · rw [hf] at hfi
    rw [ha]
    show Calls _ _ _ _ (AnsD g (N + 4) S (if P.fuse = 1 then (loseP (ticP P) P.keep, 8) else (shortenP (ticP P) k m, 0)) w)
    have hW2 : Below w.heap.size w (((w.alloc (.cells #[.pointer (some ⟨g, 0, none⟩)] 29)).alloc (.cells #[.int .i64 m] 3)).alloc (.cells #[.int .i64 k] 3)) := ((((Below.refl _ _).alloc (Nat.le_refl _) _).alloc (by simp) _).alloc (by simp; omega) _)
    have hrep2 := h.below hW2 h.lt
    have hap : Apart S w (((w.alloc (.cells #[.pointer (some ⟨g, 0, none⟩)] 29)).alloc (.cells #[.int .i64 m] 3)).alloc (.cells #[.int .i64 k] 3)) := ((((Apart.refl _ _).alloc _).alloc _).alloc _)
    have hcell0 : (((w.alloc (.cells #[.pointer (some ⟨g, 0, none⟩)] 29)).alloc (.cells #[.int .i64 m] 3)).alloc (.cells #[.int .i64 k] 3)).heap[w.heap.size]? = (w.alloc (.cells #[.pointer (some ⟨g, 0, none⟩)] 29)).heap[w.heap.size]? := by
      rw [Below.heap_alloc _ _ _ (by simp; try omega), Below.heap_alloc _ _ _ (by simp; try omega)]
    have hcell1 : (((w.alloc (.cells #[.pointer (some ⟨g, 0, none⟩)] 29)).alloc (.cells #[.int .i64 m] 3)).alloc (.cells #[.int .i64 k] 3)).heap[(w.alloc (.cells #[.pointer (some ⟨g, 0, none⟩)] 29)).heap.size]? = ((w.alloc (.cells #[.pointer (some ⟨g, 0, none⟩)] 29)).alloc (.cells #[.int .i64 m] 3)).heap[(w.alloc (.cells #[.pointer (some ⟨g, 0, none⟩)] 29)).heap.size]? := by
      rw [Below.heap_alloc _ _ _ (by simp; try omega)]
    have hcell2 : (((w.alloc (.cells #[.pointer (some ⟨g, 0, none⟩)] 29)).alloc (.cells #[.int .i64 m] 3)).alloc (.cells #[.int .i64 k] 3)).heap[((w.alloc (.cells #[.pointer (some ⟨g, 0, none⟩)] 29)).alloc (.cells #[.int .i64 m] 3)).heap.size]? = (((w.alloc (.cells #[.pointer (some ⟨g, 0, none⟩)] 29)).alloc (.cells #[.int .i64 m] 3)).alloc (.cells #[.int .i64 k] 3)).heap[((w.alloc (.cells #[.pointer (some ⟨g, 0, none⟩)] 29)).alloc (.cells #[.int .i64 m] 3)).heap.size]? := by
      rfl
    have hact := act_cut g N (N + 2) S P (shortenP (ticP P) k m) ⟨w.heap.size, 0, none⟩ ⟨w.heap.size + 2, 0, none⟩ ⟨w.heap.size + 1, 0, none⟩ _ hrep2 (fun h1 => hr h1 hoff) (by omega)
      (fun _ => does_cut g N k m S P _ _ _ _ (hfit.files s k hq) hm (by omega) (cell_new_at w _ _ (by simp) hcell0) (cell_new_at ((w.alloc (.cells #[.pointer (some ⟨g, 0, none⟩)] 29)).alloc (.cells #[.int .i64 m] 3)) _ _ (by simp) hcell2) (cell_new_at (w.alloc (.cells #[.pointer (some ⟨g, 0, none⟩)] 29)) _ _ (by simp) hcell1) (hnS _ (by show w.heap.size ≤ w.heap.size; omega)) (hnS _ (by show w.heap.size ≤ w.heap.size + 2; omega)) (hnS _ (by show w.heap.size ≤ w.heap.size + 1; omega)))
    obtain ⟨R, hR⟩ : ∃ R, (if P.fuse = 1 then (loseP (ticP P) P.keep, 8) else (shortenP (ticP P) k m, 0)) = R := ⟨_, rfl⟩
    rw [hR]
    have HRR := Lib.hid hR
    have HF := Lib.hid hfi
    have HACT := Lib.hid hact
    have HAP := Lib.hid hap
    clear hfi h hB hrep1 hrep2 hfit hf ha hact hap hr hR hW2
    go_enter Tryz.func87, Tryz.ntmps87
    go_wp2_with fail
    refine HF.out.mono ?_
    rintro e w1 ⟨rfl, rfl⟩
    go_wp2_with fail
    refine HACT.out.mono ?_
    intro e w2 hac
    have HA2 := Lib.hid (acted_ans (L := N + 4) HAP.out hac (by omega) (by omega) hN)
    obtain ⟨n, rfl⟩ := acted_val hac
    clear hac
    go_wp2_with fail
    go_ret
    rw [← HRR.out]
    exact HA2.out

def cutR (P : Pd) (s : List UInt8) (n : Int) : Pd × Nat := if P.off = false ∧ (P.files s).isSome = true ∧ n < 0 then (P, 1) else actR P s (fun k => shortenP (ticP P) k n.toNat)

set_option maxRecDepth 100000 in
set_option maxHeartbeats 1600000 in
theorem cut_neg (g N : Nat) (S : Nat → Prop) (P : Pd) (s : List UInt8) (n : Int) (w : World) (h : Rep w g S P N) (hs : s.length ≤ 140737488355328) (hn : n < 0) (hN : N + 4 ≤ 137438953472) :
    Calls Tryz.prog 87 #[.pointer (some ⟨g, 0, none⟩), .string ⟨s.toArray⟩, .int .i64 n] w (AnsD g (N + 4) S (cutR P s n) w) := by
  have hB : Below w.heap.size w ((w.alloc (.cells #[.pointer (some ⟨g, 0, none⟩)] 29)).alloc (.cells #[.int .i64 n] 3)) := ((Below.refl _ _).alloc (Nat.le_refl _) _).alloc (by simp) _
  have hrep1 := h.below hB h.lt
  have hfi := find_any g N S P s _ hrep1 hs
  rcases actR_find (P := P) (s := s) (Q := fun k => shortenP (ticP P) k n.toNat) with ⟨hoff, hf, ha⟩ | ⟨hoff, hq, hf, ha⟩ | ⟨k, hoff, hq, hf, ha⟩
  · have hc : cutR P s n = (P, 8) := by unfold cutR; rw [if_neg (by rw [hoff]; simp), ha]
    rw [hf] at hfi
    rw [hc]
    have HF := Lib.hid hfi
    have H := Lib.hid h
    clear hfi h hB hrep1 hf ha hc
    go_enter Tryz.func87, Tryz.ntmps87
    go_wp2_with fail
    refine HF.out.mono ?_
    rintro e w1 ⟨rfl, rfl⟩
    go_wp2_with fail
    go_ret
    exact same_makes H.out ((((Below.refl _ _).alloc (Nat.le_refl _) _).alloc (by simp) _).alloc (by simp; omega) _) (by omega) hN
  · have hc : cutR P s n = (P, 5) := by unfold cutR; rw [if_neg (by rw [hq]; simp), ha]
    rw [hf] at hfi
    rw [hc]
    have HF := Lib.hid hfi
    have H := Lib.hid h
    clear hfi h hB hrep1 hf ha hc
    go_enter Tryz.func87, Tryz.ntmps87
    go_wp2_with fail
    refine HF.out.mono ?_
    rintro e w1 ⟨rfl, rfl⟩
    go_wp2_with fail
    go_ret
    exact same_makes H.out ((((Below.refl _ _).alloc (Nat.le_refl _) _).alloc (by simp) _).alloc (by simp; omega) _) (by omega) hN
  · have hc : cutR P s n = (P, 1) := by unfold cutR; rw [if_pos ⟨hoff, by rw [hq]; rfl, hn⟩]
    rw [hf] at hfi
    rw [hc]
    have HF := Lib.hid hfi
    have H := Lib.hid h
    clear hfi h hB hrep1 hf ha hc
    go_enter Tryz.func87, Tryz.ntmps87
    go_wp2_with fail
    refine HF.out.mono ?_
    rintro e w1 ⟨rfl, rfl⟩
    go_wp2_with fail
    go_ret
    exact same_makes H.out ((((Below.refl _ _).alloc (Nat.le_refl _) _).alloc (by simp) _).alloc (by simp; omega) _) (by omega) hN

theorem cut_any (g N : Nat) (S : Nat → Prop) (P : Pd) (s : List UInt8) (n : Int) (w : World) (h : Rep w g S P N) (hs : s.length ≤ 140737488355328) (hn : n ≤ 9223372036854775807) (hN : N + 4 ≤ 137438953472) (hr : P.fuse = 1 → P.off = false → (playS (keepSel P.keep) 0 P.late (P.safe, P.ns)).2 ≤ P.room) :
    Calls Tryz.prog 87 #[.pointer (some ⟨g, 0, none⟩), .string ⟨s.toArray⟩, .int .i64 n] w (AnsD g (N + 4) S (cutR P s n) w) := by
  by_cases h0 : n < 0
  · exact cut_neg g N S P s n w h hs h0 hN
  · obtain ⟨m, rfl⟩ := Int.eq_ofNat_of_zero_le (by omega : 0 ≤ n)
    have hc : cutR P s (m : Int) = actR P s (fun k => shortenP (ticP P) k m) := by unfold cutR; rw [if_neg (fun e => h0 e.2.2), Int.toNat_natCast]
    rw [hc]
    exact cut_pos g N S P s m w h hs (by omega) hN hr

end Go.Proofs.YtlchmkpnehbnlaaGreatDoor.Cd

/-
  The program's disk tells what the document's disk tells: files by number against files by name. Conditions: none.
-/
namespace Go.Proofs.YtlchmkpnehbnlaaGreatDoor.Cd
open Go.RowKit

abbrev Nums := List UInt8 → Option Nat

def Inj (q : Nums) : Prop := ∀ a b k, q a = some k → q b = some k → a = b

def Pairs (q : Nums) : List Pw → List Wrt → Prop
  | [], [] => True
  | x :: l, w :: r => (q w.name = some x.file ∧ x.spot = w.page ∧ x.data = w.data) ∧ Pairs q l r
  | _, _ => False

structure Like (q : Nums) (s : Pages × Nat) (l : List Fil) : Prop where
  pages : ∀ n k, q n = some k → s.1 k = pagesF l n
  num : s.2 = count l
  once : Once l
  has : ∀ n, (getF l n).isSome = true → (q n).isSome = true

def Runs (n : List UInt8) : List Wrt → List (List UInt8) → List (List UInt8) → Prop
  | [], p, q => p = q
  | w :: r, p, q => (w.name = n → w.page ≤ p.length ∧ Runs n r (setP p w.page w.data) q) ∧ (w.name ≠ n → Runs n r p q)

structure Abs (P : Pd) (D : Dsk) : Prop where
  room : D.room = P.room
  off : D.off = P.off
  acts : D.acts = P.acts
  fuse : D.fuse = P.fuse
  keep : D.keep = P.keep
  inj : Inj P.files
  now : Like P.files (P.now, P.nn) D.now
  safe : Like P.files (P.safe, P.ns) D.safe
  names : ∀ n, (P.files n).isSome = true → (getF D.now n).isSome = true
  waits : Pairs P.files P.late D.waits
  runs : ∀ n, Runs n D.waits (pagesF D.safe n) (pagesF D.now n)

theorem pagesF_none {l : List Fil} {n : List UInt8} (h : getF l n = none) : pagesF l n = [] := by unfold pagesF; rw [h]

theorem pagesF_without (l : List Fil) (n m : List UInt8) : pagesF (without l n) m = if m = n then [] else pagesF l m := by
  unfold pagesF
  rw [getF_without]
  by_cases e : m = n
  · rw [if_pos e, if_pos e]
  · rw [if_neg e, if_neg e]

theorem count_le : ∀ (a b : List Fil), Once a → Once b → (∀ n, (pagesF a n).length ≤ (pagesF b n).length) → count a ≤ count b := by
  intro a
  induction a with
  | nil => intro b _ _ _; exact Nat.zero_le _
  | cons f r ih =>
    intro b ha hb h
    have h1 := List.nodup_cons.1 ha
    have hw := count_without hb f.name
    have hf := h f.name
    have e1 : pagesF (f :: r) f.name = f.pages := by unfold pagesF; rw [getF, if_pos rfl]
    rw [e1] at hf
    have := ih (without b f.name) h1.2 (without_once hb _) (fun n => by
      rw [pagesF_without]
      by_cases e : n = f.name
      · rw [if_pos e, e, pagesF_none (getF_none.2 h1.1)]
        exact Nat.le_refl _
      · have e2 : pagesF (f :: r) n = pagesF r n := by unfold pagesF; rw [getF, if_neg (fun e3 => e e3.symm)]
        rw [if_neg e, ← e2]
        exact h n)
    rw [count]
    omega

theorem count_same {a b : List Fil} (ha : Once a) (hb : Once b) (h : ∀ n, pagesF a n = pagesF b n) : count a = count b :=
  Nat.le_antisymm (count_le a b ha hb (fun n => by rw [h n]; exact Nat.le_refl _)) (count_le b a hb ha (fun n => by rw [h n]; exact Nat.le_refl _))

section
variable {q : Nums} {s : Pages × Nat} {l : List Fil}

theorem Like.put (hq : Inj q) (h : Like q s l) {x : Pw} {w : Wrt} (e : q w.name = some x.file ∧ x.spot = w.page ∧ x.data = w.data) : Like q (putS s x) (putF l ⟨w.name, setP (pagesF l w.name) w.page w.data⟩) := by
  obtain ⟨e1, e2, e3⟩ := e
  have hp := h.pages _ _ e1
  refine ⟨fun n k hn => ?_, ?_, put_once h.once _, fun n hn => ?_⟩
  · show setF s.1 x.file (setP (s.1 x.file) x.spot x.data) k = _
    rw [pagesF_put]
    by_cases e : n = w.name
    · rw [if_pos e]
      rw [e, e1] at hn
      injection hn with hn
      rw [← hn, setF_same, hp, e2, e3]
    · rw [if_neg e, setF_other _ (fun ek => e (hq _ _ _ hn (by rw [ek]; exact e1)))]
      exact h.pages n k hn
  · have hc := count_put h.once ⟨w.name, setP (pagesF l w.name) w.page w.data⟩
    simp only [setP_len] at hc
    show s.2 + (x.spot + 1 - (s.1 x.file).length) = _
    rw [hp, h.num, e2]
    omega
  · rw [getF_put] at hn
    by_cases e : n = w.name
    · rw [e, e1]; rfl
    · rw [if_neg e] at hn
      exact h.has n hn

theorem Like.play (hq : Inj q) (keep : Nat) : ∀ (late : List Pw) (waits : List Wrt) (i : Nat) (s : Pages × Nat) (l : List Fil), Pairs q late waits → Like q s l → Like q (playS (keepSel keep) i late s) (keeps keep i waits l) := by
  intro late
  induction late with
  | nil =>
    intro waits i s l hp h
    cases waits with
    | nil => exact h
    | cons w r => exact hp.elim
  | cons x r ih =>
    intro waits i s l hp h
    cases waits with
    | nil => exact hp.elim
    | cons w ws =>
      rw [playS, keeps]
      refine ih ws _ _ _ hp.2 ?_
      show Like q (if keepBit keep i = true then putS s x else s) _
      by_cases hk : keepBit keep i = true
      · rw [if_pos hk, if_pos hk]
        exact h.put hq hp.1
      · rw [if_neg hk, if_neg hk]
        exact h

theorem Like.there : ∀ (now : List Fil) (l : List Fil), Like q s l → (∀ f ∈ now, (q f.name).isSome = true) → Like q s (there now l) := by
  intro now
  induction now with
  | nil => intro l h _; exact h
  | cons f r ih =>
    intro l h hn
    rw [Cd.there]
    refine ih _ ?_ (fun g hg => hn g (by simp [hg]))
    by_cases hs : (getF l f.name).isSome = true
    · rw [if_pos hs]; exact h
    · rw [if_neg hs]
      have hno : getF l f.name = none := by
        cases hg : getF l f.name with
        | none => rfl
        | some x => rw [hg] at hs; exact absurd rfl hs
      refine ⟨fun n k hk => ?_, ?_, put_once h.once _, fun n hm => ?_⟩
      · rw [pagesF_put, h.pages n k hk]
        by_cases e : n = f.name
        · rw [if_pos e, e, pagesF_none hno]
        · rw [if_neg e]
      · have hc := count_put h.once ⟨f.name, []⟩
        simp only [pagesF_none hno, List.length_nil] at hc
        rw [h.num]
        omega
      · rw [getF_put] at hm
        by_cases e : n = f.name
        · rw [e]; exact hn f (by simp)
        · rw [if_neg e] at hm
          exact h.has n hm

theorem Like.named (h : Like q s l) {n : List UInt8} {k : Nat} (hn : q n = none) (hk : s.1 k = []) : Like (upd q n (some k)) s l := by
  have hno : getF l n = none := by
    cases hg : getF l n with
    | none => rfl
    | some x =>
      have := h.has n (by rw [hg]; rfl)
      rw [hn] at this
      cases this
  refine ⟨fun m j hj => ?_, h.num, h.once, fun m hm => ?_⟩
  · unfold upd at hj
    by_cases e : m = n
    · rw [if_pos e] at hj
      injection hj with hj
      rw [← hj, hk, e, pagesF_none hno]
    · rw [if_neg e] at hj
      exact h.pages m j hj
  · unfold upd
    by_cases e : m = n
    · rw [if_pos e]; rfl
    · rw [if_neg e]; exact h.has m hm

theorem Like.cut (hq : Inj q) (h : Like q s l) {n : List UInt8} {f : Nat} (e : q n = some f) (m : Nat) : Like q (setF s.1 f ((s.1 f).take m), s.2 - ((s.1 f).length - m)) (putF l ⟨n, (pagesF l n).take m⟩) := by
  have hp := h.pages _ _ e
  refine ⟨fun a k ha => ?_, ?_, put_once h.once _, fun a hm => ?_⟩
  · show setF s.1 f _ k = _
    rw [pagesF_put]
    by_cases e2 : a = n
    · rw [if_pos e2]
      rw [e2, e] at ha
      injection ha with ha
      rw [← ha, setF_same, hp]
    · rw [if_neg e2, setF_other _ (fun ek => e2 (hq _ _ _ ha (by rw [ek]; exact e)))]
      exact h.pages a k ha
  · have hc := count_put h.once ⟨n, (pagesF l n).take m⟩
    simp only [List.length_take] at hc
    show s.2 - ((s.1 f).length - m) = _
    rw [hp, h.num]
    omega
  · rw [getF_put] at hm
    by_cases e2 : a = n
    · rw [e2, e]; rfl
    · rw [if_neg e2] at hm
      exact h.has a hm

theorem Like.without (hq : Inj q) (h : Like q s l) {n : List UInt8} {f : Nat} (e : q n = some f) : Like (upd q n none) (setF s.1 f ((s.1 f).take 0), s.2 - ((s.1 f).length - 0)) (without l n) := by
  have hp := h.pages _ _ e
  refine ⟨fun a k ha => ?_, ?_, without_once h.once _, fun a hm => ?_⟩
  · show setF s.1 f _ k = _
    rw [pagesF_without]
    unfold upd at ha
    by_cases e2 : a = n
    · rw [if_pos e2] at ha
      cases ha
    · rw [if_neg e2] at ha
      rw [if_neg e2, setF_other _ (fun ek => e2 (hq _ _ _ ha (by rw [ek]; exact e)))]
      exact h.pages a k ha
  · have hc := count_without h.once n
    show s.2 - ((s.1 f).length - 0) = _
    rw [hp, h.num]
    omega
  · rw [getF_without] at hm
    unfold upd
    by_cases e2 : a = n
    · rw [if_pos e2] at hm
      cases hm
    · rw [if_neg e2] at hm
      rw [if_neg e2]
      exact h.has a hm

end

theorem Pairs.snoc {q : Nums} : ∀ {l : List Pw} {r : List Wrt} {x : Pw} {w : Wrt}, Pairs q l r → (q w.name = some x.file ∧ x.spot = w.page ∧ x.data = w.data) → Pairs q (l ++ [x]) (r ++ [w]) := by
  intro l
  induction l with
  | nil =>
    intro r x w h e
    cases r with
    | nil => exact ⟨e, trivial⟩
    | cons v t => exact h.elim
  | cons y t ih =>
    intro r x w h e
    cases r with
    | nil => exact h.elim
    | cons v t2 => exact ⟨h.1, ih h.2 e⟩

theorem Pairs.turn {q p : Nums} : ∀ {l : List Pw} {r : List Wrt}, Pairs q l r → (∀ w ∈ r, ∀ k, q w.name = some k → p w.name = some k) → Pairs p l r := by
  intro l
  induction l with
  | nil => intro r h _; cases r with
    | nil => exact h
    | cons v t => exact h.elim
  | cons y t ih =>
    intro r h hp
    cases r with
    | nil => exact h.elim
    | cons v t2 => exact ⟨⟨hp v (by simp) _ h.1.1, h.1.2⟩, ih h.2 (fun w hw => hp w (by simp [hw]))⟩

theorem Pairs.filter {q : Nums} {a : Pw → Bool} {b : Wrt → Bool} (hab : ∀ (x : Pw) (w : Wrt), (q w.name = some x.file ∧ x.spot = w.page ∧ x.data = w.data) → a x = b w) : ∀ {l : List Pw} {r : List Wrt}, Pairs q l r → Pairs q (l.filter a) (r.filter b) := by
  intro l
  induction l with
  | nil => intro r h; cases r with
    | nil => exact h
    | cons v t => exact h.elim
  | cons y t ih =>
    intro r h
    cases r with
    | nil => exact h.elim
    | cons v t2 =>
      rw [List.filter_cons, List.filter_cons, hab y v h.1]
      cases b v
      · exact ih h.2
      · exact ⟨h.1, ih h.2⟩

theorem Runs.len {n : List UInt8} : ∀ {ws : List Wrt} {p q : List (List UInt8)}, Runs n ws p q → p.length ≤ q.length ∧ ∀ w ∈ ws, w.name = n → w.page < q.length := by
  intro ws
  induction ws with
  | nil => intro p q h; exact ⟨by rw [show p = q from h]; exact Nat.le_refl _, fun w hw => by cases hw⟩
  | cons v r ih =>
    intro p q h
    by_cases e : v.name = n
    · obtain ⟨h1, h2⟩ := h.1 e
      obtain ⟨h3, h4⟩ := ih h2
      rw [setP_len] at h3
      refine ⟨by omega, fun w hw he => ?_⟩
      rcases List.mem_cons.1 hw with h5 | h5
      · rw [h5]; omega
      · exact h4 w h5 he
    · obtain ⟨h3, h4⟩ := ih (h.2 e)
      refine ⟨h3, fun w hw he => ?_⟩
      rcases List.mem_cons.1 hw with h5 | h5
      · rw [h5] at he; exact absurd he e
      · exact h4 w h5 he

theorem Runs.snoc {n : List UInt8} {w : Wrt} : ∀ {ws : List Wrt} {p q : List (List UInt8)}, Runs n ws p q → (w.name = n → w.page ≤ q.length) → Runs n (ws ++ [w]) p (if w.name = n then setP q w.page w.data else q) := by
  intro ws
  induction ws with
  | nil =>
    intro p q h hw
    have h : p = q := h
    subst h
    refine ⟨fun e => ⟨hw e, ?_⟩, fun e => ?_⟩
    · rw [if_pos e]; rfl
    · rw [if_neg e]; rfl
  | cons v r ih =>
    intro p q h hw
    exact ⟨fun e => ⟨(h.1 e).1, ih (h.1 e).2 hw⟩, fun e => ih (h.2 e) hw⟩

theorem Runs.filter {n : List UInt8} {b : Wrt → Bool} (hb : ∀ w : Wrt, w.name = n → b w = true) : ∀ {ws : List Wrt} {p q : List (List UInt8)}, Runs n ws p q → Runs n (ws.filter b) p q := by
  intro ws
  induction ws with
  | nil => intro p q h; exact h
  | cons v r ih =>
    intro p q h
    rw [List.filter_cons]
    by_cases e : v.name = n
    · rw [hb v e]
      exact ⟨fun _ => ⟨(h.1 e).1, ih (h.1 e).2⟩, fun e2 => absurd e e2⟩
    · cases b v
      · exact ih (h.2 e)
      · exact ⟨fun e2 => absurd e2 e, fun _ => ih (h.2 e)⟩

theorem Runs.none {n : List UInt8} : ∀ {ws : List Wrt} (p : List (List UInt8)), (∀ w ∈ ws, w.name ≠ n) → Runs n ws p p := by
  intro ws
  induction ws with
  | nil => intro p _; rfl
  | cons v r ih => intro p h; exact ⟨fun e => absurd e (h v (by simp)), fun _ => ih p (fun w hw => h w (by simp [hw]))⟩

theorem take_setP_in {p : List (List UInt8)} {i k : Nat} (h : i < k) (d : List UInt8) : (setP p i d).take k = setP (p.take k) i d := by
  unfold setP
  rw [List.length_take]
  by_cases hp : p.length ≤ k
  · rw [Nat.min_eq_right hp, List.take_of_length_le hp, List.take_of_length_le (by simp; omega)]
  · rw [show i + 1 - p.length = 0 by omega, show i + 1 - min k p.length = 0 by omega]
    simp only [List.replicate_zero, List.append_nil]
    rw [List.take_set]

theorem take_setP_out {p : List (List UInt8)} {i k : Nat} (h : k ≤ i) (hi : i ≤ p.length) (d : List UInt8) : (setP p i d).take k = p.take k := by
  unfold setP
  rw [List.take_set, List.take_append_of_le_length (by omega), List.set_eq_of_length_le (by rw [List.length_take]; omega)]

theorem Runs.cut {n : List UInt8} {k : Nat} : ∀ {ws : List Wrt} {p q : List (List UInt8)}, Runs n ws p q → Runs n (dropW ws n k) (p.take k) (q.take k) := by
  intro ws
  induction ws with
  | nil => intro p q h; show p.take k = q.take k; rw [show p = q from h]
  | cons v r ih =>
    intro p q h
    unfold dropW at ih ⊢
    rw [List.filter_cons]
    by_cases e : v.name = n
    · obtain ⟨h1, h2⟩ := h.1 e
      by_cases hv : v.page < k
      · rw [decide_eq_true (Or.inr hv)]
        refine ⟨fun _ => ⟨by rw [List.length_take]; omega, ?_⟩, fun e2 => absurd e e2⟩
        rw [← take_setP_in hv]
        exact ih h2
      · rw [decide_eq_false (fun h => h.elim (fun h => h e) (fun h => hv h))]
        have := ih h2
        rw [take_setP_out (by omega) h1] at this
        exact this
    · rw [decide_eq_true (Or.inl e)]
      exact ⟨fun e2 => absurd e2 e, fun _ => ih (h.2 e)⟩

end Go.Proofs.YtlchmkpnehbnlaaGreatDoor.Cd

/-
  The calls, in both tellings. Conditions: none.
-/
namespace Go.Proofs.YtlchmkpnehbnlaaGreatDoor.Cd
open Go.RowKit

theorem getF_mem {l : List Fil} {f : Fil} (h : f ∈ l) : (getF l f.name).isSome = true := by
  cases hg : getF l f.name with
  | some x => rfl
  | none => exact absurd (List.mem_map.2 ⟨f, h, rfl⟩) (getF_none.1 hg)

section
variable {P : Pd} {D : Dsk} {N : Nat}

theorem Abs.count_le (h : Abs P D) (keep : Nat) : count (keeps keep 0 D.waits D.safe) ≤ count D.now :=
  Cd.count_le _ _ (keeps_once _ _ _ h.safe.once) h.now.once (fun n => keeps_short D.waits 0 D.safe (fun w hw e => (h.runs n).len.2 w hw e) (h.runs n).len.1)

theorem Abs.room_ok (h : Abs P D) (hn : P.nn ≤ P.room) (keep : Nat) : (playS (keepSel keep) 0 P.late (P.safe, P.ns)).2 ≤ P.room := by
  have h1 := (Like.play h.inj keep _ _ 0 _ _ h.waits h.safe).num
  have h2 := h.count_le keep
  have h3 : P.nn = count D.now := h.now.num
  omega

theorem Abs.lose (h : Abs P D) (hoff : P.off = false) (keep : Nat) : Abs (loseP P keep) (Cd.lose D keep) := by
  have hl : Cd.lose D keep = { D with now := there D.now (keeps keep 0 D.waits D.safe), safe := there D.now (keeps keep 0 D.waits D.safe), waits := [], off := true, fuse := 0 } := by
    unfold Cd.lose
    rw [if_neg (by rw [h.off, hoff]; simp)]
  rw [hl]
  have hk := Like.play h.inj keep _ _ 0 _ _ h.waits h.safe
  have ht := Like.there D.now _ hk (fun f hf => h.now.has f.name (getF_mem hf))
  refine ⟨h.room, rfl, h.acts, rfl, h.keep, h.inj, ht, ht, fun n hn => ?_, trivial, fun n => rfl⟩
  show (getF (there D.now (keeps keep 0 D.waits D.safe)) n).isSome = true
  cases hg : getF (keeps keep 0 D.waits D.safe) n with
  | some x => rw [there_some _ _ _ _ hg]; rfl
  | none => rw [there_none _ _ _ hg, if_pos (h.names n hn)]; rfl

theorem Abs.tic (h : Abs P D) : Abs (ticP P) (actD D) :=
  ⟨h.room, h.off, by show D.acts + 1 = P.acts + 1; rw [h.acts], by show D.fuse - 1 = P.fuse - 1; rw [h.fuse], h.keep, h.inj, h.now, h.safe, h.names, h.waits, h.runs⟩

theorem Abs.put (h : Abs P D) (hf : Fits P N) (s : List UInt8) (i : Nat) (p : List UInt8) (hi : i ≤ (pagesF D.now s).length) :
    Abs (putP P s i p) { D with now := putF D.now ⟨s, setP (pagesF D.now s) i p⟩, waits := D.waits ++ [⟨s, i, p⟩] } := by
  have hs : upd P.files s (some (numP P s)) s = some (numP P s) := by unfold upd; rw [if_pos rfl]
  have hother : ∀ n, n ≠ s → upd P.files s (some (numP P s)) n = P.files n := fun n e => by unfold upd; rw [if_neg e]
  obtain ⟨hinj, hnow, hsafe, hext⟩ : Inj (upd P.files s (some (numP P s))) ∧ Like (upd P.files s (some (numP P s))) (P.now, P.nn) D.now ∧ Like (upd P.files s (some (numP P s))) (P.safe, P.ns) D.safe ∧
      ∀ n k, P.files n = some k → upd P.files s (some (numP P s)) n = some k := by
    cases hfs : P.files s with
    | some k =>
      have e1 : numP P s = k := by unfold numP; rw [hfs]
      have e2 : upd P.files s (some k) = P.files := by
        funext n
        unfold upd
        by_cases e : n = s
        · rw [if_pos e, e, hfs]
        · rw [if_neg e]
      rw [e1, e2]
      exact ⟨h.inj, h.now, h.safe, fun n k hk => hk⟩
    | none =>
      have e1 : numP P s = P.made + 1 := by unfold numP; rw [hfs]
      have hfr := hf.fresh (P.made + 1) (by omega)
      rw [e1]
      refine ⟨fun a b k ha hb => ?_, h.now.named hfs hfr.1, h.safe.named hfs hfr.2, fun n k hk => ?_⟩
      · unfold upd at ha hb
        by_cases ea : a = s
        · by_cases eb : b = s
          · rw [ea, eb]
          · rw [if_pos ea] at ha
            rw [if_neg eb] at hb
            injection ha with ha
            have := hf.files b k hb
            omega
        · by_cases eb : b = s
          · rw [if_neg ea] at ha
            rw [if_pos eb] at hb
            injection hb with hb
            have := hf.files a k ha
            omega
          · rw [if_neg ea] at ha
            rw [if_neg eb] at hb
            exact h.inj a b k ha hb
      · unfold upd
        by_cases e : n = s
        · rw [e, hfs] at hk; cases hk
        · rw [if_neg e]; exact hk
  refine ⟨h.room, h.off, h.acts, h.fuse, h.keep, hinj, hnow.put hinj (x := ⟨numP P s, i, p⟩) (w := ⟨s, i, p⟩) ⟨hs, rfl, rfl⟩, hsafe, fun n hn => ?_, (h.waits.turn (fun w _ k hk => hext _ _ hk)).snoc ⟨hs, rfl, rfl⟩, fun n => ?_⟩
  · show (getF (putF D.now _) n).isSome = true
    rw [getF_put]
    by_cases e : n = s
    · rw [if_pos (by exact e)]; rfl
    · rw [if_neg (by exact e)]
      refine h.names n ?_
      have hn : (upd P.files s (some (numP P s)) n).isSome = true := hn
      rw [hother n e] at hn
      exact hn
  · have := (h.runs n).snoc (w := ⟨s, i, p⟩) (fun e => by rw [← e]; exact hi)
    show Runs n (D.waits ++ [⟨s, i, p⟩]) (pagesF D.safe n) (pagesF (putF D.now ⟨s, setP (pagesF D.now s) i p⟩) n)
    rw [pagesF_put]
    by_cases e : n = s
    · rw [if_pos (by exact e)]
      rw [if_pos (by exact e.symm), e] at this
      rw [e]
      exact this
    · rw [if_neg (by exact e)]
      rw [if_neg (by exact fun h => e h.symm)] at this
      exact this

theorem Abs.count (h : Abs P D) (hoff : P.off = false) (s : List UInt8) : countR P s = (pagesF D.now s).length := by
  unfold countR
  rw [if_neg (by rw [hoff]; simp)]
  cases hq : P.files s with
  | some k => simp only; rw [show P.now k = _ from h.now.pages s k hq]
  | none =>
    have : getF D.now s = none := by
      cases hg : getF D.now s with
      | none => rfl
      | some x =>
        have := h.now.has s (by rw [hg]; rfl)
        rw [hq] at this
        cases this
    rw [pagesF_none this]
    rfl

theorem Abs.free (h : Abs P D) : (P.room : Int) - P.nn = freeD D := by unfold freeD; rw [h.room, show P.nn = Cd.count D.now from h.now.num]

theorem Abs.is (h : Abs P D) (s : List UInt8) : (P.files s).isSome = (getF D.now s).isSome := by
  cases h1 : (P.files s).isSome
  · cases h2 : (getF D.now s).isSome
    · rfl
    · rw [h.now.has s h2] at h1; cases h1
  · rw [h.names s h1]

theorem Abs.counted (h : Abs P D) (hoff : P.off = false) (s : List UInt8) : countR P s ≤ P.nn := by
  rw [h.count hoff, show P.nn = Cd.count D.now from h.now.num]
  have := count_without h.now.once s
  omega

theorem write_abs (h : Abs P D) (hf : Fits P N) (s b : List UInt8) (i : Int) : Abs (writeR P s i b).1 (writeD D s i b).1 ∧ (writeR P s i b).2 = (writeD D s i b).2 := by
  unfold writeR writeD
  rw [h.off]
  by_cases h1 : P.off = true
  · rw [if_pos h1, if_pos h1]; exact ⟨h, rfl⟩
  · rw [if_neg h1, if_neg h1]
    have hoff : P.off = false := by simpa using h1
    by_cases h2 : 512 < b.length
    · rw [if_pos h2, if_pos h2]; exact ⟨h, rfl⟩
    · rw [if_neg h2, if_neg h2, h.count hoff, h.free]
      by_cases h3 : i < 0 ∨ ((pagesF D.now s).length : Int) < i
      · rw [if_pos h3, if_pos h3]; exact ⟨h, rfl⟩
      · rw [if_neg h3, if_neg h3]
        by_cases h4 : i = ((pagesF D.now s).length : Int) ∧ freeD D = 0
        · rw [if_pos h4, if_pos h4]; exact ⟨h, rfl⟩
        · rw [if_neg h4, if_neg h4]
          have hp := (h.put hf s i.toNat (pad b) (by omega)).tic
          unfold ends
          rw [h.fuse, h.keep]
          by_cases h5 : P.fuse = 1
          · rw [if_pos h5, if_pos h5]
            exact ⟨hp.lose hoff _, rfl⟩
          · rw [if_neg h5, if_neg h5]
            exact ⟨hp, rfl⟩

theorem write_room (h : Abs P D) (hf : Fits P N) (s : List UInt8) (i : Int) (hoff : P.off = false) (hi : 0 ≤ i ∧ i ≤ countR P s) (hfull : ¬ (i = countR P s ∧ (P.room : Int) - P.nn = 0)) (x : List UInt8) :
    (playS (keepSel P.keep) 0 (P.late ++ [⟨numP P s, i.toNat, x⟩]) (P.safe, P.ns)).2 ≤ P.room := by
  have hc := h.count hoff s
  have hp := h.put hf s i.toNat x (by omega)
  refine hp.room_ok ?_ P.keep
  show P.nn + (i.toNat + 1 - (P.now (numP P s)).length) ≤ P.room
  rw [count_num hf hoff]
  have := hf.nns
  omega

theorem act_abs (h : Abs P D) (s : List UInt8) (Q : Nat → Pd) (Q' : Dsk → Dsk) (hQ : ∀ k, P.files s = some k → Abs (Q k) (Q' (actD D))) :
    Abs (actR P s Q).1 (if (mayD D s).2 = 0 then (Q' (mayD D s).1, 0) else mayD D s).1 ∧ (actR P s Q).2 = (if (mayD D s).2 = 0 then (Q' (mayD D s).1, 0) else mayD D s).2 := by
  by_cases h1 : P.off = true
  · have hm : mayD D s = (D, 8) := by unfold mayD; rw [h.off, if_pos h1]
    unfold actR
    rw [hm, if_pos h1]
    exact ⟨h, rfl⟩
  · have hoff : P.off = false := by simpa using h1
    have his := h.is s
    unfold actR
    rw [if_neg h1]
    cases hq : P.files s with
    | none =>
      rw [hq] at his
      have hm : mayD D s = (D, 5) := by unfold mayD; rw [h.off, if_neg h1, ← his]; rfl
      rw [hm]
      exact ⟨h, rfl⟩
    | some k =>
      rw [hq] at his
      have hQ := hQ k hq
      by_cases h5 : P.fuse = 1
      · have hm : mayD D s = (Cd.lose (actD D) P.keep, 8) := by unfold mayD ends; rw [h.off, if_neg h1, ← his, h.fuse, if_pos h5, h.keep]; rfl
        rw [hm]
        simp only
        rw [if_pos h5]
        exact ⟨h.tic.lose hoff _, rfl⟩
      · have hm : mayD D s = (actD D, 0) := by unfold mayD ends; rw [h.off, if_neg h1, ← his, h.fuse, if_neg h5]; rfl
        rw [hm]
        simp only
        rw [if_neg h5]
        exact ⟨hQ, rfl⟩

theorem hit_pair {q : Nums} (hq : Inj q) {s : List UInt8} {k : Nat} (hs : q s = some k) (m : Nat) (x : Pw) (w : Wrt) (e : q w.name = some x.file ∧ x.spot = w.page ∧ x.data = w.data) : (!hitP k m x) = decide (w.name ≠ s ∨ w.page < m) := by
  obtain ⟨e1, e2, _⟩ := e
  unfold hitP
  rw [e2, ← decide_not]
  congr 1
  refine propext ⟨fun h => ?_, fun h h2 => ?_⟩
  · by_cases e : w.name = s
    · rw [e, hs] at e1
      injection e1 with e1
      exact .inr (Nat.lt_of_not_le fun h3 => h ⟨e1.symm, h3⟩)
    · exact .inl e
  · rcases h with h | h
    · exact h (hq _ _ k (by rw [e1, h2.1]) hs)
    · omega

theorem Like.same {q : Nums} {s : Pages × Nat} {l l' : List Fil} (h : Like q s l') (ho : Once l) (hp : ∀ m, pagesF l m = pagesF l' m) (hh : ∀ n, (getF l n).isSome = true → (q n).isSome = true) : Like q s l :=
  ⟨fun n k hk => by rw [hp]; exact h.pages n k hk, by rw [h.num]; exact count_same h.once ho (fun n => (hp n).symm), ho, hh⟩

theorem Like.settle {q : Nums} (hq : Inj q) {n : List UInt8} {f : Nat} (hn : q n = some f) {t : List (List UInt8)} : ∀ (late : List Pw) (waits : List Wrt) (i : Nat) (s : Pages × Nat) (l : List Fil), Pairs q late waits → Like q s l → Runs n waits (pagesF l n) t →
    ∃ l', Like q (playS (ofFile f) i late s) l' ∧ pagesF l' n = t ∧ ∀ m, m ≠ n → pagesF l' m = pagesF l m := by
  intro late
  induction late with
  | nil =>
    intro waits i s l hp h hr
    cases waits with
    | nil => exact ⟨l, h, hr, fun m _ => rfl⟩
    | cons w r => exact hp.elim
  | cons x r ih =>
    intro waits i s l hp h hr
    cases waits with
    | nil => exact hp.elim
    | cons w ws =>
      rw [playS]
      show ∃ l', Like q (playS (ofFile f) (i + 1) r (if decide (x.file = f) = true then putS s x else s)) l' ∧ _
      by_cases e : w.name = n
      · have hx : x.file = f := by
          have := hp.1.1
          rw [e, hn] at this
          injection this with this
          exact this.symm
        rw [if_pos (by simp [hx])]
        obtain ⟨l', h1, h2, h3⟩ := ih ws (i + 1) _ _ hp.2 (h.put hq hp.1) (by rw [pagesF_put, if_pos (by exact e.symm)]; have := (hr.1 e).2; rw [e]; exact this)
        refine ⟨l', h1, h2, fun m hm => ?_⟩
        rw [h3 m hm, pagesF_put, if_neg (by rw [e]; exact hm)]
      · have hx : ¬ x.file = f := fun hx => e (hq _ _ f (by rw [hp.1.1, hx]) hn)
        rw [if_neg (by simp [hx])]
        exact ih ws (i + 1) _ _ hp.2 h (hr.2 e)

theorem Abs.settle (h : Abs P D) {s : List UInt8} {k : Nat} (hs : P.files s = some k) : Abs (settleP P k) (syncs D s) := by
  obtain ⟨l', h1, h2, h3⟩ := Like.settle h.inj hs _ _ 0 _ _ h.waits h.safe (h.runs s)
  have hl : Like P.files (playS (ofFile k) 0 P.late (P.safe, P.ns)) (putF D.safe ⟨s, pagesF D.now s⟩) := h1.same (put_once h.safe.once _) (fun m => by
    rw [pagesF_put]
    by_cases e : m = s
    · rw [if_pos (by exact e), e, h2]
    · rw [if_neg (by exact e), h3 m e]) (fun n hn => by
    rw [getF_put] at hn
    by_cases e : n = s
    · rw [e, hs]; rfl
    · rw [if_neg (by exact e)] at hn
      exact h.safe.has n hn)
  refine ⟨h.room, h.off, h.acts, h.fuse, h.keep, h.inj, h.now, hl, h.names, h.waits.filter (hit_pair h.inj hs 0), fun n => ?_⟩
  show Runs n (dropW D.waits s 0) (pagesF (putF D.safe ⟨s, pagesF D.now s⟩) n) (pagesF D.now n)
  rw [pagesF_put]
  by_cases e : n = s
  · rw [if_pos (by exact e), e]
    refine Runs.none _ (fun w hw => ?_)
    have := (List.mem_filter.1 hw).2
    simp only [decide_eq_true_eq] at this
    exact this.elim id (fun h => absurd h (Nat.not_lt_zero _))
  · rw [if_neg (by exact e)]
    exact (h.runs n).filter (fun w hw => decide_eq_true (.inl (by rw [hw]; exact e)))

theorem Abs.shorten (h : Abs P D) {s : List UInt8} {k : Nat} (hs : P.files s = some k) (m : Nat) : Abs (shortenP P k m) (cuts D s m) := by
  refine ⟨h.room, h.off, h.acts, h.fuse, h.keep, h.inj, h.now.cut h.inj hs m, h.safe.cut h.inj hs m, fun n hn => ?_, h.waits.filter (hit_pair h.inj hs m), fun n => ?_⟩
  · show (getF (putF D.now _) n).isSome = true
    rw [getF_put]
    by_cases e : n = s
    · rw [if_pos (by exact e)]; rfl
    · rw [if_neg (by exact e)]; exact h.names n hn
  · show Runs n (dropW D.waits s m) (pagesF (putF D.safe ⟨s, _⟩) n) (pagesF (putF D.now ⟨s, _⟩) n)
    rw [pagesF_put, pagesF_put]
    by_cases e : n = s
    · rw [if_pos (by exact e), if_pos (by exact e), e]
      exact (h.runs s).cut
    · rw [if_neg (by exact e), if_neg (by exact e)]
      exact (h.runs n).filter (fun w hw => decide_eq_true (.inl (by rw [hw]; exact e)))

theorem Abs.drop (h : Abs P D) {s : List UInt8} {k : Nat} (hs : P.files s = some k) : Abs (dropP P s) (removes D s) := by
  have hd : dropP P s = { shortenP P k 0 with files := upd P.files s none } := by unfold dropP; rw [hs]
  rw [hd]
  refine ⟨h.room, h.off, h.acts, h.fuse, h.keep, fun a b j ha hb => h.inj a b j (upd_none ha) (upd_none hb), h.now.without h.inj hs, h.safe.without h.inj hs, fun n hn => ?_, (h.waits.filter (hit_pair h.inj hs 0)).turn (fun w hw j hj => ?_), fun n => ?_⟩
  · show (getF (Cd.without D.now s) n).isSome = true
    have hn : (upd P.files s none n).isSome = true := hn
    unfold upd at hn
    by_cases e : n = s
    · rw [if_pos e] at hn; cases hn
    · rw [if_neg e] at hn
      rw [getF_without, if_neg e]
      exact h.names n hn
  · have := (List.mem_filter.1 hw).2
    simp only [decide_eq_true_eq] at this
    have hne : w.name ≠ s := this.elim id (fun h => absurd h (Nat.not_lt_zero _))
    show upd P.files s none w.name = some j
    unfold upd
    rw [if_neg hne]
    exact hj
  · show Runs n (dropW D.waits s 0) (pagesF (Cd.without D.safe s) n) (pagesF (Cd.without D.now s) n)
    rw [pagesF_without, pagesF_without]
    by_cases e : n = s
    · rw [if_pos e, if_pos e]
      refine Runs.none _ (fun w hw => ?_)
      have := (List.mem_filter.1 hw).2
      simp only [decide_eq_true_eq] at this
      rw [e]
      exact this.elim id (fun h => absurd h (Nat.not_lt_zero _))
    · rw [if_neg e, if_neg e]
      exact (h.runs n).filter (fun w hw => decide_eq_true (.inl (by rw [hw]; exact e)))

end

theorem fresh_abs (room : Int) : Abs (freshP room) (newD room) :=
  ⟨rfl, rfl, rfl, rfl, rfl, (fun a b k ha => by cases ha), ⟨(fun n k h => by cases h), rfl, once_nil, (fun n h => by cases h)⟩, ⟨(fun n k h => by cases h), rfl, once_nil, (fun n h => by cases h)⟩, (fun n h => by cases h), trivial, fun n => rfl⟩

end Go.Proofs.YtlchmkpnehbnlaaGreatDoor.Cd

/-
  A disk of the call's own, told as the document tells it: each call. Conditions: none.
-/
namespace Go.Proofs.YtlchmkpnehbnlaaGreatDoor.Cd
open Go.RowKit

section
variable {w w' : World} {B g N : Nat} {D : Dsk}

end

section
variable (B g N : Nat) (D : Dsk) (s : List UInt8) (w : World)

end

end Go.Proofs.YtlchmkpnehbnlaaGreatDoor.Cd

/-
  Rename. Conditions: none.
-/
namespace Go.Proofs.YtlchmkpnehbnlaaGreatDoor.Cd
open Go.RowKit

def renP (P : Pd) (a b : List UInt8) (k : Nat) : Pd := { dropP { P with files := upd P.files a none } b with files := upd (dropP { P with files := upd P.files a none } b).files b (some k) }

theorem dropP_made (P : Pd) (b : List UInt8) : (dropP P b).made = P.made := by
  unfold dropP
  split <;> rfl

set_option maxRecDepth 100000 in
set_option maxHeartbeats 1600000 in
theorem does_rename (g N k : Nat) (a b : List UInt8) (S : Nat → Prop) (P : Pd) (a1 a2 a3 a4 : Addr) (w : World) (hk : k ≤ P.made) (ha : a.length ≤ 140737488355328) (hb : b.length ≤ 140737488355328) (hN : N + 3 ≤ 137438953472)
    (h1 : CaptD w a1 g) (h2 : CaptS w a2 a) (h3 : CaptS w a3 b) (h4 : CaptN w a4 k) (hs1 : ¬ S a1.block) (hs2 : ¬ S a2.block) (hs3 : ¬ S a3.block) (hs4 : ¬ S a4.block) :
    Does 158 #[.pointer (some a1), .pointer (some a2), .pointer (some a3), .pointer (some a4)] g N (N + 3) S P (renP (ticP P) a b k) w := by
  intro w1 hap hrep
  have e1 : w1.cell? a1 = some (.pointer (some ⟨g, 0, none⟩)) := cell_far hap h1 hs1
  have e2 : w1.cell? a2 = some (.string ⟨a.toArray⟩) := cell_far hap h2 hs2
  have e3 : w1.cell? a3 = some (.string ⟨b.toArray⟩) := cell_far hap h3 hs3
  have e4 : w1.cell? a4 = some (.int .i64 k) := cell_far hap h4 hs4
  have hz : ∀ (c : Addr) (v : Value), w.cell? c = some v → ¬ S c.block → ¬ since S w w1 c.block ∧ c.block < w1.heap.size := fun c v hc hs => by
    have := World.block_lt_of_cell? w c hc
    have := hap.size
    exact ⟨fun e => e.elim hs (fun e => by omega), by omega⟩
  have z1 := hz a1 _ h1 hs1
  have z3 := hz a3 _ h3 hs3
  have z4 := hz a4 _ h4 hs4
  have hmade : k ≤ (ticP P).made := hk
  generalize ticP P = P0 at *
  generalize since S w w1 = T at *
  have hltT := hrep.lt
  obtain ⟨bf, c1, p1, c2, p2, lv, hd⟩ := hrep
  have d1 : w1.cell? ⟨g, 1, none⟩ = some (.map (some bf)) := cell_of_row _ _ _ _ _ _ hd.row
  obtain ⟨n, hf, hn⟩ := hd.fil
  have hdr : Below w1.heap.size w1 w1.drew := (Below.refl _ _).drew
  obtain ⟨w2, hrun, hf2, hturn⟩ := (hf.below hdr hf.lt).drop (x := a) (by simp only [filK, maxLen]; omega) 65
  have hrun : ∀ ty, (Builtin.delete_ #[65, 9] ty #[.map (some bf), .string ⟨a.toArray⟩]).run Tryz.prog w1.drew = .ok (.tuple #[]) w2 := fun _ => hrun
  have hd2 : DiskR w2 g T { P0 with files := upd P0.files a none } (N + 1) bf c1 p1 c2 p2 lv := (hd.below hdr hltT).named hturn.grown hf2 (by omega) (Fits.files_set hd.fits (fun t x ht => hd.fits.files t x (upd_none ht)))
  have hap2 : Apart T w1 w2 := ((Apart.refl T w1).drew).step hturn.grown (fun q e => by injection e with e; rw [← e]; exact .inl hd.ins.2.1)
  have hs12 := hap2.size
  have hdp := dropd_any g (N + 1) T { P0 with files := upd P0.files a none } b w2 ⟨_, _, _, _, _, _, hd2⟩ hb (by omega)
  have f1 : w2.cell? a1 = some (.pointer (some ⟨g, 0, none⟩)) := (hap2.cell z1.2 z1.1).trans e1
  have f3 : w2.cell? a3 = some (.string ⟨b.toArray⟩) := (hap2.cell z3.2 z3.1).trans e3
  have f4 : w2.cell? a4 = some (.int .i64 k) := (hap2.cell z4.2 z4.1).trans e4
  have HDP := Lib.hid hdp
  have HAP2 := Lib.hid hap2
  have HLT := Lib.hid hltT
  clear hd hd2 hdp hf hf2 hturn hap2 hdr hap h1 h2 h3 h4
  go_enter Tryz.func158, Tryz.ntmps158
  go_wp2_with fail
  go_region
  all_goals
    go_wp2_with fail
    refine HDP.out.mono ?_
    intro e w3 hmk
    have HM := Lib.hid (makes_up HAP2.out hmk)
    have g1 : w3.cell? a1 = some (.pointer (some ⟨g, 0, none⟩)) := (HM.out.2.2.cell z1.2 z1.1).trans e1
    have g3 : w3.cell? a3 = some (.string ⟨b.toArray⟩) := (HM.out.2.2.cell z3.2 z3.1).trans e3
    have g4 : w3.cell? a4 = some (.int .i64 k) := (HM.out.2.2.cell z4.2 z4.1).trans e4
    obtain rfl := hmk.1
    clear hmk
    obtain ⟨bf3, c13, p13, c23, p23, lv3, h3⟩ := HM.out.2.1
    have m1 : w3.cell? ⟨g, 1, none⟩ = some (.map (some bf3)) := cell_of_row _ _ _ _ _ _ h3.row
    obtain ⟨n3, hf3, hn3⟩ := h3.fil
    have hdr3 : Below w3.heap.size w3 w3.drew := (Below.refl _ _).drew
    obtain ⟨w4, hrun4, hf4, hturn4⟩ := (hf3.below hdr3 hf3.lt).store (x := b) (v := k) (by simp only [maxLen]; omega) (by simp only [filK, maxLen]; omega) trivial
    have hrun4 : (Instr.mapUpdate 65 (.map (some bf3)) (.string ⟨b.toArray⟩) (.int .i64 k)).run Tryz.prog w3.drew = .ok () w4 := hrun4
    have hle : (if ((dropP { P0 with files := upd P0.files a none } b).files b).isSome = true then 0 else 1) ≤ 1 := by split <;> omega
    have hd4 : DiskR w4 g (since T w1 w3) (renP P0 a b k) (N + 3) bf3 c13 p13 c23 p23 lv3 :=
      ((h3.mono (by omega : N + 1 + 1 ≤ N + 3) hN).below hdr3 h3.lt).named hturn4.grown hf4 (by omega) (Fits.files_set ((h3.mono (by omega : N + 1 + 1 ≤ N + 3) hN).fits) (fun t x ht => by
        unfold upd at ht
        split at ht
        · injection ht with ht
          rw [← ht, dropP_made]
          exact hmade
        · exact h3.fits.files t x ht))
    have hin3 := h3.ins.2.1
    have hs13 := HM.out.2.2.size
    have hap4 : Apart T w1 w4 := (HM.out.2.2.drew).step hturn4.grown (fun q e => by
      injection e with e
      rw [← e]
      rcases hin3 with h | h
      · exact .inl h
      · exact .inr h.1)
    have HD4 := Lib.hid hd4
    have HA4 := Lib.hid hap4
    have hs34 : w3.heap.size ≤ w4.heap.size := hturn4.grown.size
    clear h3 hf3 hdr3 hf4 hturn4 hle hd4 hin3 hap4
    go_wp2_with fail
    go_region
    all_goals
      go_wp2_with fail
      go_end0
      exact ⟨rfl, ⟨_, _, _, _, _, _, HD4.out.more (fun c hc => hc.elim .inl (fun h => .inr ⟨h.1, by have := h.2; omega⟩)) (since_lt HLT.out HA4.out.size)⟩, HA4.out⟩

set_option maxRecDepth 100000 in
set_option maxHeartbeats 1600000 in
theorem rename_any (g N : Nat) (S : Nat → Prop) (P : Pd) (a b : List UInt8) (w : World) (h : Rep w g S P N) (ha : a.length ≤ 140737488355328) (hb : b.length ≤ 140737488355328) (hN : N + 4 ≤ 137438953472) (hr : P.fuse = 1 → P.off = false → (playS (keepSel P.keep) 0 P.late (P.safe, P.ns)).2 ≤ P.room) :
    Calls Tryz.prog 119 #[.pointer (some ⟨g, 0, none⟩), .string ⟨a.toArray⟩, .string ⟨b.toArray⟩] w (AnsD g (N + 4) S (actR P a (fun k => renP (ticP P) a b k)) w) := by
  have hB : Below w.heap.size w (((w.alloc (.cells #[.pointer (some ⟨g, 0, none⟩)] 29)).alloc (.cells #[.string ⟨a.toArray⟩] 9)).alloc (.cells #[.string ⟨b.toArray⟩] 9)) := ((((Below.refl _ _).alloc (Nat.le_refl _) _).alloc (by simp) _).alloc (by simp; omega) _)
  have hrep1 := h.below hB h.lt
  have hfi := find_any g N S P a _ hrep1 ha
  have hfit := h.fits
  have hnS : ∀ b, w.heap.size ≤ b → ¬ S b := fun b hb e => by have := h.lt _ e; omega
  rcases actR_find (P := P) (s := a) (Q := fun k => renP (ticP P) a b k) with ⟨hoff, hf, ha'⟩ | ⟨hoff, hq, hf, ha'⟩ | ⟨k, hoff, hq, hf, ha'⟩
  · rw [hf] at hfi
    rw [ha']
    have HF := Lib.hid hfi
    have H := Lib.hid h
    clear hfi h hB hrep1 hfit hf ha'
    go_enter Tryz.func119, Tryz.ntmps119
    go_wp2_with fail
    refine HF.out.mono ?_
    rintro e w1 ⟨rfl, rfl⟩
    go_wp2_with fail
    go_ret
    exact same_makes H.out (((((Below.refl _ _).alloc (Nat.le_refl _) _).alloc (by simp) _).alloc (by simp; omega) _).alloc (by simp; omega) _) (by omega) hN
  · rw [hf] at hfi
    rw [ha']
    have HF := Lib.hid hfi
    have H := Lib.hid h
    clear hfi h hB hrep1 hfit hf ha'
    go_enter Tryz.func119, Tryz.ntmps119
    go_wp2_with fail
    refine HF.out.mono ?_
    rintro e w1 ⟨rfl, rfl⟩
    go_wp2_with fail
    go_ret
    exact same_makes H.out (((((Below.refl _ _).alloc (Nat.le_refl _) _).alloc (by simp) _).alloc (by simp; omega) _).alloc (by simp; omega) _) (by omega) hN
  · rw [hf] at hfi
    rw [ha']
    show Calls _ _ _ _ (AnsD g (N + 4) S (if P.fuse = 1 then (loseP (ticP P) P.keep, 8) else (renP (ticP P) a b k, 0)) w)
    have hW2 : Below w.heap.size w ((((w.alloc (.cells #[.pointer (some ⟨g, 0, none⟩)] 29)).alloc (.cells #[.string ⟨a.toArray⟩] 9)).alloc (.cells #[.string ⟨b.toArray⟩] 9)).alloc (.cells #[.int .i64 k] 3)) := (((((Below.refl _ _).alloc (Nat.le_refl _) _).alloc (by simp) _).alloc (by simp; omega) _).alloc (by simp; omega) _)
    have hrep2 := h.below hW2 h.lt
    have hap : Apart S w ((((w.alloc (.cells #[.pointer (some ⟨g, 0, none⟩)] 29)).alloc (.cells #[.string ⟨a.toArray⟩] 9)).alloc (.cells #[.string ⟨b.toArray⟩] 9)).alloc (.cells #[.int .i64 k] 3)) := (((((Apart.refl _ _).alloc _).alloc _).alloc _).alloc _)
    have hcell0 : ((((w.alloc (.cells #[.pointer (some ⟨g, 0, none⟩)] 29)).alloc (.cells #[.string ⟨a.toArray⟩] 9)).alloc (.cells #[.string ⟨b.toArray⟩] 9)).alloc (.cells #[.int .i64 k] 3)).heap[w.heap.size]? = (w.alloc (.cells #[.pointer (some ⟨g, 0, none⟩)] 29)).heap[w.heap.size]? := by
      rw [Below.heap_alloc _ _ _ (by simp; try omega), Below.heap_alloc _ _ _ (by simp; try omega), Below.heap_alloc _ _ _ (by simp; try omega)]
    have hcell1 : ((((w.alloc (.cells #[.pointer (some ⟨g, 0, none⟩)] 29)).alloc (.cells #[.string ⟨a.toArray⟩] 9)).alloc (.cells #[.string ⟨b.toArray⟩] 9)).alloc (.cells #[.int .i64 k] 3)).heap[(w.alloc (.cells #[.pointer (some ⟨g, 0, none⟩)] 29)).heap.size]? = ((w.alloc (.cells #[.pointer (some ⟨g, 0, none⟩)] 29)).alloc (.cells #[.string ⟨a.toArray⟩] 9)).heap[(w.alloc (.cells #[.pointer (some ⟨g, 0, none⟩)] 29)).heap.size]? := by
      rw [Below.heap_alloc _ _ _ (by simp; try omega), Below.heap_alloc _ _ _ (by simp; try omega)]
    have hcell2 : ((((w.alloc (.cells #[.pointer (some ⟨g, 0, none⟩)] 29)).alloc (.cells #[.string ⟨a.toArray⟩] 9)).alloc (.cells #[.string ⟨b.toArray⟩] 9)).alloc (.cells #[.int .i64 k] 3)).heap[((w.alloc (.cells #[.pointer (some ⟨g, 0, none⟩)] 29)).alloc (.cells #[.string ⟨a.toArray⟩] 9)).heap.size]? = (((w.alloc (.cells #[.pointer (some ⟨g, 0, none⟩)] 29)).alloc (.cells #[.string ⟨a.toArray⟩] 9)).alloc (.cells #[.string ⟨b.toArray⟩] 9)).heap[((w.alloc (.cells #[.pointer (some ⟨g, 0, none⟩)] 29)).alloc (.cells #[.string ⟨a.toArray⟩] 9)).heap.size]? := by
      rw [Below.heap_alloc _ _ _ (by simp; try omega)]
    have hcell3 : ((((w.alloc (.cells #[.pointer (some ⟨g, 0, none⟩)] 29)).alloc (.cells #[.string ⟨a.toArray⟩] 9)).alloc (.cells #[.string ⟨b.toArray⟩] 9)).alloc (.cells #[.int .i64 k] 3)).heap[(((w.alloc (.cells #[.pointer (some ⟨g, 0, none⟩)] 29)).alloc (.cells #[.string ⟨a.toArray⟩] 9)).alloc (.cells #[.string ⟨b.toArray⟩] 9)).heap.size]? = ((((w.alloc (.cells #[.pointer (some ⟨g, 0, none⟩)] 29)).alloc (.cells #[.string ⟨a.toArray⟩] 9)).alloc (.cells #[.string ⟨b.toArray⟩] 9)).alloc (.cells #[.int .i64 k] 3)).heap[(((w.alloc (.cells #[.pointer (some ⟨g, 0, none⟩)] 29)).alloc (.cells #[.string ⟨a.toArray⟩] 9)).alloc (.cells #[.string ⟨b.toArray⟩] 9)).heap.size]? := by
      rfl
    have hact := act_rename g N (N + 3) S P (renP (ticP P) a b k) ⟨w.heap.size, 0, none⟩ ⟨w.heap.size + 1, 0, none⟩ ⟨w.heap.size + 2, 0, none⟩ ⟨w.heap.size + 3, 0, none⟩ _ hrep2 (fun h1 => hr h1 hoff) (by omega)
      (fun _ => does_rename g N k a b S P _ _ _ _ _ (hfit.files a k hq) ha hb (by omega) (cell_new_at w _ _ (by simp) hcell0) (cell_new_at (w.alloc (.cells #[.pointer (some ⟨g, 0, none⟩)] 29)) _ _ (by simp) hcell1) (cell_new_at ((w.alloc (.cells #[.pointer (some ⟨g, 0, none⟩)] 29)).alloc (.cells #[.string ⟨a.toArray⟩] 9)) _ _ (by simp) hcell2) (cell_new_at (((w.alloc (.cells #[.pointer (some ⟨g, 0, none⟩)] 29)).alloc (.cells #[.string ⟨a.toArray⟩] 9)).alloc (.cells #[.string ⟨b.toArray⟩] 9)) _ _ (by simp) hcell3) (hnS _ (by show w.heap.size ≤ w.heap.size; omega)) (hnS _ (by show w.heap.size ≤ w.heap.size + 1; omega)) (hnS _ (by show w.heap.size ≤ w.heap.size + 2; omega)) (hnS _ (by show w.heap.size ≤ w.heap.size + 3; omega)))
    obtain ⟨R, hR⟩ : ∃ R, (if P.fuse = 1 then (loseP (ticP P) P.keep, 8) else (renP (ticP P) a b k, 0)) = R := ⟨_, rfl⟩
    rw [hR]
    have HRR := Lib.hid hR
    have HF := Lib.hid hfi
    have HACT := Lib.hid hact
    have HAP := Lib.hid hap
    clear hfi h hB hrep1 hrep2 hfit hf ha' hact hap hr hR hW2
    go_enter Tryz.func119, Tryz.ntmps119
    go_wp2_with fail
    refine HF.out.mono ?_
    rintro e w1 ⟨rfl, rfl⟩
    go_wp2_with fail
    refine HACT.out.mono ?_
    intro e w2 hac
    have HA2 := Lib.hid (acted_ans (L := N + 4) HAP.out hac (by omega) (by omega) hN)
    obtain ⟨n, rfl⟩ := acted_val hac
    clear hac
    go_wp2_with fail
    go_ret
    rw [← HRR.out]
    exact HA2.out

end Go.Proofs.YtlchmkpnehbnlaaGreatDoor.Cd

/-
  Rename, in both tellings. Conditions: none.
-/
namespace Go.Proofs.YtlchmkpnehbnlaaGreatDoor.Cd
open Go.RowKit

def renW (a b : List UInt8) (w : Wrt) : Wrt := if w.name = a then ⟨b, w.page, w.data⟩ else w

theorem Like.rename {q : Nums} {s : Pages × Nat} {l l' : List Fil} {a b : List UInt8} {k : Nat} (h : Like q s l) (ha : q a = some k) (ho : Once l') (hp : ∀ n, pagesF l' n = if n = b then pagesF l a else if n = a then [] else pagesF l n)
    (hh : ∀ n, (getF l' n).isSome = true → n = b ∨ (n ≠ a ∧ (getF l n).isSome = true)) (hc : count l' = count l) : Like (upd (upd q a none) b (some k)) s l' := by
  refine ⟨fun n j hj => ?_, by rw [h.num, hc], ho, fun n hn => ?_⟩
  · rw [hp]
    unfold upd at hj
    by_cases e : n = b
    · rw [if_pos e] at hj ⊢
      injection hj with hj
      rw [← hj]
      exact h.pages a k ha
    · rw [if_neg e] at hj ⊢
      by_cases e2 : n = a
      · rw [if_pos e2] at hj; cases hj
      · rw [if_neg e2] at hj ⊢
        exact h.pages n j hj
  · unfold upd
    rcases hh n hn with e | ⟨e, h2⟩
    · rw [if_pos e]; rfl
    · by_cases e3 : n = b
      · rw [if_pos e3]; rfl
      · rw [if_neg e3, if_neg e]
        exact h.has n h2

theorem ren_list {l : List Fil} {a b : List UInt8} (ho : Once l) (hne : a ≠ b) : Once (putF (without l a) ⟨b, pagesF l a⟩) ∧ (∀ n, pagesF (putF (without l a) ⟨b, pagesF l a⟩) n = if n = b then pagesF (without l b) a else if n = a then [] else pagesF (without l b) n) ∧
    (∀ n, (getF (putF (without l a) ⟨b, pagesF l a⟩) n).isSome = true → n = b ∨ (n ≠ a ∧ (getF (without l b) n).isSome = true)) ∧ count (putF (without l a) ⟨b, pagesF l a⟩) = count (without l b) := by
  refine ⟨put_once (without_once ho _) _, fun n => ?_, fun n hn => ?_, ?_⟩
  · rw [pagesF_put, pagesF_without, pagesF_without, pagesF_without, if_neg hne]
    by_cases e : n = b
    · rw [if_pos (by exact e), if_pos e]
    · rw [if_neg (by exact e), if_neg e, if_neg e]
  · rw [getF_put] at hn
    by_cases e : n = b
    · exact .inl e
    · rw [if_neg (by exact e), getF_without] at hn
      by_cases e2 : n = a
      · rw [if_pos e2] at hn; cases hn
      · rw [if_neg e2] at hn
        exact .inr ⟨e2, by rw [getF_without, if_neg e]; exact hn⟩
  · have h1 := count_put (without_once ho a) ⟨b, pagesF l a⟩
    have h2 := count_without ho a
    have h3 := count_without ho b
    simp only [pagesF_without] at h1
    rw [if_neg (fun e => hne e.symm)] at h1
    omega

theorem Pairs.ren {q : Nums} {a b : List UInt8} {k : Nat} (ha : q a = some k) (hb : q b = none) : ∀ {l : List Pw} {r : List Wrt}, Pairs q l r → Pairs (upd (upd q a none) b (some k)) l (r.map (renW a b)) := by
  intro l
  induction l with
  | nil => intro r h; cases r with
    | nil => exact h
    | cons v t => exact h.elim
  | cons y t ih =>
    intro r h
    cases r with
    | nil => exact h.elim
    | cons v t2 =>
      refine ⟨?_, ih h.2⟩
      obtain ⟨h1, h2, h3⟩ := h.1
      unfold renW upd
      by_cases e : v.name = a
      · rw [if_pos e]
        rw [e, ha] at h1
        exact ⟨by rw [if_pos rfl]; exact h1, h2, h3⟩
      · have e2 : ¬ v.name = b := fun e2 => by rw [e2, hb] at h1; cases h1
        rw [if_neg e]
        exact ⟨by rw [if_neg e2, if_neg e]; exact h1, h2, h3⟩

theorem Runs.ren_to {a b : List UInt8} : ∀ {ws : List Wrt} {p q : List (List UInt8)}, (∀ w ∈ ws, w.name ≠ b) → Runs a ws p q → Runs b (ws.map (renW a b)) p q := by
  intro ws
  induction ws with
  | nil => intro p q _ h; exact h
  | cons v r ih =>
    intro p q hn h
    have hr := fun w hw => hn w (List.mem_cons_of_mem v hw)
    rw [List.map_cons]
    by_cases e : v.name = a
    · have ev : renW a b v = ⟨b, v.page, v.data⟩ := by unfold renW; rw [if_pos e]
      rw [ev]
      exact ⟨fun _ => ⟨(h.1 e).1, ih hr (h.1 e).2⟩, fun e2 => absurd rfl e2⟩
    · have ev : renW a b v = v := by unfold renW; rw [if_neg e]
      rw [ev]
      exact ⟨fun e2 => absurd e2 (hn v (by simp)), fun _ => ih hr (h.2 e)⟩

theorem Runs.ren_other {a b n : List UInt8} (h1 : n ≠ a) (h2 : n ≠ b) : ∀ {ws : List Wrt} {p q : List (List UInt8)}, Runs n ws p q → Runs n (ws.map (renW a b)) p q := by
  intro ws
  induction ws with
  | nil => intro p q h; exact h
  | cons v r ih =>
    intro p q h
    rw [List.map_cons]
    by_cases e : v.name = a
    · have ev : renW a b v = ⟨b, v.page, v.data⟩ := by unfold renW; rw [if_pos e]
      rw [ev]
      exact ⟨fun e2 => absurd e2.symm h2, fun _ => ih (h.2 (fun e2 => h1 (by rw [← e2, e])))⟩
    · have ev : renW a b v = v := by unfold renW; rw [if_neg e]
      rw [ev]
      exact ⟨fun e2 => ⟨(h.1 e2).1, ih (h.1 e2).2⟩, fun e2 => ih (h.2 e2)⟩

section
variable {P : Pd} {D : Dsk}

theorem pairs_names {q : Nums} : ∀ {l : List Pw} {r : List Wrt}, Pairs q l r → ∀ w ∈ r, (q w.name).isSome = true := by
  intro l
  induction l with
  | nil => intro r h w hw; cases r with
    | nil => cases hw
    | cons v t => exact h.elim
  | cons y t ih =>
    intro r h w hw
    cases r with
    | nil => cases hw
    | cons v t2 =>
      rcases List.mem_cons.1 hw with e | e
      · rw [e, h.1.1]; rfl
      · exact ih h.2 w e

theorem Abs.gone (h : Abs P D) (b : List UInt8) : Abs (dropP P b) (removes D b) ∧ (dropP P b).files b = none ∧ ∀ n, n ≠ b → (dropP P b).files n = P.files n := by
  cases hb : P.files b with
  | some j =>
    refine ⟨h.drop hb, ?_, fun n hn => ?_⟩
    · unfold dropP; rw [hb]; show upd P.files b none b = none; unfold upd; rw [if_pos rfl]
    · unfold dropP; rw [hb]; show upd P.files b none n = _; unfold upd; rw [if_neg hn]
  | none =>
    have hd : dropP P b = P := by unfold dropP; rw [hb]
    have hn1 : getF D.now b = none := by
      cases hg : getF D.now b with
      | none => rfl
      | some x => have := h.now.has b (by rw [hg]; rfl); rw [hb] at this; cases this
    have hn2 : getF D.safe b = none := by
      cases hg : getF D.safe b with
      | none => rfl
      | some x => have := h.safe.has b (by rw [hg]; rfl); rw [hb] at this; cases this
    have hw : dropW D.waits b 0 = D.waits := by
      unfold dropW
      rw [List.filter_eq_self]
      intro w hw
      have := pairs_names h.waits w hw
      exact decide_eq_true (.inl (fun e => by rw [e, hb] at this; cases this))
    have hr : removes D b = D := by unfold removes; rw [without_none hn1, without_none hn2, hw]
    rw [hd, hr]
    exact ⟨h, hb, fun n _ => rfl⟩

theorem dropP_named {a b : List UInt8} (hne : a ≠ b) : dropP { P with files := upd P.files a none } b = { dropP P b with files := upd (dropP P b).files a none } := by
  have e1 : upd P.files a none b = P.files b := by unfold upd; rw [if_neg (fun e => hne e.symm)]
  unfold dropP
  simp only
  rw [e1]
  cases hb : P.files b with
  | none => rfl
  | some j =>
    have e2 : upd (upd P.files a none) b none = upd (upd P.files b none) a none := by
      funext n
      unfold upd
      split <;> split <;> rfl
    show ({ shortenP { P with files := upd P.files a none } j 0 with files := upd (upd P.files a none) b none } : Pd) = { shortenP P j 0 with files := upd (upd P.files b none) a none }
    rw [e2]
    rfl

theorem Abs.rename (h : Abs P D) {a b : List UInt8} {k : Nat} (ha : P.files a = some k) (hne : a ≠ b) : Abs (renP P a b k) (renames D a b) := by
  obtain ⟨g, gb, go⟩ := h.gone b
  have hq : (dropP P b).files a = some k := by rw [go a hne]; exact ha
  have hr : renP P a b k = { dropP P b with files := upd (upd (dropP P b).files a none) b (some k) } := by
    unfold renP
    rw [dropP_named hne]
  rw [hr]
  generalize dropP P b = Q at *
  obtain ⟨n1, n2, n3, n4⟩ := ren_list (a := a) (b := b) h.now.once hne
  obtain ⟨s1, s2, s3, s4⟩ := ren_list (a := a) (b := b) h.safe.once hne
  have hwn : ∀ w ∈ dropW D.waits b 0, w.name ≠ b := fun w hw => by
    have := (List.mem_filter.1 hw).2
    simp only [decide_eq_true_eq] at this
    exact this.elim id (fun h => absurd h (Nat.not_lt_zero _))
  refine ⟨g.room, g.off, g.acts, g.fuse, g.keep, fun x y j hx hy => ?_, g.now.rename hq n1 n2 n3 n4, g.safe.rename hq s1 s2 s3 s4, fun n hn => ?_, g.waits.ren hq gb, fun n => ?_⟩
  · have hx : upd (upd Q.files a none) b (some k) x = some j := hx
    have hy : upd (upd Q.files a none) b (some k) y = some j := hy
    unfold upd at hx hy
    by_cases ex : x = b
    · by_cases ey : y = b
      · rw [ex, ey]
      · rw [if_pos ex] at hx
        rw [if_neg ey] at hy
        by_cases ey2 : y = a
        · rw [if_pos ey2] at hy; cases hy
        · rw [if_neg ey2] at hy
          injection hx with hx
          rw [← hx] at hy
          exact absurd (g.inj _ _ _ hy hq) ey2
    · rw [if_neg ex] at hx
      by_cases ex2 : x = a
      · rw [if_pos ex2] at hx; cases hx
      · rw [if_neg ex2] at hx
        by_cases ey : y = b
        · rw [if_pos ey] at hy
          injection hy with hy
          rw [← hy] at hx
          exact absurd (g.inj _ _ _ hx hq) ex2
        · rw [if_neg ey] at hy
          by_cases ey2 : y = a
          · rw [if_pos ey2] at hy; cases hy
          · rw [if_neg ey2] at hy
            exact g.inj _ _ _ hx hy
  · show (getF (putF (without D.now a) ⟨b, pagesF D.now a⟩) n).isSome = true
    have hn : (upd (upd Q.files a none) b (some k) n).isSome = true := hn
    unfold upd at hn
    rw [getF_put]
    by_cases e : n = b
    · rw [if_pos (by exact e)]; rfl
    · rw [if_neg e] at hn
      rw [if_neg (by exact e), getF_without]
      by_cases e2 : n = a
      · rw [if_pos e2] at hn; cases hn
      · rw [if_neg e2] at hn
        rw [if_neg e2]
        have := g.names n hn
        have this : (getF (without D.now b) n).isSome = true := this
        rw [getF_without, if_neg e] at this
        exact this
  · show Runs n ((dropW D.waits b 0).map (renW a b)) (pagesF (putF (without D.safe a) ⟨b, pagesF D.safe a⟩) n) (pagesF (putF (without D.now a) ⟨b, pagesF D.now a⟩) n)
    rw [n2, s2]
    by_cases e : n = b
    · rw [if_pos e, if_pos e, e]
      exact Runs.ren_to hwn (g.runs a)
    · rw [if_neg e, if_neg e]
      by_cases e2 : n = a
      · rw [if_pos e2, if_pos e2]
        refine Runs.none _ (fun w hw => ?_)
        obtain ⟨v, hv, rfl⟩ := List.mem_map.1 hw
        unfold renW
        split
        · rw [e2]; exact fun h => hne h.symm
        · rw [e2]; assumption
      · rw [if_neg e2, if_neg e2]
        exact Runs.ren_other e2 e (g.runs n)

theorem Abs.rename_same (h : Abs P D) {a : List UInt8} {k : Nat} (ha : P.files a = some k) : Abs (renP P a a k) D := by
  have e1 : upd P.files a none a = none := by unfold upd; rw [if_pos rfl]
  have hd : dropP { P with files := upd P.files a none } a = { P with files := upd P.files a none } := by unfold dropP; simp only; rw [e1]
  have hr : renP P a a k = P := by
    unfold renP
    rw [hd]
    have e2 : upd (upd P.files a none) a (some k) = P.files := by
      funext n
      unfold upd
      by_cases e : n = a
      · rw [if_pos e, e, ha]
      · rw [if_neg e, if_neg e]
    show ({ P with files := upd (upd P.files a none) a (some k) } : Pd) = P
    rw [e2]
  rw [hr]
  exact h

end

end Go.Proofs.YtlchmkpnehbnlaaGreatDoor.Cd

/-
  A disk whose blocks are those of a set: Cut, Remove, Rename, and what is asked of it. Conditions: none.
-/
namespace Go.Proofs.YtlchmkpnehbnlaaGreatDoor.Cd
open Go.RowKit

def DkS (w : World) (g N : Nat) (S : Nat → Prop) (D : Dsk) : Prop := ∃ P, Rep w g S P N ∧ Abs P D

def MakesD (g N : Nat) (S : Nat → Prop) (D : Dsk) (v : Value) (w : World) (e : Ending) (w' : World) : Prop := e = .returned v ∧ DkS w' g N (since S w w') D ∧ Apart S w w'

section
variable {w w' : World} {g N M : Nat} {S : Nat → Prop} {D : Dsk}

theorem DkS.below (h : DkS w g N S D) (hb : Below w.heap.size w w') : DkS w' g N S D := by
  obtain ⟨P, h1, h2⟩ := h
  exact ⟨P, h1.below hb h1.lt, h2⟩

theorem DkS.lt (h : DkS w g N S D) : ∀ k, S k → k < w.heap.size := by
  obtain ⟨P, h1, _⟩ := h
  exact h1.lt

theorem DkS.mono (h : DkS w g N S D) (hN : N ≤ M) (hM : M ≤ 137438953472) : DkS w g M S D := by
  obtain ⟨P, h1, h2⟩ := h
  exact ⟨P, h1.mono hN hM, h2⟩

theorem DkS.apart {T : Nat → Prop} (h : DkS w g N S D) (ha : Apart T w w') (hd : ∀ k, S k → ¬ T k) : DkS w' g N S D := by
  obtain ⟨P, h1, h2⟩ := h
  exact ⟨P, h1.apart ha hd, h2⟩

theorem makesD_of {P : Pd} {v : Value} {e : Ending} (ha : Abs P D) (h : Makes g S P N v w e w') : MakesD g N S D v w e w' := ⟨h.1, ⟨P, h.2.1, ha⟩, h.2.2⟩

end

theorem new_dks (room : Int) (w : World) (h1 : -9223372036854775808 ≤ room) (h2 : room ≤ 9223372036854775807) :
    Calls Tryz.prog 10 #[.int .i64 room] w (fun e w' => ∃ g S, e = .returned (.pointer (some ⟨g, 0, none⟩)) ∧ DkS w' g 0 S (newD room) ∧ (∀ k, S k → w.heap.size ≤ k) ∧ Below w.heap.size w w') := by
  refine (new_disk room w h1 h2).mono ?_
  rintro e w' ⟨g, S, rfl, hr, hS, hb⟩
  exact ⟨g, S, rfl, ⟨_, hr, fresh_abs room⟩, hS, hb⟩

section
variable (g N : Nat) (S : Nat → Prop) (D : Dsk) (s : List UInt8) (w : World)

theorem write_dks (bs : List UInt8) (i : Int) (b : Value) (h : DkS w g N S D) (hb : Sl w w.heap.size b bs) (hbS : 0 < bs.length → ∀ A n c, b = .slice (some A) n c → ¬ S A.block) (hs : s.length ≤ 140737488355328) (hi2 : i ≤ 9223372036854775807) (hN : N + 4 ≤ 137438953472) :
    Calls Tryz.prog 88 #[.pointer (some ⟨g, 0, none⟩), .string ⟨s.toArray⟩, .int .i64 i, b] w (MakesD g (N + 4) S (writeD D s i bs).1 (.int .i64 ((writeD D s i bs).2 : Nat)) w) := by
  obtain ⟨P, hR, h2⟩ := h
  obtain ⟨a1, a2⟩ := write_abs h2 hR.fits s bs i
  rw [← a2]
  have hcn : countR P s ≤ P.nn := by
    cases hoff : P.off
    · exact h2.counted hoff s
    · unfold countR; rw [if_pos hoff]; exact Nat.zero_le _
  exact (write_any g N S P s bs i b w hR hs hb hbS hi2 hN hcn (fun _ ho hi hf x => write_room h2 hR.fits s i ho hi hf x)).mono fun e w' h => makesD_of a1 h

theorem sync_dks (h : DkS w g N S D) (hs : s.length ≤ 140737488355328) (hN : N + 4 ≤ 137438953472) :
    Calls Tryz.prog 73 #[.pointer (some ⟨g, 0, none⟩), .string ⟨s.toArray⟩] w (MakesD g (N + 4) S (syncD D s).1 (.int .i64 ((syncD D s).2 : Nat)) w) := by
  obtain ⟨P, hR, h2⟩ := h
  obtain ⟨a1, a2⟩ := act_abs h2 s (fun k => settleP (ticP P) k) (fun D => syncs D s) (fun k hk => h2.tic.settle hk)
  have a2 : _ = (syncD D s).2 := a2
  rw [← a2]
  exact (sync_any g N S P s w hR hs hN (fun _ _ => h2.room_ok hR.fits.nns _)).mono fun e w' h => makesD_of a1 h

theorem off_dks (keep : Nat) (h : DkS w g N S D) (hk : keep < 18446744073709551616) :
    Calls Tryz.prog 22 #[.pointer (some ⟨g, 0, none⟩), .int .u64 keep] w (MakesD g N S (lose D keep) (.tuple #[]) w) := by
  obtain ⟨P, h1, h2⟩ := h
  have a1 : Abs (offP P keep) (lose D keep) := by
    unfold offP
    by_cases ho : P.off = true
    · rw [if_pos ho, lose_again (by rw [h2.off]; exact ho)]; exact h2
    · rw [if_neg ho]; exact h2.lose (by simpa using ho) keep
  exact (off_any g N keep S P w h1 hk (fun _ => h2.room_ok h1.fits.nns _)).mono fun e w' h => makesD_of a1 h

theorem on_dks (h : DkS w g N S D) : Calls Tryz.prog 23 #[.pointer (some ⟨g, 0, none⟩)] w (MakesD g N S (onD D) (.tuple #[]) w) := by
  obtain ⟨P, h1, h2⟩ := h
  exact (on_any g N S P w h1).mono fun e w' h => makesD_of (P := { P with off := false }) (D := onD D) ⟨h2.room, rfl, h2.acts, h2.fuse, h2.keep, h2.inj, h2.now, h2.safe, h2.names, h2.waits, h2.runs⟩ h

def ReadsD (D : Dsk) (s : List UInt8) (i : Int) (w : World) (e : Ending) (w' : World) : Prop :=
  (∃ p, readD D s i = (p, 0) ∧ p.length = 512 ∧ e = .returned (.tuple #[.slice (some ⟨w.heap.size, 0, none⟩) 512 512, .int .i64 0]) ∧ w' = w.alloc (.cells (vb p).toArray 124)) ∨
    ∃ n : Nat, n ≠ 0 ∧ readD D s i = ([], n) ∧ e = .returned (.tuple #[.slice none 0 0, .int .i64 n]) ∧ Below w.heap.size w w'

theorem readR_abs {P : Pd} {D : Dsk} (h : Abs P D) (s : List UInt8) (i : Int) : readR P s i = readD D s i := by
  unfold readR readD
  rw [h.off]
  by_cases ho : P.off = true
  · rw [if_pos ho, if_pos ho]
  · rw [if_neg ho, if_neg ho]
    cases hq : P.files s with
    | none =>
      have := h.is s
      rw [hq] at this
      rw [pages_of_none this.symm, if_pos (by simp only [List.length_nil]; omega)]
    | some k =>
      have e : P.now k = pagesF D.now s := h.now.pages s k hq
      simp only
      unfold lst
      by_cases h0 : 0 ≤ i
      · rw [if_pos h0]
        show (match (P.now k)[i.toNat]? with | none => _ | some p => _) = _
        rw [e]
        by_cases hl : ((pagesF D.now s).length : Int) ≤ i
        · rw [if_pos (.inr hl), List.getElem?_eq_none (by omega)]
        · rw [if_neg (by omega), List.getElem?_eq_getElem (by omega), List.getD_eq_getElem?_getD, List.getElem?_eq_getElem (by omega)]
          rfl
      · rw [if_neg h0, if_pos (by omega)]

theorem read_dks (i : Int) (h : DkS w g N S D) (hs : s.length ≤ 140737488355328) (hi : (Lit.int .i64 i).wf = true) :
    Calls Tryz.prog 82 #[.pointer (some ⟨g, 0, none⟩), .string ⟨s.toArray⟩, .int .i64 i] w (ReadsD D s i w) := by
  obtain ⟨P, h1, h2⟩ := h
  refine (read_disk g N S P s i w h1 hs hi).mono ?_
  intro e w' hr
  unfold ReadIs at hr
  rw [readR_abs h2] at hr
  exact hr

end

end Go.Proofs.YtlchmkpnehbnlaaGreatDoor.Cd

namespace Go.Proofs.YtlchmkpnehbnlaaGreatDoor.Cd
open Go.RowKit

section
variable (g N : Nat) (S : Nat → Prop) (D : Dsk) (s : List UInt8) (w : World)

theorem cut_dks (n : Int) (h : DkS w g N S D) (hs : s.length ≤ 140737488355328) (hn : n ≤ 9223372036854775807) (hN : N + 4 ≤ 137438953472) :
    Calls Tryz.prog 87 #[.pointer (some ⟨g, 0, none⟩), .string ⟨s.toArray⟩, .int .i64 n] w (MakesD g (N + 4) S (cutD D s n).1 (.int .i64 ((cutD D s n).2 : Nat)) w) := by
  obtain ⟨P, hR, h2⟩ := h
  obtain ⟨a1, a2⟩ : Abs (cutR P s n).1 (cutD D s n).1 ∧ (cutR P s n).2 = (cutD D s n).2 := by
    unfold cutR cutD
    rw [h2.off, ← h2.is s]
    by_cases hc : P.off = false ∧ (P.files s).isSome = true ∧ n < 0
    · rw [if_pos hc, if_pos hc]; exact ⟨h2, rfl⟩
    · rw [if_neg hc, if_neg hc]
      exact act_abs h2 s _ (fun D => cuts D s n.toNat) (fun k hk => h2.tic.shorten hk n.toNat)
  rw [← a2]
  exact (cut_any g N S P s n w hR hs hn hN (fun _ _ => h2.room_ok hR.fits.nns _)).mono fun e w' h => makesD_of a1 h

theorem remove_dks (h : DkS w g N S D) (hs : s.length ≤ 140737488355328) (hN : N + 4 ≤ 137438953472) :
    Calls Tryz.prog 58 #[.pointer (some ⟨g, 0, none⟩), .string ⟨s.toArray⟩] w (MakesD g (N + 4) S (removeD D s).1 (.int .i64 ((removeD D s).2 : Nat)) w) := by
  obtain ⟨P, hR, h2⟩ := h
  obtain ⟨a1, a2⟩ := act_abs h2 s (fun _ => dropP (ticP P) s) (fun D => removes D s) (fun k hk => h2.tic.drop hk)
  have a2 : _ = (removeD D s).2 := a2
  rw [← a2]
  exact (remove_any g N S P s w hR hs hN (fun _ _ => h2.room_ok hR.fits.nns _)).mono fun e w' h => makesD_of a1 h

theorem free_dks (h : DkS w g N S D) : Calls Tryz.prog 62 #[.pointer (some ⟨g, 0, none⟩)] w (Says (.int .i64 (freeD D)) w) := by
  obtain ⟨P, h1, h2⟩ := h
  rw [← h2.free]
  exact free_any g N S P w h1

theorem count_dks (h : DkS w g N S D) (ho : D.off = false) (hs : s.length ≤ 140737488355328) :
    Calls Tryz.prog 81 #[.pointer (some ⟨g, 0, none⟩), .string ⟨s.toArray⟩] w (fun e w' => e = .returned (.int .i64 ((pagesF D.now s).length : Nat)) ∧ w' = w) := by
  obtain ⟨P, h1, h2⟩ := h
  rw [← h2.count (by rw [← h2.off]; exact ho)]
  exact count_any g N S P s w h1 hs

theorem has_dks (h : DkS w g N S D) (ho : D.off = false) (hs : s.length ≤ 140737488355328) :
    Calls Tryz.prog 94 #[.pointer (some ⟨g, 0, none⟩), .string ⟨s.toArray⟩] w (fun e w' => e = .returned (.bool (getF D.now s).isSome) ∧ w' = w) := by
  obtain ⟨P, hR, h2⟩ := h
  have he : hasR P s = (getF D.now s).isSome := by unfold hasR; rw [← h2.is s, ← h2.off, ho]; rfl
  rw [← he]
  exact has_any g N S P s w hR hs

theorem down_dks (h : DkS w g N S D) : Calls Tryz.prog 45 #[.pointer (some ⟨g, 0, none⟩)] w (fun e w' => e = .returned (.bool D.off) ∧ w' = w) := by
  obtain ⟨P, h1, h2⟩ := h
  rw [h2.off]
  exact down_any g N S P w h1

end

theorem rename_dks (g N : Nat) (S : Nat → Prop) (D : Dsk) (a b : List UInt8) (w : World) (h : DkS w g N S D) (ha : a.length ≤ 140737488355328) (hb : b.length ≤ 140737488355328) (hN : N + 4 ≤ 137438953472) :
    Calls Tryz.prog 119 #[.pointer (some ⟨g, 0, none⟩), .string ⟨a.toArray⟩, .string ⟨b.toArray⟩] w (MakesD g (N + 4) S (renameD D a b).1 (.int .i64 ((renameD D a b).2 : Nat)) w) := by
  obtain ⟨P, hR, h2⟩ := h
  obtain ⟨a1, a2⟩ : Abs (actR P a (fun k => renP (ticP P) a b k)).1 (renameD D a b).1 ∧ (actR P a (fun k => renP (ticP P) a b k)).2 = (renameD D a b).2 := by
    unfold renameD
    by_cases hne : a = b
    · subst hne
      have := act_abs h2 a (fun k => renP (ticP P) a a k) (fun D => D) (fun k hk => h2.tic.rename_same hk)
      rw [if_neg (fun h => h.2 rfl)]
      by_cases hz : (mayD D a).2 = 0
      · rw [if_pos hz] at this
        exact ⟨this.1, by rw [this.2, hz]⟩
      · rw [if_neg hz] at this
        exact this
    · have := act_abs h2 a (fun k => renP (ticP P) a b k) (fun D => renames D a b) (fun k hk => h2.tic.rename hk hne)
      by_cases hz : (mayD D a).2 = 0
      · rw [if_pos hz] at this
        rw [if_pos ⟨hz, hne⟩]
        exact this
      · rw [if_neg hz] at this
        rw [if_neg (fun h => hz h.1)]
        exact this
  rw [← a2]
  exact (rename_any g N S P a b w hR ha hb hN (fun _ _ => h2.room_ok hR.fits.nns _)).mono fun e w' h => makesD_of a1 h

end Go.Proofs.YtlchmkpnehbnlaaGreatDoor.Cd
