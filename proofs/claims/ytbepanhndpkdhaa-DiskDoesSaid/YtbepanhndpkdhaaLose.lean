/-
  lose: the power goes. Conditions: none.
-/
import Derived.Test.YtbepanhndpkdhaaSettle
import Derived.Test.YtbepanhndpkdhaaTwin
namespace Go.Proofs.Ytbepanhndpkdhaa.Cd
open Go.RowKit

/-- Those that are kept. -/
def keepSel (keep : Nat) : Nat → Pw → Bool := fun i _ => keepBit keep i
def loseP (P : Pd) (keep : Nat) : Pd :=
  { P with now := (playS (keepSel keep) 0 P.late (P.safe, P.ns)).1, nn := (playS (keepSel keep) 0 P.late (P.safe, P.ns)).2, safe := (playS (keepSel keep) 0 P.late (P.safe, P.ns)).1, ns := (playS (keepSel keep) 0 P.late (P.safe, P.ns)).2, late := [], off := true, fuse := 0 }

theorem loseP_fits {P : Pd} {N keep : Nat} (h : Fits P N) (hr : (playS (keepSel keep) 0 P.late (P.safe, P.ns)).2 ≤ P.room) : Fits (loseP P keep) N := by
  have hok := playS_ok (sel := keepSel keep) P.late 0 (P.safe, P.ns) (m := P.made) ⟨h.safe, fun x hx => (h.fresh x hx).2⟩ h.late
  have hn : (playS (keepSel keep) 0 P.late (P.safe, P.ns)).2 ≤ P.ns + 4097 * cntS (keepSel keep) 0 P.late := playS_n (sel := keepSel keep) P.late 0 (P.safe, P.ns) h.late
  have hc := cntS_le (keepSel keep) P.late 0
  have hs := h.nss
  refine ⟨h.top, h.room, h.made, h.acts, Nat.zero_le _, h.keep, fun x hx => by simp [loseP] at hx, hok.len, hok.len, hr, ?_, h.files, fun x hx => ⟨hok.fresh x hx, hok.fresh x hx⟩⟩
  show (playS (keepSel keep) 0 P.late (P.safe, P.ns)).2 + 4097 * ([] : List Pw).length ≤ _
  simp only [List.length_nil]
  omega

/-- The fields that are written when the power goes. -/
def lostW (w : World) (g c p : Nat) : World :=
  ((((w.setCell ⟨g, 3, none⟩ (.map (some c))).setCell ⟨g, 4, none⟩ (.map (some p))).setCell ⟨g, 7, none⟩ (.slice none 0 0)).setCell ⟨g, 8, none⟩ (.bool true)).setCell ⟨g, 10, none⟩ (.int .i64 0)
theorem lostW_other (w : World) (g c p b : Nat) (h : b ≠ g) : (lostW w g c p).heap[b]? = w.heap[b]? := by
  unfold lostW
  rw [heap_setCell_other _ _ _ _ h, heap_setCell_other _ _ _ _ h, heap_setCell_other _ _ _ _ h, heap_setCell_other _ _ _ _ h, heap_setCell_other _ _ _ _ h]
theorem lostW_size (w : World) (g c p : Nat) : (lostW w g c p).heap.size = w.heap.size := by simp [lostW]

theorem lose_end {w w1 w2 : World} {g N bf c1 p1 c2 p2 j keep c p : Nat} {S : Nat → Prop} {P : Pd} {lv : Value} (h : DiskR w g S P N bf c1 p1 c2 p2 lv) (ha : Apart (two c2 p2) w w1)
    (hs : Side w1 c2 p2 (playS (keepSel keep) 0 P.late (P.safe, P.ns)).1 (playS (keepSel keep) 0 P.late (P.safe, P.ns)).2 (j + cntS (keepSel keep) 0 P.late)) (hj : j + P.late.length ≤ N) (hr : (playS (keepSel keep) 0 P.late (P.safe, P.ns)).2 ≤ P.room)
    (hb : Below w1.heap.size w1 w2) (ht : Side w2 c p (playS (keepSel keep) 0 P.late (P.safe, P.ns)).1 (playS (keepSel keep) 0 P.late (P.safe, P.ns)).2 (j + cntS (keepSel keep) 0 P.late)) (hc : w1.heap.size ≤ c) (hp : w1.heap.size ≤ p) :
    Makes g S (loseP P keep) N (.tuple #[]) w (.returned (.tuple #[])) (lostW w2 g c p) := by
  obtain ⟨i1, i2, i3, i4, i5, i6⟩ := h.ins
  obtain ⟨n1, n2, n3, n4, n5⟩ := h.neg
  obtain ⟨m1, m2, m3, m4⟩ := h.nef
  obtain ⟨q1, q2, q3, q4⟩ := h.nes
  have hcl := cntS_le (keepSel keep) P.late 0
  have l1 := h.lt g i1
  have l2 := h.lt bf i2
  have l5 := h.lt c2 i5
  have l6 := h.lt p2 i6
  have s1 := ha.size
  have s2 := hb.size
  have ltc := ht.lt
  have hap : Apart S w (lostW w2 g c p) := by
    have h1 : Apart S w w2 := (ha.mono (by rintro b (rfl | rfl) <;> assumption)).trans (.below hb)
    exact apart_setCell (apart_setCell (apart_setCell (apart_setCell (apart_setCell h1 i1 _) i1 _) i1 _) i1 _) i1 _
  have hrow : w2.heap[g]? = some (.cells (dcells P bf c1 p1 c2 p2 lv) 74) := (hb.block g (by omega)).trans ((ha.block g l1 (by rintro (e | e); exact n4 e; exact n5 e)).trans h.row)
  obtain ⟨n, hfl, hn⟩ := h.fil
  have hrow2 : (lostW w2 g c p).heap[g]? = some (.cells (dcells (loseP P keep) bf c p c2 p2 (.slice none 0 0)) 74) :=
    heap_setCell_same _ g 10 _ _ _ (heap_setCell_same _ g 8 _ _ _ (heap_setCell_same _ g 7 _ _ _ (heap_setCell_same _ g 4 _ _ _ (heap_setCell_same w2 g 3 _ _ (.map (some c)) hrow))))
  have hd : DiskR (lostW w2 g c p) g (since S w (lostW w2 g c p)) (loseP P keep) N bf c p c2 p2 (.slice none 0 0) := by
    refine ⟨loseP_fits h.fits hr, hrow2, ⟨n, ?_, hn⟩, ?_, ⟨_, ?_, by show j + cntS (keepSel keep) 0 P.late + ([] : List Pw).length ≤ N; simp only [List.length_nil]; omega⟩, World.ownsRow_nil _ _ _ _, ⟨n1, by omega, by omega, n4, n5⟩, ⟨by omega, by omega, m3, m4⟩, ⟨by omega, by omega, by omega, by omega⟩, (fun b hb => by cases hb), ⟨.inl i1, .inl i2, .inr ⟨by omega, by rw [lostW_size]; omega⟩, .inr ⟨by omega, by rw [lostW_size]; omega⟩, .inl i5, .inl i6⟩, (fun b hb => by cases hb), since_lt h.lt hap.size⟩
    · exact hfl.heap ((lostW_other _ _ _ _ _ (fun e => n1 e.symm)).trans ((hb.block bf (by omega)).trans (ha.block bf l2 (by rintro (e | e); exact m3 e; exact m4 e))))
    · exact (ht.heap (lostW_other _ _ _ _ _ (by omega)) (lostW_other _ _ _ _ _ (by omega))).mono (by omega)
    · exact (hs.below hb (by omega) (by omega)).heap (lostW_other _ _ _ _ _ (fun e => n4 e.symm)) (lostW_other _ _ _ _ _ (fun e => n5 e.symm))
  exact ⟨rfl, ⟨_, _, _, _, _, _, hd⟩, hap⟩

theorem bit_is (keep k : Nat) (hk : keep < 18446744073709551616) : (bits BinOp.and IntKind.u64 ((keep : Int) / 2 ^ (k % 64)) 1 == 1) = keepBit keep k := by
  have h1 : ((keep : Int) / 2 ^ (k % 64)) = ((keep / 2 ^ (k % 64) : Nat) : Int) := by
    rw [Int.natCast_ediv, Int.natCast_pow]
    rfl
  have h2 : keep / 2 ^ (k % 64) < 18446744073709551616 := Nat.lt_of_le_of_lt (Nat.div_le_self _ _) hk
  rw [h1]
  unfold keepBit
  generalize keep / 2 ^ (k % 64) = x at *
  rw [and_one_u64 _ (by omega) (by omega)]
  by_cases h : x % 2 = 1
  · have : ((x : Int) % 2) = 1 := by omega
    simp [h, this]
  · have h0 : x % 2 = 0 := by omega
    have : ((x : Int) % 2) = 0 := by omega
    simp [h0, this]
theorem bit_on {keep k : Nat} (hk : keep < 18446744073709551616) (h : keepBit keep k = true) : (bits BinOp.and IntKind.u64 ((keep : Int) / 2 ^ (k % 64)) 1 == 1) = true := by rw [bit_is keep k hk, h]
theorem bit_off {keep k : Nat} (hk : keep < 18446744073709551616) (h : ¬ keepBit keep k = true) : (bits BinOp.and IntKind.u64 ((keep : Int) / 2 ^ (k % 64)) 1 == 1) = false := by
  rw [bit_is keep k hk]
  cases hb : keepBit keep k
  · rfl
  · exact absurd hb h

set_option maxRecDepth 100000 in
set_option maxHeartbeats 4000000 in
theorem lose_any (g N keep : Nat) (S : Nat → Prop) (P : Pd) (w : World) (h : Rep w g S P N) (hkeep : keep < 18446744073709551616) (hr : (playS (keepSel keep) 0 P.late (P.safe, P.ns)).2 ≤ P.room) :
    Calls Try.prog 45 #[.pointer (some ⟨g, 0, none⟩), .int .u64 keep] w (Makes g S (loseP P keep) N (.tuple #[]) w) := by
  obtain ⟨bf, c1, p1, c2, p2, lv, h⟩ := h
  have hl : ∀ x ∈ P.late, x.data.length = 512 := fun x hx => (h.fits.late x hx).2.2
  have hlen : P.late.length ≤ 137438953472 := by obtain ⟨_, _, h9⟩ := h.safe; have := h.fits.top; omega
  have hg := h.lt g h.ins.1
  have hneg : ∀ b, lv.ownBlock = some b → b ≠ g := fun b hb => (h.nel b hb).1
  have c7 : w.cell? ⟨g, 7, none⟩ = some lv := cell_of_row _ _ _ _ _ _ h.row
  have hlate := h.late
  obtain ⟨j0, hsf, hj0⟩ := h.safe
  rcases hlate.2 with ⟨rfl, h0⟩ | ⟨b, cap, cur, rfl, _, _, hncap, hcapm, _, _⟩
  · have hnil : P.late = [] := List.eq_nil_of_length_eq_zero h0
    have hneq := h.neg
    have hi5 := h.lt c2 h.ins.2.2.2.2.1
    have hi6 := h.lt p2 h.ins.2.2.2.2.2
    have hs0 : Side w c2 p2 (playS (keepSel keep) 0 P.late (P.safe, P.ns)).1 (playS (keepSel keep) 0 P.late (P.safe, P.ns)).2 (j0 + cntS (keepSel keep) 0 P.late) := by rw [hnil]; exact hsf
    have htw := twin_any c2 p2 _ _ _ w hs0
    have HTW := Lib.hid htw
    have H := Lib.hid h
    have HS0 := Lib.hid hs0
    have d5 : w.cell? ⟨g, 5, none⟩ = some (.map (some c2)) := cell_of_row _ _ _ _ _ _ h.row
    have d6 : w.cell? ⟨g, 6, none⟩ = some (.map (some p2)) := cell_of_row _ _ _ _ _ _ h.row
    clear h htw hsf hlate hl hneg h0 hnil hs0
    go_enter Try.func45, Try.ntmps45
    go_wp2_with fail
    refine wp_loop_rounds 1 ?_
    rw [rounds_succ]
    go_wp2_with fail
    refine HTW.out.mono ?_
    rintro e w2 ⟨c, p, rfl, htt, hc, hp, hb⟩
    have hend := lose_end H.out (Apart.refl _ _) HS0.out hj0 hr hb htt hc hp
    have HEND := Lib.hid hend
    have hrow2 : w2.heap[g]? = some (.cells (dcells P bf c1 p1 c2 p2 (.slice none 0 0)) 74) := (hb.block g hg).trans H.out.row
    have z : ∀ k, w2.frozen? ⟨g, k, none⟩ = false := fun k => by simp [World.frozen?, hrow2]
    have x3 : w2.cell? ⟨g, 3, none⟩ = some (.map (some c1)) := cell_of_row _ _ _ _ _ _ hrow2
    have x4 : w2.cell? ⟨g, 4, none⟩ = some (.map (some p1)) := cell_of_row _ _ _ _ _ _ hrow2
    have x7 : w2.cell? ⟨g, 7, none⟩ = some (.slice none 0 0) := cell_of_row _ _ _ _ _ _ hrow2
    have x8 : w2.cell? ⟨g, 8, none⟩ = some (.bool P.off) := cell_of_row _ _ _ _ _ _ hrow2
    have x10 : w2.cell? ⟨g, 10, none⟩ = some (.int .i64 P.fuse) := cell_of_row _ _ _ _ _ _ hrow2
    have z3 := z 3
    have z4 := z 4
    have z7 := z 7
    have z8 := z 8
    have z10 := z 10
    clear hend htt hc hp hb hrow2 z
    go_wp2_with fail
    go_end0
    exact HEND.out
  · have hbl := (World.ownsRow.lt hlate b rfl).2
    have hbn := h.nel b rfl
    have H := Lib.hid h
    have HL := Lib.hid hl
    have HAT := Lib.hid (row_at h.late hl rfl)
    have HSF := Lib.hid hsf
    have hneq := h.neg
    have hi5 := h.lt c2 h.ins.2.2.2.2.1
    have hi6 := h.lt p2 h.ins.2.2.2.2.2
    have hns := h.fits.nss
    have htop := h.fits.top
    have hmade := h.fits.made
    clear h hl hsf hlate
    go_enter Try.func45, Try.ntmps45
    go_wp2_with fail
    go_loopw [11] (fun i wr => ∃ k : Nat, i = .int .i64 k ∧ k ≤ P.late.length ∧ Hid (Side wr c2 p2 (playS (keepSel keep) 0 (P.late.take k) (P.safe, P.ns)).1 (playS (keepSel keep) 0 (P.late.take k) (P.safe, P.ns)).2 (j0 + cntS (keepSel keep) 0 (P.late.take k))) ∧ Hid (Apart (two c2 p2) w wr)) (fun i _ => P.late.length - (intOf i).toNat)
    case atStart => exact ⟨0, rfl, Nat.zero_le _, HSF.out, Apart.refl _ _⟩
    case round =>
      obtain ⟨k, rfl, hk, hsd, ha⟩ := hrel
      have hwsz := ha.out.size
      have hrow1 : Hid (wr.heap[g]? = some (.cells (dcells P bf c1 p1 c2 p2 (.slice (some ⟨b, 0, none⟩) P.late.length cap)) 74)) := (ha.out.block g hg (by rintro (e | e) <;> omega)).trans H.out.row
      by_cases hlt : k < P.late.length
      · have hlt2 : (k : Int) < P.late.length := by omega
        have hra : Hid (wr.rangeAt b (k * 514) (wv P.late[k].file P.late[k].spot P.late[k].data).toList) := fun o v hv => (ha.out.cell (p := ⟨b, k * 514 + o, none⟩) hbl (by rintro (e | e); exact hbn.2.2.2.2.1 e; exact hbn.2.2.2.2.2 e)).trans (HAT.out k hlt o v hv)
        have hlk := HL.out _ (List.getElem_mem hlt)
        have hxok := H.out.fits.late _ (List.getElem_mem hlt)
        have hpt := playS_take (keepSel keep) hlt (P.safe, P.ns)
        have hct := cntS_take (keepSel keep) hlt
        have hcle := cntS_le (keepSel keep) (P.late.take k) 0
        rw [List.length_take] at hcle
        have hok := playS_ok (sel := keepSel keep) (P.late.take k) 0 (P.safe, P.ns) (m := P.made) ⟨H.out.fits.safe, fun x hx => (H.out.fits.fresh x hx).2⟩ (fun x hx => H.out.fits.late x (List.mem_of_mem_take hx))
        have hnle : (playS (keepSel keep) 0 (P.late.take k) (P.safe, P.ns)).2 ≤ P.ns + 4097 * cntS (keepSel keep) 0 (P.late.take k) := playS_n (sel := keepSel keep) (P.late.take k) 0 (P.safe, P.ns) (fun x hx => H.out.fits.late x (List.mem_of_mem_take hx))
        have hsel : keepSel keep k P.late[k] = keepBit keep k := rfl
        rw [hsel] at hpt hct
        have HPT := Lib.hid hpt
        have HCT := Lib.hid hct
        clear hpt hct hsel
        generalize P.late[k] = x at *
        generalize playS (keepSel keep) 0 (P.late.take k) (P.safe, P.ns) = s at *
        have hsz := wv_size x.file x.spot hlk
        obtain ⟨C, hC⟩ : ∃ C, wv x.file x.spot x.data = C := ⟨_, rfl⟩
        have hone : Hid (∀ v ∈ C.toList, v.oneCell' = true) := by rw [← hC]; exact wv_one x.file x.spot x.data
        have h0 : Hid (C[0]? = some (.int .i64 x.file)) := by subst hC; rfl
        have hput : Hid (Calls Try.prog 66 #[.agg #[.map (some c2), .map (some p2)], .agg C] (wr.alloc (.cells C 107)).drew (SidePut c2 p2 x.file x.spot x.data s.1 s.2 (j0 + cntS (keepSel keep) 0 (P.late.take k)) (wr.alloc (.cells C 107)).drew)) := by
          rw [← hC]
          exact sideput_any c2 p2 x.file x.spot x.data s.1 s.2 _ _ (hsd.out.heap (Below.heap_alloc _ _ _ (by omega)) (Below.heap_alloc _ _ _ (by omega))) hlk (by have := hxok.1; unfold lim; omega) (by have := hxok.2.1; omega) (by have := hok.len x.file; omega) (by unfold lim; omega) (by unfold lim; omega)
        rw [hC] at hsz hra
        have hsl : C.toList.length = 514 := by simpa using hsz
        have hst : ∀ w' : World, (storeCells ⟨w'.heap.size, 0, none⟩ C.toList 0).run Try.prog (w'.alloc (.cells Try.zeroCells107 107)) = .ok () (w'.alloc (.cells C 107)) := fun w' =>
          run_storeCells_new (P := Try.prog) w' 107 _ _ (by rw [hsz]; kernel_rfl) (by rw [zero_pw, wv_size _ _ nought_len, hsz]) (by have := all_oneCell_toArray hone.out; simpa using this)
        clear hC
        by_cases hq : keepBit keep k = true
        · have hq1 := bit_on hkeep hq
          have HPUT := Lib.hid hput.out
          have hpt2 := HPT.out
          have hct2 := HCT.out
          rw [if_pos hq] at hpt2 hct2
          have HP2 := Lib.hid hpt2
          have HC2 := Lib.hid hct2
          have hh3 : (wr.alloc (.cells C 107)).heap[wr.heap.size]? = some (.cells C 107) ∧ (wr.alloc (.cells C 107)).cell? ⟨g, 5, none⟩ = some (.map (some c2)) ∧ (wr.alloc (.cells C 107)).cell? ⟨g, 6, none⟩ = some (.map (some p2)) :=
            ⟨heap_alloc_new wr _, cell_kept ((Below.refl _ _).alloc (Nat.le_refl _) _) (cell_of_row _ _ _ _ _ _ hrow1.out), cell_kept ((Below.refl _ _).alloc (Nat.le_refl _) _) (cell_of_row _ _ _ _ _ _ hrow1.out)⟩
          clear hq hpt2 hct2 hput
          go_wp2_with (first | (refine wpList_load_mid rfl 107 _ rfl b (k * 514) (by simp [Act.eval]) _ _ hra.out Try.underlying107 rfl (by rw [hsl]; kernel_rfl) ?_) | fail)
          refine wp_region_held_drew (S := fun W => W.heap[wr.heap.size]? = some (.cells C 107) ∧ W.cell? ⟨g, 5, none⟩ = some (.map (some c2)) ∧ W.cell? ⟨g, 6, none⟩ = some (.map (some p2))) (by kernel_rfl) hh3 (fun hS => ?_)
          refine wpAnyH_take (i := 4) (v := .agg C) rfl (by kernel_rfl) (by kernel_rfl) (by kernel_rfl) (fun _ _ _ h => h) (yieldsIf_load_pw (by rfl) _ rfl wr.heap.size rfl hsz (fun _ hW => hW.1)) hS ?_
          try simp only [Act.put, List.getElem_toArray, List.getElem_cons_succ, List.getElem_cons_zero, List.setIfInBounds_toArray, List.set_cons_zero, List.set_cons_succ]
          refine wpAnyH_take (i := 0) (v := .pointer (some ⟨g, 0, none⟩)) rfl (by kernel_rfl) (by kernel_rfl) (by kernel_rfl) (fun _ _ _ h => h) (Or.inl ⟨by rfl, fun W hW => by obtain ⟨_, hW3, hW4⟩ := hW; go_simp⟩) hS ?_
          try simp only [Act.put, List.getElem_toArray, List.getElem_cons_zero, List.setIfInBounds_toArray, List.set_cons_zero, List.set_cons_succ]
          refine wpAnyH_take (i := 1) (v := .pointer (some ⟨g, 0, none⟩)) rfl (by kernel_rfl) (by kernel_rfl) (by kernel_rfl) (fun _ _ _ h => h) (Or.inl ⟨by rfl, fun W hW => by obtain ⟨_, hW3, hW4⟩ := hW; go_simp⟩) hS ?_
          try simp only [Act.put, List.getElem_toArray, List.getElem_cons_succ, List.getElem_cons_zero, List.setIfInBounds_toArray, List.set_cons_zero, List.set_cons_succ]
          refine wpAnyH_take (i := 2) (v := .pointer (some ⟨g, 5, none⟩)) rfl (by kernel_rfl) (by kernel_rfl) (by kernel_rfl) (fun _ _ _ h => h) (Or.inl ⟨by rfl, fun W hW => by obtain ⟨_, hW3, hW4⟩ := hW; go_simp⟩) hS ?_
          try simp only [Act.put, List.getElem_toArray, List.getElem_cons_succ, List.getElem_cons_zero, List.setIfInBounds_toArray, List.set_cons_zero, List.set_cons_succ]
          refine wpAnyH_take (i := 3) (v := .agg #[.map (some c2), .map (some p2)]) rfl (by kernel_rfl) (by kernel_rfl) (by kernel_rfl) (fun _ _ _ h => h) (Or.inl ⟨by rfl, fun W hW => by obtain ⟨_, hW3, hW4⟩ := hW; go_simp⟩) hS ?_
          try simp only [Act.put, List.getElem_toArray, List.getElem_cons_succ, List.getElem_cons_zero, List.setIfInBounds_toArray, List.set_cons_zero, List.set_cons_succ]
          refine wpAnyH_ready (rs := [5]) (by kernel_rfl) (by simp) ?_
          refine AllReadyH.cons rfl (fun K hK => ?_) AllReadyH.nil
          rw [if_pos (by rfl)]
          go_simp
          refine HPUT.out.mono ?_
          rintro e w4 ⟨rfl, hsd4, ha4⟩
          have hs4 := ha4.size
          have hh4 : w4.heap[wr.heap.size]? = some (.cells C 107) ∧ w4.cell? ⟨g, 5, none⟩ = some (.map (some c2)) ∧ w4.cell? ⟨g, 6, none⟩ = some (.map (some p2)) := by
            refine ⟨(ha4.block wr.heap.size (by show wr.heap.size < (wr.alloc (.cells C 107)).heap.size; simp) (by rintro (e | e) <;> omega)).trans hh3.1, (ha4.cell (p := ⟨g, 5, none⟩) (by show g < (wr.alloc (.cells C 107)).heap.size; simp; omega) (by rintro (e | e) <;> (have e : g = _ := e; omega))).trans hh3.2.1, (ha4.cell (p := ⟨g, 6, none⟩) (by show g < (wr.alloc (.cells C 107)).heap.size; simp; omega) (by rintro (e | e) <;> (have e : g = _ := e; omega))).trans hh3.2.2⟩
          refine hK.out _ _ hh4 (fun hS4 => ?_)
          refine wpAnyH_done (by kernel_rfl) ?_ _
          try simp only [Act.put, List.getElem_toArray, List.getElem_cons_succ, List.getElem_cons_zero, List.setIfInBounds_toArray, List.set_cons_zero, List.set_cons_succ]
          have HSD4 := Lib.hid hsd4
          have HA4 : Hid (Apart (two c2 p2) w w4) := (ha.out.alloc _).drew.trans (ha4.mono (fun _ => .inl))
          clear hS4 hS hh4 hsd4 ha4 hK K hh3
          go_wp2_with fail
          go_roundw
          case rel => exact ⟨k + 1, by go_num, by omega, (by rw [HP2.out, HC2.out]; exact HSD4.out), HA4.out⟩
          case measure => simp [intOf]; omega
        · have hq1 := bit_off hkeep hq
          have hpt2 := HPT.out
          have hct2 := HCT.out
          rw [if_neg hq] at hpt2 hct2
          have HP2 := Lib.hid hpt2
          have HC2 := Lib.hid hct2
          clear hq hpt2 hct2 hput
          go_wp2_with (first | (refine wpList_load_mid rfl 107 _ rfl b (k * 514) (by simp [Act.eval]) _ _ hra.out Try.underlying107 rfl (by rw [hsl]; kernel_rfl) ?_) | fail)
          go_roundw
          case rel => exact ⟨k + 1, by go_num, by omega, (by rw [HP2.out, HC2.out]; exact hsd.out.heap (Below.heap_alloc _ _ _ (by omega)) (Below.heap_alloc _ _ _ (by omega))), ha.out.alloc _⟩
          case measure => simp [intOf]; omega
      · have hkl : k = P.late.length := by omega
        have hs2 := hsd.out
        rw [hkl, List.take_of_length_le (Nat.le_refl _)] at hs2
        have hge : (P.late.length : Int) ≤ k := by omega
        have htw := twin_any c2 p2 _ _ _ wr hs2
        have HTW := Lib.hid htw
        have HS2 := Lib.hid hs2
        have d5 : wr.cell? ⟨g, 5, none⟩ = some (.map (some c2)) := cell_of_row _ _ _ _ _ _ hrow1.out
        have d6 : wr.cell? ⟨g, 6, none⟩ = some (.map (some p2)) := cell_of_row _ _ _ _ _ _ hrow1.out
        clear htw hs2 hkl
        go_wp2_with fail
        refine HTW.out.mono ?_
        rintro e w2 ⟨c, p, rfl, htt, hc, hp, hb⟩
        have hend := lose_end H.out ha.out HS2.out hj0 hr hb htt hc hp
        have HEND := Lib.hid hend
        have hrow2 : w2.heap[g]? = some (.cells (dcells P bf c1 p1 c2 p2 (.slice (some ⟨b, 0, none⟩) P.late.length cap)) 74) := (hb.block g (by omega)).trans hrow1.out
        have z : ∀ k, w2.frozen? ⟨g, k, none⟩ = false := fun k => by simp [World.frozen?, hrow2]
        have x3 : w2.cell? ⟨g, 3, none⟩ = some (.map (some c1)) := cell_of_row _ _ _ _ _ _ hrow2
        have x4 : w2.cell? ⟨g, 4, none⟩ = some (.map (some p1)) := cell_of_row _ _ _ _ _ _ hrow2
        have x7 : w2.cell? ⟨g, 7, none⟩ = some (.slice (some ⟨b, 0, none⟩) P.late.length cap) := cell_of_row _ _ _ _ _ _ hrow2
        have x8 : w2.cell? ⟨g, 8, none⟩ = some (.bool P.off) := cell_of_row _ _ _ _ _ _ hrow2
        have x10 : w2.cell? ⟨g, 10, none⟩ = some (.int .i64 P.fuse) := cell_of_row _ _ _ _ _ _ hrow2
        have z3 := z 3
        have z4 := z 4
        have z7 := z 7
        have z8 := z 8
        have z10 := z 10
        clear hend htt hc hp hb hrow2 z
        go_wp2_with fail
        go_end0
        exact HEND.out

end Go.Proofs.Ytbepanhndpkdhaa.Cd
