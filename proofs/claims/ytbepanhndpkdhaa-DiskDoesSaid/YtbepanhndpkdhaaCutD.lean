/-
  Cut. Conditions: none.
-/
import Derived.Test.YtbepanhndpkdhaaActs
namespace Go.Proofs.Ytbepanhndpkdhaa.Cd
open Go.RowKit

set_option maxRecDepth 100000 in
set_option maxHeartbeats 1600000 in
theorem cut_pos (g N : Nat) (S : Nat → Prop) (P : Pd) (s : List UInt8) (m : Nat) (w : World) (h : Rep w g S P N) (hs : s.length ≤ 140737488355328) (hm : m ≤ 9223372036854775807) (hN : N + 4 ≤ 137438953472) (hr : P.fuse = 1 → P.off = false → (playS (keepSel P.keep) 0 P.late (P.safe, P.ns)).2 ≤ P.room) :
    Calls Try.prog 22 #[.pointer (some ⟨g, 0, none⟩), .string ⟨s.toArray⟩, .int .i64 m] w (Ans g (N + 4) S (actR P s (fun k => shortenP (ticP P) k m)) w) := by
  have hB : Below w.heap.size w ((w.alloc (.cells #[.pointer (some ⟨g, 0, none⟩)] 25)).alloc (.cells #[.int .i64 m] 3)) := (((Below.refl _ _).alloc (Nat.le_refl _) _).alloc (by simp) _)
  have hrep1 := h.below hB h.lt
  have hfi := find_any g N S P s _ hrep1 hs
  have hfit := h.fits
  have hnS : ∀ b, w.heap.size ≤ b → ¬ S b := fun b hb e => by have := h.lt _ e; omega
  rcases actR_find (P := P) (s := s) (Q := fun k => shortenP (ticP P) k m) with ⟨hoff, hf, ha⟩ | ⟨hoff, hq, hf, ha⟩ | ⟨k, hoff, hq, hf, ha⟩
  · rw [hf] at hfi
    rw [ha]
    have HF := Lib.hid hfi
    have H := Lib.hid h
    clear hfi h hB hrep1 hfit hf ha
    go_enter Try.func22, Try.ntmps22
    go_wp2_with fail
    refine HF.out.mono ?_
    rintro e w1 ⟨rfl, rfl⟩
    go_wp2_with fail
    go_ret
    exact same_makes H.out ((((Below.refl _ _).alloc (Nat.le_refl _) _).alloc (by simp) _).alloc (by simp; omega) _) (by omega) hN
  · rw [hf] at hfi
    rw [ha]
    have HF := Lib.hid hfi
    have H := Lib.hid h
    clear hfi h hB hrep1 hfit hf ha
    go_enter Try.func22, Try.ntmps22
    go_wp2_with fail
    refine HF.out.mono ?_
    rintro e w1 ⟨rfl, rfl⟩
    go_wp2_with fail
    go_ret
    exact same_makes H.out ((((Below.refl _ _).alloc (Nat.le_refl _) _).alloc (by simp) _).alloc (by simp; omega) _) (by omega) hN
  · rw [hf] at hfi
    rw [ha]
    show Calls _ _ _ _ (Ans g (N + 4) S (if P.fuse = 1 then (loseP (ticP P) P.keep, 8) else (shortenP (ticP P) k m, 0)) w)
    have hW2 : Below w.heap.size w (((w.alloc (.cells #[.pointer (some ⟨g, 0, none⟩)] 25)).alloc (.cells #[.int .i64 m] 3)).alloc (.cells #[.int .i64 k] 3)) := ((((Below.refl _ _).alloc (Nat.le_refl _) _).alloc (by simp) _).alloc (by simp; omega) _)
    have hrep2 := h.below hW2 h.lt
    have hap : Apart S w (((w.alloc (.cells #[.pointer (some ⟨g, 0, none⟩)] 25)).alloc (.cells #[.int .i64 m] 3)).alloc (.cells #[.int .i64 k] 3)) := ((((Apart.refl _ _).alloc _).alloc _).alloc _)
    have hcell0 : (((w.alloc (.cells #[.pointer (some ⟨g, 0, none⟩)] 25)).alloc (.cells #[.int .i64 m] 3)).alloc (.cells #[.int .i64 k] 3)).heap[w.heap.size]? = (w.alloc (.cells #[.pointer (some ⟨g, 0, none⟩)] 25)).heap[w.heap.size]? := by
      rw [Below.heap_alloc _ _ _ (by simp; try omega), Below.heap_alloc _ _ _ (by simp; try omega)]
    have hcell1 : (((w.alloc (.cells #[.pointer (some ⟨g, 0, none⟩)] 25)).alloc (.cells #[.int .i64 m] 3)).alloc (.cells #[.int .i64 k] 3)).heap[(w.alloc (.cells #[.pointer (some ⟨g, 0, none⟩)] 25)).heap.size]? = ((w.alloc (.cells #[.pointer (some ⟨g, 0, none⟩)] 25)).alloc (.cells #[.int .i64 m] 3)).heap[(w.alloc (.cells #[.pointer (some ⟨g, 0, none⟩)] 25)).heap.size]? := by
      rw [Below.heap_alloc _ _ _ (by simp; try omega)]
    have hcell2 : (((w.alloc (.cells #[.pointer (some ⟨g, 0, none⟩)] 25)).alloc (.cells #[.int .i64 m] 3)).alloc (.cells #[.int .i64 k] 3)).heap[((w.alloc (.cells #[.pointer (some ⟨g, 0, none⟩)] 25)).alloc (.cells #[.int .i64 m] 3)).heap.size]? = (((w.alloc (.cells #[.pointer (some ⟨g, 0, none⟩)] 25)).alloc (.cells #[.int .i64 m] 3)).alloc (.cells #[.int .i64 k] 3)).heap[((w.alloc (.cells #[.pointer (some ⟨g, 0, none⟩)] 25)).alloc (.cells #[.int .i64 m] 3)).heap.size]? := by
      rfl
    have hact := act_cut g N (N + 2) S P (shortenP (ticP P) k m) ⟨w.heap.size, 0, none⟩ ⟨w.heap.size + 2, 0, none⟩ ⟨w.heap.size + 1, 0, none⟩ _ hrep2 (fun h1 => hr h1 hoff) (by omega)
      (fun _ => does_cut g N k m S P _ _ _ _ (hfit.files s k hq) hm (by omega) (cell_new_at w _ _ (by simp) hcell0) (cell_new_at ((w.alloc (.cells #[.pointer (some ⟨g, 0, none⟩)] 25)).alloc (.cells #[.int .i64 m] 3)) _ _ (by simp) hcell2) (cell_new_at (w.alloc (.cells #[.pointer (some ⟨g, 0, none⟩)] 25)) _ _ (by simp) hcell1) (hnS _ (by show w.heap.size ≤ w.heap.size; omega)) (hnS _ (by show w.heap.size ≤ w.heap.size + 2; omega)) (hnS _ (by show w.heap.size ≤ w.heap.size + 1; omega)))
    obtain ⟨R, hR⟩ : ∃ R, (if P.fuse = 1 then (loseP (ticP P) P.keep, 8) else (shortenP (ticP P) k m, 0)) = R := ⟨_, rfl⟩
    rw [hR]
    have HRR := Lib.hid hR
    have HF := Lib.hid hfi
    have HACT := Lib.hid hact
    have HAP := Lib.hid hap
    clear hfi h hB hrep1 hrep2 hfit hf ha hact hap hr hR hW2
    go_enter Try.func22, Try.ntmps22
    go_wp2_with fail
    refine HF.out.mono ?_
    rintro e w1 ⟨rfl, rfl⟩
    go_wp2_with fail
    refine HACT.out.mono ?_
    intro e w2 hac
    have HA2 := Lib.hid (acted_ans (L := N + 4) HAP.out hac (by omega) (by omega) hN)
    obtain ⟨n, rfl⟩ := acted_val hac
    clear hac
    go_wp2_with fail
    go_ret
    rw [← HRR.out]
    exact HA2.out

/-- What Cut answers, and leaves. -/
def cutR (P : Pd) (s : List UInt8) (n : Int) : Pd × Nat := if P.off = false ∧ (P.files s).isSome = true ∧ n < 0 then (P, 1) else actR P s (fun k => shortenP (ticP P) k n.toNat)

set_option maxRecDepth 100000 in
set_option maxHeartbeats 1600000 in
theorem cut_neg (g N : Nat) (S : Nat → Prop) (P : Pd) (s : List UInt8) (n : Int) (w : World) (h : Rep w g S P N) (hs : s.length ≤ 140737488355328) (hn : n < 0) (hN : N + 4 ≤ 137438953472) :
    Calls Try.prog 22 #[.pointer (some ⟨g, 0, none⟩), .string ⟨s.toArray⟩, .int .i64 n] w (Ans g (N + 4) S (cutR P s n) w) := by
  have hB : Below w.heap.size w ((w.alloc (.cells #[.pointer (some ⟨g, 0, none⟩)] 25)).alloc (.cells #[.int .i64 n] 3)) := ((Below.refl _ _).alloc (Nat.le_refl _) _).alloc (by simp) _
  have hrep1 := h.below hB h.lt
  have hfi := find_any g N S P s _ hrep1 hs
  rcases actR_find (P := P) (s := s) (Q := fun k => shortenP (ticP P) k n.toNat) with ⟨hoff, hf, ha⟩ | ⟨hoff, hq, hf, ha⟩ | ⟨k, hoff, hq, hf, ha⟩
  · have hc : cutR P s n = (P, 8) := by unfold cutR; rw [if_neg (by rw [hoff]; simp), ha]
    rw [hf] at hfi
    rw [hc]
    have HF := Lib.hid hfi
    have H := Lib.hid h
    clear hfi h hB hrep1 hf ha hc
    go_enter Try.func22, Try.ntmps22
    go_wp2_with fail
    refine HF.out.mono ?_
    rintro e w1 ⟨rfl, rfl⟩
    go_wp2_with fail
    go_ret
    exact same_makes H.out ((((Below.refl _ _).alloc (Nat.le_refl _) _).alloc (by simp) _).alloc (by simp; omega) _) (by omega) hN
  · have hc : cutR P s n = (P, 5) := by unfold cutR; rw [if_neg (by rw [hq]; simp), ha]
    rw [hf] at hfi
    rw [hc]
    have HF := Lib.hid hfi
    have H := Lib.hid h
    clear hfi h hB hrep1 hf ha hc
    go_enter Try.func22, Try.ntmps22
    go_wp2_with fail
    refine HF.out.mono ?_
    rintro e w1 ⟨rfl, rfl⟩
    go_wp2_with fail
    go_ret
    exact same_makes H.out ((((Below.refl _ _).alloc (Nat.le_refl _) _).alloc (by simp) _).alloc (by simp; omega) _) (by omega) hN
  · have hc : cutR P s n = (P, 1) := by unfold cutR; rw [if_pos ⟨hoff, by rw [hq]; rfl, hn⟩]
    rw [hf] at hfi
    rw [hc]
    have HF := Lib.hid hfi
    have H := Lib.hid h
    clear hfi h hB hrep1 hf ha hc
    go_enter Try.func22, Try.ntmps22
    go_wp2_with fail
    refine HF.out.mono ?_
    rintro e w1 ⟨rfl, rfl⟩
    go_wp2_with fail
    go_ret
    exact same_makes H.out ((((Below.refl _ _).alloc (Nat.le_refl _) _).alloc (by simp) _).alloc (by simp; omega) _) (by omega) hN

theorem cut_any (g N : Nat) (S : Nat → Prop) (P : Pd) (s : List UInt8) (n : Int) (w : World) (h : Rep w g S P N) (hs : s.length ≤ 140737488355328) (hn : n ≤ 9223372036854775807) (hN : N + 4 ≤ 137438953472) (hr : P.fuse = 1 → P.off = false → (playS (keepSel P.keep) 0 P.late (P.safe, P.ns)).2 ≤ P.room) :
    Calls Try.prog 22 #[.pointer (some ⟨g, 0, none⟩), .string ⟨s.toArray⟩, .int .i64 n] w (Ans g (N + 4) S (cutR P s n) w) := by
  by_cases h0 : n < 0
  · exact cut_neg g N S P s n w h hs h0 hN
  · obtain ⟨m, rfl⟩ := Int.eq_ofNat_of_zero_le (by omega : 0 ≤ n)
    have hc : cutR P s (m : Int) = actR P s (fun k => shortenP (ticP P) k m) := by unfold cutR; rw [if_neg (fun e => h0 e.2.2), Int.toNat_natCast]
    rw [hc]
    exact cut_pos g N S P s m w h hs (by omega) hN hr

end Go.Proofs.Ytbepanhndpkdhaa.Cd
