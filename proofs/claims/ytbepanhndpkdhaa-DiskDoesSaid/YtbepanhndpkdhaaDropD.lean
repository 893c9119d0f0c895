/-
  drop: a file is gone, if there is one of that name. Conditions: none.
-/
import Derived.Test.YtbepanhndpkdhaaShorten
namespace Go.Proofs.Ytbepanhndpkdhaa.Cd
open Go.RowKit

def dropP (P : Pd) (s : List UInt8) : Pd := match P.files s with
  | some k => { shortenP P k 0 with files := upd P.files s none }
  | none => P

theorem upd_none {q : List UInt8 → Option Nat} {s t : List UInt8} {k : Nat} (h : upd q s none t = some k) : q t = some k := by
  unfold upd at h
  split at h
  · cases h
  · exact h

theorem Fits.files_set {P : Pd} {N : Nat} (h : Fits P N) {q : List UInt8 → Option Nat} (hq : ∀ t k, q t = some k → k ≤ P.made) : Fits { P with files := q } N :=
  ⟨h.top, h.room, h.made, h.acts, h.fuse, h.keep, h.late, h.now, h.safe, h.nns, h.nss, hq, h.fresh⟩

set_option maxRecDepth 100000 in
set_option maxHeartbeats 1600000 in
theorem dropd_any (g N : Nat) (S : Nat → Prop) (P : Pd) (s : List UInt8) (w : World) (h : Rep w g S P N) (hs : s.length ≤ 140737488355328) (hN : N < 137438953472) :
    Calls Try.prog 54 #[.pointer (some ⟨g, 0, none⟩), .string ⟨s.toArray⟩] w (Makes g S (dropP P s) (N + 1) (.tuple #[]) w) := by
  have hR := h
  obtain ⟨bf, c1, p1, c2, p2, lv, h⟩ := h
  have d1 : w.cell? ⟨g, 1, none⟩ = some (.map (some bf)) := cell_of_row _ _ _ _ _ _ h.row
  obtain ⟨n, hf, hn⟩ := h.fil
  have hl := fil_look hf (s := s) (by simp only [maxLen]; omega)
  have hltS := h.lt
  cases hq : P.files s with
  | none =>
    rw [hq] at hl
    have hd : dropP P s = P := by unfold dropP; rw [hq]
    rw [hd]
    have HR := Lib.hid hR
    have HLT := Lib.hid hltS
    clear hR h hf hltS
    go_enter Try.func54, Try.ntmps54
    go_wp2_with fail
    go_end0
    exact ⟨rfl, ((HR.out.mono (Nat.le_succ N) (by omega)).below ((Below.refl _ _).alloc (Nat.le_refl _) _) HLT.out).more (fun _ => .inl) (since_lt HLT.out (by simp)), (Apart.refl _ _).alloc _⟩
  | some k =>
    rw [hq] at hl
    have hk : k ≤ P.made := h.fits.files s k hq
    have hd : dropP P s = { shortenP P k 0 with files := upd P.files s none } := by unfold dropP; rw [hq]
    rw [hd]
    have hA : Apart S w (w.alloc (.cells #[.int .i64 k] 3)) := (Apart.refl S w).alloc _
    have hrep2 := hR.below ((Below.refl _ _).alloc (Nat.le_refl _) (.cells #[.int .i64 k] 3)) hltS
    have hsh := shorten_any g N k 0 S P _ hrep2 hk (by omega) hN
    have hc0 : (w.alloc (.cells #[.int .i64 k] 3)).cell? ⟨w.heap.size, 0, none⟩ = some (.int .i64 k) := cell_of_row _ _ _ _ _ _ (heap_alloc_new w _)
    have hsw : (w.alloc (.cells #[.int .i64 k] 3)).heap.size = w.heap.size + 1 := by simp
    have HSH := Lib.hid hsh
    have HA := Lib.hid hA
    have HLT := Lib.hid hltS
    clear hsh hA hltS hR h hf hrep2 hd
    go_enter Try.func54, Try.ntmps54
    go_wp2_with fail
    generalize w.alloc (.cells #[.int .i64 k] 3) = w2 at *
    refine HSH.out.mono ?_
    rintro e w3 ⟨rfl, hrep3, ha3⟩
    have hap3 : Apart S w w3 := HA.out.trans (ha3.mono (fun _ => .inl))
    have hnS : ¬ S w.heap.size := fun e => by have := HLT.out _ e; omega
    have hs23 := ha3.size
    have hc3 : w3.cell? ⟨w.heap.size, 0, none⟩ = some (.int .i64 k) := (ha3.cell (by show w.heap.size < _; omega) hnS).trans hc0
    -- the set without the box
    obtain ⟨bf3, c13, p13, c23, p23, lv3, h3⟩ := hrep3
    have hne3 : ∀ b, since S w2 w3 b → b ≠ w.heap.size := fun b hb e => by
      rcases hb with hb | hb
      · rw [e] at hb; exact hnS hb
      · omega
    have he1 : (shortenP P k 0).now k = [] := by show setF P.now k _ k = []; rw [setF_same, List.take_zero]
    have he2 : (shortenP P k 0).safe k = [] := by show setF P.safe k _ k = []; rw [setF_same, List.take_zero]
    have hbo := both_del g k (N + 1) bf3 c13 p13 c23 p23 ⟨w.heap.size, 0, none⟩ (since S w2 w3) (shortenP P k 0) lv3 w3 h3 hk he1 he2 ⟨hc3, by show w.heap.size < _; omega⟩ (fun e => hne3 _ e rfl)
    have HB := Lib.hid hbo
    have H3 := Lib.hid h3
    have HAP := Lib.hid hap3
    have HA3 := Lib.hid ha3
    clear hbo h3 hap3 ha3 he1 he2
    go_wp2_with fail
    refine HB.out.mono ?_
    rintro e w4 ⟨rfl, hs1, ⟨j, hs2, hj⟩, ha4⟩
    have h4 := H3.out.sides ha4 hs1 hs2 hj (Nat.le_refl _) (by have := H3.out.fits; exact this)
    have hins := four_in H3.out
    have hfit4 : Fits { shortenP P k 0 with files := upd P.files s none } (N + 1) := Fits.files_set H3.out.fits (fun t x ht => H3.out.fits.files t x (upd_none ht))
    have e1 : w4.cell? ⟨g, 1, none⟩ = some (.map (some bf3)) := cell_of_row _ _ _ _ _ _ h4.row
    obtain ⟨n4, hf4, hn4⟩ := h4.fil
    have HA4 : Hid (Apart S w w4) := HAP.out.trans (ha4.mono (fun b hb => by
      rcases hins b hb with h | h
      · exact .inl h
      · exact .inr ⟨by omega, h.2⟩))
    obtain ⟨j1, hj1⟩ : ∃ j1, (n4 - if (P.files s).isSome = true then 1 else 0) = j1 := ⟨_, rfl⟩
    have hj2 : j1 ≤ N + 1 := by omega
    have HJ1 := Lib.hid hj1
    have H4 := Lib.hid h4
    have HF4 := Lib.hid hf4
    have HFIT := Lib.hid hfit4
    clear hs1 hs2 ha4 h4 hf4 hfit4 hj1
    go_wp2_with (first | (refine wp_drop filK rfl _ _ rfl bf3 n4 _ rfl HF4.out s rfl (by simp only [filK, maxLen]; omega) j1 HJ1.out ?hK) | fail)
    intro w5 hf5 hg5
    have h5 := H4.out.named hg5 hf5 hj2 HFIT.out
    have hin5 := H4.out.ins.2.1
    have HA5 : Hid (Apart S w w5) := HA4.out.step hg5 (fun q e => by
      injection e with e
      rw [← e]
      rcases hin5 with h | h
      · exact .inl h
      · exact .inr (by omega))
    have H5 := Lib.hid h5
    clear h5 hf5 hg5
    go_wp2_with fail
    go_end0
    refine ⟨rfl, ⟨_, _, _, _, _, _, H5.out.more (fun b hb => ?_) (since_lt HLT.out HA5.out.size)⟩, HA5.out⟩
    rcases hb with h | h
    · exact .inl h
    · exact .inr ⟨by omega, H5.out.lt b (.inr h)⟩

end Go.Proofs.Ytbepanhndpkdhaa.Cd
