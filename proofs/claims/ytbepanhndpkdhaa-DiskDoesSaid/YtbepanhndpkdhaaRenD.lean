/-
  Rename. Conditions: none.
-/
import Derived.Test.YtbepanhndpkdhaaActs
namespace Go.Proofs.Ytbepanhndpkdhaa.Cd
open Go.RowKit

/-- The number k's file has the name b, and no longer a; what b was is gone. -/
def renP (P : Pd) (a b : List UInt8) (k : Nat) : Pd := { dropP { P with files := upd P.files a none } b with files := upd (dropP { P with files := upd P.files a none } b).files b (some k) }
theorem dropP_made (P : Pd) (b : List UInt8) : (dropP P b).made = P.made := by
  unfold dropP
  split <;> rfl

set_option maxRecDepth 100000 in
set_option maxHeartbeats 1600000 in
theorem does_rename (g N k : Nat) (a b : List UInt8) (S : Nat → Prop) (P : Pd) (a1 a2 a3 a4 : Addr) (w : World) (hk : k ≤ P.made) (ha : a.length ≤ 140737488355328) (hb : b.length ≤ 140737488355328) (hN : N + 3 ≤ 137438953472)
    (h1 : CaptD w a1 g) (h2 : CaptS w a2 a) (h3 : CaptS w a3 b) (h4 : CaptN w a4 k) (hs1 : ¬ S a1.block) (hs2 : ¬ S a2.block) (hs3 : ¬ S a3.block) (hs4 : ¬ S a4.block) :
    Does 53 #[.pointer (some a1), .pointer (some a2), .pointer (some a3), .pointer (some a4)] g N (N + 3) S P (renP (ticP P) a b k) w := by
  intro w1 hap hrep
  have e1 : w1.cell? a1 = some (.pointer (some ⟨g, 0, none⟩)) := cell_far hap h1 hs1
  have e2 : w1.cell? a2 = some (.string ⟨a.toArray⟩) := cell_far hap h2 hs2
  have e3 : w1.cell? a3 = some (.string ⟨b.toArray⟩) := cell_far hap h3 hs3
  have e4 : w1.cell? a4 = some (.int .i64 k) := cell_far hap h4 hs4
  have hz : ∀ (c : Addr) (v : Value), w.cell? c = some v → ¬ S c.block → ¬ since S w w1 c.block ∧ c.block < w1.heap.size := fun c v hc hs => by
    have := World.block_lt_of_cell? w c hc
    have := hap.size
    exact ⟨fun e => e.elim hs (fun e => by omega), by omega⟩
  have z1 := hz a1 _ h1 hs1
  have z3 := hz a3 _ h3 hs3
  have z4 := hz a4 _ h4 hs4
  have hmade : k ≤ (ticP P).made := hk
  generalize ticP P = P0 at *
  generalize since S w w1 = T at *
  have hltT := hrep.lt
  obtain ⟨bf, c1, p1, c2, p2, lv, hd⟩ := hrep
  have d1 : w1.cell? ⟨g, 1, none⟩ = some (.map (some bf)) := cell_of_row _ _ _ _ _ _ hd.row
  obtain ⟨n, hf, hn⟩ := hd.fil
  have hdr : Below w1.heap.size w1 w1.drew := (Below.refl _ _).drew
  obtain ⟨w2, hrun, hf2, hturn⟩ := (hf.below hdr hf.lt).drop (x := a) (by simp only [filK, maxLen]; omega) 66
  have hrun : ∀ ty, (Builtin.delete_ #[66, 9] ty #[.map (some bf), .string ⟨a.toArray⟩]).run Try.prog w1.drew = .ok (.tuple #[]) w2 := fun _ => hrun
  have hd2 : DiskR w2 g T { P0 with files := upd P0.files a none } (N + 1) bf c1 p1 c2 p2 lv := (hd.below hdr hltT).named hturn.grown hf2 (by omega) (Fits.files_set hd.fits (fun t x ht => hd.fits.files t x (upd_none ht)))
  have hap2 : Apart T w1 w2 := ((Apart.refl T w1).drew).step hturn.grown (fun q e => by injection e with e; rw [← e]; exact .inl hd.ins.2.1)
  have hs12 := hap2.size
  have hdp := dropd_any g (N + 1) T { P0 with files := upd P0.files a none } b w2 ⟨_, _, _, _, _, _, hd2⟩ hb (by omega)
  have f1 : w2.cell? a1 = some (.pointer (some ⟨g, 0, none⟩)) := (hap2.cell z1.2 z1.1).trans e1
  have f3 : w2.cell? a3 = some (.string ⟨b.toArray⟩) := (hap2.cell z3.2 z3.1).trans e3
  have f4 : w2.cell? a4 = some (.int .i64 k) := (hap2.cell z4.2 z4.1).trans e4
  have HDP := Lib.hid hdp
  have HAP2 := Lib.hid hap2
  have HLT := Lib.hid hltT
  clear hd hd2 hdp hf hf2 hturn hap2 hdr hap h1 h2 h3 h4
  go_enter Try.func53, Try.ntmps53
  go_wp2_with fail
  go_region
  all_goals
    go_wp2_with fail
    refine HDP.out.mono ?_
    intro e w3 hmk
    have HM := Lib.hid (makes_up HAP2.out hmk)
    have g1 : w3.cell? a1 = some (.pointer (some ⟨g, 0, none⟩)) := (HM.out.2.2.cell z1.2 z1.1).trans e1
    have g3 : w3.cell? a3 = some (.string ⟨b.toArray⟩) := (HM.out.2.2.cell z3.2 z3.1).trans e3
    have g4 : w3.cell? a4 = some (.int .i64 k) := (HM.out.2.2.cell z4.2 z4.1).trans e4
    obtain rfl := hmk.1
    clear hmk
    obtain ⟨bf3, c13, p13, c23, p23, lv3, h3⟩ := HM.out.2.1
    have m1 : w3.cell? ⟨g, 1, none⟩ = some (.map (some bf3)) := cell_of_row _ _ _ _ _ _ h3.row
    obtain ⟨n3, hf3, hn3⟩ := h3.fil
    have hdr3 : Below w3.heap.size w3 w3.drew := (Below.refl _ _).drew
    obtain ⟨w4, hrun4, hf4, hturn4⟩ := (hf3.below hdr3 hf3.lt).store (x := b) (v := k) (by simp only [maxLen]; omega) (by simp only [filK, maxLen]; omega) trivial
    have hrun4 : (Instr.mapUpdate 66 (.map (some bf3)) (.string ⟨b.toArray⟩) (.int .i64 k)).run Try.prog w3.drew = .ok () w4 := hrun4
    have hle : (if ((dropP { P0 with files := upd P0.files a none } b).files b).isSome = true then 0 else 1) ≤ 1 := by split <;> omega
    have hd4 : DiskR w4 g (since T w1 w3) (renP P0 a b k) (N + 3) bf3 c13 p13 c23 p23 lv3 :=
      ((h3.mono (by omega : N + 1 + 1 ≤ N + 3) hN).below hdr3 h3.lt).named hturn4.grown hf4 (by omega) (Fits.files_set ((h3.mono (by omega : N + 1 + 1 ≤ N + 3) hN).fits) (fun t x ht => by
        unfold upd at ht
        split at ht
        · injection ht with ht
          rw [← ht, dropP_made]
          exact hmade
        · exact h3.fits.files t x ht))
    have hin3 := h3.ins.2.1
    have hs13 := HM.out.2.2.size
    have hap4 : Apart T w1 w4 := (HM.out.2.2.drew).step hturn4.grown (fun q e => by
      injection e with e
      rw [← e]
      rcases hin3 with h | h
      · exact .inl h
      · exact .inr h.1)
    have HD4 := Lib.hid hd4
    have HA4 := Lib.hid hap4
    have hs34 : w3.heap.size ≤ w4.heap.size := hturn4.grown.size
    clear h3 hf3 hdr3 hf4 hturn4 hle hd4 hin3 hap4
    go_wp2_with fail
    go_region
    all_goals
      go_wp2_with fail
      go_end0
      exact ⟨rfl, ⟨_, _, _, _, _, _, HD4.out.more (fun c hc => hc.elim .inl (fun h => .inr ⟨h.1, by have := h.2; omega⟩)) (since_lt HLT.out HA4.out.size)⟩, HA4.out⟩

set_option maxRecDepth 100000 in
set_option maxHeartbeats 1600000 in
theorem rename_any (g N : Nat) (S : Nat → Prop) (P : Pd) (a b : List UInt8) (w : World) (h : Rep w g S P N) (ha : a.length ≤ 140737488355328) (hb : b.length ≤ 140737488355328) (hN : N + 4 ≤ 137438953472) (hr : P.fuse = 1 → P.off = false → (playS (keepSel P.keep) 0 P.late (P.safe, P.ns)).2 ≤ P.room) :
    Calls Try.prog 23 #[.pointer (some ⟨g, 0, none⟩), .string ⟨a.toArray⟩, .string ⟨b.toArray⟩] w (Ans g (N + 4) S (actR P a (fun k => renP (ticP P) a b k)) w) := by
  have hB : Below w.heap.size w (((w.alloc (.cells #[.pointer (some ⟨g, 0, none⟩)] 25)).alloc (.cells #[.string ⟨a.toArray⟩] 9)).alloc (.cells #[.string ⟨b.toArray⟩] 9)) := ((((Below.refl _ _).alloc (Nat.le_refl _) _).alloc (by simp) _).alloc (by simp; omega) _)
  have hrep1 := h.below hB h.lt
  have hfi := find_any g N S P a _ hrep1 ha
  have hfit := h.fits
  have hnS : ∀ b, w.heap.size ≤ b → ¬ S b := fun b hb e => by have := h.lt _ e; omega
  rcases actR_find (P := P) (s := a) (Q := fun k => renP (ticP P) a b k) with ⟨hoff, hf, ha'⟩ | ⟨hoff, hq, hf, ha'⟩ | ⟨k, hoff, hq, hf, ha'⟩
  · rw [hf] at hfi
    rw [ha']
    have HF := Lib.hid hfi
    have H := Lib.hid h
    clear hfi h hB hrep1 hfit hf ha'
    go_enter Try.func23, Try.ntmps23
    go_wp2_with fail
    refine HF.out.mono ?_
    rintro e w1 ⟨rfl, rfl⟩
    go_wp2_with fail
    go_ret
    exact same_makes H.out (((((Below.refl _ _).alloc (Nat.le_refl _) _).alloc (by simp) _).alloc (by simp; omega) _).alloc (by simp; omega) _) (by omega) hN
  · rw [hf] at hfi
    rw [ha']
    have HF := Lib.hid hfi
    have H := Lib.hid h
    clear hfi h hB hrep1 hfit hf ha'
    go_enter Try.func23, Try.ntmps23
    go_wp2_with fail
    refine HF.out.mono ?_
    rintro e w1 ⟨rfl, rfl⟩
    go_wp2_with fail
    go_ret
    exact same_makes H.out (((((Below.refl _ _).alloc (Nat.le_refl _) _).alloc (by simp) _).alloc (by simp; omega) _).alloc (by simp; omega) _) (by omega) hN
  · rw [hf] at hfi
    rw [ha']
    show Calls _ _ _ _ (Ans g (N + 4) S (if P.fuse = 1 then (loseP (ticP P) P.keep, 8) else (renP (ticP P) a b k, 0)) w)
    have hW2 : Below w.heap.size w ((((w.alloc (.cells #[.pointer (some ⟨g, 0, none⟩)] 25)).alloc (.cells #[.string ⟨a.toArray⟩] 9)).alloc (.cells #[.string ⟨b.toArray⟩] 9)).alloc (.cells #[.int .i64 k] 3)) := (((((Below.refl _ _).alloc (Nat.le_refl _) _).alloc (by simp) _).alloc (by simp; omega) _).alloc (by simp; omega) _)
    have hrep2 := h.below hW2 h.lt
    have hap : Apart S w ((((w.alloc (.cells #[.pointer (some ⟨g, 0, none⟩)] 25)).alloc (.cells #[.string ⟨a.toArray⟩] 9)).alloc (.cells #[.string ⟨b.toArray⟩] 9)).alloc (.cells #[.int .i64 k] 3)) := (((((Apart.refl _ _).alloc _).alloc _).alloc _).alloc _)
    have hcell0 : ((((w.alloc (.cells #[.pointer (some ⟨g, 0, none⟩)] 25)).alloc (.cells #[.string ⟨a.toArray⟩] 9)).alloc (.cells #[.string ⟨b.toArray⟩] 9)).alloc (.cells #[.int .i64 k] 3)).heap[w.heap.size]? = (w.alloc (.cells #[.pointer (some ⟨g, 0, none⟩)] 25)).heap[w.heap.size]? := by
      rw [Below.heap_alloc _ _ _ (by simp; try omega), Below.heap_alloc _ _ _ (by simp; try omega), Below.heap_alloc _ _ _ (by simp; try omega)]
    have hcell1 : ((((w.alloc (.cells #[.pointer (some ⟨g, 0, none⟩)] 25)).alloc (.cells #[.string ⟨a.toArray⟩] 9)).alloc (.cells #[.string ⟨b.toArray⟩] 9)).alloc (.cells #[.int .i64 k] 3)).heap[(w.alloc (.cells #[.pointer (some ⟨g, 0, none⟩)] 25)).heap.size]? = ((w.alloc (.cells #[.pointer (some ⟨g, 0, none⟩)] 25)).alloc (.cells #[.string ⟨a.toArray⟩] 9)).heap[(w.alloc (.cells #[.pointer (some ⟨g, 0, none⟩)] 25)).heap.size]? := by
      rw [Below.heap_alloc _ _ _ (by simp; try omega), Below.heap_alloc _ _ _ (by simp; try omega)]
    have hcell2 : ((((w.alloc (.cells #[.pointer (some ⟨g, 0, none⟩)] 25)).alloc (.cells #[.string ⟨a.toArray⟩] 9)).alloc (.cells #[.string ⟨b.toArray⟩] 9)).alloc (.cells #[.int .i64 k] 3)).heap[((w.alloc (.cells #[.pointer (some ⟨g, 0, none⟩)] 25)).alloc (.cells #[.string ⟨a.toArray⟩] 9)).heap.size]? = (((w.alloc (.cells #[.pointer (some ⟨g, 0, none⟩)] 25)).alloc (.cells #[.string ⟨a.toArray⟩] 9)).alloc (.cells #[.string ⟨b.toArray⟩] 9)).heap[((w.alloc (.cells #[.pointer (some ⟨g, 0, none⟩)] 25)).alloc (.cells #[.string ⟨a.toArray⟩] 9)).heap.size]? := by
      rw [Below.heap_alloc _ _ _ (by simp; try omega)]
    have hcell3 : ((((w.alloc (.cells #[.pointer (some ⟨g, 0, none⟩)] 25)).alloc (.cells #[.string ⟨a.toArray⟩] 9)).alloc (.cells #[.string ⟨b.toArray⟩] 9)).alloc (.cells #[.int .i64 k] 3)).heap[(((w.alloc (.cells #[.pointer (some ⟨g, 0, none⟩)] 25)).alloc (.cells #[.string ⟨a.toArray⟩] 9)).alloc (.cells #[.string ⟨b.toArray⟩] 9)).heap.size]? = ((((w.alloc (.cells #[.pointer (some ⟨g, 0, none⟩)] 25)).alloc (.cells #[.string ⟨a.toArray⟩] 9)).alloc (.cells #[.string ⟨b.toArray⟩] 9)).alloc (.cells #[.int .i64 k] 3)).heap[(((w.alloc (.cells #[.pointer (some ⟨g, 0, none⟩)] 25)).alloc (.cells #[.string ⟨a.toArray⟩] 9)).alloc (.cells #[.string ⟨b.toArray⟩] 9)).heap.size]? := by
      rfl
    have hact := act_rename g N (N + 3) S P (renP (ticP P) a b k) ⟨w.heap.size, 0, none⟩ ⟨w.heap.size + 1, 0, none⟩ ⟨w.heap.size + 2, 0, none⟩ ⟨w.heap.size + 3, 0, none⟩ _ hrep2 (fun h1 => hr h1 hoff) (by omega)
      (fun _ => does_rename g N k a b S P _ _ _ _ _ (hfit.files a k hq) ha hb (by omega) (cell_new_at w _ _ (by simp) hcell0) (cell_new_at (w.alloc (.cells #[.pointer (some ⟨g, 0, none⟩)] 25)) _ _ (by simp) hcell1) (cell_new_at ((w.alloc (.cells #[.pointer (some ⟨g, 0, none⟩)] 25)).alloc (.cells #[.string ⟨a.toArray⟩] 9)) _ _ (by simp) hcell2) (cell_new_at (((w.alloc (.cells #[.pointer (some ⟨g, 0, none⟩)] 25)).alloc (.cells #[.string ⟨a.toArray⟩] 9)).alloc (.cells #[.string ⟨b.toArray⟩] 9)) _ _ (by simp) hcell3) (hnS _ (by show w.heap.size ≤ w.heap.size; omega)) (hnS _ (by show w.heap.size ≤ w.heap.size + 1; omega)) (hnS _ (by show w.heap.size ≤ w.heap.size + 2; omega)) (hnS _ (by show w.heap.size ≤ w.heap.size + 3; omega)))
    obtain ⟨R, hR⟩ : ∃ R, (if P.fuse = 1 then (loseP (ticP P) P.keep, 8) else (renP (ticP P) a b k, 0)) = R := ⟨_, rfl⟩
    rw [hR]
    have HRR := Lib.hid hR
    have HF := Lib.hid hfi
    have HACT := Lib.hid hact
    have HAP := Lib.hid hap
    clear hfi h hB hrep1 hrep2 hfit hf ha' hact hap hr hR hW2
    go_enter Try.func23, Try.ntmps23
    go_wp2_with fail
    refine HF.out.mono ?_
    rintro e w1 ⟨rfl, rfl⟩
    go_wp2_with fail
    refine HACT.out.mono ?_
    intro e w2 hac
    have HA2 := Lib.hid (acted_ans (L := N + 4) HAP.out hac (by omega) (by omega) hN)
    obtain ⟨n, rfl⟩ := acted_val hac
    clear hac
    go_wp2_with fail
    go_ret
    rw [← HRR.out]
    exact HA2.out

end Go.Proofs.Ytbepanhndpkdhaa.Cd
