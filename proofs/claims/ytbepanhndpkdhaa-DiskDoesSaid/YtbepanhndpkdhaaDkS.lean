/-
  A disk whose blocks are those of a set: Cut, Remove, Rename, and what is asked of it. Conditions: none.
-/
import Derived.Test.YtbepanhndpkdhaaDk
import Derived.Test.YtbepanhndpkdhaaAbsRen
import Derived.Test.YtbepanhndpkdhaaDskCuts
namespace Go.Proofs.Ytbepanhndpkdhaa.Cd
open Go.RowKit

/-- The disk D lies at g, its blocks are those of S. -/
def DkS (w : World) (g N : Nat) (S : Nat → Prop) (D : Dsk) : Prop := ∃ P, Rep w g S P N ∧ Abs P D
/-- What a call leaves that makes the disk another one and answers v. -/
def MakesD (g N : Nat) (S : Nat → Prop) (D : Dsk) (v : Value) (w : World) (e : Ending) (w' : World) : Prop := e = .returned v ∧ DkS w' g N (since S w w') D ∧ Apart S w w'

section
variable {w w' : World} {g N M : Nat} {S : Nat → Prop} {D : Dsk}

theorem DkS.below (h : DkS w g N S D) (hb : Below w.heap.size w w') : DkS w' g N S D := by
  obtain ⟨P, h1, h2⟩ := h
  exact ⟨P, h1.below hb h1.lt, h2⟩
theorem DkS.lt (h : DkS w g N S D) : ∀ k, S k → k < w.heap.size := by
  obtain ⟨P, h1, _⟩ := h
  exact h1.lt
theorem DkS.mono (h : DkS w g N S D) (hN : N ≤ M) (hM : M ≤ 137438953472) : DkS w g M S D := by
  obtain ⟨P, h1, h2⟩ := h
  exact ⟨P, h1.mono hN hM, h2⟩
/-- What turns nothing of the set's blocks leaves the disk as it was. -/
theorem DkS.apart {T : Nat → Prop} (h : DkS w g N S D) (ha : Apart T w w') (hd : ∀ k, S k → ¬ T k) : DkS w' g N S D := by
  obtain ⟨P, h1, h2⟩ := h
  exact ⟨P, h1.apart ha hd, h2⟩
theorem makesD_of {P : Pd} {v : Value} {e : Ending} (ha : Abs P D) (h : Makes g S P N v w e w') : MakesD g N S D v w e w' := ⟨h.1, ⟨P, h.2.1, ha⟩, h.2.2⟩
end

theorem new_dks (room : Int) (w : World) (h1 : -9223372036854775808 ≤ room) (h2 : room ≤ 9223372036854775807) :
    Calls Try.prog 12 #[.int .i64 room] w (fun e w' => ∃ g S, e = .returned (.pointer (some ⟨g, 0, none⟩)) ∧ DkS w' g 0 S (newD room) ∧ (∀ k, S k → w.heap.size ≤ k) ∧ Below w.heap.size w w') := by
  refine (new_disk room w h1 h2).mono ?_
  rintro e w' ⟨g, S, rfl, hr, hS, hb⟩
  exact ⟨g, S, rfl, ⟨_, hr, fresh_abs room⟩, hS, hb⟩

section
variable (g N : Nat) (S : Nat → Prop) (D : Dsk) (s : List UInt8) (w : World)

theorem write_dks (bs : List UInt8) (i : Int) (b : Value) (h : DkS w g N S D) (hb : Sl w w.heap.size b bs) (hbS : 0 < bs.length → ∀ A n c, b = .slice (some A) n c → ¬ S A.block) (hs : s.length ≤ 140737488355328) (hi2 : i ≤ 9223372036854775807) (hN : N + 4 ≤ 137438953472) :
    Calls Try.prog 20 #[.pointer (some ⟨g, 0, none⟩), .string ⟨s.toArray⟩, .int .i64 i, b] w (MakesD g (N + 4) S (writeD D s i bs).1 (.int .i64 ((writeD D s i bs).2 : Nat)) w) := by
  obtain ⟨P, hR, h2⟩ := h
  obtain ⟨a1, a2⟩ := write_abs h2 hR.fits s bs i
  rw [← a2]
  have hcn : countR P s ≤ P.nn := by
    cases hoff : P.off
    · exact h2.counted hoff s
    · unfold countR; rw [if_pos hoff]; exact Nat.zero_le _
  exact (write_any g N S P s bs i b w hR hs hb hbS hi2 hN hcn (fun _ ho hi hf x => write_room h2 hR.fits s i ho hi hf x)).mono fun e w' h => makesD_of a1 h

theorem sync_dks (h : DkS w g N S D) (hs : s.length ≤ 140737488355328) (hN : N + 4 ≤ 137438953472) :
    Calls Try.prog 21 #[.pointer (some ⟨g, 0, none⟩), .string ⟨s.toArray⟩] w (MakesD g (N + 4) S (syncD D s).1 (.int .i64 ((syncD D s).2 : Nat)) w) := by
  obtain ⟨P, hR, h2⟩ := h
  obtain ⟨a1, a2⟩ := act_abs h2 s (fun k => settleP (ticP P) k) (fun D => syncs D s) (fun k hk => h2.tic.settle hk)
  have a2 : _ = (syncD D s).2 := a2
  rw [← a2]
  exact (sync_any g N S P s w hR hs hN (fun _ _ => h2.room_ok hR.fits.nns _)).mono fun e w' h => makesD_of a1 h

theorem off_dks (keep : Nat) (h : DkS w g N S D) (hk : keep < 18446744073709551616) :
    Calls Try.prog 18 #[.pointer (some ⟨g, 0, none⟩), .int .u64 keep] w (MakesD g N S (lose D keep) (.tuple #[]) w) := by
  obtain ⟨P, h1, h2⟩ := h
  have a1 : Abs (offP P keep) (lose D keep) := by
    unfold offP
    by_cases ho : P.off = true
    · rw [if_pos ho, lose_again (by rw [h2.off]; exact ho)]; exact h2
    · rw [if_neg ho]; exact h2.lose (by simpa using ho) keep
  exact (off_any g N keep S P w h1 hk (fun _ => h2.room_ok h1.fits.nns _)).mono fun e w' h => makesD_of a1 h
theorem on_dks (h : DkS w g N S D) : Calls Try.prog 16 #[.pointer (some ⟨g, 0, none⟩)] w (MakesD g N S (onD D) (.tuple #[]) w) := by
  obtain ⟨P, h1, h2⟩ := h
  exact (on_any g N S P w h1).mono fun e w' h => makesD_of (P := { P with off := false }) (D := onD D) ⟨h2.room, rfl, h2.acts, h2.fuse, h2.keep, h2.inj, h2.now, h2.safe, h2.names, h2.waits, h2.runs⟩ h
theorem arm_dks (n : Int) (k : Nat) (h : DkS w g N S D) (hn : n ≤ 9223372036854775807) (hk : k < 18446744073709551616) :
    Calls Try.prog 19 #[.pointer (some ⟨g, 0, none⟩), .int .i64 n, .int .u64 k] w (MakesD g N S (armD D n k) (.tuple #[]) w) := by
  obtain ⟨P, h1, h2⟩ := h
  exact (arm_any g N S P n k w h1 hn hk).mono fun e w' h => makesD_of (P := { P with fuse := n.toNat, keep := k }) (D := armD D n k) ⟨h2.room, h2.off, h2.acts, rfl, rfl, h2.inj, h2.now, h2.safe, h2.names, h2.waits, h2.runs⟩ h

/-- What Read leaves, as the document tells it. -/
def ReadsD (D : Dsk) (s : List UInt8) (i : Int) (w : World) (e : Ending) (w' : World) : Prop :=
  (∃ p, readD D s i = (p, 0) ∧ p.length = 512 ∧ e = .returned (.tuple #[.slice (some ⟨w.heap.size, 0, none⟩) 512 512, .int .i64 0]) ∧ w' = w.alloc (.cells (vb p).toArray 81)) ∨
    ∃ n : Nat, n ≠ 0 ∧ readD D s i = ([], n) ∧ e = .returned (.tuple #[.slice none 0 0, .int .i64 n]) ∧ Below w.heap.size w w'

theorem readR_abs {P : Pd} {D : Dsk} (h : Abs P D) (s : List UInt8) (i : Int) : readR P s i = readD D s i := by
  unfold readR readD
  rw [h.off]
  by_cases ho : P.off = true
  · rw [if_pos ho, if_pos ho]
  · rw [if_neg ho, if_neg ho]
    cases hq : P.files s with
    | none =>
      have := h.is s
      rw [hq] at this
      rw [pages_of_none this.symm, if_pos (by simp only [List.length_nil]; omega)]
    | some k =>
      have e : P.now k = pagesF D.now s := h.now.pages s k hq
      simp only
      unfold lst
      by_cases h0 : 0 ≤ i
      · rw [if_pos h0]
        show (match (P.now k)[i.toNat]? with | none => _ | some p => _) = _
        rw [e]
        by_cases hl : ((pagesF D.now s).length : Int) ≤ i
        · rw [if_pos (.inr hl), List.getElem?_eq_none (by omega)]
        · rw [if_neg (by omega), List.getElem?_eq_getElem (by omega), List.getD_eq_getElem?_getD, List.getElem?_eq_getElem (by omega)]
          rfl
      · rw [if_neg h0, if_pos (by omega)]

theorem read_dks (i : Int) (h : DkS w g N S D) (hs : s.length ≤ 140737488355328) (hi : (Lit.int .i64 i).wf = true) :
    Calls Try.prog 17 #[.pointer (some ⟨g, 0, none⟩), .string ⟨s.toArray⟩, .int .i64 i] w (ReadsD D s i w) := by
  obtain ⟨P, h1, h2⟩ := h
  refine (read_disk g N S P s i w h1 hs hi).mono ?_
  intro e w' hr
  unfold ReadIs at hr
  rw [readR_abs h2] at hr
  exact hr
end

end Go.Proofs.Ytbepanhndpkdhaa.Cd

namespace Go.Proofs.Ytbepanhndpkdhaa.Cd
open Go.RowKit

section
variable (g N : Nat) (S : Nat → Prop) (D : Dsk) (s : List UInt8) (w : World)

theorem cut_dks (n : Int) (h : DkS w g N S D) (hs : s.length ≤ 140737488355328) (hn : n ≤ 9223372036854775807) (hN : N + 4 ≤ 137438953472) :
    Calls Try.prog 22 #[.pointer (some ⟨g, 0, none⟩), .string ⟨s.toArray⟩, .int .i64 n] w (MakesD g (N + 4) S (cutD D s n).1 (.int .i64 ((cutD D s n).2 : Nat)) w) := by
  obtain ⟨P, hR, h2⟩ := h
  obtain ⟨a1, a2⟩ : Abs (cutR P s n).1 (cutD D s n).1 ∧ (cutR P s n).2 = (cutD D s n).2 := by
    unfold cutR cutD
    rw [h2.off, ← h2.is s]
    by_cases hc : P.off = false ∧ (P.files s).isSome = true ∧ n < 0
    · rw [if_pos hc, if_pos hc]; exact ⟨h2, rfl⟩
    · rw [if_neg hc, if_neg hc]
      exact act_abs h2 s _ (fun D => cuts D s n.toNat) (fun k hk => h2.tic.shorten hk n.toNat)
  rw [← a2]
  exact (cut_any g N S P s n w hR hs hn hN (fun _ _ => h2.room_ok hR.fits.nns _)).mono fun e w' h => makesD_of a1 h
theorem remove_dks (h : DkS w g N S D) (hs : s.length ≤ 140737488355328) (hN : N + 4 ≤ 137438953472) :
    Calls Try.prog 24 #[.pointer (some ⟨g, 0, none⟩), .string ⟨s.toArray⟩] w (MakesD g (N + 4) S (removeD D s).1 (.int .i64 ((removeD D s).2 : Nat)) w) := by
  obtain ⟨P, hR, h2⟩ := h
  obtain ⟨a1, a2⟩ := act_abs h2 s (fun _ => dropP (ticP P) s) (fun D => removes D s) (fun k hk => h2.tic.drop hk)
  have a2 : _ = (removeD D s).2 := a2
  rw [← a2]
  exact (remove_any g N S P s w hR hs hN (fun _ _ => h2.room_ok hR.fits.nns _)).mono fun e w' h => makesD_of a1 h
theorem free_dks (h : DkS w g N S D) : Calls Try.prog 28 #[.pointer (some ⟨g, 0, none⟩)] w (Says (.int .i64 (freeD D)) w) := by
  obtain ⟨P, h1, h2⟩ := h
  rw [← h2.free]
  exact free_any g N S P w h1
theorem count_dks (h : DkS w g N S D) (ho : D.off = false) (hs : s.length ≤ 140737488355328) :
    Calls Try.prog 29 #[.pointer (some ⟨g, 0, none⟩), .string ⟨s.toArray⟩] w (fun e w' => e = .returned (.int .i64 ((pagesF D.now s).length : Nat)) ∧ w' = w) := by
  obtain ⟨P, h1, h2⟩ := h
  rw [← h2.count (by rw [← h2.off]; exact ho)]
  exact count_any g N S P s w h1 hs
theorem has_dks (h : DkS w g N S D) (ho : D.off = false) (hs : s.length ≤ 140737488355328) :
    Calls Try.prog 30 #[.pointer (some ⟨g, 0, none⟩), .string ⟨s.toArray⟩] w (fun e w' => e = .returned (.bool (getF D.now s).isSome) ∧ w' = w) := by
  obtain ⟨P, hR, h2⟩ := h
  have he : hasR P s = (getF D.now s).isSome := by unfold hasR; rw [← h2.is s, ← h2.off, ho]; rfl
  rw [← he]
  exact has_any g N S P s w hR hs
/-- With the power off there is no file. -/
theorem count_dks_off (h : DkS w g N S D) (ho : D.off = true) (hs : s.length ≤ 140737488355328) :
    Calls Try.prog 29 #[.pointer (some ⟨g, 0, none⟩), .string ⟨s.toArray⟩] w (fun e w' => e = .returned (.int .i64 0) ∧ w' = w) := by
  obtain ⟨P, h1, h2⟩ := h
  have hc : countR P s = 0 := by unfold countR; rw [if_pos (by rw [← h2.off]; exact ho)]
  have h := count_any g N S P s w h1 hs
  rw [hc] at h
  exact h
theorem has_dks_off (h : DkS w g N S D) (ho : D.off = true) (hs : s.length ≤ 140737488355328) :
    Calls Try.prog 30 #[.pointer (some ⟨g, 0, none⟩), .string ⟨s.toArray⟩] w (fun e w' => e = .returned (.bool false) ∧ w' = w) := by
  obtain ⟨P, hR, h2⟩ := h
  have he : hasR P s = false := by unfold hasR; rw [← h2.off, ho]; rfl
  have h := has_any g N S P s w hR hs
  rw [he] at h
  exact h
theorem acts_dks (h : DkS w g N S D) : Calls Try.prog 26 #[.pointer (some ⟨g, 0, none⟩)] w (fun e w' => e = .returned (.int .i64 D.acts) ∧ w' = w) := by
  obtain ⟨P, h1, h2⟩ := h
  rw [h2.acts]
  exact acts_any g N S P w h1
theorem down_dks (h : DkS w g N S D) : Calls Try.prog 27 #[.pointer (some ⟨g, 0, none⟩)] w (fun e w' => e = .returned (.bool D.off) ∧ w' = w) := by
  obtain ⟨P, h1, h2⟩ := h
  rw [h2.off]
  exact down_any g N S P w h1
end

theorem rename_dks (g N : Nat) (S : Nat → Prop) (D : Dsk) (a b : List UInt8) (w : World) (h : DkS w g N S D) (ha : a.length ≤ 140737488355328) (hb : b.length ≤ 140737488355328) (hN : N + 4 ≤ 137438953472) :
    Calls Try.prog 23 #[.pointer (some ⟨g, 0, none⟩), .string ⟨a.toArray⟩, .string ⟨b.toArray⟩] w (MakesD g (N + 4) S (renameD D a b).1 (.int .i64 ((renameD D a b).2 : Nat)) w) := by
  obtain ⟨P, hR, h2⟩ := h
  obtain ⟨a1, a2⟩ : Abs (actR P a (fun k => renP (ticP P) a b k)).1 (renameD D a b).1 ∧ (actR P a (fun k => renP (ticP P) a b k)).2 = (renameD D a b).2 := by
    unfold renameD
    by_cases hne : a = b
    · subst hne
      have := act_abs h2 a (fun k => renP (ticP P) a a k) (fun D => D) (fun k hk => h2.tic.rename_same hk)
      rw [if_neg (fun h => h.2 rfl)]
      by_cases hz : (mayD D a).2 = 0
      · rw [if_pos hz] at this
        exact ⟨this.1, by rw [this.2, hz]⟩
      · rw [if_neg hz] at this
        exact this
    · have := act_abs h2 a (fun k => renP (ticP P) a b k) (fun D => renames D a b) (fun k hk => h2.tic.rename hk hne)
      by_cases hz : (mayD D a).2 = 0
      · rw [if_pos hz] at this
        rw [if_pos ⟨hz, hne⟩]
        exact this
      · rw [if_neg hz] at this
        rw [if_neg (fun h => hz h.1)]
        exact this
  rw [← a2]
  exact (rename_any g N S P a b w hR ha hb hN (fun _ _ => h2.room_ok hR.fits.nns _)).mono fun e w' h => makesD_of a1 h

end Go.Proofs.Ytbepanhndpkdhaa.Cd
