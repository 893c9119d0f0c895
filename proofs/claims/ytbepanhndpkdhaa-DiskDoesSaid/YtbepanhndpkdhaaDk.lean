/-
  A disk of the call's own, told as the document tells it: each call. Conditions: none.
-/
import Derived.Test.YtbepanhndpkdhaaMine
import Derived.Test.YtbepanhndpkdhaaAbs2
namespace Go.Proofs.Ytbepanhndpkdhaa.Cd
open Go.RowKit

/-- The disk D lies at g, its blocks at B and above. -/
def Dk (w : World) (B g N : Nat) (D : Dsk) : Prop := ∃ P, Mine w B g N P ∧ Abs P D
/-- What a call leaves that makes a disk of one's own another one and answers v. -/
def DidD (B g N : Nat) (D : Dsk) (v : Value) (w : World) (e : Ending) (w' : World) : Prop := e = .returned v ∧ Dk w' B g N D ∧ Below B w w'

section
variable {w w' : World} {B g N : Nat} {D : Dsk}

theorem Dk.below (h : Dk w B g N D) (hb : Below w.heap.size w w') : Dk w' B g N D := by
  obtain ⟨P, h1, h2⟩ := h
  exact ⟨P, h1.below hb, h2⟩
theorem Dk.low (h : Dk w B g N D) : B ≤ w.heap.size := by
  obtain ⟨P, h1, _⟩ := h
  exact h1.1
theorem dk_of {P : Pd} {v : Value} {e : Ending} (ha : Abs P D) (h : Did B g N P v w e w') : DidD B g N D v w e w' := ⟨h.1, ⟨P, h.2.1, ha⟩, h.2.2⟩
end

theorem new_dk (room : Int) (w : World) (h1 : -9223372036854775808 ≤ room) (h2 : room ≤ 9223372036854775807) :
    Calls Try.prog 12 #[.int .i64 room] w (fun e w' => ∃ g, e = .returned (.pointer (some ⟨g, 0, none⟩)) ∧ Dk w' w.heap.size g 0 (newD room) ∧ Below w.heap.size w w') := by
  refine (new_mine room w h1 h2).mono ?_
  rintro e w' ⟨g, rfl, hm, hb⟩
  exact ⟨g, rfl, ⟨_, hm, fresh_abs room⟩, hb⟩

section
variable (B g N : Nat) (D : Dsk) (s : List UInt8) (w : World)

theorem write_dk (bs : List UInt8) (i : Int) (n : Nat) (cs : Array Value) (fr : Nat × Nat) (h : Dk w B g N D) (hn : n = bs.length) (hcs : cs = (vb bs).toArray) (hs : s.length ≤ 140737488355328) (hm : bs.length ≤ 512) (hi2 : i ≤ 9223372036854775807) (hN : N + 4 ≤ 137438953472) :
    Calls Try.prog 20 #[.pointer (some ⟨g, 0, none⟩), .string ⟨s.toArray⟩, .int .i64 i, .slice (some ⟨w.heap.size, 0, none⟩) n n] (w.alloc (.cells cs 5 fr)) (DidD B g (N + 4) (writeD D s i bs).1 (.int .i64 ((writeD D s i bs).2 : Nat)) w) := by
  obtain ⟨P, h1, h2⟩ := h
  obtain ⟨a1, a2⟩ := write_abs h2 h1.fits s bs i
  rw [← a2]
  have hcn : countR P s ≤ P.nn := by
    cases hoff : P.off
    · exact h2.counted hoff s
    · unfold countR; rw [if_pos hoff]; exact Nat.zero_le _
  exact (write_mine B g N P s bs i n cs fr w h1 hn hcs hs hm hi2 hN hcn (fun _ ho hi hf x => write_room h2 h1.fits s i ho hi hf x)).mono fun e w' h => dk_of a1 h

/-- A write of bytes that lie elsewhere. -/
theorem write_far (bs : List UInt8) (i : Int) (b : Value) (h : Dk w B g N D) (hb : Sl w B b bs) (hs : s.length ≤ 140737488355328) (hi2 : i ≤ 9223372036854775807) (hN : N + 4 ≤ 137438953472) :
    Calls Try.prog 20 #[.pointer (some ⟨g, 0, none⟩), .string ⟨s.toArray⟩, .int .i64 i, b] w (DidD B g (N + 4) (writeD D s i bs).1 (.int .i64 ((writeD D s i bs).2 : Nat)) w) := by
  obtain ⟨P, ⟨hB, S, hR, hS⟩, h2⟩ := h
  obtain ⟨a1, a2⟩ := write_abs h2 hR.fits s bs i
  rw [← a2]
  have hcn : countR P s ≤ P.nn := by
    cases hoff : P.off
    · exact h2.counted hoff s
    · unfold countR; rw [if_pos hoff]; exact Nat.zero_le _
  refine (write_any g N S P s bs i b w hR hs (hb.more hB) (fun h0 A n c e hA => ?_) hi2 hN hcn (fun _ ho hi hf x => write_room h2 hR.fits s i ho hi hf x)).mono fun e w' h => dk_of a1 (did_of hB hS h)
  obtain ⟨A', c', e', _, _, _, hlt, _⟩ := hb
  rw [e] at e'
  injection e' with e'
  have := hlt A e'.symm h0
  have := hS _ hA
  omega

theorem sync_dk (h : Dk w B g N D) (hs : s.length ≤ 140737488355328) (hN : N + 4 ≤ 137438953472) :
    Calls Try.prog 21 #[.pointer (some ⟨g, 0, none⟩), .string ⟨s.toArray⟩] w (DidD B g (N + 4) (syncD D s).1 (.int .i64 ((syncD D s).2 : Nat)) w) := by
  obtain ⟨P, ⟨hB, S, hR, hS⟩, h2⟩ := h
  obtain ⟨a1, a2⟩ := act_abs h2 s (fun k => settleP (ticP P) k) (fun D => syncs D s) (fun k hk => h2.tic.settle hk)
  have a2 : _ = (syncD D s).2 := a2
  rw [← a2]
  exact (sync_any g N S P s w hR hs hN (fun _ _ => h2.room_ok hR.fits.nns _)).mono fun e w' h => dk_of a1 (did_of hB hS h)

theorem cut_dk (n : Int) (h : Dk w B g N D) (hs : s.length ≤ 140737488355328) (hn : n ≤ 9223372036854775807) (hN : N + 4 ≤ 137438953472) :
    Calls Try.prog 22 #[.pointer (some ⟨g, 0, none⟩), .string ⟨s.toArray⟩, .int .i64 n] w (DidD B g (N + 4) (cutD D s n).1 (.int .i64 ((cutD D s n).2 : Nat)) w) := by
  obtain ⟨P, ⟨hB, S, hR, hS⟩, h2⟩ := h
  obtain ⟨a1, a2⟩ : Abs (cutR P s n).1 (cutD D s n).1 ∧ (cutR P s n).2 = (cutD D s n).2 := by
    unfold cutR cutD
    rw [h2.off, ← h2.is s]
    by_cases hc : P.off = false ∧ (P.files s).isSome = true ∧ n < 0
    · rw [if_pos hc, if_pos hc]; exact ⟨h2, rfl⟩
    · rw [if_neg hc, if_neg hc]
      exact act_abs h2 s _ (fun D => cuts D s n.toNat) (fun k hk => h2.tic.shorten hk n.toNat)
  rw [← a2]
  exact (cut_any g N S P s n w hR hs hn hN (fun _ _ => h2.room_ok hR.fits.nns _)).mono fun e w' h => dk_of a1 (did_of hB hS h)

theorem remove_dk (h : Dk w B g N D) (hs : s.length ≤ 140737488355328) (hN : N + 4 ≤ 137438953472) :
    Calls Try.prog 24 #[.pointer (some ⟨g, 0, none⟩), .string ⟨s.toArray⟩] w (DidD B g (N + 4) (removeD D s).1 (.int .i64 ((removeD D s).2 : Nat)) w) := by
  obtain ⟨P, ⟨hB, S, hR, hS⟩, h2⟩ := h
  obtain ⟨a1, a2⟩ := act_abs h2 s (fun _ => dropP (ticP P) s) (fun D => removes D s) (fun k hk => h2.tic.drop hk)
  have a2 : _ = (removeD D s).2 := a2
  rw [← a2]
  exact (remove_any g N S P s w hR hs hN (fun _ _ => h2.room_ok hR.fits.nns _)).mono fun e w' h => dk_of a1 (did_of hB hS h)

theorem off_dk (keep : Nat) (h : Dk w B g N D) (hk : keep < 18446744073709551616) :
    Calls Try.prog 18 #[.pointer (some ⟨g, 0, none⟩), .int .u64 keep] w (DidD B g N (lose D keep) (.tuple #[]) w) := by
  obtain ⟨P, h1, h2⟩ := h
  have a1 : Abs (offP P keep) (lose D keep) := by
    unfold offP
    by_cases ho : P.off = true
    · rw [if_pos ho, lose_again (by rw [h2.off]; exact ho)]; exact h2
    · rw [if_neg ho]; exact h2.lose (by simpa using ho) keep
  exact (off_mine B g N keep P w h1 hk (fun _ => h2.room_ok h1.fits.nns _)).mono fun e w' h => dk_of a1 h
theorem on_dk (h : Dk w B g N D) : Calls Try.prog 16 #[.pointer (some ⟨g, 0, none⟩)] w (DidD B g N (onD D) (.tuple #[]) w) := by
  obtain ⟨P, h1, h2⟩ := h
  exact (on_mine B g N P w h1).mono fun e w' h => dk_of (P := { P with off := false }) (D := onD D) ⟨h2.room, rfl, h2.acts, h2.fuse, h2.keep, h2.inj, h2.now, h2.safe, h2.names, h2.waits, h2.runs⟩ h
theorem arm_dk (n : Int) (k : Nat) (h : Dk w B g N D) (hn : n ≤ 9223372036854775807) (hk : k < 18446744073709551616) :
    Calls Try.prog 19 #[.pointer (some ⟨g, 0, none⟩), .int .i64 n, .int .u64 k] w (DidD B g N (armD D n k) (.tuple #[]) w) := by
  obtain ⟨P, h1, h2⟩ := h
  exact (arm_mine B g N P n k w h1 hn hk).mono fun e w' h => dk_of (P := { P with fuse := n.toNat, keep := k }) (D := armD D n k) ⟨h2.room, h2.off, h2.acts, rfl, rfl, h2.inj, h2.now, h2.safe, h2.names, h2.waits, h2.runs⟩ h
theorem free_dk (h : Dk w B g N D) : Calls Try.prog 28 #[.pointer (some ⟨g, 0, none⟩)] w (Says (.int .i64 (freeD D)) w) := by
  obtain ⟨P, h1, h2⟩ := h
  rw [← h2.free]
  exact free_mine B g N P w h1
theorem count_dk (h : Dk w B g N D) (ho : D.off = false) (hs : s.length ≤ 140737488355328) :
    Calls Try.prog 29 #[.pointer (some ⟨g, 0, none⟩), .string ⟨s.toArray⟩] w (fun e w' => e = .returned (.int .i64 ((pagesF D.now s).length : Nat)) ∧ w' = w) := by
  obtain ⟨P, h1, h2⟩ := h
  rw [← h2.count (by rw [← h2.off]; exact ho)]
  exact count_mine B g N P s w h1 hs
theorem has_dk (h : Dk w B g N D) (ho : D.off = false) (hs : s.length ≤ 140737488355328) :
    Calls Try.prog 30 #[.pointer (some ⟨g, 0, none⟩), .string ⟨s.toArray⟩] w (fun e w' => e = .returned (.bool (getF D.now s).isSome) ∧ w' = w) := by
  obtain ⟨P, ⟨hB, S, hR, hS⟩, h2⟩ := h
  have he : hasR P s = (getF D.now s).isSome := by unfold hasR; rw [← h2.is s, ← h2.off, ho]; rfl
  rw [← he]
  exact has_any g N S P s w hR hs
end

end Go.Proofs.Ytbepanhndpkdhaa.Cd
