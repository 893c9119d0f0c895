/-
  What DiskRenames does, on the document's disk. Conditions: none.
-/
import Derived.Test.YthbpkdmniaapaaaDiskEnds
namespace Go.Proofs.Ythbpkdmniaapaaa.Cd

/-- One file that is written, and not yet safe. -/
structure Wr (D : Dsk) (F : List UInt8) (cur : List (List UInt8)) : Prop where
  off : D.off = false
  fuse : D.fuse = 0
  room : D.room = 40
  now : (cur = [] ∧ D.now = []) ∨ D.now = [⟨F, cur⟩]
  safe : D.safe = []
  waits : ∀ w ∈ D.waits, w.name = F

theorem wr_new (F : List UInt8) : Wr (newD 40) F [] := ⟨rfl, rfl, rfl, .inl ⟨rfl, rfl⟩, rfl, fun w h => by cases h⟩
theorem Wr.write {D : Dsk} {F : List UInt8} {cur : List (List UInt8)} (h : Wr D F cur) (hc : cur.length < 40) {b : List UInt8} (hb : b.length ≤ 512) : Wr (writeD D F (cur.length : Nat) b).1 F (cur ++ [pad b]) := by
  have hpf : pagesF D.now F = cur ∧ count D.now = cur.length := by
    rcases h.now with ⟨h1, h2⟩ | h1
    · rw [h2, h1]; exact ⟨rfl, rfl⟩
    · rw [h1, pages_one]; exact ⟨rfl, rfl⟩
  have hfree : freeD D ≠ 0 := by unfold freeD; rw [h.room, hpf.2]; omega
  have e1 : writeD D F (cur.length : Nat) b = (wrote D F cur.length b, 0) := by
    have := write_end (n := F) h.off hb hfree
    rw [hpf.1] at this
    rw [this, ends_calm (by rw [h.fuse]; omega)]
  rw [e1]
  refine ⟨h.off, by show D.fuse - 1 = 0; rw [h.fuse], h.room, .inr ?_, h.safe, fun w hw => ?_⟩
  · show putF D.now ⟨F, setP (pagesF D.now F) cur.length (pad b)⟩ = _
    rw [hpf.1, setP_end]
    rcases h.now with ⟨h1, h2⟩ | h1
    · rw [h2]; rfl
    · rw [h1, put_one]
  · have hw : w ∈ D.waits ++ [⟨F, cur.length, pad b⟩] := hw
    rcases List.mem_append.1 hw with hw | hw
    · exact h.waits w hw
    · rw [List.mem_singleton.1 hw]

theorem Wr.synced {D : Dsk} {F T : List UInt8} {cur : List (List UInt8)} (h : Wr D F cur) (hne : F ≠ T) (hc : cur ≠ []) (n : Int) (keep : Nat) : Ren (armD (syncD D F).1 n keep) F T cur [] ∧ (armD (syncD D F).1 n keep).room = 40 := by
  rcases h.now with ⟨h1, _⟩ | h1
  · exact absurd h1 hc
  · rw [sync_calm h.off (by rw [h1, get_one]; rfl) (by rw [h.fuse]; omega)]
    refine ⟨⟨h.off, ?_, ?_, fun e => absurd rfl e, ?_, ?_, ?_, fun w hw => ?_⟩, h.room⟩
    · show getF D.now F = _
      rw [h1, get_one]
    · show pagesF D.now T = []
      rw [h1]
      simp [pagesF, getF, hne]
    · show Once D.now
      rw [h1]
      simp [Once]
    · show Cd.count D.now = _
      rw [h1]
      rfl
    · show getF (putF D.safe ⟨F, pagesF D.now F⟩) F = _
      rw [h.safe, h1, pages_one]
      simp [putF, getF]
    · have hw : w ∈ dropW D.waits F 0 := hw
      obtain ⟨h4, h5⟩ := List.mem_filter.1 hw
      simp only [decide_eq_true_eq] at h5
      exact absurd (h.waits w h4) (h5.elim id (fun h => absurd h (Nat.not_lt_zero _)))

/-- On again: the file has these pages. -/
def Fin (D : Dsk) (F : List UInt8) (W : List (List UInt8)) : Prop := D.off = false ∧ pagesF D.now F = W
theorem fin_left {D : Dsk} {F : List UInt8} {W : List (List UInt8)} (h : Cd.Left D F W) (keep : Nat) : Fin (onD (lose D keep)) F W := by
  rw [lose_again h.1]
  refine ⟨rfl, ?_⟩
  show pagesF D.now F = W
  unfold pagesF
  rw [h.2]
theorem fin_lose {D : Dsk} {F : List UInt8} {W : List (List UInt8)} {keep : Nat} (h : Cd.Left (lose D keep) F W) : Fin (onD (lose D keep)) F W := by
  refine ⟨rfl, ?_⟩
  show pagesF (lose D keep).now F = W
  unfold pagesF
  rw [h.2]

end Go.Proofs.Ythbpkdmniaapaaa.Cd
