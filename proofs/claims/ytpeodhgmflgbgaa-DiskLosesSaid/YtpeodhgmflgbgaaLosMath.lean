/-
  What DiskLoses does, on the document's disk. Conditions: none.
-/
import Derived.Test.YtpeodhgmflgbgaaDiskEnds
import Derived.Test.YtpeodhgmflgbgaaDskLoses
namespace Go.Proofs.Ytpeodhgmflgbgaa.Cd

/-- One file that is written, and not yet safe; room R. -/
structure Wq (D : Dsk) (F : List UInt8) (R : Nat) (cur : List (List UInt8)) : Prop where
  off : D.off = false
  fuse : D.fuse = 0
  room : D.room = R
  now : (cur = [] ∧ D.now = []) ∨ D.now = [⟨F, cur⟩]
  safe : D.safe = []
  waits : ∀ w ∈ D.waits, w.name = F

theorem Wq.write {D : Dsk} {F : List UInt8} {R : Nat} {cur : List (List UInt8)} (h : Wq D F R cur) (hc : cur.length < R) {b : List UInt8} (hb : b.length ≤ 512) :
    (writeD D F (cur.length : Nat) b).2 = 0 ∧ Wq (writeD D F (cur.length : Nat) b).1 F R (cur ++ [pad b]) := by
  have hpf : pagesF D.now F = cur ∧ count D.now = cur.length := by
    rcases h.now with ⟨h1, h2⟩ | h1
    · rw [h2, h1]; exact ⟨rfl, rfl⟩
    · rw [h1, pages_one]; exact ⟨rfl, rfl⟩
  have hfree : freeD D ≠ 0 := by unfold freeD; rw [h.room, hpf.2]; omega
  have e1 : writeD D F (cur.length : Nat) b = (wrote D F cur.length b, 0) := by
    have := write_end (n := F) h.off hb hfree
    rw [hpf.1] at this
    rw [this, ends_calm (by rw [h.fuse]; omega)]
  rw [e1]
  refine ⟨rfl, h.off, by show D.fuse - 1 = 0; rw [h.fuse], h.room, .inr ?_, h.safe, fun w hw => ?_⟩
  · show putF D.now ⟨F, setP (pagesF D.now F) cur.length (pad b)⟩ = _
    rw [hpf.1, setP_end]
    rcases h.now with ⟨h1, h2⟩ | h1
    · rw [h2]; rfl
    · rw [h1, put_one]
  · have hw : w ∈ D.waits ++ [⟨F, cur.length, pad b⟩] := hw
    rcases List.mem_append.1 hw with hw | hw
    · exact h.waits w hw
    · rw [List.mem_singleton.1 hw]

theorem Wq.six {D : Dsk} {F : List UInt8} {R : Nat} {cur : List (List UInt8)} (h : Wq D F R cur) (hc : cur ≠ []) (n : Int) (keep : Nat) {may : Nat → List (List UInt8)} (hm : ∀ p x, cur[p]? = some x → may p = [x]) :
    Six (armD (syncD D F).1 n keep) F cur.length may := by
  rcases h.now with ⟨h1, _⟩ | h1
  · exact absurd h1 hc
  · rw [sync_calm h.off (by rw [h1, get_one]; rfl) (by rw [h.fuse]; omega)]
    have hs : putF D.safe ⟨F, pagesF D.now F⟩ = [⟨F, cur⟩] := by rw [h.safe, h1, pages_one]; rfl
    refine ⟨h.off, ?_, ?_, ?_, ?_, ?_, ?_, fun w hw => ?_⟩
    · show (getF D.now F).isSome = true
      rw [h1, get_one]; rfl
    · show (pagesF D.now F).length = _
      rw [h1, pages_one]
    · show ∀ p x, (pagesF D.now F)[p]? = some x → _
      rw [h1, pages_one]
      intro p x hx
      rw [hm p x hx]; rfl
    · show (getF (putF D.safe ⟨F, pagesF D.now F⟩) F).isSome = true
      rw [hs, get_one]; rfl
    · show (pagesF (putF D.safe ⟨F, pagesF D.now F⟩) F).length = _
      rw [hs, pages_one]
    · show ∀ p x, (pagesF (putF D.safe ⟨F, pagesF D.now F⟩) F)[p]? = some x → _
      rw [hs, pages_one]
      intro p x hx
      rw [hm p x hx]
      exact List.mem_singleton.2 rfl
    · have hw : w ∈ dropW D.waits F 0 := hw
      obtain ⟨h4, h5⟩ := List.mem_filter.1 hw
      simp only [decide_eq_true_eq] at h5
      exact absurd (h.waits w h4) (h5.elim id (fun h => absurd h (Nat.not_lt_zero _)))

theorem Six.cong {D : Dsk} {F : List UInt8} {L : Nat} {may may' : Nat → List (List UInt8)} (h : Six D F L may) (hm : ∀ p, p < L → may p = may' p) : Six D F L may' := by
  have hl := h.len
  have hs := h.slen
  refine ⟨h.off, h.is, h.len, fun p x hx => ?_, h.sis, h.slen, fun p x hx => ?_, fun w hw hn => ?_⟩
  · have := (List.getElem?_eq_some_iff.1 hx).1
    rw [← hm p (by omega)]
    exact h.last p x hx
  · have := (List.getElem?_eq_some_iff.1 hx).1
    rw [← hm p (by omega)]
    exact h.safe p x hx
  · have := h.waits w hw hn
    rw [← hm _ this.1]
    exact this

end Go.Proofs.Ytpeodhgmflgbgaa.Cd
