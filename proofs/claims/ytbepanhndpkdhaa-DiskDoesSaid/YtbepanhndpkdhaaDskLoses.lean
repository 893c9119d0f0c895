/-
  What a loss of power leaves of pages that are written in their places: no Go in sight. Conditions: none.
-/
import Derived.Test.YtbepanhndpkdhaaDiskModel
namespace Go.Proofs.Ytbepanhndpkdhaa.Cd

/-- The pages of file F may be these; the last one of each list is the page as it is. -/
structure Six (D : Dsk) (F : List UInt8) (L : Nat) (may : Nat → List (List UInt8)) : Prop where
  off : D.off = false
  is : (getF D.now F).isSome = true
  len : (pagesF D.now F).length = L
  last : ∀ p x, (pagesF D.now F)[p]? = some x → (may p).getLast? = some x
  sis : (getF D.safe F).isSome = true
  slen : (pagesF D.safe F).length = L
  safe : ∀ p x, (pagesF D.safe F)[p]? = some x → x ∈ may p
  waits : ∀ w ∈ D.waits, w.name = F → w.page < L ∧ w.data ∈ may w.page
/-- The power is off, and the pages are among these. -/
structure Gone (D : Dsk) (F : List UInt8) (L : Nat) (may : Nat → List (List UInt8)) : Prop where
  off : D.off = true
  len : (pagesF D.now F).length = L
  pages : ∀ p x, (pagesF D.now F)[p]? = some x → x ∈ may p

theorem Six.lose {D : Dsk} {F : List UInt8} {L : Nat} {may : Nat → List (List UInt8)} (h : Six D F L may) (keep : Nat) : Gone (lose D keep) F L may := by
  obtain ⟨q1, q2, q3⟩ := keeps_pages (keep := keep) (n := F) (L := L) D.waits 0 D.safe (fun w hw hn => (h.waits w hw hn).1) h.sis h.slen
  obtain ⟨f, hf⟩ := Option.isSome_iff_exists.1 q1
  have e : pagesF (Cd.lose D keep).now F = pagesF (keeps keep 0 D.waits D.safe) F := by
    rw [lose_now h.off]
    unfold pagesF
    rw [there_some _ _ _ _ hf, hf]
  refine ⟨lose_off _ _, by rw [e]; exact q2, fun p x hx => ?_⟩
  rw [e] at hx
  rcases q3 p x hx with h1 | ⟨w, hw, hn, hp, hd⟩
  · exact h.safe p x h1
  · rw [← hp, ← hd]
    exact (h.waits w hw hn).2

def more (may : Nat → List (List UInt8)) (p : Nat) (x : List UInt8) : Nat → List (List UInt8) := fun k => if k = p then may k ++ [x] else may k
theorem more_mem {may : Nat → List (List UInt8)} {p k : Nat} {x y : List UInt8} (h : y ∈ may k) : y ∈ more may p x k := by
  unfold more
  split
  · exact List.mem_append_left _ h
  · exact h

/-- A page is written: or the power goes. -/
theorem Six.write {D : Dsk} {F : List UInt8} {L : Nat} {may : Nat → List (List UInt8)} (h : Six D F L may) {p : Nat} (hp : p < L) {b : List UInt8} (hb : b.length ≤ 512) :
    ((writeD D F p b).2 = 0 ∧ Six (writeD D F p b).1 F L (more may p (pad b))) ∨ ((writeD D F p b).2 = 8 ∧ Gone (writeD D F p b).1 F L (more may p (pad b))) := by
  have hlen := h.len
  have hw : writeD D F p b = ends D (wrote D F p b) 0 := by
    unfold writeD
    rw [if_neg (by rw [h.off]; simp), if_neg (by omega), if_neg (by omega), if_neg (by omega), Int.toNat_natCast]
  have hsix : Six (wrote D F p b) F L (more may p (pad b)) := by
    have e : pagesF (wrote D F p b).now F = (pagesF D.now F).set p (pad b) := by
      show pagesF (putF D.now ⟨F, setP (pagesF D.now F) p (pad b)⟩) F = _
      rw [pagesF_put, if_pos rfl, setP_in (by rw [hlen]; exact hp)]
    refine ⟨h.off, by show (getF (putF _ _) F).isSome = true; rw [getF_put, if_pos rfl]; rfl, by rw [e, List.length_set]; exact hlen, fun q x hx => ?_, h.sis, h.slen, fun q x hx => more_mem (h.safe q x hx), fun w hw hn => ?_⟩
    · rw [e, List.getElem?_set] at hx
      unfold more
      by_cases eq : p = q
      · rw [if_pos eq] at hx
        rw [if_pos eq.symm]
        split at hx
        · injection hx with hx
          rw [List.getLast?_append, ← hx]
          rfl
        · cases hx
      · rw [if_neg eq] at hx
        rw [if_neg (fun h2 => eq h2.symm)]
        exact h.last q x hx
    · have hw : w ∈ D.waits ++ [⟨F, p, pad b⟩] := hw
      rcases List.mem_append.1 hw with h1 | h1
      · exact ⟨(h.waits w h1 hn).1, more_mem (h.waits w h1 hn).2⟩
      · rw [List.mem_singleton] at h1
        rw [h1]
        exact ⟨hp, by unfold more; rw [if_pos rfl]; simp⟩
  rw [hw]
  unfold ends
  by_cases hf : D.fuse = 1
  · rw [if_pos hf]
    exact .inr ⟨rfl, hsix.lose _⟩
  · rw [if_neg hf]
    exact .inl ⟨rfl, hsix⟩

theorem may_ok {D : Dsk} {n : List UInt8} (h : D.off = false) (h2 : (getF D.now n).isSome = true) : mayD D n = ends D (actD D) 0 := by
  unfold mayD
  rw [if_neg (by rw [h]; simp), if_neg (by rw [h2]; simp)]

/-- The file is synced: or the power goes. -/
theorem Six.sync {D : Dsk} {F : List UInt8} {L : Nat} {may : Nat → List (List UInt8)} (h : Six D F L may) :
    ((syncD D F).2 = 0 ∧ ∀ may' : Nat → List (List UInt8), (∀ p x, (may p).getLast? = some x → may' p = [x]) → Six (syncD D F).1 F L may') ∨ ((syncD D F).2 = 8 ∧ Gone (syncD D F).1 F L may) := by
  unfold syncD
  rw [may_ok h.off h.is]
  unfold ends
  by_cases hf : D.fuse = 1
  · rw [if_pos hf, if_neg (by simp)]
    have h2 : Six (actD D) F L may := ⟨h.off, h.is, h.len, h.last, h.sis, h.slen, h.safe, h.waits⟩
    exact .inr ⟨rfl, h2.lose _⟩
  · rw [if_neg hf, if_pos rfl]
    refine .inl ⟨rfl, fun may' hm => ?_⟩
    have e : pagesF (syncs (actD D) F).safe F = pagesF D.now F := by
      show pagesF (putF _ ⟨F, pagesF D.now F⟩) F = _
      rw [pagesF_put, if_pos rfl]
    refine ⟨h.off, h.is, h.len, fun p x hx => ?_, by show (getF (putF _ _) F).isSome = true; rw [getF_put, if_pos rfl]; rfl, by rw [e]; exact h.len, fun p x hx => ?_, fun w hw hn => ?_⟩
    · rw [hm p x (h.last p x hx)]; rfl
    · rw [e] at hx
      rw [hm p x (h.last p x hx)]
      simp
    · have hw : w ∈ dropW D.waits F 0 := hw
      unfold dropW at hw
      have := (List.mem_filter.1 hw).2
      simp only [decide_eq_true_eq] at this
      rcases this with h1 | h1
      · exact absurd hn h1
      · omega

theorem Gone.read {D : Dsk} {F : List UInt8} {L : Nat} {may : Nat → List (List UInt8)} (h : Gone D F L may) {p : Nat} (hp : p < L) : ∃ x, readD (onD D) F p = (x, 0) ∧ x ∈ may p := by
  have hl := h.len
  obtain ⟨x, hx⟩ : ∃ x, (pagesF D.now F)[p]? = some x := ⟨_, List.getElem?_eq_getElem (by omega)⟩
  refine ⟨x, ?_, h.pages p x hx⟩
  unfold readD
  rw [if_neg (by show ¬ false = true; simp), if_neg (by show ¬ ((p : Int) < 0 ∨ ((pagesF D.now F).length : Int) ≤ p); omega), Int.toNat_natCast]
  show ((pagesF D.now F).getD p [], 0) = _
  rw [List.getD_eq_getElem?_getD, hx]
  rfl

end Go.Proofs.Ytbepanhndpkdhaa.Cd
