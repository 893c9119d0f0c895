/-
  Six rows of texts, told by a row of six slices, beside a disk. Conditions: none.
-/
import Derived.Test.YtpeodhgmflgbgaaTexts
import Derived.Test.YtpeodhgmflgbgaaLosMath
namespace Go.Proofs.Ytpeodhgmflgbgaa.Cd
open Go.RowKit

/-- The block m has six slices; the first n of them read as the texts of 'may', each in a block of its own, none of the set S, all at B and above. -/
def SixR (w : World) (S : Nat → Prop) (B m n : Nat) (may : Nat → List (List UInt8)) : Prop :=
  ∃ (cs : Array Value) (bs : Nat → Nat), w.heap[m]? = some (.cells cs 59 (0, 0)) ∧ cs.size = 6 ∧ B ≤ m ∧ ¬ S m ∧
    (∀ k, k < n → ∃ v, cs[k]? = some v ∧ Txt w (bs k) v (may k) ∧ B ≤ bs k ∧ bs k ≠ m ∧ ¬ S (bs k)) ∧ ∀ j k, j < n → k < n → j ≠ k → bs j ≠ bs k

section
variable {w w' : World} {S S' : Nat → Prop} {B m n : Nat} {may : Nat → List (List UInt8)}

theorem SixR.keep (h : SixR w S B m n may) (ha : ∀ k, k < w.heap.size → ¬ S k → w'.heap[k]? = w.heap[k]?) (hs : ∀ k, k < w.heap.size → ¬ S k → ¬ S' k) : SixR w' S' B m n may := by
  obtain ⟨cs, bs, h1, h2, h3, h4, h5, h6⟩ := h
  have hm : m < w.heap.size := (Array.getElem?_eq_some_iff.1 h1).1
  refine ⟨cs, bs, (ha m hm h4).trans h1, h2, h3, hs m hm h4, fun k hk => ?_, h6⟩
  obtain ⟨v, a1, a2, a3, a4, a5⟩ := h5 k hk
  exact ⟨v, a1, a2.heap (ha _ a2.lt a5), a3, a4, hs _ a2.lt a5⟩
/-- A call of the disk leaves the rows. -/
theorem SixR.disk (h : SixR w S B m n may) (ha : Apart S w w') : SixR w' (since S w w') B m n may :=
  h.keep ha.block (fun k hk hn hs => hn ((since_old hk).1 hs))
/-- What turns nothing leaves them. -/
theorem SixR.below (h : SixR w S B m n may) (ha : Below w.heap.size w w') : SixR w' S B m n may :=
  h.keep (fun k hk _ => ha.block k hk) (fun _ _ hn => hn)
theorem SixR.lt (h : SixR w S B m n may) : m < w.heap.size := by
  obtain ⟨cs, bs, h1, _⟩ := h
  exact (Array.getElem?_eq_some_iff.1 h1).1
theorem SixR.low (h : SixR w S B m n may) : B ≤ m := by
  obtain ⟨cs, bs, _, _, h3, _⟩ := h
  exact h3
theorem SixR.out (h : SixR w S B m n may) : ¬ S m := by
  obtain ⟨cs, bs, _, _, _, h4, _⟩ := h
  exact h4
/-- The k-th slice. -/
theorem SixR.at (h : SixR w S B m n may) {k : Nat} (hk : k < n) (hn : n ≤ 6) :
    ∃ b o c, w.cell? ⟨m, k, none⟩ = some (.slice (some ⟨b, o, none⟩) (may k).length c) ∧ Txt w b (.slice (some ⟨b, o, none⟩) (may k).length c) (may k) ∧ (may k).length ≤ c ∧ c ≤ 9223372036854775807 ∧ B ≤ b ∧ b ≠ m ∧ ¬ S b := by
  obtain ⟨cs, bs, h1, h2, h3, h4, h5, h6⟩ := h
  obtain ⟨v, a1, a2, a3, a4, a5⟩ := h5 k hk
  obtain ⟨o, c, rfl, hc, hm⟩ := a2.len
  exact ⟨bs k, o, c, by rw [cell_of_row _ _ _ _ _ _ h1]; exact a1, a2, hc, hm, a3, a4, a5⟩
theorem SixR.frozen (h : SixR w S B m n may) (k : Nat) : w.frozen? ⟨m, k, none⟩ = false := by
  obtain ⟨cs, bs, h1, _⟩ := h
  simp [World.frozen?, h1]
theorem SixR.cell_some (h : SixR w S B m n may) {k : Nat} (hk : k < 6) : ∃ v, w.cell? ⟨m, k, none⟩ = some v := by
  obtain ⟨cs, bs, h1, h2, _⟩ := h
  exact ⟨cs[k]'(by omega), by rw [cell_of_row _ _ _ _ _ _ h1]; exact Array.getElem?_eq_getElem (by omega)⟩

/-- A slice is put in the p-th place: its block is the old one's, or new. -/
theorem SixR.put {w1 : World} (h : SixR w S B m n may) {p b b' : Nat} {o k0 c : Nat} {v' : Value} {l' : List (List UInt8)} (hp : p < n) (hn : n ≤ 6)
    (hb : w.cell? ⟨m, p, none⟩ = some (.slice (some ⟨b, o, none⟩) k0 c)) (ha : Apart (fun k => k = b) w w1) (ht : Txt w1 b' v' l') (hb' : b' = b ∨ w.heap.size ≤ b') (hB : B ≤ w.heap.size) (hS : ∀ k, S k → k < w.heap.size) :
    SixR (w1.setCell ⟨m, p, none⟩ v') S B m n (fun k => if k = p then l' else may k) := by
  obtain ⟨cs, bs, h1, h2, h3, h4, h5, h6⟩ := h
  have hm : m < w.heap.size := (Array.getElem?_eq_some_iff.1 h1).1
  obtain ⟨v, a1, a2, a3, a4, a5⟩ := h5 p hp
  have e : b = bs p := by
    rw [cell_of_row _ _ _ _ _ _ h1, a1] at hb
    injection hb with hb
    obtain ⟨o2, c2, e2, _⟩ := a2.len
    rw [e2] at hb
    injection hb with hb
    injection hb with hb
    injection hb with hb
    exact hb.symm
  subst e
  have hm1 : w1.heap[m]? = some (.cells cs 59 (0, 0)) := (ha.block m hm (fun e => a4 e.symm)).trans h1
  have hother : ∀ k, k ≠ m → (w1.setCell ⟨m, p, none⟩ v').heap[k]? = w1.heap[k]? := fun k hk => heap_setCell_other _ _ _ _ hk
  have hb'm : b' ≠ m := by
    rcases hb' with e | e
    · rw [e]; exact a4
    · omega
  obtain ⟨f, fp, fk⟩ : ∃ f : Nat → Nat, f p = b' ∧ ∀ k, k ≠ p → f k = bs k := ⟨fun k => if k = p then b' else bs k, if_pos rfl, fun k hk => if_neg hk⟩
  have hlt : ∀ i, i < n → bs i < w.heap.size := fun i hi => by
    obtain ⟨u, _, c2, _⟩ := h5 i hi
    exact c2.lt
  refine ⟨cs.setIfInBounds p v', f, ?_, by rw [Array.size_setIfInBounds]; exact h2, h3, h4, fun k hk => ?_, fun j k hj hk hne => ?_⟩
  · simp [World.setCell, Array.getElem?_modify, hm1]
  · by_cases e : k = p
    · subst e
      refine ⟨v', by rw [Array.getElem?_setIfInBounds, if_pos rfl, if_pos (by omega)], ?_, ?_, ?_, ?_⟩
      · show Txt _ (f k) v' (if k = k then l' else may k)
        rw [if_pos rfl, fp]
        exact ht.heap (hother _ hb'm)
      · rw [fp]
        rcases hb' with e | e
        · rw [e]; exact a3
        · omega
      · rw [fp]; exact hb'm
      · rw [fp]
        intro hs
        rcases hb' with e | e
        · rw [e] at hs; exact a5 hs
        · have := hS _ hs; omega
    · obtain ⟨u, c1, c2, c3, c4, c5⟩ := h5 k hk
      refine ⟨u, by rw [Array.getElem?_setIfInBounds, if_neg (fun h => e h.symm)]; exact c1, ?_, by rw [fk k e]; exact c3, by rw [fk k e]; exact c4, by rw [fk k e]; exact c5⟩
      show Txt _ (f k) u (if k = p then l' else may k)
      rw [if_neg e, fk k e]
      exact c2.heap ((hother _ c4).trans (ha.block _ c2.lt (h6 k p hk hp e)))
  · by_cases e1 : j = p
    · have e2 : ¬ k = p := fun h => hne (e1.trans h.symm)
      rw [e1, fp, fk k e2]
      rcases hb' with e | e
      · rw [e, ← e1]; exact h6 j k hj hk hne
      · have := hlt k hk; omega
    · by_cases e2 : k = p
      · rw [e2, fp, fk j e1]
        rcases hb' with e | e
        · rw [e, ← e2]; exact h6 j k hj hk hne
        · have := hlt j hj; omega
      · rw [fk j e1, fk k e2]
        exact h6 j k hj hk hne

/-- One slice more: in a new block. -/
theorem SixR.push {w1 : World} (h : SixR w S B m n may) {b' : Nat} {v' : Value} (hn : n < 6) (ha : Below w.heap.size w w1) (ht : Txt w1 b' v' (may n)) (hb' : w.heap.size ≤ b') (hB : B ≤ w.heap.size) (hS : ∀ k, S k → k < w.heap.size) :
    SixR (w1.setCell ⟨m, n, none⟩ v') S B m (n + 1) may := by
  obtain ⟨cs, bs, h1, h2, h3, h4, h5, h6⟩ := h
  have hm : m < w.heap.size := (Array.getElem?_eq_some_iff.1 h1).1
  have hm1 : w1.heap[m]? = some (.cells cs 59 (0, 0)) := (ha.block m hm).trans h1
  have hother : ∀ k, k ≠ m → (w1.setCell ⟨m, n, none⟩ v').heap[k]? = w1.heap[k]? := fun k hk => heap_setCell_other _ _ _ _ hk
  obtain ⟨f, fp, fk⟩ : ∃ f : Nat → Nat, f n = b' ∧ ∀ k, k ≠ n → f k = bs k := ⟨fun k => if k = n then b' else bs k, if_pos rfl, fun k hk => if_neg hk⟩
  have hlt : ∀ i, i < n → bs i < w.heap.size := fun i hi => by
    obtain ⟨u, _, c2, _⟩ := h5 i hi
    exact c2.lt
  refine ⟨cs.setIfInBounds n v', f, ?_, by rw [Array.size_setIfInBounds]; exact h2, h3, h4, fun k hk => ?_, fun j k hj hk hne => ?_⟩
  · simp [World.setCell, Array.getElem?_modify, hm1]
  · by_cases e : k = n
    · subst e
      refine ⟨v', by rw [Array.getElem?_setIfInBounds, if_pos rfl, if_pos (by omega)], ?_, by rw [fp]; omega, by rw [fp]; omega, ?_⟩
      · rw [fp]; exact ht.heap (hother _ (by omega))
      · rw [fp]
        intro hs
        have := hS _ hs; omega
    · obtain ⟨u, c1, c2, c3, c4, c5⟩ := h5 k (by omega)
      refine ⟨u, by rw [Array.getElem?_setIfInBounds, if_neg (fun h => e h.symm)]; exact c1, ?_, by rw [fk k e]; exact c3, by rw [fk k e]; exact c4, by rw [fk k e]; exact c5⟩
      rw [fk k e]
      exact c2.heap ((hother _ c4).trans (ha.block _ c2.lt))
  · by_cases e1 : j = n
    · rw [e1, fp, fk k (by omega)]
      have := hlt k (by omega); omega
    · by_cases e2 : k = n
      · rw [e2, fp, fk j e1]
        have := hlt j (by omega); omega
      · rw [fk j e1, fk k e2]
        exact h6 j k (by omega) (by omega) hne
end

/-- The power goes, or has gone. -/
theorem ends_gone {D : Dsk} {F : List UInt8} {L : Nat} {may : Nat → List (List UInt8)} (h : Six D F L may ∨ Gone D F L may) (keep : Nat) : Gone (lose D keep) F L may := by
  rcases h with h | h
  · exact h.lose keep
  · rw [lose_again h.off]; exact h

/-- Each list's last one. -/
def lasts (may : Nat → List (List UInt8)) (n : Nat) : Nat → List (List UInt8) := fun k => if k < n then (may k).drop ((may k).length - 1) else may k
theorem lasts_zero (may : Nat → List (List UInt8)) : lasts may 0 = may := by funext k; unfold lasts; rw [if_neg (by omega)]
theorem lasts_succ (may : Nat → List (List UInt8)) (n : Nat) : (fun k => if k = n then (may n).drop ((may n).length - 1) else lasts may n k) = lasts may (n + 1) := by
  funext k
  unfold lasts
  by_cases e : k = n
  · rw [if_pos e, if_pos (by omega), e]
  · rw [if_neg e]
    by_cases e2 : k < n
    · rw [if_pos e2, if_pos (by omega)]
    · rw [if_neg e2, if_neg (by omega)]
theorem lasts_at (may : Nat → List (List UInt8)) (n : Nat) : lasts may n n = may n := by unfold lasts; rw [if_neg (by omega)]
theorem last_drop {l : List (List UInt8)} {x : List UInt8} (h : l.getLast? = some x) : l.drop (l.length - 1) = [x] := by
  obtain ⟨ys, rfl⟩ := List.getLast?_eq_some_iff.1 h
  rw [List.length_append, List.length_singleton, Nat.add_sub_cancel, List.drop_left]

end Go.Proofs.Ytpeodhgmflgbgaa.Cd
