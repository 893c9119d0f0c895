/-
  A row of texts at an offset: read, cut to its last ones, appended to by one text. Conditions: none.
-/
import Derived.Test.YtpeodhgmflgbgaaStrs
import Derived.Test.YtpeodhgmflgbgaaApart
import Derived.ArgAppend
namespace Go.Proofs.Ytpeodhgmflgbgaa.Cd
open Go.RowKit

/-- A slice value that reads as the texts 'l', in the block b, somewhere. -/
def Txt (w : World) (b : Nat) (v : Value) (l : List (List UInt8)) : Prop :=
  ∃ o c cs, v = .slice (some ⟨b, o, none⟩) l.length c ∧ l.length ≤ c ∧ c ≤ maxLen ∧ w.heap[b]? = some (.cells cs 9 (0, 0)) ∧ o + c ≤ cs.size ∧ ∀ j (hj : j < l.length), cs[o + j]? = some (.string ⟨l[j].toArray⟩)

section
variable {w w' : World} {b : Nat} {v : Value} {l : List (List UInt8)}
theorem Txt.heap (h : Txt w b v l) (hb : w'.heap[b]? = w.heap[b]?) : Txt w' b v l := by
  obtain ⟨o, c, cs, h1, h2, h3, h4, h5⟩ := h
  exact ⟨o, c, cs, h1, h2, h3, hb.trans h4, h5⟩
theorem Txt.lt (h : Txt w b v l) : b < w.heap.size := by
  obtain ⟨o, c, cs, _, _, _, h4, _⟩ := h
  exact (Array.getElem?_eq_some_iff.1 h4).1
theorem Txt.len (h : Txt w b v l) : ∃ o c, v = .slice (some ⟨b, o, none⟩) l.length c ∧ l.length ≤ c ∧ c ≤ 9223372036854775807 := by
  obtain ⟨o, c, cs, h1, h2, h3, _⟩ := h
  exact ⟨o, c, h1, h2, h3⟩
theorem Txt.cell {o n c : Nat} (h : Txt w b (.slice (some ⟨b, o, none⟩) n c) l) {k : Nat} (hk : k < l.length) : w.cell? ⟨b, o + k, none⟩ = some (.string ⟨l[k].toArray⟩) := by
  obtain ⟨o', c', cs, e, _, _, h4, _, h6⟩ := h
  injection e with e1 e2 e3
  injection e1 with e1
  injection e1 with _ e1
  subst e1
  rw [cell_of_row w b _ cs _ _ h4]
  exact h6 k hk
/-- One text, laid a moment ago. -/
theorem txt_one (w : World) (s : List UInt8) : Txt (w.alloc (.cells #[.string ⟨s.toArray⟩] 9)) w.heap.size (.slice (some ⟨w.heap.size, 0, none⟩) 1 1) [s] :=
  ⟨0, 1, _, rfl, Nat.le_refl _, by decide, heap_alloc_new _ _, Nat.le_refl _, fun j hj => by
    obtain rfl : j = 0 := by simp at hj; omega
    rfl⟩
/-- The texts from the k-th on. -/
theorem Txt.drop {o n c : Nat} (h : Txt w b (.slice (some ⟨b, o, none⟩) n c) l) (k : Nat) (hk : k ≤ l.length) : Txt w b (.slice (some ⟨b, o + k, none⟩) (n - k) (c - k)) (l.drop k) := by
  obtain ⟨o', c', cs, e, h2, h3, h4, h5, h6⟩ := h
  injection e with e1 e2 e3
  injection e1 with e1
  injection e1 with _ e1
  subst e1 e2 e3
  refine ⟨o + k, c - k, cs, by rw [List.length_drop], by rw [List.length_drop]; omega, by omega, h4, by omega, fun j hj => ?_⟩
  rw [List.length_drop] at hj
  rw [Nat.add_assoc, h6 (k + j) (by omega), List.getElem_drop]

theorem run_append_text (h : Txt w b v l) (s : List UInt8) (ad : Addr) (c0 : Nat) (hs : w.cell? ad = some (.string ⟨s.toArray⟩)) (hm : l.length ≤ 1048576) (ty : TypeId) :
    ∃ v' w' b', (Builtin.append_ #[39, 39] ty #[v, .slice (some ad) 1 c0]).run Try.prog w = .ok v' w' ∧ Txt w' b' v' (l ++ [s]) ∧ (b' = b ∨ w.heap.size ≤ b') ∧ Apart (fun k => k = b) w w' := by
  obtain ⟨i0, hi, hz0, hz1, hz2⟩ := info_parts info_str
  have hlt := h.lt
  obtain ⟨o, c, cs, rfl, h2, h3, h4, h5, h6⟩ := h
  have hnews : ∀ j u, ([.string ⟨s.toArray⟩] : List Value)[j]? = some u → w.cell? (ad.add j) = some u := fun j u hu => by
    cases j with
    | zero => rw [← Option.some.inj (show some (Value.string ⟨s.toArray⟩) = some u from hu)]; simpa [Addr.add] using hs
    | succ k => exact absurd (List.getElem?_eq_some_iff.1 hu).1 (by simp)
  by_cases hr : l.length + 1 ≤ c
  · have hrun := run_append_room_cells (P := Try.prog) w 39 ty 9 i0 Try.underlying39 hi b o l.length c ad 1 c0 [.string ⟨s.toArray⟩] (by simp [hz1]) hnews (by simp [Value.oneCell']) hr
      (fun j hj => by
        obtain rfl : j = 0 := by simp at hj; omega
        rw [cell_of_row w b _ cs _ _ h4, hz1, Array.getElem?_eq_getElem (by omega)]
        rfl)
      (fun j hj => by simp [World.frozen?, h4])
    refine ⟨_, _, b, hrun, ?_, .inl rfl, ?_⟩
    · rw [hz1, Nat.mul_one]
      refine ⟨o, c, cs.setIfInBounds (o + l.length) (.string ⟨s.toArray⟩), by rw [List.length_append]; rfl, by rw [List.length_append]; exact hr, h3, ?_, by rw [Array.size_setIfInBounds]; exact h5, fun j hj => ?_⟩
      · simp [World.setCells, World.setCell, Array.getElem?_modify, h4]
      · rw [List.length_append] at hj
        simp only [List.length_singleton] at hj
        by_cases e : j = l.length
        · subst e
          rw [Array.getElem?_setIfInBounds, if_pos rfl, if_pos (by omega)]
          simp
        · rw [Array.getElem?_setIfInBounds, if_neg (by omega), h6 j (by omega), List.getElem_append_left (by omega)]
    · refine ⟨rfl, rfl, rfl, by simp [World.setCells], fun k hk hn => ?_⟩
      exact heap_setCell_other _ _ _ _ hn
  · obtain ⟨v', w', hrun, ho, hg⟩ := run_append_arg_grows (P := Try.prog) w 39 ty 9 i0 _ 1 16 Try.underlying39 hi hz0 hz1 hz2 rfl (by omega) ⟨b, o, none⟩ l.length c (vs l) (by simp [vs])
      (fun j u hu => by
        have hj := (List.getElem?_eq_some_iff.1 hu).1
        rw [vs_length] at hj
        rw [Addr.add_lit, cell_of_row w b _ cs _ _ h4, h6 j hj, ← hu, vs_at l j hj]) ad 1 c0 [.string ⟨s.toArray⟩] rfl hnews (by omega) (by simp only [maxLen]; omega) (by omega)
    rcases ho.2 with ⟨_, h0⟩ | ⟨g, cap, cur, rfl, hb, hh, hn, hmx, hc, ht⟩
    · omega
    · refine ⟨_, w', g, hrun, ⟨0, cap, cur, by rw [List.length_append]; rfl, by rw [List.length_append]; exact hn, hmx, hh, by omega, fun j hj => ?_⟩, .inr hb, ⟨hg.os, hg.tape, hg.output, hg.size, fun k hk _ => hg.block k hk (by simp)⟩⟩
      have hvs : (vs (l ++ [s]))[j]? = some (.string ⟨(l ++ [s])[j].toArray⟩) := vs_at _ j hj
      rw [vs_append] at hvs
      have ht : cur.toList.take ((l.length + 1) * 1) = vs l ++ vs [s] := ht
      rw [List.length_append, List.length_singleton] at hj
      rw [← ht, List.getElem?_take, if_pos (by omega)] at hvs
      rw [Nat.zero_add]
      simpa using hvs

/-- The same as a step of a region that draws its order. -/
theorem step_append_row {ops : Array Oper} {op : Oper} {a : Act} {K : Act → World → Prop} {Q : Exit → Act → World → Prop} {E : Prop} (hgd : op.guard = none) (s x : Operand)
    (hop : op.op = .call { callee := .builtin .append, args := #[s, x], argTypes := #[39, 39] })
    (hs : a.eval s = v) (h : Txt w b v l) (t : List UInt8) (ad : Addr) (c0 : Nat) (hx : a.eval x = .slice (some ad) 1 c0) (hc : w.cell? ad = some (.string ⟨t.toArray⟩)) (hm : l.length ≤ 1048576)
    (hK : ∀ v' w' b', Txt w' b' v' (l ++ [t]) → (b' = b ∨ w.heap.size ≤ b') → Apart (fun k => k = b) w w' → K (a.put op.dst v') w') : if Region.wanted op (yielded ops a.tmps) = true then Oper.wp Try.prog op a w K Q else E := by
  have hw : Region.wanted op (yielded ops a.tmps) = true := by simp [Region.wanted, hgd]
  rw [if_pos hw]
  obtain ⟨v', w', b', hrun, r1, r2, r3⟩ := run_append_text h t ad c0 hc hm op.type
  unfold Oper.wp
  simp [execOp, hop, resolve, invoke, builtin, hs, hx, hrun, Result.andThen]
  exact hK v' w' b' r1 r2 r3
end

end Go.Proofs.Ytpeodhgmflgbgaa.Cd
