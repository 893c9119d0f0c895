/-
  IdentBack answers true. Conditions: none.
-/
import Derived.Test.YtabogconbjdcgaaIdArg
namespace Go.Proofs.Ytabogconbjdcgaa.Cd
open Go.RowKit

theorem parseI_cons (c : UInt8) (r : List UInt8) : parseI (c :: r) = if 0 < sizeI c ∧ r.length = sizeI c then (c :: pad32 r, true) else (zer 33, false) := rfl
theorem goodI_cons (k : UInt8) (s : List UInt8) : goodI (k :: s) = (decide (0 < sizeI k) && (k :: s == k :: pad32 (s.take (sizeI k)))) := rfl
theorem parse_length (l : List UInt8) : (parseI l).1.length = 33 := by
  cases l with
  | nil => rfl
  | cons c r =>
    rw [parseI_cons]
    split
    · simp [pad32_length]
    · rfl
theorem good_zero : goodI (zer 33) = false := by decide
theorem textI_length (l : List UInt8) : (textI l).length ≤ 33 := by
  cases l with
  | nil => simp [textI]
  | cons k s =>
    rw [textI_cons]
    split
    · have := sizeI_le k
      simp only [List.length_cons, List.length_take]
      omega
    · simp
theorem good_parts {k : UInt8} {s : List UInt8} (h : goodI (k :: s) = true) : 0 < sizeI k ∧ s = pad32 (s.take (sizeI k)) := by
  rw [goodI_cons] at h
  simpa using h
theorem parse_text (l : List UInt8) (hl : l.length = 33) : parseI (textI l) = if goodI l = true then (l, true) else (zer 33, false) := by
  obtain ⟨k, s, rfl⟩ := List.exists_cons_of_length_pos (l := l) (by omega)
  have hs : s.length = 32 := by simpa using hl
  rw [textI_cons]
  by_cases h : goodI (k :: s) = true
  · rw [if_pos h, if_pos h]
    obtain ⟨h1, h2⟩ := good_parts h
    have hn := sizeI_le k
    rw [parseI_cons, if_pos ⟨h1, by rw [List.length_take]; omega⟩, ← h2]
  · rw [if_neg h, if_neg h]
    rfl
theorem text_parse (l : List UInt8) (h : (parseI l).2 = true) : textI (parseI l).1 = l ∧ goodI (parseI l).1 = true := by
  cases l with
  | nil => cases h
  | cons c r =>
    by_cases hc : 0 < sizeI c ∧ r.length = sizeI c
    · have e : parseI (c :: r) = (c :: pad32 r, true) := if_pos hc
      have hn := sizeI_le c
      have ht : (pad32 r).take (sizeI c) = r := by
        unfold pad32
        rw [List.take_of_length_le (l := r) (i := 32) (by omega), List.take_append_of_le_length (by omega), List.take_of_length_le (by omega)]
      have hg : goodI (c :: pad32 r) = true := by
        rw [goodI_cons, ht]
        simp [hc.1]
      rw [e]
      exact ⟨by rw [textI_cons, hg, if_pos rfl, ht], hg⟩
    · rw [show parseI (c :: r) = (zer 33, false) from if_neg hc] at h
      cases h


end Go.Proofs.Ytabogconbjdcgaa.Cd

namespace Go.Proofs.Ytabogconbjdcgaa.IdentBack
open Go.RowKit Go.Proofs.Ytabogconbjdcgaa.Cd


end Go.Proofs.Ytabogconbjdcgaa.IdentBack
