/-
  Bytes that are fed in one piece behind the other: the state and the block between two pieces; no Go in sight. Conditions: none.
-/
import Derived.Test.YtflgokbkkoobkaaDoorShaPad
namespace Go.Proofs.YtflgokbkkoobkaaDoor.Cd

section
variable {σ : Type} (mix : σ → List UInt8 → σ) (s0 : σ)

/-- The state of the whole blocks, and the block that isn't whole, with noughts behind it. -/
def stF (P : List UInt8) : σ := blks mix (P.length / 64) s0 P
def blkF (P : List UInt8) : List UInt8 := P.drop (64 * (P.length / 64)) ++ zer (64 - P.length % 64)
theorem blkF_length (P : List UInt8) : (blkF P).length = 64 := by
  simp [blkF, zer_length]
  omega
theorem blks_prefix (n : Nat) (s : σ) (b c : List UInt8) (h : 64 * n ≤ b.length) : blks mix n s (b ++ c) = blks mix n s b := by
  have := blks_add mix n 0 s b c h
  simpa [blks] using this
/-- What a piece's beginning makes of the block. -/
theorem blkF_put (P r : List UInt8) (n : Nat) (hn : n = P.length % 64) :
    (blkF P).take n ++ r.take (64 - n) ++ (blkF P).drop (n + (r.take (64 - n)).length) = P.drop (64 * (P.length / 64)) ++ r.take (64 - n) ++ zer (64 - n - (r.take (64 - n)).length) := by
  have hl : (P.drop (64 * (P.length / 64))).length = n := by rw [List.length_drop]; omega
  have ht : (r.take (64 - n)).length ≤ 64 - n := by rw [List.length_take]; omega
  unfold blkF
  rw [← hn]
  generalize (r.take (64 - n)) = Q at ht ⊢
  generalize P.drop (64 * (P.length / 64)) = R at hl ⊢
  rw [List.take_append_of_le_length (by omega), List.take_of_length_le (by omega), List.drop_append, hl, List.drop_of_length_le (by omega), List.nil_append, show n + Q.length - n = Q.length by omega]
  unfold zer
  rw [List.drop_replicate]
theorem stF_more (P Q : List UInt8) (h : P.length % 64 + Q.length < 64) : stF mix s0 (P ++ Q) = stF mix s0 P := by
  unfold stF
  have e : (P ++ Q).length / 64 = P.length / 64 := by rw [List.length_append]; omega
  rw [e, blks_prefix mix _ _ _ _ (by omega)]
theorem blkF_more (P Q : List UInt8) (h : P.length % 64 + Q.length < 64) : blkF (P ++ Q) = P.drop (64 * (P.length / 64)) ++ Q ++ zer (64 - P.length % 64 - Q.length) := by
  unfold blkF
  have e : (P ++ Q).length / 64 = P.length / 64 := by rw [List.length_append]; omega
  rw [e, List.drop_append_of_le_length (by omega)]
  congr 2
  rw [List.length_append]
  omega
theorem stF_full (P Q : List UInt8) (h : P.length % 64 + Q.length = 64) : stF mix s0 (P ++ Q) = mix (stF mix s0 P) (P.drop (64 * (P.length / 64)) ++ Q) := by
  unfold stF
  have e : (P ++ Q).length / 64 = P.length / 64 + 1 := by rw [List.length_append]; omega
  rw [e, blks_snoc mix _ _ _ (by rw [List.length_append]; omega), blks_prefix mix _ _ _ _ (by omega), List.drop_append_of_le_length (by omega), List.take_of_length_le]
  simp
  omega
theorem blkF_full (P Q : List UInt8) (h : P.length % 64 + Q.length = 64) : blkF (P ++ Q) = zer 64 := by
  unfold blkF
  have e : (P ++ Q).length = 64 * ((P ++ Q).length / 64) := by rw [List.length_append]; omega
  rw [List.drop_of_length_le (by omega), show (P ++ Q).length % 64 = 0 by omega]
  rfl

/-- A piece bs behind P, of which r is left: the state, the block, how much of it is used. -/
def FedTo (P bs r : List UInt8) (S : σ) (B : List UInt8) (n : Nat) : Prop := ∃ Q, Q ++ r = bs ∧ S = stF mix s0 (P ++ Q) ∧ B = blkF (P ++ Q) ∧ n = (P ++ Q).length % 64
theorem FedTo.start (P bs : List UInt8) : FedTo mix s0 P bs bs (stF mix s0 P) (blkF P) (P.length % 64) := ⟨[], rfl, by rw [List.append_nil], by rw [List.append_nil], by rw [List.append_nil]⟩
variable {mix s0}
theorem FedTo.more {P bs r B : List UInt8} {S : σ} {n : Nat} (h : FedTo mix s0 P bs r S B n) {m : Nat} (hm : Nat.min r.length (64 - n) = m) (hf : n + m < 64) :
    FedTo mix s0 P bs (r.drop m) S (B.take n ++ r.take (64 - n) ++ B.drop (n + (r.take (64 - n)).length)) (n + m) := by
  obtain ⟨Q, h1, rfl, rfl, h4⟩ := h
  have hm2 : m = r.length := by have : m = min r.length (64 - n) := hm.symm; omega
  have ht : r.take (64 - n) = r := List.take_of_length_le (by omega)
  refine ⟨Q ++ r, ?_, ?_, ?_, ?_⟩
  · rw [hm2, List.drop_length, List.append_nil]; exact h1
  · rw [← List.append_assoc, stF_more mix s0 (P ++ Q) r (by omega)]
  · rw [← List.append_assoc, blkF_more (P ++ Q) r (by omega), blkF_put _ _ n h4, ht, h4]
  · rw [← List.append_assoc, List.length_append (as := P ++ Q)]; omega
theorem FedTo.full {P bs r B : List UInt8} {S : σ} {n : Nat} (h : FedTo mix s0 P bs r S B n) {m : Nat} (hm : Nat.min r.length (64 - n) = m) (hf : n + m = 64) :
    FedTo mix s0 P bs (r.drop m) (mix S (B.take n ++ r.take (64 - n) ++ B.drop (n + (r.take (64 - n)).length))) (zer 64) 0 := by
  obtain ⟨Q, h1, rfl, rfl, h4⟩ := h
  have hm2 : m = min r.length (64 - n) := hm.symm
  have hl : (r.take (64 - n)).length = m := by rw [List.length_take]; omega
  have e64 : r.take (64 - n) = r.take m := by rw [show 64 - n = m by omega]
  refine ⟨Q ++ r.take m, ?_, ?_, ?_, ?_⟩
  · rw [List.append_assoc, List.take_append_drop]; exact h1
  · rw [← List.append_assoc, stF_full mix s0 (P ++ Q) (r.take m) (by rw [← e64, hl]; omega), blkF_put (P ++ Q) r n h4, hl, show 64 - n - m = 0 by omega, e64]
    simp [zer]
  · rw [← List.append_assoc, blkF_full (P ++ Q) (r.take m) (by rw [← e64, hl]; omega)]
  · rw [← List.append_assoc, List.length_append (as := P ++ Q), ← e64, hl]; omega
theorem FedTo.done {P bs r B : List UInt8} {S : σ} {n : Nat} (h : FedTo mix s0 P bs r S B n) (hr : r.length = 0) : S = stF mix s0 (P ++ bs) ∧ B = blkF (P ++ bs) ∧ n = (P ++ bs).length % 64 := by
  obtain ⟨Q, h1, h2, h3, h4⟩ := h
  obtain rfl : r = [] := List.length_eq_zero_iff.1 hr
  rw [List.append_nil] at h1
  subst h1
  exact ⟨h2, h3, h4⟩
variable (mix s0)
/-- A whole digest's state. -/
def endF (P : List UInt8) : σ := blks mix ((padS P).length / 64) s0 (padS P)
theorem endF_few (P : List UInt8) (h : (P ++ [128]).length % 64 ≤ 56) : endF mix s0 P = mix (stF mix s0 (P ++ [128])) ((blkF (P ++ [128])).take 56 ++ tail8 P.length) := by
  have hl : (P ++ [128]).length = P.length + 1 := by simp
  rw [hl] at h
  by_cases h0 : P.length % 64 = 63
  · rw [blkF_full P [128] (by simp; omega), stF_full mix s0 P [128] (by simp; omega)]
    have := pad_two mix (P.length / 64) s0 P (by omega) (by omega)
    rw [show 63 - (P.length - 64 * (P.length / 64)) = 0 by omega] at this
    exact this
  · rw [stF_more mix s0 P [128] (by simp; omega), blkF_more P [128] (by simp; omega)]
    have := pad_one mix (P.length / 64) s0 P (by omega) (by omega)
    rw [show 55 - (P.length - 64 * (P.length / 64)) = 55 - P.length % 64 by omega] at this
    unfold endF stF
    rw [this]
    congr 1
    have hd : (P.drop (64 * (P.length / 64)) ++ [128]).length = P.length % 64 + 1 := by simp; omega
    rw [List.take_append, hd, List.take_of_length_le (by omega)]
    simp [zer, List.take_replicate]
    congr 1
    omega
theorem endF_many (P : List UInt8) (h : 56 < (P ++ [128]).length % 64) : endF mix s0 P = mix (mix (stF mix s0 (P ++ [128])) (blkF (P ++ [128]))) ((zer 64).take 56 ++ tail8 P.length) := by
  have hl : (P ++ [128]).length = P.length + 1 := by simp
  rw [hl] at h
  rw [stF_more mix s0 P [128] (by simp; omega), blkF_more P [128] (by simp; omega)]
  have := pad_two mix (P.length / 64) s0 P (by omega) (by omega)
  rw [show 63 - (P.length - 64 * (P.length / 64)) = 63 - P.length % 64 by omega] at this
  unfold endF stF
  rw [this]
  congr 2
  simp
  congr 1
  omega
end
theorem put_tail (B : List UInt8) (k : Nat) (hk : k < B.length) (c : UInt8) : (B.set k c).take (k + 1) = B.take k ++ [c] := by
  rw [List.take_add_one, List.getElem?_set_self hk, List.take_set_of_le (Nat.le_refl _)]
  rfl
theorem tail8_at (n k : Nat) (hk : k < 8) : (tail8 n).take (k + 1) = (tail8 n).take k ++ [UInt8.ofNat (8 * n / 2 ^ (56 - 8 * k))] := by
  rw [List.take_add_one]
  congr 1
  unfold tail8
  rw [List.getElem?_map, List.getElem?_range hk]
  rfl

end Go.Proofs.YtflgokbkkoobkaaDoor.Cd
