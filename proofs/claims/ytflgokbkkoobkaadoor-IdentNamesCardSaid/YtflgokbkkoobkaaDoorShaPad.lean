/-
  Blocks of sixty-four bytes, and what stands behind all bytes: no Go in sight. Conditions: none.
-/
namespace Go.Proofs.YtflgokbkkoobkaaDoor.Cd

/-- A state behind n blocks. -/
def blks {σ : Type} (mix : σ → List UInt8 → σ) : Nat → σ → List UInt8 → σ
  | 0, s, _ => s
  | n + 1, s, b => blks mix n (mix s (b.take 64)) (b.drop 64)

def zer (n : Nat) : List UInt8 := List.replicate n 0
/-- How many noughts stand between the mark and the length. -/
def gapZ (n : Nat) : Nat := (119 - n % 64) % 64
/-- The length in bits, as eight bytes, the highest first. -/
def tail8 (n : Nat) : List UInt8 := (List.range 8).map fun i => UInt8.ofNat (8 * n / 2 ^ (56 - 8 * i))
/-- Bytes with what stands behind them. -/
def padS (b : List UInt8) : List UInt8 := b ++ 128 :: (zer (gapZ b.length) ++ tail8 b.length)

theorem zer_length (n : Nat) : (zer n).length = n := by simp [zer]
theorem tail8_length (n : Nat) : (tail8 n).length = 8 := by simp [tail8]
theorem padS_length (b : List UInt8) : (padS b).length = b.length + 9 + gapZ b.length := by
  simp [padS, zer_length, tail8_length]
  omega
theorem padS_mod (b : List UInt8) : (padS b).length % 64 = 0 := by
  rw [padS_length]
  unfold gapZ
  omega

theorem blks_add {σ : Type} (mix : σ → List UInt8 → σ) (n m : Nat) (s : σ) (b c : List UInt8) (h : 64 * n ≤ b.length) :
    blks mix (n + m) s (b ++ c) = blks mix m (blks mix n s b) (b.drop (64 * n) ++ c) := by
  induction n generalizing s b with
  | zero => simp [blks]
  | succ n ih =>
    have h1 : 64 ≤ b.length := by omega
    rw [show n + 1 + m = (n + m) + 1 by omega]
    simp only [blks]
    rw [List.take_append_of_le_length h1, List.drop_append_of_le_length h1, ih _ _ (by rw [List.length_drop]; omega), List.drop_drop]
    rw [show 64 + 64 * n = 64 * (n + 1) by omega]

theorem blks_snoc {σ : Type} (mix : σ → List UInt8 → σ) (n : Nat) (s : σ) (b : List UInt8) (h : 64 * n ≤ b.length) :
    blks mix (n + 1) s b = mix (blks mix n s b) ((b.drop (64 * n)).take 64) := by
  have := blks_add mix n 1 s b [] h
  simpa [blks] using this

/-- A state behind bytes of which some fill no block: the whole blocks' state, and the rest. -/
structure Fed (σ : Type) where
  st : σ
  rest : List UInt8

/-- What stands at the end, if the mark and the length fit into the block that is begun. -/
theorem pad_one {σ : Type} (mix : σ → List UInt8 → σ) (n : Nat) (s : σ) (b : List UInt8) (h : 64 * n ≤ b.length) (h2 : b.length ≤ 64 * n + 55) :
    blks mix ((padS b).length / 64) s (padS b) = mix (blks mix n s b) (b.drop (64 * n) ++ 128 :: (zer (55 - (b.length - 64 * n)) ++ tail8 b.length)) := by
  have hg : gapZ b.length = 55 - (b.length - 64 * n) := by unfold gapZ; omega
  have hn : (padS b).length / 64 = n + 1 := by rw [padS_length, hg]; omega
  rw [hn, padS, blks_add mix n 1 s b _ h, hg]
  simp only [blks]
  rw [List.take_of_length_le]
  simp [zer_length, tail8_length]
  omega

/-- Otherwise there is a block more. -/
theorem pad_two {σ : Type} (mix : σ → List UInt8 → σ) (n : Nat) (s : σ) (b : List UInt8) (h : 64 * n + 56 ≤ b.length) (h2 : b.length ≤ 64 * n + 63) :
    blks mix ((padS b).length / 64) s (padS b) = mix (mix (blks mix n s b) (b.drop (64 * n) ++ 128 :: zer (63 - (b.length - 64 * n)))) (zer 56 ++ tail8 b.length) := by
  have hg : gapZ b.length = (63 - (b.length - 64 * n)) + 56 := by unfold gapZ; omega
  have hn : (padS b).length / 64 = n + 2 := by rw [padS_length, hg]; omega
  have hz : zer ((63 - (b.length - 64 * n)) + 56) = zer (63 - (b.length - 64 * n)) ++ zer 56 := by unfold zer; rw [List.replicate_append_replicate]
  rw [hn, padS, blks_add mix n 2 s b _ (by omega), hg, hz]
  have e : b.drop (64 * n) ++ 128 :: (zer (63 - (b.length - 64 * n)) ++ zer 56 ++ tail8 b.length) = (b.drop (64 * n) ++ 128 :: zer (63 - (b.length - 64 * n))) ++ (zer 56 ++ tail8 b.length) := by simp
  have hl : (b.drop (64 * n) ++ 128 :: zer (63 - (b.length - 64 * n))).length = 64 := by
    simp [zer_length]
    omega
  rw [e]
  simp only [blks]
  rw [List.take_append_of_le_length (by omega), List.take_of_length_le (by omega), List.drop_append_of_le_length (by omega), List.drop_of_length_le (l := b.drop (64 * n) ++ 128 :: zer (63 - (b.length - 64 * n))) (by omega), List.nil_append]
  rw [List.take_of_length_le]
  simp [zer_length, tail8_length]

end Go.Proofs.YtflgokbkkoobkaaDoor.Cd
