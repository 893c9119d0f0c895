/-
  Plain facts on FNV-1a of 64 bits: no Go in sight. Conditions: none.
-/
namespace Go.Proofs.YtflgokbkkoobkaaDoor.Cd

/-- A byte more. -/
def stp (s : Nat) (c : UInt8) : Nat := ((s ^^^ c.toNat) * 1099511628211) % 18446744073709551616
/-- Bytes more. -/
def mor (s : Nat) : List UInt8 → Nat
  | [] => s
  | c :: r => mor (stp s c) r
def fnv0 : Nat := 14695981039346656037

theorem stp_lt (s : Nat) (c : UInt8) : stp s c < 18446744073709551616 := Nat.mod_lt _ (by omega)
theorem mor_lt (s : Nat) (l : List UInt8) (h : s < 18446744073709551616) : mor s l < 18446744073709551616 := by
  induction l generalizing s with
  | nil => exact h
  | cons c r ih => exact ih _ (stp_lt s c)
theorem mor_append (s : Nat) (a b : List UInt8) : mor s (a ++ b) = mor (mor s a) b := by
  induction a generalizing s with
  | nil => rfl
  | cons c r ih => exact ih _
theorem mor_snoc (s : Nat) (l : List UInt8) (k : Nat) (h : k < l.length) : mor s (l.take (k + 1)) = stp (mor s (l.take k)) l[k] := by
  rw [List.take_succ_eq_append_getElem h, mor_append]
  rfl

theorem byte_lt64 (c : UInt8) : c.toNat < 18446744073709551616 := by have := c.toNat_lt; omega

/-- The prime has an inverse: what is taken in can be taken back. -/
theorem undo (x : Nat) (h : x < 18446744073709551616) : (x * 1099511628211 % 18446744073709551616) * 14886173955864302971 % 18446744073709551616 = x := by
  rw [Nat.mul_mod, Nat.mod_mod, ← Nat.mul_mod, Nat.mul_assoc, Nat.mul_mod, show 1099511628211 * 14886173955864302971 % 18446744073709551616 = 1 by decide, Nat.mul_one, Nat.mod_mod]
  exact Nat.mod_eq_of_lt h

theorem xor_lt64 {s c : Nat} (h : s < 18446744073709551616) (hc : c < 18446744073709551616) : s ^^^ c < 18446744073709551616 := Nat.xor_lt_two_pow (n := 64) h hc

theorem stp_parts {x y : Nat} {c d : UInt8} (hx : x < 18446744073709551616) (hy : y < 18446744073709551616) (h : stp x c = stp y d) : x ^^^ c.toNat = y ^^^ d.toNat := by
  have e := congrArg (fun z => z * 14886173955864302971 % 18446744073709551616) h
  simp only [stp] at e
  rwa [undo _ (xor_lt64 hx (byte_lt64 c)), undo _ (xor_lt64 hy (byte_lt64 d))] at e

theorem stp_sum {x y : Nat} {c : UInt8} (hx : x < 18446744073709551616) (hy : y < 18446744073709551616) (h : stp x c = stp y c) : x = y := by
  have e := stp_parts hx hy h
  have e2 := congrArg (fun z => z ^^^ c.toNat) e
  simpa [Nat.xor_assoc] using e2

theorem stp_byte {x : Nat} {c d : UInt8} (hx : x < 18446744073709551616) (h : stp x c = stp x d) : c = d := by
  have e := stp_parts hx hx h
  have e2 := congrArg (fun z => x ^^^ z) e
  simp [← Nat.xor_assoc] at e2
  exact UInt8.toNat_inj.1 e2

theorem mor_parts {x y : Nat} (l : List UInt8) (hx : x < 18446744073709551616) (hy : y < 18446744073709551616) : mor x l = mor y l ↔ x = y := by
  induction l generalizing x y with
  | nil => exact Iff.rfl
  | cons c r ih =>
    rw [mor, mor, ih (stp_lt x c) (stp_lt y c)]
    exact ⟨stp_sum hx hy, fun h => by rw [h]⟩

/-- One byte turned: another sum. -/
theorem mor_turned (s : Nat) (hs : s < 18446744073709551616) (l : List UInt8) (k : Nat) (hk : k < l.length) (d : UInt8) (hd : d ≠ l[k]) : mor s (l.set k d) ≠ mor s l := by
  have e : l = l.take k ++ l[k] :: l.drop (k + 1) := by rw [List.getElem_cons_drop, List.take_append_drop]
  have e2 : l.set k d = l.take k ++ d :: l.drop (k + 1) := by
    rw [List.set_eq_take_append_cons_drop, if_pos hk]
  rw [e2]
  intro h
  have h2 : mor s (l.take k ++ d :: l.drop (k + 1)) = mor s (l.take k ++ l[k] :: l.drop (k + 1)) := by
    rw [h]
    exact congrArg (mor s) e
  rw [mor_append, mor_append] at h2
  simp only [mor] at h2
  have h3 := (mor_parts _ (stp_lt _ _) (stp_lt _ _)).1 h2
  exact hd (stp_byte (mor_lt s _ hs) h3)

/-- As the document's answer has a step: the lowest byte alone is turned, and the product is made of parts. -/
theorem xor_low (s : Nat) (c : UInt8) : s - s % 256 + ((s % 256) ^^^ c.toNat) = s ^^^ c.toNat := by
  have hc := c.toNat_lt
  generalize c.toNat = x at hc
  have h1 : (s % 256) ^^^ x < 256 := Nat.xor_lt_two_pow (n := 8) (Nat.mod_lt _ (by omega)) hc
  have h2 : s - s % 256 = 256 * (s / 256) := by omega
  have h3 : (s ^^^ x) / 256 = s / 256 := by
    have := Nat.xor_div_two_pow (a := s) (b := x) (n := 8)
    rw [show (2 : Nat) ^ 8 = 256 from rfl] at this
    rw [this, Nat.div_eq_of_lt hc, Nat.xor_zero]
  have h4 : (s ^^^ x) % 256 = (s % 256) ^^^ x := by
    have := Nat.xor_mod_two_pow (a := s) (b := x) (n := 8)
    rw [show (2 : Nat) ^ 8 = 256 from rfl] at this
    rw [this, Nat.mod_eq_of_lt hc]
  omega

/-- A number that bytes are cut off. -/
def dn (n : Nat) : Nat → Nat
  | 0 => n
  | j + 1 => dn n j / 256
theorem dn_lt (n j : Nat) (h : n < 18446744073709551616) : dn n j < 18446744073709551616 := by
  induction j with
  | zero => exact h
  | succ j ih => simp only [dn]; omega
/-- A number's eight bytes, the highest first. -/
def be8 (n : Nat) : List UInt8 := [UInt8.ofNat (dn n 7), UInt8.ofNat (dn n 6), UInt8.ofNat (dn n 5), UInt8.ofNat (dn n 4), UInt8.ofNat (dn n 3), UInt8.ofNat (dn n 2), UInt8.ofNat (dn n 1), UInt8.ofNat (dn n 0)]

end Go.Proofs.YtflgokbkkoobkaaDoor.Cd
