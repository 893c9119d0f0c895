/-
  fnv.More, fnv.Sum; the document's step and sum. Conditions: none.
-/
import Derived.Test.YtflgokbkkoobkaaDoorBase
import Derived.Test.YtflgokbkkoobkaaDoorFnvMath
import Derived.IntWalk
import Derived.Laws.BitsAllLaws
namespace Go.Proofs.YtflgokbkkoobkaaDoor.Cd
open Go.RowKit

theorem wrap_byte (c : UInt8) : IntKind.u64.wrap (c.toNat : Int) = (c.toNat : Int) := by
  have := c.toNat_lt
  rw [IntKind.wrap_u64]
  omega

theorem wrap_stp (m : Nat) (c : UInt8) : IntKind.u64.wrap (((m ^^^ c.toNat : Nat) : Int) * 1099511628211) = (stp m c : Nat) := by
  rw [IntKind.wrap_u64]
  unfold stp
  omega

set_option maxRecDepth 100000 in
set_option maxHeartbeats 800000 in
theorem more_any (s : Nat) (v : Value) (bs : List UInt8) (w : World) {B : Nat} (h : Sl w B v bs) (hs : s < 18446744073709551616) :
    Calls Tryd.prog 33 #[.int .u64 s, v] w fun e w' => e = .returned (.int .u64 (mor s bs : Nat)) ∧ w = w' := by
  have hat := fun h0 => h.at h0
  obtain ⟨A, c, rfl, h2, h3⟩ := h.len
  clear h
  have HAT := Lib.hid hat
  clear hat
  have hm2 : bs.length ≤ 9223372036854775807 := by unfold maxLen at h3; omega
  clear h3
  go_enter Tryd.func33, Tryd.ntmps33
  go_wp2
  go_loop [0, 8] (fun s1 i => ∃ k : Nat, k ≤ bs.length ∧ i = .int .i64 k ∧ s1 = .int .u64 (mor s (bs.take k) : Nat)) (fun _ i => bs.length - (intOf i).toNat)
  case atStart => exact ⟨0, Nat.zero_le _, rfl, rfl⟩
  case round =>
    obtain ⟨k, hk, rfl, rfl⟩ := hrel
    by_cases hlt : k < bs.length
    · obtain ⟨b, off, c', he, _, _, _, hc⟩ := HAT.out (by omega)
      have hcell := hc k hlt
      have hsn := mor_snoc s bs k hlt
      injection he with e1 _ e3
      subst e1 e3
      clear hc
      have hlt64 := mor_lt s (bs.take k) hs
      generalize hx : bs[k] = x at hcell hsn
      generalize hm : mor s (bs.take k) = m at hsn hlt64 ⊢
      have E1 := wrap_byte x
      have E2 := u64_xor_nat m x.toNat hlt64 (byte_lt64 x)
      have E3 := wrap_stp m x
      have HSN := Lib.hid hsn
      clear hx hm hsn
      go_wp2
      go_round
      case rel => exact ⟨k + 1, by omega, by go_num, by rw [HSN.out]⟩
      case measure => simp [intOf]; omega
    · have hkl : k = bs.length := by omega
      have htk : Hid (bs.take k = bs) := by unfold Hid; rw [hkl, List.take_of_length_le (Nat.le_refl _)]
      clear hkl
      go_wp2
      go_ret
      exact ⟨by rw [htk.out]; rfl, rfl⟩

/-- Pieces, one behind the other. -/
theorem mor_flat (s : Nat) (l : List (List UInt8)) (k : Nat) (h : k < l.length) : mor s (l.take (k + 1)).flatten = mor (mor s (l.take k).flatten) l[k] := by
  rw [List.take_succ_eq_append_getElem h, List.flatten_append, mor_append]
  simp

set_option maxRecDepth 100000 in
set_option maxHeartbeats 800000 in
theorem sum_any (v : Value) (l : List (List UInt8)) (w : World) {B : Nat} (h : Sls w B v l) :
    Calls Tryd.prog 20 #[v] w fun e w' => e = .returned (.int .u64 (mor fnv0 l.flatten : Nat)) ∧ w = w' := by
  obtain ⟨A, c, rfl, h2, h3, h4⟩ := h
  have HAT := Lib.hid h4
  clear h4
  have hm2 : l.length ≤ 9223372036854775807 := by unfold maxLen at h3; omega
  clear h3
  go_enter Tryd.func20, Tryd.ntmps20
  go_wp2
  go_loop [3, 8] (fun s1 i => ∃ k : Nat, k ≤ l.length ∧ i = .int .i64 k ∧ s1 = .int .u64 (mor fnv0 (l.take k).flatten : Nat)) (fun _ i => l.length - (intOf i).toNat)
  case atStart => exact ⟨0, Nat.zero_le _, rfl, rfl⟩
  case round =>
    obtain ⟨k, hk, rfl, rfl⟩ := hrel
    by_cases hlt : k < l.length
    · obtain ⟨b, off, rfl, _, hc⟩ := HAT.out (by omega)
      obtain ⟨u, hcell, hu⟩ := hc k hlt
      have hsn := mor_flat fnv0 l k hlt
      clear hc
      have hlt64 := mor_lt fnv0 (l.take k).flatten (by unfold fnv0; omega)
      generalize l[k] = x at hu hsn
      generalize mor fnv0 (l.take k).flatten = m at hsn hlt64 ⊢
      have HSN := Lib.hid hsn
      clear hsn
      go_wp2_with fail
      refine (more_any m u x w hu hlt64).mono ?_
      rintro e w' ⟨rfl, rfl⟩
      go_wp2
      go_round
      case rel => exact ⟨k + 1, by omega, by go_num, by rw [HSN.out]⟩
      case measure => simp [intOf]; omega
    · have hkl : k = l.length := by omega
      have htk : Hid (l.take k = l) := by unfold Hid; rw [hkl, List.take_of_length_le (Nat.le_refl _)]
      clear hkl
      go_wp2
      go_ret
      exact ⟨by rw [htk.out]; rfl, rfl⟩

end Go.Proofs.YtflgokbkkoobkaaDoor.Cd
