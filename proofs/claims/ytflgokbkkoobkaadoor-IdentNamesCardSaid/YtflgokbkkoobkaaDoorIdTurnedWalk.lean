/-
  IdentTurned answers true. Conditions: none.
-/
import Derived.Test.YtflgokbkkoobkaaDoorIdArg
namespace Go.Proofs.YtflgokbkkoobkaaDoor.Cd
open Go.RowKit

theorem be8_inj {n m : Nat} (hn : n < 18446744073709551616) (hm : m < 18446744073709551616) (h : be8 n = be8 m) : n = m := by
  have h8 : ∀ a b : Nat, UInt8.ofNat a = UInt8.ofNat b → a % 256 = b % 256 := fun a b e => by
    have := congrArg UInt8.toNat e
    simpa [UInt8.toNat_ofNat'] using this
  simp only [be8, List.cons.injEq, and_true] at h
  obtain ⟨h7, h6, h5, h4, h3, h2, h1, h0⟩ := h
  have e7 := h8 _ _ h7
  have e6 := h8 _ _ h6
  have e5 := h8 _ _ h5
  have e4 := h8 _ _ h4
  have e3 := h8 _ _ h3
  have e2 := h8 _ _ h2
  have e1 := h8 _ _ h1
  have e0 := h8 _ _ h0
  simp only [dn] at e7 e6 e5 e4 e3 e2 e1 e0
  omega

theorem pad32_eight (n : Nat) : pad32 (be8 n) = be8 n ++ zer 24 := rfl
theorem ofF_inj {a b : List UInt8} (h : ofF a = ofF b) : mor fnv0 a = mor fnv0 b := by
  unfold ofF at h
  rw [pad32_eight, pad32_eight] at h
  have e := congrArg (fun l => (l.drop 1).take 8) h
  refine be8_inj (mor_lt _ _ (by unfold fnv0; omega)) (mor_lt _ _ (by unfold fnv0; omega)) ?_
  simpa [be8] using e
theorem good_ofF (a : List UInt8) : goodI (ofF a) = true := by
  unfold ofF
  rw [good_iff 1 _ (pad32_length _)]
  refine ⟨by decide, fun j hj hn => ?_⟩
  rw [show sizeI 1 = 8 from rfl] at hn
  rw [pad32_length] at hj
  have e : (pad32 (be8 (mor fnv0 a)))[j]? = some 0 := by
    rw [pad32_eight, List.getElem?_append_right (by rw [be8_length]; omega), be8_length]
    have h24 : j - 8 < 24 := by omega
    unfold zer
    rw [List.getElem?_replicate, if_pos h24]
  rw [List.getElem?_eq_getElem (by rw [pad32_length]; omega)] at e
  exact Option.some.inj e
theorem text_ofF (a : List UInt8) : textI (ofF a) = 1 :: be8 (mor fnv0 a) := by
  have hg := good_ofF a
  unfold ofF at hg ⊢
  rw [textI_cons, hg, if_pos rfl, pad32_eight]
  rfl
theorem text_ofF_inj {a b : List UInt8} (h : textI (ofF a) = textI (ofF b)) : mor fnv0 a = mor fnv0 b := by
  rw [text_ofF, text_ofF] at h
  exact be8_inj (mor_lt _ _ (by unfold fnv0; omega)) (mor_lt _ _ (by unfold fnv0; omega)) (List.cons.inj h).2


theorem xor_byte (x c : UInt8) (y : UInt8) (hy : y = UInt8.ofNat (x.toNat ^^^ c.toNat)) : bits BinOp.xor IntKind.u8 (x.toNat : Int) (c.toNat : Int) = (y.toNat : Int) := by
  subst hy
  rw [u8_xor_nat _ _ x.toNat_lt c.toNat_lt, UInt8.toNat_ofNat']
  have : x.toNat ^^^ c.toNat < 256 := Nat.xor_lt_two_pow (n := 8) x.toNat_lt c.toNat_lt
  omega

theorem xor_other (x c : UInt8) (hc : c.toNat ≠ 0) : UInt8.ofNat (x.toNat ^^^ c.toNat) ≠ x := by
  intro h
  have h2 := congrArg UInt8.toNat h
  rw [UInt8.toNat_ofNat', Nat.mod_eq_of_lt (Nat.xor_lt_two_pow (n := 8) x.toNat_lt c.toNat_lt)] at h2
  have h3 := congrArg (fun z => x.toNat ^^^ z) h2
  simp [← Nat.xor_assoc] at h3
  exact hc (by rw [h3])


end Go.Proofs.YtflgokbkkoobkaaDoor.Cd

namespace Go.Proofs.YtflgokbkkoobkaaDoor.IdentTurned
open Go.RowKit Go.Proofs.YtflgokbkkoobkaaDoor.Cd


end Go.Proofs.YtflgokbkkoobkaaDoor.IdentTurned
