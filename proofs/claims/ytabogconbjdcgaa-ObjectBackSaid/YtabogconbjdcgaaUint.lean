/-
  code.Uint: a number's bytes behind bytes. Conditions: none.
-/
import Derived.Test.YtabogconbjdcgaaMem
import Derived.LoopTactic
import Derived.IntWalk
import Derived.Laws.BitsAllLaws
namespace Go.Proofs.Ytabogconbjdcgaa.Cd
open Go.RowKit

theorem hi_byte (n : Nat) (hn : n < 18446744073709551616) : bits BinOp.or IntKind.u64 (bits BinOp.and IntKind.u64 (n : Int) 127) 128 % 256 = ((hi8 n).toNat : Int) := by
  have h1 := u64_and_nat n 127 hn (by omega)
  have h2 : n &&& 127 = n % 128 := Nat.and_two_pow_sub_one_eq_mod n 7
  have h3 := u64_or_nat (n % 128) 128 (by omega) (by omega)
  have h4 : n % 128 ||| 128 = 128 + n % 128 := by
    have := Nat.two_pow_add_eq_or_of_lt (i := 7) (b := n % 128) (by omega) 1
    rw [Nat.or_comm]
    simpa using this.symm
  rw [h2] at h1
  rw [h4] at h3
  rw [show (127 : Int) = ((127 : Nat) : Int) from rfl, h1, show (128 : Int) = ((128 : Nat) : Int) from rfl, h3, hi8_nat]
  omega

/-- One new cell that is a byte. -/
theorem one_byte (w : World) (x : Int) (b : UInt8) (hx : x = (b.toNat : Int)) : ∀ j u, (vb [b])[j]? = some u → (w.alloc (.cells #[.int .u8 x] 5)).cell? (({ block := w.heap.size, off := 0 } : Addr).add j) = some u := by
  subst hx
  intro j u hu
  have hj := (List.getElem?_eq_some_iff.1 hu).1
  simp [vb] at hj
  subst hj
  simp [vb] at hu
  subst hu
  exact cell_one_new _ _ _ 0 _ rfl

set_option maxHeartbeats 400000 in
theorem uint_any (v : Value) (bs : List UInt8) (k : Nat) (w : World) (hs : Sl w w.heap.size v bs) (hk : k < 18446744073709551616) (hb : bs.length + 10 ≤ 140737488355328) :
    Calls Try.prog 60 #[v, .int .u64 k] w (Wrote w (bs ++ enc k)) := by
  have hl := enc_u64 k hk
  obtain ⟨A, c, rfl, h2, h3, h4, h5, h6⟩ := hs
  have H4 := Lib.hid h4
  have H6 := Lib.hid h6
  have H5 := Lib.hid h5
  clear h4 h6 h5
  go_enter Try.func60, Try.ntmps60
  go_wp2
  go_loopw [1, 5] (fun m o wr => ∃ (n : Nat) (ds : List UInt8), m = .int .u64 n ∧ n < 18446744073709551616 ∧ ds.length + (enc n).length ≤ 10 ∧ Hid (enc k = ds ++ enc n) ∧ Out wr w.heap.size o (bs ++ ds) ∧ Below w.heap.size w wr) (fun m _ _ => (intOf m).toNat)
  case atStart => exact ⟨k, [], rfl, hk, by simpa using hl, rfl, .inr ⟨A, by simp, fun hA => by have := H4.out hA; simpa using List.eq_nil_of_length_eq_zero (by omega : bs.length = 0), by simpa using H6.out⟩, Below.refl _ _⟩
  case round =>
    obtain ⟨n, ds, rfl, hn, hd, hh, ho, hbel⟩ := hrel
    have hB := hbel.size
    by_cases hc : 127 < n
    · have hx := hi_byte n hn
      have HX := Lib.hid hx
      have HE : Hid (enc n = hi8 n :: enc (n / 128)) := enc_hi (by omega)
      have HL : ds.length + 1 + (enc (n / 128)).length ≤ 10 := by have := HE.out; rw [this] at hd; simp at hd; omega
      clear hx
      go_wp2_with (at_builtin; refine wp_append_out rfl _ _ rfl w.heap.size _ (bs ++ ds) rfl ?ho ?hB ⟨wr.heap.size, 0, none⟩ 1 [hi8 n] rfl ?h1 ?hn ?hm ?hK)
      case ho => exact ho.alloc _
      case hB => simp; omega
      case h1 => simp
      case hn => exact one_byte _ _ _ HX.out
      case hm => simp; omega
      case hK =>
        intro v' w' hown hb'
        go_wp2
        go_roundw
        case rel =>
          refine ⟨n / 128, ds ++ [hi8 n], by go_num, by omega, by simp; omega, ?_, .inl (by simpa using hown), (hbel.alloc hB _).trans hb'⟩
          have := hh.out
          unfold Hid
          rw [this, HE.out]
          simp
        case measure => simp [intOf]; omega
    · have HX : Hid ((n : Int) % 256 = ((lo8 n).toNat : Int)) := by unfold Hid; rw [lo8_nat (by omega)]; omega
      have HE : Hid (enc n = [lo8 n]) := enc_lo (by omega)
      have HL : ds.length + 1 ≤ 10 := by have := HE.out; rw [this] at hd; simpa using hd
      go_wp2_with (at_builtin; refine wp_append_out rfl _ _ rfl w.heap.size _ (bs ++ ds) rfl ?ho ?hB ⟨wr.heap.size, 0, none⟩ 1 [lo8 n] rfl ?h1 ?hn ?hm ?hK)
      case ho => exact ho.alloc _
      case hB => simp; omega
      case h1 => simp
      case hn => exact one_byte _ _ _ (by have := HX.out; omega)
      case hm => simp; omega
      case hK =>
        intro v' w' hown hb'
        go_wp2
        go_ret
        refine ⟨v', rfl, ?_, (hbel.alloc hB _).trans hb'⟩
        have := hh.out
        rw [this, HE.out]
        simpa using hown

end Go.Proofs.Ytabogconbjdcgaa.Cd
