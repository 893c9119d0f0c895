/-
  frame.tail, the document's record. Conditions: none.
-/
import Derived.Test.YtcliknmcefcaeaaFrameSum
import Derived.Test.YtcliknmcefcaeaaRefWriters
namespace Go.Proofs.Ytcliknmcefcaeaa.Cd
open Go.RowKit

theorem le4_at (n k : Nat) (h : k < 4) : (le4 n).take (k + 1) = (le4 n).take k ++ [b8 (n / 256 ^ k)] := by
  rcases (by omega : k = 0 ∨ k = 1 ∨ k = 2 ∨ k = 3) with rfl | rfl | rfl | rfl <;> simp [le4]

/-- One new cell that is a byte. -/
theorem one_byte8 (w : World) (x : Int) (b : UInt8) (hx : x = (b.toNat : Int)) : Sl (w.alloc (.cells #[.int .u8 x] 5)) (w.heap.size + 1) (.slice (some ⟨w.heap.size, 0, none⟩) 1 1) [b] :=
  sl_new w [b] #[.int .u8 x] (by rw [hx]; rfl) (by simp [maxLen]) 1 rfl

set_option maxRecDepth 100000 in
set_option maxHeartbeats 1600000 in
theorem tail_any (v : Value) (bs : List UInt8) (w : World) {B : Nat} (h : Sl w B v bs) :
    Calls Try.prog 71 #[v] w (Wrote w (le4 (crc bs))) := by
  have H := Lib.hid h
  clear h
  go_enter Try.func71, Try.ntmps71
  go_wp2_with fail
  refine (fsum_any v bs w H.out).mono ?_
  rintro e w1 ⟨rfl, rfl⟩
  have hcl := crc_lt bs
  have HCL := Lib.hid hcl
  generalize crc bs = n at *
  clear hcl
  go_wp2
  go_loopw [3, 4, 7] (fun s o i wr => ∃ k : Nat, k ≤ 4 ∧ i = .int .i64 k ∧ s = .int .u32 (n / 256 ^ k : Nat) ∧ Own wr w.heap.size o ((le4 n).take k) ∧ Below w.heap.size w wr) (fun _ _ i _ => 4 - (intOf i).toNat)
  case atStart => exact ⟨0, Nat.zero_le _, rfl, by rw [Nat.pow_zero, Nat.div_one], World.ownsRow_nil _ _ _ _, Below.refl _ _⟩
  case round =>
    obtain ⟨k, hk, rfl, rfl, ho, hbel⟩ := hrel
    have hB := hbel.size
    by_cases hlt : k < 4
    · have hat := le4_at n k hlt
      have hlen : ((le4 n).take k).length = k := by rw [List.length_take, le4_len]; omega
      have hdn : n / 256 ^ (k + 1) = n / 256 ^ k / 256 := by rw [Nat.pow_succ, Nat.div_div_eq_div_mul]
      have hsm : n / 256 ^ k < 4294967296 := Nat.lt_of_le_of_lt (Nat.div_le_self _ _) HCL.out
      generalize n / 256 ^ (k + 1) = m2 at hdn
      have HDN : Hid (n / 256 ^ (k + 1) = n / 256 ^ k / 256) := by unfold Hid; rw [Nat.pow_succ, Nat.div_div_eq_div_mul]
      generalize n / 256 ^ k = m at *
      have HX : Hid ((m : Int) % 256 = ((b8 m).toNat : Int)) := by unfold Hid; rw [b8_nat]; omega
      have HAT := Lib.hid hat
      have HL := Lib.hid hlen
      clear hat hdn hlen
      go_wp2_with (at_builtin; refine wp_append_sl rfl _ _ rfl w.heap.size _ ((le4 n).take k) rfl ?ho ?hB _ (wr.heap.size + 1) [b8 m] rfl ?hn ?hm ?hK)
      case ho => exact ho.alloc _
      case hB => simp; omega
      case hn => exact one_byte8 _ _ _ (by have := HX.out; omega)
      case hm => rw [HL.out]; simp; omega
      case hK =>
        intro v' w' hown hb'
        go_wp2
        go_roundw
        case rel => exact ⟨k + 1, by omega, by go_num, by rw [HDN.out]; go_num, by rw [HAT.out]; exact hown, (hbel.alloc hB _).trans hb'⟩
        case measure => simp [intOf]; omega
    · have hk4 : k = 4 := by omega
      have htk : Hid ((le4 n).take k = le4 n) := by unfold Hid; rw [hk4]; rfl
      clear hk4
      go_wp2
      go_ret
      exact ⟨_, rfl, by rw [← htk.out]; exact ho, hbel⟩

end Go.Proofs.Ytcliknmcefcaeaa.Cd
