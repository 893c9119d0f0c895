/-
  Slices of ints and of bools as arguments: how they read. Conditions: none.
-/
import Derived.Test.YtkbmajgbhpecgaaGreatDoorG1
import Derived.Test.YtkbmajgbhpecgaaGreatDoorG6
import Derived.IntWalk
import Derived.Laws.BitsAllLaws
import Derived.Deep.OwnRows
import Derived.Deep.RegionHeld3
import Derived.Deep.DrawnRows
import Derived.ChangeSlices
import Derived.Deep.Grids
/-
  frame.Sum: the check of bytes. Conditions: none.
-/
namespace Go.Proofs.YtkbmajgbhpecgaaGreatDoor.Cd
open Go.RowKit

theorem ret_u32 {a b : Int} (h : a = b) : Ending.returned (.int .u32 a) = .returned (.int .u32 b) := by rw [h]

theorem wrap_byte32 (c : UInt8) : IntKind.u32.wrap (c.toNat : Int) = (c.toNat : Int) := by
  have := c.toNat_lt
  rw [IntKind.wrap_u32']
  omega

theorem and_one32 (s : Nat) (h : s < 4294967296) : bits BinOp.and IntKind.u32 (s : Int) 1 = ((s % 2 : Nat) : Int) := by
  have := u32_and_nat s 1 h (by omega)
  rw [nat_mask1] at this
  exact this

theorem bit1_xor (s : Nat) (h : s < 4294967296) (hs : s % 2 = 1) : bits BinOp.xor IntKind.u32 ((s : Int) / 2) 2197175160 = (bit1 s : Nat) := by
  have h2 := u32_xor_nat (s / 2) 2197175160 (by omega) (by omega)
  unfold bit1 fell
  rw [if_pos hs, ← h2]
  rfl
theorem bit1_none (s : Nat) (h : s < 4294967296) (hs : s % 2 = 0) : bits BinOp.xor IntKind.u32 ((s : Int) / 2) 0 = (bit1 s : Nat) := by
  have h2 := u32_xor_nat (s / 2) 0 (by omega) (by omega)
  unfold bit1 fell
  rw [if_neg (by omega), ← h2]
  rfl
theorem poly_all : bits BinOp.and IntKind.u32 2197175160 4294967295 = 2197175160 := by
  have := u32_and_nat 2197175160 4294967295 (by omega) (by omega)
  exact this.trans (by decide)
theorem poly_none : bits BinOp.and IntKind.u32 2197175160 0 = 0 := by
  have := u32_and_nat 2197175160 0 (by omega) (by omega)
  exact this.trans (by decide)

theorem xor_ones (s : Nat) (h : s < 4294967296) : 4294967295 ^^^ s = 4294967295 - s := by
  have e := congrArg BitVec.toNat (BitVec.allOnes_xor (x := BitVec.ofNat 32 s))
  rw [BitVec.toNat_xor, BitVec.toNat_not, BitVec.toNat_allOnes, BitVec.toNat_ofNat, Nat.mod_eq_of_lt (by omega)] at e
  exact e
theorem not32 (s : Nat) (h : s < 4294967296) : bits BinOp.xor IntKind.u32 IntKind.u32.max (s : Int) = ((4294967295 - s : Nat) : Int) := by
  rw [← xor_ones s h]
  exact u32_xor_nat 4294967295 s (by omega) h

set_option maxRecDepth 100000 in
set_option maxHeartbeats 1600000 in
theorem fsum_any (v : Value) (bs : List UInt8) (w : World) {B : Nat} (h : Sl w B v bs) :
    Calls Tryz.prog 114 #[v] w fun e w' => e = .returned (.int .u32 (crc bs : Nat)) ∧ w = w' := by
  have hat := fun h0 => h.at h0
  obtain ⟨A, c, rfl, h2, h3⟩ := h.len
  clear h
  have HAT := Lib.hid hat
  clear hat
  have hm2 : bs.length ≤ 9223372036854775807 := by unfold maxLen at h3; omega
  clear h3
  go_enter Tryz.func114, Tryz.ntmps114
  go_wp2
  go_loop [3, 9] (fun s1 i => ∃ k : Nat, k ≤ bs.length ∧ i = .int .i64 k ∧ s1 = .int .u32 (crcOn 4294967295 (bs.take k) : Nat)) (fun _ i => bs.length - (intOf i).toNat)
  case atStart => exact ⟨0, Nat.zero_le _, rfl, rfl⟩
  case round =>
    obtain ⟨k, hk, rfl, rfl⟩ := hrel
    by_cases hlt : k < bs.length
    · obtain ⟨b, off, c', he, _, _, _, hc⟩ := HAT.out (by omega)
      have hcell := hc k hlt
      have hsn := crcOn_snoc 4294967295 bs k hlt
      injection he with e1 _ e3
      subst e1 e3
      clear hc
      have hlt32 := crcOn_lt (s := 4294967295) (by omega) (bs.take k)
      generalize hx : bs[k] = x at hcell hsn
      generalize hm : crcOn 4294967295 (bs.take k) = m at hsn hlt32 ⊢
      have E1 := wrap_byte32 x
      have E2 := u32_xor_nat m x.toNat hlt32 (by have := x.toNat_lt; omega)
      have HX := Lib.hid (xor_byte_lt hlt32 x)
      have HSN := Lib.hid hsn
      clear hx hm hsn hlt32
      go_wp2
      go_loop [3, 17] (fun s1 i => ∃ j : Nat, j ≤ 8 ∧ i = .int .i64 j ∧ s1 = .int .u32 (bitsN j (m ^^^ x.toNat) : Nat)) (fun _ i => 8 - (intOf i).toNat)
      case atStart => exact ⟨0, Nat.zero_le _, rfl, rfl⟩
      case round =>
        obtain ⟨j, hj, rfl, rfl⟩ := hrel
        by_cases hjl : j < 8
        · have hl := bitsN_lt HX.out j
          have hnx : Hid (bitsN (j + 1) (m ^^^ x.toNat) = bit1 (bitsN j (m ^^^ x.toNat))) := rfl
          generalize bitsN j (m ^^^ x.toNat) = s at hl hnx ⊢
          have F1 := and_one32 s hl
          rcases (by omega : s % 2 = 0 ∨ s % 2 = 1) with h0 | h0
          · have F2 := bit1_none s hl h0
            have F3 := poly_none
            rw [h0] at F1
            clear h0
            go_wp2
            go_round
            case rel => exact ⟨j + 1, by omega, by go_num, by rw [hnx.out]⟩
            case measure => simp [intOf]; omega
          · have F2 := bit1_xor s hl h0
            have F3 := poly_all
            rw [h0] at F1
            clear h0
            go_wp2
            go_round
            case rel => exact ⟨j + 1, by omega, by go_num, by rw [hnx.out]⟩
            case measure => simp [intOf]; omega
        · have hj8 : j = 8 := by omega
          have hcb : Hid (bitsN j (m ^^^ x.toNat) = crcB m x) := by unfold Hid; rw [hj8]; rfl
          clear hj8
          go_wp2
          go_round
          case rel => exact ⟨k + 1, by omega, by go_num, by rw [HSN.out, hcb.out]⟩
          case measure => simp [intOf]; omega
    · have hkl : k = bs.length := by omega
      have htk : Hid (bs.take k = bs) := by unfold Hid; rw [hkl, List.take_of_length_le (Nat.le_refl _)]
      have hl := crcOn_lt (s := 4294967295) (by omega) (bs.take k)
      clear hkl
      go_wp2
      go_ret
      refine ⟨ret_u32 ?_, rfl⟩
      rw [htk.out] at hl ⊢
      exact not32 _ hl

end Go.Proofs.YtkbmajgbhpecgaaGreatDoor.Cd

/-
  The document's check: bit by bit. Conditions: none.
-/
namespace Go.Proofs.YtkbmajgbhpecgaaGreatDoor.Cd
open Go.RowKit

/-- The bit of a byte that stands at k. -/
theorem bit_at (n k : Nat) : (((n : Int) / 2 ^ k).tmod 2 == 1) = decide (n / 2 ^ k % 2 = 1) := by
  have e : ((n : Int) / 2 ^ k) = ((n / 2 ^ k : Nat) : Int) := by rw [Int.natCast_ediv, Int.natCast_pow]; rfl
  rw [e]
  generalize n / 2 ^ k = b
  rw [Int.tmod_eq_emod_of_nonneg (by omega), Bool.eq_iff_iff]
  simp
  omega

theorem half_xor (s : Nat) (h : s < 4294967296) : bits BinOp.xor IntKind.u32 ((s : Int) / 2) 2197175160 = ((s / 2 ^^^ 2197175160 : Nat) : Int) := by
  have h2 := u32_xor_nat (s / 2) 2197175160 (by omega) (by omega)
  rw [← h2]
  rfl

theorem ref_same {s b : Nat} (h : (s % 2 = 1) ↔ (b % 2 = 1)) : (s / 2) ^^^ fell (s ^^^ b) = s / 2 := by rw [odd_xor, if_pos h, Nat.xor_zero]
theorem ref_other {s b : Nat} (h : ¬ ((s % 2 = 1) ↔ (b % 2 = 1))) : (s / 2) ^^^ fell (s ^^^ b) = s / 2 ^^^ 2197175160 := by rw [odd_xor, if_neg h]

set_option maxRecDepth 100000 in
set_option maxHeartbeats 1600000 in
theorem rsum_any (bs : List UInt8) (w : World) (hb : bs.length ≤ 140737488355328) :
    Calls Tryz.prog 45 #[.string ⟨bs.toArray⟩] w fun e w' => e = .returned (.int .u32 (crc bs : Nat)) ∧ w = w' := by
  have hsz : (ByteArray.mk bs.toArray).size = bs.length := rfl
  go_enter Tryz.func45, Tryz.ntmps45
  go_wp2
  go_loop [3, 4] (fun s1 i => ∃ k : Nat, k ≤ bs.length ∧ i = .int .i64 k ∧ s1 = .int .u32 (crcOn 4294967295 (bs.take k) : Nat)) (fun _ i => bs.length - (intOf i).toNat)
  case atStart => exact ⟨0, Nat.zero_le _, rfl, rfl⟩
  case round =>
    obtain ⟨k, hk, rfl, rfl⟩ := hrel
    by_cases hlt : k < bs.length
    · have hsn := crcOn_snoc 4294967295 bs k hlt
      have hlt32 := crcOn_lt (s := 4294967295) (by omega) (bs.take k)
      obtain ⟨x, hx⟩ : ∃ x, (ByteArray.mk bs.toArray)[k]'hlt = x := ⟨_, rfl⟩
      have hx2 : bs[k] = x := hx
      rw [hx2] at hsn
      generalize crcOn 4294967295 (bs.take k) = m at hsn hlt32 ⊢
      have HL := Lib.hid hlt32
      have HSN := Lib.hid hsn
      have hx8 := x.toNat_lt
      clear hx2 hsn hlt32
      go_wp2
      go_loop [3, 5] (fun s1 i => ∃ j : Nat, j ≤ 8 ∧ i = .int .i64 j ∧ s1 = .int .u32 (refN m x.toNat j : Nat)) (fun _ i => 8 - (intOf i).toNat)
      case atStart => exact ⟨0, Nat.zero_le _, rfl, rfl⟩
      case round =>
        obtain ⟨j, hj, rfl, rfl⟩ := hrel
        by_cases hjl : j < 8
        · have hl := refN_lt HL.out x.toNat j
          have hnx : refN m x.toNat (j + 1) = (refN m x.toNat j / 2) ^^^ fell (refN m x.toNat j ^^^ (x.toNat / 2 ^ j)) := rfl
          generalize refN m x.toNat j = s at hl hnx ⊢
          have F1 := bit_at x.toNat j
          generalize x.toNat / 2 ^ j = b at F1 hnx
          have F2 := half_xor s hl
          by_cases hq : (s % 2 = 1) ↔ (b % 2 = 1)
          · rw [ref_same hq] at hnx
            have HNX := Lib.hid hnx
            clear hnx
            rcases (by omega : s % 2 = 0 ∨ s % 2 = 1) with h0 | h0
            · have q1 : ((s : Int) % 2 == 1) = false := by simp; omega
              have q2 : decide (b % 2 = 1) = false := by simp; omega
              rw [q2] at F1
              clear hq h0 q2
              go_wp2
              go_round
              case rel => exact ⟨j + 1, by omega, by go_num, by rw [HNX.out]; go_num⟩
              case measure => simp [intOf]; omega
            · have q1 : ((s : Int) % 2 == 1) = true := by simp; omega
              have q2 : decide (b % 2 = 1) = true := by simp; omega
              rw [q2] at F1
              clear hq h0 q2
              go_wp2
              go_round
              case rel => exact ⟨j + 1, by omega, by go_num, by rw [HNX.out]; go_num⟩
              case measure => simp [intOf]; omega
          · rw [ref_other hq] at hnx
            have HNX := Lib.hid hnx
            clear hnx
            rcases (by omega : s % 2 = 0 ∨ s % 2 = 1) with h0 | h0
            · have q1 : ((s : Int) % 2 == 1) = false := by simp; omega
              have q2 : decide (b % 2 = 1) = true := by simp; omega
              rw [q2] at F1
              clear hq h0 q2
              go_wp2
              go_round
              case rel => exact ⟨j + 1, by omega, by go_num, by rw [HNX.out]⟩
              case measure => simp [intOf]; omega
            · have q1 : ((s : Int) % 2 == 1) = true := by simp; omega
              have q2 : decide (b % 2 = 1) = false := by simp; omega
              rw [q2] at F1
              clear hq h0 q2
              go_wp2
              go_round
              case rel => exact ⟨j + 1, by omega, by go_num, by rw [HNX.out]⟩
              case measure => simp [intOf]; omega
        · have hj8 : j = 8 := by omega
          have hcb : Hid (refN m x.toNat j = crcB m x) := by unfold Hid; rw [hj8, crcB_ref]
          clear hj8
          go_wp2
          go_round
          case rel => exact ⟨k + 1, by omega, by go_num, by rw [HSN.out, hcb.out]⟩
          case measure => simp [intOf]; omega
    · have hkl : k = bs.length := by omega
      have htk : Hid (bs.take k = bs) := by unfold Hid; rw [hkl, List.take_of_length_le (Nat.le_refl _)]
      have hl := crcOn_lt (s := 4294967295) (by omega) (bs.take k)
      clear hkl
      go_wp2
      go_ret
      refine ⟨ret_u32 ?_, rfl⟩
      rw [htk.out] at hl ⊢
      unfold crc
      omega

end Go.Proofs.YtkbmajgbhpecgaaGreatDoor.Cd

/-
  frame.tail, the document's record. Conditions: none.
-/
namespace Go.Proofs.YtkbmajgbhpecgaaGreatDoor.Cd
open Go.RowKit

theorem le4_at (n k : Nat) (h : k < 4) : (le4 n).take (k + 1) = (le4 n).take k ++ [b8 (n / 256 ^ k)] := by
  rcases (by omega : k = 0 ∨ k = 1 ∨ k = 2 ∨ k = 3) with rfl | rfl | rfl | rfl <;> simp [le4]

/-- One new cell that is a byte. -/
theorem one_byte8 (w : World) (x : Int) (b : UInt8) (hx : x = (b.toNat : Int)) : Sl (w.alloc (.cells #[.int .u8 x] 5)) (w.heap.size + 1) (.slice (some ⟨w.heap.size, 0, none⟩) 1 1) [b] :=
  sl_new w [b] #[.int .u8 x] (by rw [hx]; rfl) (by simp [maxLen]) 1 rfl

set_option maxRecDepth 100000 in
set_option maxHeartbeats 1600000 in
theorem tail_any (v : Value) (bs : List UInt8) (w : World) {B : Nat} (h : Sl w B v bs) :
    Calls Tryz.prog 86 #[v] w (Wrote w (le4 (crc bs))) := by
  have H := Lib.hid h
  clear h
  go_enter Tryz.func86, Tryz.ntmps86
  go_wp2_with fail
  refine (fsum_any v bs w H.out).mono ?_
  rintro e w1 ⟨rfl, rfl⟩
  have hcl := crc_lt bs
  have HCL := Lib.hid hcl
  generalize crc bs = n at *
  clear hcl
  go_wp2
  go_loopw [3, 4, 7] (fun s o i wr => ∃ k : Nat, k ≤ 4 ∧ i = .int .i64 k ∧ s = .int .u32 (n / 256 ^ k : Nat) ∧ Own wr w.heap.size o ((le4 n).take k) ∧ Below w.heap.size w wr) (fun _ _ i _ => 4 - (intOf i).toNat)
  case atStart => exact ⟨0, Nat.zero_le _, rfl, by rw [Nat.pow_zero, Nat.div_one], World.ownsRow_nil _ _ _ _, Below.refl _ _⟩
  case round =>
    obtain ⟨k, hk, rfl, rfl, ho, hbel⟩ := hrel
    have hB := hbel.size
    by_cases hlt : k < 4
    · have hat := le4_at n k hlt
      have hlen : ((le4 n).take k).length = k := by rw [List.length_take, le4_len]; omega
      have hdn : n / 256 ^ (k + 1) = n / 256 ^ k / 256 := by rw [Nat.pow_succ, Nat.div_div_eq_div_mul]
      have hsm : n / 256 ^ k < 4294967296 := Nat.lt_of_le_of_lt (Nat.div_le_self _ _) HCL.out
      generalize n / 256 ^ (k + 1) = m2 at hdn
      have HDN : Hid (n / 256 ^ (k + 1) = n / 256 ^ k / 256) := by unfold Hid; rw [Nat.pow_succ, Nat.div_div_eq_div_mul]
      generalize n / 256 ^ k = m at *
      have HX : Hid ((m : Int) % 256 = ((b8 m).toNat : Int)) := by unfold Hid; rw [b8_nat]; omega
      have HAT := Lib.hid hat
      have HL := Lib.hid hlen
      clear hat hdn hlen
      go_wp2_with (at_builtin; refine wp_append_sl rfl _ _ rfl w.heap.size _ ((le4 n).take k) rfl ?ho ?hB _ (wr.heap.size + 1) [b8 m] rfl ?hn ?hm ?hK)
      case ho => exact ho.alloc _
      case hB => simp; omega
      case hn => exact one_byte8 _ _ _ (by have := HX.out; omega)
      case hm => rw [HL.out]; simp; omega
      case hK =>
        intro v' w' hown hb'
        go_wp2
        go_roundw
        case rel => exact ⟨k + 1, by omega, by go_num, by rw [HDN.out]; go_num, by rw [HAT.out]; exact hown, (hbel.alloc hB _).trans hb'⟩
        case measure => simp [intOf]; omega
    · have hk4 : k = 4 := by omega
      have htk : Hid ((le4 n).take k = le4 n) := by unfold Hid; rw [hk4]; rfl
      clear hk4
      go_wp2
      go_ret
      exact ⟨_, rfl, by rw [← htk.out]; exact ho, hbel⟩

end Go.Proofs.YtkbmajgbhpecgaaGreatDoor.Cd

/-
  frame.Put, and the document's record. Conditions: none.
-/
namespace Go.Proofs.YtkbmajgbhpecgaaGreatDoor.Cd
open Go.RowKit

theorem text_of (v : Value) (bs s : List UInt8) (w : World) (hs : Sl w w.heap.size v bs) (hb : bs.length + 10 + s.length ≤ 140737488355328) :
    Calls Tryz.prog 59 #[v, .string ⟨s.toArray⟩] w (Wrote w (bs ++ (enc s.length ++ s))) := text_any v bs ⟨s.toArray⟩ w hs hb

theorem ref_text_of (s : List UInt8) (w : World) (hb : s.length ≤ 140737488355328) :
    Calls Tryz.prog 44 #[.string ⟨s.toArray⟩] w (Said w (enc s.length ++ s)) := ref_text_any ⟨s.toArray⟩ w hb

theorem le4_text (W : World) (n : Nat) (hn : n < 4294967296) :
    (convert 49 9 (.slice (some ⟨W.heap.size, 0, none⟩) 4 4)).run Tryz.prog (W.alloc (.cells #[.int .u8 ((n : Int) % 256), .int .u8 ((n : Int) / 256 % 256), .int .u8 ((n : Int) / 65536 % 256), .int .u8 ((n : Int) / 16777216)] 5))
      = .ok (.string ⟨(le4 n).toArray⟩) (W.alloc (.cells #[.int .u8 ((n : Int) % 256), .int .u8 ((n : Int) / 256 % 256), .int .u8 ((n : Int) / 65536 % 256), .int .u8 ((n : Int) / 16777216)] 5)) := by
  refine run_text_of _ (W.heap.size + 1) _ (le4 n) (sl_new W (le4 n) _ ?_ (by simp [maxLen, le4_len]) 4 rfl)
  simp only [le4, vb, List.map_cons, List.map_nil, b8_nat]
  rw [Nat.mod_eq_of_lt (by omega : n / 16777216 < 256)]
  simp

set_option maxRecDepth 100000 in
set_option maxHeartbeats 800000 in
theorem rframe_any (s : List UInt8) (w : World) (hb : s.length + 10 ≤ 140737488355328) :
    Calls Tryz.prog 23 #[.string ⟨s.toArray⟩] w (Said w (frm s)) := by
  have hl := enc_u64 s.length (by omega)
  obtain ⟨t, ht⟩ : ∃ t, enc s.length ++ s = t := ⟨_, rfl⟩
  have htl : t.length ≤ 140737488355328 := by rw [← ht, List.length_append]; omega
  have HF : Hid (frm s = t ++ le4 (crc t)) := by unfold Hid frm; rw [ht]
  have hadd := fun W => add_text W t (le4 (crc t)) (by rw [le4_len]; omega)
  have hcl := crc_lt t
  have hcv := fun W => le4_text W (crc t) hcl
  have HT := Lib.hid ht
  clear ht hl
  go_enter Tryz.func23, Tryz.ntmps23
  go_wp2_with fail
  refine (ref_text_of s w (by omega)).mono ?_
  rintro e w1 ⟨rfl, hb1⟩
  rw [HT.out]
  go_wp2_with fail
  refine (rsum_any t w1 htl).mono ?_
  rintro e w2 ⟨rfl, rfl⟩
  generalize crc t = n at *
  go_wp2_with fail
  go_ret
  exact ⟨by rw [HF.out]; rfl, hb1.alloc hb1.size _⟩

/-- A slice's rest. -/
theorem sl_drop {w : World} {B : Nat} {g off L cap : Nat} {bs : List UInt8} (h : Sl w B (.slice (some ⟨g, off, none⟩) L cap) bs) (k : Nat) (hk : k ≤ bs.length) (a : Nat) (ha : 0 < bs.length - k → a = off + k) (hB : g < B) :
    Sl w B (.slice (some ⟨g, a, none⟩) (L - k) (cap - k)) (bs.drop k) := by
  obtain ⟨A, c, e, h2, h3, h4, h5, h6⟩ := h
  injection e with e1 e2 e3
  subst e1 e2 e3
  refine ⟨some ⟨g, a, none⟩, cap - k, by rw [List.length_drop], by rw [List.length_drop]; omega, by omega, (fun hn => by cases hn), fun ad e h0 => ?_, fun ad e j u hu => ?_⟩
  · injection e with e
    subst e
    exact hB
  · have hj := (List.getElem?_eq_some_iff.1 hu).1
    rw [vb_length, List.length_drop] at hj
    have hu2 : (vb bs)[k + j]? = some u := by
      rw [← hu]
      simp only [vb, List.map_drop, List.getElem?_drop]
    have h7 := h6 _ rfl (k + j) u hu2
    injection e with e
    subst e
    rw [Addr.add_lit] at h7 ⊢
    rw [ha (by omega), Nat.add_assoc]
    exact h7

set_option maxRecDepth 100000 in
set_option maxHeartbeats 800000 in
theorem put_any (v : Value) (bs s : List UInt8) (w : World) (hs : Sl w w.heap.size v bs) (hb : bs.length + s.length + 14 ≤ 140737488355328) :
    Calls Tryz.prog 60 #[v, .string ⟨s.toArray⟩] w (Wrote w (bs ++ frm s)) := by
  have hl := enc_u64 s.length (by omega)
  have hp := enc_pos s.length
  obtain ⟨c, hc⟩ : ∃ c, bs ++ (enc s.length ++ s) = c := ⟨_, rfl⟩
  have hcl : bs.length + 1 ≤ c.length ∧ c.length ≤ bs.length + 10 + s.length := by rw [← hc, List.length_append, List.length_append]; omega
  have hcd : Hid (c.drop bs.length = enc s.length ++ s) := by unfold Hid; rw [← hc, List.drop_left]
  have HC := Lib.hid hc
  clear hc hl hp
  have HS := Lib.hid hs
  obtain ⟨A, k, rfl, h2, h3⟩ := hs.len
  have h3 : k ≤ 9223372036854775807 := h3
  clear hs
  go_enter Tryz.func60, Tryz.ntmps60
  go_wp2_with fail
  refine (text_of _ bs s w HS.out (by omega)).mono ?_
  rintro e w1 ⟨v1, rfl, ho1, hb1⟩
  rw [HC.out] at ho1
  obtain ⟨g, cap, cur, rfl, hg1, hg2, hg3, hg4, hg5, hg6⟩ := own_block ho1 (by omega)
  have hg5 : cap ≤ 9223372036854775807 := hg5
  have HO := Lib.hid ho1
  clear ho1 hg6 hg3
  go_wp2_with fail
  refine (tail_any _ (enc s.length ++ s) w1 (by have := sl_drop HO.out.sl bs.length (by omega) bs.length (fun _ => by omega) hg2; rw [hcd.out] at this; exact this)).mono ?_
  rintro e w2 ⟨v2, rfl, ho2, hb2⟩
  have hs1 := hb1.size
  have hs2 := hb2.size
  go_wp2_with (at_builtin; refine wp_append_sl rfl _ _ rfl w.heap.size _ c rfl ?ho ?hB _ w2.heap.size (le4 (crc (enc s.length ++ s))) rfl ?hn ?hm ?hK)
  case ho => exact HO.out.keep hb2
  case hB => omega
  case hn => exact ho2.sl
  case hm => rw [le4_len]; omega
  case hK =>
    intro v3 w3 ho3 hb3
    go_wp2_with fail
    go_ret
    refine ⟨v3, rfl, ?_, (hb1.trans (hb2.mono hs1)).trans hb3⟩
    have e : bs ++ frm s = c ++ le4 (crc (enc s.length ++ s)) := by rw [← HC.out]; simp [frm]
    rw [e]
    exact ho3

end Go.Proofs.YtkbmajgbhpecgaaGreatDoor.Cd

/-
  Noughts: make([]byte, n), and the text of it. Conditions: none.
-/
namespace Go.Proofs.YtkbmajgbhpecgaaGreatDoor.Cd
open Go.RowKit

def noughts (n : Nat) : List UInt8 := List.replicate n 0
theorem noughts_len (n : Nat) : (noughts n).length = n := List.length_replicate
theorem made_noughts (n : Nat) : madeCells #[.int .u8 0] n = (vb (noughts n)).toArray := by
  apply Array.ext'
  simp [madeCells, noughts, vb, List.map_replicate, Nat.mod_one, List.map_const']

theorem make_bytes (n : Nat) (h : n ≤ 140737488355328) (W : World) :
    (Instr.makeSlice 49 (.int .i64 (n : Int)) (.int .i64 (n : Int))).run Tryz.prog W = .ok (.slice (some ⟨W.heap.size, 0, none⟩) n n) (W.alloc (.cells (vb (noughts n)).toArray 5)) := by
  rw [run_make_row' 49 5 (.int .u8 0) 1 Tryz.underlying49 info5 rfl .i64 .i64 n (by omega) (by omega) W, made_noughts]
theorem sl_noughts (W : World) (n : Nat) (h : n ≤ 140737488355328) (fr : Nat × Nat) : Sl (W.alloc (.cells (vb (noughts n)).toArray 5 fr)) (W.heap.size + 1) (.slice (some ⟨W.heap.size, 0, none⟩) n n) (noughts n) :=
  sl_mark W (noughts n) _ rfl (by rw [noughts_len]; simp only [maxLen]; omega) n (noughts_len n).symm fr
/-- The text of noughts that were laid a moment ago. -/
theorem text_noughts (W : World) (n : Nat) (h : n ≤ 140737488355328) (g : Nat) (hg : W.heap.size = g) : (convert 49 9 (.slice (some ⟨g, 0, none⟩) n n)).run Tryz.prog (W.alloc (.cells (vb (noughts n)).toArray 5)) =
    .ok (.string ⟨(noughts n).toArray⟩) (W.alloc (.cells (vb (noughts n)).toArray 5)) := by
  subst hg
  exact run_text_of _ _ _ _ (sl_noughts W n h (0, 0))
theorem text_noughts2 (W : World) (n : Nat) (h : n ≤ 140737488355328) : (convert 49 9 (.slice (some ⟨W.heap.size, 0, none⟩) n n)).run Tryz.prog (W.alloc (.cells (vb (noughts n)).toArray 5)).drew =
    .ok (.string ⟨(noughts n).toArray⟩) (W.alloc (.cells (vb (noughts n)).toArray 5)).drew :=
  run_text_of _ _ _ _ ((sl_noughts W n h (0, 0)).below (Below.refl _ _).drew)

end Go.Proofs.YtkbmajgbhpecgaaGreatDoor.Cd

/-
  A region that draws its order, taken by hand. Conditions: none.
-/
namespace Go.Proofs.YtkbmajgbhpecgaaGreatDoor.Cd
open Go.RowKit

section
variable {P : Program} {md : Region.Mode} {ops : Array Oper} {Q : Exit → Act → World → Prop} {S : World → Prop} {i fuel : Nat} {listed : Array Bool} {a : Act} {w : World}

theorem region_begin {id : Nat} {W0 : World} (hW : w.drew = W0) (hm : P.follows .mixedOrders = true) (hS : S W0) (h : S W0 → wpAnyH P .any ops Q S ops.size (Array.replicate ops.size false) a W0) : (Code.region id ops true).wp P Q a w := by
  subst hW
  exact wp_region_held_drew hm hS h
/-- An operation that yields v wherever S holds is taken first. -/
theorem take_at (v : Value) (d : Option Nat) (h : i < ops.size) (hd : (ops[i]'h).dst = d) (hs : Region.noSelect ops = true) (hf : Region.free md ops listed i = true) (hr : (Region.ready md ops listed).contains i = true)
    (hQ : ∀ c a w, Q (.panic c) (a.put d v) w → Q (.panic c) a w) (hw : Region.wanted (ops[i]'h) (yielded ops a.tmps) = true) (hy : ∀ W, S W → (execOp a.eval (ops[i]'h)).run P W = .ok (.value v) W) (hS : S w)
    (hrest : wpAnyH P md ops Q S fuel (listed.setIfInBounds i true) (a.put d v) w) : wpAnyH P md ops Q S (fuel + 1) listed a w := by
  subst hd
  exact wpAnyH_take (Array.getElem?_eq_getElem h) hs hf hr hQ (.inl ⟨hw, hy⟩) hS hrest
/-- One that comes up, and yields v in this world. -/
theorem come {rs : List Nat} (v : Value) (w' : World) (d : Option Nat) (h : i < ops.size) (hd : (ops[i]'h).dst = d) (hw : Region.wanted (ops[i]'h) (yielded ops a.tmps) = true) (hy : (execOp a.eval (ops[i]'h)).run P w = .ok (.value v) w') (hS : S w')
    (hrest : wpAnyH P md ops Q S fuel (listed.setIfInBounds i true) (a.put d v) w') (hs : AllReadyH P md ops Q S fuel listed a w rs) : AllReadyH P md ops Q S fuel listed a w (i :: rs) := by
  subst hd
  refine AllReadyH.cons (Array.getElem?_eq_getElem h) (fun K' hK => ?_) hs
  rw [if_pos hw]
  unfold Oper.wp
  simp only [hy, Oper.upon]
  exact hK.out _ _ hS (fun _ => hrest)
end

end Go.Proofs.YtkbmajgbhpecgaaGreatDoor.Cd

/-
  append of bytes onto a row of the call's own: which block is written, and where the row lies then. Conditions: there is something to append.
-/
namespace Go.Proofs.YtkbmajgbhpecgaaGreatDoor.Cd
open Go.RowKit

theorem run_append_by (w : World) (B : Nat) (v : Value) (bs : List UInt8) (ho : Own w B v bs) (hB : B ≤ w.heap.size) (x : Value) (B' : Nat) (ns : List UInt8) (hx : Sl w B' x ns) (h0 : 0 < ns.length)
    (hm : bs.length + ns.length ≤ 140737488355328) (ty : TypeId) :
    ∃ v' w', (Builtin.append_ #[49, 49] ty #[v, x]).run Tryz.prog w = .ok v' w' ∧ Own w' B v' (bs ++ ns) ∧ w.grownBy w' v.ownBlock ∧ (v'.ownBlock = v.ownBlock ∨ ∀ k, v'.ownBlock = some k → w.heap.size ≤ k) := by
  obtain ⟨i0, hi, hz0, hz1, hz2⟩ := info_parts info5
  have hmax : bs.length + ns.length ≤ maxLen := by simp only [maxLen]; omega
  obtain ⟨b, off, c, rfl, _, _, _, hat⟩ := hx.at h0
  have hnews : ∀ j u, (vb ns)[j]? = some u → w.cell? ((⟨b, off, none⟩ : Addr).add j) = some u := fun j u hu => by
    have hj := (List.getElem?_eq_some_iff.1 hu).1
    rw [vb_length] at hj
    rw [Addr.add_lit, hat j hj, ← hu, vb_at ns j hj]
  obtain ⟨v', w', hr, h2, h3, h4⟩ := run_append_own (P := Tryz.prog) w B 49 ty 5 i0 _ 1 1 Tryz.underlying49 hi hz0 hz1 hz2 rfl (by omega) v bs.length (vb bs) ho ⟨b, off, none⟩ ns.length c (vb ns) (by simp [vb]) hnews (vb_one ns) hmax (by omega) hB
  refine ⟨v', w', hr, ?_, h3, ?_⟩
  · unfold Own
    rw [vb_append, List.length_append]
    exact h2
  · rcases ho.2 with ⟨rfl, h0⟩ | ⟨g, cap, cur, rfl, hbg, hg, hnc, hcm, hcs, htake⟩
    · obtain ⟨v2, w2, hr2, k2, _⟩ := run_append_own (P := Tryz.prog) w w.heap.size 49 ty 5 i0 _ 1 1 Tryz.underlying49 hi hz0 hz1 hz2 rfl (by omega) (.slice none 0 0) 0 [] (World.ownsRow_nil w _ 5 1) ⟨b, off, none⟩ ns.length c (vb ns) (by simp [vb]) hnews (vb_one ns) (by simp only [maxLen]; omega) (by omega) (Nat.le_refl _)
      rw [hr] at hr2
      injection hr2 with e1 e2
      subst e1 e2
      exact .inr fun k hk => (k2.lt k hk).1
    · by_cases hroom : bs.length + ns.length ≤ cap
      · have hfit : bs.length * i0.size + (vb ns).length ≤ cur.size := by rw [hcs, hz1, vb_length, Nat.mul_one, Nat.mul_one]; exact hroom
        have hr2 := run_append_room (P := Tryz.prog) w 49 ty 5 i0 Tryz.underlying49 hi g bs.length cap cur hg ⟨b, off, none⟩ ns.length c (vb ns) (by rw [hz1, vb_length, Nat.mul_one]) hnews (vb_one ns) hroom hfit
        rw [hr] at hr2
        injection hr2 with e1 e2
        subst e1
        exact .inl rfl
      · have holds : ∀ j u, (vb bs)[j]? = some u → w.cell? ((⟨g, 0, none⟩ : Addr).add j) = some u := World.ownsRow.cells ho (g := g) rfl
        have hr2 := run_append_grow (P := Tryz.prog) w 49 ty 5 i0 _ Tryz.underlying49 hi hz0 ⟨g, 0, none⟩ bs.length cap (vb bs) (by rw [hz1]; exact ho.1) holds ⟨b, off, none⟩ ns.length c (vb ns) (by rw [hz1, vb_length, Nat.mul_one]) hnews (by simp only [maxLen] at hmax; omega) (by omega) (growslice_fits (by omega) (by rw [hz2]; omega))
        rw [hr] at hr2
        injection hr2 with e1 e2
        subst e1
        refine .inr fun k hk => ?_
        have hk2 : some w.heap.size = some k := hk
        injection hk2 with hk2
        omega

theorem step_append_by {w : World} {ops : Array Oper} {o : Oper} {a : Act} {K : Act → World → Prop} {Q : Exit → Act → World → Prop} {E : Prop} (hgd : o.guard = none) (s x : Operand)
    (hop : o.op = .call { callee := .builtin .append, args := #[s, x], argTypes := #[49, 49] })
    (B : Nat) (v : Value) (bs : List UInt8) (hs : a.eval s = v) (ho : Own w B v bs) (hB : B ≤ w.heap.size) (y : Value) (B' : Nat) (ns : List UInt8) (hx : a.eval x = y) (hy : Sl w B' y ns) (h0 : 0 < ns.length)
    (hm : bs.length + ns.length ≤ 140737488355328)
    (h : ∀ v' w', Own w' B v' (bs ++ ns) → w.grownBy w' v.ownBlock → (v'.ownBlock = v.ownBlock ∨ ∀ k, v'.ownBlock = some k → w.heap.size ≤ k) → K (a.put o.dst v') w') : if Region.wanted o (yielded ops a.tmps) = true then Oper.wp Tryz.prog o a w K Q else E := by
  have hw : Region.wanted o (yielded ops a.tmps) = true := by simp [Region.wanted, hgd]
  rw [if_pos hw]
  obtain ⟨v', w', hrun, r1, r2, r3⟩ := run_append_by w B v bs ho hB y B' ns hy h0 hm o.type
  unfold Oper.wp
  simp [execOp, hop, resolve, invoke, builtin, hs, hx, hrun, Result.andThen]
  exact h v' w' r1 r2 r3

end Go.Proofs.YtkbmajgbhpecgaaGreatDoor.Cd

/-
  Slices of ints and of bools as arguments: how they read. Conditions: none.
-/
namespace Go.Proofs.YtkbmajgbhpecgaaGreatDoor.Cd
open Go.RowKit Go.ChangeShapes Go.WideShapes Go.Deep

/-- A slice value that reads as l, each element by f. -/
def Flat {α : Type} (f : α → Value) (w : World) (B : Nat) (v : Value) (l : List α) : Prop :=
  ∃ A c, v = .slice A l.length c ∧ l.length ≤ c ∧ c ≤ maxLen ∧
    (0 < l.length → ∃ b off, A = some ⟨b, off, none⟩ ∧ b < B ∧ ∀ j (hj : j < l.length), w.cell? ⟨b, off + j, none⟩ = some (f l[j]))

section
variable {α : Type} {f : α → Value} {w w' : World} {B : Nat} {v : Value} {l : List α}
theorem Flat.below (h : Flat f w B v l) (hb : Below B w w') : Flat f w' B v l := by
  obtain ⟨A, c, h1, h2, h3, h4⟩ := h
  refine ⟨A, c, h1, h2, h3, fun h0 => ?_⟩
  obtain ⟨b, off, e, hB, hc⟩ := h4 h0
  exact ⟨b, off, e, hB, fun j hj => (hb.cell (p := ⟨b, off + j, none⟩) hB).trans (hc j hj)⟩
theorem Flat.len (h : Flat f w B v l) : ∃ A c, v = .slice A l.length c ∧ l.length ≤ c ∧ c ≤ 9223372036854775807 := by
  obtain ⟨A, c, h1, h2, h3, _⟩ := h
  exact ⟨A, c, h1, h2, h3⟩
theorem Flat.at {A : Option Addr} {n c : Nat} (h : Flat f w B (.slice A n c) l) {k : Nat} (hk : k < l.length) : ∃ b off, A = some ⟨b, off, none⟩ ∧ b < B ∧ w.cell? ⟨b, off + k, none⟩ = some (f l[k]) := by
  obtain ⟨A0, c0, e, _, _, h5⟩ := h
  injection e with e1 e2 e3
  obtain ⟨b, off, e, hB, hc⟩ := h5 (by omega)
  exact ⟨b, off, e1.trans e, hB, hc k hk⟩
end

theorem cells_int : Tryz.prog.cellsOf 3 = 1 := by kernel_rfl
theorem ints_of_trod {H : Type} {enc : TypeId × Value → H} {w : World} {v : Value} {d : DataW H} {ps : List MemPlace} (hv : ∃ A n c, v = .slice A n c)
    (h : DataW.Trod enc Tryz.prog w 0 (fun _ => true) true 23 v d ps) (_hw : ∀ n ∈ d.weights Tryz.prog 23, n ≤ reachBytes) :
    ∃ l : List Int, Flat (fun n => Value.int .i64 n) w w.heap.size v l ∧ ∀ n ∈ l, (Lit.int .i64 n).wf = true := by
  obtain ⟨A0, n0, c0, rfl⟩ := hv
  obtain ⟨fuel, hf⟩ := h
  rcases open_ints Tryz.underlying23 Tryz.underlying3 cells_int hf with ⟨hcs, _⟩ | ⟨a, len, cap, zs, hcs, _, hl, hm, hz, _, hi, hwf⟩
  · simp [Value.cells] at hcs
    obtain ⟨rfl, rfl, rfl⟩ := hcs
    exact ⟨[], ⟨none, 0, rfl, by simp, by simp, fun h => by simp at h⟩, by simp⟩
  · simp [Value.cells] at hcs
    obtain ⟨rfl, rfl, rfl⟩ := hcs
    have hzc : zs.length = c0 := by rw [hz]; simp
    have hlen : (zs.take n0).length = n0 := by rw [List.length_take]; omega
    refine ⟨zs.take n0, ⟨some a, c0, by rw [hlen], by rw [hlen]; exact hl, hm, fun hp => ?_⟩, fun n hn => hwf n (List.mem_of_mem_take hn)⟩
    rw [hlen] at hp
    obtain ⟨b, off, spot⟩ := a
    have hc := hi 0 (by omega)
    have hspot : spot = none := by simpa [Addr.add] using World.cell?_spot hc
    subst hspot
    refine ⟨b, off, rfl, ?_, fun j hj => ?_⟩
    · have := World.block_lt_of_cell? w _ hc
      rwa [block_of_add] at this
    · rw [hlen] at hj
      have := hi j (by omega)
      rw [Addr.add_lit] at this
      rw [this, List.getElem_take]
      simp [List.getD_eq_getElem?_getD, List.getElem?_eq_getElem (show j < zs.length by omega)]

end Go.Proofs.YtkbmajgbhpecgaaGreatDoor.Cd
