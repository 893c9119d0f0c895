/-
  The document's bytes with what stands behind them. Conditions: none.
-/
import Derived.Test.YtflgokbkkoobkaaDoorShaFed
import Derived.Test.YtflgokbkkoobkaaDoorIdText
import Derived.Laws.BitsAllLaws
namespace Go.Proofs.YtflgokbkkoobkaaDoor.Cd
open Go.RowKit

def lenV0 : Value → Nat | .slice _ n _ => n | _ => 0

theorem pad_step (N z : Nat) (h : z < gapZ N) : (N + 1 + z) % 64 ≠ 56 := by unfold gapZ at h; omega
theorem pad_stop (N : Nat) : (N + 1 + gapZ N) % 64 = 56 := by unfold gapZ; omega
theorem tail8_last (N k : Nat) (hk : k < 8) : (tail8 N).drop (7 - k) = UInt8.ofNat (8 * N / 2 ^ (8 * k)) :: (tail8 N).drop (8 - k) := by
  have hl := tail8_length N
  rw [List.drop_eq_getElem_cons (by omega), show 7 - k + 1 = 8 - k by omega]
  congr 1
  unfold tail8
  rw [List.getElem_map, List.getElem_range]
  congr 3
  omega
/-- What is left of the number of bytes behind k bytes of its bits' number. -/
def restN (N k : Nat) : Nat := if k = 0 then N else 8 * N / 2 ^ (8 * k)
theorem restN_next (N k : Nat) (hk : 0 < k) : restN N k / 256 = restN N (k + 1) := by
  unfold restN
  rw [if_neg (by omega), if_neg (by omega), Nat.div_div_eq_div_mul, show 8 * (k + 1) = 8 * k + 8 by omega, Nat.pow_add]
theorem restN_first (N : Nat) : N / 32 = restN N 1 := by
  unfold restN
  rw [if_neg (by omega)]
  omega
theorem ofNat_mod (n : Nat) : UInt8.ofNat (n % 256) = UInt8.ofNat n := by
  apply UInt8.toNat_inj.1
  rw [UInt8.toNat_ofNat', UInt8.toNat_ofNat']
  omega

set_option maxRecDepth 100000 in
set_option maxHeartbeats 3200000 in
theorem padded_any (v : Value) (bs : List UInt8) (w : World) (h : Sl w w.heap.size v bs) (hN : bs.length ≤ 1048576) :
    Calls Tryd.prog 50 #[v] w fun e w' => ∃ v', e = .returned v' ∧ Own w' w.heap.size v' (padS bs) ∧ Below w.heap.size w w' := by
  have H := Lib.hid h
  obtain ⟨A, c, rfl, hbc, hcm⟩ := h.len
  clear h
  have hg63 : gapZ bs.length < 64 := Nat.mod_lt _ (by omega)
  go_enter Tryd.func50, Tryd.ntmps50
  go_wp2_with (refine wp_append_sl rfl _ _ rfl w.heap.size _ [] rfl (own_new w _ (Nat.le_refl _)) (by simp) _ _ bs rfl (H.out.below ((Below.refl _ _).alloc (Nat.le_refl _) _)) (by simp; omega) ?_)
  intro v1 w1 ho1 hb1
  have hB1 : Below w.heap.size w w1 := ((Below.refl _ _).alloc (Nat.le_refl _) _).trans hb1
  clear hb1
  obtain ⟨A1, c1, e1, _, _⟩ := ho1.sl.len
  subst e1
  have HO1 := Lib.hid ho1
  have HB1 := Lib.hid hB1
  have hs1 := hB1.size
  clear ho1 hB1
  have hone : Own (w1.alloc (.cells #[.int .u8 128] 5)) w1.heap.size (.slice (some ⟨w1.heap.size, 0, none⟩) 1 1) [128] := own_byte w1 w1.heap.size (Nat.le_refl _) 128
  have HONE := Lib.hid hone
  clear hone
  go_wp2_with (refine wp_append_sl rfl _ _ rfl w.heap.size _ bs rfl (HO1.out.alloc _) (by simp; omega) _ _ [128] rfl HONE.out.sl (by simp; omega) ?_)
  intro v2 w2 ho2 hb2
  have HB2 := Lib.hid (HB1.out.trans (((Below.refl w.heap.size w1).alloc (by omega) (.cells #[.int .u8 128] 5)).trans hb2))
  have hs2 := hb2.size
  simp only [World.alloc, Array.size_push] at hs2
  obtain ⟨R0, hR0⟩ : ∃ R, bs ++ [128] = R := ⟨_, rfl⟩
  rw [hR0] at ho2
  have HR0 := Lib.hid hR0
  obtain ⟨A2, c2, e2, _, _⟩ := ho2.sl.len
  subst e2
  have HO2 := Lib.hid ho2
  clear hR0 ho2 hb2 HO1 HB1 HONE
  go_wp2_with fail
  go_loopw [3] (fun vv wr => ∃ (z : Nat) (R : List UInt8), z ≤ gapZ bs.length ∧ Hid (bs ++ 128 :: zer z = R) ∧ lenV0 vv = R.length ∧ Hid (Own wr w.heap.size vv R) ∧ Hid (Below w.heap.size w wr)) (fun vv _ => bs.length + 1 + gapZ bs.length - lenV0 vv)
  case atStart => exact ⟨0, R0, by omega, HR0, rfl, HO2, HB2⟩
  case round =>
    clear HO2 HB2 HR0
    obtain ⟨z, R, hz, HR, hlen, HO, HB⟩ := hrel
    obtain ⟨A3, c3, rfl, h3a, h3b⟩ := HO.out.sl.len
    have hsr := HB.out.size
    have hRl : R.length = bs.length + 1 + z := by rw [← HR.out]; simp [zer_length]; omega
    obtain ⟨m, hm⟩ : ∃ m, R.length % 64 = m := ⟨_, rfl⟩
    have m1 : (R.length : Int) % 64 = (m : Int) := by omega
    have m2 : (R.length : Int).tmod 64 = (m : Int) := by rw [Int.tmod_eq_emod_of_nonneg (by omega)]; exact m1
    by_cases hlt : z < gapZ bs.length
    · have hne := pad_step _ _ hlt
      have hq : ¬ (m : Int) = 56 := by omega
      have hq2 : ((m : Int) == 56) = false := by rw [beq_eq_false_iff_ne]; exact hq
      have hR2 : bs ++ 128 :: zer (z + 1) = R ++ [0] := by
        rw [← HR.out]
        unfold zer
        rw [List.replicate_succ']
        simp
      have HR2 := Lib.hid hR2
      have hl2 : bs.length + 1 + gapZ bs.length - (R.length + 1) < bs.length + 1 + gapZ bs.length - R.length := by omega
      have hR20 : R.length + 1 ≤ 1048576 + 66 := by omega
      have HRL := Lib.hid hRl
      clear hRl hne hm hR2
      have hzero : Own (wr.alloc (.cells #[.int .u8 0] 5)) wr.heap.size (.slice (some ⟨wr.heap.size, 0, none⟩) 1 1) [0] := own_byte wr wr.heap.size (Nat.le_refl _) 0
      have HZ := Lib.hid hzero
      clear hzero hlen
      go_wp2_with (refine wp_append_sl rfl _ _ rfl w.heap.size _ R rfl (HO.out.alloc _) (by simp; omega) _ _ [0] rfl HZ.out.sl (by simp; omega) ?_)
      intro v4 w4 ho4 hb4
      have HB4 := Lib.hid (HB.out.trans (((Below.refl w.heap.size wr).alloc (by omega) (.cells #[.int .u8 0] 5)).trans hb4))
      obtain ⟨R4, hR4⟩ : ∃ R4, R ++ [0] = R4 := ⟨_, rfl⟩
      have hl4 : R4.length = R.length + 1 := by rw [← hR4]; simp
      rw [hR4] at ho4 HR2
      obtain ⟨A4, c4, e4, _, _⟩ := ho4.sl.len
      subst e4
      have HO4 := Lib.hid ho4
      have HL4 := Lib.hid hl4
      clear ho4 hb4 hR4 hl4
      go_wp2_with fail
      go_roundw
      case rel => exact ⟨z + 1, R4, by omega, HR2, rfl, HO4, HB4⟩
      case measure => simp only [lenV0]; rw [HL4.out]; exact hl2
    · obtain rfl : z = gapZ bs.length := by omega
      have hst := pad_stop bs.length
      have hq : (m : Int) = 56 := by omega
      have hq2 : ((m : Int) == 56) = true := by rw [beq_iff_eq]; exact hq
      have hR3 : R.length ≤ 1048576 + 65 := by omega
      clear hst hm hRl hlen hlt hz
      go_wp2_with fail
      go_loopw [4, 5, 6] (fun vn vt i wr => ∃ (k n : Nat) (T : List UInt8), k ≤ 8 ∧ i = .int .i64 k ∧ vn = .int .i64 n ∧ n ≤ 1048576 ∧ Hid (n = restN bs.length k) ∧ Hid (T = (tail8 bs.length).drop (8 - k)) ∧ Hid (Sl wr wr.heap.size vt T) ∧ Hid (Own wr w.heap.size (.slice A3 R.length c3) R) ∧ Hid (Below w.heap.size w wr)) (fun _ _ i _ => 8 - (intOf i).toNat)
      case atStart => exact ⟨0, bs.length, [], by omega, rfl, rfl, hN, rfl, by unfold Hid; rw [List.drop_of_length_le (by rw [tail8_length]; omega)], Sl.nil _ _, HO, HB⟩
      case round =>
        clear HO HB m1 m2 hq hq2
        obtain ⟨k, n, T, hk, rfl, rfl, hn, HN, HT, HS, HO, HB⟩ := hrel
        obtain ⟨At, ct, rfl, hta, htb⟩ := HS.out.len
        have hTl : T.length ≤ 8 := by rw [HT.out]; simp [tail8_length]
        have hsr2 := HB.out.size
        by_cases hlt : k < 8
        · by_cases h0 : k = 0
          · subst h0
            have hn0 : n = bs.length := HN.out
            have x1 : (n : Int).tmod 32 = ((n % 32 : Nat) : Int) := by rw [Int.tmod_eq_emod_of_nonneg (by omega)]; omega
            have x2 : (n : Int) % 32 = ((n % 32 : Nat) : Int) := by omega
            have y1 : (n : Int).tdiv 32 = ((n / 32 : Nat) : Int) := by rw [Int.tdiv_eq_ediv_of_nonneg (by omega)]; omega
            have y2 : (n : Int) / 32 = ((n / 32 : Nat) : Int) := by omega
            have hxs : n % 32 < 32 := Nat.mod_lt _ (by omega)
            have hyl : n / 32 ≤ 1048576 := by omega
            have HY : Hid (n / 32 = restN bs.length 1) := by rw [hn0]; exact restN_first _
            obtain ⟨cb, hcb⟩ : ∃ cb : UInt8, cb = UInt8.ofNat (8 * bs.length / 2 ^ (8 * 0)) := ⟨_, rfl⟩
            have hc2 : (((n % 32 : Nat) : Int) * 8) = (cb.toNat : Int) := by
              rw [hcb, UInt8.toNat_ofNat', hn0]
              simp
              omega
            generalize n % 32 = x at x1 x2 hxs hc2
            generalize n / 32 = y at y1 y2 hyl HY
            have hc3 : IntKind.i64.wrap ((x : Int) * 8) = (cb.toNat : Int) := by rw [hc2]; exact Go.wrap_small _ (by omega) (by have := cb.toNat_lt; omega)
            have hc4 : IntKind.u8.wrap (cb.toNat : Int) = (cb.toNat : Int) := by rw [IntKind.wrap_u8']; have := cb.toNat_lt; omega
            have HT1 : Hid ([cb] ++ T = (tail8 bs.length).drop (8 - (0 + 1))) := by
              unfold Hid
              rw [HT.out, hcb]
              exact (tail8_last bs.length 0 (by omega)).symm
            have hown : Own (wr.alloc (.cells #[.int .u8 cb.toNat] 5)) wr.heap.size (.slice (some ⟨wr.heap.size, 0, none⟩) 1 1) [cb] := own_byte wr wr.heap.size (Nat.le_refl _) cb
            have HOW := Lib.hid hown
            clear hown hcb hn0 HN
            go_wp2_with (refine wp_append_sl rfl _ _ rfl wr.heap.size _ [cb] rfl HOW.out (by simp) _ _ T rfl (HS.out.below ((Below.refl _ _).alloc (Nat.le_refl _) _)) (by simp; omega) ?_)
            intro v5 w5 ho5 hb5
            have hb6 := ((Below.refl wr.heap.size wr).alloc (Nat.le_refl _) (.cells #[.int .u8 cb.toNat] 5)).trans hb5
            have HO5 := Lib.hid (HO.out.keep hb6)
            have HB5 := Lib.hid (HB.out.trans (hb6.mono hsr2))
            have HS5 := Lib.hid ho5.sl
            obtain ⟨A5, c5, e5, _, _⟩ := ho5.sl.len
            subst e5
            clear ho5 hb5 hb6
            go_wp2_with fail
            go_roundw
            case rel => exact ⟨1, y, [cb] ++ T, by omega, by go_num, rfl, hyl, HY, HT1, HS5, HO5, HB5⟩
            case measure => simp [intOf]
          · have hk0 : 0 < k := by omega
            have hq0 : ((k : Int) == 0) = false := by rw [beq_eq_false_iff_ne]; omega
            have x1 : (n : Int).tmod 256 = ((n % 256 : Nat) : Int) := by rw [Int.tmod_eq_emod_of_nonneg (by omega)]; omega
            have x2 : (n : Int) % 256 = ((n % 256 : Nat) : Int) := by omega
            have y1 : (n : Int).tdiv 256 = ((n / 256 : Nat) : Int) := by rw [Int.tdiv_eq_ediv_of_nonneg (by omega)]; omega
            have y2 : (n : Int) / 256 = ((n / 256 : Nat) : Int) := by omega
            have hyl : n / 256 ≤ 1048576 := by omega
            have HY : Hid (n / 256 = restN bs.length (k + 1)) := by unfold Hid; rw [HN.out]; exact restN_next _ _ hk0
            obtain ⟨cb, hcb⟩ : ∃ cb : UInt8, cb = UInt8.ofNat (8 * bs.length / 2 ^ (8 * k)) := ⟨_, rfl⟩
            have hc2 : ((n % 256 : Nat) : Int) = (cb.toNat : Int) := by
              have e := HN.out
              unfold restN at e
              rw [if_neg h0] at e
              rw [hcb, UInt8.toNat_ofNat', ← e]
            generalize n % 256 = x at x1 x2 hc2
            generalize n / 256 = y at y1 y2 hyl HY
            obtain rfl : x = cb.toNat := by omega
            have hc4 : IntKind.u8.wrap (cb.toNat : Int) = (cb.toNat : Int) := by rw [IntKind.wrap_u8']; have := cb.toNat_lt; omega
            have HT1 : Hid ([cb] ++ T = (tail8 bs.length).drop (8 - (k + 1))) := by
              unfold Hid
              rw [HT.out, hcb, show 8 - (k + 1) = 7 - k by omega, tail8_last _ k hlt]
              rfl
            have hown : Own (wr.alloc (.cells #[.int .u8 cb.toNat] 5)) wr.heap.size (.slice (some ⟨wr.heap.size, 0, none⟩) 1 1) [cb] := own_byte wr wr.heap.size (Nat.le_refl _) cb
            have HOW := Lib.hid hown
            clear hown hcb HN hc2
            go_wp2_with (refine wp_append_sl rfl _ _ rfl wr.heap.size _ [cb] rfl HOW.out (by simp) _ _ T rfl (HS.out.below ((Below.refl _ _).alloc (Nat.le_refl _) _)) (by simp; omega) ?_)
            intro v5 w5 ho5 hb5
            have hb6 := ((Below.refl wr.heap.size wr).alloc (Nat.le_refl _) (.cells #[.int .u8 cb.toNat] 5)).trans hb5
            have HO5 := Lib.hid (HO.out.keep hb6)
            have HB5 := Lib.hid (HB.out.trans (hb6.mono hsr2))
            have HS5 := Lib.hid ho5.sl
            obtain ⟨A5, c5, e5, _, _⟩ := ho5.sl.len
            subst e5
            clear ho5 hb5 hb6
            go_wp2_with fail
            go_roundw
            case rel => exact ⟨k + 1, y, [cb] ++ T, by omega, by go_num, rfl, hyl, HY, HT1, HS5, HO5, HB5⟩
            case measure => simp [intOf]; omega
        · obtain rfl : k = 8 := by omega
          have HFIN : Hid (R ++ T = padS bs) := by
            unfold Hid padS
            rw [HT.out, ← HR.out]
            simp
          clear HT HN hlt hk
          go_wp2_with (refine wp_append_sl rfl _ _ rfl w.heap.size _ R rfl HO.out hsr2 _ _ T rfl HS.out (by omega) ?_)
          intro v7 w7 ho7 hb7
          obtain ⟨A7, c7, e7, _, _⟩ := ho7.sl.len
          subst e7
          have HS7 := Lib.hid ho7
          have HB7 := Lib.hid (HB.out.trans hb7)
          clear ho7 hb7
          go_wp2_with fail
          go_ret
          exact ⟨_, rfl, by rw [← HFIN.out]; exact HS7.out, HB7.out⟩

end Go.Proofs.YtflgokbkkoobkaaDoor.Cd
