/-
  DiskCuts answers true. Conditions: none.
-/
import Derived.Test.YthbpkdmniaapaaaDk
import Derived.Test.YthbpkdmniaapaaaCutsMath
import Derived.Test.YthbpkdmniaapaaaAliveD
import Derived.OpenShut
namespace Go.Proofs.Ythbpkdmniaapaaa.DiskCuts
open Go.RowKit Go.Proofs.Ythbpkdmniaapaaa.Cd

theorem hfg : ([102] : List UInt8) < [103] := by decide

set_option maxRecDepth 100000 in
set_option maxHeartbeats 800000 in
theorem much (a0 a1 : Int) (b : Bool) (a3 : Int) (w : World) (h : a0 < 1 ∨ (¬ a0 < 1 ∧ 20 < a0) ∨ (¬ a0 < 1 ∧ ¬ 20 < a0 ∧ a1 < 0) ∨ (¬ a0 < 1 ∧ ¬ 20 < a0 ∧ ¬ a1 < 0 ∧ 20 < a1)) :
    Calls Try.prog 8 #[.int .i64 a0, .int .i64 a1, .bool b, .int .u64 a3] w (Gives (.bool true) w) := by
  rcases h with h | ⟨h, h'⟩ | ⟨h, h', h2⟩ | ⟨h, h', h2, h3⟩
  all_goals
    go_enter Try.func8, Try.ntmps8
    go_wp2_with fail
    refine (alive_any w).mono ?_
    rintro e w1 ⟨rfl, hb1⟩
    go_wp2_with fail
    go_ret
    exact ⟨rfl, hb1⟩

set_option maxRecDepth 100000 in
set_option maxHeartbeats 4000000 in
theorem main (p c keep : Nat) (b : Bool) (w : World) (hp : 1 ≤ p) (hp2 : p ≤ 20) (hc : c ≤ 20) (hkeep : keep < 18446744073709551616) :
    Calls Try.prog 8 #[.int .i64 p, .int .i64 c, .bool b, .int .u64 keep] w (Gives (.bool true) w) := by
  have hp' : (1 : Int) ≤ p := by omega
  have hp2' : (p : Int) ≤ 20 := by omega
  have hc' : (c : Int) ≤ 20 := by omega
  have hc0 : (0 : Int) ≤ c := by omega
  go_enter Try.func8, Try.ntmps8
  go_wp2_with fail
  refine (alive_any w).mono ?_
  rintro e w1 ⟨rfl, hb1⟩
  have HB0 := Lib.hid hb1
  clear hb1
  go_wp2_with fail
  refine (new_dk 50 w1 (by omega) (by omega)).mono ?_
  rintro e w2 ⟨g, rfl, hd2, hb2⟩
  have HD2 : Hid (Dk w2 w1.heap.size g (8 * 0) (newD 50)) := Lib.hid hd2
  have HB2 := Lib.hid hb2
  clear hd2 hb2
  go_wp2_with fail
  go_loopw [10] (fun v wr => ∃ (i : Nat) (D : Dsk), v = .int .i64 i ∧ i ≤ p ∧ Hid (Dk wr w1.heap.size g (8 * i) D) ∧ Hid (Cl D [102] [103] i) ∧ Hid (Below w1.heap.size w1 wr)) (fun v _ => p - (intOf v).toNat)
  case atStart => exact ⟨0, newD 50, rfl, by omega, HD2, cl_new _ _, HB2⟩
  case round =>
    obtain ⟨i, D, rfl, hi, hdk, hcl, hbel⟩ := hrel
    by_cases hlt : i < p
    · have hlt' : (i : Int) < p := by omega
      have hz : Hid (w1.heap.size ≤ wr.heap.size) := hbel.out.size
      have C1 := write_dk w1.heap.size g (8 * i) D [102] wr [UInt8.ofNat i] i 1 #[.int .u8 i] (0, 0) hdk.out rfl (by simp [vb]; omega) (by simp) (by simp) (by omega) (by omega)
      have L1 := hcl.out.fst hfg (by omega : i < 20) (b1 := [UInt8.ofNat i]) (by simp)
      generalize writeD D [102] (i : Int) [UInt8.ofNat i] = R1 at C1 L1
      have C1 := Lib.hid C1
      go_wp2_with fail
      refine C1.out.mono ?_
      rintro e w3 ⟨rfl, hd3, hb3⟩
      have hB3 := Lib.hid (hbel.out.trans hb3)
      have hz3 := Lib.hid hB3.out.size
      have C2 := write_dk w1.heap.size g (8 * i + 4) R1.1 [103] w3 [UInt8.ofNat i] i 1 #[.int .u8 i] (0, 0) hd3 rfl (by simp [vb]; omega) (by simp) (by simp) (by omega) (by omega)
      have L2 := L1.snd hfg (by omega : i < 20) (b2 := [UInt8.ofNat i]) (by simp)
      generalize writeD R1.1 [103] (i : Int) [UInt8.ofNat i] = R2 at C2 L2
      have C2 := Lib.hid C2
      have L2 := Lib.hid L2
      clear hd3 hb3 C1 L1 hdk hcl hz
      go_wp2_with fail
      refine C2.out.mono ?_
      rintro e w4 ⟨rfl, hd4, hb4⟩
      have hB4 := Lib.hid (hB3.out.trans hb4)
      have hd4 : Hid (Dk w4 w1.heap.size g (8 * (i + 1)) R2.1) := hd4
      clear C2 hb4 hB3 hz3
      go_wp2_with fail
      go_roundw
      case rel => exact ⟨i + 1, R2.1, by go_num, by omega, hd4, L2, hB4⟩
      case measure => simp [intOf]; omega
    · have hlt' : (p : Int) ≤ i := by omega
      obtain rfl : i = p := by omega
      obtain ⟨NN, hNN⟩ : ∃ n, 8 * i + 4 = n := ⟨_, rfl⟩
      have hNN2 : NN ≤ 200 := by omega
      cases b
      · have HR : Hid (Ready D [102] [103] i false) := hcl.out.unsynced (by omega)
        obtain ⟨D6, hD6⟩ : ∃ x, x = D := ⟨_, rfl⟩
        obtain ⟨w6, hw6⟩ : ∃ x, x = wr := ⟨_, rfl⟩
        subst hD6 hw6
        have HK6 : Hid (Dk w6 w1.heap.size g NN D6) := by
          obtain ⟨P, h1, h2⟩ := hdk.out
          exact ⟨P, h1.mono (by omega) (by omega), h2⟩
        have HB6 := hbel
        clear hdk hcl hbel hlt
        · obtain ⟨k, hk0, hk1, hk2, hk3, hk4, hk5, hk6⟩ := HR.out.final hfg c keep |>.2.2
          have hq1 : (cutD D6 [102] c).2 = 0 := (HR.out.final hfg c keep).1
          have hq2 : (removeD (cutD D6 [102] c).1 [103]).2 = 0 := (HR.out.final hfg c keep).2.1
          obtain ⟨D7, hD7⟩ : ∃ D, (cutD D6 [102] c).1 = D := ⟨_, rfl⟩
          obtain ⟨D8, hD8⟩ : ∃ D, (removeD D7 [103]).1 = D := ⟨_, rfl⟩
          obtain ⟨D9, hD9⟩ : ∃ D, lose D8 keep = D := ⟨_, rfl⟩
          rw [hD7] at hq2
          rw [hD7, hD8, hD9] at hk0 hk4 hk5 hk6
          have HC := Lib.hid (cut_dk w1.heap.size g NN D6 [102] w6 c HK6.out (by simp) (by omega) (by omega))
          rw [hq1, hD7] at HC
          go_wp2_with fail
          refine HC.out.mono ?_
          rintro e w7 ⟨rfl, hd7, hb7⟩
          have HB7 := Lib.hid (HB6.out.trans hb7)
          have HR7 := Lib.hid (remove_dk w1.heap.size g (NN + 4) D7 [103] w7 hd7 (by simp) (by omega))
          rw [hq2, hD8] at HR7
          clear HC hd7 hb7 HB6 HK6
          go_wp2_with fail
          refine HR7.out.mono ?_
          rintro e w8 ⟨rfl, hd8, hb8⟩
          have HB8 := Lib.hid (HB7.out.trans hb8)
          have HO8 := Lib.hid (off_dk w1.heap.size g (NN + 4 + 4) D8 w8 keep hd8 (by omega))
          rw [hD9] at HO8
          clear HR7 hd8 hb8 HB7
          go_wp2_with fail
          refine HO8.out.mono ?_
          rintro e w9 ⟨rfl, hd9, hb9⟩
          have HB9 := Lib.hid (HB8.out.trans hb9)
          have HN9 := Lib.hid (on_dk w1.heap.size g (NN + 4 + 4) D9 w9 hd9)
          clear HO8 hd9 hb9 HB8
          go_wp2_with fail
          refine HN9.out.mono ?_
          rintro e w10 ⟨rfl, hd10, hb10⟩
          have HB10 := Lib.hid (HB9.out.trans hb10)
          have hoff : (onD D9).off = false := rfl
          have hct := count_dk w1.heap.size g (NN + 4 + 4) (onD D9) [102] w10 hd10 hoff (by simp)
          have hh1 := has_dk w1.heap.size g (NN + 4 + 4) (onD D9) [102] w10 hd10 hoff (by simp)
          have hh2 := has_dk w1.heap.size g (NN + 4 + 4) (onD D9) [103] w10 hd10 hoff (by simp)
          have hfr := free_dk w1.heap.size g (NN + 4 + 4) (onD D9) w10 hd10
          rw [hk0] at hct
          rw [hk4] at hh1
          rw [hk5] at hh2
          rw [hk6] at hfr
          have HCT := Lib.hid hct
          have HH1 := Lib.hid hh1
          have HH2 := Lib.hid hh2
          have HFR := Lib.hid hfr
          have i1 : (k : Int) ≤ c := by omega
          have i2 : (k : Int) ≤ i := by omega
          clear hct hh1 hh2 hfr hd10 hb10 HB9 HN9 hk0 hk4 hk5 hk6 hk3 hD7 hD8 hD9 HR hq1 hq2
          go_wp2_with fail
          refine HCT.out.mono ?_
          rintro e w11 ⟨rfl, rfl⟩
          go_wp2_with fail
          refine HH1.out.mono ?_
          rintro e w12 ⟨rfl, rfl⟩
          go_wp2_with fail
          refine HH2.out.mono ?_
          rintro e w13 ⟨rfl, rfl⟩
          go_wp2_with fail
          refine HFR.out.mono ?_
          rintro e w14 ⟨rfl, hb14⟩
          have HB14 := Lib.hid (HB10.out.trans (hb14.mono (by have := HB10.out.size; omega)))
          clear hb14
          go_wp2_with fail
          go_ret
          exact ⟨rfl, HB0.out.trans (HB14.out.mono HB0.out.size)⟩
      · have HR : Hid (Ready (syncD D [102]).1 [102] [103] i true) := hcl.out.synced (by omega)
        have HS := Lib.hid (sync_dk w1.heap.size g (8 * i) D [102] wr hdk.out (by simp) (by omega))
        generalize syncD D [102] = R6 at HR HS
        clear hdk hcl hlt
        go_wp2_with fail
        refine HS.out.mono ?_
        rintro e w6 ⟨rfl, hd6, hb6⟩
        have HB6 := Lib.hid (hbel.out.trans hb6)
        obtain ⟨D6, hD6⟩ : ∃ x, R6.1 = x := ⟨_, rfl⟩
        rw [hD6] at HR hd6
        rw [hNN] at hd6
        have HK6 := Lib.hid hd6
        clear HS hd6 hb6 hbel
        · obtain ⟨k, hk0, hk1, hk2, hk3, hk4, hk5, hk6⟩ := HR.out.final hfg c keep |>.2.2
          have hq1 : (cutD D6 [102] c).2 = 0 := (HR.out.final hfg c keep).1
          have hq2 : (removeD (cutD D6 [102] c).1 [103]).2 = 0 := (HR.out.final hfg c keep).2.1
          obtain ⟨D7, hD7⟩ : ∃ D, (cutD D6 [102] c).1 = D := ⟨_, rfl⟩
          obtain ⟨D8, hD8⟩ : ∃ D, (removeD D7 [103]).1 = D := ⟨_, rfl⟩
          obtain ⟨D9, hD9⟩ : ∃ D, lose D8 keep = D := ⟨_, rfl⟩
          rw [hD7] at hq2
          rw [hD7, hD8, hD9] at hk0 hk4 hk5 hk6
          have HC := Lib.hid (cut_dk w1.heap.size g NN D6 [102] w6 c HK6.out (by simp) (by omega) (by omega))
          rw [hq1, hD7] at HC
          go_wp2_with fail
          refine HC.out.mono ?_
          rintro e w7 ⟨rfl, hd7, hb7⟩
          have HB7 := Lib.hid (HB6.out.trans hb7)
          have HR7 := Lib.hid (remove_dk w1.heap.size g (NN + 4) D7 [103] w7 hd7 (by simp) (by omega))
          rw [hq2, hD8] at HR7
          clear HC hd7 hb7 HB6 HK6
          go_wp2_with fail
          refine HR7.out.mono ?_
          rintro e w8 ⟨rfl, hd8, hb8⟩
          have HB8 := Lib.hid (HB7.out.trans hb8)
          have HO8 := Lib.hid (off_dk w1.heap.size g (NN + 4 + 4) D8 w8 keep hd8 (by omega))
          rw [hD9] at HO8
          clear HR7 hd8 hb8 HB7
          go_wp2_with fail
          refine HO8.out.mono ?_
          rintro e w9 ⟨rfl, hd9, hb9⟩
          have HB9 := Lib.hid (HB8.out.trans hb9)
          have HN9 := Lib.hid (on_dk w1.heap.size g (NN + 4 + 4) D9 w9 hd9)
          clear HO8 hd9 hb9 HB8
          go_wp2_with fail
          refine HN9.out.mono ?_
          rintro e w10 ⟨rfl, hd10, hb10⟩
          have HB10 := Lib.hid (HB9.out.trans hb10)
          have hoff : (onD D9).off = false := rfl
          have hct := count_dk w1.heap.size g (NN + 4 + 4) (onD D9) [102] w10 hd10 hoff (by simp)
          have hh1 := has_dk w1.heap.size g (NN + 4 + 4) (onD D9) [102] w10 hd10 hoff (by simp)
          have hh2 := has_dk w1.heap.size g (NN + 4 + 4) (onD D9) [103] w10 hd10 hoff (by simp)
          have hfr := free_dk w1.heap.size g (NN + 4 + 4) (onD D9) w10 hd10
          rw [hk0] at hct
          rw [hk4] at hh1
          rw [hk5] at hh2
          rw [hk6] at hfr
          have HCT := Lib.hid hct
          have HH1 := Lib.hid hh1
          have HH2 := Lib.hid hh2
          have HFR := Lib.hid hfr
          have i1 : (k : Int) ≤ c := by omega
          have i2 : (k : Int) ≤ i := by omega
          have i3 : (k : Int) = min (c : Int) i := by have h := hk3 trivial; omega
          clear hct hh1 hh2 hfr hd10 hb10 HB9 HN9 hk0 hk4 hk5 hk6 hk3 hD7 hD8 hD9 HR hq1 hq2
          go_wp2_with fail
          refine HCT.out.mono ?_
          rintro e w11 ⟨rfl, rfl⟩
          go_wp2_with fail
          all_goals
            refine HH1.out.mono ?_
            rintro e w12 ⟨rfl, rfl⟩
            go_wp2_with fail
            refine HH2.out.mono ?_
            rintro e w13 ⟨rfl, rfl⟩
            go_wp2_with fail
            refine HFR.out.mono ?_
            rintro e w14 ⟨rfl, hb14⟩
            have HB14 := Lib.hid (HB10.out.trans (hb14.mono (by have := HB10.out.size; omega)))
            clear hb14
            go_wp2_with fail
            go_ret
            exact ⟨rfl, HB0.out.trans (HB14.out.mono HB0.out.size)⟩

theorem walk (a0 a1 : Int) (b : Bool) (a3 : Int) (w : World) (w0 : (Lit.int .i64 a0).wf = true) (w1 : (Lit.int .i64 a1).wf = true) (w3 : (Lit.int .u64 a3).wf = true) :
    Calls Try.prog 8 #[.int .i64 a0, .int .i64 a1, .bool b, .int .u64 a3] w (Gives (.bool true) w) := by
  have b0 := bounds_i64 w0
  have b1 := bounds_i64 w1
  have b3 := bounds_u64 w3
  by_cases h : a0 < 1 ∨ (¬ a0 < 1 ∧ 20 < a0) ∨ (¬ a0 < 1 ∧ ¬ 20 < a0 ∧ a1 < 0) ∨ (¬ a0 < 1 ∧ ¬ 20 < a0 ∧ ¬ a1 < 0 ∧ 20 < a1)
  · exact much a0 a1 b a3 w h
  · obtain ⟨p, rfl⟩ := Int.eq_ofNat_of_zero_le (a := a0) (by omega)
    obtain ⟨c, rfl⟩ := Int.eq_ofNat_of_zero_le (a := a1) (by omega)
    obtain ⟨k, rfl⟩ := Int.eq_ofNat_of_zero_le (a := a3) (by omega)
    exact main p c k b w (by omega) (by omega) (by omega) (by omega)

end Go.Proofs.Ythbpkdmniaapaaa.DiskCuts
