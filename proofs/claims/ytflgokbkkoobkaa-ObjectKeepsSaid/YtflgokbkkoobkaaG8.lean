/-
  The reference's Uint, Int, Text. Conditions: none.
-/
import Derived.Test.YtflgokbkkoobkaaG2
import Derived.Deep.RegionWith
import Derived.Deep.DeepFit

namespace Go.Proofs.Ytflgokbkkoobkaa.Cd
open Go.RowKit
end Go.Proofs.Ytflgokbkkoobkaa.Cd


namespace Go.Proofs.Ytflgokbkkoobkaa.Cd
open Go.RowKit
end Go.Proofs.Ytflgokbkkoobkaa.Cd

/-
  code.Int, code.Text, and the reference's Uint, Int, Text. Conditions: none.
-/
namespace Go.Proofs.Ytflgokbkkoobkaa.Cd
open Go.RowKit

theorem uint_int (v : Value) (bs : List UInt8) (x : Int) (w : World) (hs : Sl w w.heap.size v bs) (h0 : 0 ≤ x) (hk : x < 18446744073709551616) (hb : bs.length + 10 ≤ 140737488355328) :
    Calls Try.prog 29 #[v, .int .u64 x] w (Wrote w (bs ++ enc x.toNat)) := by
  have := uint_any v bs x.toNat w hs (by omega) hb
  rwa [Int.toNat_of_nonneg h0] at this

set_option maxHeartbeats 400000 in
theorem int_any (v : Value) (bs : List UInt8) (n : Int) (w : World) (hs : Sl w w.heap.size v bs) (h0 : -9223372036854775808 ≤ n) (h1 : n ≤ 9223372036854775807) (hb : bs.length + 10 ≤ 140737488355328) :
    Calls Try.prog 18 #[v, .int .i64 n] w (Wrote w (bs ++ enc (zig n))) := by
  by_cases hn : n < 0
  · have hz : Hid (zig n = (2 * (-(n + 1)) + 1).toNat) := by unfold Hid zig; rw [if_neg (by omega)]
    go_enter Try.func18, Try.ntmps18
    go_wp2_with fail
    refine (uint_int v bs _ w hs (by omega) (by omega) hb).mono ?_
    rintro e w' ⟨v', rfl, hown, hbel⟩
    go_wp2_with fail
    go_ret
    refine ⟨v', rfl, ?_, hbel⟩
    have e1 := hz.out
    rw [e1]
    rwa [show -(n + 1) * 2 + 1 = 2 * (-(n + 1)) + 1 by omega] at hown
  · have hz : Hid (zig n = (2 * n).toNat) := by unfold Hid zig; rw [if_pos (by omega)]
    go_enter Try.func18, Try.ntmps18
    go_wp2_with fail
    refine (uint_int v bs _ w hs (by omega) (by omega) hb).mono ?_
    rintro e w' ⟨v', rfl, hown, hbel⟩
    go_wp2_with fail
    go_ret
    refine ⟨v', rfl, ?_, hbel⟩
    have e1 := hz.out
    rw [e1]
    rwa [show n * 2 = 2 * n by omega] at hown

set_option maxHeartbeats 400000 in
theorem text_any (v : Value) (bs : List UInt8) (s : ByteArray) (w : World) (hs : Sl w w.heap.size v bs) (hb : bs.length + 10 + s.size ≤ 140737488355328) :
    Calls Try.prog 19 #[v, .string s] w (Wrote w (bs ++ (enc s.size ++ s.data.toList))) := by
  have hl := enc_u64 s.size (by omega)
  go_enter Try.func19, Try.ntmps19
  go_wp2_with fail
  refine (uint_int v bs _ w hs (by omega) (by omega) (by omega)).mono ?_
  rintro e w' ⟨v', rfl, hown, hbel⟩
  have hsz := hbel.size
  go_wp2_with (at_builtin; refine wp_append_text rfl _ _ rfl w.heap.size _ (bs ++ enc s.size) rfl ?ho ?hB s rfl ?hm ?hK)
  case ho => rw [Int.toNat_natCast] at hown; exact hown
  case hB => omega
  case hm => simp; omega
  case hK =>
    intro v2 w2 hown2 hbel2
    go_wp2_with fail
    go_ret
    exact ⟨v2, rfl, by simpa using hown2, hbel.trans hbel2⟩

end Go.Proofs.Ytflgokbkkoobkaa.Cd

/-
  The reference's Uint, Int, Text. Conditions: none.
-/
namespace Go.Proofs.Ytflgokbkkoobkaa.Cd
open Go.RowKit

/-- What the reference's writers leave. -/
def Said (w : World) (bs : List UInt8) (e : Ending) (w' : World) : Prop := e = .returned (.string ⟨bs.toArray⟩) ∧ Below w.heap.size w w'

theorem add_text (W : World) (a b : List UInt8) (h : a.length + b.length ≤ 9223372036854775807) :
    (Op.stringOp .add ⟨a.toArray⟩ ⟨b.toArray⟩).run Try.prog W = .ok (.string ⟨(a ++ b).toArray⟩) W := by
  rw [run_string_add_sum _ _ _ (by simpa [ByteArray.size] using h)]
  rw [ByteArray.mk_append_mk]

set_option maxRecDepth 100000 in
set_option maxHeartbeats 400000 in
theorem ref_uint_lo (n : Nat) (w : World) (hc : n < 128) :
    Calls Try.prog 30 #[.int .u64 n] w (Said w (enc n)) := by
  have hcv := run_text_one (w.alloc (.cells #[.int .u8 n] 5)) w.heap.size 1 n (lo8 n) (by rw [lo8_nat hc]) (by simp)
  have HE : Hid (enc n = [lo8 n]) := enc_lo hc
  go_enter Try.func30, Try.ntmps30
  go_wp2_with fail
  go_ret
  exact ⟨by rw [HE.out]; rfl, (Below.refl _ _).alloc (Nat.le_refl _) _⟩

set_option maxRecDepth 100000 in
set_option maxHeartbeats 400000 in
theorem ref_uint_any (n : Nat) : ∀ (w : World), n < 18446744073709551616 →
    Calls Try.prog 30 #[.int .u64 n] w (Said w (enc n)) := by
  induction n using Nat.strongRecOn with
  | _ n ih =>
    intro w hn
    by_cases hc : n < 128
    · exact ref_uint_lo n w hc
    · have IH := fun W => ih (n / 128) (by omega) W (by omega)
      have IH2 := Lib.hid IH
      clear IH ih
      have HE : Hid (enc n = hi8 n :: enc (n / 128)) := enc_hi (by omega)
      have E1 : IntKind.u8.wrap (IntKind.u64.wrap (128 + (n : Int).tmod 128)) = ((hi8 n).toNat : Int) := by
        rw [hi8_nat, Int.tmod_eq_emod_of_nonneg (by omega), IntKind.wrap_u64, IntKind.wrap_u8']; omega
      have E2 : IntKind.u64.wrap ((n : Int) / 128) = ((n / 128 : Nat) : Int) := by rw [IntKind.wrap_u64]; omega
      have hcv := fun (W : World) (g : Nat) => run_text_one W g 1 _ (hi8 n) rfl
      have hadd := fun W => add_text W [hi8 n] (enc (n / 128)) (by have := enc_u64 (n / 128) (by omega); simp; omega)
      go_enter Try.func30, Try.ntmps30
      go_wp2_with fail
      go_region_with (go_at_call 30; refine (IH2.out _).mono ?_; rintro e w1 ⟨rfl, hb1⟩; first | (have hcell : w1.cell? ⟨w.heap.size, 0, none⟩ = some (.int .u8 (hi8 n).toNat) := by (rw [hb1.cell (by simp)]; simp)) | skip)
      all_goals
        go_wp2_with fail
        go_ret
        refine ⟨by rw [HE.out]; rfl, ?_⟩
        first
          | exact ((Below.refl _ _).alloc (Nat.le_refl _) _).drew.trans (hb1.mono (by simp))
          | exact ((Below.refl _ _).drew.trans hb1).alloc hb1.size _

theorem ref_uint_int (x : Int) (w : World) (h0 : 0 ≤ x) (h1 : x < 18446744073709551616) : Calls Try.prog 30 #[.int .u64 x] w (Said w (enc x.toNat)) := by
  have := ref_uint_any x.toNat w (by omega)
  rwa [Int.toNat_of_nonneg h0] at this

set_option maxHeartbeats 400000 in
theorem ref_int_any (n : Int) (w : World) (h0 : -9223372036854775808 ≤ n) (h1 : n ≤ 9223372036854775807) :
    Calls Try.prog 23 #[.int .i64 n] w (Said w (enc (zig n))) := by
  by_cases hn : n < 0
  · have hz : Hid (zig n = (2 * (-(n + 1)) + 1).toNat) := by unfold Hid zig; rw [if_neg (by omega)]
    go_enter Try.func23, Try.ntmps23
    go_wp2_with fail
    refine (ref_uint_int _ w (by omega) (by omega)).mono ?_
    rintro e w' ⟨rfl, hbel⟩
    go_wp2_with fail
    go_ret
    exact ⟨by rw [hz.out]; rfl, hbel⟩
  · have hz : Hid (zig n = (2 * n).toNat) := by unfold Hid zig; rw [if_pos (by omega)]
    go_enter Try.func23, Try.ntmps23
    go_wp2_with fail
    refine (ref_uint_int _ w (by omega) (by omega)).mono ?_
    rintro e w' ⟨rfl, hbel⟩
    go_wp2_with fail
    go_ret
    exact ⟨by rw [hz.out]; rfl, hbel⟩

set_option maxHeartbeats 400000 in
theorem ref_text_any (s : ByteArray) (w : World) (hb : s.size ≤ 140737488355328) :
    Calls Try.prog 21 #[.string s] w (Said w (enc s.size ++ s.data.toList)) := by
  have hl := enc_u64 s.size (by omega)
  have hadd := fun W => add_text W (enc s.size) s.data.toList (by have : s.data.toList.length = s.size := rfl; omega)
  go_enter Try.func21, Try.ntmps21
  go_wp2_with fail
  refine (ref_uint_int _ w (by omega) (by omega)).mono ?_
  rintro e w' ⟨rfl, hbel⟩
  rw [Int.toNat_natCast]
  go_wp2_with fail
  go_ret
  exact ⟨by simp, hbel⟩

end Go.Proofs.Ytflgokbkkoobkaa.Cd
