/-
  code.Int, code.Text, and the reference's Uint, Int, Text. Conditions: none.
-/
import Derived.Test.YtabogconbjdcgaaUint
import Derived.Deep.RegionWith
import Derived.Deep.DeepFit
namespace Go.Proofs.Ytabogconbjdcgaa.Cd
open Go.RowKit

theorem uint_int (v : Value) (bs : List UInt8) (x : Int) (w : World) (hs : Sl w w.heap.size v bs) (h0 : 0 ≤ x) (hk : x < 18446744073709551616) (hb : bs.length + 10 ≤ 140737488355328) :
    Calls Try.prog 60 #[v, .int .u64 x] w (Wrote w (bs ++ enc x.toNat)) := by
  have := uint_any v bs x.toNat w hs (by omega) hb
  rwa [Int.toNat_of_nonneg h0] at this

set_option maxHeartbeats 400000 in
theorem int_any (v : Value) (bs : List UInt8) (n : Int) (w : World) (hs : Sl w w.heap.size v bs) (h0 : -9223372036854775808 ≤ n) (h1 : n ≤ 9223372036854775807) (hb : bs.length + 10 ≤ 140737488355328) :
    Calls Try.prog 43 #[v, .int .i64 n] w (Wrote w (bs ++ enc (zig n))) := by
  by_cases hn : n < 0
  · have hz : Hid (zig n = (2 * (-(n + 1)) + 1).toNat) := by unfold Hid zig; rw [if_neg (by omega)]
    go_enter Try.func43, Try.ntmps43
    go_wp2_with fail
    refine (uint_int v bs _ w hs (by omega) (by omega) hb).mono ?_
    rintro e w' ⟨v', rfl, hown, hbel⟩
    go_wp2_with fail
    go_ret
    refine ⟨v', rfl, ?_, hbel⟩
    have e1 := hz.out
    rw [e1]
    rwa [show -(n + 1) * 2 + 1 = 2 * (-(n + 1)) + 1 by omega] at hown
  · have hz : Hid (zig n = (2 * n).toNat) := by unfold Hid zig; rw [if_pos (by omega)]
    go_enter Try.func43, Try.ntmps43
    go_wp2_with fail
    refine (uint_int v bs _ w hs (by omega) (by omega) hb).mono ?_
    rintro e w' ⟨v', rfl, hown, hbel⟩
    go_wp2_with fail
    go_ret
    refine ⟨v', rfl, ?_, hbel⟩
    have e1 := hz.out
    rw [e1]
    rwa [show n * 2 = 2 * n by omega] at hown

set_option maxHeartbeats 400000 in
theorem text_any (v : Value) (bs : List UInt8) (s : ByteArray) (w : World) (hs : Sl w w.heap.size v bs) (hb : bs.length + 10 + s.size ≤ 140737488355328) :
    Calls Try.prog 44 #[v, .string s] w (Wrote w (bs ++ (enc s.size ++ s.data.toList))) := by
  have hl := enc_u64 s.size (by omega)
  go_enter Try.func44, Try.ntmps44
  go_wp2_with fail
  refine (uint_int v bs _ w hs (by omega) (by omega) (by omega)).mono ?_
  rintro e w' ⟨v', rfl, hown, hbel⟩
  have hsz := hbel.size
  go_wp2_with (at_builtin; refine wp_append_text rfl _ _ rfl w.heap.size _ (bs ++ enc s.size) rfl ?ho ?hB s rfl ?hm ?hK)
  case ho => rw [Int.toNat_natCast] at hown; exact hown
  case hB => omega
  case hm => simp; omega
  case hK =>
    intro v2 w2 hown2 hbel2
    go_wp2_with fail
    go_ret
    exact ⟨v2, rfl, by simpa using hown2, hbel.trans hbel2⟩

end Go.Proofs.Ytabogconbjdcgaa.Cd
