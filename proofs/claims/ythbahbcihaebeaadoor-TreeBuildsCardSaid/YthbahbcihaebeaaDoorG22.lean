/-
  The reference's Uint, Int, Text. Conditions: none.
-/
import Derived.Test.YthbahbcihaebeaaDoorG12
import Derived.Deep.RegionWith
namespace Go.Proofs.YthbahbcihaebeaaDoor.Cd
open Go.RowKit

/-- What the reference's writers leave. -/
def Said (w : World) (bs : List UInt8) (e : Ending) (w' : World) : Prop := e = .returned (.string ⟨bs.toArray⟩) ∧ Below w.heap.size w w'

theorem add_text (W : World) (a b : List UInt8) (h : a.length + b.length ≤ 9223372036854775807) :
    (Op.stringOp .add ⟨a.toArray⟩ ⟨b.toArray⟩).run Tryd.prog W = .ok (.string ⟨(a ++ b).toArray⟩) W := by
  rw [run_string_add_sum _ _ _ (by simpa [ByteArray.size] using h)]
  rw [ByteArray.mk_append_mk]

set_option maxRecDepth 100000 in
set_option maxHeartbeats 400000 in
theorem ref_uint_lo (n : Nat) (w : World) (hc : n < 128) :
    Calls Tryd.prog 35 #[.int .u64 n] w (Said w (enc n)) := by
  have hcv := run_text_one (w.alloc (.cells #[.int .u8 n] 5)) w.heap.size 1 n (lo8 n) (by rw [lo8_nat hc]) (by simp)
  have HE : Hid (enc n = [lo8 n]) := enc_lo hc
  go_enter Tryd.func35, Tryd.ntmps35
  go_wp2_with fail
  go_ret
  exact ⟨by rw [HE.out]; rfl, (Below.refl _ _).alloc (Nat.le_refl _) _⟩

set_option maxRecDepth 100000 in
set_option maxHeartbeats 400000 in
theorem ref_uint_any (n : Nat) : ∀ (w : World), n < 18446744073709551616 →
    Calls Tryd.prog 35 #[.int .u64 n] w (Said w (enc n)) := by
  induction n using Nat.strongRecOn with
  | _ n ih =>
    intro w hn
    by_cases hc : n < 128
    · exact ref_uint_lo n w hc
    · have IH := fun W => ih (n / 128) (by omega) W (by omega)
      have IH2 := Lib.hid IH
      clear IH ih
      have HE : Hid (enc n = hi8 n :: enc (n / 128)) := enc_hi (by omega)
      have E1 : IntKind.u8.wrap (IntKind.u64.wrap (128 + (n : Int).tmod 128)) = ((hi8 n).toNat : Int) := by
        rw [hi8_nat, Int.tmod_eq_emod_of_nonneg (by omega), IntKind.wrap_u64, IntKind.wrap_u8']; omega
      have E2 : IntKind.u64.wrap ((n : Int) / 128) = ((n / 128 : Nat) : Int) := by rw [IntKind.wrap_u64]; omega
      have hcv := fun (W : World) (g : Nat) => run_text_one W g 1 _ (hi8 n) rfl
      have hadd := fun W => add_text W [hi8 n] (enc (n / 128)) (by have := enc_u64 (n / 128) (by omega); simp; omega)
      go_enter Tryd.func35, Tryd.ntmps35
      go_wp2_with fail
      go_region_with (go_at_call 35; refine (IH2.out _).mono ?_; rintro e w1 ⟨rfl, hb1⟩; first | (have hcell : w1.cell? ⟨w.heap.size, 0, none⟩ = some (.int .u8 (hi8 n).toNat) := by (rw [hb1.cell (by simp)]; simp)) | skip)
      all_goals
        go_wp2_with fail
        go_ret
        refine ⟨by rw [HE.out]; rfl, ?_⟩
        first
          | exact ((Below.refl _ _).alloc (Nat.le_refl _) _).drew.trans (hb1.mono (by simp))
          | exact ((Below.refl _ _).drew.trans hb1).alloc hb1.size _

theorem ref_uint_int (x : Int) (w : World) (h0 : 0 ≤ x) (h1 : x < 18446744073709551616) : Calls Tryd.prog 35 #[.int .u64 x] w (Said w (enc x.toNat)) := by
  have := ref_uint_any x.toNat w (by omega)
  rwa [Int.toNat_of_nonneg h0] at this

set_option maxHeartbeats 400000 in
theorem ref_text_any (s : ByteArray) (w : World) (hb : s.size ≤ 140737488355328) :
    Calls Tryd.prog 27 #[.string s] w (Said w (enc s.size ++ s.data.toList)) := by
  have hl := enc_u64 s.size (by omega)
  have hadd := fun W => add_text W (enc s.size) s.data.toList (by have : s.data.toList.length = s.size := rfl; omega)
  go_enter Tryd.func27, Tryd.ntmps27
  go_wp2_with fail
  refine (ref_uint_int _ w (by omega) (by omega)).mono ?_
  rintro e w' ⟨rfl, hbel⟩
  rw [Int.toNat_natCast]
  go_wp2_with fail
  go_ret
  exact ⟨by simp, hbel⟩

end Go.Proofs.YthbahbcihaebeaaDoor.Cd
