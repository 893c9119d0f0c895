/-
  alive answers true. Conditions: none.
-/
import Derived.Test.YtcfcjknppeeadaaWriters
import Derived.Test.YtcfcjknppeeadaaReads
namespace Go.Proofs.Ytcfcjknppeeadaa.Cd
open Go.RowKit

/-- What a call leaves that answers one value and writes to nothing that was there. -/
def Gives (v : Value) (w : World) (e : Ending) (w' : World) : Prop := e = .returned v ∧ Below w.heap.size w w'

theorem below_of_grown {w0 w w' : World} {g B : Nat} (h : Below B w0 w) (hg : w.grownBy w' (some g)) (hB : B ≤ w.heap.size) (hr : B ≤ g) : Below B w0 w' :=
  h.grown hg hB (fun k hk => by injection hk with hk; omega)

theorem below_drewN {B : Nat} {a w : World} (h : Below B a w) (n : Nat) : Below B a (w.drewN n) := ⟨h.os, h.tape, h.output, h.size, h.block⟩

theorem asz (w : World) (o : Obj) : (w.alloc o).heap.size = w.heap.size + 1 := by simp

theorem sl_new (w : World) (cs : List UInt8) (xs : Array Value) (hx : xs = (vb cs).toArray) (hm : cs.length ≤ maxLen) (n : Nat) (hn : n = cs.length) :
    Sl (w.alloc (.cells xs 5)) (w.alloc (.cells xs 5)).heap.size (.slice (some ⟨w.heap.size, 0, none⟩) n n) cs := by
  subst hx hn
  refine ⟨_, cs.length, rfl, Nat.le_refl _, hm, (fun h => by cases h), (fun ad e _ => by injection e with e; subst e; simp), fun ad e j u hu => ?_⟩
  injection e with e
  subst e
  rw [Addr.add_lit, Nat.zero_add]
  have := cell_of_row (w.alloc (.cells (vb cs).toArray 5)) w.heap.size j (vb cs).toArray 5 (0, 0) (heap_alloc_new w _)
  rw [this]
  simpa using hu

theorem alive_bytes : [] ++ enc 300 ++ enc (zig (-1)) = [172, 2, 1] := by
  rw [enc_hi (n := 300) (by omega), enc_lo (by omega), show zig (-1) = 1 from rfl, enc_lo (by omega)]
  decide

theorem alive_bad : Bad [172, 130, 0] := by decide

set_option maxRecDepth 100000 in
set_option maxHeartbeats 800000 in
theorem alive_any (w : World) : Calls Try.prog 10 #[] w (Gives (.bool true) w) := by
  go_enter Try.func10, Try.ntmps10
  go_wp2_with fail
  refine (uint_int _ [] _ w (Sl.nil _ _) (by omega) (by omega) (by simp)).mono ?_
  rintro e w1 ⟨v1, rfl, ho1, hb1⟩
  go_wp2_with fail
  refine (int_any _ _ _ w1 ho1.sl (by omega) (by omega) (by have := enc_u64 300 (by omega); simp; omega)).mono ?_
  rintro e w2 ⟨v2, rfl, ho2, hb2⟩
  rw [show Int.toNat 300 = 300 from rfl, alive_bytes] at ho2
  go_wp2_with fail
  refine (read_any _ [172, 130, 0] _ (sl_new w2 [172, 130, 0] #[.int .u8 172, .int .u8 130, .int .u8 0] rfl (by simp [maxLen]) 3 rfl)).mono ?_
  rintro e w3 ⟨rfl, hr3, hb3⟩
  have hcv := run_text_of w3 _ v2 _ ((ho2.sl.below ((Below.refl _ _).alloc (Nat.le_refl _) _)).below (hb3.mono (by simp)))
  have hnv : nv [172, 130, 0] = 0 := nv_bad alive_bad
  have hsz : w.heap.size ≤ w2.heap.size := Nat.le_trans hb1.size hb2.size
  have hb : Below w.heap.size w w3 := ((hb1.trans (hb2.mono hb1.size)).trans ((Below.refl _ _).alloc hsz _)).trans (hb3.mono (by simp; omega))
  have hs3 := hb3.size
  rw [asz] at hr3 hs3
  have HR := Lib.hid hr3
  have HN := Lib.hid hnv
  clear hnv hr3
  go_wp2_with fail
  refine (ruint_any _ _ _ _ HR.out (Sane.start _) (by simp)).mono ?_
  rintro e w4 ⟨rfl, hl4⟩
  rw [HN.out]
  go_wp2_with fail
  refine (good_any _ _ _ _ hl4.1).mono ?_
  rintro e w5 ⟨rfl, rfl⟩
  have hx : uX [172, 130, 0] = true := decide_eq_true alive_bad
  go_wp2_with fail
  go_ret
  exact ⟨rfl, below_of_grown hb hl4.2 (by omega) (by omega)⟩

end Go.Proofs.Ytcfcjknppeeadaa.Cd
