/-
  alive answers true. Conditions: none.
-/
import Derived.Test.YtkmdahffhpidnaaMore
namespace Go.Proofs.Ytkmdahffhpidnaa.Cd
open Go.RowKit

theorem sum_nil (w : World) : Calls Try.prog 10 #[.slice none 0 0] w fun e w' => e = .returned (.int .u64 14695981039346656037) ∧ w = w' := sum_any _ [] w (Sls.nil w 0)

theorem a_sum : mor fnv0 [97] = 12638187200555641996 := by decide

/-- One slice, laid out a moment ago. -/
theorem Sls.one {w : World} {B : Nat} (x : Value) (bs : List UInt8) (h : Sl w B x bs) (hB : B ≤ w.heap.size) (T : TypeId) :
    Sls (w.alloc (.cells #[x] T)) (w.heap.size + 1) (.slice (some ⟨w.heap.size, 0, none⟩) 1 1) [bs] :=
  Sls.new [x] [bs] rfl (by simp [maxLen]) (fun i hi hx => by
    obtain rfl : i = 0 := by simp at hi; omega
    exact h) hB 1 rfl T #[x] rfl

theorem Sls.two {w : World} {B : Nat} (x y : Value) (a b : List UInt8) (h : Sl w B x a) (h2 : Sl w B y b) (hB : B ≤ w.heap.size) (T : TypeId) :
    Sls (w.alloc (.cells #[x, y] T)) (w.heap.size + 1) (.slice (some ⟨w.heap.size, 0, none⟩) 2 2) [a, b] :=
  Sls.new [x, y] [a, b] rfl (by simp [maxLen]) (fun i hi hx => by
    rcases (by simp at hi; omega : i = 0 ∨ i = 1) with rfl | rfl
    · exact h
    · exact h2) hB 2 rfl T #[x, y] rfl

set_option maxRecDepth 100000 in
set_option maxHeartbeats 800000 in
theorem alive_any (w : World) : Calls Try.prog 8 #[] w (Gives (.bool true) w) := by
  go_enter Try.func8, Try.ntmps8
  go_wp2_with fail
  refine (sum_nil w).mono ?_
  rintro e w1 ⟨rfl, rfl⟩
  have kc := bytes_const
  have hs := sl_mark w [97] #[.int .u8 97] rfl (by simp [maxLen]) 1 rfl (1, 2)
  go_wp2_with fail
  have ha := sum_any _ [[97]] _ (Sls.one _ [97] hs (by simp) 25)
  rw [show mor fnv0 [[97]].flatten = 12638187200555641996 from a_sum] at ha
  rw [asz] at ha
  refine ha.mono ?_
  rintro e w1 ⟨rfl, rfl⟩
  clear ha hs
  go_wp2_with fail
  go_ret
  exact ⟨rfl, ((Below.refl _ _).alloc (Nat.le_refl _) _).alloc (by simp) _⟩

end Go.Proofs.Ytkmdahffhpidnaa.Cd
