/-
  alive answers true. Conditions: none.
-/
import Derived.Test.YtflgokbkkoobkaaDoorMore
namespace Go.Proofs.YtflgokbkkoobkaaDoor.Cd
open Go.RowKit

theorem sum_nil (w : World) : Calls Tryd.prog 20 #[.slice none 0 0] w fun e w' => e = .returned (.int .u64 14695981039346656037) ∧ w = w' := sum_any _ [] w (Sls.nil w 0)

theorem a_sum : mor fnv0 [97] = 12638187200555641996 := by decide

/-- One slice, laid out a moment ago. -/
theorem Sls.one {w : World} {B : Nat} (x : Value) (bs : List UInt8) (h : Sl w B x bs) (hB : B ≤ w.heap.size) (T : TypeId) :
    Sls (w.alloc (.cells #[x] T)) (w.heap.size + 1) (.slice (some ⟨w.heap.size, 0, none⟩) 1 1) [bs] :=
  Sls.new [x] [bs] rfl (by simp [maxLen]) (fun i hi hx => by
    obtain rfl : i = 0 := by simp at hi; omega
    exact h) hB 1 rfl T #[x] rfl

theorem Sls.two {w : World} {B : Nat} (x y : Value) (a b : List UInt8) (h : Sl w B x a) (h2 : Sl w B y b) (hB : B ≤ w.heap.size) (T : TypeId) :
    Sls (w.alloc (.cells #[x, y] T)) (w.heap.size + 1) (.slice (some ⟨w.heap.size, 0, none⟩) 2 2) [a, b] :=
  Sls.new [x, y] [a, b] rfl (by simp [maxLen]) (fun i hi hx => by
    rcases (by simp at hi; omega : i = 0 ∨ i = 1) with rfl | rfl
    · exact h
    · exact h2) hB 2 rfl T #[x, y] rfl


end Go.Proofs.YtflgokbkkoobkaaDoor.Cd
