/-
  Noughts: make([]byte, n), and the text of it. Conditions: none.
-/
import Derived.Test.YtbepanhndpkdhaaBase
import Derived.Deep.OwnRows
namespace Go.Proofs.Ytbepanhndpkdhaa.Cd
open Go.RowKit

def noughts (n : Nat) : List UInt8 := List.replicate n 0
theorem noughts_len (n : Nat) : (noughts n).length = n := List.length_replicate
theorem made_noughts (n : Nat) : madeCells #[.int .u8 0] n = (vb (noughts n)).toArray := by
  apply Array.ext'
  simp [madeCells, noughts, vb, List.map_replicate, Nat.mod_one, List.map_const']

theorem make_bytes (n : Nat) (h : n ≤ 140737488355328) (W : World) :
    (Instr.makeSlice 29 (.int .i64 (n : Int)) (.int .i64 (n : Int))).run Try.prog W = .ok (.slice (some ⟨W.heap.size, 0, none⟩) n n) (W.alloc (.cells (vb (noughts n)).toArray 5)) := by
  rw [run_make_row' 29 5 (.int .u8 0) 1 Try.underlying29 info5 rfl .i64 .i64 n (by omega) (by omega) W, made_noughts]
theorem sl_noughts (W : World) (n : Nat) (h : n ≤ 140737488355328) (fr : Nat × Nat) : Sl (W.alloc (.cells (vb (noughts n)).toArray 5 fr)) (W.heap.size + 1) (.slice (some ⟨W.heap.size, 0, none⟩) n n) (noughts n) :=
  sl_mark W (noughts n) _ rfl (by rw [noughts_len]; simp only [maxLen]; omega) n (noughts_len n).symm fr
/-- The text of noughts that were laid a moment ago. -/
theorem text_noughts (W : World) (n : Nat) (h : n ≤ 140737488355328) (g : Nat) (hg : W.heap.size = g) : (convert 29 9 (.slice (some ⟨g, 0, none⟩) n n)).run Try.prog (W.alloc (.cells (vb (noughts n)).toArray 5)) =
    .ok (.string ⟨(noughts n).toArray⟩) (W.alloc (.cells (vb (noughts n)).toArray 5)) := by
  subst hg
  exact run_text_of _ _ _ _ (sl_noughts W n h (0, 0))
theorem text_noughts2 (W : World) (n : Nat) (h : n ≤ 140737488355328) : (convert 29 9 (.slice (some ⟨W.heap.size, 0, none⟩) n n)).run Try.prog (W.alloc (.cells (vb (noughts n)).toArray 5)).drew =
    .ok (.string ⟨(noughts n).toArray⟩) (W.alloc (.cells (vb (noughts n)).toArray 5)).drew :=
  run_text_of _ _ _ _ ((sl_noughts W n h (0, 0)).below (Below.refl _ _).drew)

theorem add_text (W : World) (a b : List UInt8) (h : a.length + b.length ≤ 9223372036854775807) :
    (Op.stringOp .add ⟨a.toArray⟩ ⟨b.toArray⟩).run Try.prog W = .ok (.string ⟨(a ++ b).toArray⟩) W := by
  rw [run_string_add_sum _ _ _ (by simpa [ByteArray.size] using h)]
  rw [ByteArray.mk_append_mk]

end Go.Proofs.Ytbepanhndpkdhaa.Cd
