/-
  []byte(s), and slices of byte slices. Conditions: none.
-/
import Derived.Test.YtflgokbkkoobkaaDoorMem
namespace Go.Proofs.YtflgokbkkoobkaaDoor.Cd
open Go.RowKit

/-- A byte slice in a block that is known by its number. -/
def Row (w : World) (g c : Nat) (bs : List UInt8) : Prop := bs.length ≤ c ∧ c ≤ maxLen ∧ g < w.heap.size ∧ ∀ j u, (vb bs)[j]? = some u → w.cell? ⟨g, j, none⟩ = some u

theorem Row.keep {w w' : World} {g c B : Nat} {bs : List UInt8} (h : Row w g c bs) (hb : Below B w w') (hB : g < B) : Row w' g c bs :=
  ⟨h.1, h.2.1, Nat.lt_of_lt_of_le h.2.2.1 hb.size, fun j u hu => (hb.cell (p := ⟨g, j, none⟩) hB).trans (h.2.2.2 j u hu)⟩

theorem Row.sl {w : World} {g c : Nat} {bs : List UInt8} (h : Row w g c bs) : Sl w w.heap.size (.slice (some ⟨g, 0, none⟩) bs.length c) bs :=
  ⟨_, c, rfl, h.1, h.2.1, (fun h => by cases h), (fun ad e _ => by injection e with e; subst e; exact h.2.2.1), fun ad e j u hu => by
    injection e with e
    subst e
    rw [Addr.add_lit, Nat.zero_add]
    exact h.2.2.2 j u hu⟩

theorem Row.take {w : World} {g c : Nat} {bs : List UInt8} (h : Row w g c bs) (k : Nat) : Row w g c (bs.take k) :=
  ⟨by have := h.1; rw [List.length_take]; omega, h.2.1, h.2.2.1, fun j u hu => h.2.2.2 j u (by
    have hj := (List.getElem?_eq_some_iff.1 hu).1
    rw [vb_length, List.length_take] at hj
    rw [← hu]
    simp only [vb, List.map_take]
    rw [List.getElem?_take, if_pos (by omega)])⟩

theorem Row.slTake {w : World} {g c : Nat} {bs : List UInt8} (h : Row w g c bs) {k : Nat} (hk : k ≤ bs.length) : Sl w w.heap.size (.slice (some ⟨g, 0, none⟩) k c) (bs.take k) := by
  have h2 := (h.take k).sl
  rwa [List.length_take, Nat.min_eq_left hk] at h2

/-- []byte(s), for the walk. -/
theorem wp_bytes_of {w : World} {ops : Array Oper} {rest : List Oper} {o : Oper} {a : Act} {Q : Exit → Act → World → Prop} (hgd : o.guard = none) (x : Operand)
    (hop : o.op = .convert 9 22 x) (s : List UInt8) (hx : a.eval x = .string ⟨s.toArray⟩) (hs : s.length ≤ 140737488355328)
    (hK : ∀ g c w', Row w' g c s → w.heap.size ≤ g → Below w.heap.size w w' → wpList Tryd.prog ops Q rest (a.put o.dst (.slice (some ⟨g, 0, none⟩) s.length c)) w') : wpList Tryd.prog ops Q (o :: rest) a w := by
  refine wpList_plain hgd fun K hK' => ?_
  have hrun := Lib.run_convert_string_bytes (P := Tryd.prog) w 9 22 5 ⟨s.toArray⟩ Tryd.underlying9 Tryd.underlying22 Tryd.underlying5
  have hsz : (ByteArray.mk s.toArray).size = s.length := rfl
  rw [hsz] at hrun
  unfold Oper.wp
  simp [execOp, hop, hx, hrun, Result.andThen]
  refine hK' _ _ (hK _ _ _ ⟨grownCap_ge w s.length 0 5, grownCap_le_maxLen w s.length 0 5 (by simp only [maxLen]; omega), by rw [Lib.bytesWorld_size]; omega, fun j u hu => ?_⟩ (Nat.le_refl _) ⟨rfl, rfl, rfl, by rw [Lib.bytesWorld_size]; omega, fun k hk => Lib.bytesWorld_at_old w _ _ k hk⟩)
  have hj := (List.getElem?_eq_some_iff.1 hu).1
  rw [vb_length] at hj
  rw [Lib.bytesWorld_cell w 5 ⟨s.toArray⟩ j hj]
  rw [vb_at s j hj] at hu
  rw [← hu]
  simp [List.getD, hj]

end Go.Proofs.YtflgokbkkoobkaaDoor.Cd
