/-
  Read. Conditions: none.
-/
import Derived.Test.YtbepanhndpkdhaaActs
namespace Go.Proofs.Ytbepanhndpkdhaa.Cd
open Go.RowKit

/-- What Read answers. -/
def readR (P : Pd) (s : List UInt8) (i : Int) : List UInt8 × Nat := if P.off = true then ([], 8) else match P.files s with
  | none => ([], 5)
  | some k => match lst P.now (k, i) with
    | none => ([], 5)
    | some p => (p, 0)

/-- What Read leaves. -/
def ReadIs (P : Pd) (s : List UInt8) (i : Int) (w : World) (e : Ending) (w' : World) : Prop :=
  (∃ p, readR P s i = (p, 0) ∧ p.length = 512 ∧ e = .returned (.tuple #[.slice (some ⟨w.heap.size, 0, none⟩) 512 512, .int .i64 0]) ∧ w' = w.alloc (.cells (vb p).toArray 81)) ∨
    ∃ n : Nat, n ≠ 0 ∧ readR P s i = ([], n) ∧ e = .returned (.tuple #[.slice none 0 0, .int .i64 n]) ∧ Below w.heap.size w w'

set_option maxRecDepth 100000 in
set_option maxHeartbeats 1600000 in
theorem read_disk (g N : Nat) (S : Nat → Prop) (P : Pd) (s : List UInt8) (i : Int) (w : World) (h : Rep w g S P N) (hs : s.length ≤ 140737488355328) (hi : (Lit.int .i64 i).wf = true) :
    Calls Try.prog 17 #[.pointer (some ⟨g, 0, none⟩), .string ⟨s.toArray⟩, .int .i64 i] w (ReadIs P s i w) := by
  have hfi := find_any g N S P s w h hs
  rcases actR_find (P := P) (s := s) (Q := fun _ => P) with ⟨hoff, hf, _⟩ | ⟨hoff, hq, hf, _⟩ | ⟨k, hoff, hq, hf, _⟩
  · have hr : readR P s i = ([], 8) := by unfold readR; rw [if_pos hoff]
    rw [hf] at hfi
    have HF := Lib.hid hfi
    have HR := Lib.hid hr
    clear hfi h hf hr
    go_enter Try.func17, Try.ntmps17
    go_wp2_with fail
    refine HF.out.mono ?_
    rintro e w1 ⟨rfl, rfl⟩
    go_wp2_with fail
    go_ret2
    exact .inr ⟨8, by omega, HR.out, rfl, Below.refl _ _⟩
  · have hr : readR P s i = ([], 5) := by unfold readR; rw [if_neg (by rw [hoff]; simp), hq]
    rw [hf] at hfi
    have HF := Lib.hid hfi
    have HR := Lib.hid hr
    clear hfi h hf hr
    go_enter Try.func17, Try.ntmps17
    go_wp2_with fail
    refine HF.out.mono ?_
    rintro e w1 ⟨rfl, rfl⟩
    go_wp2_with fail
    go_ret2
    exact .inr ⟨5, by omega, HR.out, rfl, Below.refl _ _⟩
  · obtain ⟨bf, c1, p1, c2, p2, lv, hd⟩ := h
    have d4 : w.cell? ⟨g, 4, none⟩ = some (.map (some p1)) := cell_of_row _ _ _ _ _ _ hd.row
    have hk : k ≤ lim := by have h1 := hd.fits.files s k hq; have h2 := hd.fits.made; have h3 := hd.fits.top; unfold lim; omega
    have hlk := pg_look hd.now.pgs hk hi
    have hokv := fun p hp => MapF.okv hd.now.pgs (x := (k, i)) ⟨hk, hi⟩ (v := p) hp
    rw [hf] at hfi
    have HF := Lib.hid hfi
    obtain ⟨p, hp⟩ : ∃ p, (lst P.now (k, i)).getD nought = p := ⟨_, rfl⟩
    have hpl : p.length = 512 := by
      rw [← hp]
      cases hl : lst P.now (k, i) with
      | none => exact nought_len
      | some q => exact hokv q hl
    rw [hp] at hlk
    have hst : ∀ w' : World, (storeCells ⟨w'.heap.size, 0, none⟩ (vb p) 0).run Try.prog (w'.alloc (.cells Try.zeroCells81 81)) = .ok () (w'.alloc (.cells (vb p).toArray 81)) := fun w' => by
      have := run_storeCells_new (P := Try.prog) w' 81 Try.zeroCells81 (vb p).toArray (by rw [List.size_toArray, vb_length, hpl]; kernel_rfl) (by rw [zero_page, List.size_toArray, List.size_toArray, vb_length, vb_length, nought_len, hpl]) (all_oneCell_toArray (vb_one p))
      simpa using this
    have hsz : (vb p).length = 512 := by rw [vb_length]; exact hpl
    cases hl : lst P.now (k, i) with
    | none =>
      have hr : readR P s i = ([], 5) := by unfold readR; rw [if_neg (by rw [hoff]; simp), hq]; simp only [hl]
      rw [hl] at hlk
      have HR := Lib.hid hr
      clear hfi hf hr hd hokv hl hp
      go_enter Try.func17, Try.ntmps17
      go_wp2_with fail
      refine HF.out.mono ?_
      rintro e w1 ⟨rfl, rfl⟩
      go_wp2_with fail
      go_ret2
      exact .inr ⟨5, by omega, HR.out, rfl, (Below.refl _ _).alloc (Nat.le_refl _) _⟩
    | some q =>
      have hqp : q = p := by rw [← hp, hl]; rfl
      have hr : readR P s i = (p, 0) := by unfold readR; rw [if_neg (by rw [hoff]; simp), hq]; simp only [hl]; rw [hqp]
      rw [hl] at hlk
      have HR := Lib.hid hr
      clear hfi hf hr hd hokv hl hp hqp
      go_enter Try.func17, Try.ntmps17
      go_wp2_with fail
      refine HF.out.mono ?_
      rintro e w1 ⟨rfl, rfl⟩
      go_wp2_with fail
      go_ret2
      exact .inl ⟨p, HR.out, hpl, rfl, rfl⟩

end Go.Proofs.Ytbepanhndpkdhaa.Cd
