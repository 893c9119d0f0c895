/-
  A slice of parts: how it is read. Conditions: none.
-/
import Derived.Test.YtcfcjknppeeadaaMem
import Derived.Deep.Slices
import Derived.Deep.Fields
import Derived.ChangeSame
import Derived.OpenShut
import Derived.LoopTactic
import Derived.Laws.Rows
namespace Go.Proofs.Ytcfcjknppeeadaa.Cd
open Go.RowKit

/-- A part, as the law's text has it. -/
structure Prt where
  kind : Int
  u : Nat
  n : Int
  s : List UInt8
  lo : Int
  hi : Int

def Int64 (n : Int) : Prop := -9223372036854775808 ≤ n ∧ n ≤ 9223372036854775807
structure Prt.Ok (p : Prt) : Prop where
  kind : Int64 p.kind
  u : p.u < 18446744073709551616
  n : Int64 p.n
  s : p.s.length ≤ maxLen
  lo : Int64 p.lo
  hi : Int64 p.hi

/-- Its cells. -/
def Prt.cells (p : Prt) : List Value := [.int .i64 p.kind, .int .u64 p.u, .int .i64 p.n, .string ⟨p.s.toArray⟩, .int .i64 p.lo, .int .i64 p.hi]

/-- A slice value that reads as the parts 'ps'. -/
def Parts (w : World) (B : Nat) (v : Value) (ps : List Prt) : Prop :=
  ∃ A c, v = .slice A ps.length c ∧ ps.length ≤ maxLen ∧ (∀ p ∈ ps, p.Ok) ∧
    (0 < ps.length → ∃ b off, A = some ⟨b, off, none⟩ ∧ b < B ∧ ∀ i p, ps[i]? = some p → ∀ j u, p.cells[j]? = some u → w.cell? ⟨b, off + i * 6 + j, none⟩ = some u)

theorem Parts.below {w w' : World} {B : Nat} {v : Value} {ps : List Prt} (h : Parts w B v ps) (hb : Below B w w') : Parts w' B v ps := by
  obtain ⟨A, c, h1, h2, h3, h4⟩ := h
  refine ⟨A, c, h1, h2, h3, fun hp => ?_⟩
  obtain ⟨b, off, e, hB, hc⟩ := h4 hp
  exact ⟨b, off, e, hB, fun i p hi j u hu => (hb.cell (p := ⟨b, off + i * 6 + j, none⟩) hB).trans (hc i p hi j u hu)⟩

theorem Parts.more {w : World} {B B' : Nat} {v : Value} {ps : List Prt} (h : Parts w B v ps) (hB : B ≤ B') : Parts w B' v ps := by
  obtain ⟨A, c, h1, h2, h3, h4⟩ := h
  refine ⟨A, c, h1, h2, h3, fun hp => ?_⟩
  obtain ⟨b, off, e, h5, hc⟩ := h4 hp
  exact ⟨b, off, e, Nat.lt_of_lt_of_le h5 hB, hc⟩

/-- How many bytes the texts have. -/
def total : List Prt → Nat
  | [] => 0
  | p :: r => p.s.length + total r
theorem total_append (a b : List Prt) : total (a ++ b) = total a + total b := by
  induction a with
  | nil => simp [total]
  | cons p r ih => simp [total, ih]; omega
theorem total_snoc (l : List Prt) (k : Nat) (p : Prt) (h : l[k]? = some p) : total (l.take (k + 1)) = total (l.take k) + p.s.length := by
  obtain ⟨hk, rfl⟩ := List.getElem?_eq_some_iff.1 h
  rw [List.take_succ_eq_append_getElem hk, total_append]
  simp [total]
theorem total_le (l : List Prt) (k : Nat) : total (l.take k) ≤ total l := by
  have h := total_append (l.take k) (l.drop k)
  rw [List.take_append_drop] at h
  omega

def big (ps : List Prt) : Bool := decide (16384 < total ps) || decide (200 < ps.length)

set_option maxRecDepth 100000 in
set_option maxHeartbeats 800000 in
theorem great_any (v : Value) (ps : List Prt) (w : World) (h : Parts w w.heap.size v ps) (hS0 : ∀ p ∈ ps, p.s.length ≤ 140737488355328) :
    Calls Try.prog 11 #[v] w fun e w' => e = .returned (.bool (big ps)) ∧ Below w.heap.size w w' := by
  obtain ⟨A, c, rfl, hm, hok, hp⟩ := h
  have HP := Lib.hid hp
  have HO := Lib.hid hok
  have hS := Lib.hid hS0
  clear hp hok hS0
  have hm2 : ps.length ≤ 9223372036854775807 := by unfold maxLen at hm; omega
  clear hm
  go_enter Try.func11, Try.ntmps11
  go_wp2
  go_loopw [3, 8] (fun n i wr => ∃ (k : Nat), i = .int .i64 k ∧ k ≤ ps.length ∧ n = .int .i64 (total (ps.take k) : Nat) ∧ total (ps.take k) ≤ 16384 ∧ Below w.heap.size w wr) (fun _ i _ => ps.length - (intOf i).toNat)
  case atStart => exact ⟨0, rfl, by omega, rfl, by simp [total], Below.refl _ _⟩
  case round =>
    obtain ⟨k, rfl, hk, rfl, ht, hb⟩ := hrel
    by_cases hlt : k < ps.length
    · obtain ⟨b, off, rfl, hB, hc⟩ := HP.out (by omega)
      obtain ⟨p, hpk⟩ : ∃ p, ps[k]? = some p := ⟨ps[k], List.getElem?_eq_getElem hlt⟩
      have hcell : ∀ j u, p.cells[j]? = some u → wr.cell? ⟨b, off + k * 6 + j, none⟩ = some u := fun j u hu => (hb.cell (p := ⟨b, off + k * 6 + j, none⟩) hB).trans (hc k p hpk j u hu)
      have c0 : wr.cell? ⟨b, off + k * 6, none⟩ = some (.int .i64 p.kind) := hcell 0 _ rfl
      have c1 := hcell 1 _ rfl
      have c2 := hcell 2 _ rfl
      have c3 := hcell 3 _ rfl
      have c4 := hcell 4 _ rfl
      have c5 := hcell 5 _ rfl
      clear hc hcell
      have hs : p.s.length ≤ 9223372036854775807 - 16384 ∨ 9223372036854775807 - 16384 < p.s.length := by omega
      have hs47 : p.s.length ≤ 140737488355328 := hS.out p (List.mem_of_getElem? hpk)
      have hsn := total_snoc ps k p hpk
      have htl := total_le ps (k + 1)
      have HSN := Lib.hid hsn
      by_cases hov : 16384 < total (ps.take k) + p.s.length
      · have hbig : Hid (big ps = true) := by unfold Hid big; rw [decide_eq_true (by omega : 16384 < total ps)]; rfl
        clear hsn htl
        go_wp2
        go_ret
        exact ⟨by rw [hbig.out]; rfl, hb.alloc hb.size _⟩
      · clear hsn htl hs
        go_wp2
        go_roundw
        case rel => exact ⟨k + 1, by go_num, by omega, by rw [HSN.out]; go_num, by rw [HSN.out]; omega, hb.alloc hb.size _⟩
        case measure => simp [intOf]; omega
    · have hkl : k = ps.length := by omega
      have htk : Hid (total (ps.take k) = total ps) := by unfold Hid; rw [hkl, List.take_of_length_le (Nat.le_refl _)]
      have hbig : Hid (big ps = decide (200 < ps.length)) := by
        have := htk.out
        unfold Hid big
        rw [decide_eq_false (by omega : ¬ 16384 < total ps)]
        simp
      clear hkl htk
      go_wp2
      go_ret
      refine ⟨?_, hb⟩
      rw [hbig.out]
      show Ending.returned (Value.bool (decide ((200 : Int) < (ps.length : Int)))) = _
      congr 2
      rw [decide_eq_decide]
      omega

end Go.Proofs.Ytcfcjknppeeadaa.Cd
