/-
  object.goodPairs. Conditions: none.
-/
import Derived.Test.YtabogconbjdcgaaObName
import Derived.Lib.Hide
import Derived.BigQuiet
import Derived.Sort.Walk0
import Derived.Deep.MidRow
namespace Go.Proofs.Ytabogconbjdcgaa.Cd
open Go.RowKit

theorem less_of (a b : List UInt8) : Op.bytesLess a b = decide (a < b) := Go.Proofs.bytesLess_eq a b

/-! ### Pairs, kids, names as cells -/

def ppC (p : Bp) : List Value := [.string ⟨p.1.toArray⟩, .string ⟨p.2.toArray⟩]
def kkC (p : Kd) : List Value := .string ⟨p.1.toArray⟩ :: vb p.2.1
def iiC (p : Idn) : List Value := vb p.1

theorem kind_pp : Kind ppC 2 56 22 32 (.agg #[.string ByteArray.empty, .string ByteArray.empty]) where
  pos := by omega
  len := fun _ => rfl
  one := by
    intro x u hu
    simp only [ppC, List.mem_cons, List.not_mem_nil, or_false] at hu
    rcases hu with rfl | rfl <;> rfl
  slice := Try.underlying22
  info := by kernel_rfl
  zero := rfl
  few := by omega

theorem kind_kk : Kind kkC 34 59 23 56 (.agg (Value.string ByteArray.empty :: vb (zer 33)).toArray) where
  pos := by omega
  len := fun x => by simp [kkC, vb_length, x.2.2]
  one := by
    intro x u hu
    simp only [kkC, List.mem_cons] at hu
    rcases hu with rfl | hu
    · rfl
    · exact vb_one _ u hu
  slice := Try.underlying23
  info := by kernel_rfl
  zero := by simp [Value.cells, vb_length, zer_length]
  few := by omega

theorem kind_ii : Kind iiC 33 41 42 33 (.agg (vb (zer 33)).toArray) where
  pos := by omega
  len := fun x => by simp [iiC, vb_length, x.2]
  one := fun x u hu => vb_one _ u hu
  slice := Try.underlying42
  info := by kernel_rfl
  zero := by simp [Value.cells, vb_length, zer_length]
  few := by omega

abbrev PsIn := RwIn ppC 2
abbrev KsIn := RwIn kkC 34
abbrev IsIn := RwIn iiC 33

theorem PsIn.at2 {w : World} {B : Nat} {l : List Bp} {A : Option Addr} {m c : Nat} (h : PsIn w B (.slice A m c) l) {k : Nat} {p : Bp} (hk : l[k]? = some p) :
    ∃ b off, A = some ⟨b, off, none⟩ ∧ b < B ∧ w.cell? ⟨b, off + k * 2, none⟩ = some (.string ⟨p.1.toArray⟩) ∧ w.cell? ⟨b, off + k * 2 + 1, none⟩ = some (.string ⟨p.2.toArray⟩) := by
  obtain ⟨b, off, e, hB, hc⟩ := RwIn.at h hk
  exact ⟨b, off, e, hB, hc 0 _ rfl, hc 1 _ rfl⟩

/-- What a question answers. -/
def Says (P : Prop) (w : World) (e : Ending) (w' : World) : Prop := ∃ s : Bool, e = .returned (.bool s) ∧ (s = true ↔ P) ∧ Below w.heap.size w w'

theorem rises_of2 {α : Type} {l : List (List UInt8 × α)} (h : ∀ (j : Nat) a b, l[j]? = some a → l[j + 1]? = some b → a.1 < b.1) : Rises (l.map (·.1)) := by
  intro j a b ha hb
  rw [List.getElem?_map] at ha hb
  obtain ⟨p, hp, rfl⟩ := Option.map_eq_some_iff.1 ha
  obtain ⟨q, hq, rfl⟩ := Option.map_eq_some_iff.1 hb
  exact h j p q hp hq
theorem rises_of {l : List Bp} (h : ∀ (j : Nat) a b, l[j]? = some a → l[j + 1]? = some b → a.1 < b.1) : Rises (l.map (·.1)) := by
  intro j a b ha hb
  rw [List.getElem?_map] at ha hb
  obtain ⟨p, hp, rfl⟩ := Option.map_eq_some_iff.1 ha
  obtain ⟨q, hq, rfl⟩ := Option.map_eq_some_iff.1 hb
  exact h j p q hp hq
theorem rises_to {α : Type} {l : List (List UInt8 × α)} (h : Rises (l.map (·.1))) {j : Nat} {a b : List UInt8 × α} (ha : l[j]? = some a) (hb : l[j + 1]? = some b) : a.1 < b.1 :=
  h j a.1 b.1 (by rw [List.getElem?_map, ha]; rfl) (by rw [List.getElem?_map, hb]; rfl)

set_option maxRecDepth 100000 in
set_option maxHeartbeats 1600000 in
theorem goodps_any (v : Value) (l : List Bp) (w : World) (h : PsIn w w.heap.size v l) : Calls Try.prog 28 #[v] w (Says (GoodPs l) w) := by
  obtain ⟨A, c, rfl, hm1, hm2⟩ := h.len
  have H := Lib.hid h
  clear h
  by_cases hbig : 4 < l.length
  · have hno : Hid (¬ GoodPs l) := fun h => by have := h.few; omega
    have hbig' : (4 : Int) < l.length := by omega
    go_enter Try.func28, Try.ntmps28
    go_wp2_with fail
    go_ret
    exact ⟨false, rfl, ⟨(fun h => by cases h), fun h => absurd h hno.out⟩, Below.refl _ _⟩
  have hbig' : ¬ (4 : Int) < l.length := by omega
  go_enter Try.func28, Try.ntmps28
  go_wp2_with fail
  go_loopw [10] (fun i wr => ∃ k : Nat, i = .int .i64 k ∧ k ≤ l.length ∧ Hid (∀ (j : Nat) p, j < k → l[j]? = some p → p.1.length ≤ 16 ∧ p.2.length ≤ 16) ∧ Hid (∀ (j : Nat) a b, j + 1 < k → l[j]? = some a → l[j + 1]? = some b → a.1 < b.1) ∧ Hid (Below w.heap.size w wr)) (fun i _ => l.length - (intOf i).toNat)
  case atStart => exact ⟨0, rfl, by omega, fun j _ h => by omega, fun j _ _ h => by omega, Below.refl _ _⟩
  case round =>
    obtain ⟨k, rfl, hk, hp, hq, hbl⟩ := hrel
    by_cases hlt : k < l.length
    · obtain ⟨x, hxk⟩ : ∃ x, l[k]? = some x := ⟨l[k], List.getElem?_eq_getElem hlt⟩
      obtain ⟨b2, off2, e2, hB2, d0, d1⟩ := PsIn.at2 (H.out.below hbl.out) hxk
      subst e2
      have HX := Lib.hid hxk
      clear hxk
      have hb3 : Below w.heap.size w (wr.alloc (.cells #[.string ⟨x.1.toArray⟩, .string ⟨x.2.toArray⟩] 56)) := hbl.out.alloc hbl.out.size _
      have HB3 := Lib.hid hb3
      clear hb3
      have hz1 : (ByteArray.mk x.1.toArray).size = x.1.length := rfl
      have hz2 : (ByteArray.mk x.2.toArray).size = x.2.length := rfl
      by_cases hs : x.1.length ≤ 16 ∧ x.2.length ≤ 16
      · obtain ⟨hs1, hs2⟩ := hs
        have hp2 : Hid (∀ (j : Nat) p, j < k + 1 → l[j]? = some p → p.1.length ≤ 16 ∧ p.2.length ≤ 16) := fun j p hj hjp => by
          by_cases e : j = k
          · subst e
            rw [HX.out] at hjp
            injection hjp with hjp
            subst hjp
            exact ⟨hs1, hs2⟩
          · exact hp.out j p (by omega) hjp
        have hn1 : ¬ (16 : Int) < x.1.length := by omega
        have hn2 : ¬ (16 : Int) < x.2.length := by omega
        have hn3 : decide ((16 : Int) < x.2.length) = false := decide_eq_false hn2
        have hn4 : decide ((16 : Int) < x.1.length) = false := decide_eq_false hn1
        by_cases h0 : 0 < k
        · obtain ⟨j, rfl⟩ : ∃ j, k = j + 1 := ⟨k - 1, by omega⟩
          obtain ⟨y, hyk⟩ : ∃ y, l[j]? = some y := ⟨l[j], List.getElem?_eq_getElem (by omega)⟩
          obtain ⟨b3, off3, e3, hB3, f0, f1⟩ := PsIn.at2 (H.out.below hbl.out) hyk
          injection e3 with e3
          injection e3 with e3 e4
          subst e3 e4
          have f0a : ∀ o : Obj, (wr.alloc o).cell? ⟨b2, off2 + j * 2, none⟩ = some (.string ⟨y.1.toArray⟩) := fun o => cell_kept (new_below wr o) f0
          have HY := Lib.hid hyk
          clear hyk f0 f1
          have hgd : decide ((0 : Int) < (j : Int) + 1) = true := decide_eq_true (by omega)
          have hle := less_of y.1 x.1
          by_cases hov : y.1 < x.1
          · rw [decide_eq_true hov] at hle
            have hq2 : Hid (∀ (i : Nat) a b, i + 1 < j + 1 + 1 → l[i]? = some a → l[i + 1]? = some b → a.1 < b.1) := fun i a b hi ha hb => by
              by_cases e : i = j
              · subst e
                rw [HY.out] at ha
                rw [HX.out] at hb
                injection ha with ha
                injection hb with hb
                subst ha hb
                exact hov
              · exact hq.out i a b (by omega) ha hb
            clear hov
            go_wp2_with fail
            go_quiet (fail)
            go_wp2_with fail
            go_roundw
            case rel => exact ⟨j + 1 + 1, by go_num, by omega, hp2, hq2, below_drewN HB3.out _⟩
            case measure => simp [intOf]; omega
          · rw [decide_eq_false hov] at hle
            have hno : Hid (¬ GoodPs l) := fun h => hov (rises_to h.rise HY.out HX.out)
            clear hov
            go_wp2_with fail
            go_quiet (fail)
            go_wp2_with fail
            go_ret
            exact ⟨false, rfl, ⟨(fun h => by cases h), fun h => absurd h hno.out⟩, below_drewN HB3.out _⟩
        · obtain rfl : k = 0 := by omega
          rw [show off2 + 0 * 2 = off2 by omega] at d0 d1
          have hgd : decide ((0 : Int) < ((0 : Nat) : Int)) = false := rfl
          have hq2 : Hid (∀ (i : Nat) a b, i + 1 < 0 + 1 → l[i]? = some a → l[i + 1]? = some b → a.1 < b.1) := fun i a b hi => by omega
          go_wp2_with fail
          go_quiet (fail)
          go_wp2_with fail
          go_roundw
          case rel => exact ⟨0 + 1, by go_num, by omega, hp2, hq2, below_drewN HB3.out _⟩
          case measure => simp [intOf]; omega
      · have hno : Hid (¬ GoodPs l) := fun h => hs ⟨h.key _ (List.mem_of_getElem? HX.out), h.val _ (List.mem_of_getElem? HX.out)⟩
        have hways : 16 < x.1.length ∨ (¬ 16 < x.1.length ∧ 16 < x.2.length) := by omega
        clear hs
        rcases hways with h1 | ⟨h1, h2⟩
        all_goals
          go_wp2_with fail
          go_ret
          exact ⟨false, rfl, ⟨(fun h => by cases h), fun h => absurd h hno.out⟩, HB3.out⟩
    · have hyes : Hid (GoodPs l) := ⟨by omega, fun p hpl => by
        obtain ⟨j, hj, rfl⟩ := List.getElem_of_mem hpl
        exact (hp.out j _ (by omega) (List.getElem?_eq_getElem hj)).1, fun p hpl => by
        obtain ⟨j, hj, rfl⟩ := List.getElem_of_mem hpl
        exact (hp.out j _ (by omega) (List.getElem?_eq_getElem hj)).2, rises_of fun j a b ha hb => hq.out j a b (by have := (List.getElem?_eq_some_iff.1 hb).1; omega) ha hb⟩
      clear hp hq
      go_wp2_with fail
      go_ret
      exact ⟨true, rfl, ⟨fun _ => hyes.out, fun _ => rfl⟩, hbl.out⟩

end Go.Proofs.Ytabogconbjdcgaa.Cd
