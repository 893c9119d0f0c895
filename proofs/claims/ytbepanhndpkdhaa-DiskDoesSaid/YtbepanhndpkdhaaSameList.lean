/-
  The document's Same: two lists of texts. Conditions: none.
-/
import Derived.Test.YtbepanhndpkdhaaStrs
import Derived.RegionTactic
namespace Go.Proofs.Ytbepanhndpkdhaa.Cd
open Go.RowKit

theorem same_next {l m : List (List UInt8)} {k : Nat} (h : l.take k = m.take k) (hl : k < l.length) (hm : k < m.length) (he : l[k] = m[k]) : l.take (k + 1) = m.take (k + 1) := by
  rw [List.take_succ_eq_append_getElem hl, List.take_succ_eq_append_getElem hm, h, he]

theorem get_ne {l m : List (List UInt8)} {k : Nat} (hl : k < l.length) (hm : k < m.length) (he : l[k] ≠ m[k]) : l ≠ m := by
  intro e
  subst e
  exact he rfl

/-- What Same leaves. -/
def SameIs (w : World) (l m : List (List UInt8)) (e : Ending) (w' : World) : Prop := e = .returned (.bool (decide (l = m))) ∧ Below w.heap.size w w'

set_option maxRecDepth 100000 in
set_option maxHeartbeats 1600000 in
theorem same_any (u v : Value) (l m : List (List UInt8)) (w : World) (h : Strs w w.heap.size u l) (k : Strs w w.heap.size v m) :
    Calls Try.prog 31 #[u, v] w (SameIs w l m) := by
  obtain ⟨A, c, rfl, h2, h3⟩ := h.len
  obtain ⟨A', c', rfl, k2, k3⟩ := k.len
  have h3 : c ≤ 9223372036854775807 := h3
  have k3 : c' ≤ 9223372036854775807 := k3
  have HAT := Lib.hid (fun h0 => h.at h0)
  have KAT := Lib.hid (fun h0 => k.at h0)
  clear h k
  by_cases hlen : l.length = m.length
  · have hq : ((l.length : Int) != (m.length : Int)) = false := by simp [hlen]
    have HL := Lib.hid hlen
    clear hlen
    go_enter Try.func31, Try.ntmps31
    go_wp2_with fail
    go_loopw [13] (fun i wr => ∃ j : Nat, j ≤ l.length ∧ i = .int .i64 j ∧ Hid (l.take j = m.take j) ∧ Below w.heap.size w wr) (fun i _ => l.length - (intOf i).toNat)
    case atStart => exact ⟨0, Nat.zero_le _, rfl, rfl, Below.refl _ _⟩
    case round =>
      obtain ⟨j, hj, rfl, hpre, hbel⟩ := hrel
      have hsz := hbel.size
      by_cases hlt : j < l.length
      · have hlm : j < m.length := by have := HL.out; omega
        obtain ⟨b, off, c1, he1, _, _, hB, hc⟩ := HAT.out (by omega)
        obtain ⟨b', off', c1', he1', _, _, hB', hc'⟩ := KAT.out (by omega)
        injection he1 with e1 _ e3
        injection he1' with e1' _ e3'
        subst e1 e3 e1' e3'
        have hx := (hbel.cell (p := ⟨b, off + j, none⟩) hB).trans (hc j hlt)
        have hy := (hbel.cell (p := ⟨b', off' + j, none⟩) hB').trans (hc' j hlm)
        have hnx := Lib.hid (fun he => same_next hpre.out hlt hlm he)
        have hne := Lib.hid (fun he => get_ne hlt hlm he)
        clear hc hc'
        generalize l[j] = x at *
        generalize m[j] = y at *
        by_cases hxy : x = y
        · have hnx2 : Hid (l.take (j + 1) = m.take (j + 1)) := hnx.out hxy
          subst hxy
          have hq2 : (x == x) = true := by simp
          clear hnx hne
          go_wp2
          go_region
          all_goals
            go_wp2
            go_roundw
            case rel => exact ⟨j + 1, by omega, by go_num, hnx2.out, hbel.drew⟩
            case measure => simp [intOf]; omega
        · have hq2 : (x == y) = false := by simpa using hxy
          have hnq : Hid (decide (l = m) = false) := decide_eq_false (hne.out hxy)
          clear hxy
          go_wp2
          go_region
          all_goals
            go_wp2
            go_ret
            exact ⟨by rw [hnq.out]; rfl, hbel.drew⟩
      · have hjl : j = l.length := by omega
        have hyes : Hid (decide (l = m) = true) := by
          have h1 := hpre.out
          have h2 := HL.out
          rw [List.take_of_length_le (by omega), List.take_of_length_le (by omega)] at h1
          exact decide_eq_true h1
        clear hjl
        go_wp2
        go_ret
        exact ⟨by rw [hyes.out]; rfl, hbel⟩
  · have hq : ((l.length : Int) != (m.length : Int)) = true := by simp; omega
    have hno : Hid (decide (l = m) = false) := decide_eq_false (fun e => hlen (by rw [e]))
    clear hlen
    go_enter Try.func31, Try.ntmps31
    go_wp2_with fail
    go_ret
    exact ⟨by rw [hno.out]; rfl, Below.refl _ _⟩

end Go.Proofs.Ytbepanhndpkdhaa.Cd
