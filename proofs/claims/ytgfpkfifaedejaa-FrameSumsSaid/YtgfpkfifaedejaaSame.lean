/-
  Same, great: lists of texts. Conditions: none.
-/
import Derived.Test.YtgfpkfifaedejaaStrs
import Derived.RegionTactic
namespace Go.Proofs.Ytgfpkfifaedejaa.Cd
open Go.RowKit

theorem same_next {l m : List (List UInt8)} {k : Nat} (h : l.take k = m.take k) (hl : k < l.length) (hm : k < m.length) (he : l[k] = m[k]) : l.take (k + 1) = m.take (k + 1) := by
  rw [List.take_succ_eq_append_getElem hl, List.take_succ_eq_append_getElem hm, h, he]

theorem get_ne {l m : List (List UInt8)} {k : Nat} (hl : k < l.length) (hm : k < m.length) (he : l[k] ≠ m[k]) : l ≠ m := by
  intro e
  subst e
  exact he rfl

/-- What Same leaves. -/
def SameIs (w : World) (l m : List (List UInt8)) (e : Ending) (w' : World) : Prop := e = .returned (.bool (decide (l = m))) ∧ Below w.heap.size w w'

set_option maxRecDepth 100000 in
set_option maxHeartbeats 1600000 in
theorem same_any (u v : Value) (l m : List (List UInt8)) (w : World) (h : Strs w w.heap.size u l) (k : Strs w w.heap.size v m) :
    Calls Try.prog 16 #[u, v] w (SameIs w l m) := by
  obtain ⟨A, c, rfl, h2, h3⟩ := h.len
  obtain ⟨A', c', rfl, k2, k3⟩ := k.len
  have h3 : c ≤ 9223372036854775807 := h3
  have k3 : c' ≤ 9223372036854775807 := k3
  have HAT := Lib.hid (fun h0 => h.at h0)
  have KAT := Lib.hid (fun h0 => k.at h0)
  clear h k
  by_cases hlen : l.length = m.length
  · have hq : ((l.length : Int) != (m.length : Int)) = false := by simp [hlen]
    have HL := Lib.hid hlen
    clear hlen
    go_enter Try.func16, Try.ntmps16
    go_wp2_with fail
    go_loopw [13] (fun i wr => ∃ j : Nat, j ≤ l.length ∧ i = .int .i64 j ∧ Hid (l.take j = m.take j) ∧ Below w.heap.size w wr) (fun i _ => l.length - (intOf i).toNat)
    case atStart => exact ⟨0, Nat.zero_le _, rfl, rfl, Below.refl _ _⟩
    case round =>
      obtain ⟨j, hj, rfl, hpre, hbel⟩ := hrel
      have hsz := hbel.size
      by_cases hlt : j < l.length
      · have hlm : j < m.length := by have := HL.out; omega
        obtain ⟨b, off, c1, he1, _, _, hB, hc⟩ := HAT.out (by omega)
        obtain ⟨b', off', c1', he1', _, _, hB', hc'⟩ := KAT.out (by omega)
        injection he1 with e1 _ e3
        injection he1' with e1' _ e3'
        subst e1 e3 e1' e3'
        have hx := (hbel.cell (p := ⟨b, off + j, none⟩) hB).trans (hc j hlt)
        have hy := (hbel.cell (p := ⟨b', off' + j, none⟩) hB').trans (hc' j hlm)
        have hnx := Lib.hid (fun he => same_next hpre.out hlt hlm he)
        have hne := Lib.hid (fun he => get_ne hlt hlm he)
        clear hc hc'
        generalize l[j] = x at *
        generalize m[j] = y at *
        by_cases hxy : x = y
        · have hnx2 : Hid (l.take (j + 1) = m.take (j + 1)) := hnx.out hxy
          subst hxy
          have hq2 : (x == x) = true := by simp
          clear hnx hne
          go_wp2
          go_region
          all_goals
            go_wp2
            go_roundw
            case rel => exact ⟨j + 1, by omega, by go_num, hnx2.out, hbel.drew⟩
            case measure => simp [intOf]; omega
        · have hq2 : (x == y) = false := by simpa using hxy
          have hnq : Hid (decide (l = m) = false) := decide_eq_false (hne.out hxy)
          clear hxy
          go_wp2
          go_region
          all_goals
            go_wp2
            go_ret
            exact ⟨by rw [hnq.out]; rfl, hbel.drew⟩
      · have hjl : j = l.length := by omega
        have hyes : Hid (decide (l = m) = true) := by
          have h1 := hpre.out
          have h2 := HL.out
          rw [List.take_of_length_le (by omega), List.take_of_length_le (by omega)] at h1
          exact decide_eq_true h1
        clear hjl
        go_wp2
        go_ret
        exact ⟨by rw [hyes.out]; rfl, hbel⟩
  · have hq : ((l.length : Int) != (m.length : Int)) = true := by simp; omega
    have hno : Hid (decide (l = m) = false) := decide_eq_false (fun e => hlen (by rw [e]))
    clear hlen
    go_enter Try.func16, Try.ntmps16
    go_wp2_with fail
    go_ret
    exact ⟨by rw [hno.out]; rfl, Below.refl _ _⟩

/-- How many bytes the texts have. -/
def total : List (List UInt8) → Nat
  | [] => 0
  | p :: r => p.length + total r
theorem total_append (a b : List (List UInt8)) : total (a ++ b) = total a + total b := by
  induction a with
  | nil => simp [total]
  | cons p r ih => simp [total, ih]; omega
theorem total_snoc (l : List (List UInt8)) (k : Nat) (h : k < l.length) : total (l.take (k + 1)) = total (l.take k) + l[k].length := by
  rw [List.take_succ_eq_append_getElem h, total_append]
  simp [total]
theorem total_le (l : List (List UInt8)) (k : Nat) : total (l.take k) ≤ total l := by
  have h := total_append (l.take k) (l.drop k)
  rw [List.take_append_drop] at h
  omega
def big (l : List (List UInt8)) : Bool := decide (8192 < total l) || decide (60 < l.length)
theorem small_of {l : List (List UInt8)} (h : big l = false) : total l ≤ 8192 ∧ l.length ≤ 60 := by
  unfold big at h
  simp at h
  omega
theorem flat_len (l : List (List UInt8)) (h : ∀ p ∈ l, p.length < 18446744073709551616) : (flat l).length ≤ total l + 14 * l.length := by
  induction l with
  | nil => simp [flat]
  | cons p r ih =>
    have h1 := frm_le p (h p (by simp))
    have h2 := ih (fun q hq => h q (by simp [hq]))
    rw [flat_cons, List.length_append, total, List.length_cons]
    omega

set_option maxRecDepth 100000 in
set_option maxHeartbeats 800000 in
theorem great_any (v : Value) (l : List (List UInt8)) (w : World) (h : Strs w w.heap.size v l) (hS0 : ∀ p ∈ l, p.length ≤ 140737488351232) :
    Calls Try.prog 17 #[v] w fun e w' => e = .returned (.bool (big l)) ∧ w = w' := by
  obtain ⟨A, c, rfl, h2, h3⟩ := h.len
  have h3 : c ≤ 9223372036854775807 := h3
  have HAT := Lib.hid (fun h0 => h.at h0)
  have HS := Lib.hid hS0
  clear h hS0
  go_enter Try.func17, Try.ntmps17
  go_wp2
  go_loop [3, 8] (fun n i => ∃ k : Nat, i = .int .i64 k ∧ k ≤ l.length ∧ n = .int .i64 (total (l.take k) : Nat) ∧ total (l.take k) ≤ 8192) (fun _ i => l.length - (intOf i).toNat)
  case atStart => exact ⟨0, rfl, by omega, rfl, by simp [total]⟩
  case round =>
    obtain ⟨k, rfl, hk, rfl, ht⟩ := hrel
    by_cases hlt : k < l.length
    · obtain ⟨b, off, c1, he1, _, _, hB, hc⟩ := HAT.out (by omega)
      injection he1 with e1 _ e3
      subst e1 e3
      have hx := hc k hlt
      have hsn := total_snoc l k hlt
      have htl := total_le l (k + 1)
      have hs47 := HS.out _ (List.getElem_mem hlt)
      clear hc
      generalize l[k] = p at *
      have hpz : (ByteArray.mk p.toArray).size = p.length := rfl
      have HSN := Lib.hid hsn
      by_cases hov : 8192 < total (l.take k) + p.length
      · have hbig : Hid (big l = true) := by unfold Hid big; rw [decide_eq_true (by omega : 8192 < total l)]; rfl
        clear hsn htl
        go_wp2
        go_ret
        exact ⟨by rw [hbig.out]; rfl, rfl⟩
      · clear hsn htl
        go_wp2
        go_round
        case rel => exact ⟨k + 1, by go_num, by omega, by rw [HSN.out]; go_num, by rw [HSN.out]; omega⟩
        case measure => simp [intOf]; omega
    · have hkl : k = l.length := by omega
      have htk : Hid (total (l.take k) = total l) := by unfold Hid; rw [hkl, List.take_of_length_le (Nat.le_refl _)]
      have hbig : Hid (big l = decide (60 < l.length)) := by
        have := htk.out
        unfold Hid big
        rw [decide_eq_false (by omega : ¬ 8192 < total l)]
        simp
      clear hkl htk
      go_wp2
      go_ret
      refine ⟨?_, rfl⟩
      rw [hbig.out]
      show Ending.returned (Value.bool (decide ((60 : Int) < (l.length : Int)))) = _
      congr 2
      rw [decide_eq_decide]
      omega

theorem ab_crc : crc [49, 50, 51, 52, 53, 54, 55, 56, 57] = 3808858755 := by decide +kernel

set_option maxRecDepth 100000 in
set_option maxHeartbeats 800000 in
theorem alive_any (w : World) : Calls Try.prog 8 #[] w (Gives (.bool true) w) := by
  have HC := Lib.hid ab_crc
  go_enter Try.func8, Try.ntmps8
  go_wp2_with fail
  refine (put_any _ [] [97, 98] w (Sl.nil _ _) (by simp)).mono ?_
  rintro e w1 ⟨v1, rfl, ho1, hb1⟩
  rw [List.nil_append] at ho1
  have hl := frm_le [97, 98] (by simp)
  have hone := Lib.hid (one_any v1 (frm [97, 98]) w1 ho1.sl (by simp at hl; omega))
  go_wp2_with fail
  refine hone.out.mono ?_
  rintro e w2 ⟨⟨x, hx, rfl⟩ | ⟨hno, _⟩, hb2⟩
  · have hx2 := pre_uniq (c := frm [97, 98]) (by rw [hx]; exact List.prefix_refl _) (List.prefix_refl _) (by simp at hl; omega)
    subst hx2
    clear hx hl
    have kc := bytes_const
    have hs := sl_mark w2 [49, 50, 51, 52, 53, 54, 55, 56, 57] #[.int .u8 49, .int .u8 50, .int .u8 51, .int .u8 52, .int .u8 53, .int .u8 54, .int .u8 55, .int .u8 56, .int .u8 57] rfl (by simp [maxLen]) 9 rfl (9, 10)
    have HS := Lib.hid hs
    have hs1 := hb1.size
    have hs2 := hb2.size
    clear hs
    go_wp2_with fail
    have ha := fsum_any _ _ _ HS.out
    rw [HC.out] at ha
    refine ha.mono ?_
    rintro e w3 ⟨rfl, rfl⟩
    clear ha
    go_wp2_with fail
    go_ret
    exact ⟨rfl, (hb1.trans (hb2.mono hs1)).alloc (by omega) _⟩
  · exact absurd ⟨_, rfl⟩ hno

end Go.Proofs.Ytgfpkfifaedejaa.Cd
