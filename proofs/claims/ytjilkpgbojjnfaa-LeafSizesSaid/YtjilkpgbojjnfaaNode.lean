/-
  A node as a value; leaf's small functions over lists: rise, fit, arePages, textsSize. Conditions: none.
-/
import Derived.Test.YtjilkpgbojjnfaaLeafMath
import Derived.Test.YtjilkpgbojjnfaaStrs
import Derived.Test.YtjilkpgbojjnfaaFlat
import Derived.Test.YtjilkpgbojjnfaaSize
import Derived.RegionTactic
import Derived.Sort.Walk0
namespace Go.Proofs.Ytjilkpgbojjnfaa.Cd
open Go.RowKit

def vint (n : Int) : Value := .int .i64 n

/-- A value that reads as the node n. -/
def Node (w : World) (B : Nat) (v : Value) (n : Nd) : Prop :=
  ∃ vk vv vi, v = .agg #[.bool n.leaf, vk, vv, vi] ∧ Strs w B vk n.keys ∧ Strs w B vv n.vals ∧ Flat vint w B vi n.kids

theorem Node.below {w w' : World} {B : Nat} {v : Value} {n : Nd} (h : Node w B v n) (hb : Below B w w') : Node w' B v n := by
  obtain ⟨vk, vv, vi, h1, h2, h3, h4⟩ := h
  exact ⟨vk, vv, vi, h1, h2.below hb, h3.below hb, h4.below hb⟩
theorem Flat.more {α : Type} {f : α → Value} {w : World} {B B' : Nat} {v : Value} {l : List α} (h : Flat f w B v l) (hB : B ≤ B') : Flat f w B' v l := by
  obtain ⟨A, c, h1, h2, h3, h4⟩ := h
  refine ⟨A, c, h1, h2, h3, fun h0 => ?_⟩
  obtain ⟨b, off, e, hB', hc⟩ := h4 h0
  exact ⟨b, off, e, Nat.lt_of_lt_of_le hB' hB, hc⟩
theorem Node.more {w : World} {B B' : Nat} {v : Value} {n : Nd} (h : Node w B v n) (hB : B ≤ B') : Node w B' v n := by
  obtain ⟨vk, vv, vi, h1, h2, h3, h4⟩ := h
  exact ⟨vk, vv, vi, h1, h2.more hB, h3.more hB, h4.more hB⟩
theorem Node.on {w w' : World} {B : Nat} {v : Value} {n : Nd} (h : Node w B v n) (hb : Below B w w') (hB : B ≤ w'.heap.size) : Node w' w'.heap.size v n := (h.below hb).more hB

/-- Its bounds. -/
structure Fits (n : Nd) : Prop where
  key : ∀ s ∈ n.keys, s.length ≤ 140737488351232
  val : ∀ s ∈ n.vals, s.length ≤ 140737488351232
  kid : ∀ p ∈ n.kids, -9223372036854775808 ≤ p ∧ p ≤ 9223372036854775807
  kids : n.kids.length ≤ 17592186044416

set_option maxRecDepth 100000 in
set_option maxHeartbeats 800000 in
theorem fit_any (v : Value) (l : List (List UInt8)) (m : Nat) (w : World) (h : Strs w w.heap.size v l) (hm : m ≤ 1000) :
    Calls Try.prog 22 #[v, .int .i64 m] w fun e w' => e = .returned (.bool (fit m l)) ∧ w = w' := by
  obtain ⟨A, c, rfl, h2, h3⟩ := h.len
  have h3 : c ≤ 9223372036854775807 := h3
  have HAT := Lib.hid (fun h0 => h.at h0)
  clear h
  go_enter Try.func22, Try.ntmps22
  go_wp2
  go_loop [9] (fun i => ∃ k : Nat, i = .int .i64 k ∧ k ≤ l.length ∧ Hid (∀ j (hj : j < l.length), j < k → l[j].length ≤ m)) (fun i => l.length - (intOf i).toNat)
  case atStart => exact ⟨0, rfl, by omega, fun j _ h => by omega⟩
  case round =>
    obtain ⟨k, rfl, hk, hpre⟩ := hrel
    by_cases hlt : k < l.length
    · obtain ⟨b, off, c1, he1, _, _, hB, hc⟩ := HAT.out (by omega)
      injection he1 with e1 _ e3
      subst e1 e3
      have hx := hc k hlt
      have hno := Lib.hid (fun hn => fit_false (m := m) hlt hn)
      have hyes : Hid (l[k].length ≤ m → ∀ j (hj : j < l.length), j < k + 1 → l[j].length ≤ m) := fun hle j hj hjk => by
        rcases Nat.lt_succ_iff_lt_or_eq.1 hjk with h1 | rfl
        · exact hpre.out j hj h1
        · exact hle
      clear hc hpre
      generalize l[k] = p at *
      have hpz : (ByteArray.mk p.toArray).size = p.length := rfl
      by_cases hov : m < p.length
      · have hf := hno.out hov
        have HF := Lib.hid hf
        clear hf hno hyes
        go_wp2
        go_ret
        exact ⟨by rw [HF.out]; rfl, rfl⟩
      · have hn := Lib.hid (hyes.out (by omega))
        clear hno hyes
        go_wp2
        go_round
        case rel => exact ⟨k + 1, by go_num, by omega, hn.out⟩
        case measure => simp [intOf]; omega
    · have hf : Hid (fit m l = true) := (fit_iff m l).2 fun j hj => hpre.out j hj (by omega)
      clear hpre
      go_wp2
      go_ret
      exact ⟨by rw [hf.out]; rfl, rfl⟩

set_option maxRecDepth 100000 in
set_option maxHeartbeats 800000 in
theorem pages_any (v : Value) (l : List Int) (w : World) (h : Flat vint w w.heap.size v l) :
    Calls Try.prog 23 #[v] w fun e w' => e = .returned (.bool (pages l)) ∧ w = w' := by
  obtain ⟨A, c, rfl, h2, h3⟩ := h.len
  have HAT := Lib.hid (fun k => @Flat.at _ _ _ _ _ A l.length c h k)
  clear h
  go_enter Try.func23, Try.ntmps23
  go_wp2
  go_loop [7] (fun i => ∃ k : Nat, i = .int .i64 k ∧ k ≤ l.length ∧ Hid (∀ j (hj : j < l.length), j < k → 1 ≤ l[j] ∧ l[j] ≤ 4095)) (fun i => l.length - (intOf i).toNat)
  case atStart => exact ⟨0, rfl, by omega, fun j _ h => by omega⟩
  case round =>
    obtain ⟨k, rfl, hk, hpre⟩ := hrel
    by_cases hlt : k < l.length
    · obtain ⟨b, off, rfl, hB, hx⟩ := HAT.out k hlt
      have hno := Lib.hid (fun hn => pages_false hlt hn)
      have hyes : Hid (1 ≤ l[k] ∧ l[k] ≤ 4095 → ∀ j (hj : j < l.length), j < k + 1 → 1 ≤ l[j] ∧ l[j] ≤ 4095) := fun hle j hj hjk => by
        rcases Nat.lt_succ_iff_lt_or_eq.1 hjk with h1 | rfl
        · exact hpre.out j hj h1
        · exact hle
      clear hpre
      generalize l[k] = p at *
      unfold vint at hx
      by_cases hlo : p < 1
      · have HF := Lib.hid (hno.out (.inl hlo))
        clear hno hyes
        go_wp2
        go_ret
        exact ⟨by rw [HF.out]; rfl, rfl⟩
      · by_cases hov : 4095 < p
        · have HF := Lib.hid (hno.out (.inr hov))
          clear hno hyes
          go_wp2
          go_ret
          exact ⟨by rw [HF.out]; rfl, rfl⟩
        · have hn := Lib.hid (hyes.out (by omega))
          clear hno hyes
          go_wp2
          go_round
          case rel => exact ⟨k + 1, by go_num, by omega, hn.out⟩
          case measure => simp [intOf]; omega
    · have hf : Hid (pages l = true) := (pages_iff l).2 fun j hj => hpre.out j hj (by omega)
      clear hpre
      go_wp2
      go_ret
      exact ⟨by rw [hf.out]; rfl, rfl⟩

theorem less_of (a b : List UInt8) : Op.bytesLess a b = decide (a < b) := Go.Proofs.bytesLess_eq a b

set_option maxRecDepth 100000 in
set_option maxHeartbeats 800000 in
theorem rise_any (v : Value) (l : List (List UInt8)) (w : World) (h : Strs w w.heap.size v l) :
    Calls Try.prog 21 #[v] w (Gives (.bool (rise l)) w) := by
  obtain ⟨A, c, rfl, h2, h3⟩ := h.len
  have h3 : c ≤ 9223372036854775807 := h3
  have HAT := Lib.hid (fun h0 => h.at h0)
  clear h
  go_enter Try.func21, Try.ntmps21
  go_wp2
  go_loopw [3] (fun i wr => ∃ k : Nat, i = .int .i64 ((k : Int) + 1) ∧ k ≤ l.length ∧ Hid (∀ j (hj : j + 1 < l.length), j < k → l[j] < l[j + 1]) ∧ Below w.heap.size w wr) (fun i _ => l.length + 1 - (intOf i).toNat)
  case atStart => exact ⟨0, rfl, by omega, fun j _ h => by omega, Below.refl _ _⟩
  case round =>
    obtain ⟨k, rfl, hk, hpre, hbel⟩ := hrel
    by_cases hlt : k + 1 < l.length
    · obtain ⟨b, off, c1, he1, _, _, hB, hc⟩ := HAT.out (by omega)
      injection he1 with e1 _ e3
      subst e1 e3
      have hx := (hbel.cell (p := ⟨b, off + k, none⟩) hB).trans (hc k (by omega))
      have hy := (hbel.cell (p := ⟨b, off + (k + 1), none⟩) hB).trans (hc (k + 1) hlt)
      have hno := Lib.hid (fun hn => rise_false hlt hn)
      have hyes : Hid (l[k] < l[k + 1] → ∀ j (hj : j + 1 < l.length), j < k + 1 → l[j] < l[j + 1]) := fun hle j hj hjk => by
        rcases Nat.lt_succ_iff_lt_or_eq.1 hjk with h1 | rfl
        · exact hpre.out j hj h1
        · exact hle
      have hle := less_of l[k] l[k + 1]
      clear hc hpre
      generalize l[k] = p at *
      generalize l[k + 1] = q at *
      have HB := Lib.hid hbel
      clear hbel
      by_cases hov : p < q
      · rw [decide_eq_true hov] at hle
        have hn := Lib.hid (hyes.out hov)
        clear hno hyes hov
        go_wp2
        go_region
        all_goals
          go_wp2
          go_roundw
          case rel => exact ⟨k + 1, by go_num, by omega, hn.out, HB.out.drew⟩
          case measure => simp [intOf]; omega
      · rw [decide_eq_false hov] at hle
        have HF := Lib.hid (hno.out hov)
        clear hno hyes hov
        go_wp2
        go_region
        all_goals
          go_wp2
          go_ret
          exact ⟨by rw [HF.out]; rfl, HB.out.drew⟩
    · have hf : Hid (rise l = true) := (rise_iff l).2 fun j hj => hpre.out j hj (by omega)
      clear hpre
      have HB := Lib.hid hbel
      clear hbel
      go_wp2
      go_ret
      exact ⟨by rw [hf.out]; rfl, HB.out⟩

set_option maxRecDepth 100000 in
set_option maxHeartbeats 800000 in
theorem tsize_any (v : Value) (l : List (List UInt8)) (w : World) (h : Strs w w.heap.size v l) (hl : ∀ s ∈ l, s.length ≤ 8192) (hn : l.length ≤ 8193) :
    Calls Try.prog 25 #[v] w fun e w' => e = .returned (.int .i64 (tsz l l.length : Nat)) ∧ w = w' := by
  obtain ⟨A, c, rfl, h2, h3⟩ := h.len
  have h3 : c ≤ 9223372036854775807 := h3
  have HAT := Lib.hid (fun h0 => h.at h0)
  have HL := Lib.hid hl
  clear h hl
  go_enter Try.func25, Try.ntmps25
  go_wp2
  go_loop [3, 8] (fun s i => ∃ k : Nat, i = .int .i64 k ∧ k ≤ l.length ∧ s = .int .i64 (tsz l k : Nat)) (fun _ i => l.length - (intOf i).toNat)
  case atStart => exact ⟨0, rfl, by omega, rfl⟩
  case round =>
    obtain ⟨k, rfl, hk, rfl⟩ := hrel
    have hb := tsz_le l 8192 (by omega) HL.out k hk
    have hb2 : tsz l k ≤ 70000000 := by omega
    clear hb
    by_cases hlt : k < l.length
    · obtain ⟨b, off, c1, he1, _, _, hB, hc⟩ := HAT.out (by omega)
      injection he1 with e1 _ e3
      subst e1 e3
      have hx := hc k hlt
      have hs := HL.out _ (List.getElem_mem hlt)
      have hnx : Hid (tsz l (k + 1) = tsz l k + ((enc l[k].length).length + l[k].length)) := by
        unfold Hid
        rw [tsz, List.getD_eq_getElem?_getD, List.getElem?_eq_getElem hlt, Option.getD_some]
      clear hc
      generalize l[k] = p at *
      generalize tsz l k = T at *
      have hpz : (ByteArray.mk p.toArray).size = p.length := rfl
      have hsz := Lib.hid (size_any p.length (by omega))
      have he := enc_le10 (x := p.length) (by omega)
      go_wp2_with (go_at_call 24; refine (hsz.out _).mono ?_; rintro e w1 ⟨rfl, rfl⟩)
      go_round
      case rel => exact ⟨k + 1, by go_num, by omega, by rw [hnx.out]; go_num⟩
      case measure => simp [intOf]; omega
    · have hkl : k = l.length := by omega
      subst hkl
      go_wp2
      go_ret
      exact ⟨rfl, rfl⟩

end Go.Proofs.Ytjilkpgbojjnfaa.Cd
