/-
  leaf.Size: how many bytes a node has. Conditions: none.
-/
import Derived.Test.YtjilkpgbojjnfaaLeafGood
import Derived.Deep.RegionHeld3
namespace Go.Proofs.Ytjilkpgbojjnfaa.Cd
open Go.RowKit

def sizeN (n : Nd) : Int := if good n = true then ((encN n).length : Nat) else -1

/-- The four cells of a boxed node. -/
def Four (W : World) (g : Nat) (b : Bool) (vk vv vi : Value) : Prop :=
  W.cell? ⟨g, 0, none⟩ = some (.bool b) ∧ W.cell? ⟨g, 1, none⟩ = some vk ∧ W.cell? ⟨g, 2, none⟩ = some vv ∧ W.cell? ⟨g, 3, none⟩ = some vi
theorem Bx.four {w : World} {g : Nat} {b : Bool} {vk vv vi : Value} (h : Bx w g b vk vv vi) : Four w g b vk vv vi := ⟨h.cell0, h.cell1, h.cell2, h.cell3⟩

theorem size_int (x : Int) (h0 : 0 ≤ x) (hk : x < 18446744073709551616) (w : World) :
    Calls Try.prog 24 #[.int .u64 x] w fun e w' => e = .returned (.int .i64 ((enc x.toNat).length : Nat)) ∧ w = w' := by
  have := size_any x.toNat (by omega) w
  rwa [Int.toNat_of_nonneg h0] at this

theorem head_is (v : Value) (n : Nd) (x : Nat) (hx : head n = x) (w : World) (h : Node w w.heap.size v n) (hl : n.keys.length ≤ 1000000) :
    Calls Try.prog 19 #[v] w (Gives (.int .u64 (x : Nat)) w) := hx ▸ head_any v n w h hl
theorem tsize_is (v : Value) (l : List (List UInt8)) (x : Nat) (hx : tsz l l.length = x) (w : World) (h : Strs w w.heap.size v l) (hl : ∀ s ∈ l, s.length ≤ 8192) (hn : l.length ≤ 8193) :
    Calls Try.prog 25 #[v] w fun e w' => e = .returned (.int .i64 (x : Nat)) ∧ w = w' := hx ▸ tsize_any v l w h hl hn

set_option maxRecDepth 100000 in
set_option maxHeartbeats 1600000 in
theorem lsize_any (v : Value) (n : Nd) (w : World) (h : Node w w.heap.size v n) (hs : Small n 8192) (hw : ∀ p ∈ n.kids, -9223372036854775808 ≤ p ∧ p ≤ 9223372036854775807) :
    Calls Try.prog 13 #[v] w (Gives (.int .i64 (sizeN n)) w) := by
  have H := Lib.hid h
  have HS := Lib.hid hs
  obtain ⟨b, ks, vs, is⟩ := n
  obtain ⟨vk, vv, vi, rfl, h1, h2, h3⟩ := h
  obtain ⟨A, c, rfl, k2, k3⟩ := h1.len
  obtain ⟨A2, c2, rfl, l2, l3⟩ := h2.len
  obtain ⟨A3, c3, rfl, m2, m3⟩ := h3.len
  have H1 := Lib.hid h1
  have H2 := Lib.hid h2
  have HAT := Lib.hid (fun k => @Flat.at _ _ _ _ _ A3 is.length c3 h3 k)
  have hks : ks.length ≤ 8192 := hs.keys
  clear h1 h2 h3 hs
  have hnb := fun o => new_below w o
  have hgn := Lib.hid (fun o => lgood_any _ _ (w.alloc o) (H.out.over (hnb o)) (by have := hks; simp only; omega))
  cases hg : good ⟨b, ks, vs, is⟩
  · have hz : Hid (sizeN ⟨b, ks, vs, is⟩ = -1) := by unfold Hid sizeN; rw [hg]; rfl
    rw [hg] at hgn
    go_enter Try.func13, Try.ntmps13
    go_wp2_with (go_at_call 12; refine (hgn.out _).mono ?_; rintro e w1 ⟨rfl, hb1⟩)
    go_ret
    rw [hz.out]
    exact ⟨rfl, (hnb _).trans (hb1.mono (by simp))⟩
  · have hG := (good_iff _).1 hg
    have hz : Hid (sizeN ⟨b, ks, vs, is⟩ = ((encN ⟨b, ks, vs, is⟩).length : Nat)) := by unfold Hid sizeN; rw [hg]; rfl
    have hlen := Lib.hid (encN_len hG)
    have hsz := small_sz HS.out (by omega) (fun p hp => by have := hG.kids p hp; omega)
    have hkid := Lib.hid hG.kids
    have hkey := Lib.hid (fun s hs => (HS.out.key s hs : s.length ≤ 8192))
    have hval := Lib.hid (fun s hs => (HS.out.val s hs : s.length ≤ 8192))
    have hkl := Lib.hid HS.out.keys
    have hvl := Lib.hid HS.out.vals
    have hhd := head_lt HS.out (by omega)
    obtain ⟨z1, z2, z3⟩ := hsz
    simp only at z1 z2 z3
    obtain ⟨K, hK⟩ : ∃ K, tsz ks ks.length = K := ⟨_, rfl⟩
    obtain ⟨V, hV⟩ : ∃ V, tsz vs vs.length = V := ⟨_, rfl⟩
    obtain ⟨hd, hHD⟩ : ∃ hd, head ⟨b, ks, vs, is⟩ = hd := ⟨_, rfl⟩
    have HK := Lib.hid hK
    have HV := Lib.hid hV
    have HHD := Lib.hid hHD
    rw [hg] at hgn
    rw [hK] at z1
    rw [hV] at z2
    rw [hHD] at hhd
    clear hK hV hHD hG hg
    have hel := enc_le10 (x := hd) (by omega)
    go_enter Try.func13, Try.ntmps13
    go_wp2_with (go_at_call 12; refine (hgn.out _).mono ?_; rintro e w1 ⟨rfl, hb1⟩; have hx : Bx w1 _ _ _ _ _ := Bx.on (heap_alloc_new w _) hb1; have d1 := hx.four; have HX := Lib.hid hx; clear hx; have HW := Lib.hid ((hnb _).trans (hb1.mono (by simp))))
    go_region_held3 (fun W => W.cell? ⟨w.heap.size, 0, none⟩ = some (.bool b) ∧ W.cell? ⟨w.heap.size, 1, none⟩ = some (.slice A ks.length c) ∧ W.cell? ⟨w.heap.size, 2, none⟩ = some (.slice A2 vs.length c2) ∧ W.cell? ⟨w.heap.size, 3, none⟩ = some (.slice A3 is.length c3)) (first | exact d2 | exact d1) (first
      | (go_at_call 19; refine (head_is _ ⟨b, ks, vs, is⟩ hd HHD.out _ (H.out.over HW.out.drew) (by simp only; omega)).mono ?_; rintro e w2 ⟨rfl, hb2⟩; have d2 := (Bx.on HX.out.drew hb2).four; have HB := Lib.hid (HW.out.drew.trans (hb2.mono HW.out.drew.size)))
      | (go_at_call 24; refine (size_any hd (by omega) _).mono ?_; rintro e w3 ⟨rfl, rfl⟩)
      | (go_at_call_of 25 (Value.slice A ks.length c); refine (tsize_is _ ks K HK.out _ (H1.out.on (by first | exact HB.out | exact HW.out.drew)) hkey.out (by omega)).mono ?_; rintro e w3 ⟨rfl, rfl⟩)
      | (go_at_call_of 25 (Value.slice A2 vs.length c2); refine (tsize_is _ vs V HV.out _ (H2.out.on (by first | exact HB.out | exact HW.out.drew)) hval.out (by have := hvl.out; omega)).mono ?_; rintro e w3 ⟨rfl, rfl⟩))
    all_goals
      go_wp2
      go_loop [3, 23] (fun s i => ∃ k : Nat, i = .int .i64 k ∧ k ≤ is.length ∧ s = .int .i64 (((enc hd).length + K + V + ksz is k : Nat))) (fun _ i => is.length - (intOf i).toNat)
      case atStart => exact ⟨0, rfl, by omega, congrArg (Value.int .i64) (by rw [IntWalk.i64_in ((enc hd).length + K : Int) (by omega), IntWalk.i64_in _ (by omega)]; simp only [ksz]; omega)⟩
      case round =>
        obtain ⟨k, rfl, hk, rfl⟩ := hrel
        have hb3 := ksz_mono is hk
        by_cases hlt : k < is.length
        · obtain ⟨b0, off, rfl, hB, hx⟩ := HAT.out k hlt
          have hx := (HB.out.cell (p := ⟨b0, off + k, none⟩) hB).trans hx
          have hp := hkid.out _ (List.getElem_mem hlt)
          have hnx : Hid (ksz is (k + 1) = ksz is k + (enc is[k].toNat).length) := by
            unfold Hid
            rw [ksz, List.getD_eq_getElem?_getD, List.getElem?_eq_getElem hlt, Option.getD_some]
          unfold vint at hx
          generalize is[k] = p at *
          generalize ksz is k = T at *
          obtain ⟨q, rfl⟩ := Int.eq_ofNat_of_zero_le (by omega : 0 ≤ p)
          rw [Int.toNat_natCast] at hnx
          have hq10 := enc_le10 (x := q) (by omega)
          go_wp2_with (go_at_call 24; refine (size_any q (by omega) _).mono ?_; rintro e w1 ⟨rfl, rfl⟩)
          go_round
          case rel => exact ⟨k + 1, by go_num, by omega, by rw [hnx.out]; go_num⟩
          case measure => simp [intOf]; omega
        · have hkl2 : k = is.length := by omega
          subst hkl2
          have hL : Hid ((encN ⟨b, ks, vs, is⟩).length = (enc hd).length + K + V + ksz is is.length) := by
            have := hlen.out
            unfold Hid
            rw [this, HHD.out, HK.out, HV.out]
          go_wp2
          go_ret
          rw [hz.out, hL.out]
          exact ⟨rfl, HB.out⟩

end Go.Proofs.Ytjilkpgbojjnfaa.Cd
