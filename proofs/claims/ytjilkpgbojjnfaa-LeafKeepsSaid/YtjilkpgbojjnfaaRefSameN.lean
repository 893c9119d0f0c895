/-
  The document's Same of nodes: two that read as the same node are the same. Conditions: none.
-/
import Derived.Test.YtjilkpgbojjnfaaLeafGood
import Derived.Test.YtjilkpgbojjnfaaSameList
import Derived.Test.YtjilkpgbojjnfaaRefGood
import Derived.BigQuiet
import Derived.Deep.DeepMust
namespace Go.Proofs.Ytjilkpgbojjnfaa.Cd
open Go.RowKit

theorem same_self (u v : Value) (l : List (List UInt8)) (w : World) (h : Strs w w.heap.size u l) (k : Strs w w.heap.size v l) :
    Calls Try.prog 35 #[u, v] w (Gives (.bool true) w) :=
  (same_any u v l l w h k).mono fun e w' ⟨h1, h2⟩ => ⟨by rw [h1]; simp, h2⟩

set_option maxRecDepth 100000 in
set_option maxHeartbeats 1600000 in
theorem sameN_any (u v : Value) (n : Nd) (w : World) (h : Node w w.heap.size u n) (k : Node w w.heap.size v n) :
    Calls Try.prog 17 #[u, v] w (Gives (.bool true) w) := by
  obtain ⟨b, ks, vs, is⟩ := n
  obtain ⟨vk, vv, vi, rfl, h1, h2, h3⟩ := h
  obtain ⟨A, c, rfl, _, _⟩ := h1.len
  obtain ⟨A2, c2, rfl, _, _⟩ := h2.len
  obtain ⟨A3, c3, rfl, _, m3⟩ := h3.len
  obtain ⟨vk, vv, vi, rfl, k1, k2, k3⟩ := k
  obtain ⟨D, e, rfl, _, _⟩ := k1.len
  obtain ⟨D2, e2, rfl, _, _⟩ := k2.len
  obtain ⟨D3, e3, rfl, _, n3⟩ := k3.len
  have H1 := Lib.hid h1
  have H2 := Lib.hid h2
  have K1 := Lib.hid k1
  have K2 := Lib.hid k2
  have HAT := Lib.hid (fun k => @Flat.at _ _ _ _ _ A3 is.length c3 h3 k)
  have KAT := Lib.hid (fun k => @Flat.at _ _ _ _ _ D3 is.length e3 k3 k)
  clear h1 h2 h3 k1 k2 k3
  have hq : ((is.length : Int) != (is.length : Int)) = false := by simp
  have hqb : (b != b) = false := by simp
  go_enter Try.func17, Try.ntmps17
  go_wp2_with (first
    | (go_at_call_of 35 (Value.slice A ks.length c)
       go_must (
       have hb0 : Below w.heap.size w ((w.alloc (.cells #[.bool b, .slice A ks.length c, .slice A2 vs.length c2, .slice A3 is.length c3] 25)).alloc (.cells #[.bool b, .slice D ks.length e, .slice D2 vs.length e2, .slice D3 is.length e3] 25)) := (new_below _ _).alloc (by simp) _
       refine (same_self _ _ ks _ (H1.out.on hb0) (K1.out.on hb0)).mono ?_
       rintro e w1 ⟨rfl, hb1⟩
       have X1 : Hid (Bx w1 w.heap.size b (.slice A ks.length c) (.slice A2 vs.length c2) (.slice A3 is.length c3)) := Bx.on (Bx.on (heap_alloc_new w _) (new_below _ _)) hb1
       have Y1 : Hid (Bx w1 (w.heap.size + 1) b (.slice D ks.length e) (.slice D2 vs.length e2) (.slice D3 is.length e3)) := by
         have h := heap_alloc_new (w.alloc (.cells #[.bool b, .slice A ks.length c, .slice A2 vs.length c2, .slice A3 is.length c3] 25)) (.cells #[.bool b, .slice D ks.length e, .slice D2 vs.length e2, .slice D3 is.length e3] 25)
         rw [World.size_alloc] at h
         exact Bx.on h hb1
       have B1 := Lib.hid (hb0.trans (hb1.mono hb0.size))
       have x1 := X1.out.cell2
       have y1 := Y1.out.cell2
       clear hb0 hb1))
    | (go_at_call_of 35 (Value.slice A2 vs.length c2)
       go_must (
       refine (same_self _ _ vs _ (H2.out.on B1.out) (K2.out.on B1.out)).mono ?_
       rintro e w2 ⟨rfl, hb2⟩
       have X2 := Lib.hid (X1.out.on hb2)
       have Y2 := Lib.hid (Y1.out.on hb2)
       have B2 := Lib.hid (B1.out.trans (hb2.mono B1.out.size))
       have x2 := X2.out.cell3
       have y2 := Y2.out.cell3
       clear hb2)))
  go_loopw [39] (fun i wr => ∃ j : Nat, i = .int .i64 j ∧ j ≤ is.length ∧ Hid (Bx wr w.heap.size b (.slice A ks.length c) (.slice A2 vs.length c2) (.slice A3 is.length c3)) ∧ Hid (Bx wr (w.heap.size + 1) b (.slice D ks.length e) (.slice D2 vs.length e2) (.slice D3 is.length e3)) ∧ Hid (Below w.heap.size w wr)) (fun i _ => is.length - (intOf i).toNat)
  case atStart => exact ⟨0, rfl, by omega, X2.out, Y2.out, B2.out⟩
  case round =>
    clear x1 y1 x2 y2
    obtain ⟨j, rfl, hj, hX, hY, hB⟩ := hrel
    have x3 := hX.out.cell3
    have y3 := hY.out.cell3
    by_cases hlt : j < is.length
    · obtain ⟨b0, off, rfl, hB0, hz⟩ := HAT.out j hlt
      obtain ⟨b1, off1, rfl, hB1, hy⟩ := KAT.out j hlt
      have hz := (hB.out.cell (p := ⟨b0, off + j, none⟩) hB0).trans hz
      have hy := (hB.out.cell (p := ⟨b1, off1 + j, none⟩) hB1).trans hy
      unfold vint at hz hy
      generalize is[j] = p at *
      have hqp : (p != p) = false := by simp
      go_wp2
      go_quiet (fail)
      go_wp2
      go_roundw
      case rel => exact ⟨j + 1, by go_num, by omega, hX.out, hY.out, below_drewN hB.out _⟩
      case measure => simp [intOf]; omega
    · go_wp2
      go_ret
      exact ⟨rfl, hB.out⟩

end Go.Proofs.Ytjilkpgbojjnfaa.Cd
