/-
  The document's Good: can a node be? Conditions: none.
-/
import Derived.Test.YtjilkpgbojjnfaaLeafGood
import Derived.BigQuiet
namespace Go.Proofs.Ytjilkpgbojjnfaa.Cd
open Go.RowKit

theorem below_bx {w : World} {g n : Nat} {b : Bool} {vk vv vi : Value} (h : Bx w g b vk vv vi) : Bx (w.drewN n) g b vk vv vi := h
theorem good_no {n : Nd} (h : ¬ Good n) : good n = false := by
  rw [Bool.eq_false_iff]
  exact fun h' => h ((good_iff n).1 h')

set_option maxRecDepth 100000 in
set_option maxHeartbeats 1600000 in
theorem refgood_any (v : Value) (n : Nd) (w : World) (h : Node w w.heap.size v n) (hl : n.keys.length ≤ 1000000) :
    Calls Try.prog 11 #[v] w (Gives (.bool (good n)) w) := by
  obtain ⟨b, ks, vs, is⟩ := n
  obtain ⟨vk, vv, vi, rfl, h1, h2, h3⟩ := h
  obtain ⟨A, c, rfl, k2, k3⟩ := h1.len
  obtain ⟨A2, c2, rfl, l2, l3⟩ := h2.len
  obtain ⟨A3, c3, rfl, m2, m3⟩ := h3.len
  have k3 : c ≤ 9223372036854775807 := k3
  have l3 : c2 ≤ 9223372036854775807 := l3
  have KAT := Lib.hid (fun h0 => h1.at h0)
  have VAT := Lib.hid (fun h0 => h2.at h0)
  have HAT := Lib.hid (fun k => @Flat.at _ _ _ _ _ A3 is.length c3 h3 k)
  have hl : ks.length ≤ 1000000 := hl
  have HB := Lib.hid (new_below w (.cells #[.bool b, .slice A ks.length c, .slice A2 vs.length c2, .slice A3 is.length c3] 25))
  have HX := Lib.hid (show Bx (w.alloc (.cells #[.bool b, .slice A ks.length c, .slice A2 vs.length c2, .slice A3 is.length c3] 25)) w.heap.size b (.slice A ks.length c) (.slice A2 vs.length c2) (.slice A3 is.length c3) from heap_alloc_new w _)
  have HZ : Hid ((w.alloc (.cells #[.bool b, .slice A ks.length c, .slice A2 vs.length c2, .slice A3 is.length c3] 25)).heap.size = w.heap.size + 1) := asz _ _
  clear h1 h2 h3
  by_cases hsh : (b = true ∧ (is.length ≠ 0 ∨ vs.length ≠ ks.length)) ∨ (b = false ∧ (vs.length ≠ 0 ∨ is.length ≠ ks.length + 1))
  · have hG : Hid (good ⟨b, ks, vs, is⟩ = false) := good_no fun hg => by
      rcases hsh with ⟨rfl, h⟩ | ⟨rfl, h⟩
      · obtain ⟨a1, a2⟩ := hg.leaf rfl
        simp only at a1 a2
        rcases h with h | h
        · exact h (by rw [a2]; rfl)
        · exact h a1
      · obtain ⟨a1, a2⟩ := hg.inner rfl
        simp only at a1 a2
        rcases h with h | h
        · exact h (by rw [a2]; rfl)
        · exact h a1
    have hways : (b = true ∧ decide (0 < is.length) = true) ∨ (b = true ∧ decide (0 < is.length) = false ∧ ((vs.length : Int) != (ks.length : Int)) = true) ∨ (b = false ∧ decide (0 < vs.length) = true) ∨ (b = false ∧ decide (0 < vs.length) = false ∧ ((is.length : Int) != (ks.length : Int) + 1) = true) := by
      rcases hsh with ⟨rfl, h⟩ | ⟨rfl, h⟩
      · by_cases h0 : 0 < is.length
        · exact .inl ⟨rfl, decide_eq_true h0⟩
        · exact .inr (.inl ⟨rfl, decide_eq_false h0, by simp; omega⟩)
      · by_cases h0 : 0 < vs.length
        · exact .inr (.inr (.inl ⟨rfl, decide_eq_true h0⟩))
        · exact .inr (.inr (.inr ⟨rfl, decide_eq_false h0, by simp; omega⟩))
    clear hsh
    rcases hways with ⟨rfl, q1⟩ | ⟨rfl, q1, q2⟩ | ⟨rfl, q1⟩ | ⟨rfl, q1, q2⟩
    all_goals
      go_enter Try.func11, Try.ntmps11
      go_wp2
      go_ret
      rw [hG.out]
      exact ⟨rfl, HB.out⟩
  · have hways : (b = true ∧ is.length = 0 ∧ decide (0 < is.length) = false ∧ ((vs.length : Int) != (ks.length : Int)) = false) ∨ (b = false ∧ vs.length = 0 ∧ decide (0 < vs.length) = false ∧ ((is.length : Int) != (ks.length : Int) + 1) = false) := by
      cases b
      · have h : ¬ (vs.length ≠ 0 ∨ is.length ≠ ks.length + 1) := fun h => hsh (.inr ⟨rfl, h⟩)
        exact .inr ⟨rfl, by omega, decide_eq_false (by omega), by simp; omega⟩
      · have h : ¬ (is.length ≠ 0 ∨ vs.length ≠ ks.length) := fun h => hsh (.inl ⟨rfl, h⟩)
        exact .inl ⟨rfl, by omega, decide_eq_false (by omega), by simp; omega⟩
    have hyes : Hid (rise ks = true → (∀ s ∈ ks, s.length ≤ 48) → (∀ s ∈ vs, s.length ≤ 160) → (∀ p ∈ is, 1 ≤ p ∧ p ≤ 4095) → good ⟨b, ks, vs, is⟩ = true) := fun r1 r2 r3 r4 => by
      refine (good_iff _).2 ⟨r1, r2, r3, r4, fun hb => ?_, fun hb => ?_⟩
      · simp only at hb
        exact ⟨Classical.byContradiction fun hc => hsh (.inl ⟨hb, .inr hc⟩), List.eq_nil_of_length_eq_zero (Classical.byContradiction fun hc => hsh (.inl ⟨hb, .inl hc⟩))⟩
      · simp only at hb
        exact ⟨Classical.byContradiction fun hc => hsh (.inr ⟨hb, .inr hc⟩), List.eq_nil_of_length_eq_zero (Classical.byContradiction fun hc => hsh (.inr ⟨hb, .inl hc⟩))⟩
    clear hsh
    have no1 : Hid (∀ j (hj : j < ks.length), 48 < ks[j].length → good ⟨b, ks, vs, is⟩ = false) := fun j hj h => good_no fun hg => by
      have := hg.keys _ (List.getElem_mem hj)
      omega
    have no2 : Hid (∀ j (hj : j + 1 < ks.length), ¬ ks[j] < ks[j + 1] → good ⟨b, ks, vs, is⟩ = false) := fun j hj h => good_no fun hg => h ((rise_iff ks).1 hg.rise j hj)
    have no3 : Hid (∀ j (hj : j < vs.length), 160 < vs[j].length → good ⟨b, ks, vs, is⟩ = false) := fun j hj h => good_no fun hg => by
      have := hg.vals _ (List.getElem_mem hj)
      omega
    have no4 : Hid (∀ j (hj : j < is.length), is[j] ≤ 0 ∨ 4095 < is[j] → good ⟨b, ks, vs, is⟩ = false) := fun j hj h => good_no fun hg => by
      have := hg.kids _ (List.getElem_mem hj)
      omega
    generalize good ⟨b, ks, vs, is⟩ = G at *
    rcases hways with ⟨rfl, q0, q1, q2⟩ | ⟨rfl, q0, q1, q2⟩
    all_goals
      have HQ0 := Lib.hid q0
      clear q0
      go_enter Try.func11, Try.ntmps11
      go_wp2
      go_loopw [40] (fun i wr => ∃ k : Nat, i = .int .i64 k ∧ k ≤ ks.length ∧ Hid (∀ j (hj : j < ks.length), j < k → ks[j].length ≤ 48) ∧ Hid (∀ j (hj : j + 1 < ks.length), j + 1 < k → ks[j] < ks[j + 1]) ∧ (∃ bb, Bx wr w.heap.size bb (.slice A ks.length c) (.slice A2 vs.length c2) (.slice A3 is.length c3)) ∧ Below w.heap.size w wr) (fun i _ => ks.length - (intOf i).toNat)
      case atStart => exact ⟨0, rfl, by omega, fun j _ h => by omega, fun j _ h => by omega, ⟨_, HX.out⟩, HB.out⟩
      case round =>
        obtain ⟨k, rfl, hk, hpre, hris, ⟨bb, hbx⟩, hbel⟩ := hrel
        have HBW := Lib.hid hbel
        have f1 := hbx.cell1
        have f2 := hbx.cell2
        have f3 := hbx.cell3
        have HBX := Lib.hid hbx
        clear hbel hbx
        by_cases hlt : k < ks.length
        · obtain ⟨b0, off, c1, he1, _, _, hB, hc⟩ := KAT.out (by omega)
          injection he1 with e1 _ e3
          subst e1 e3
          have hx := (HBW.out.cell (p := ⟨b0, off + k, none⟩) hB).trans (hc k hlt)
          have hnok := Lib.hid (no1.out k hlt)
          have hpk : Hid (ks[k].length ≤ 48 → ∀ j (hj : j < ks.length), j < k + 1 → ks[j].length ≤ 48) := fun hle j hj hjk => by
            rcases Nat.lt_succ_iff_lt_or_eq.1 hjk with h1 | rfl
            · exact hpre.out j hj h1
            · exact hle
          by_cases h0 : 0 < k
          · obtain ⟨i, rfl⟩ : ∃ i, k = i + 1 := ⟨k - 1, by omega⟩
            have hy := (HBW.out.cell (p := ⟨b0, off + i, none⟩) hB).trans (hc i (by omega))
            have hnor := Lib.hid (no2.out i hlt)
            have hpr : Hid (ks[i] < ks[i + 1] → ∀ j (hj : j + 1 < ks.length), j + 1 < i + 1 + 1 → ks[j] < ks[j + 1]) := fun hle j hj hjk => by
              by_cases e : j = i
              · subst e; exact hle
              · exact hris.out j hj (by omega)
            clear hc
            generalize ks[i + 1] = p at *
            generalize ks[i] = q at *
            have hpz : (ByteArray.mk p.toArray).size = p.length := rfl
            by_cases hov : 48 < p.length
            · have HG := Lib.hid (hnok.out hov)
              clear hnok hpk hnor hpr
              go_wp2
              go_ret
              rw [HG.out]
              exact ⟨rfl, HBW.out⟩
            · have hpk2 := Lib.hid (hpk.out (by omega))
              clear hnok hpk
              have hg0 : decide (0 < i + 1) = true := decide_eq_true (by omega)
              by_cases hlq : q < p
              · have hA : Op.bytesLess p q = false := (less_of p q).trans (decide_eq_false (List.lt_asymm hlq))
                have hB : (p == q) = false := beq_eq_false_iff_ne.2 (fun e => by rw [e] at hlq; exact List.lt_irrefl _ hlq)
                have hpr2 := Lib.hid (hpr.out hlq)
                clear hnor hpr hlq
                go_wp2
                go_quiet (fail)
                go_wp2
                go_roundw
                case rel => exact ⟨i + 1 + 1, by go_num, by omega, hpk2.out, hpr2.out, ⟨bb, below_bx HBX.out⟩, below_drewN HBW.out _⟩
                case measure => simp [intOf]; omega
              · have HG := Lib.hid (hnor.out hlq)
                have hways2 : (Op.bytesLess p q = true ∧ (p == q) = false) ∨ (Op.bytesLess p q = false ∧ p = q) := by
                  by_cases h2 : p < q
                  · exact .inl ⟨(less_of p q).trans (decide_eq_true h2), beq_eq_false_iff_ne.2 (fun e => by rw [e] at h2; exact List.lt_irrefl _ h2)⟩
                  · exact .inr ⟨(less_of p q).trans (decide_eq_false h2), List.le_antisymm hlq h2⟩
                clear hnor hpr hlq
                rcases hways2 with ⟨hA, hB⟩ | ⟨hA, rfl⟩
                · go_wp2
                  go_quiet (fail)
                  go_wp2
                  go_ret
                  rw [HG.out]
                  exact ⟨rfl, below_drewN HBW.out _⟩
                · have hB : (p == p) = true := by simp
                  go_wp2
                  go_quiet (fail)
                  go_wp2
                  go_ret
                  rw [HG.out]
                  exact ⟨rfl, below_drewN HBW.out _⟩
          · obtain rfl : k = 0 := by omega
            clear hc
            generalize ks[0] = p at *
            have hx0 : wr.cell? ⟨b0, off, none⟩ = some (.string ⟨p.toArray⟩) := hx
            have hpz : (ByteArray.mk p.toArray).size = p.length := rfl
            by_cases hov : 48 < p.length
            · have HG := Lib.hid (hnok.out hov)
              clear hnok hpk
              go_wp2
              go_ret
              rw [HG.out]
              exact ⟨rfl, HBW.out⟩
            · have hpk2 := Lib.hid (hpk.out (by omega))
              have hr0 : Hid (∀ j (hj : j + 1 < ks.length), j + 1 < 0 + 1 → ks[j] < ks[j + 1]) := fun j hj h => by omega
              clear hnok hpk
              have hg0 : decide ((0 : Nat) < 0) = false := decide_eq_false (by omega)
              go_wp2
              go_quiet (fail)
              go_wp2
              go_roundw
              case rel => exact ⟨0 + 1, by go_num, by omega, hpk2.out, hr0.out, ⟨bb, below_bx HBX.out⟩, below_drewN HBW.out _⟩
              case measure => simp [intOf]; omega
        · have hkk : k = ks.length := by omega
          have hrise : Hid (rise ks = true) := (rise_iff ks).2 fun j hj => hris.out j hj (by omega)
          have hkeys : Hid (∀ s ∈ ks, s.length ≤ 48) := fun s hs => by
            obtain ⟨j, hj, rfl⟩ := List.getElem_of_mem hs
            exact hpre.out j hj (by omega)
          clear hpre hris hkk
          go_wp2
          go_loop [70] (fun i => ∃ m : Nat, i = .int .i64 m ∧ m ≤ vs.length ∧ Hid (∀ j (hj : j < vs.length), j < m → vs[j].length ≤ 160)) (fun i => vs.length - (intOf i).toNat)
          case atStart => exact ⟨0, rfl, by omega, fun j _ h => by omega⟩
          case round =>
            obtain ⟨m, rfl, hm, hpv⟩ := hrel
            by_cases hlt : m < vs.length
            · obtain ⟨b0, off, c1, he1, _, _, hB, hc⟩ := VAT.out (by omega)
              injection he1 with e1 _ e3
              subst e1 e3
              have hx := (HBW.out.cell (p := ⟨b0, off + m, none⟩) hB).trans (hc m hlt)
              have hnok := Lib.hid (no3.out m hlt)
              have hpk : Hid (vs[m].length ≤ 160 → ∀ j (hj : j < vs.length), j < m + 1 → vs[j].length ≤ 160) := fun hle j hj hjk => by
                rcases Nat.lt_succ_iff_lt_or_eq.1 hjk with h1 | rfl
                · exact hpv.out j hj h1
                · exact hle
              clear hc
              generalize vs[m] = p at *
              have hpz : (ByteArray.mk p.toArray).size = p.length := rfl
              by_cases hov : 160 < p.length
              · have HG := Lib.hid (hnok.out hov)
                clear hnok hpk
                go_wp2
                go_ret
                rw [HG.out]
                exact ⟨rfl, HBW.out⟩
              · have hpk2 := Lib.hid (hpk.out (by omega))
                clear hnok hpk
                go_wp2
                go_round
                case rel => exact ⟨m + 1, by go_num, by omega, hpk2.out⟩
                case measure => simp [intOf]; omega
            · have hvals : Hid (∀ s ∈ vs, s.length ≤ 160) := fun s hs => by
                obtain ⟨j, hj, rfl⟩ := List.getElem_of_mem hs
                exact hpv.out j hj (by omega)
              clear hpv
              go_wp2
              go_loop [81] (fun i => ∃ m : Nat, i = .int .i64 m ∧ m ≤ is.length ∧ Hid (∀ j (hj : j < is.length), j < m → 1 ≤ is[j] ∧ is[j] ≤ 4095)) (fun i => is.length - (intOf i).toNat)
              case atStart => exact ⟨0, rfl, by omega, fun j _ h => by omega⟩
              case round =>
                obtain ⟨m, rfl, hm, hpi⟩ := hrel
                by_cases hlt : m < is.length
                · obtain ⟨b0, off, rfl, hB, hz⟩ := HAT.out m hlt
                  have hz := (HBW.out.cell (p := ⟨b0, off + m, none⟩) hB).trans hz
                  have hnok := Lib.hid (no4.out m hlt)
                  have hpk : Hid (1 ≤ is[m] ∧ is[m] ≤ 4095 → ∀ j (hj : j < is.length), j < m + 1 → 1 ≤ is[j] ∧ is[j] ≤ 4095) := fun hle j hj hjk => by
                    rcases Nat.lt_succ_iff_lt_or_eq.1 hjk with h1 | rfl
                    · exact hpi.out j hj h1
                    · exact hle
                  unfold vint at hz
                  generalize is[m] = p at *
                  by_cases hlo : p ≤ 0
                  · have HG := Lib.hid (hnok.out (.inl hlo))
                    have hd1 : decide (p ≤ 0) = true := decide_eq_true hlo
                    clear hnok hpk
                    go_wp2
                    go_ret
                    rw [HG.out]
                    exact ⟨rfl, HBW.out⟩
                  · have hd1 : decide (p ≤ 0) = false := decide_eq_false hlo
                    by_cases hov : 4095 < p
                    · have HG := Lib.hid (hnok.out (.inr hov))
                      have hd2 : decide (4095 < p) = true := decide_eq_true hov
                      clear hnok hpk
                      go_wp2
                      go_ret
                      rw [HG.out]
                      exact ⟨rfl, HBW.out⟩
                    · have hpk2 := Lib.hid (hpk.out (by omega))
                      have hd2 : decide (4095 < p) = false := decide_eq_false hov
                      clear hnok hpk
                      go_wp2
                      go_round
                      case rel => exact ⟨m + 1, by go_num, by omega, hpk2.out⟩
                      case measure => simp [intOf]; omega
                · have hkids : Hid (∀ p ∈ is, 1 ≤ p ∧ p ≤ 4095) := fun s hs => by
                    obtain ⟨j, hj, rfl⟩ := List.getElem_of_mem hs
                    exact hpi.out j hj (by omega)
                  have HG := Lib.hid (hyes.out hrise.out hkeys.out hvals.out hkids.out)
                  go_wp2
                  go_ret
                  rw [HG.out]
                  exact ⟨rfl, HBW.out⟩

end Go.Proofs.Ytjilkpgbojjnfaa.Cd
