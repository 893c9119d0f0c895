/-
  The document's Great: has a node more than so many bytes? Conditions: none.
-/
import Derived.Test.YtjilkpgbojjnfaaLeafGood
namespace Go.Proofs.Ytjilkpgbojjnfaa.Cd
open Go.RowKit

theorem tot_getD (l : List (List UInt8)) {k : Nat} (h : k < l.length) : tot l (k + 1) = tot l k + (1 + l[k].length) := by
  rw [tot, List.getD_eq_getElem?_getD, List.getElem?_eq_getElem h, Option.getD_some]

theorem great_keys {n : Nd} {m k : Nat} (hk : k ≤ n.keys.length) (h : m < n.kids.length + tot n.keys k) : great n m = true := by
  have := tot_mono n.keys hk
  unfold great wide
  exact decide_eq_true (by omega)
theorem great_vals {n : Nd} {m k : Nat} (hk : k ≤ n.vals.length) (h : m < n.kids.length + tot n.keys n.keys.length + tot n.vals k) : great n m = true := by
  have := tot_mono n.vals hk
  unfold great wide
  exact decide_eq_true (by omega)

set_option maxRecDepth 100000 in
set_option maxHeartbeats 1600000 in
theorem great_any (v : Value) (n : Nd) (most : Nat) (w : World) (h : Node w w.heap.size v n) (hf : Fits n) (hm : most ≤ 8192) :
    Calls Try.prog 9 #[v, .int .i64 most] w (Gives (.bool (great n most)) w) := by
  obtain ⟨b, ks, vs, is⟩ := n
  obtain ⟨vk, vv, vi, rfl, h1, h2, h3⟩ := h
  obtain ⟨A, c, rfl, k2, k3⟩ := h1.len
  obtain ⟨A2, c2, rfl, l2, l3⟩ := h2.len
  obtain ⟨A3, c3, rfl, m2, m3⟩ := h3.len
  have k3 : c ≤ 9223372036854775807 := k3
  have l3 : c2 ≤ 9223372036854775807 := l3
  have KAT := Lib.hid (fun h0 => h1.at h0)
  have VAT := Lib.hid (fun h0 => h2.at h0)
  have hkey := Lib.hid hf.key
  have hval := Lib.hid hf.val
  have his : is.length ≤ 17592186044416 := hf.kids
  have HB := Lib.hid (new_below w (.cells #[.bool b, .slice A ks.length c, .slice A2 vs.length c2, .slice A3 is.length c3] 25))
  clear h1 h2 h3 hf
  have x0 : ∀ W : World, (Instr.index 43 (.agg #[.slice A ks.length c, .slice A2 vs.length c2]) (.int .i64 0)).run Try.prog W = .ok (.slice A ks.length c) W := fun _ => by kernel_rfl
  have x1 : ∀ W : World, (Instr.index 43 (.agg #[.slice A ks.length c, .slice A2 vs.length c2]) (.int .i64 1)).run Try.prog W = .ok (.slice A2 vs.length c2) W := fun _ => by kernel_rfl
  obtain ⟨K, hK⟩ : ∃ K, tot ks ks.length = K := ⟨_, rfl⟩
  obtain ⟨V, hV⟩ : ∃ V, tot vs vs.length = V := ⟨_, rfl⟩
  have HK := Lib.hid hK
  have HV := Lib.hid hV
  clear hK hV
  have hend : Hid (great ⟨b, ks, vs, is⟩ most = decide (most < is.length + K + V)) := by unfold Hid great wide; rw [HK.out, HV.out]
  go_enter Try.func9, Try.ntmps9
  go_wp2
  go_loop [5, 18] (fun k i => (i = .int .i64 0 ∧ k = .int .i64 is.length) ∨ (i = .int .i64 1 ∧ k = .int .i64 ((is.length + K : Nat)) ∧ is.length + K ≤ 20000000000000) ∨ (i = .int .i64 2 ∧ k = .int .i64 ((is.length + K + V : Nat)) ∧ is.length + K + V ≤ 30000000000000)) (fun _ i => 2 - (intOf i).toNat)
  case atStart => exact .inl ⟨rfl, rfl⟩
  case round =>
    rcases hrel with ⟨rfl, rfl⟩ | ⟨rfl, rfl, hb⟩ | ⟨rfl, rfl, hb⟩
    · go_wp2
      go_loop [5, 23] (fun k i => ∃ m : Nat, i = .int .i64 m ∧ m ≤ ks.length ∧ k = .int .i64 ((is.length + tot ks m : Nat)) ∧ is.length + tot ks m ≤ 20000000000000) (fun _ i => ks.length - (intOf i).toNat)
      case atStart => exact ⟨0, rfl, by omega, by simp [tot], by simp [tot]; omega⟩
      case round =>
        obtain ⟨m, rfl, hmk, rfl, hbd⟩ := hrel
        by_cases hlt : m < ks.length
        · obtain ⟨b0, off, c1, he1, _, _, hB, hc⟩ := KAT.out (by omega)
          injection he1 with q1 _ q3
          subst q1 q3
          have hx := (HB.out.cell (p := ⟨b0, off + m, none⟩) hB).trans (hc m hlt)
          clear hc
          have hp := hkey.out _ (List.getElem_mem hlt)
          have hnx : Hid (tot ks (m + 1) = tot ks m + (1 + ks[m].length)) := tot_getD ks hlt
          have hgr := Lib.hid (fun h => great_keys (n := ⟨b, ks, vs, is⟩) (m := most) (k := m + 1) hlt h)
          generalize ks[m] = p at *
          generalize tot ks m = T at *
          have hpz : (ByteArray.mk p.toArray).size = p.length := rfl
          by_cases hov : most < is.length + T + 1 + p.length
          · have HG : Hid (great ⟨b, ks, vs, is⟩ most = true) := hgr.out (by simp only; rw [hnx.out]; omega)
            clear hgr hnx
            go_wp2
            go_ret
            rw [HG.out]
            exact ⟨rfl, HB.out⟩
          · clear hgr
            go_wp2
            go_round
            case rel => exact ⟨m + 1, by go_num, by omega, by rw [hnx.out]; go_num, by rw [hnx.out]; omega⟩
            case measure => simp [intOf]; omega
        · have hmm : m = ks.length := by omega
          subst hmm
          have hKe := HK.out
          rw [hKe] at hbd ⊢
          clear hKe
          go_wp2
          go_round
          case rel => exact .inr (.inl ⟨rfl, rfl, hbd⟩)
          case measure => simp [intOf]
    · go_wp2
      go_loop [5, 23] (fun k i => ∃ m : Nat, i = .int .i64 m ∧ m ≤ vs.length ∧ k = .int .i64 ((is.length + K + tot vs m : Nat)) ∧ is.length + K + tot vs m ≤ 30000000000000) (fun _ i => vs.length - (intOf i).toNat)
      case atStart => exact ⟨0, rfl, by omega, by simp [tot], by simp [tot]; omega⟩
      case round =>
        obtain ⟨m, rfl, hmk, rfl, hbd⟩ := hrel
        by_cases hlt : m < vs.length
        · obtain ⟨b0, off, c1, he1, _, _, hB, hc⟩ := VAT.out (by omega)
          injection he1 with q1 _ q3
          subst q1 q3
          have hx := (HB.out.cell (p := ⟨b0, off + m, none⟩) hB).trans (hc m hlt)
          clear hc
          have hp := hval.out _ (List.getElem_mem hlt)
          have hnx : Hid (tot vs (m + 1) = tot vs m + (1 + vs[m].length)) := tot_getD vs hlt
          have hgr := Lib.hid (fun h => great_vals (n := ⟨b, ks, vs, is⟩) (m := most) (k := m + 1) hlt h)
          generalize vs[m] = p at *
          generalize tot vs m = T at *
          have hpz : (ByteArray.mk p.toArray).size = p.length := rfl
          by_cases hov : most < is.length + K + T + 1 + p.length
          · have HG : Hid (great ⟨b, ks, vs, is⟩ most = true) := hgr.out (by simp only; rw [hnx.out, HK.out]; omega)
            clear hgr hnx
            go_wp2
            go_ret
            rw [HG.out]
            exact ⟨rfl, HB.out⟩
          · clear hgr
            go_wp2
            go_round
            case rel => exact ⟨m + 1, by go_num, by omega, by rw [hnx.out]; go_num, by rw [hnx.out]; omega⟩
            case measure => simp [intOf]; omega
        · have hmm : m = vs.length := by omega
          subst hmm
          have hKe := HV.out
          rw [hKe] at hbd ⊢
          clear hKe
          go_wp2
          go_round
          case rel => exact .inr (.inr ⟨rfl, rfl, hbd⟩)
          case measure => simp [intOf]
    · go_wp2
      go_ret
      rw [hend.out]
      exact ⟨by simp; omega, HB.out⟩

end Go.Proofs.Ytjilkpgbojjnfaa.Cd
