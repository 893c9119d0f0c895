/-
  The reference's Reader: Int, In, Take, Text. Conditions: none.
-/
import Derived.Test.YtcliknmcefcaeaaRefReader
namespace Go.Proofs.Ytcliknmcefcaeaa.Cd
open Go.RowKit



set_option maxHeartbeats 400000 in
theorem ftake_any (g : Nat) (n : Int) (bs : List UInt8) (bad : Bool) (w : World) (hr : Rf w g bs bad) (_hs : bs.length ≤ 140737488355328) :
    Calls Try.prog 82 #[.pointer (some ⟨g, 0, none⟩), .int .i64 n] w (AnsF (.string ⟨(tkV bad n bs).toArray⟩) w g (tkB bad n bs) (tkX bad n bs)) := by
  have HR := Lib.hid hr
  have hc0 := hr.cell0
  have hc1 := hr.cell1
  have hf0 := hr.frozen 0
  have hsz : (ByteArray.mk bs.toArray).size = bs.length := rfl
  clear hr
  by_cases hbad : TkBad bad n bs
  · have hx : Hid (tkB bad n bs = [] ∧ tkX bad n bs = true ∧ tkV bad n bs = []) := ⟨if_pos hbad, decide_eq_true hbad, if_pos hbad⟩
    rcases (by rcases hbad with h | h | h; (by_cases h0 : n < 0; exact .inl h0; by_cases h1 : (bs.length : Int) < n; exact .inr (.inl ⟨h0, h1⟩); exact .inr (.inr ⟨h0, h1, h⟩)); exact .inl h; (by_cases h0 : n < 0; exact .inl h0; exact .inr (.inl ⟨h0, h⟩)) : n < 0 ∨ (¬ n < 0 ∧ (bs.length : Int) < n) ∨ (¬ n < 0 ∧ ¬ (bs.length : Int) < n ∧ bad = true)) with h0 | ⟨h0, h1⟩ | ⟨h0, h1, rfl⟩
    all_goals
      clear hbad
      go_enter Try.func82, Try.ntmps82
      go_wp2_with (go_at_call 81; refine (ffail_any g bs _ _ HR.out).mono ?_; rintro e w1 ⟨rfl, hl⟩)
      go_ret
      obtain ⟨h1, h2, h3⟩ := hx.out
      rw [h1, h2, h3]
      exact ⟨rfl, hl⟩
  · have hx : Hid (tkB bad n bs = bs.drop n.toNat ∧ tkX bad n bs = false ∧ tkV bad n bs = bs.take n.toNat) := ⟨if_neg hbad, decide_eq_false hbad, if_neg hbad⟩
    have h0 : ¬ n < 0 := fun h => hbad (.inr (.inl h))
    have h1 : ¬ (bs.length : Int) < n := fun h => hbad (.inr (.inr h))
    have hbf : bad = false := by
      cases bad with
      | false => rfl
      | true => exact absurd (.inl rfl) hbad
    clear hbad
    subst hbf
    obtain ⟨k, rfl⟩ := Int.eq_ofNat_of_zero_le (by omega : 0 ≤ n)
    have h2 : k ≤ bs.length := by omega
    go_enter Try.func82, Try.ntmps82
    go_wp2_with fail
    go_ret
    obtain ⟨h1, h2, h3⟩ := hx.out
    rw [h1, h2, h3, Int.toNat_natCast]
    refine ⟨?_, HR.out.set0 _ ?_, grown_set _ _ _ _⟩
    · rw [← extract_head]; rfl
    · rw [extract_tail _ _ _ rfl]

theorem tx_is_tk {most : Int} {bs : List UInt8} (hb : ¬ Bad bs) (h0 : ¬ most < 0) (h1 : ¬ most < (nv bs : Nat)) :
    txB most bs = tkB false (nv bs : Nat) (uB bs) ∧ txX most bs = tkX false (nv bs : Nat) (uB bs) ∧ txV most bs = tkV false (nv bs : Nat) (uB bs) := by
  have e : uB bs = bs.drop (ns bs) := if_neg hb
  have hiff : TxBad most bs ↔ TkBad false (nv bs : Nat) (uB bs) := by
    unfold TxBad TkBad
    rw [e]
    simp only [Bool.false_eq_true, false_or]
    constructor
    · rintro (h | h | h | h)
      · exact absurd h hb
      · exact absurd h h0
      · exact absurd h h1
      · exact .inr (by omega)
    · rintro (h | h)
      · omega
      · exact .inr (.inr (.inr (by omega)))
  unfold txB txX txV tkB tkX tkV
  by_cases hk : TkBad false (nv bs : Nat) (uB bs)
  · rw [if_pos hk, if_pos hk, if_pos (hiff.2 hk), if_pos (hiff.2 hk), decide_eq_true hk, decide_eq_true (hiff.2 hk)]
    exact ⟨rfl, rfl, rfl⟩
  · have hk2 := fun h => hk (hiff.1 h)
    rw [if_neg hk, if_neg hk, if_neg hk2, if_neg hk2, decide_eq_false hk, decide_eq_false hk2, e, Int.toNat_natCast]
    exact ⟨rfl, rfl, rfl⟩

set_option maxRecDepth 100000 in
set_option maxHeartbeats 400000 in
theorem ftext_any (g : Nat) (most : Int) (bs : List UInt8) (bad : Bool) (w : World) (hr : Rf w g bs bad) (hbb : Sane bad bs) (hs : bs.length ≤ 140737488355328) (hm : most ≤ 9223372036854775807) :
    Calls Try.prog 52 #[.pointer (some ⟨g, 0, none⟩), .int .i64 most] w (AnsF (.string ⟨(txV most bs).toArray⟩) w g (txB most bs) (txX most bs)) := by
  have hu := Lib.hid (fuint_any g bs bad w hr hbb hs)
  clear hr hbb
  have hlen := uB_len bs
  have hn := nv_u64 bs
  by_cases ho : Bad bs ∨ most < 0 ∨ most < (nv bs : Nat)
  · have ht : TxBad most bs := by
      rcases ho with h | h | h
      · exact .inl h
      · exact .inr (.inl h)
      · exact .inr (.inr (.inl h))
    have hx : Hid (txB most bs = [] ∧ txX most bs = true ∧ txV most bs = []) := ⟨if_pos ht, decide_eq_true ht, if_pos ht⟩
    have hways : uX bs = true ∨ (uX bs = false ∧ most < 0) ∨ (uX bs = false ∧ ¬ most < 0 ∧ most < (nv bs : Nat)) := by
      by_cases hb : Bad bs
      · exact .inl (decide_eq_true hb)
      · have hx2 : uX bs = false := decide_eq_false hb
        by_cases h0 : most < 0
        · exact .inr (.inl ⟨hx2, h0⟩)
        · refine .inr (.inr ⟨hx2, h0, ?_⟩)
          rcases ho with h | h | h
          · exact absurd h hb
          · exact absurd h h0
          · exact h
    clear ht ho
    generalize nv bs = n at hu hn hways
    generalize uX bs = x at hu hways
    generalize uB bs = c at hu hlen
    rcases hways with hw | ⟨hw, h0⟩ | ⟨hw, h0, h1⟩
    all_goals
      subst hw
      go_enter Try.func52, Try.ntmps52
      go_wp2_with (first | (go_at_call 50; refine hu.out.mono ?_; rintro e w1 ⟨rfl, hl⟩; have hc1 := hl.1.cell1) | (go_at_call 81; refine (ffail_any g _ _ _ hl.1).mono ?_; rintro e w2 ⟨rfl, hl2⟩))
      go_ret
      obtain ⟨h1, h2, h3⟩ := hx.out
      rw [h1, h2, h3]
      exact ⟨rfl, leftF_trans hl hl2⟩
  · have hb : ¬ Bad bs := fun h => ho (.inl h)
    have h0 : ¬ most < 0 := fun h => ho (.inr (.inl h))
    have h1 : ¬ most < (nv bs : Nat) := fun h => ho (.inr (.inr h))
    have hx2 : uX bs = false := decide_eq_false hb
    have hx : Hid (txB most bs = tkB false (nv bs : Nat) (uB bs) ∧ txX most bs = tkX false (nv bs : Nat) (uB bs) ∧ txV most bs = tkV false (nv bs : Nat) (uB bs)) := tx_is_tk hb h0 h1
    rw [hx2] at hu
    clear hb ho hx2
    generalize nv bs = n at hu h1 hn hx
    go_enter Try.func52, Try.ntmps52
    go_wp2_with (first | (go_at_call 50; refine hu.out.mono ?_; rintro e w1 ⟨rfl, hl⟩; have hc1 := hl.1.cell1) | (go_at_call 82; refine (ftake_any g _ _ _ _ hl.1 (by omega)).mono ?_; rintro e w2 ⟨rfl, hl2⟩))
    go_ret
    obtain ⟨h1, h2, h3⟩ := hx.out
    rw [h1, h2, h3]
    exact ⟨rfl, leftF_trans hl hl2⟩

end Go.Proofs.Ytcliknmcefcaeaa.Cd
