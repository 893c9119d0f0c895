/-
  alive, of leaf's statements: what the document tells of it; nodes without keys. Conditions: none.
-/
import Derived.Test.YtjilkpgbojjnfaaLeafEnc
import Derived.Test.YtjilkpgbojjnfaaNodeBox
import Derived.Test.YtjilkpgbojjnfaaRefGreat
import Derived.Test.YtjilkpgbojjnfaaRefBytes
import Derived.Deep.DeepMust
namespace Go.Proofs.Ytjilkpgbojjnfaa.Cd
open Go.RowKit

theorem good_leaf0 : good ⟨true, [], [], []⟩ = true := by decide
theorem good_inner0 : good ⟨false, [], [], []⟩ = false := by decide
theorem enc_one : encN ⟨true, [], [], []⟩ = [1] := by
  have h : enc 1 = [1] := (enc_lo (by omega)).trans (by decide)
  unfold encN head pre kidB
  simp [h, pre, kidB]
theorem encB_leaf0 : encB ⟨true, [], [], []⟩ = [1] := by unfold encB; rw [good_leaf0, enc_one]; rfl
theorem encC_leaf0 : encC ⟨true, [], [], []⟩ = 0 := by unfold encC; rw [good_leaf0, enc_one]; rfl
theorem sizeN_inner0 : sizeN ⟨false, [], [], []⟩ = -1 := by unfold sizeN; rw [good_inner0]; rfl
theorem small_bare (b : Bool) : Small ⟨b, [], [], []⟩ 8192 := ⟨by simp, by simp, by simp, by simp, by simp⟩

theorem encode_leaf0 (w : World) : Calls Try.prog 10 #[.agg #[.bool true, .slice none 0 0, .slice none 0 0, .slice none 0 0]] w (Encs w [1] 0) := by
  have h := encode_any _ _ w (node_bare true w w.heap.size) (small_bare true) (by simp)
  rw [encB_leaf0, encC_leaf0] at h
  exact h
theorem size_inner0 (w : World) : Calls Try.prog 13 #[.agg #[.bool false, .slice none 0 0, .slice none 0 0, .slice none 0 0]] w (Gives (.int .i64 (-1)) w) := by
  have h := lsize_any _ _ w (node_bare false w w.heap.size) (small_bare false) (by simp)
  rw [sizeN_inner0] at h
  exact h

set_option maxRecDepth 100000 in
set_option maxHeartbeats 800000 in
theorem aliveL_any (w : World) : Calls Try.prog 8 #[] w (Gives (.bool true) w) := by
  go_enter Try.func8, Try.ntmps8
  go_wp2_with (first
    | (go_at_call 10
       go_must (
       refine (encode_leaf0 _).mono ?_
       rintro e w1 ⟨v1, rfl, ho1, hb1⟩
       have hcv := fun B => run_text_of w1 B v1 [1]
       have hcv1 := hcv _ ho1.sl
       have HB1 := Lib.hid hb1
       clear hcv hb1))
    | (go_at_call 13
       go_must (
       refine (size_inner0 _).mono ?_
       rintro e w2 ⟨rfl, hb2⟩
       have HB2 := Lib.hid (HB1.out.trans (hb2.mono HB1.out.size)))))
  go_ret
  exact ⟨rfl, HB2.out⟩

/-- The node's lists in every world behind. -/
theorem great_is (v : Value) (n : Nd) (most : Nat) (b : Bool) (hb : great n most = b) (w : World) (h : Node w w.heap.size v n) (hf : Fits n) (hm : most ≤ 8192) :
    Calls Try.prog 9 #[v, .int .i64 most] w (Gives (.bool b) w) := hb ▸ great_any v n most w h hf hm

theorem encB_bad {n : Nd} (h : good n = false) : encB n = [] ∧ encC n = 1 := by unfold encB encC; rw [h]; simp
theorem encB_long {n : Nd} (h : good n = true) (hl : 512 < (encN n).length) : encB n = [] ∧ encC n = 3 := by
  unfold encB encC; rw [h, if_neg (by omega), if_pos rfl, if_neg (by omega)]; exact ⟨rfl, rfl⟩
theorem encB_good {n : Nd} (h : good n = true) (hl : ¬ 512 < (encN n).length) : encB n = encN n ∧ encC n = 0 := by
  unfold encB encC; rw [h, if_pos ⟨rfl, by omega⟩, if_pos rfl, if_pos (by omega)]; exact ⟨rfl, rfl⟩

/-- A row stays while what lies from C on is written. -/
theorem Own.lowkeep {w w' : World} {B C : Nat} {v : Value} {bs : List UInt8} (h : Own w B v bs) (hC : ∀ k, v.ownBlock = some k → B ≤ k ∧ k < C) (hb : Below C w w') : Own w' B v bs := by
  refine ⟨h.1, ?_⟩
  rcases h.2 with h2 | ⟨g, cap, cur, rfl, hg, hh, r⟩
  · exact .inl h2
  · exact .inr ⟨g, cap, cur, rfl, hg, (hb.block g (hC g rfl).2).trans hh, r⟩
theorem tsz_ge (l : List (List UInt8)) (k : Nat) : k ≤ tsz l k := by
  induction k with
  | zero => exact Nat.zero_le _
  | succ k ih => rw [tsz]; have := enc_pos (l.getD k []).length; omega
theorem few_keys {n : Nd} (h : Good n) (hl : ¬ 512 < (encN n).length) : n.keys.length ≤ 512 := by
  have h1 := encN_len h
  have h2 := tsz_ge n.keys n.keys.length
  omega
theorem encN_pos (n : Nd) : 1 ≤ (encN n).length := by
  have := enc_pos (head n)
  rw [encN, List.length_append]
  omega
theorem Sl.cut {w : World} {B : Nat} {A : Option Addr} {L c : Nat} {bs : List UInt8} (h : Sl w B (.slice A L c) bs) (k : Nat) (hk : k ≤ bs.length) : Sl w B (.slice A k c) (bs.take k) := by
  obtain ⟨A', c', e, h2, h3, h4, h5, h6⟩ := h
  injection e with e1 e2 e3
  subst e1 e2 e3
  have hl : (bs.take k).length = k := by rw [List.length_take]; omega
  refine ⟨A, c, by rw [hl], by rw [hl]; omega, h3, h4, (fun ad e h0 => h5 ad e (by omega)), fun ad e j u hu => h6 ad e j u ?_⟩
  have hj := (List.getElem?_eq_some_iff.1 hu).1
  rw [vb_length, hl] at hj
  rw [← hu]
  simp only [vb, List.map_take]
  rw [List.getElem?_take, if_pos hj]

theorem encB_len (n : Nd) : (encB n).length ≤ 512 := by
  unfold encB
  split
  · rename_i h; exact h.2
  · simp
theorem dec2_bad0 {b : List UInt8} (h : uX b = true) : (dec2 b).bad = true := by
  have h1 : (dec1 b).bad = true := bad_itK (s := dec0 b) (Sane.u b) (j := 0) h (Nat.zero_le _)
  unfold dec2
  split
  · exact h1
  · exact bad_itP (sane_itK (Sane.u b) _) (j := 0) h1 (Nat.zero_le _)
theorem dec_nil : dec [] = none := by
  unfold dec
  split
  · rfl
  · rw [if_pos]
    refine .inl (dec2_bad0 ?_)
    exact uX_nil
theorem dec_encB (n : Nd) : dec (encB n) = none ∨ dec (encB n) = some n := by
  cases hg : good n
  · rw [(encB_bad hg).1]; exact .inl dec_nil
  · by_cases hl : 512 < (encN n).length
    · rw [(encB_long hg hl).1]; exact .inl dec_nil
    · rw [(encB_good hg hl).1]
      have hG := (good_iff n).1 hg
      have := dec_enc hG (few_keys hG hl) []
      rw [List.append_nil] at this
      exact .inr this

end Go.Proofs.Ytjilkpgbojjnfaa.Cd
