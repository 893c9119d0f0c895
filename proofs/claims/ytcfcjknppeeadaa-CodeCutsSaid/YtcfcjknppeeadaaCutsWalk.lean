/-
  CodeCuts answers true. Conditions: none.
-/
import Derived.Test.YtcfcjknppeeadaaAlive
import Derived.Test.YtcfcjknppeeadaaRefWriters
import Derived.Test.YtcfcjknppeeadaaConv
import Derived.Test.YtcfcjknppeeadaaMathC
import Derived.OpenShut
namespace Go.Proofs.Ytcfcjknppeeadaa.Cd
open Go.RowKit

section
variable (g : Nat) (bs : List UInt8) (w : World)

theorem ruint_bad (hr : Rd w g bs false) (hb : Bad bs) (hs : bs.length ≤ 140737488355328) :
    Calls Try.prog 17 #[.pointer (some ⟨g, 0, none⟩)] w (Ans (.int .u64 0) w g [] true) := by
  have h := ruint_any g bs false w hr (Sane.start _) hs
  rw [nv_bad hb, show uB bs = [] from if_pos hb, show uX bs = true from decide_eq_true hb] at h
  exact h

theorem rtext_bad (most : Int) (hr : Rd w g bs false) (hb : TxBad most bs) (hs : bs.length ≤ 140737488355328) (hm : most ≤ 9223372036854775807) :
    Calls Try.prog 21 #[.pointer (some ⟨g, 0, none⟩), .int .i64 most] w (Ans (.string ⟨#[]⟩) w g [] true) := by
  have h := rtext_any g most bs false w hr (Sane.start _) hs hm
  rw [show txV most bs = [] from if_pos hb, show txB most bs = [] from if_pos hb, show txX most bs = true from decide_eq_true hb] at h
  exact h

theorem rint_fault (hr : Rd w g [] true) :
    Calls Try.prog 19 #[.pointer (some ⟨g, 0, none⟩)] w (Ans (.int .i64 0) w g [] true) := by
  have h := rint_any g [] true w hr (fun _ => rfl) (by simp)
  rw [nv_bad bad_nil, show uB [] = [] from if_pos bad_nil, show uX [] = true from decide_eq_true bad_nil] at h
  exact h

theorem rtake_fault (n : Int) (hr : Rd w g [] true) :
    Calls Try.prog 25 #[.pointer (some ⟨g, 0, none⟩), .int .i64 n] w (Ans (.string ⟨#[]⟩) w g [] true) := by
  have h := rtake_any g n [] true w hr (fun _ => rfl) (by simp)
  obtain ⟨k1, k2, k3⟩ := tk_nil_bad n
  rw [k1, k2, k3] at h
  exact h
end

/-- A text's bytes that are cut are a fault. -/
theorem cut_text (s : List UInt8) (hs : s.length ≤ 1024) (k : Nat) (hk : k < (enc s.length ++ s).length) : TxBad s.length ((enc s.length ++ s).take k) := by
  have hu : s.length < 18446744073709551616 := by omega
  rw [List.length_append] at hk
  by_cases h : k < (enc s.length).length
  · rw [List.take_append_of_le_length (by omega)]
    exact .inl (cut_bad h)
  · rw [List.take_append, List.take_of_length_le (by omega)]
    refine .inr (.inr (.inr ?_))
    rw [nv_enc hu, ns_enc hu, List.drop_left, List.length_take]
    omega

set_option maxHeartbeats 400000 in
theorem cuts_long (n : Nat) (s : ByteArray) (cut : Int) (w : World) (hs : s.size ≤ maxLen) (h : 1024 < s.size) :
    Calls Try.prog 9 #[.int .u64 n, .string s, .int .i64 cut] w (Gives (.bool true) w) := by
  unfold maxLen at hs
  go_enter Try.func9, Try.ntmps9
  go_wp2_with (go_at_call 10; refine (alive_any _).mono ?_; rintro e w1 ⟨rfl, hb1⟩)
  go_ret
  exact ⟨rfl, hb1⟩

set_option maxRecDepth 100000 in
set_option maxHeartbeats 800000 in
theorem cuts_walk (n : Nat) (s : ByteArray) (cut : Int) (w : World) (hn : n < 18446744073709551616) (hs : s.size ≤ 1024) (c0 : -9223372036854775808 ≤ cut) (c1 : cut ≤ 9223372036854775807) :
    Calls Try.prog 9 #[.int .u64 n, .string s, .int .i64 cut] w (Gives (.bool true) w) := by
  have hl := enc_u64 n hn
  have hl2 := enc_u64 s.size (by omega)
  have hls : s.data.toList.length = s.size := rfl
  have HLS := Lib.hid hls
  clear hls
  have hle : (enc s.size ++ s.data.toList).length = (enc s.size).length + s.size := by rw [List.length_append, HLS.out]
  have HLE := Lib.hid hle
  generalize hE : enc s.size ++ s.data.toList = E at hle
  have HE := Lib.hid hE
  clear hE hle
  go_enter Try.func9, Try.ntmps9
  go_wp2_with (go_at_call 10; refine (alive_any _).mono ?_; rintro e w1 ⟨rfl, hb1⟩)
  refine (ref_uint_any n w1 hn).mono ?_
  rintro e w2 ⟨rfl, hb2⟩
  go_wp2_with (refine wp_bytes_of rfl _ rfl (enc n) rfl (by omega) ?_)
  intro g1 k1 w3 hr1 hg1 hb3
  go_wp2_with fail
  refine (ref_text_any s w3 (by omega)).mono ?_
  rintro e w4 ⟨rfl, hb4⟩
  rw [HE.out]
  go_wp2_with (refine wp_bytes_of rfl _ rfl E rfl ?hm ?hk)
  case hm => have := HLE.out; rw [HE.out] at this; omega
  case hk =>
    intro g2 k2 w5 hr2 hg2 hb5
    have hB1 := hb1.size
    have hB2 := hb2.size
    have hB3 := hb3.size
    have hB4 := hb4.size
    have hB5 := hb5.size
    have hb : Below w.heap.size w w5 := (((hb1.trans (hb2.mono (by omega))).trans (hb3.mono (by omega))).trans (hb4.mono (by omega))).trans (hb5.mono (by omega))
    have hR1 := Lib.hid ((hr1.keep hb4 hr1.2.2.1).keep hb5 (by have := hr1.2.2.1; omega))
    have hR2 := Lib.hid hr2
    have hg1 := hr1.2.2.1
    clear hr1 hr2 hb1 hb2 hb3 hb4 hb5
    have hk1 := hR1.out.1
    have hk2 := hR2.out.1
    have hEL := HLE.out
    rw [HE.out] at hEL
    by_cases hc1 : 0 ≤ cut ∧ cut < (enc n).length
    · have h0 := hc1.1
      have h1 := hc1.2
      clear hc1
      have hk : cut.toNat < (enc n).length := by omega
      go_wp2_with fail
      refine (read_any _ ((enc n).take cut.toNat) _ (hR1.out.slTake (by omega))).mono ?_
      rintro e w6 ⟨rfl, hr6, hb6⟩
      have HR6 := Lib.hid hr6
      clear hr6
      have hs6 := hb6.size
      go_wp2_with fail
      refine (ruint_bad _ _ _ HR6.out (cut_bad hk) (by rw [List.length_take]; omega)).mono ?_
      rintro e w7 ⟨rfl, hl7⟩
      go_wp2_with fail
      refine (good_any _ _ _ _ hl7.1).mono ?_
      rintro e w8 ⟨rfl, rfl⟩
      go_wp2_with fail
      refine (rtake_fault _ _ _ hl7.1).mono ?_
      rintro e w9 ⟨rfl, hl9⟩
      have hbx : Below w5.heap.size w5 w9 := below_of_grown (below_of_grown hb6 hl7.2 (by omega) (by omega)) hl9.2 (by have := hl7.2.size; omega) (by omega)
      clear hl7 hl9 HR6 hb6
      have hR6 := Lib.hid (hR2.out.keep hbx hR2.out.2.2.1)
      have hsx := hbx.size
      by_cases hc2 : cut < E.length
      · clear hk
        obtain ⟨k, hkk⟩ := Int.eq_ofNat_of_zero_le h0
        subst hkk
        have hk : k < E.length := by omega
        have hbad : Hid (TxBad (s.size : Nat) (E.take k)) := by
          have := cut_text s.data.toList (by rw [HLS.out]; exact hs) k (by rw [HLS.out, HE.out]; exact hk)
          rw [HLS.out, HE.out] at this
          exact this
        go_wp2_with fail
        refine (read_any _ (E.take k) _ (hR6.out.slTake (by omega))).mono ?_
        rintro e v6 ⟨rfl, hq6, hb6⟩
        have HQ6 := Lib.hid hq6
        clear hq6
        have hs6 := hb6.size
        go_wp2_with (first | (go_at_call 21; refine (rtext_bad _ _ _ _ HQ6.out hbad.out (by rw [List.length_take]; omega) (by omega)).mono ?_; rintro e v7 ⟨rfl, hm7⟩) | (go_at_call 27; refine (good_any _ _ _ _ hm7.1).mono ?_; rintro e v8 ⟨rfl, rfl⟩) | (go_at_call 19; refine (rint_fault _ _ hm7.1).mono ?_; rintro e v9 ⟨rfl, hm9⟩))
        go_ret
        exact ⟨rfl, below_of_grown (below_of_grown ((hb.trans (hbx.mono (by omega))).trans (hb6.mono (by omega))) hm7.2 (by omega) (by omega)) hm9.2 (by have := hm7.2.size; omega) (by omega)⟩
      · have hc3 : ¬ (cut < (enc s.size).length + s.size) := by omega
        clear hc2
        go_wp2_with fail
        go_ret
        exact ⟨rfl, hb.trans (hbx.mono (by omega))⟩
    · have hbx : Below w5.heap.size w5 w5 := Below.refl _ _
      have hR6 := Lib.hid (hR2.out.keep hbx hR2.out.2.2.1)
      have hsx := hbx.size
      rcases (by omega : cut < 0 ∨ (0 ≤ cut ∧ ¬ (cut < (enc n).length) ∧ cut < E.length) ∨ (0 ≤ cut ∧ ¬ (cut < (enc n).length) ∧ ¬ (cut < (enc s.size).length + s.size))) with h0 | ⟨h0, h1, h2⟩ | ⟨h0, h1, h2⟩
      · clear hc1
        go_wp2_with fail
        go_ret
        exact ⟨rfl, hb.trans (hbx.mono (by omega))⟩
      · clear hc1
        obtain ⟨k, hkk⟩ := Int.eq_ofNat_of_zero_le h0
        subst hkk
        have hk : k < E.length := by omega
        have hbad : Hid (TxBad (s.size : Nat) (E.take k)) := by
          have := cut_text s.data.toList (by rw [HLS.out]; exact hs) k (by rw [HLS.out, HE.out]; exact hk)
          rw [HLS.out, HE.out] at this
          exact this
        go_wp2_with fail
        refine (read_any _ (E.take k) _ (hR6.out.slTake (by omega))).mono ?_
        rintro e v6 ⟨rfl, hq6, hb6⟩
        have HQ6 := Lib.hid hq6
        clear hq6
        have hs6 := hb6.size
        go_wp2_with (first | (go_at_call 21; refine (rtext_bad _ _ _ _ HQ6.out hbad.out (by rw [List.length_take]; omega) (by omega)).mono ?_; rintro e v7 ⟨rfl, hm7⟩) | (go_at_call 27; refine (good_any _ _ _ _ hm7.1).mono ?_; rintro e v8 ⟨rfl, rfl⟩) | (go_at_call 19; refine (rint_fault _ _ hm7.1).mono ?_; rintro e v9 ⟨rfl, hm9⟩))
        go_ret
        exact ⟨rfl, below_of_grown (below_of_grown ((hb.trans (hbx.mono (by omega))).trans (hb6.mono (by omega))) hm7.2 (by omega) (by omega)) hm9.2 (by have := hm7.2.size; omega) (by omega)⟩
      · clear hc1
        go_wp2_with fail
        go_ret
        exact ⟨rfl, hb.trans (hbx.mono (by omega))⟩

end Go.Proofs.Ytcfcjknppeeadaa.Cd

namespace Go.Proofs.Ytcfcjknppeeadaa.CodeCuts
open Go.RowKit Go.Proofs.Ytcfcjknppeeadaa.Cd

theorem walk (a0 : Int) (a1 : ByteArray) (a2 : Int) (w : World) (w0 : (Lit.int .u64 a0).wf = true) (w1 : a1.size ≤ maxLen) (w2 : (Lit.int .i64 a2).wf = true) :
    Calls Try.prog 9 #[.int .u64 a0, .string a1, .int .i64 a2] w (Gives (.bool true) w) := by
  have b0 := bounds_u64 w0
  have b2 := bounds_i64 w2
  obtain ⟨a, rfl⟩ := Int.eq_ofNat_of_zero_le (a := a0) (by omega)
  by_cases h : 1024 < a1.size
  · exact cuts_long a a1 a2 w w1 h
  · exact cuts_walk a a1 a2 w (by omega) (by omega) (by omega) (by omega)

end Go.Proofs.Ytcfcjknppeeadaa.CodeCuts
