/-
  code.Reader: Uint, Int, In, Take, Text. Conditions: none.
-/
import Derived.Test.YtabogconbjdcgaaReader
import Derived.Test.YtabogconbjdcgaaNumber
namespace Go.Proofs.Ytabogconbjdcgaa.Cd
open Go.RowKit

theorem number_list (bs : List UInt8) (w : World) (hs : bs.length ≤ 140737488355328) : Calls Try.prog 67 #[.string ⟨bs.toArray⟩] w (NumIs bs w) :=
  number_any ⟨bs.toArray⟩ w hs

theorem extract_tail (bs : List UInt8) (k n : Nat) (hn : n = bs.length) : (ByteArray.mk bs.toArray).extract k n = ⟨(bs.drop k).toArray⟩ := by
  subst hn
  apply ByteArray.ext
  simp [ByteArray.data_extract, List.take_of_length_le]

theorem extract_head (bs : List UInt8) (k : Nat) : (ByteArray.mk bs.toArray).extract 0 k = ⟨(bs.take k).toArray⟩ := by
  apply ByteArray.ext
  simp [ByteArray.data_extract, List.extract_eq_take_drop]

theorem Rd.set0' {w : World} {g : Nat} {bs : List UInt8} {bad : Bool} (h : Rd w g bs bad) {v : Value} (cs : List UInt8) (hv : v = .string ⟨cs.toArray⟩) : Rd (w.setCell ⟨g, 0, none⟩ v) g cs bad := by
  subst hv
  exact h.set0 cs

/-- What a reader's method leaves: its answer, and the reader. -/
def Ans (v : Value) (w : World) (g : Nat) (bs : List UInt8) (bad : Bool) (e : Ending) (w' : World) : Prop := e = .returned v ∧ Left w g bs bad w'

set_option maxRecDepth 100000 in
set_option maxHeartbeats 400000 in
theorem ruint_any (g : Nat) (bs : List UInt8) (bad : Bool) (w : World) (hr : Rd w g bs bad) (hbb : Sane bad bs) (hs : bs.length ≤ 140737488355328) :
    Calls Try.prog 64 #[.pointer (some ⟨g, 0, none⟩)] w (Ans (.int .u64 (nv bs : Nat)) w g (uB bs) (uX bs)) := by
  have HS := Lib.hid hbb
  have HR := Lib.hid hr
  have hc0 := hr.cell0
  have hf0 := hr.frozen 0
  clear hbb hr
  cases bad
  · by_cases hbad : Bad bs
    · have hx : Hid (uB bs = [] ∧ uX bs = true ∧ nv bs = 0) := ⟨if_pos hbad, decide_eq_true hbad, nv_bad hbad⟩
      have hn : ((ns bs : Int) == 0) = true := by rw [ns_bad hbad]; rfl
      clear hbad
      go_enter Try.func64, Try.ntmps64
      go_wp2_with (first | (go_at_call 54; refine (good_any g bs _ _ HR.out).mono ?_; rintro e w1 ⟨rfl, rfl⟩) | (go_at_call 67; refine (number_list bs _ hs).mono ?_; rintro e w1 ⟨rfl, rfl⟩) | (go_at_call 63; refine (fail_any g bs _ _ HR.out).mono ?_; rintro e w1 ⟨rfl, hl⟩))
      go_ret
      obtain ⟨h1, h2, h3⟩ := hx.out
      rw [h1, h2, h3]
      exact ⟨rfl, hl⟩
    · have hx : Hid (uB bs = bs.drop (ns bs) ∧ uX bs = false) := ⟨if_neg hbad, decide_eq_false hbad⟩
      have hn : ((ns bs : Int) == 0) = false := by have := fun h => hbad (ns_zero.1 h); simp; omega
      have hle := ns_le bs
      have hsz : (ByteArray.mk bs.toArray).size = bs.length := rfl
      clear hbad
      go_enter Try.func64, Try.ntmps64
      go_wp2_with (first | (go_at_call 54; refine (good_any g bs _ _ HR.out).mono ?_; rintro e w1 ⟨rfl, rfl⟩) | (go_at_call 67; refine (number_list bs _ hs).mono ?_; rintro e w1 ⟨rfl, rfl⟩))
      go_ret
      obtain ⟨h1, h2⟩ := hx.out
      rw [h1, h2]
      refine ⟨rfl, HR.out.set0' _ ?_, grown_set _ _ _ _⟩
      rw [extract_tail _ _ _ rfl]
  · have hx : Hid (bs = []) := HS.out rfl
    go_enter Try.func64, Try.ntmps64
    go_wp2_with (first | (go_at_call 54; refine (good_any g bs _ _ HR.out).mono ?_; rintro e w1 ⟨rfl, rfl⟩))
    go_ret
    have h0 := hx.out
    have hr := HR.out
    subst h0
    exact ⟨rfl, hr, grown_refl _ _⟩

set_option maxHeartbeats 400000 in
theorem rint_any (g : Nat) (bs : List UInt8) (bad : Bool) (w : World) (hr : Rd w g bs bad) (hbb : Sane bad bs) (hs : bs.length ≤ 140737488355328) :
    Calls Try.prog 66 #[.pointer (some ⟨g, 0, none⟩)] w (Ans (.int .i64 (zag (nv bs))) w g (uB bs) (uX bs)) := by
  have hu := Lib.hid (ruint_any g bs bad w hr hbb hs)
  have hn := nv_u64 bs
  have hz : Hid (zag (nv bs) = if nv bs % 2 = 1 then -((nv bs / 2 : Nat) : Int) - 1 else ((nv bs / 2 : Nat) : Int)) := rfl
  generalize nv bs = n at hu hn hz ⊢
  have hb := and_one_u64 n (by omega) (by omega)
  by_cases h2 : n % 2 = 1
  · have hb1 : bits BinOp.and IntKind.u64 (n : Int) 1 = 1 := by rw [hb]; omega
    have hz2 : Hid (zag n = -((n / 2 : Nat) : Int) - 1) := by have := hz.out; rw [if_pos h2] at this; exact this
    clear hb h2 hz hr hbb
    go_enter Try.func66, Try.ntmps66
    go_wp2_with (go_at_call 64; refine hu.out.mono ?_; rintro e w1 ⟨rfl, hl⟩)
    go_ret
    exact ⟨by rw [hz2.out]; rfl, hl⟩
  · have hb1 : bits BinOp.and IntKind.u64 (n : Int) 1 = 0 := by rw [hb]; omega
    have hz2 : Hid (zag n = ((n / 2 : Nat) : Int)) := by have := hz.out; rw [if_neg h2] at this; exact this
    clear hb h2 hz hr hbb
    go_enter Try.func66, Try.ntmps66
    go_wp2_with (go_at_call 64; refine hu.out.mono ?_; rintro e w1 ⟨rfl, hl⟩)
    go_ret
    exact ⟨by rw [hz2.out]; rfl, hl⟩

theorem left_trans {w w1 w2 : World} {g : Nat} {a b : List UInt8} {x y : Bool} (h : Left w g a x w1) (k : Left w1 g b y w2) : Left w g b y w2 := ⟨k.1, grown_trans h.2 k.2⟩

theorem uX_eq (bs : List UInt8) : (uX bs = true) ↔ Bad bs := decide_eq_true_iff

set_option maxHeartbeats 400000 in
theorem rin_any (g : Nat) (lo hi : Int) (bs : List UInt8) (bad : Bool) (w : World) (hr : Rd w g bs bad) (hbb : Sane bad bs) (hs : bs.length ≤ 140737488355328) :
    Calls Try.prog 62 #[.pointer (some ⟨g, 0, none⟩), .int .i64 lo, .int .i64 hi] w (Ans (.int .i64 (inV lo hi bs)) w g (inB lo hi bs) (inX lo hi bs)) := by
  have hu := Lib.hid (rint_any g bs bad w hr hbb hs)
  clear hr hbb
  by_cases hb : Bad bs
  · have hx : Hid (inB lo hi bs = uB bs ∧ inX lo hi bs = uX bs ∧ inV lo hi bs = zag (nv bs)) :=
      ⟨by unfold inB uB; rw [if_pos (.inl hb), if_pos hb], by unfold inX uX; rw [decide_eq_true hb, decide_eq_true (.inl hb)], by unfold inV; rw [if_pos (.inl hb), nv_bad hb]; rfl⟩
    have hx2 : uX bs = true := (uX_eq bs).2 hb
    have HX := Lib.hid hx2
    clear hb
    go_enter Try.func62, Try.ntmps62
    go_wp2_with (first | (go_at_call 66; refine hu.out.mono ?_; rintro e w1 ⟨rfl, hl⟩) | (go_at_call 54; refine (good_any g _ _ _ hl.1).mono ?_; rintro e w2 ⟨rfl, rfl⟩))
    go_ret
    obtain ⟨h1, h2, h3⟩ := hx.out
    rw [h1, h2, h3]
    exact ⟨rfl, hl⟩
  · have hx2 : uX bs = false := decide_eq_false hb
    by_cases ho : zag (nv bs) < lo ∨ hi < zag (nv bs)
    · have hx : Hid (inB lo hi bs = [] ∧ inX lo hi bs = true ∧ inV lo hi bs = 0) :=
        ⟨by unfold inB; rw [if_pos (.inr ho)], decide_eq_true (.inr ho), by unfold inV; rw [if_pos (.inr ho)]⟩
      clear hb
      generalize zag (nv bs) = z at hu ho
      rcases (by omega : z < lo ∨ (¬ z < lo ∧ hi < z)) with h1 | ⟨h1, h2⟩
      all_goals
        clear ho
        go_enter Try.func62, Try.ntmps62
        go_wp2_with (first | (go_at_call 66; refine hu.out.mono ?_; rintro e w1 ⟨rfl, hl⟩) | (go_at_call 54; refine (good_any g _ _ _ hl.1).mono ?_; rintro e w2 ⟨rfl, rfl⟩) | (go_at_call 63; refine (fail_any g _ _ _ hl.1).mono ?_; rintro e w2 ⟨rfl, hl2⟩))
        go_ret
        obtain ⟨h1, h2, h3⟩ := hx.out
        rw [h1, h2, h3]
        exact ⟨rfl, left_trans hl hl2⟩
    · have hin : ¬ InBad lo hi bs := fun h => h.elim hb ho
      have hx : Hid (inB lo hi bs = uB bs ∧ inX lo hi bs = false ∧ inV lo hi bs = zag (nv bs)) :=
        ⟨by unfold inB uB; rw [if_neg hin, if_neg hb], decide_eq_false hin, by unfold inV; rw [if_neg hin]⟩
      have h1 : ¬ zag (nv bs) < lo := fun h => ho (.inl h)
      have h2 : ¬ hi < zag (nv bs) := fun h => ho (.inr h)
      clear hb ho hin
      generalize zag (nv bs) = z at hu hx h1 h2
      go_enter Try.func62, Try.ntmps62
      go_wp2_with (first | (go_at_call 66; refine hu.out.mono ?_; rintro e w1 ⟨rfl, hl⟩) | (go_at_call 54; refine (good_any g _ _ _ hl.1).mono ?_; rintro e w2 ⟨rfl, rfl⟩))
      go_ret
      obtain ⟨h1, h2, h3⟩ := hx.out
      rw [h1, h2, h3]
      exact ⟨rfl, by rw [← hx2]; exact hl⟩

set_option maxHeartbeats 400000 in
theorem rtake_any (g : Nat) (n : Int) (bs : List UInt8) (bad : Bool) (w : World) (hr : Rd w g bs bad) (hbb : Sane bad bs) (hs : bs.length ≤ 140737488355328) :
    Calls Try.prog 52 #[.pointer (some ⟨g, 0, none⟩), .int .i64 n] w (Ans (.string ⟨(tkV bad n bs).toArray⟩) w g (tkB bad n bs) (tkX bad n bs)) := by
  have HS := Lib.hid hbb
  have HR := Lib.hid hr
  have hc0 := hr.cell0
  have hf0 := hr.frozen 0
  have hsz : (ByteArray.mk bs.toArray).size = bs.length := rfl
  clear hbb hr
  cases bad
  · by_cases hbad : TkBad false n bs
    · have hx : Hid (tkB false n bs = [] ∧ tkX false n bs = true ∧ tkV false n bs = []) := ⟨if_pos hbad, decide_eq_true hbad, if_pos hbad⟩
      have ho : n < 0 ∨ (bs.length : Int) < n := by
        rcases hbad with h | h
        · cases h
        · exact h
      clear hbad
      rcases (by omega : n < 0 ∨ (¬ n < 0 ∧ (bs.length : Int) < n)) with h0 | ⟨h0, h1⟩
      all_goals
        clear ho
        go_enter Try.func52, Try.ntmps52
        go_wp2_with (first | (go_at_call 54; refine (good_any g bs _ _ HR.out).mono ?_; rintro e w1 ⟨rfl, rfl⟩) | (go_at_call 63; refine (fail_any g bs _ _ HR.out).mono ?_; rintro e w1 ⟨rfl, hl⟩))
        go_ret
        obtain ⟨h1, h2, h3⟩ := hx.out
        rw [h1, h2, h3]
        exact ⟨rfl, hl⟩
    · have hx : Hid (tkB false n bs = bs.drop n.toNat ∧ tkX false n bs = false ∧ tkV false n bs = bs.take n.toNat) := ⟨if_neg hbad, decide_eq_false hbad, if_neg hbad⟩
      have h0 : ¬ n < 0 := fun h => hbad (.inr (.inl h))
      have h1 : ¬ (bs.length : Int) < n := fun h => hbad (.inr (.inr h))
      clear hbad
      obtain ⟨k, rfl⟩ := Int.eq_ofNat_of_zero_le (by omega : 0 ≤ n)
      have h2 : k ≤ bs.length := by omega
      go_enter Try.func52, Try.ntmps52
      go_wp2_with (first | (go_at_call 54; refine (good_any g bs _ _ HR.out).mono ?_; rintro e w1 ⟨rfl, rfl⟩))
      go_ret
      obtain ⟨h1, h2, h3⟩ := hx.out
      rw [h1, h2, h3, Int.toNat_natCast]
      refine ⟨?_, HR.out.set0' _ ?_, grown_set _ _ _ _⟩
      · rw [← extract_head]; rfl
      · rw [extract_tail _ _ _ rfl]
  · have hx : Hid (bs = []) := HS.out rfl
    go_enter Try.func52, Try.ntmps52
    go_wp2_with (first | (go_at_call 54; refine (good_any g bs _ _ HR.out).mono ?_; rintro e w1 ⟨rfl, rfl⟩))
    go_ret
    have h0 := hx.out
    have hr := HR.out
    subst h0
    have hb : TkBad true n [] := .inl rfl
    refine ⟨by unfold tkV; rw [if_pos hb]; rfl, ?_, grown_refl _ _⟩
    unfold tkB tkX
    rw [if_pos hb, decide_eq_true hb]
    exact hr

theorem tk_nil_bad (n : Int) : tkV true n [] = [] ∧ tkB true n [] = [] ∧ tkX true n [] = true := by
  have hb : TkBad true n [] := .inl rfl
  exact ⟨if_pos hb, if_pos hb, decide_eq_true hb⟩

set_option maxRecDepth 100000 in
set_option maxHeartbeats 400000 in
theorem rtext_any (g : Nat) (most : Int) (bs : List UInt8) (bad : Bool) (w : World) (hr : Rd w g bs bad) (hbb : Sane bad bs) (hs : bs.length ≤ 140737488355328) (hm : most ≤ 9223372036854775807) :
    Calls Try.prog 53 #[.pointer (some ⟨g, 0, none⟩), .int .i64 most] w (Ans (.string ⟨(txV most bs).toArray⟩) w g (txB most bs) (txX most bs)) := by
  have hu := Lib.hid (ruint_any g bs bad w hr hbb hs)
  clear hr hbb
  have hlen := uB_len bs
  have hsane := Lib.hid (Sane.u bs)
  have hn := nv_u64 bs
  by_cases hb : Bad bs
  · have ht : TxBad most bs := .inl hb
    have hx : Hid (txB most bs = [] ∧ txX most bs = true ∧ txV most bs = []) := ⟨if_pos ht, decide_eq_true ht, if_pos ht⟩
    have hx0 : Hid (uB bs = []) := if_pos hb
    have hx2 : uX bs = true := (uX_eq bs).2 hb
    have hn0 := nv_bad hb
    clear hb ht
    rw [hx2] at hu hsane
    rw [hn0] at hu
    clear hn0
    go_enter Try.func53, Try.ntmps53
    go_wp2_with (first | (go_at_call 64; refine hu.out.mono ?_; rintro e w1 ⟨rfl, hl⟩) | (go_at_call 54; refine (good_any g _ _ _ hl.1).mono ?_; rintro e w2 ⟨rfl, rfl⟩) | (go_at_call 52; refine (rtake_any g _ _ _ _ hl.1 hsane.out (by omega)).mono ?_; rintro e w2 ⟨rfl, hl2⟩))
    go_ret
    obtain ⟨h1, h2, h3⟩ := hx.out
    rw [h1, h2, h3]
    rw [hx0.out] at hl2
    obtain ⟨k1, k2, k3⟩ := tk_nil_bad 0
    refine ⟨?_, ?_⟩
    · show Ending.returned (.string ⟨(tkV true 0 (uB bs)).toArray⟩) = _
      rw [hx0.out, k1]
    · have := left_trans hl hl2
      rw [k2, k3] at this
      exact this
  · have hx2 : uX bs = false := decide_eq_false hb
    have hx0 : Hid (uB bs = bs.drop (ns bs)) := if_neg hb
    rw [hx2] at hu hsane
    by_cases ho : most < 0 ∨ most < (nv bs : Nat)
    · have ht : TxBad most bs := .inr (by rcases ho with h | h; exact .inl h; exact .inr (.inl h))
      have hx : Hid (txB most bs = [] ∧ txX most bs = true ∧ txV most bs = []) := ⟨if_pos ht, decide_eq_true ht, if_pos ht⟩
      clear hb ht
      generalize nv bs = n at hu ho hn
      rcases (by omega : most < 0 ∨ (¬ most < 0 ∧ most < (n : Int))) with h0 | ⟨h0, h1⟩
      all_goals
        clear ho
        go_enter Try.func53, Try.ntmps53
        go_wp2_with (first | (go_at_call 64; refine hu.out.mono ?_; rintro e w1 ⟨rfl, hl⟩) | (go_at_call 54; refine (good_any g _ _ _ hl.1).mono ?_; rintro e w2 ⟨rfl, rfl⟩) | (go_at_call 63; refine (fail_any g _ _ _ hl.1).mono ?_; rintro e w2 ⟨rfl, hl2⟩))
        go_ret
        obtain ⟨h1, h2, h3⟩ := hx.out
        rw [h1, h2, h3]
        exact ⟨rfl, left_trans hl hl2⟩
    · have h0 : ¬ most < 0 := fun h => ho (.inl h)
      have h1 : ¬ most < (nv bs : Nat) := fun h => ho (.inr h)
      have hx : Hid (txB most bs = tkB false (nv bs : Nat) (uB bs) ∧ txX most bs = tkX false (nv bs : Nat) (uB bs) ∧ txV most bs = tkV false (nv bs : Nat) (uB bs)) := by
        have e := hx0.out
        have hiff : TxBad most bs ↔ TkBad false (nv bs : Nat) (uB bs) := by
          unfold TxBad TkBad
          rw [e]
          simp only [Bool.false_eq_true, false_or]
          constructor
          · rintro (h | h | h | h)
            · exact absurd h hb
            · exact absurd h h0
            · exact absurd h h1
            · exact .inr (by omega)
          · rintro (h | h)
            · omega
            · exact .inr (.inr (.inr (by omega)))
        unfold Hid txB txX txV tkB tkX tkV
        by_cases hk : TkBad false (nv bs : Nat) (uB bs)
        · rw [if_pos hk, if_pos hk, if_pos (hiff.2 hk), if_pos (hiff.2 hk), decide_eq_true hk, decide_eq_true (hiff.2 hk)]
          exact ⟨rfl, rfl, rfl⟩
        · have hk2 := fun h => hk (hiff.1 h)
          rw [if_neg hk, if_neg hk, if_neg hk2, if_neg hk2, decide_eq_false hk, decide_eq_false hk2, e, Int.toNat_natCast]
          exact ⟨rfl, rfl, rfl⟩
      clear hb ho hx0
      generalize nv bs = n at hu h1 hn hx
      go_enter Try.func53, Try.ntmps53
      go_wp2_with (first | (go_at_call 64; refine hu.out.mono ?_; rintro e w1 ⟨rfl, hl⟩) | (go_at_call 54; refine (good_any g _ _ _ hl.1).mono ?_; rintro e w2 ⟨rfl, rfl⟩) | (go_at_call 52; refine (rtake_any g _ _ _ _ hl.1 hsane.out (by omega)).mono ?_; rintro e w2 ⟨rfl, hl2⟩))
      go_ret
      obtain ⟨h1, h2, h3⟩ := hx.out
      rw [h1, h2, h3]
      exact ⟨rfl, left_trans hl hl2⟩

/-! ### A nil reader -/

/-- A nil reader's answer: nothing turns. -/
def Still (v : Value) (w : World) (e : Ending) (w' : World) : Prop := e = .returned v ∧ w = w'

set_option maxHeartbeats 400000 in
theorem ruint_nil (w : World) : Calls Try.prog 64 #[.pointer none] w (Still (.int .u64 0) w) := by
  go_enter Try.func64, Try.ntmps64
  go_wp2_with (first | (go_at_call 54; refine (good_nil _).mono ?_; rintro e w1 ⟨rfl, rfl⟩))
  go_ret
  exact ⟨rfl, rfl⟩

set_option maxHeartbeats 400000 in
theorem rint_nil (w : World) : Calls Try.prog 66 #[.pointer none] w (Still (.int .i64 0) w) := by
  have hb : bits BinOp.and IntKind.u64 0 1 = 0 := by rw [and_one_u64 0 (by omega) (by omega)]; rfl
  go_enter Try.func66, Try.ntmps66
  go_wp2_with (go_at_call 64; refine (ruint_nil _).mono ?_; rintro e w1 ⟨rfl, rfl⟩)
  go_ret
  exact ⟨rfl, rfl⟩

set_option maxHeartbeats 400000 in
theorem rin_nil (lo hi : Int) (w : World) : Calls Try.prog 62 #[.pointer none, .int .i64 lo, .int .i64 hi] w (Still (.int .i64 0) w) := by
  go_enter Try.func62, Try.ntmps62
  go_wp2_with (first | (go_at_call 66; refine (rint_nil _).mono ?_; rintro e w1 ⟨rfl, rfl⟩) | (go_at_call 54; refine (good_nil _).mono ?_; rintro e w1 ⟨rfl, rfl⟩))
  go_ret
  exact ⟨rfl, rfl⟩

set_option maxHeartbeats 400000 in
theorem rtake_nil (n : Int) (w : World) : Calls Try.prog 52 #[.pointer none, .int .i64 n] w (Still (.string ⟨#[]⟩) w) := by
  go_enter Try.func52, Try.ntmps52
  go_wp2_with (first | (go_at_call 54; refine (good_nil _).mono ?_; rintro e w1 ⟨rfl, rfl⟩))
  go_ret
  exact ⟨rfl, rfl⟩

set_option maxHeartbeats 400000 in
theorem rtext_nil (most : Int) (w : World) : Calls Try.prog 53 #[.pointer none, .int .i64 most] w (Still (.string ⟨#[]⟩) w) := by
  go_enter Try.func53, Try.ntmps53
  go_wp2_with (first | (go_at_call 64; refine (ruint_nil _).mono ?_; rintro e w1 ⟨rfl, rfl⟩) | (go_at_call 54; refine (good_nil _).mono ?_; rintro e w1 ⟨rfl, rfl⟩) | (go_at_call 52; refine (rtake_nil _ _).mono ?_; rintro e w1 ⟨rfl, rfl⟩))
  go_ret
  exact ⟨rfl, rfl⟩

end Go.Proofs.Ytabogconbjdcgaa.Cd
