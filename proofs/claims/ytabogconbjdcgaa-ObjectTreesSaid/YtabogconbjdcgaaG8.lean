/-
  The reference's Uint, Int, Text. Conditions: none.
-/
import Derived.Test.YtabogconbjdcgaaG2
import Derived.Deep.RegionWith
import Derived.Deep.DeepFit
import Derived.Test.YtabogconbjdcgaaG1
/-
  code.Reader: Read, Good, fail, End. Conditions: none.
-/
namespace Go.Proofs.Ytabogconbjdcgaa.Cd
open Go.RowKit

/-- Block g is a reader that has the bytes 'bs' left. -/
def Rd (w : World) (g : Nat) (bs : List UInt8) (bad : Bool) : Prop := w.heap[g]? = some (.cells #[.string ⟨bs.toArray⟩, .bool bad] 88 (0, 0))

section
variable {w w' : World} {g : Nat} {bs : List UInt8} {bad : Bool}
theorem Rd.lt (h : Rd w g bs bad) : g < w.heap.size := by
  rcases Nat.lt_or_ge g w.heap.size with hlt | hge
  · exact hlt
  · unfold Rd at h; rw [Array.getElem?_eq_none hge] at h; cases h
theorem Rd.cell0 (h : Rd w g bs bad) : w.cell? ⟨g, 0, none⟩ = some (.string ⟨bs.toArray⟩) := cell_of_row w g 0 _ _ (0, 0) h
theorem Rd.cell1 (h : Rd w g bs bad) : w.cell? ⟨g, 1, none⟩ = some (.bool bad) := cell_of_row w g 1 _ _ (0, 0) h
theorem Rd.frozen (h : Rd w g bs bad) (i : Nat) : w.frozen? ⟨g, i, none⟩ = false := by
  unfold Rd at h
  simp [World.frozen?, h]
theorem Rd.drew (h : Rd w g bs bad) : Rd w.drew g bs bad := h
theorem Rd.set0 (h : Rd w g bs bad) (cs : List UInt8) : Rd (w.setCell ⟨g, 0, none⟩ (.string ⟨cs.toArray⟩)) g cs bad := by
  unfold Rd at h ⊢
  simp [World.setCell, Array.getElem?_modify, h]
theorem Rd.set1 (h : Rd w g bs bad) (b : Bool) : Rd (w.setCell ⟨g, 1, none⟩ (.bool b)) g bs b := by
  unfold Rd at h ⊢
  simp [World.setCell, Array.getElem?_modify, h]
theorem Rd.below {B : Nat} (h : Rd w g bs bad) (hb : Below B w w') (hg : g < B) : Rd w' g bs bad := (hb.block g hg).trans h
end

/-- What a reader's call leaves: the reader as it is said, and else nothing of what was there has turned. -/
def Left (w : World) (g : Nat) (bs : List UInt8) (bad : Bool) (w' : World) : Prop := Rd w' g bs bad ∧ w.grownBy w' (some g)

theorem grown_refl (w : World) (r : Option Nat) : w.grownBy w r := ⟨rfl, rfl, rfl, Nat.le_refl _, fun _ _ _ => rfl⟩
theorem grown_trans {a b c : World} {g : Nat} (h : a.grownBy b (some g)) (k : b.grownBy c (some g)) : a.grownBy c (some g) :=
  ⟨k.os.trans h.os, k.tape.trans h.tape, k.output.trans h.output, Nat.le_trans h.size k.size, fun i hi hn => (k.block i (Nat.lt_of_lt_of_le hi h.size) hn).trans (h.block i hi hn)⟩
theorem grown_set (w : World) (g i : Nat) (v : Value) : w.grownBy (w.setCell ⟨g, i, none⟩ v) (some g) :=
  ⟨rfl, rfl, rfl, by simp [World.setCell], fun k _ hk => Below.heap_setCell w _ v k (fun e => hk (by rw [e]))⟩

set_option maxHeartbeats 400000 in
theorem read_any (v : Value) (bs : List UInt8) (w : World) (hs : Sl w w.heap.size v bs) :
    Calls Try.prog 31 #[v] w fun e w' => e = .returned (.pointer (some ⟨w.heap.size, 0, none⟩)) ∧ Rd w' w.heap.size bs false ∧ Below w.heap.size w w' := by
  have hcv := run_text_of w _ v bs hs
  go_enter Try.func31, Try.ntmps31
  go_wp2_with fail
  go_ret
  exact ⟨rfl, heap_alloc_new w _, (Below.refl _ _).alloc (Nat.le_refl _) _⟩

set_option maxHeartbeats 400000 in
theorem good_any (g : Nat) (bs : List UInt8) (bad : Bool) (w : World) (hr : Rd w g bs bad) :
    Calls Try.prog 54 #[.pointer (some ⟨g, 0, none⟩)] w fun e w' => e = .returned (.bool !bad) ∧ w = w' := by
  have hc := hr.cell1
  go_enter Try.func54, Try.ntmps54
  go_wp2_with fail
  go_ret
  exact ⟨rfl, rfl⟩

set_option maxHeartbeats 400000 in
theorem good_nil (w : World) :
    Calls Try.prog 54 #[.pointer none] w fun e w' => e = .returned (.bool false) ∧ w = w' := by
  go_enter Try.func54, Try.ntmps54
  go_wp2_with fail
  go_ret
  exact ⟨rfl, rfl⟩

set_option maxHeartbeats 400000 in
theorem fail_any (g : Nat) (bs : List UInt8) (bad : Bool) (w : World) (hr : Rd w g bs bad) :
    Calls Try.prog 63 #[.pointer (some ⟨g, 0, none⟩)] w fun e w' => e = .returned (.tuple #[]) ∧ Left w g [] true w' := by
  have hc0 := hr.cell0
  have hc1 := hr.cell1
  have hf0 := hr.frozen 0
  have hf1 := hr.frozen 1
  go_enter Try.func63, Try.ntmps63
  go_wp2_with fail
  go_end0
  exact ⟨rfl, (hr.set0 []).set1 true, grown_trans (grown_set _ _ _ _) (grown_set _ _ _ _)⟩

set_option maxHeartbeats 400000 in
theorem end_any (g : Nat) (bs : List UInt8) (bad : Bool) (w : World) (hr : Rd w g bs bad) :
    Calls Try.prog 34 #[.pointer (some ⟨g, 0, none⟩)] w fun e w' => e = .returned (.bool (!bad && bs.isEmpty)) ∧ w = w' := by
  have hc0 := hr.cell0
  cases bad
  · go_enter Try.func34, Try.ntmps34
    go_wp2_with (go_at_call 54; refine (good_any g bs _ _ hr).mono ?_; rintro e w1 ⟨rfl, rfl⟩)
    go_ret
    exact ⟨by simp, rfl⟩
  · go_enter Try.func34, Try.ntmps34
    go_wp2_with (go_at_call 54; refine (good_any g bs _ _ hr).mono ?_; rintro e w1 ⟨rfl, rfl⟩)
    go_ret
    exact ⟨rfl, rfl⟩

set_option maxHeartbeats 400000 in
theorem end_nil (w : World) :
    Calls Try.prog 34 #[.pointer none] w fun e w' => e = .returned (.bool false) ∧ w = w' := by
  go_enter Try.func34, Try.ntmps34
  go_wp2_with (go_at_call 54; refine (good_nil _).mono ?_; rintro e w1 ⟨rfl, rfl⟩)
  go_ret
  exact ⟨rfl, rfl⟩

end Go.Proofs.Ytabogconbjdcgaa.Cd

/-
  code.Reader: Uint, Int, In, Take, Text. Conditions: none.
-/
namespace Go.Proofs.Ytabogconbjdcgaa.Cd
open Go.RowKit

theorem number_list (bs : List UInt8) (w : World) (hs : bs.length ≤ 140737488355328) : Calls Try.prog 67 #[.string ⟨bs.toArray⟩] w (NumIs bs w) :=
  number_any ⟨bs.toArray⟩ w hs

theorem extract_tail (bs : List UInt8) (k n : Nat) (hn : n = bs.length) : (ByteArray.mk bs.toArray).extract k n = ⟨(bs.drop k).toArray⟩ := by
  subst hn
  apply ByteArray.ext
  simp [ByteArray.data_extract, List.take_of_length_le]

theorem extract_head (bs : List UInt8) (k : Nat) : (ByteArray.mk bs.toArray).extract 0 k = ⟨(bs.take k).toArray⟩ := by
  apply ByteArray.ext
  simp [ByteArray.data_extract, List.extract_eq_take_drop]

theorem Rd.set0' {w : World} {g : Nat} {bs : List UInt8} {bad : Bool} (h : Rd w g bs bad) {v : Value} (cs : List UInt8) (hv : v = .string ⟨cs.toArray⟩) : Rd (w.setCell ⟨g, 0, none⟩ v) g cs bad := by
  subst hv
  exact h.set0 cs

/-- What a reader's method leaves: its answer, and the reader. -/
def Ans (v : Value) (w : World) (g : Nat) (bs : List UInt8) (bad : Bool) (e : Ending) (w' : World) : Prop := e = .returned v ∧ Left w g bs bad w'

set_option maxRecDepth 100000 in
set_option maxHeartbeats 400000 in
theorem ruint_any (g : Nat) (bs : List UInt8) (bad : Bool) (w : World) (hr : Rd w g bs bad) (hbb : Sane bad bs) (hs : bs.length ≤ 140737488355328) :
    Calls Try.prog 64 #[.pointer (some ⟨g, 0, none⟩)] w (Ans (.int .u64 (nv bs : Nat)) w g (uB bs) (uX bs)) := by
  have HS := Lib.hid hbb
  have HR := Lib.hid hr
  have hc0 := hr.cell0
  have hf0 := hr.frozen 0
  clear hbb hr
  cases bad
  · by_cases hbad : Bad bs
    · have hx : Hid (uB bs = [] ∧ uX bs = true ∧ nv bs = 0) := ⟨if_pos hbad, decide_eq_true hbad, nv_bad hbad⟩
      have hn : ((ns bs : Int) == 0) = true := by rw [ns_bad hbad]; rfl
      clear hbad
      go_enter Try.func64, Try.ntmps64
      go_wp2_with (first | (go_at_call 54; refine (good_any g bs _ _ HR.out).mono ?_; rintro e w1 ⟨rfl, rfl⟩) | (go_at_call 67; refine (number_list bs _ hs).mono ?_; rintro e w1 ⟨rfl, rfl⟩) | (go_at_call 63; refine (fail_any g bs _ _ HR.out).mono ?_; rintro e w1 ⟨rfl, hl⟩))
      go_ret
      obtain ⟨h1, h2, h3⟩ := hx.out
      rw [h1, h2, h3]
      exact ⟨rfl, hl⟩
    · have hx : Hid (uB bs = bs.drop (ns bs) ∧ uX bs = false) := ⟨if_neg hbad, decide_eq_false hbad⟩
      have hn : ((ns bs : Int) == 0) = false := by have := fun h => hbad (ns_zero.1 h); simp; omega
      have hle := ns_le bs
      have hsz : (ByteArray.mk bs.toArray).size = bs.length := rfl
      clear hbad
      go_enter Try.func64, Try.ntmps64
      go_wp2_with (first | (go_at_call 54; refine (good_any g bs _ _ HR.out).mono ?_; rintro e w1 ⟨rfl, rfl⟩) | (go_at_call 67; refine (number_list bs _ hs).mono ?_; rintro e w1 ⟨rfl, rfl⟩))
      go_ret
      obtain ⟨h1, h2⟩ := hx.out
      rw [h1, h2]
      refine ⟨rfl, HR.out.set0' _ ?_, grown_set _ _ _ _⟩
      rw [extract_tail _ _ _ rfl]
  · have hx : Hid (bs = []) := HS.out rfl
    go_enter Try.func64, Try.ntmps64
    go_wp2_with (first | (go_at_call 54; refine (good_any g bs _ _ HR.out).mono ?_; rintro e w1 ⟨rfl, rfl⟩))
    go_ret
    have h0 := hx.out
    have hr := HR.out
    subst h0
    exact ⟨rfl, hr, grown_refl _ _⟩

set_option maxHeartbeats 400000 in
theorem rint_any (g : Nat) (bs : List UInt8) (bad : Bool) (w : World) (hr : Rd w g bs bad) (hbb : Sane bad bs) (hs : bs.length ≤ 140737488355328) :
    Calls Try.prog 66 #[.pointer (some ⟨g, 0, none⟩)] w (Ans (.int .i64 (zag (nv bs))) w g (uB bs) (uX bs)) := by
  have hu := Lib.hid (ruint_any g bs bad w hr hbb hs)
  have hn := nv_u64 bs
  have hz : Hid (zag (nv bs) = if nv bs % 2 = 1 then -((nv bs / 2 : Nat) : Int) - 1 else ((nv bs / 2 : Nat) : Int)) := rfl
  generalize nv bs = n at hu hn hz ⊢
  have hb := and_one_u64 n (by omega) (by omega)
  by_cases h2 : n % 2 = 1
  · have hb1 : bits BinOp.and IntKind.u64 (n : Int) 1 = 1 := by rw [hb]; omega
    have hz2 : Hid (zag n = -((n / 2 : Nat) : Int) - 1) := by have := hz.out; rw [if_pos h2] at this; exact this
    clear hb h2 hz hr hbb
    go_enter Try.func66, Try.ntmps66
    go_wp2_with (go_at_call 64; refine hu.out.mono ?_; rintro e w1 ⟨rfl, hl⟩)
    go_ret
    exact ⟨by rw [hz2.out]; rfl, hl⟩
  · have hb1 : bits BinOp.and IntKind.u64 (n : Int) 1 = 0 := by rw [hb]; omega
    have hz2 : Hid (zag n = ((n / 2 : Nat) : Int)) := by have := hz.out; rw [if_neg h2] at this; exact this
    clear hb h2 hz hr hbb
    go_enter Try.func66, Try.ntmps66
    go_wp2_with (go_at_call 64; refine hu.out.mono ?_; rintro e w1 ⟨rfl, hl⟩)
    go_ret
    exact ⟨by rw [hz2.out]; rfl, hl⟩

theorem left_trans {w w1 w2 : World} {g : Nat} {a b : List UInt8} {x y : Bool} (h : Left w g a x w1) (k : Left w1 g b y w2) : Left w g b y w2 := ⟨k.1, grown_trans h.2 k.2⟩

theorem uX_eq (bs : List UInt8) : (uX bs = true) ↔ Bad bs := decide_eq_true_iff

set_option maxHeartbeats 400000 in
theorem rin_any (g : Nat) (lo hi : Int) (bs : List UInt8) (bad : Bool) (w : World) (hr : Rd w g bs bad) (hbb : Sane bad bs) (hs : bs.length ≤ 140737488355328) :
    Calls Try.prog 62 #[.pointer (some ⟨g, 0, none⟩), .int .i64 lo, .int .i64 hi] w (Ans (.int .i64 (inV lo hi bs)) w g (inB lo hi bs) (inX lo hi bs)) := by
  have hu := Lib.hid (rint_any g bs bad w hr hbb hs)
  clear hr hbb
  by_cases hb : Bad bs
  · have hx : Hid (inB lo hi bs = uB bs ∧ inX lo hi bs = uX bs ∧ inV lo hi bs = zag (nv bs)) :=
      ⟨by unfold inB uB; rw [if_pos (.inl hb), if_pos hb], by unfold inX uX; rw [decide_eq_true hb, decide_eq_true (.inl hb)], by unfold inV; rw [if_pos (.inl hb), nv_bad hb]; rfl⟩
    have hx2 : uX bs = true := (uX_eq bs).2 hb
    have HX := Lib.hid hx2
    clear hb
    go_enter Try.func62, Try.ntmps62
    go_wp2_with (first | (go_at_call 66; refine hu.out.mono ?_; rintro e w1 ⟨rfl, hl⟩) | (go_at_call 54; refine (good_any g _ _ _ hl.1).mono ?_; rintro e w2 ⟨rfl, rfl⟩))
    go_ret
    obtain ⟨h1, h2, h3⟩ := hx.out
    rw [h1, h2, h3]
    exact ⟨rfl, hl⟩
  · have hx2 : uX bs = false := decide_eq_false hb
    by_cases ho : zag (nv bs) < lo ∨ hi < zag (nv bs)
    · have hx : Hid (inB lo hi bs = [] ∧ inX lo hi bs = true ∧ inV lo hi bs = 0) :=
        ⟨by unfold inB; rw [if_pos (.inr ho)], decide_eq_true (.inr ho), by unfold inV; rw [if_pos (.inr ho)]⟩
      clear hb
      generalize zag (nv bs) = z at hu ho
      rcases (by omega : z < lo ∨ (¬ z < lo ∧ hi < z)) with h1 | ⟨h1, h2⟩
      all_goals
        clear ho
        go_enter Try.func62, Try.ntmps62
        go_wp2_with (first | (go_at_call 66; refine hu.out.mono ?_; rintro e w1 ⟨rfl, hl⟩) | (go_at_call 54; refine (good_any g _ _ _ hl.1).mono ?_; rintro e w2 ⟨rfl, rfl⟩) | (go_at_call 63; refine (fail_any g _ _ _ hl.1).mono ?_; rintro e w2 ⟨rfl, hl2⟩))
        go_ret
        obtain ⟨h1, h2, h3⟩ := hx.out
        rw [h1, h2, h3]
        exact ⟨rfl, left_trans hl hl2⟩
    · have hin : ¬ InBad lo hi bs := fun h => h.elim hb ho
      have hx : Hid (inB lo hi bs = uB bs ∧ inX lo hi bs = false ∧ inV lo hi bs = zag (nv bs)) :=
        ⟨by unfold inB uB; rw [if_neg hin, if_neg hb], decide_eq_false hin, by unfold inV; rw [if_neg hin]⟩
      have h1 : ¬ zag (nv bs) < lo := fun h => ho (.inl h)
      have h2 : ¬ hi < zag (nv bs) := fun h => ho (.inr h)
      clear hb ho hin
      generalize zag (nv bs) = z at hu hx h1 h2
      go_enter Try.func62, Try.ntmps62
      go_wp2_with (first | (go_at_call 66; refine hu.out.mono ?_; rintro e w1 ⟨rfl, hl⟩) | (go_at_call 54; refine (good_any g _ _ _ hl.1).mono ?_; rintro e w2 ⟨rfl, rfl⟩))
      go_ret
      obtain ⟨h1, h2, h3⟩ := hx.out
      rw [h1, h2, h3]
      exact ⟨rfl, by rw [← hx2]; exact hl⟩

set_option maxHeartbeats 400000 in
theorem rtake_any (g : Nat) (n : Int) (bs : List UInt8) (bad : Bool) (w : World) (hr : Rd w g bs bad) (hbb : Sane bad bs) (hs : bs.length ≤ 140737488355328) :
    Calls Try.prog 52 #[.pointer (some ⟨g, 0, none⟩), .int .i64 n] w (Ans (.string ⟨(tkV bad n bs).toArray⟩) w g (tkB bad n bs) (tkX bad n bs)) := by
  have HS := Lib.hid hbb
  have HR := Lib.hid hr
  have hc0 := hr.cell0
  have hf0 := hr.frozen 0
  have hsz : (ByteArray.mk bs.toArray).size = bs.length := rfl
  clear hbb hr
  cases bad
  · by_cases hbad : TkBad false n bs
    · have hx : Hid (tkB false n bs = [] ∧ tkX false n bs = true ∧ tkV false n bs = []) := ⟨if_pos hbad, decide_eq_true hbad, if_pos hbad⟩
      have ho : n < 0 ∨ (bs.length : Int) < n := by
        rcases hbad with h | h
        · cases h
        · exact h
      clear hbad
      rcases (by omega : n < 0 ∨ (¬ n < 0 ∧ (bs.length : Int) < n)) with h0 | ⟨h0, h1⟩
      all_goals
        clear ho
        go_enter Try.func52, Try.ntmps52
        go_wp2_with (first | (go_at_call 54; refine (good_any g bs _ _ HR.out).mono ?_; rintro e w1 ⟨rfl, rfl⟩) | (go_at_call 63; refine (fail_any g bs _ _ HR.out).mono ?_; rintro e w1 ⟨rfl, hl⟩))
        go_ret
        obtain ⟨h1, h2, h3⟩ := hx.out
        rw [h1, h2, h3]
        exact ⟨rfl, hl⟩
    · have hx : Hid (tkB false n bs = bs.drop n.toNat ∧ tkX false n bs = false ∧ tkV false n bs = bs.take n.toNat) := ⟨if_neg hbad, decide_eq_false hbad, if_neg hbad⟩
      have h0 : ¬ n < 0 := fun h => hbad (.inr (.inl h))
      have h1 : ¬ (bs.length : Int) < n := fun h => hbad (.inr (.inr h))
      clear hbad
      obtain ⟨k, rfl⟩ := Int.eq_ofNat_of_zero_le (by omega : 0 ≤ n)
      have h2 : k ≤ bs.length := by omega
      go_enter Try.func52, Try.ntmps52
      go_wp2_with (first | (go_at_call 54; refine (good_any g bs _ _ HR.out).mono ?_; rintro e w1 ⟨rfl, rfl⟩))
      go_ret
      obtain ⟨h1, h2, h3⟩ := hx.out
      rw [h1, h2, h3, Int.toNat_natCast]
      refine ⟨?_, HR.out.set0' _ ?_, grown_set _ _ _ _⟩
      · rw [← extract_head]; rfl
      · rw [extract_tail _ _ _ rfl]
  · have hx : Hid (bs = []) := HS.out rfl
    go_enter Try.func52, Try.ntmps52
    go_wp2_with (first | (go_at_call 54; refine (good_any g bs _ _ HR.out).mono ?_; rintro e w1 ⟨rfl, rfl⟩))
    go_ret
    have h0 := hx.out
    have hr := HR.out
    subst h0
    have hb : TkBad true n [] := .inl rfl
    refine ⟨by unfold tkV; rw [if_pos hb]; rfl, ?_, grown_refl _ _⟩
    unfold tkB tkX
    rw [if_pos hb, decide_eq_true hb]
    exact hr

theorem tk_nil_bad (n : Int) : tkV true n [] = [] ∧ tkB true n [] = [] ∧ tkX true n [] = true := by
  have hb : TkBad true n [] := .inl rfl
  exact ⟨if_pos hb, if_pos hb, decide_eq_true hb⟩

set_option maxRecDepth 100000 in
set_option maxHeartbeats 400000 in
theorem rtext_any (g : Nat) (most : Int) (bs : List UInt8) (bad : Bool) (w : World) (hr : Rd w g bs bad) (hbb : Sane bad bs) (hs : bs.length ≤ 140737488355328) (hm : most ≤ 9223372036854775807) :
    Calls Try.prog 53 #[.pointer (some ⟨g, 0, none⟩), .int .i64 most] w (Ans (.string ⟨(txV most bs).toArray⟩) w g (txB most bs) (txX most bs)) := by
  have hu := Lib.hid (ruint_any g bs bad w hr hbb hs)
  clear hr hbb
  have hlen := uB_len bs
  have hsane := Lib.hid (Sane.u bs)
  have hn := nv_u64 bs
  by_cases hb : Bad bs
  · have ht : TxBad most bs := .inl hb
    have hx : Hid (txB most bs = [] ∧ txX most bs = true ∧ txV most bs = []) := ⟨if_pos ht, decide_eq_true ht, if_pos ht⟩
    have hx0 : Hid (uB bs = []) := if_pos hb
    have hx2 : uX bs = true := (uX_eq bs).2 hb
    have hn0 := nv_bad hb
    clear hb ht
    rw [hx2] at hu hsane
    rw [hn0] at hu
    clear hn0
    go_enter Try.func53, Try.ntmps53
    go_wp2_with (first | (go_at_call 64; refine hu.out.mono ?_; rintro e w1 ⟨rfl, hl⟩) | (go_at_call 54; refine (good_any g _ _ _ hl.1).mono ?_; rintro e w2 ⟨rfl, rfl⟩) | (go_at_call 52; refine (rtake_any g _ _ _ _ hl.1 hsane.out (by omega)).mono ?_; rintro e w2 ⟨rfl, hl2⟩))
    go_ret
    obtain ⟨h1, h2, h3⟩ := hx.out
    rw [h1, h2, h3]
    rw [hx0.out] at hl2
    obtain ⟨k1, k2, k3⟩ := tk_nil_bad 0
    refine ⟨?_, ?_⟩
    · show Ending.returned (.string ⟨(tkV true 0 (uB bs)).toArray⟩) = _
      rw [hx0.out, k1]
    · have := left_trans hl hl2
      rw [k2, k3] at this
      exact this
  · have hx2 : uX bs = false := decide_eq_false hb
    have hx0 : Hid (uB bs = bs.drop (ns bs)) := if_neg hb
    rw [hx2] at hu hsane
    by_cases ho : most < 0 ∨ most < (nv bs : Nat)
    · have ht : TxBad most bs := .inr (by rcases ho with h | h; exact .inl h; exact .inr (.inl h))
      have hx : Hid (txB most bs = [] ∧ txX most bs = true ∧ txV most bs = []) := ⟨if_pos ht, decide_eq_true ht, if_pos ht⟩
      clear hb ht
      generalize nv bs = n at hu ho hn
      rcases (by omega : most < 0 ∨ (¬ most < 0 ∧ most < (n : Int))) with h0 | ⟨h0, h1⟩
      all_goals
        clear ho
        go_enter Try.func53, Try.ntmps53
        go_wp2_with (first | (go_at_call 64; refine hu.out.mono ?_; rintro e w1 ⟨rfl, hl⟩) | (go_at_call 54; refine (good_any g _ _ _ hl.1).mono ?_; rintro e w2 ⟨rfl, rfl⟩) | (go_at_call 63; refine (fail_any g _ _ _ hl.1).mono ?_; rintro e w2 ⟨rfl, hl2⟩))
        go_ret
        obtain ⟨h1, h2, h3⟩ := hx.out
        rw [h1, h2, h3]
        exact ⟨rfl, left_trans hl hl2⟩
    · have h0 : ¬ most < 0 := fun h => ho (.inl h)
      have h1 : ¬ most < (nv bs : Nat) := fun h => ho (.inr h)
      have hx : Hid (txB most bs = tkB false (nv bs : Nat) (uB bs) ∧ txX most bs = tkX false (nv bs : Nat) (uB bs) ∧ txV most bs = tkV false (nv bs : Nat) (uB bs)) := by
        have e := hx0.out
        have hiff : TxBad most bs ↔ TkBad false (nv bs : Nat) (uB bs) := by
          unfold TxBad TkBad
          rw [e]
          simp only [Bool.false_eq_true, false_or]
          constructor
          · rintro (h | h | h | h)
            · exact absurd h hb
            · exact absurd h h0
            · exact absurd h h1
            · exact .inr (by omega)
          · rintro (h | h)
            · omega
            · exact .inr (.inr (.inr (by omega)))
        unfold Hid txB txX txV tkB tkX tkV
        by_cases hk : TkBad false (nv bs : Nat) (uB bs)
        · rw [if_pos hk, if_pos hk, if_pos (hiff.2 hk), if_pos (hiff.2 hk), decide_eq_true hk, decide_eq_true (hiff.2 hk)]
          exact ⟨rfl, rfl, rfl⟩
        · have hk2 := fun h => hk (hiff.1 h)
          rw [if_neg hk, if_neg hk, if_neg hk2, if_neg hk2, decide_eq_false hk, decide_eq_false hk2, e, Int.toNat_natCast]
          exact ⟨rfl, rfl, rfl⟩
      clear hb ho hx0
      generalize nv bs = n at hu h1 hn hx
      go_enter Try.func53, Try.ntmps53
      go_wp2_with (first | (go_at_call 64; refine hu.out.mono ?_; rintro e w1 ⟨rfl, hl⟩) | (go_at_call 54; refine (good_any g _ _ _ hl.1).mono ?_; rintro e w2 ⟨rfl, rfl⟩) | (go_at_call 52; refine (rtake_any g _ _ _ _ hl.1 hsane.out (by omega)).mono ?_; rintro e w2 ⟨rfl, hl2⟩))
      go_ret
      obtain ⟨h1, h2, h3⟩ := hx.out
      rw [h1, h2, h3]
      exact ⟨rfl, left_trans hl hl2⟩

/-! ### A nil reader -/

/-- A nil reader's answer: nothing turns. -/
def Still (v : Value) (w : World) (e : Ending) (w' : World) : Prop := e = .returned v ∧ w = w'

set_option maxHeartbeats 400000 in
theorem ruint_nil (w : World) : Calls Try.prog 64 #[.pointer none] w (Still (.int .u64 0) w) := by
  go_enter Try.func64, Try.ntmps64
  go_wp2_with (first | (go_at_call 54; refine (good_nil _).mono ?_; rintro e w1 ⟨rfl, rfl⟩))
  go_ret
  exact ⟨rfl, rfl⟩

set_option maxHeartbeats 400000 in
theorem rint_nil (w : World) : Calls Try.prog 66 #[.pointer none] w (Still (.int .i64 0) w) := by
  have hb : bits BinOp.and IntKind.u64 0 1 = 0 := by rw [and_one_u64 0 (by omega) (by omega)]; rfl
  go_enter Try.func66, Try.ntmps66
  go_wp2_with (go_at_call 64; refine (ruint_nil _).mono ?_; rintro e w1 ⟨rfl, rfl⟩)
  go_ret
  exact ⟨rfl, rfl⟩

set_option maxHeartbeats 400000 in
theorem rin_nil (lo hi : Int) (w : World) : Calls Try.prog 62 #[.pointer none, .int .i64 lo, .int .i64 hi] w (Still (.int .i64 0) w) := by
  go_enter Try.func62, Try.ntmps62
  go_wp2_with (first | (go_at_call 66; refine (rint_nil _).mono ?_; rintro e w1 ⟨rfl, rfl⟩) | (go_at_call 54; refine (good_nil _).mono ?_; rintro e w1 ⟨rfl, rfl⟩))
  go_ret
  exact ⟨rfl, rfl⟩

set_option maxHeartbeats 400000 in
theorem rtake_nil (n : Int) (w : World) : Calls Try.prog 52 #[.pointer none, .int .i64 n] w (Still (.string ⟨#[]⟩) w) := by
  go_enter Try.func52, Try.ntmps52
  go_wp2_with (first | (go_at_call 54; refine (good_nil _).mono ?_; rintro e w1 ⟨rfl, rfl⟩))
  go_ret
  exact ⟨rfl, rfl⟩

set_option maxHeartbeats 400000 in
theorem rtext_nil (most : Int) (w : World) : Calls Try.prog 53 #[.pointer none, .int .i64 most] w (Still (.string ⟨#[]⟩) w) := by
  go_enter Try.func53, Try.ntmps53
  go_wp2_with (first | (go_at_call 64; refine (ruint_nil _).mono ?_; rintro e w1 ⟨rfl, rfl⟩) | (go_at_call 54; refine (good_nil _).mono ?_; rintro e w1 ⟨rfl, rfl⟩) | (go_at_call 52; refine (rtake_nil _ _).mono ?_; rintro e w1 ⟨rfl, rfl⟩))
  go_ret
  exact ⟨rfl, rfl⟩

end Go.Proofs.Ytabogconbjdcgaa.Cd

/-
  code.Int, code.Text, and the reference's Uint, Int, Text. Conditions: none.
-/
namespace Go.Proofs.Ytabogconbjdcgaa.Cd
open Go.RowKit

theorem uint_int (v : Value) (bs : List UInt8) (x : Int) (w : World) (hs : Sl w w.heap.size v bs) (h0 : 0 ≤ x) (hk : x < 18446744073709551616) (hb : bs.length + 10 ≤ 140737488355328) :
    Calls Try.prog 60 #[v, .int .u64 x] w (Wrote w (bs ++ enc x.toNat)) := by
  have := uint_any v bs x.toNat w hs (by omega) hb
  rwa [Int.toNat_of_nonneg h0] at this

set_option maxHeartbeats 400000 in
theorem int_any (v : Value) (bs : List UInt8) (n : Int) (w : World) (hs : Sl w w.heap.size v bs) (h0 : -9223372036854775808 ≤ n) (h1 : n ≤ 9223372036854775807) (hb : bs.length + 10 ≤ 140737488355328) :
    Calls Try.prog 43 #[v, .int .i64 n] w (Wrote w (bs ++ enc (zig n))) := by
  by_cases hn : n < 0
  · have hz : Hid (zig n = (2 * (-(n + 1)) + 1).toNat) := by unfold Hid zig; rw [if_neg (by omega)]
    go_enter Try.func43, Try.ntmps43
    go_wp2_with fail
    refine (uint_int v bs _ w hs (by omega) (by omega) hb).mono ?_
    rintro e w' ⟨v', rfl, hown, hbel⟩
    go_wp2_with fail
    go_ret
    refine ⟨v', rfl, ?_, hbel⟩
    have e1 := hz.out
    rw [e1]
    rwa [show -(n + 1) * 2 + 1 = 2 * (-(n + 1)) + 1 by omega] at hown
  · have hz : Hid (zig n = (2 * n).toNat) := by unfold Hid zig; rw [if_pos (by omega)]
    go_enter Try.func43, Try.ntmps43
    go_wp2_with fail
    refine (uint_int v bs _ w hs (by omega) (by omega) hb).mono ?_
    rintro e w' ⟨v', rfl, hown, hbel⟩
    go_wp2_with fail
    go_ret
    refine ⟨v', rfl, ?_, hbel⟩
    have e1 := hz.out
    rw [e1]
    rwa [show n * 2 = 2 * n by omega] at hown

set_option maxHeartbeats 400000 in
theorem text_any (v : Value) (bs : List UInt8) (s : ByteArray) (w : World) (hs : Sl w w.heap.size v bs) (hb : bs.length + 10 + s.size ≤ 140737488355328) :
    Calls Try.prog 44 #[v, .string s] w (Wrote w (bs ++ (enc s.size ++ s.data.toList))) := by
  have hl := enc_u64 s.size (by omega)
  go_enter Try.func44, Try.ntmps44
  go_wp2_with fail
  refine (uint_int v bs _ w hs (by omega) (by omega) (by omega)).mono ?_
  rintro e w' ⟨v', rfl, hown, hbel⟩
  have hsz := hbel.size
  go_wp2_with (at_builtin; refine wp_append_text rfl _ _ rfl w.heap.size _ (bs ++ enc s.size) rfl ?ho ?hB s rfl ?hm ?hK)
  case ho => rw [Int.toNat_natCast] at hown; exact hown
  case hB => omega
  case hm => simp; omega
  case hK =>
    intro v2 w2 hown2 hbel2
    go_wp2_with fail
    go_ret
    exact ⟨v2, rfl, by simpa using hown2, hbel.trans hbel2⟩

end Go.Proofs.Ytabogconbjdcgaa.Cd

/-
  The reference's Reader: Fail, Good, End, Uint, Int, In, Take, Text. Conditions: none.
-/
namespace Go.Proofs.Ytabogconbjdcgaa.Cd
open Go.RowKit

/-- Block g is the reference's reader that has the bytes 'bs' left. -/
def Rf (w : World) (g : Nat) (bs : List UInt8) (bad : Bool) : Prop := w.heap[g]? = some (.cells #[.string ⟨bs.toArray⟩, .bool bad] 74 (0, 0))

section
variable {w w' : World} {g : Nat} {bs : List UInt8} {bad : Bool}
theorem Rf.lt (h : Rf w g bs bad) : g < w.heap.size := by
  rcases Nat.lt_or_ge g w.heap.size with hlt | hge
  · exact hlt
  · unfold Rf at h; rw [Array.getElem?_eq_none hge] at h; cases h
theorem Rf.cell0 (h : Rf w g bs bad) : w.cell? ⟨g, 0, none⟩ = some (.string ⟨bs.toArray⟩) := cell_of_row w g 0 _ _ (0, 0) h
theorem Rf.cell1 (h : Rf w g bs bad) : w.cell? ⟨g, 1, none⟩ = some (.bool bad) := cell_of_row w g 1 _ _ (0, 0) h
theorem Rf.frozen (h : Rf w g bs bad) (i : Nat) : w.frozen? ⟨g, i, none⟩ = false := by
  unfold Rf at h
  simp [World.frozen?, h]
theorem Rf.drew (h : Rf w g bs bad) : Rf w.drew g bs bad := h
theorem Rf.set0 (h : Rf w g bs bad) {v : Value} (cs : List UInt8) (hv : v = .string ⟨cs.toArray⟩) : Rf (w.setCell ⟨g, 0, none⟩ v) g cs bad := by
  subst hv
  unfold Rf at h ⊢
  simp [World.setCell, Array.getElem?_modify, h]
theorem Rf.set1 (h : Rf w g bs bad) (b : Bool) : Rf (w.setCell ⟨g, 1, none⟩ (.bool b)) g bs b := by
  unfold Rf at h ⊢
  simp [World.setCell, Array.getElem?_modify, h]
theorem Rf.below {B : Nat} (h : Rf w g bs bad) (hb : Below B w w') (hg : g < B) : Rf w' g bs bad := (hb.block g hg).trans h
theorem Rf.new (h : Rf w g bs bad) (o : Obj) : Rf (w.alloc o) g bs bad :=
  h.below ((Below.refl w.heap.size w).alloc (Nat.le_refl _) o) h.lt
/-- Another block's writes leave it. -/
theorem Rf.far {g' : Nat} (h : Rf w g bs bad) (hg : w.grownBy w' (some g')) (hne : g ≠ g') : Rf w' g bs bad := (hg.block g h.lt (fun e => hne (by injection e))).trans h
theorem Rd.far {g' : Nat} (h : Rd w g bs bad) (hg : w.grownBy w' (some g')) (hne : g ≠ g') : Rd w' g bs bad := (hg.block g h.lt (fun e => hne (by injection e))).trans h
end

def LeftF (w : World) (g : Nat) (bs : List UInt8) (bad : Bool) (w' : World) : Prop := Rf w' g bs bad ∧ w.grownBy w' (some g)
def AnsF (v : Value) (w : World) (g : Nat) (bs : List UInt8) (bad : Bool) (e : Ending) (w' : World) : Prop := e = .returned v ∧ LeftF w g bs bad w'
theorem leftF_trans {w w1 w2 : World} {g : Nat} {a b : List UInt8} {x y : Bool} (h : LeftF w g a x w1) (k : LeftF w1 g b y w2) : LeftF w g b y w2 := ⟨k.1, grown_trans h.2 k.2⟩

set_option maxHeartbeats 400000 in
theorem ffail_any (g : Nat) (bs : List UInt8) (bad : Bool) (w : World) (hr : Rf w g bs bad) :
    Calls Try.prog 56 #[.pointer (some ⟨g, 0, none⟩)] w fun e w' => e = .returned (.tuple #[]) ∧ LeftF w g [] true w' := by
  have hc0 := hr.cell0
  have hc1 := hr.cell1
  have hf0 := hr.frozen 0
  have hf1 := hr.frozen 1
  go_enter Try.func56, Try.ntmps56
  go_wp2_with fail
  go_end0
  exact ⟨rfl, (hr.set1 true).set0 [] rfl, grown_trans (grown_set _ _ _ _) (grown_set _ _ _ _)⟩

set_option maxHeartbeats 400000 in
theorem fgood_any (g : Nat) (bs : List UInt8) (bad : Bool) (w : World) (hr : Rf w g bs bad) :
    Calls Try.prog 37 #[.pointer (some ⟨g, 0, none⟩)] w fun e w' => e = .returned (.bool !bad) ∧ w = w' := by
  have hc := hr.cell1
  go_enter Try.func37, Try.ntmps37
  go_wp2_with fail
  go_ret
  exact ⟨rfl, rfl⟩

set_option maxHeartbeats 400000 in
theorem fend_any (g : Nat) (bs : List UInt8) (bad : Bool) (w : World) (hr : Rf w g bs bad) :
    Calls Try.prog 40 #[.pointer (some ⟨g, 0, none⟩)] w fun e w' => e = .returned (.bool (!bad && bs.isEmpty)) ∧ w = w' := by
  have hc0 := hr.cell0
  have hc1 := hr.cell1
  cases bad
  · go_enter Try.func40, Try.ntmps40
    go_wp2_with fail
    go_ret
    exact ⟨by simp, rfl⟩
  · go_enter Try.func40, Try.ntmps40
    go_wp2_with fail
    go_ret
    exact ⟨rfl, rfl⟩

theorem at8_list (l : List UInt8) (k : Nat) (h : k < (ByteArray.mk l.toArray).size) : (ByteArray.mk l.toArray)[k].toNat = at8 l k := at8_of ⟨l.toArray⟩ k h

theorem stop_at (l : List UInt8) (k : Nat) (h : k < stop l) : 128 ≤ at8 l k := stop_lo l k h

/-- What the bytes from j on say, shifted down. -/
theorem val_split (l : List UInt8) (j m e : Nat) (h : val l (e + 1) = val l (j + 1) + m * 128 ^ (j + 1)) : val l (e + 1) = val l j + (m * 128 + at8 l j % 128) * 128 ^ j := by
  rw [h, val, Nat.pow_succ, Nat.add_mul, Nat.mul_assoc m 128, Nat.mul_comm 128 (128 ^ j)]
  omega

theorem part_lt (l : List UInt8) (j x e : Nat) (hb : val l (e + 1) < 18446744073709551616) (h : val l (e + 1) = val l j + x * 128 ^ j) : x < 18446744073709551616 := by
  have h1 : x * 1 ≤ x * 128 ^ j := Nat.mul_le_mul_left _ (Nat.pow_pos (by omega))
  omega

set_option maxRecDepth 100000 in
set_option maxHeartbeats 1000000 in
theorem fuint_any (g : Nat) (bs : List UInt8) (bad : Bool) (w : World) (hr : Rf w g bs bad) (hbb : Sane bad bs) (hs : bs.length ≤ 140737488355328) :
    Calls Try.prog 57 #[.pointer (some ⟨g, 0, none⟩)] w (AnsF (.int .u64 (nv bs : Nat)) w g (uB bs) (uX bs)) := by
  have HR := Lib.hid hr
  have HBB := Lib.hid hbb
  have hc0 := hr.cell0
  have hf0 := hr.frozen 0
  have hsl := stop_le bs
  clear hr hbb
  go_enter Try.func57, Try.ntmps57
  go_wp2
  go_loop [3] (fun i => ∃ k : Nat, i = .int .i64 k ∧ k ≤ stop bs) (fun i => stop bs - (intOf i).toNat)
  case atStart => exact ⟨0, rfl, by omega⟩
  case round =>
    obtain ⟨k, rfl, hk⟩ := hrel
    by_cases hlt : k < stop bs
    · have hkl : k < bs.length := by omega
      have h8 := stop_at bs k hlt
      rw [← at8_list bs k hkl] at h8
      obtain ⟨c, hc⟩ : ∃ c, (ByteArray.mk bs.toArray)[k]'hkl = c := ⟨_, rfl⟩
      rw [hc] at h8
      go_wp2_with fail
      go_round
      case rel => exact ⟨k + 1, by go_num, by omega⟩
      case measure => simp [intOf]; omega
    · have hkk : k = stop bs := by omega
      subst hkk
      clear hlt hk
      have HSL := Lib.hid hsl
      by_cases hend : bs.length ≤ stop bs
      · have hbad : Hid (Bad bs) := .inl hend
        have hnl : ¬ stop bs < bs.length := by omega
        go_wp2_with (go_at_call 56; refine (ffail_any g bs bad _ HR.out).mono ?_; rintro e w1 ⟨rfl, hl⟩)
        go_ret
        rw [show uB bs = [] from if_pos hbad.out, show uX bs = true from decide_eq_true hbad.out, nv_bad hbad.out]
        exact ⟨rfl, hl⟩
      · have hkl : stop bs < bs.length := by omega
        have h8 := stop_hi bs hkl
        rw [← at8_list bs _ hkl] at h8
        obtain ⟨c, hc⟩ : ∃ c, (ByteArray.mk bs.toArray)[stop bs]'hkl = c := ⟨_, rfl⟩
        have hat : Hid (c.toNat = at8 bs (stop bs)) := by unfold Hid; rw [← at8_list bs _ hkl, hc]
        rw [hc] at h8
        have hbadc : bad = false := by
          cases bad with
          | false => rfl
          | true => have := HBB.out rfl; rw [this] at hkl; simp at hkl
        subst hbadc
        by_cases h9 : 9 < stop bs
        · have hbad : Hid (Bad bs) := .inr (.inl h9)
          go_wp2_with (go_at_call 56; refine (ffail_any g bs _ _ HR.out).mono ?_; rintro e w1 ⟨rfl, hl⟩)
          go_ret
          rw [show uB bs = [] from if_pos hbad.out, show uX bs = true from decide_eq_true hbad.out, nv_bad hbad.out]
          exact ⟨rfl, hl⟩
        · by_cases hz : 0 < stop bs ∧ c.toNat = 0
          · have hbad : Hid (Bad bs) := .inr (.inr (.inl ⟨hz.1, by rw [← hat.out]; exact hz.2⟩))
            have h0 := hz.1
            have hq : ((c.toNat : Int) == 0) = true := by simp; omega
            clear hz
            go_wp2_with (go_at_call 56; refine (ffail_any g bs _ _ HR.out).mono ?_; rintro e w1 ⟨rfl, hl⟩)
            go_ret
            rw [show uB bs = [] from if_pos hbad.out, show uX bs = true from decide_eq_true hbad.out, nv_bad hbad.out]
            exact ⟨rfl, hl⟩
          · by_cases hn9 : stop bs = 9 ∧ 1 < c.toNat
            · obtain ⟨e9, hc1⟩ := hn9
              have hbad : Hid (Bad bs) := .inr (.inr (.inr ⟨e9, by have := hat.out; rw [e9] at this; omega⟩))
              have hq : ((c.toNat : Int) == 0) = false := by simp; omega
              have hE : ((stop bs : Int) == 9) = true := by simp; omega
              have h0 : 0 < stop bs := by omega
              have h9l : 9 < bs.length := by omega
              have hc9 : (ByteArray.mk bs.toArray)[9]'h9l = c := by rw [← hc]; congr 1; exact e9.symm
              clear e9 hz
              go_wp2_with (go_at_call 56; refine (ffail_any g bs _ _ HR.out).mono ?_; rintro e w1 ⟨rfl, hl⟩)
              go_ret
              rw [show uB bs = [] from if_pos hbad.out, show uX bs = true from decide_eq_true hbad.out, nv_bad hbad.out]
              exact ⟨rfl, hl⟩
            · have hgood : ¬ Bad bs := by
                have := hat.out
                unfold Bad
                rintro (h | h | ⟨h, h'⟩ | ⟨h, h'⟩)
                · omega
                · omega
                · exact hz ⟨h, by omega⟩
                · exact hn9 ⟨h, by rw [← h] at h'; omega⟩
              have hval := val_u64 hgood
              have HV := Lib.hid hval
              have hx : Hid (uB bs = bs.drop (stop bs + 1) ∧ uX bs = false ∧ nv bs = val bs (stop bs + 1)) := ⟨by unfold uB; rw [if_neg hgood, ns_good hgood], decide_eq_false hgood, nv_good hgood⟩
              clear hgood hval
              have HAT := Lib.hid hat.out
              have HC := Lib.hid hc
              have hlen : (ByteArray.mk bs.toArray).size = bs.length := rfl
              have hways : (¬ 0 < stop bs ∧ ((stop bs : Int) == 9) = false) ∨ (0 < stop bs ∧ ((c.toNat : Int) == 0) = false ∧ ((stop bs : Int) == 9) = false) ∨
                  (0 < stop bs ∧ ((c.toNat : Int) == 0) = false ∧ ((stop bs : Int) == 9) = true ∧ ¬ 1 < c.toNat ∧ ∃ h9l : 9 < bs.length, (ByteArray.mk bs.toArray)[9]'h9l = c) := by
                by_cases a0 : 0 < stop bs
                · have hcz : ((c.toNat : Int) == 0) = false := by simp; omega
                  by_cases a9 : stop bs = 9
                  · exact .inr (.inr ⟨a0, hcz, by simp; omega, by omega, by omega, by rw [← hc]; congr 1; exact a9.symm⟩)
                  · exact .inr (.inl ⟨a0, hcz, by simp; omega⟩)
                · exact .inl ⟨a0, by simp; omega⟩
              rcases hways with ⟨hs0, hE⟩ | ⟨hs0, hq, hE⟩ | ⟨hs0, hq, hE, hc1, h9l, hc9⟩
              all_goals
                clear hz hn9
                go_wp2_with fail
                go_loop [4, 5] (fun n i => ∃ (j m : Nat), i = .int .i64 ((j : Int) - 1) ∧ n = .int .u64 m ∧ j ≤ stop bs + 1 ∧ Hid (val bs (stop bs + 1) = val bs j + m * 128 ^ j)) (fun _ i => (intOf i + 1).toNat)
                case atStart => exact ⟨stop bs + 1, 0, congrArg (Value.int .i64) (by omega), rfl, by omega, by unfold Hid; omega⟩
                case round =>
                  obtain ⟨j, m, rfl, rfl, hj, hv⟩ := hrel
                  cases j with
                  | succ j =>
                    have hjl : j < bs.length := by omega
                    obtain ⟨d, hd⟩ : ∃ d, (ByteArray.mk bs.toArray)[j]'hjl = d := ⟨_, rfl⟩
                    have hdat : Hid (d.toNat = at8 bs j) := by unfold Hid; rw [← at8_list bs _ hjl, hd]
                    have hnew : Hid (val bs (stop bs + 1) = val bs j + (m * 128 + d.toNat % 128) * 128 ^ j) := by
                      unfold Hid
                      rw [hdat.out]
                      exact val_split bs j m (stop bs) hv.out
                    have hlt64 : m * 128 + d.toNat % 128 < 18446744073709551616 := part_lt bs j _ (stop bs) HV.out hnew.out
                    have hd8 := d.toNat_lt
                    rw [show ((j + 1 : Nat) : Int) - 1 = (j : Int) by omega]
                    clear hv
                    go_wp2_with fail
                    go_round
                    case rel => exact ⟨j, m * 128 + d.toNat % 128, rfl, by go_num, by omega, hnew⟩
                    case measure => simp [intOf]
                  | zero =>
                    have hm0 : Hid (nv bs = m) := by
                      have h1 := hv.out
                      have h2 := hx.out.2.2
                      rw [val, Nat.pow_zero, Nat.mul_one, Nat.zero_add] at h1
                      rw [← h2] at h1
                      exact h1
                    go_wp2_with fail
                    go_ret
                    obtain ⟨x1, x2, x3⟩ := hx.out
                    rw [x1, x2, hm0.out]
                    refine ⟨rfl, HR.out.set0 _ ?_, grown_set _ _ _ _⟩
                    rw [extract_tail _ _ _ rfl]

end Go.Proofs.Ytabogconbjdcgaa.Cd

/-
  The reference's Reader: Int, In, Take, Text. Conditions: none.
-/
namespace Go.Proofs.Ytabogconbjdcgaa.Cd
open Go.RowKit

set_option maxHeartbeats 400000 in
theorem fint_any (g : Nat) (bs : List UInt8) (bad : Bool) (w : World) (hr : Rf w g bs bad) (hbb : Sane bad bs) (hs : bs.length ≤ 140737488355328) :
    Calls Try.prog 49 #[.pointer (some ⟨g, 0, none⟩)] w (AnsF (.int .i64 (zag (nv bs))) w g (uB bs) (uX bs)) := by
  have hu := Lib.hid (fuint_any g bs bad w hr hbb hs)
  have hn := nv_u64 bs
  have hz : Hid (zag (nv bs) = if nv bs % 2 = 1 then -((nv bs / 2 : Nat) : Int) - 1 else ((nv bs / 2 : Nat) : Int)) := rfl
  generalize nv bs = n at hu hn hz ⊢
  clear hr hbb
  by_cases h2 : n % 2 = 1
  · have hz2 : Hid (zag n = -((n / 2 : Nat) : Int) - 1) := by have := hz.out; rw [if_pos h2] at this; exact this
    have hq : ((n : Int) % 2 == 0) = false := by simp; omega
    clear h2 hz
    go_enter Try.func49, Try.ntmps49
    go_wp2_with (go_at_call 57; refine hu.out.mono ?_; rintro e w1 ⟨rfl, hl⟩)
    go_ret
    exact ⟨by rw [hz2.out]; rfl, hl⟩
  · have hz2 : Hid (zag n = ((n / 2 : Nat) : Int)) := by have := hz.out; rw [if_neg h2] at this; exact this
    have hq : ((n : Int) % 2 == 0) = true := by simp; omega
    clear h2 hz
    go_enter Try.func49, Try.ntmps49
    go_wp2_with (go_at_call 57; refine hu.out.mono ?_; rintro e w1 ⟨rfl, hl⟩)
    go_ret
    exact ⟨by rw [hz2.out]; rfl, hl⟩

set_option maxHeartbeats 400000 in
theorem ftake_any (g : Nat) (n : Int) (bs : List UInt8) (bad : Bool) (w : World) (hr : Rf w g bs bad) (_hs : bs.length ≤ 140737488355328) :
    Calls Try.prog 36 #[.pointer (some ⟨g, 0, none⟩), .int .i64 n] w (AnsF (.string ⟨(tkV bad n bs).toArray⟩) w g (tkB bad n bs) (tkX bad n bs)) := by
  have HR := Lib.hid hr
  have hc0 := hr.cell0
  have hc1 := hr.cell1
  have hf0 := hr.frozen 0
  have hsz : (ByteArray.mk bs.toArray).size = bs.length := rfl
  clear hr
  by_cases hbad : TkBad bad n bs
  · have hx : Hid (tkB bad n bs = [] ∧ tkX bad n bs = true ∧ tkV bad n bs = []) := ⟨if_pos hbad, decide_eq_true hbad, if_pos hbad⟩
    rcases (by rcases hbad with h | h | h; (by_cases h0 : n < 0; exact .inl h0; by_cases h1 : (bs.length : Int) < n; exact .inr (.inl ⟨h0, h1⟩); exact .inr (.inr ⟨h0, h1, h⟩)); exact .inl h; (by_cases h0 : n < 0; exact .inl h0; exact .inr (.inl ⟨h0, h⟩)) : n < 0 ∨ (¬ n < 0 ∧ (bs.length : Int) < n) ∨ (¬ n < 0 ∧ ¬ (bs.length : Int) < n ∧ bad = true)) with h0 | ⟨h0, h1⟩ | ⟨h0, h1, rfl⟩
    all_goals
      clear hbad
      go_enter Try.func36, Try.ntmps36
      go_wp2_with (go_at_call 56; refine (ffail_any g bs _ _ HR.out).mono ?_; rintro e w1 ⟨rfl, hl⟩)
      go_ret
      obtain ⟨h1, h2, h3⟩ := hx.out
      rw [h1, h2, h3]
      exact ⟨rfl, hl⟩
  · have hx : Hid (tkB bad n bs = bs.drop n.toNat ∧ tkX bad n bs = false ∧ tkV bad n bs = bs.take n.toNat) := ⟨if_neg hbad, decide_eq_false hbad, if_neg hbad⟩
    have h0 : ¬ n < 0 := fun h => hbad (.inr (.inl h))
    have h1 : ¬ (bs.length : Int) < n := fun h => hbad (.inr (.inr h))
    have hbf : bad = false := by
      cases bad with
      | false => rfl
      | true => exact absurd (.inl rfl) hbad
    clear hbad
    subst hbf
    obtain ⟨k, rfl⟩ := Int.eq_ofNat_of_zero_le (by omega : 0 ≤ n)
    have h2 : k ≤ bs.length := by omega
    go_enter Try.func36, Try.ntmps36
    go_wp2_with fail
    go_ret
    obtain ⟨h1, h2, h3⟩ := hx.out
    rw [h1, h2, h3, Int.toNat_natCast]
    refine ⟨?_, HR.out.set0 _ ?_, grown_set _ _ _ _⟩
    · rw [← extract_head]; rfl
    · rw [extract_tail _ _ _ rfl]

theorem tx_is_tk {most : Int} {bs : List UInt8} (hb : ¬ Bad bs) (h0 : ¬ most < 0) (h1 : ¬ most < (nv bs : Nat)) :
    txB most bs = tkB false (nv bs : Nat) (uB bs) ∧ txX most bs = tkX false (nv bs : Nat) (uB bs) ∧ txV most bs = tkV false (nv bs : Nat) (uB bs) := by
  have e : uB bs = bs.drop (ns bs) := if_neg hb
  have hiff : TxBad most bs ↔ TkBad false (nv bs : Nat) (uB bs) := by
    unfold TxBad TkBad
    rw [e]
    simp only [Bool.false_eq_true, false_or]
    constructor
    · rintro (h | h | h | h)
      · exact absurd h hb
      · exact absurd h h0
      · exact absurd h h1
      · exact .inr (by omega)
    · rintro (h | h)
      · omega
      · exact .inr (.inr (.inr (by omega)))
  unfold txB txX txV tkB tkX tkV
  by_cases hk : TkBad false (nv bs : Nat) (uB bs)
  · rw [if_pos hk, if_pos hk, if_pos (hiff.2 hk), if_pos (hiff.2 hk), decide_eq_true hk, decide_eq_true (hiff.2 hk)]
    exact ⟨rfl, rfl, rfl⟩
  · have hk2 := fun h => hk (hiff.1 h)
    rw [if_neg hk, if_neg hk, if_neg hk2, if_neg hk2, decide_eq_false hk, decide_eq_false hk2, e, Int.toNat_natCast]
    exact ⟨rfl, rfl, rfl⟩

set_option maxRecDepth 100000 in
set_option maxHeartbeats 400000 in
theorem ftext_any (g : Nat) (most : Int) (bs : List UInt8) (bad : Bool) (w : World) (hr : Rf w g bs bad) (hbb : Sane bad bs) (hs : bs.length ≤ 140737488355328) (hm : most ≤ 9223372036854775807) :
    Calls Try.prog 38 #[.pointer (some ⟨g, 0, none⟩), .int .i64 most] w (AnsF (.string ⟨(txV most bs).toArray⟩) w g (txB most bs) (txX most bs)) := by
  have hu := Lib.hid (fuint_any g bs bad w hr hbb hs)
  clear hr hbb
  have hlen := uB_len bs
  have hn := nv_u64 bs
  by_cases ho : Bad bs ∨ most < 0 ∨ most < (nv bs : Nat)
  · have ht : TxBad most bs := by
      rcases ho with h | h | h
      · exact .inl h
      · exact .inr (.inl h)
      · exact .inr (.inr (.inl h))
    have hx : Hid (txB most bs = [] ∧ txX most bs = true ∧ txV most bs = []) := ⟨if_pos ht, decide_eq_true ht, if_pos ht⟩
    have hways : uX bs = true ∨ (uX bs = false ∧ most < 0) ∨ (uX bs = false ∧ ¬ most < 0 ∧ most < (nv bs : Nat)) := by
      by_cases hb : Bad bs
      · exact .inl (decide_eq_true hb)
      · have hx2 : uX bs = false := decide_eq_false hb
        by_cases h0 : most < 0
        · exact .inr (.inl ⟨hx2, h0⟩)
        · refine .inr (.inr ⟨hx2, h0, ?_⟩)
          rcases ho with h | h | h
          · exact absurd h hb
          · exact absurd h h0
          · exact h
    clear ht ho
    generalize nv bs = n at hu hn hways
    generalize uX bs = x at hu hways
    generalize uB bs = c at hu hlen
    rcases hways with hw | ⟨hw, h0⟩ | ⟨hw, h0, h1⟩
    all_goals
      subst hw
      go_enter Try.func38, Try.ntmps38
      go_wp2_with (first | (go_at_call 57; refine hu.out.mono ?_; rintro e w1 ⟨rfl, hl⟩; have hc1 := hl.1.cell1) | (go_at_call 56; refine (ffail_any g _ _ _ hl.1).mono ?_; rintro e w2 ⟨rfl, hl2⟩))
      go_ret
      obtain ⟨h1, h2, h3⟩ := hx.out
      rw [h1, h2, h3]
      exact ⟨rfl, leftF_trans hl hl2⟩
  · have hb : ¬ Bad bs := fun h => ho (.inl h)
    have h0 : ¬ most < 0 := fun h => ho (.inr (.inl h))
    have h1 : ¬ most < (nv bs : Nat) := fun h => ho (.inr (.inr h))
    have hx2 : uX bs = false := decide_eq_false hb
    have hx : Hid (txB most bs = tkB false (nv bs : Nat) (uB bs) ∧ txX most bs = tkX false (nv bs : Nat) (uB bs) ∧ txV most bs = tkV false (nv bs : Nat) (uB bs)) := tx_is_tk hb h0 h1
    rw [hx2] at hu
    clear hb ho hx2
    generalize nv bs = n at hu h1 hn hx
    go_enter Try.func38, Try.ntmps38
    go_wp2_with (first | (go_at_call 57; refine hu.out.mono ?_; rintro e w1 ⟨rfl, hl⟩; have hc1 := hl.1.cell1) | (go_at_call 36; refine (ftake_any g _ _ _ _ hl.1 (by omega)).mono ?_; rintro e w2 ⟨rfl, hl2⟩))
    go_ret
    obtain ⟨h1, h2, h3⟩ := hx.out
    rw [h1, h2, h3]
    exact ⟨rfl, leftF_trans hl hl2⟩

end Go.Proofs.Ytabogconbjdcgaa.Cd

/-
  The reference's Uint, Int, Text. Conditions: none.
-/
namespace Go.Proofs.Ytabogconbjdcgaa.Cd
open Go.RowKit

/-- What the reference's writers leave. -/
def Said (w : World) (bs : List UInt8) (e : Ending) (w' : World) : Prop := e = .returned (.string ⟨bs.toArray⟩) ∧ Below w.heap.size w w'

theorem add_text (W : World) (a b : List UInt8) (h : a.length + b.length ≤ 9223372036854775807) :
    (Op.stringOp .add ⟨a.toArray⟩ ⟨b.toArray⟩).run Try.prog W = .ok (.string ⟨(a ++ b).toArray⟩) W := by
  rw [run_string_add_sum _ _ _ (by simpa [ByteArray.size] using h)]
  rw [ByteArray.mk_append_mk]

set_option maxRecDepth 100000 in
set_option maxHeartbeats 400000 in
theorem ref_uint_lo (n : Nat) (w : World) (hc : n < 128) :
    Calls Try.prog 51 #[.int .u64 n] w (Said w (enc n)) := by
  have hcv := run_text_one (w.alloc (.cells #[.int .u8 n] 5)) w.heap.size 1 n (lo8 n) (by rw [lo8_nat hc]) (by simp)
  have HE : Hid (enc n = [lo8 n]) := enc_lo hc
  go_enter Try.func51, Try.ntmps51
  go_wp2_with fail
  go_ret
  exact ⟨by rw [HE.out]; rfl, (Below.refl _ _).alloc (Nat.le_refl _) _⟩

set_option maxRecDepth 100000 in
set_option maxHeartbeats 400000 in
theorem ref_uint_any (n : Nat) : ∀ (w : World), n < 18446744073709551616 →
    Calls Try.prog 51 #[.int .u64 n] w (Said w (enc n)) := by
  induction n using Nat.strongRecOn with
  | _ n ih =>
    intro w hn
    by_cases hc : n < 128
    · exact ref_uint_lo n w hc
    · have IH := fun W => ih (n / 128) (by omega) W (by omega)
      have IH2 := Lib.hid IH
      clear IH ih
      have HE : Hid (enc n = hi8 n :: enc (n / 128)) := enc_hi (by omega)
      have E1 : IntKind.u8.wrap (IntKind.u64.wrap (128 + (n : Int).tmod 128)) = ((hi8 n).toNat : Int) := by
        rw [hi8_nat, Int.tmod_eq_emod_of_nonneg (by omega), IntKind.wrap_u64, IntKind.wrap_u8']; omega
      have E2 : IntKind.u64.wrap ((n : Int) / 128) = ((n / 128 : Nat) : Int) := by rw [IntKind.wrap_u64]; omega
      have hcv := fun (W : World) (g : Nat) => run_text_one W g 1 _ (hi8 n) rfl
      have hadd := fun W => add_text W [hi8 n] (enc (n / 128)) (by have := enc_u64 (n / 128) (by omega); simp; omega)
      go_enter Try.func51, Try.ntmps51
      go_wp2_with fail
      go_region_with (go_at_call 51; refine (IH2.out _).mono ?_; rintro e w1 ⟨rfl, hb1⟩; first | (have hcell : w1.cell? ⟨w.heap.size, 0, none⟩ = some (.int .u8 (hi8 n).toNat) := by (rw [hb1.cell (by simp)]; simp)) | skip)
      all_goals
        go_wp2_with fail
        go_ret
        refine ⟨by rw [HE.out]; rfl, ?_⟩
        first
          | exact ((Below.refl _ _).alloc (Nat.le_refl _) _).drew.trans (hb1.mono (by simp))
          | exact ((Below.refl _ _).drew.trans hb1).alloc hb1.size _

theorem ref_uint_int (x : Int) (w : World) (h0 : 0 ≤ x) (h1 : x < 18446744073709551616) : Calls Try.prog 51 #[.int .u64 x] w (Said w (enc x.toNat)) := by
  have := ref_uint_any x.toNat w (by omega)
  rwa [Int.toNat_of_nonneg h0] at this

set_option maxHeartbeats 400000 in
theorem ref_int_any (n : Int) (w : World) (h0 : -9223372036854775808 ≤ n) (h1 : n ≤ 9223372036854775807) :
    Calls Try.prog 47 #[.int .i64 n] w (Said w (enc (zig n))) := by
  by_cases hn : n < 0
  · have hz : Hid (zig n = (2 * (-(n + 1)) + 1).toNat) := by unfold Hid zig; rw [if_neg (by omega)]
    go_enter Try.func47, Try.ntmps47
    go_wp2_with fail
    refine (ref_uint_int _ w (by omega) (by omega)).mono ?_
    rintro e w' ⟨rfl, hbel⟩
    go_wp2_with fail
    go_ret
    exact ⟨by rw [hz.out]; rfl, hbel⟩
  · have hz : Hid (zig n = (2 * n).toNat) := by unfold Hid zig; rw [if_pos (by omega)]
    go_enter Try.func47, Try.ntmps47
    go_wp2_with fail
    refine (ref_uint_int _ w (by omega) (by omega)).mono ?_
    rintro e w' ⟨rfl, hbel⟩
    go_wp2_with fail
    go_ret
    exact ⟨by rw [hz.out]; rfl, hbel⟩

set_option maxHeartbeats 400000 in
theorem ref_text_any (s : ByteArray) (w : World) (hb : s.size ≤ 140737488355328) :
    Calls Try.prog 30 #[.string s] w (Said w (enc s.size ++ s.data.toList)) := by
  have hl := enc_u64 s.size (by omega)
  have hadd := fun W => add_text W (enc s.size) s.data.toList (by have : s.data.toList.length = s.size := rfl; omega)
  go_enter Try.func30, Try.ntmps30
  go_wp2_with fail
  refine (ref_uint_int _ w (by omega) (by omega)).mono ?_
  rintro e w' ⟨rfl, hbel⟩
  rw [Int.toNat_natCast]
  go_wp2_with fail
  go_ret
  exact ⟨by simp, hbel⟩

end Go.Proofs.Ytabogconbjdcgaa.Cd
