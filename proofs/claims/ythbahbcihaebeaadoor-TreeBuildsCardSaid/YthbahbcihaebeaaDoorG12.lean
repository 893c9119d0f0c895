/-
  code.Int, code.Text, and the reference's Uint, Int, Text. Conditions: none.
-/
import Derived.Test.YthbahbcihaebeaaDoorG2
import Derived.Deep.RegionWith
import Derived.Deep.DeepFit
/-
  code.Reader: Read, Good, fail, End. Conditions: none.
-/
namespace Go.Proofs.YthbahbcihaebeaaDoor.Cd
open Go.RowKit

/-- Block g is a reader that has the bytes 'bs' left. -/
def Rd (w : World) (g : Nat) (bs : List UInt8) (bad : Bool) : Prop := w.heap[g]? = some (.cells #[.string ⟨bs.toArray⟩, .bool bad] 112 (0, 0))

section
variable {w w' : World} {g : Nat} {bs : List UInt8} {bad : Bool}
theorem Rd.lt (h : Rd w g bs bad) : g < w.heap.size := by
  rcases Nat.lt_or_ge g w.heap.size with hlt | hge
  · exact hlt
  · unfold Rd at h; rw [Array.getElem?_eq_none hge] at h; cases h
theorem Rd.cell0 (h : Rd w g bs bad) : w.cell? ⟨g, 0, none⟩ = some (.string ⟨bs.toArray⟩) := cell_of_row w g 0 _ _ (0, 0) h
theorem Rd.cell1 (h : Rd w g bs bad) : w.cell? ⟨g, 1, none⟩ = some (.bool bad) := cell_of_row w g 1 _ _ (0, 0) h
theorem Rd.frozen (h : Rd w g bs bad) (i : Nat) : w.frozen? ⟨g, i, none⟩ = false := by
  unfold Rd at h
  simp [World.frozen?, h]
theorem Rd.drew (h : Rd w g bs bad) : Rd w.drew g bs bad := h
theorem Rd.set0 (h : Rd w g bs bad) (cs : List UInt8) : Rd (w.setCell ⟨g, 0, none⟩ (.string ⟨cs.toArray⟩)) g cs bad := by
  unfold Rd at h ⊢
  simp [World.setCell, Array.getElem?_modify, h]
theorem Rd.set1 (h : Rd w g bs bad) (b : Bool) : Rd (w.setCell ⟨g, 1, none⟩ (.bool b)) g bs b := by
  unfold Rd at h ⊢
  simp [World.setCell, Array.getElem?_modify, h]
theorem Rd.below {B : Nat} (h : Rd w g bs bad) (hb : Below B w w') (hg : g < B) : Rd w' g bs bad := (hb.block g hg).trans h
end

/-- What a reader's call leaves: the reader as it is said, and else nothing of what was there has turned. -/
def Left (w : World) (g : Nat) (bs : List UInt8) (bad : Bool) (w' : World) : Prop := Rd w' g bs bad ∧ w.grownBy w' (some g)

theorem grown_refl (w : World) (r : Option Nat) : w.grownBy w r := ⟨rfl, rfl, rfl, Nat.le_refl _, fun _ _ _ => rfl⟩
theorem grown_trans {a b c : World} {g : Nat} (h : a.grownBy b (some g)) (k : b.grownBy c (some g)) : a.grownBy c (some g) :=
  ⟨k.os.trans h.os, k.tape.trans h.tape, k.output.trans h.output, Nat.le_trans h.size k.size, fun i hi hn => (k.block i (Nat.lt_of_lt_of_le hi h.size) hn).trans (h.block i hi hn)⟩
theorem grown_set (w : World) (g i : Nat) (v : Value) : w.grownBy (w.setCell ⟨g, i, none⟩ v) (some g) :=
  ⟨rfl, rfl, rfl, by simp [World.setCell], fun k _ hk => Below.heap_setCell w _ v k (fun e => hk (by rw [e]))⟩

set_option maxHeartbeats 400000 in
theorem read_any (v : Value) (bs : List UInt8) (w : World) (hs : Sl w w.heap.size v bs) :
    Calls Tryd.prog 41 #[v] w fun e w' => e = .returned (.pointer (some ⟨w.heap.size, 0, none⟩)) ∧ Rd w' w.heap.size bs false ∧ Below w.heap.size w w' := by
  have hcv := run_text_of w _ v bs hs
  go_enter Tryd.func41, Tryd.ntmps41
  go_wp2_with fail
  go_ret
  exact ⟨rfl, heap_alloc_new w _, (Below.refl _ _).alloc (Nat.le_refl _) _⟩

set_option maxHeartbeats 400000 in
theorem good_any (g : Nat) (bs : List UInt8) (bad : Bool) (w : World) (hr : Rd w g bs bad) :
    Calls Tryd.prog 60 #[.pointer (some ⟨g, 0, none⟩)] w fun e w' => e = .returned (.bool !bad) ∧ w = w' := by
  have hc := hr.cell1
  go_enter Tryd.func60, Tryd.ntmps60
  go_wp2_with fail
  go_ret
  exact ⟨rfl, rfl⟩

set_option maxHeartbeats 400000 in
theorem good_nil (w : World) :
    Calls Tryd.prog 60 #[.pointer none] w fun e w' => e = .returned (.bool false) ∧ w = w' := by
  go_enter Tryd.func60, Tryd.ntmps60
  go_wp2_with fail
  go_ret
  exact ⟨rfl, rfl⟩

set_option maxHeartbeats 400000 in
theorem fail_any (g : Nat) (bs : List UInt8) (bad : Bool) (w : World) (hr : Rd w g bs bad) :
    Calls Tryd.prog 70 #[.pointer (some ⟨g, 0, none⟩)] w fun e w' => e = .returned (.tuple #[]) ∧ Left w g [] true w' := by
  have hc0 := hr.cell0
  have hc1 := hr.cell1
  have hf0 := hr.frozen 0
  have hf1 := hr.frozen 1
  go_enter Tryd.func70, Tryd.ntmps70
  go_wp2_with fail
  go_end0
  exact ⟨rfl, (hr.set0 []).set1 true, grown_trans (grown_set _ _ _ _) (grown_set _ _ _ _)⟩

set_option maxHeartbeats 400000 in
theorem end_any (g : Nat) (bs : List UInt8) (bad : Bool) (w : World) (hr : Rd w g bs bad) :
    Calls Tryd.prog 44 #[.pointer (some ⟨g, 0, none⟩)] w fun e w' => e = .returned (.bool (!bad && bs.isEmpty)) ∧ w = w' := by
  have hc0 := hr.cell0
  cases bad
  · go_enter Tryd.func44, Tryd.ntmps44
    go_wp2_with (go_at_call 60; refine (good_any g bs _ _ hr).mono ?_; rintro e w1 ⟨rfl, rfl⟩)
    go_ret
    exact ⟨by simp, rfl⟩
  · go_enter Tryd.func44, Tryd.ntmps44
    go_wp2_with (go_at_call 60; refine (good_any g bs _ _ hr).mono ?_; rintro e w1 ⟨rfl, rfl⟩)
    go_ret
    exact ⟨rfl, rfl⟩

set_option maxHeartbeats 400000 in
theorem end_nil (w : World) :
    Calls Tryd.prog 44 #[.pointer none] w fun e w' => e = .returned (.bool false) ∧ w = w' := by
  go_enter Tryd.func44, Tryd.ntmps44
  go_wp2_with (go_at_call 60; refine (good_nil _).mono ?_; rintro e w1 ⟨rfl, rfl⟩)
  go_ret
  exact ⟨rfl, rfl⟩

end Go.Proofs.YthbahbcihaebeaaDoor.Cd

/-
  code.Reader: Uint, Int, In, Take, Text. Conditions: none.
-/
namespace Go.Proofs.YthbahbcihaebeaaDoor.Cd
open Go.RowKit

theorem number_list (bs : List UInt8) (w : World) (hs : bs.length ≤ 140737488355328) : Calls Tryd.prog 77 #[.string ⟨bs.toArray⟩] w (NumIs bs w) :=
  number_any ⟨bs.toArray⟩ w hs

theorem extract_tail (bs : List UInt8) (k n : Nat) (hn : n = bs.length) : (ByteArray.mk bs.toArray).extract k n = ⟨(bs.drop k).toArray⟩ := by
  subst hn
  apply ByteArray.ext
  simp [ByteArray.data_extract, List.take_of_length_le]

theorem extract_head (bs : List UInt8) (k : Nat) : (ByteArray.mk bs.toArray).extract 0 k = ⟨(bs.take k).toArray⟩ := by
  apply ByteArray.ext
  simp [ByteArray.data_extract, List.extract_eq_take_drop]

theorem Rd.set0' {w : World} {g : Nat} {bs : List UInt8} {bad : Bool} (h : Rd w g bs bad) {v : Value} (cs : List UInt8) (hv : v = .string ⟨cs.toArray⟩) : Rd (w.setCell ⟨g, 0, none⟩ v) g cs bad := by
  subst hv
  exact h.set0 cs

/-- What a reader's method leaves: its answer, and the reader. -/
def Ans (v : Value) (w : World) (g : Nat) (bs : List UInt8) (bad : Bool) (e : Ending) (w' : World) : Prop := e = .returned v ∧ Left w g bs bad w'

set_option maxRecDepth 100000 in
set_option maxHeartbeats 400000 in
theorem ruint_any (g : Nat) (bs : List UInt8) (bad : Bool) (w : World) (hr : Rd w g bs bad) (hbb : Sane bad bs) (hs : bs.length ≤ 140737488355328) :
    Calls Tryd.prog 71 #[.pointer (some ⟨g, 0, none⟩)] w (Ans (.int .u64 (nv bs : Nat)) w g (uB bs) (uX bs)) := by
  have HS := Lib.hid hbb
  have HR := Lib.hid hr
  have hc0 := hr.cell0
  have hf0 := hr.frozen 0
  clear hbb hr
  cases bad
  · by_cases hbad : Bad bs
    · have hx : Hid (uB bs = [] ∧ uX bs = true ∧ nv bs = 0) := ⟨if_pos hbad, decide_eq_true hbad, nv_bad hbad⟩
      have hn : ((ns bs : Int) == 0) = true := by rw [ns_bad hbad]; rfl
      clear hbad
      go_enter Tryd.func71, Tryd.ntmps71
      go_wp2_with (first | (go_at_call 60; refine (good_any g bs _ _ HR.out).mono ?_; rintro e w1 ⟨rfl, rfl⟩) | (go_at_call 77; refine (number_list bs _ hs).mono ?_; rintro e w1 ⟨rfl, rfl⟩) | (go_at_call 70; refine (fail_any g bs _ _ HR.out).mono ?_; rintro e w1 ⟨rfl, hl⟩))
      go_ret
      obtain ⟨h1, h2, h3⟩ := hx.out
      rw [h1, h2, h3]
      exact ⟨rfl, hl⟩
    · have hx : Hid (uB bs = bs.drop (ns bs) ∧ uX bs = false) := ⟨if_neg hbad, decide_eq_false hbad⟩
      have hn : ((ns bs : Int) == 0) = false := by have := fun h => hbad (ns_zero.1 h); simp; omega
      have hle := ns_le bs
      have hsz : (ByteArray.mk bs.toArray).size = bs.length := rfl
      clear hbad
      go_enter Tryd.func71, Tryd.ntmps71
      go_wp2_with (first | (go_at_call 60; refine (good_any g bs _ _ HR.out).mono ?_; rintro e w1 ⟨rfl, rfl⟩) | (go_at_call 77; refine (number_list bs _ hs).mono ?_; rintro e w1 ⟨rfl, rfl⟩))
      go_ret
      obtain ⟨h1, h2⟩ := hx.out
      rw [h1, h2]
      refine ⟨rfl, HR.out.set0' _ ?_, grown_set _ _ _ _⟩
      rw [extract_tail _ _ _ rfl]
  · have hx : Hid (bs = []) := HS.out rfl
    go_enter Tryd.func71, Tryd.ntmps71
    go_wp2_with (first | (go_at_call 60; refine (good_any g bs _ _ HR.out).mono ?_; rintro e w1 ⟨rfl, rfl⟩))
    go_ret
    have h0 := hx.out
    have hr := HR.out
    subst h0
    exact ⟨rfl, hr, grown_refl _ _⟩

theorem left_trans {w w1 w2 : World} {g : Nat} {a b : List UInt8} {x y : Bool} (h : Left w g a x w1) (k : Left w1 g b y w2) : Left w g b y w2 := ⟨k.1, grown_trans h.2 k.2⟩

theorem uX_eq (bs : List UInt8) : (uX bs = true) ↔ Bad bs := decide_eq_true_iff

set_option maxHeartbeats 400000 in
theorem rtake_any (g : Nat) (n : Int) (bs : List UInt8) (bad : Bool) (w : World) (hr : Rd w g bs bad) (hbb : Sane bad bs) (hs : bs.length ≤ 140737488355328) :
    Calls Tryd.prog 58 #[.pointer (some ⟨g, 0, none⟩), .int .i64 n] w (Ans (.string ⟨(tkV bad n bs).toArray⟩) w g (tkB bad n bs) (tkX bad n bs)) := by
  have HS := Lib.hid hbb
  have HR := Lib.hid hr
  have hc0 := hr.cell0
  have hf0 := hr.frozen 0
  have hsz : (ByteArray.mk bs.toArray).size = bs.length := rfl
  clear hbb hr
  cases bad
  · by_cases hbad : TkBad false n bs
    · have hx : Hid (tkB false n bs = [] ∧ tkX false n bs = true ∧ tkV false n bs = []) := ⟨if_pos hbad, decide_eq_true hbad, if_pos hbad⟩
      have ho : n < 0 ∨ (bs.length : Int) < n := by
        rcases hbad with h | h
        · cases h
        · exact h
      clear hbad
      rcases (by omega : n < 0 ∨ (¬ n < 0 ∧ (bs.length : Int) < n)) with h0 | ⟨h0, h1⟩
      all_goals
        clear ho
        go_enter Tryd.func58, Tryd.ntmps58
        go_wp2_with (first | (go_at_call 60; refine (good_any g bs _ _ HR.out).mono ?_; rintro e w1 ⟨rfl, rfl⟩) | (go_at_call 70; refine (fail_any g bs _ _ HR.out).mono ?_; rintro e w1 ⟨rfl, hl⟩))
        go_ret
        obtain ⟨h1, h2, h3⟩ := hx.out
        rw [h1, h2, h3]
        exact ⟨rfl, hl⟩
    · have hx : Hid (tkB false n bs = bs.drop n.toNat ∧ tkX false n bs = false ∧ tkV false n bs = bs.take n.toNat) := ⟨if_neg hbad, decide_eq_false hbad, if_neg hbad⟩
      have h0 : ¬ n < 0 := fun h => hbad (.inr (.inl h))
      have h1 : ¬ (bs.length : Int) < n := fun h => hbad (.inr (.inr h))
      clear hbad
      obtain ⟨k, rfl⟩ := Int.eq_ofNat_of_zero_le (by omega : 0 ≤ n)
      have h2 : k ≤ bs.length := by omega
      go_enter Tryd.func58, Tryd.ntmps58
      go_wp2_with (first | (go_at_call 60; refine (good_any g bs _ _ HR.out).mono ?_; rintro e w1 ⟨rfl, rfl⟩))
      go_ret
      obtain ⟨h1, h2, h3⟩ := hx.out
      rw [h1, h2, h3, Int.toNat_natCast]
      refine ⟨?_, HR.out.set0' _ ?_, grown_set _ _ _ _⟩
      · rw [← extract_head]; rfl
      · rw [extract_tail _ _ _ rfl]
  · have hx : Hid (bs = []) := HS.out rfl
    go_enter Tryd.func58, Tryd.ntmps58
    go_wp2_with (first | (go_at_call 60; refine (good_any g bs _ _ HR.out).mono ?_; rintro e w1 ⟨rfl, rfl⟩))
    go_ret
    have h0 := hx.out
    have hr := HR.out
    subst h0
    have hb : TkBad true n [] := .inl rfl
    refine ⟨by unfold tkV; rw [if_pos hb]; rfl, ?_, grown_refl _ _⟩
    unfold tkB tkX
    rw [if_pos hb, decide_eq_true hb]
    exact hr

theorem tk_nil_bad (n : Int) : tkV true n [] = [] ∧ tkB true n [] = [] ∧ tkX true n [] = true := by
  have hb : TkBad true n [] := .inl rfl
  exact ⟨if_pos hb, if_pos hb, decide_eq_true hb⟩

set_option maxRecDepth 100000 in
set_option maxHeartbeats 400000 in
theorem rtext_any (g : Nat) (most : Int) (bs : List UInt8) (bad : Bool) (w : World) (hr : Rd w g bs bad) (hbb : Sane bad bs) (hs : bs.length ≤ 140737488355328) (hm : most ≤ 9223372036854775807) :
    Calls Tryd.prog 59 #[.pointer (some ⟨g, 0, none⟩), .int .i64 most] w (Ans (.string ⟨(txV most bs).toArray⟩) w g (txB most bs) (txX most bs)) := by
  have hu := Lib.hid (ruint_any g bs bad w hr hbb hs)
  clear hr hbb
  have hlen := uB_len bs
  have hsane := Lib.hid (Sane.u bs)
  have hn := nv_u64 bs
  by_cases hb : Bad bs
  · have ht : TxBad most bs := .inl hb
    have hx : Hid (txB most bs = [] ∧ txX most bs = true ∧ txV most bs = []) := ⟨if_pos ht, decide_eq_true ht, if_pos ht⟩
    have hx0 : Hid (uB bs = []) := if_pos hb
    have hx2 : uX bs = true := (uX_eq bs).2 hb
    have hn0 := nv_bad hb
    clear hb ht
    rw [hx2] at hu hsane
    rw [hn0] at hu
    clear hn0
    go_enter Tryd.func59, Tryd.ntmps59
    go_wp2_with (first | (go_at_call 71; refine hu.out.mono ?_; rintro e w1 ⟨rfl, hl⟩) | (go_at_call 60; refine (good_any g _ _ _ hl.1).mono ?_; rintro e w2 ⟨rfl, rfl⟩) | (go_at_call 58; refine (rtake_any g _ _ _ _ hl.1 hsane.out (by omega)).mono ?_; rintro e w2 ⟨rfl, hl2⟩))
    go_ret
    obtain ⟨h1, h2, h3⟩ := hx.out
    rw [h1, h2, h3]
    rw [hx0.out] at hl2
    obtain ⟨k1, k2, k3⟩ := tk_nil_bad 0
    refine ⟨?_, ?_⟩
    · show Ending.returned (.string ⟨(tkV true 0 (uB bs)).toArray⟩) = _
      rw [hx0.out, k1]
    · have := left_trans hl hl2
      rw [k2, k3] at this
      exact this
  · have hx2 : uX bs = false := decide_eq_false hb
    have hx0 : Hid (uB bs = bs.drop (ns bs)) := if_neg hb
    rw [hx2] at hu hsane
    by_cases ho : most < 0 ∨ most < (nv bs : Nat)
    · have ht : TxBad most bs := .inr (by rcases ho with h | h; exact .inl h; exact .inr (.inl h))
      have hx : Hid (txB most bs = [] ∧ txX most bs = true ∧ txV most bs = []) := ⟨if_pos ht, decide_eq_true ht, if_pos ht⟩
      clear hb ht
      generalize nv bs = n at hu ho hn
      rcases (by omega : most < 0 ∨ (¬ most < 0 ∧ most < (n : Int))) with h0 | ⟨h0, h1⟩
      all_goals
        clear ho
        go_enter Tryd.func59, Tryd.ntmps59
        go_wp2_with (first | (go_at_call 71; refine hu.out.mono ?_; rintro e w1 ⟨rfl, hl⟩) | (go_at_call 60; refine (good_any g _ _ _ hl.1).mono ?_; rintro e w2 ⟨rfl, rfl⟩) | (go_at_call 70; refine (fail_any g _ _ _ hl.1).mono ?_; rintro e w2 ⟨rfl, hl2⟩))
        go_ret
        obtain ⟨h1, h2, h3⟩ := hx.out
        rw [h1, h2, h3]
        exact ⟨rfl, left_trans hl hl2⟩
    · have h0 : ¬ most < 0 := fun h => ho (.inl h)
      have h1 : ¬ most < (nv bs : Nat) := fun h => ho (.inr h)
      have hx : Hid (txB most bs = tkB false (nv bs : Nat) (uB bs) ∧ txX most bs = tkX false (nv bs : Nat) (uB bs) ∧ txV most bs = tkV false (nv bs : Nat) (uB bs)) := by
        have e := hx0.out
        have hiff : TxBad most bs ↔ TkBad false (nv bs : Nat) (uB bs) := by
          unfold TxBad TkBad
          rw [e]
          simp only [Bool.false_eq_true, false_or]
          constructor
          · rintro (h | h | h | h)
            · exact absurd h hb
            · exact absurd h h0
            · exact absurd h h1
            · exact .inr (by omega)
          · rintro (h | h)
            · omega
            · exact .inr (.inr (.inr (by omega)))
        unfold Hid txB txX txV tkB tkX tkV
        by_cases hk : TkBad false (nv bs : Nat) (uB bs)
        · rw [if_pos hk, if_pos hk, if_pos (hiff.2 hk), if_pos (hiff.2 hk), decide_eq_true hk, decide_eq_true (hiff.2 hk)]
          exact ⟨rfl, rfl, rfl⟩
        · have hk2 := fun h => hk (hiff.1 h)
          rw [if_neg hk, if_neg hk, if_neg hk2, if_neg hk2, decide_eq_false hk, decide_eq_false hk2, e, Int.toNat_natCast]
          exact ⟨rfl, rfl, rfl⟩
      clear hb ho hx0
      generalize nv bs = n at hu h1 hn hx
      go_enter Tryd.func59, Tryd.ntmps59
      go_wp2_with (first | (go_at_call 71; refine hu.out.mono ?_; rintro e w1 ⟨rfl, hl⟩) | (go_at_call 60; refine (good_any g _ _ _ hl.1).mono ?_; rintro e w2 ⟨rfl, rfl⟩) | (go_at_call 58; refine (rtake_any g _ _ _ _ hl.1 hsane.out (by omega)).mono ?_; rintro e w2 ⟨rfl, hl2⟩))
      go_ret
      obtain ⟨h1, h2, h3⟩ := hx.out
      rw [h1, h2, h3]
      exact ⟨rfl, left_trans hl hl2⟩

/-! ### A nil reader -/

/-- A nil reader's answer: nothing turns. -/
def Still (v : Value) (w : World) (e : Ending) (w' : World) : Prop := e = .returned v ∧ w = w'

set_option maxHeartbeats 400000 in
theorem ruint_nil (w : World) : Calls Tryd.prog 71 #[.pointer none] w (Still (.int .u64 0) w) := by
  go_enter Tryd.func71, Tryd.ntmps71
  go_wp2_with (first | (go_at_call 60; refine (good_nil _).mono ?_; rintro e w1 ⟨rfl, rfl⟩))
  go_ret
  exact ⟨rfl, rfl⟩

set_option maxHeartbeats 400000 in
theorem rtake_nil (n : Int) (w : World) : Calls Tryd.prog 58 #[.pointer none, .int .i64 n] w (Still (.string ⟨#[]⟩) w) := by
  go_enter Tryd.func58, Tryd.ntmps58
  go_wp2_with (first | (go_at_call 60; refine (good_nil _).mono ?_; rintro e w1 ⟨rfl, rfl⟩))
  go_ret
  exact ⟨rfl, rfl⟩

set_option maxHeartbeats 400000 in
theorem rtext_nil (most : Int) (w : World) : Calls Tryd.prog 59 #[.pointer none, .int .i64 most] w (Still (.string ⟨#[]⟩) w) := by
  go_enter Tryd.func59, Tryd.ntmps59
  go_wp2_with (first | (go_at_call 71; refine (ruint_nil _).mono ?_; rintro e w1 ⟨rfl, rfl⟩) | (go_at_call 60; refine (good_nil _).mono ?_; rintro e w1 ⟨rfl, rfl⟩) | (go_at_call 58; refine (rtake_nil _ _).mono ?_; rintro e w1 ⟨rfl, rfl⟩))
  go_ret
  exact ⟨rfl, rfl⟩

end Go.Proofs.YthbahbcihaebeaaDoor.Cd

/-
  code.Int, code.Text, and the reference's Uint, Int, Text. Conditions: none.
-/
namespace Go.Proofs.YthbahbcihaebeaaDoor.Cd
open Go.RowKit

theorem uint_int (v : Value) (bs : List UInt8) (x : Int) (w : World) (hs : Sl w w.heap.size v bs) (h0 : 0 ≤ x) (hk : x < 18446744073709551616) (hb : bs.length + 10 ≤ 140737488355328) :
    Calls Tryd.prog 73 #[v, .int .u64 x] w (Wrote w (bs ++ enc x.toNat)) := by
  have := uint_any v bs x.toNat w hs (by omega) hb
  rwa [Int.toNat_of_nonneg h0] at this

set_option maxHeartbeats 400000 in
theorem text_any (v : Value) (bs : List UInt8) (s : ByteArray) (w : World) (hs : Sl w w.heap.size v bs) (hb : bs.length + 10 + s.size ≤ 140737488355328) :
    Calls Tryd.prog 63 #[v, .string s] w (Wrote w (bs ++ (enc s.size ++ s.data.toList))) := by
  have hl := enc_u64 s.size (by omega)
  go_enter Tryd.func63, Tryd.ntmps63
  go_wp2_with fail
  refine (uint_int v bs _ w hs (by omega) (by omega) (by omega)).mono ?_
  rintro e w' ⟨v', rfl, hown, hbel⟩
  have hsz := hbel.size
  go_wp2_with (at_builtin; refine wp_append_text rfl _ _ rfl w.heap.size _ (bs ++ enc s.size) rfl ?ho ?hB s rfl ?hm ?hK)
  case ho => rw [Int.toNat_natCast] at hown; exact hown
  case hB => omega
  case hm => simp; omega
  case hK =>
    intro v2 w2 hown2 hbel2
    go_wp2_with fail
    go_ret
    exact ⟨v2, rfl, by simpa using hown2, hbel.trans hbel2⟩

end Go.Proofs.YthbahbcihaebeaaDoor.Cd
