/-
  frame.first, frame.One: the record that bytes begin with. Conditions: none.
-/
import Derived.Test.YtcliknmcefcaeaaPut
import Derived.Test.YtcliknmcefcaeaaReads
import Derived.Test.YtcliknmcefcaeaaSize
namespace Go.Proofs.Ytcliknmcefcaeaa.Cd
open Go.RowKit

/-- What first leaves. -/
def FirstIs (w : World) (g : Nat) (bs : List UInt8) (e : Ending) (w' : World) : Prop :=
  ((∃ x, frm x <+: bs ∧ e = .returned (.tuple #[.string ⟨x.toArray⟩, .int .i64 ((frm x).length : Nat)]) ∧ Rd w' g (bs.drop (frm x).length) false) ∨
    (¬ HasRec bs ∧ e = .returned (.tuple #[.string ⟨#[]⟩, .int .i64 0]))) ∧ w.grownBy w' (some g)

theorem grown_below {a b c : World} {g : Nat} (h : a.grownBy b (some g)) (k : Below b.heap.size b c) : a.grownBy c (some g) :=
  ⟨k.os.trans h.os, k.tape.trans h.tape, k.output.trans h.output, Nat.le_trans h.size k.size, fun i hi hn => (k.block i (Nat.lt_of_lt_of_le hi h.size)).trans (h.block i hi hn)⟩

/-- A slice's beginning. -/
theorem sl_take {w : World} {B : Nat} {A : Option Addr} {L cap : Nat} {bs : List UInt8} (h : Sl w B (.slice A L cap) bs) (k : Nat) (hk : k ≤ bs.length) :
    Sl w B (.slice A k cap) (bs.take k) := by
  obtain ⟨A', c, e, h2, h3, h4, h5, h6⟩ := h
  injection e with e1 e2 e3
  subst e1 e2 e3
  have hl : (bs.take k).length = k := by rw [List.length_take]; omega
  refine ⟨A, cap, by rw [hl], by rw [hl]; omega, h3, h4, (fun ad e h0 => h5 ad e (by omega)), fun ad e j u hu => ?_⟩
  have hj := (List.getElem?_eq_some_iff.1 hu).1
  rw [vb_length, hl] at hj
  refine h6 ad e j u ?_
  rw [← hu]
  simp only [vb, List.map_take]
  rw [List.getElem?_take, if_pos hj]

theorem ret_pair {a : Value} {k : IntKind} {x y : Int} (h : x = y) : Ending.returned (.tuple #[a, .int k x]) = .returned (.tuple #[a, .int k y]) := by rw [h]

set_option maxRecDepth 100000 in
set_option maxHeartbeats 1600000 in
theorem first_any (g : Nat) (v : Value) (bs : List UInt8) (w : World) (hr : Rd w g bs false) (h : Sl w w.heap.size v bs) (hg : g < w.heap.size) (hs : ∀ W : World, w.grownBy W (some g) → Sl W W.heap.size v bs) (hb : bs.length ≤ 140737488355328) :
    Calls Try.prog 76 #[.pointer (some ⟨g, 0, none⟩), v] w (FirstIs w g bs) := by
  obtain ⟨A, c, rfl, h2, h3⟩ := h.len
  have h3 : c ≤ 9223372036854775807 := h3
  have htx := Lib.hid (rtext_any g bs.length bs false w hr (Sane.start _) hb (by omega))
  have HS := Lib.hid hs
  have HTL := Lib.hid (txV_len (bs.length : Int) bs)
  have HBL := Lib.hid (txB_len (bs.length : Int) bs)
  clear hr hs h
  have h64 : bs.length < 18446744073709551616 := by omega
  cases hX : txX bs.length bs
  · by_cases h4 : (txB (bs.length : Int) bs).length < 4
    · have hno : Hid (¬ HasRec bs) := no_rec h64 (.inr (.inl h4))
      generalize hR : txB (bs.length : Int) bs = R at *
      generalize txV (bs.length : Int) bs = T at *
      rw [hX] at htx
      have htk : Hid (tkX false 4 R = true) := decide_eq_true (.inr (.inr (by omega)))
      clear hR hX h4
      go_enter Try.func76, Try.ntmps76
      go_wp2_with (first | (go_at_call 78; refine htx.out.mono ?_; rintro e w1 ⟨rfl, hl1⟩) | (go_at_call 96; refine (rtake_any g 4 R false w1 hl1.1 (Sane.start _) (by have := HBL.out; omega)).mono ?_; rintro e w2 ⟨rfl, hl2⟩; rw [htk.out] at hl2) | (go_at_call 79; refine (good_any g _ _ _ hl2.1).mono ?_; rintro e w3 ⟨rfl, rfl⟩))
      go_ret2
      exact ⟨.inr ⟨hno.out, rfl⟩, (left_trans hl1 hl2).2⟩
    · have h4' : 4 ≤ (txB (bs.length : Int) bs).length := by omega
      have h1 := one_tx hX
      have hrec := Lib.hid (fun hk => rec_of hX hk)
      have hno := Lib.hid (fun hk => no_rec h64 (.inr (.inr hk)))
      generalize hR : txB (bs.length : Int) bs = R at *
      generalize hT : txV (bs.length : Int) bs = T at *
      rw [hX] at htx
      have htk : Hid (tkX false 4 R = false ∧ tkV false 4 R = R.take 4 ∧ tkB false 4 R = R.drop 4) := by
        have hn : ¬ TkBad false 4 R := by
          rintro (h | h | h)
          · cases h
          · omega
          · omega
        exact ⟨decide_eq_false hn, if_neg hn, if_neg hn⟩
      obtain ⟨n, hn⟩ : ∃ n, (enc T.length).length = n := ⟨_, rfl⟩
      have hsz : n + T.length + R.length = bs.length := by
        have := congrArg List.length h1
        rw [List.length_append, List.length_append] at this
        omega
      have htake : Hid (bs.take (n + T.length) = enc T.length ++ T) := by
        unfold Hid
        rw [← h1, List.take_append_of_le_length (by rw [List.length_append]; omega), List.take_of_length_le (by rw [List.length_append]; omega)]
      have hdrop : Hid (bs.drop (n + T.length + 4) = R.drop 4) := by
        unfold Hid
        have e : (enc T.length ++ T).length = n + T.length := by rw [List.length_append, hn]
        rw [← h1, ← e, List.drop_append]
        simp
      have hfl : Hid ((frm T).length = n + T.length + 4) := by unfold Hid; rw [frm_len, hn]
      have hszT := size_any T.length (by omega)
      rw [hn] at hszT
      have HN := Lib.hid hn
      have HSZ := Lib.hid hszT
      clear hR hT hX h4 h1 hn hszT
      by_cases hk : R.take 4 = le4 (crc (enc T.length ++ T))
      · have hpre := Lib.hid (hrec.out hk)
        have HK := Lib.hid hk
        clear hrec hno hk
        go_enter Try.func76, Try.ntmps76
        go_wp2_with (first | (go_at_call 78; refine htx.out.mono ?_; rintro e w1 ⟨rfl, hl1⟩) | (go_at_call 96; refine (rtake_any g 4 R false w1 hl1.1 (Sane.start _) (by have := HBL.out; omega)).mono ?_; rintro e w2 ⟨rfl, hl2⟩; rw [htk.out.1, htk.out.2.2] at hl2; rw [htk.out.2.1]) | (go_at_call 79; refine (good_any g _ _ _ hl2.1).mono ?_; rintro e w3 ⟨rfl, rfl⟩) | (go_at_call 97; refine (HSZ.out _).mono ?_; rintro e w4 ⟨rfl, rfl⟩))
        have hl3 := left_trans hl1 hl2
        refine (tail_any _ (enc T.length ++ T) w2 (by have := sl_take (HS.out w2 hl3.2) (n + T.length) (by omega); rw [htake.out] at this; exact this)).mono ?_
        rintro e w3 ⟨v3, rfl, ho3, hb3⟩
        have hcv := run_text_of w3 _ v3 _ ho3.sl
        generalize le4 (crc (enc T.length ++ T)) = P at *
        rw [HK.out]
        have hq : (P == P) = true := by simp
        go_wp2_with fail
        go_ret2
        exact ⟨.inl ⟨T, hpre.out, (by rw [hfl.out]; exact ret_pair rfl), by rw [hfl.out, hdrop.out]; exact hl3.1.below hb3 (by have := hl3.2.size; omega)⟩, grown_below hl3.2 hb3⟩
      · have hno2 := Lib.hid (hno.out hk)
        clear hrec hno
        go_enter Try.func76, Try.ntmps76
        go_wp2_with (first | (go_at_call 78; refine htx.out.mono ?_; rintro e w1 ⟨rfl, hl1⟩) | (go_at_call 96; refine (rtake_any g 4 R false w1 hl1.1 (Sane.start _) (by have := HBL.out; omega)).mono ?_; rintro e w2 ⟨rfl, hl2⟩; rw [htk.out.1, htk.out.2.2] at hl2; rw [htk.out.2.1]) | (go_at_call 79; refine (good_any g _ _ _ hl2.1).mono ?_; rintro e w3 ⟨rfl, rfl⟩) | (go_at_call 97; refine (HSZ.out _).mono ?_; rintro e w4 ⟨rfl, rfl⟩))
        have hl3 := left_trans hl1 hl2
        refine (tail_any _ (enc T.length ++ T) w2 (by have := sl_take (HS.out w2 hl3.2) (n + T.length) (by omega); rw [htake.out] at this; exact this)).mono ?_
        rintro e w3 ⟨v3, rfl, ho3, hb3⟩
        have hcv := run_text_of w3 _ v3 _ ho3.sl
        generalize le4 (crc (enc T.length ++ T)) = P at *
        generalize R.take 4 = Q at *
        have hq : (Q == P) = false := by simpa using hk
        clear hk
        go_wp2_with fail
        go_ret2
        exact ⟨.inr ⟨hno2.out, rfl⟩, grown_below hl3.2 hb3⟩
  · have hno : Hid (¬ HasRec bs) := no_rec h64 (.inl hX)
    have hR : txB (bs.length : Int) bs = [] := by unfold txB; rw [if_pos (of_decide_eq_true hX)]
    rw [hX, hR] at htx
    generalize txV (bs.length : Int) bs = T at *
    obtain ⟨k1, k2, k3⟩ := tk_nil_bad 4
    have K3 := Lib.hid k3
    clear hR hX k1 k2 k3 HBL
    go_enter Try.func76, Try.ntmps76
    go_wp2_with (first | (go_at_call 78; refine htx.out.mono ?_; rintro e w1 ⟨rfl, hl1⟩) | (go_at_call 96; refine (rtake_any g 4 [] true w1 hl1.1 (fun _ => rfl) (by simp)).mono ?_; rintro e w2 ⟨rfl, hl2⟩; rw [K3.out] at hl2) | (go_at_call 79; refine (good_any g _ _ _ hl2.1).mono ?_; rintro e w3 ⟨rfl, rfl⟩))
    go_ret2
    exact ⟨.inr ⟨hno.out, rfl⟩, (left_trans hl1 hl2).2⟩

theorem first_at (v : Value) (bs : List UInt8) (w : World) (g : Nat) (hr : Rd w g bs false) (h : Sl w g v bs) (hb : bs.length ≤ 140737488355328) :
    Calls Try.prog 76 #[.pointer (some ⟨g, 0, none⟩), v] w (FirstIs w g bs) := by
  have hg := hr.lt
  refine first_any g v bs w hr (h.more (by omega)) hg (fun W hW => ?_) hb
  have hk : ∀ p : Addr, p.block < g → W.cell? p = w.cell? p := fun p hp => World.cell?_of_block (hW.block p.block (by omega) (fun e => by injection e with e; omega))
  exact (h.keep hk).more (by have := hW.size; omega)

/-- What One answers. -/
def OneIs (w : World) (bs : List UInt8) (e : Ending) (w' : World) : Prop :=
  ((∃ x, frm x = bs ∧ e = .returned (.tuple #[.string ⟨x.toArray⟩, .bool true])) ∨ ((¬ ∃ x, frm x = bs) ∧ e = .returned (.tuple #[.string ⟨#[]⟩, .bool false]))) ∧ Below w.heap.size w w'

theorem below_grown {w0 w w' : World} {g B : Nat} (h : Below B w0 w) (hg : w.grownBy w' (some g)) (hB : B ≤ w.heap.size) (hr : B ≤ g) : Below B w0 w' :=
  h.grown hg hB (fun k hk => by injection hk with hk; omega)


end Go.Proofs.Ytcliknmcefcaeaa.Cd
