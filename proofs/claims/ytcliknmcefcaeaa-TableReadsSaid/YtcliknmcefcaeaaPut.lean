/-
  frame.Put, and the document's record. Conditions: none.
-/
import Derived.Test.YtcliknmcefcaeaaTail
namespace Go.Proofs.Ytcliknmcefcaeaa.Cd
open Go.RowKit

theorem text_of (v : Value) (bs s : List UInt8) (w : World) (hs : Sl w w.heap.size v bs) (hb : bs.length + 10 + s.length ≤ 140737488355328) :
    Calls Try.prog 70 #[v, .string ⟨s.toArray⟩] w (Wrote w (bs ++ (enc s.length ++ s))) := text_any v bs ⟨s.toArray⟩ w hs hb
theorem ref_text_of (s : List UInt8) (w : World) (hb : s.length ≤ 140737488355328) :
    Calls Try.prog 41 #[.string ⟨s.toArray⟩] w (Said w (enc s.length ++ s)) := ref_text_any ⟨s.toArray⟩ w hb

theorem le4_text (W : World) (n : Nat) (hn : n < 4294967296) :
    (convert 34 9 (.slice (some ⟨W.heap.size, 0, none⟩) 4 4)).run Try.prog (W.alloc (.cells #[.int .u8 ((n : Int) % 256), .int .u8 ((n : Int) / 256 % 256), .int .u8 ((n : Int) / 65536 % 256), .int .u8 ((n : Int) / 16777216)] 5))
      = .ok (.string ⟨(le4 n).toArray⟩) (W.alloc (.cells #[.int .u8 ((n : Int) % 256), .int .u8 ((n : Int) / 256 % 256), .int .u8 ((n : Int) / 65536 % 256), .int .u8 ((n : Int) / 16777216)] 5)) := by
  refine run_text_of _ (W.heap.size + 1) _ (le4 n) (sl_new W (le4 n) _ ?_ (by simp [maxLen, le4_len]) 4 rfl)
  simp only [le4, vb, List.map_cons, List.map_nil, b8_nat]
  rw [Nat.mod_eq_of_lt (by omega : n / 16777216 < 256)]
  simp

set_option maxRecDepth 100000 in
set_option maxHeartbeats 800000 in
theorem rframe_any (s : List UInt8) (w : World) (hb : s.length + 10 ≤ 140737488355328) :
    Calls Try.prog 42 #[.string ⟨s.toArray⟩] w (Said w (frm s)) := by
  have hl := enc_u64 s.length (by omega)
  obtain ⟨t, ht⟩ : ∃ t, enc s.length ++ s = t := ⟨_, rfl⟩
  have htl : t.length ≤ 140737488355328 := by rw [← ht, List.length_append]; omega
  have HF : Hid (frm s = t ++ le4 (crc t)) := by unfold Hid frm; rw [ht]
  have hadd := fun W => add_text W t (le4 (crc t)) (by rw [le4_len]; omega)
  have hcl := crc_lt t
  have hcv := fun W => le4_text W (crc t) hcl
  have HT := Lib.hid ht
  clear ht hl
  go_enter Try.func42, Try.ntmps42
  go_wp2_with fail
  refine (ref_text_of s w (by omega)).mono ?_
  rintro e w1 ⟨rfl, hb1⟩
  rw [HT.out]
  go_wp2_with fail
  refine (rsum_any t w1 htl).mono ?_
  rintro e w2 ⟨rfl, rfl⟩
  generalize crc t = n at *
  go_wp2_with fail
  go_ret
  exact ⟨by rw [HF.out]; rfl, hb1.alloc hb1.size _⟩

/-- A slice's rest. -/
theorem sl_drop {w : World} {B : Nat} {g off L cap : Nat} {bs : List UInt8} (h : Sl w B (.slice (some ⟨g, off, none⟩) L cap) bs) (k : Nat) (hk : k ≤ bs.length) (a : Nat) (ha : 0 < bs.length - k → a = off + k) (hB : g < B) :
    Sl w B (.slice (some ⟨g, a, none⟩) (L - k) (cap - k)) (bs.drop k) := by
  obtain ⟨A, c, e, h2, h3, h4, h5, h6⟩ := h
  injection e with e1 e2 e3
  subst e1 e2 e3
  refine ⟨some ⟨g, a, none⟩, cap - k, by rw [List.length_drop], by rw [List.length_drop]; omega, by omega, (fun hn => by cases hn), fun ad e h0 => ?_, fun ad e j u hu => ?_⟩
  · injection e with e
    subst e
    exact hB
  · have hj := (List.getElem?_eq_some_iff.1 hu).1
    rw [vb_length, List.length_drop] at hj
    have hu2 : (vb bs)[k + j]? = some u := by
      rw [← hu]
      simp only [vb, List.map_drop, List.getElem?_drop]
    have h7 := h6 _ rfl (k + j) u hu2
    injection e with e
    subst e
    rw [Addr.add_lit] at h7 ⊢
    rw [ha (by omega), Nat.add_assoc]
    exact h7

set_option maxRecDepth 100000 in
set_option maxHeartbeats 800000 in
theorem put_any (v : Value) (bs s : List UInt8) (w : World) (hs : Sl w w.heap.size v bs) (hb : bs.length + s.length + 14 ≤ 140737488355328) :
    Calls Try.prog 38 #[v, .string ⟨s.toArray⟩] w (Wrote w (bs ++ frm s)) := by
  have hl := enc_u64 s.length (by omega)
  have hp := enc_pos s.length
  obtain ⟨c, hc⟩ : ∃ c, bs ++ (enc s.length ++ s) = c := ⟨_, rfl⟩
  have hcl : bs.length + 1 ≤ c.length ∧ c.length ≤ bs.length + 10 + s.length := by rw [← hc, List.length_append, List.length_append]; omega
  have hcd : Hid (c.drop bs.length = enc s.length ++ s) := by unfold Hid; rw [← hc, List.drop_left]
  have HC := Lib.hid hc
  clear hc hl hp
  have HS := Lib.hid hs
  obtain ⟨A, k, rfl, h2, h3⟩ := hs.len
  have h3 : k ≤ 9223372036854775807 := h3
  clear hs
  go_enter Try.func38, Try.ntmps38
  go_wp2_with fail
  refine (text_of _ bs s w HS.out (by omega)).mono ?_
  rintro e w1 ⟨v1, rfl, ho1, hb1⟩
  rw [HC.out] at ho1
  obtain ⟨g, cap, cur, rfl, hg1, hg2, hg3, hg4, hg5, hg6⟩ := own_block ho1 (by omega)
  have hg5 : cap ≤ 9223372036854775807 := hg5
  have HO := Lib.hid ho1
  clear ho1 hg6 hg3
  go_wp2_with fail
  refine (tail_any _ (enc s.length ++ s) w1 (by have := sl_drop HO.out.sl bs.length (by omega) bs.length (fun _ => by omega) hg2; rw [hcd.out] at this; exact this)).mono ?_
  rintro e w2 ⟨v2, rfl, ho2, hb2⟩
  have hs1 := hb1.size
  have hs2 := hb2.size
  go_wp2_with (at_builtin; refine wp_append_sl rfl _ _ rfl w.heap.size _ c rfl ?ho ?hB _ w2.heap.size (le4 (crc (enc s.length ++ s))) rfl ?hn ?hm ?hK)
  case ho => exact HO.out.keep hb2
  case hB => omega
  case hn => exact ho2.sl
  case hm => rw [le4_len]; omega
  case hK =>
    intro v3 w3 ho3 hb3
    go_wp2_with fail
    go_ret
    refine ⟨v3, rfl, ?_, (hb1.trans (hb2.mono hs1)).trans hb3⟩
    have e : bs ++ frm s = c ++ le4 (crc (enc s.length ++ s)) := by rw [← HC.out]; simp [frm]
    rw [e]
    exact ho3

end Go.Proofs.Ytcliknmcefcaeaa.Cd
