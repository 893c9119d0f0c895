/-
  object.getPairs. Conditions: none.
-/
import Derived.Test.YtabogconbjdcgaaObGood
import Derived.Deep.RegionWith
namespace Go.Proofs.Ytabogconbjdcgaa.Cd
open Go.RowKit

/-- What reading a list leaves: a row of the call's own, and the reader. -/
def GotPs (w : World) (g : Nat) (s : StP) (e : Ending) (w' : World) : Prop := ∃ v, e = .returned v ∧ OwnRw ppC 2 56 w' w.heap.size v s.l ∧ Left w g s.bs s.bad w'

theorem byte_lt (c : UInt8) : c.toNat < 256 := c.toNat_lt

set_option maxRecDepth 100000 in
set_option maxHeartbeats 1600000 in
theorem getps_any (g : Nat) (bs : List UInt8) (bad : Bool) (w : World) (hr : Rd w g bs bad) (hbb : Sane bad bs) (hs : bs.length ≤ 1000000) :
    Calls Try.prog 33 #[.pointer (some ⟨g, 0, none⟩)] w (GotPs w g (atP ⟨[], gbB bad bs, gbX bad bs⟩ (gbV bad bs).toNat)) := by
  have hg0 := hr.lt
  have hgb := getb_any g bs bad w hr hbb (by omega)
  have hsn := sane_gb bad bs
  have hbs : (gbB bad bs).length ≤ 1000000 := Nat.le_trans (tkB_len _ _ _) hs
  have hcb := byte_lt (gbV bad bs)
  generalize (gbV bad bs).toNat = n at *
  obtain ⟨s0, hs0⟩ : ∃ s, (⟨[], gbB bad bs, gbX bad bs⟩ : StP) = s := ⟨_, rfl⟩
  have e1 : gbB bad bs = s0.bs := by rw [← hs0]
  have e2 : gbX bad bs = s0.bad := by rw [← hs0]
  have e3 : s0.l = [] := by rw [← hs0]
  rw [hs0]
  rw [e1, e2] at hgb hsn
  rw [e1] at hbs
  have HGB := Lib.hid hgb
  have HSN := Lib.hid hsn
  have HL0 := Lib.hid e3
  clear hgb hsn hs0 e1 e2 e3 hr hbb
  go_enter Try.func33, Try.ntmps33
  go_wp2_with fail
  refine HGB.out.mono ?_
  rintro e w1 ⟨rfl, hl1⟩
  have HR1 := Lib.hid hl1.1
  have HW1 := Lib.hid hl1.2
  have hz1 := hl1.2.size
  clear hl1
  go_wp2_with fail
  go_loopw [3, 7] (fun v i wr => ∃ k : Nat, i = .int .u8 k ∧ k ≤ n ∧ Hid (OwnRw ppC 2 56 wr w.heap.size v (atP s0 k).l) ∧ Hid (Rd wr g (atP s0 k).bs (atP s0 k).bad) ∧ Hid (w.grownBy wr (some g))) (fun _ i _ => n - (intOf i).toNat)
  case atStart => exact ⟨0, rfl, by omega, (by unfold Hid; show OwnRw _ _ _ _ _ _ s0.l; rw [HL0.out]; exact OwnRw.nil _ _), HR1.out, HW1.out⟩
  case round =>
    clear HR1 HW1 hz1
    obtain ⟨k, rfl, hk, ho, hrd, hw⟩ := hrel
    have hsq := sane_atP HSN.out k
    have hlq := len_atP s0 k
    have hl0 : s0.l.length = 0 := by rw [HL0.out]; rfl
    have hlk : (atP s0 k).l.length ≤ 256 := by omega
    have hlb : (atP s0 k).bs.length ≤ 1000000 := by omega
    have hzr := hw.out.size
    by_cases hlt : k < n
    · have hnx : Hid (atP s0 (k + 1) = ⟨(atP s0 k).l ++ [(txV 16 (atP s0 k).bs, txV 16 (txB 16 (atP s0 k).bs))], txB 16 (txB 16 (atP s0 k).bs), txX 16 (txB 16 (atP s0 k).bs)⟩) := rfl
      generalize atP s0 k = q at *
      obtain ⟨l, b, x⟩ := q
      simp only at *
      have hb2 := txB_len 16 b
      have HT1 := Lib.hid (rtext_any g 16 b x wr hrd.out hsq (by omega) (by omega))
      have HS2 : Hid (Sane (txX 16 b) (txB 16 b)) := Sane.tx 16 b
      generalize txX 16 b = x1 at *
      generalize txB 16 b = b1 at *
      generalize txV 16 b = s1 at *
      have hT2 := fun W h => rtext_any g 16 b1 x1 W h HS2.out (by omega) (by omega)
      have HT2 := Lib.hid hT2
      clear hT2
      generalize txX 16 b1 = x2 at *
      generalize txB 16 b1 = b2 at *
      generalize txV 16 b1 = s2 at *
      clear hsq hlq
      go_wp2_with fail
      refine HT1.out.mono ?_
      rintro e w2 ⟨rfl, hl2⟩
      have HR2 := Lib.hid hl2.1
      have HW2 := Lib.hid (grown_then hw.out hl2.2)
      have HO2 := Lib.hid (ho.out.far hl2.2 (by omega))
      clear hl2
      go_wp2_with fail
      refine (HT2.out _ HR2.out).mono ?_
      rintro e w3 ⟨rfl, hl3⟩
      have HR3 := Lib.hid hl3.1
      have HW3 := Lib.hid (grown_then HW2.out hl3.2)
      have HO3 := Lib.hid (HO2.out.far hl3.2 (by omega))
      clear hl3
      have hz3 := HW3.out.size
      go_wp2_with (refine wp_append_rw kind_pp rfl _ _ rfl rfl (HO3.out.alloc _) (by simp; omega) _ _ [(s1, s2)] rfl (rw_one kind_pp w3 (s1, s2) 56 _ rfl) (by simp only [List.length_singleton]; omega) ?_)
      intro v4 w4 ho4 hb4 hg4
      have HO4 := Lib.hid ho4
      have hb5 : Below w.heap.size w3 w4 := ((Below.refl w.heap.size w3).alloc hz3 _).trans hb4
      have HW4 : Hid (w.grownBy w4 (some g)) := grown_low HW3.out hb5 (Nat.le_refl _)
      have HR4 : Hid (Rd w4 g b2 x2) := HR3.out.below hb5 hg0
      clear hb4 hg4 hb5 ho4
      go_wp2_with fail
      go_roundw
      case rel => exact ⟨k + 1, by go_num, by omega, by rw [hnx.out]; exact HO4.out, by rw [hnx.out]; exact HR4.out, HW4.out⟩
      case measure => simp [intOf]; omega
    · have hkn : k = n := by omega
      subst hkn
      go_wp2_with fail
      go_ret
      exact ⟨_, rfl, ho.out, hrd.out, hw.out⟩

end Go.Proofs.Ytabogconbjdcgaa.Cd
