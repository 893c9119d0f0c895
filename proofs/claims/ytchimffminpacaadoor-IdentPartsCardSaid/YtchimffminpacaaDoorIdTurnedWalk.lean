/-
  IdentTurned answers true. Conditions: none.
-/
import Derived.Test.YtchimffminpacaaDoorIdArg
namespace Go.Proofs.YtchimffminpacaaDoor.Cd
open Go.RowKit

theorem be8_inj {n m : Nat} (hn : n < 18446744073709551616) (hm : m < 18446744073709551616) (h : be8 n = be8 m) : n = m := by
  have h8 : ∀ a b : Nat, UInt8.ofNat a = UInt8.ofNat b → a % 256 = b % 256 := fun a b e => by
    have := congrArg UInt8.toNat e
    simpa [UInt8.toNat_ofNat'] using this
  simp only [be8, List.cons.injEq, and_true] at h
  obtain ⟨h7, h6, h5, h4, h3, h2, h1, h0⟩ := h
  have e7 := h8 _ _ h7
  have e6 := h8 _ _ h6
  have e5 := h8 _ _ h5
  have e4 := h8 _ _ h4
  have e3 := h8 _ _ h3
  have e2 := h8 _ _ h2
  have e1 := h8 _ _ h1
  have e0 := h8 _ _ h0
  simp only [dn] at e7 e6 e5 e4 e3 e2 e1 e0
  omega

theorem pad32_eight (n : Nat) : pad32 (be8 n) = be8 n ++ zer 24 := rfl
theorem ofF_inj {a b : List UInt8} (h : ofF a = ofF b) : mor fnv0 a = mor fnv0 b := by
  unfold ofF at h
  rw [pad32_eight, pad32_eight] at h
  have e := congrArg (fun l => (l.drop 1).take 8) h
  refine be8_inj (mor_lt _ _ (by unfold fnv0; omega)) (mor_lt _ _ (by unfold fnv0; omega)) ?_
  simpa [be8] using e
theorem good_ofF (a : List UInt8) : goodI (ofF a) = true := by
  unfold ofF
  rw [good_iff 1 _ (pad32_length _)]
  refine ⟨by decide, fun j hj hn => ?_⟩
  rw [show sizeI 1 = 8 from rfl] at hn
  rw [pad32_length] at hj
  have e : (pad32 (be8 (mor fnv0 a)))[j]? = some 0 := by
    rw [pad32_eight, List.getElem?_append_right (by rw [be8_length]; omega), be8_length]
    have h24 : j - 8 < 24 := by omega
    unfold zer
    rw [List.getElem?_replicate, if_pos h24]
  rw [List.getElem?_eq_getElem (by rw [pad32_length]; omega)] at e
  exact Option.some.inj e
theorem text_ofF (a : List UInt8) : textI (ofF a) = 1 :: be8 (mor fnv0 a) := by
  have hg := good_ofF a
  unfold ofF at hg ⊢
  rw [textI_cons, hg, if_pos rfl, pad32_eight]
  rfl
theorem text_ofF_inj {a b : List UInt8} (h : textI (ofF a) = textI (ofF b)) : mor fnv0 a = mor fnv0 b := by
  rw [text_ofF, text_ofF] at h
  exact be8_inj (mor_lt _ _ (by unfold fnv0; omega)) (mor_lt _ _ (by unfold fnv0; omega)) (List.cons.inj h).2

set_option maxRecDepth 100000 in
set_option maxHeartbeats 800000 in
theorem iturned_out (v : Value) (a : List UInt8) (at_ : Int) (c : UInt8) (w : World) (h : Sl w w.heap.size v a) (c0 : -9223372036854775808 ≤ at_) (c1 : at_ ≤ 9223372036854775807)
    (hout : 4096 < a.length ∨ at_ < 0 ∨ a.length ≤ at_ ∨ c.toNat = 0) :
    Calls Tryd.prog 7 #[v, .int .i64 at_, .int .u8 c.toNat] w (Gives (.bool true) w) := by
  obtain ⟨A, cap, rfl, h2, h3⟩ := h.len
  clear h
  have hm2 : a.length ≤ 9223372036854775807 := by unfold maxLen at h3; omega
  clear h3
  by_cases g1 : 4096 < a.length
  · clear hout
    go_enter Tryd.func7, Tryd.ntmps7
    go_wp2_with fail
    refine (ialive_any w).mono ?_
    rintro e w1 ⟨rfl, hb1⟩
    go_wp2_with fail
    go_ret
    exact ⟨rfl, hb1⟩
  · by_cases g2 : at_ < 0
    · clear hout
      go_enter Tryd.func7, Tryd.ntmps7
      go_wp2_with fail
      refine (ialive_any w).mono ?_
      rintro e w1 ⟨rfl, hb1⟩
      go_wp2_with fail
      go_ret
      exact ⟨rfl, hb1⟩
    · by_cases g3 : (a.length : Int) ≤ at_
      · clear hout
        go_enter Tryd.func7, Tryd.ntmps7
        go_wp2_with fail
        refine (ialive_any w).mono ?_
        rintro e w1 ⟨rfl, hb1⟩
        go_wp2_with fail
        go_ret
        exact ⟨rfl, hb1⟩
      · have hc : c.toNat = 0 := by omega
        have hq : ((c.toNat : Int) == 0) = true := by simp; omega
        clear hout hc
        go_enter Tryd.func7, Tryd.ntmps7
        go_wp2_with fail
        refine (ialive_any w).mono ?_
        rintro e w1 ⟨rfl, hb1⟩
        go_wp2_with fail
        go_ret
        exact ⟨rfl, hb1⟩

theorem xor_byte (x c : UInt8) (y : UInt8) (hy : y = UInt8.ofNat (x.toNat ^^^ c.toNat)) : bits BinOp.xor IntKind.u8 (x.toNat : Int) (c.toNat : Int) = (y.toNat : Int) := by
  subst hy
  rw [u8_xor_nat _ _ x.toNat_lt c.toNat_lt, UInt8.toNat_ofNat']
  have : x.toNat ^^^ c.toNat < 256 := Nat.xor_lt_two_pow (n := 8) x.toNat_lt c.toNat_lt
  omega

theorem xor_other (x c : UInt8) (hc : c.toNat ≠ 0) : UInt8.ofNat (x.toNat ^^^ c.toNat) ≠ x := by
  intro h
  have h2 := congrArg UInt8.toNat h
  rw [UInt8.toNat_ofNat', Nat.mod_eq_of_lt (Nat.xor_lt_two_pow (n := 8) x.toNat_lt c.toNat_lt)] at h2
  have h3 := congrArg (fun z => x.toNat ^^^ z) h2
  simp [← Nat.xor_assoc] at h3
  exact hc (by rw [h3])

set_option maxRecDepth 100000 in
set_option maxHeartbeats 1600000 in
theorem iturned_walk (v : Value) (a : List UInt8) (k : Nat) (c : UInt8) (w : World) (h : Sl w w.heap.size v a) (ha : a.length ≤ 4096) (hk : k < a.length) (hc : c.toNat ≠ 0) :
    Calls Tryd.prog 7 #[v, .int .i64 k, .int .u8 c.toNat] w (Gives (.bool true) w) := by
  obtain ⟨A, cap, hv, h2, h3⟩ := h.len
  have H := Lib.hid h
  clear h h3
  subst hv
  have hq : ((c.toNat : Int) == 0) = false := by simp; omega
  obtain ⟨y, hy⟩ : ∃ y, y = UInt8.ofNat ((a[k]).toNat ^^^ c.toNat) := ⟨_, rfl⟩
  have hx := xor_byte a[k] c y hy
  have hne : y ≠ a[k] := by rw [hy]; exact xor_other _ c hc
  have ht := mor_turned fnv0 (by unfold fnv0; omega) a k hk y hne
  have hid : (ofF (a.set k y) == ofF a) = false := by rw [beq_eq_false_iff_ne]; exact fun e => ht (ofF_inj e)
  have htx : (textI (ofF (a.set k y)) == textI (ofF a)) = false := by rw [beq_eq_false_iff_ne]; exact fun e => ht (text_ofF_inj e)
  have hng := fun W => neq_id (ofF (a.set k y)) (ofF a) (ofF_length _) (ofF_length _) W
  have hgd := fun p q W => eqGuard_id .neq p q (ofF (a.set k y)) (ofF a) W
  rw [hid] at hng
  have hf1 : ∀ W u, Sl W W.heap.size u (a.set k y) → Calls Tryd.prog 9 #[.int .u8 1, u] W (Gives (idV (ofF (a.set k y))) W) := fun W u h => of_fnv u _ W h
  have hf2 : ∀ W u, Sl W W.heap.size u a → Calls Tryd.prog 9 #[.int .u8 1, u] W (Gives (idV (ofF a)) W) := fun W u h => of_fnv u _ W h
  have ht1 : ∀ W, Calls Tryd.prog 16 #[idV (ofF (a.set k y))] W (Gives (.string ⟨(textI (ofF (a.set k y))).toArray⟩) W) := fun W => text_l _ W (ofF_length _)
  have ht2 : ∀ W, Calls Tryd.prog 16 #[idV (ofF a)] W (Gives (.string ⟨(textI (ofF a)).toArray⟩) W) := fun W => text_l _ W (ofF_length _)
  generalize textI (ofF (a.set k y)) = t1 at htx ht1
  generalize textI (ofF a) = t2 at htx ht2
  generalize idV (ofF (a.set k y)) = V1 at hng hgd hf1 ht1
  generalize idV (ofF a) = V2 at hng hgd hf2 ht2
  have HF1 := Lib.hid hf1
  have HF2 := Lib.hid hf2
  have HT1 := Lib.hid ht1
  have HT2 := Lib.hid ht2
  have HTX := Lib.hid htx
  clear hy hc ht hne hid hf1 hf2 ht1 ht2
  go_enter Tryd.func7, Tryd.ntmps7
  go_wp2_with fail
  refine (ialive_any w).mono ?_
  rintro e w1 ⟨rfl, hb1⟩
  have hs1 := hb1.size
  go_wp2_with (refine wp_append_sl rfl _ _ rfl w1.heap.size _ [] rfl (own_new w1 _ (Nat.le_refl _)) (by simp) _ _ a rfl (H.out.below (hb1.alloc hs1 _)) (by simp; omega) ?_)
  intro v1 w2 ho1 hb2
  have hbx : Below w.heap.size w w2 := (hb1.alloc hs1 _).trans (hb2.mono hs1)
  have hs2 := hb2.size
  rw [asz] at hs2
  obtain ⟨g, q, cur, e1, hgB, hgl, hgc, hql, hqm, hcs⟩ := own_block ho1 (by omega)
  have hcell : w2.cell? ⟨g, k, none⟩ = some (.int .u8 (a[k]).toNat) := by
    rw [cell_of_row w2 g k cur 5 (0, 0) hgc]
    exact hcs k _ (vb_at a k hk)
  have hfr : w2.frozen? ⟨g, k, none⟩ = false := frozen_of_row w2 g k cur 5 hgc
  subst e1
  have ho3 := Own.stored ho1 k y
  have hS3 := ho3.sl
  have hb3 : Below w.heap.size w (w2.setCell ⟨g, k, none⟩ (.int .u8 y.toNat)) := hbx.setCell (by show w.heap.size ≤ g; omega) _
  have HS := Lib.hid hS3
  have HB := Lib.hid hb3
  clear ho1 ho3 hcs hgc hS3 hb3 hbx hb1 hb2
  generalize a[k] = x at hx hcell
  go_wp2_with fail
  refine (HF1.out _ _ HS.out).mono ?_
  rintro e w4 ⟨rfl, hb4⟩
  have HB4 := Lib.hid (HB.out.trans (hb4.mono HB.out.size))
  have HS4 := Lib.hid ((HS.out.below hb4).more hb4.size)
  clear hb4 HB HS
  go_wp2_with fail
  refine (HF2.out _ _ ((H.out.below HB4.out).more HB4.out.size)).mono ?_
  rintro e w5 ⟨rfl, hb5⟩
  have HB5 := Lib.hid (HB4.out.trans (hb5.mono HB4.out.size))
  have HS5 := Lib.hid ((HS4.out.below hb5).more hb5.size)
  clear hb5 HB4 HS4
  go_wp2_with fail
  refine (HF1.out _ _ HS5.out).mono ?_
  rintro e w6 ⟨rfl, hb6⟩
  have HB6 := Lib.hid (HB5.out.trans (hb6.mono HB5.out.size))
  clear hb6 HB5 HS5
  go_wp2_with fail
  refine (HT1.out _).mono ?_
  rintro e w7 ⟨rfl, hb7⟩
  have HB7 := Lib.hid (HB6.out.trans (hb7.mono HB6.out.size))
  clear hb7 HB6
  go_wp2_with fail
  refine (HF2.out _ _ ((H.out.below HB7.out).more HB7.out.size)).mono ?_
  rintro e w8 ⟨rfl, hb8⟩
  have HB8 := Lib.hid (HB7.out.trans (hb8.mono HB7.out.size))
  clear hb8 HB7
  go_wp2_with fail
  refine (HT2.out _).mono ?_
  rintro e w9 ⟨rfl, hb9⟩
  have HB9 := Lib.hid (HB8.out.trans (hb9.mono HB8.out.size))
  clear hb9 HB8
  go_wp2_with fail
  go_ret
  exact ⟨by first | rfl | simp, HB9.out⟩

end Go.Proofs.YtchimffminpacaaDoor.Cd

namespace Go.Proofs.YtchimffminpacaaDoor.IdentTurned
open Go.RowKit Go.Proofs.YtchimffminpacaaDoor.Cd

theorem walk (v : Value) (a : List UInt8) (a1 a2 : Int) (w : World) (h : Sl w w.heap.size v a) (w1 : (Lit.int .i64 a1).wf = true) (w2 : (Lit.int .u8 a2).wf = true) :
    Calls Tryd.prog 7 #[v, .int .i64 a1, .int .u8 a2] w (Gives (.bool true) w) := by
  have b1 := bounds_i64 w1
  have b2 := bounds_u8 w2
  obtain ⟨c, rfl⟩ := byte_of a2 b2.1 b2.2
  by_cases hout : 4096 < a.length ∨ a1 < 0 ∨ (a.length : Int) ≤ a1 ∨ c.toNat = 0
  · exact iturned_out v a a1 c w h b1.1 b1.2 hout
  · obtain ⟨k, rfl⟩ := Int.eq_ofNat_of_zero_le (a := a1) (by omega)
    exact iturned_walk v a k c w h (by omega) (by omega) (by omega)

end Go.Proofs.YtchimffminpacaaDoor.IdentTurned
