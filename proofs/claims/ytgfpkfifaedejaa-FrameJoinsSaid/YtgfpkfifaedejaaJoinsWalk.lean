/-
  FrameJoins answers true. Conditions: none.
-/
import Derived.Test.YtgfpkfifaedejaaSame
import Derived.Test.YtgfpkfifaedejaaSplit
namespace Go.Proofs.Ytgfpkfifaedejaa.FrameJoins
open Go.RowKit Go.Proofs.Ytgfpkfifaedejaa.Cd

set_option maxRecDepth 100000 in
set_option maxHeartbeats 800000 in
theorem much (v v2 : Value) (l : List (List UInt8)) (bs : List UInt8) (w : World) (h : Strs w w.heap.size v l) (hv : Sl w w.heap.size v2 bs) (hS : ∀ p ∈ l, p.length ≤ 140737488351232) (hbig : big l = true ∨ (big l = false ∧ 4096 < bs.length)) :
    Calls Try.prog 7 #[v, v2] w (Gives (.bool true) w) := by
  have H := Lib.hid h
  have HS := Lib.hid hS
  obtain ⟨A', c', rfl, k2, k3⟩ := hv.len
  have k3 : c' ≤ 9223372036854775807 := k3
  clear h hS hv
  rcases hbig with hbig | ⟨hbig, hbl⟩
  all_goals
    have HB := Lib.hid hbig
    clear hbig
    go_enter Try.func7, Try.ntmps7
    go_wp2_with fail
    refine (alive_any w).mono ?_
    rintro e w1 ⟨rfl, hb1⟩
    go_wp2_with fail
    refine (great_any _ l w1 ((H.out.below hb1).more hb1.size) HS.out).mono ?_
    rintro e w2 ⟨rfl, rfl⟩
    rw [HB.out]
    go_wp2_with fail
    go_ret
    exact ⟨rfl, hb1⟩

set_option maxRecDepth 100000 in
set_option maxHeartbeats 4000000 in
theorem main (v v2 : Value) (l : List (List UInt8)) (bs : List UInt8) (w : World) (h : Strs w w.heap.size v l) (hv : Sl w w.heap.size v2 bs) (hS : ∀ p ∈ l, p.length ≤ 140737488351232) (hbig : big l = false) (hbl : bs.length ≤ 4096) :
    Calls Try.prog 7 #[v, v2] w (Gives (.bool true) w) := by
  have hsmall := small_of hbig
  have hfl := flat_len l (fun p hp => by have := hS p hp; omega)
  obtain ⟨A, c, rfl, h2, h3⟩ := h.len
  have h3 : c ≤ 9223372036854775807 := h3
  obtain ⟨A', c', rfl, k2, k3⟩ := hv.len
  have k3 : c' ≤ 9223372036854775807 := k3
  have H := Lib.hid h
  have V := Lib.hid hv
  have HS := Lib.hid hS
  have HB := Lib.hid hbig
  clear h hS hbig hv
  go_enter Try.func7, Try.ntmps7
  go_wp2_with fail
  refine (alive_any w).mono ?_
  rintro e w1 ⟨rfl, hb1⟩
  have hs1 := hb1.size
  have H1 := Lib.hid ((H.out.below hb1).more hs1)
  have V1 := Lib.hid ((V.out.below hb1).more hs1)
  go_wp2_with fail
  refine (great_any _ l w1 H1.out HS.out).mono ?_
  rintro e w2 ⟨rfl, rfl⟩
  rw [HB.out]
  go_wp2_with fail
  go_loopw [5, 24] (fun b i wr => ∃ (k : Nat), k ≤ l.length ∧ i = .int .i64 k ∧ Hid (Own wr w1.heap.size b (flat (l.take k))) ∧ Hid (Below w1.heap.size w1 wr)) (fun _ i _ => l.length - (intOf i).toNat)
  case atStart => exact ⟨0, Nat.zero_le _, rfl, World.ownsRow_nil _ _ _ _, Below.refl _ _⟩
  case round =>
    obtain ⟨k, hk, rfl, ho, hbel⟩ := hrel
    have hsz := hbel.out.size
    by_cases hlt : k < l.length
    · obtain ⟨b, off, c1, he1, _, _, hB, hc⟩ := H1.out.at (by omega)
      injection he1 with e1 _ e3
      subst e1 e3
      have hcell := (hbel.out.cell (p := ⟨b, off + k, none⟩) hB).trans (hc k hlt)
      have hft := flat_take l k hlt
      have hmono := flat_mono l (k + 1) l.length (by omega)
      rw [List.take_length] at hmono
      have hfl2 := congrArg List.length hft
      rw [List.length_append] at hfl2
      have hge := frm_ge l[k]
      clear hc
      generalize l[k] = p at *
      generalize hf1 : flat (l.take (k + 1)) = f1 at *
      have HF1 := Lib.hid hf1
      have HFT := Lib.hid hft
      have hput := Lib.hid (put_any _ _ p wr ho.out.sl (by omega))
      clear hf1 hft hfl2
      go_wp2_with fail
      refine hput.out.mono ?_
      rintro e w3 ⟨v3, rfl, ho3, hb3⟩
      rw [← HFT.out] at ho3
      have HO3 := Lib.hid (ho3.lower hsz)
      have HB3 := Lib.hid (hbel.out.trans (hb3.mono hsz))
      clear ho3 hb3
      go_wp2_with fail
      go_roundw
      case rel => exact ⟨k + 1, by omega, by go_num, by rw [HF1.out]; exact HO3.out, HB3.out⟩
      case measure => simp [intOf]; omega
    · have hkl : k = l.length := by omega
      have htk : l.take k = l := by rw [hkl, List.take_of_length_le (Nat.le_refl _)]
      have ho2 := ho.out
      rw [htk] at ho2
      clear hkl htk ho
      obtain ⟨A3, c3, rfl, q2, q3⟩ := ho2.sl.len
      have q3 : c3 ≤ 9223372036854775807 := q3
      have HO := Lib.hid ho2
      have V2 := Lib.hid ((V1.out.below hbel.out).more hsz)
      have HFL : Hid (∀ ds cur, Splits bs ds cur → Splits (flat l ++ bs) (l ++ ds) cur) := fun ds cur hh => splits_join l hh
      generalize flat l = F at *
      clear ho2
      go_wp2_with fail
      refine (split_any _ bs wr V2.out (by omega)).mono ?_
      rintro e w3 ⟨u, ds, cur, hsp, rfl, hu, hb3⟩
      have hs3 := hb3.size
      have hall := Lib.hid (HFL.out ds cur hsp)
      have hdn := flat_ge ds
      have hdl : (flat ds).length + cur.length = bs.length := by have := congrArg List.length hsp.1; rw [List.length_append] at this; omega
      have hjl : Hid (F.length + (flat ds).length + cur.length = (F ++ bs).length) := by unfold Hid; rw [List.length_append]; omega
      have HB3 := Lib.hid (hbel.out.trans (hb3.mono hsz))
      have H3 := Lib.hid ((H1.out.below HB3.out).more HB3.out.size)
      have V3 := Lib.hid ((V2.out.below hb3).more hs3)
      have O3 := Lib.hid (HO.out.keep hb3)
      have U3 := Lib.hid hu
      have HLT := Lib.hid (World.ownsRow.lt HO.out)
      have HSZ3 := HB3.out.size
      clear hsp hu hb3
      obtain ⟨J, hJ⟩ : ∃ J, F ++ bs = J := ⟨_, rfl⟩
      rw [hJ] at hall hjl
      have hjb : J.length = F.length + bs.length := by rw [← hJ, List.length_append]
      have HJ := Lib.hid hJ
      clear hJ
      go_wp2_with (at_builtin; refine wp_append_far rfl _ _ rfl w1.heap.size _ F rfl ?ho ?hB _ w3.heap.size bs rfl ?hn ?hm ?hK)
      case ho => exact O3.out
      case hB => exact HSZ3
      case hn => exact V3.out
      case hm => omega
      case hK =>
        intro v4 w4 ho4 hb4 hg4
        rw [HJ.out] at ho4
        have HB4 := Lib.hid (HB3.out.trans hb4)
        have HSZ4 := HB4.out.size
        have H4 := Lib.hid ((H1.out.below HB4.out).more HSZ4)
        have U4 := Lib.hid (U3.out.apart hg4 (fun k hk => (HLT.out k hk).2))
        have O4 := Lib.hid ho4.sl
        clear hg4 hb4 ho4
        go_wp2_with fail
        refine (split_any _ J w4 O4.out (by omega)).mono ?_
        rintro e w5 ⟨u5, es, cur5, hsp5, rfl, hu5, hb5⟩
        obtain ⟨he, _⟩ := splits_uniq (by omega) hsp5 hall.out
        subst he
        have hs5 := hb5.size
        have HB5 := Lib.hid (HB4.out.trans (hb5.mono HSZ4))
        have HSZ5 := HB5.out.size
        have H5 := Lib.hid ((H4.out.below hb5).more hs5)
        have U5 := Lib.hid (U4.out.keep hb5)
        have W5 := Lib.hid hu5.strs
        have hlen5 : (flat (l ++ ds)).length = F.length + (flat ds).length := by
          have h6 := congrArg List.length hsp5.1
          have h7 := congrArg List.length hall.out.1
          have h8 := hjl.out
          rw [List.length_append] at h7
          omega
        clear hsp5 hu5 hb5
        generalize (flat (l ++ ds)).length = n5 at *
        generalize (flat ds).length = n3 at *
        have hq5 : ((n5 : Int) == (F.length : Int) + (n3 : Int)) = true := by simp; omega
        go_wp2_with (at_builtin; refine wp_append_strs rfl _ _ rfl w5.heap.size _ [] rfl (owns_new w5 _ (Nat.le_refl _)) (by simp) _ (w5.heap.size + 1) l rfl ((H5.out.below ((Below.refl _ _).alloc (Nat.le_refl _) _)).more (by omega)) (by simp; omega) ?_)
        intro v6 w6 ho6 hb6
        have hba : Below w5.heap.size w5 w6 := ((Below.refl _ _).alloc (Nat.le_refl _) _).trans hb6
        have hs6 := hba.size
        have U6 := Lib.hid (U5.out.keep hba).strs
        have W6 := Lib.hid ((W5.out.below hba).more hs6)
        have HBA := Lib.hid hba
        have O6 := Lib.hid ho6
        clear hb6 hba ho6
        go_wp2_with (at_builtin; refine wp_append_strs rfl _ _ rfl w5.heap.size _ l rfl O6.out hs6 _ w6.heap.size ds rfl U6.out (by omega) ?_)
        intro v7 w7 ho7 hb7
        have hbc := HBA.out.trans hb7
        have W7 := Lib.hid ((W5.out.below hbc).more hbc.size)
        have HB7 := Lib.hid (HB5.out.trans (hbc.mono HSZ5))
        have O7 := Lib.hid ho7.strs
        clear hb7 hbc ho7
        go_wp2_with fail
        refine (same_any _ _ _ _ w7 W7.out O7.out).mono ?_
        rintro e w8 ⟨rfl, hb8⟩
        rw [show decide (l ++ ds = l ++ ds) = true by simp]
        have HB8 := Lib.hid (HB7.out.trans (hb8.mono HB7.out.size))
        clear hb8
        go_wp2_with fail
        go_ret
        exact ⟨rfl, hb1.trans (HB8.out.mono hs1)⟩

theorem walk (v : Value) (l : List (List UInt8)) (v2 : Value) (bs : List UInt8) (w : World) (h : Strs w w.heap.size v l ∧ ∀ p ∈ l, p.length ≤ 140737488351232) (hv : Sl w w.heap.size v2 bs) :
    Calls Try.prog 7 #[v, v2] w (Gives (.bool true) w) := by
  cases hb : big l
  · by_cases h1 : 4096 < bs.length
    · exact much v v2 l bs w h.1 hv h.2 (.inr ⟨hb, h1⟩)
    · exact main v v2 l bs w h.1 hv h.2 hb (by omega)
  · exact much v v2 l bs w h.1 hv h.2 (.inl hb)

end Go.Proofs.Ytgfpkfifaedejaa.FrameJoins
