/-
  LeafSizes: what its text does, call by call. Conditions: none.
-/
import Derived.Test.YtjilkpgbojjnfaaAliveL
import Derived.Test.YtjilkpgbojjnfaaCopies
import Derived.Deep.RegionWith
namespace Go.Proofs.Ytjilkpgbojjnfaa.LeafSizes
open Go.RowKit Go.Proofs.Ytjilkpgbojjnfaa.Cd

theorem enc_two {x : Nat} (h : 128 ≤ x) (h2 : x < 16384) : (enc x).length = 2 := by
  rw [enc_hi h, List.length_cons, enc_lo (by omega)]
  rfl
theorem enc_small {x : Nat} (h : x < 128) : (enc x).length = 1 := by
  rw [enc_lo h]
  rfl
theorem tsz_snoc (l : List (List UInt8)) (s : List UInt8) (k : Nat) (hk : k ≤ l.length) : tsz (l ++ [s]) k = tsz l k := by
  induction k with
  | zero => rfl
  | succ k ih =>
    rw [tsz, tsz, ih (by omega), getD_snoc l s [] (by omega)]
theorem tsz_more (l : List (List UInt8)) (s : List UInt8) : tsz (l ++ [s]) (l.length + 1) = tsz l l.length + ((enc s.length).length + s.length) := by
  rw [tsz, tsz_snoc l s _ (Nat.le_refl _), getD_last]
theorem size_more {n : Nd} {k v : List UInt8} (h : Cd.Good n) (hl : n.leaf = true) (hk : n.keys.length ≤ 1024) (hm : Cd.Good ⟨true, n.keys ++ [k], n.vals ++ [v], []⟩) :
    (encN ⟨true, n.keys ++ [k], n.vals ++ [v], []⟩).length = (encN n).length + 2 + k.length + v.length + (if n.keys.length = 63 then 1 else 0) + (if 127 < v.length then 1 else 0) := by
  have e1 := encN_len h
  have e2 := encN_len hm
  have hk48 := hm.keys k (by simp)
  have hv160 := hm.vals v (by simp)
  obtain ⟨a1, a2⟩ := h.leaf hl
  simp only [List.length_append, List.length_singleton, List.length_nil] at e2
  rw [tsz_more, tsz_more] at e2
  rw [e2, e1, a2]
  have ek : (enc k.length).length = 1 := enc_small (by omega)
  have ev : (enc v.length).length = 1 + (if 127 < v.length then 1 else 0) := by
    split
    · exact enc_two (by omega) (by omega)
    · exact enc_small (by omega)
  have eh : (enc (head ⟨true, n.keys ++ [k], n.vals ++ [v], []⟩)).length = (enc (head n)).length + (if n.keys.length = 63 then 1 else 0) := by
    have h1 : head ⟨true, n.keys ++ [k], n.vals ++ [v], []⟩ = 2 * n.keys.length + 3 := by unfold head; simp; omega
    have h2 : head n = 2 * n.keys.length + 1 := by unfold head; rw [hl]; simp
    rw [h1, h2]
    split
    · rename_i h3
      rw [h3, enc_two (by omega) (by omega), enc_small (by omega)]
    · by_cases h4 : n.keys.length < 63
      · rw [enc_small (by omega), enc_small (by omega)]
      · rw [enc_two (by omega) (by omega), enc_two (by omega) (by omega)]
  rw [eh, ek, ev]
  simp only [ksz, List.length_nil]
  omega

set_option maxRecDepth 100000 in
set_option maxHeartbeats 4000000 in
theorem walk (v : Value) (n : Nd) (key val : ByteArray) (w : World) (h : Cd.Node w w.heap.size v n ∧ Fits n) (wk : key.size ≤ 140737488351232) (wv : val.size ≤ 140737488351232) :
    Calls Try.prog 7 #[v, .string key, .string val] w (Gives (.bool true) w) := by
  obtain ⟨h, hf⟩ := h
  obtain ⟨kl, rfl⟩ : ∃ l : List UInt8, key = ⟨l.toArray⟩ := ⟨key.data.toList, by cases key; simp⟩
  obtain ⟨vl, rfl⟩ : ∃ l : List UInt8, val = ⟨l.toArray⟩ := ⟨val.data.toList, by cases val; simp⟩
  have hkz : (ByteArray.mk kl.toArray).size = kl.length := rfl
  have hvz : (ByteArray.mk vl.toArray).size = vl.length := rfl
  have wk : kl.length ≤ 140737488351232 := wk
  have wv : vl.length ≤ 140737488351232 := wv
  have H := Lib.hid h
  have HF := Lib.hid hf
  obtain ⟨vk, vv, vi, rfl, h1, h2, h3⟩ := h
  obtain ⟨A, c, rfl, _, _⟩ := h1.len
  obtain ⟨A2, c2, rfl, _, _⟩ := h2.len
  obtain ⟨A3, c3, rfl, _, m3⟩ := h3.len
  have H1 := Lib.hid h1
  have H2 := Lib.hid h2
  clear h1 h2 h3
  have HX : Hid (Bx (w.alloc (.cells #[.bool n.leaf, .slice A n.keys.length c, .slice A2 n.vals.length c2, .slice A3 n.kids.length c3] 25)) w.heap.size n.leaf (.slice A n.keys.length c) (.slice A2 n.vals.length c2) (.slice A3 n.kids.length c3)) := heap_alloc_new w _
  have HB := Lib.hid (new_below w (.cells #[.bool n.leaf, .slice A n.keys.length c, .slice A2 n.vals.length c2, .slice A3 n.kids.length c3] 25))
  cases hgr : great n 1024
  · have hs := small_of hgr
    have HS : Hid (Small n 8192) := ⟨by have := hs.kids; omega, by have := hs.keys; omega, by have := hs.vals; omega, fun s h => by have := hs.key s h; omega, fun s h => by have := hs.val s h; omega⟩
    have HGR := Lib.hid hgr
    have hk1 := hs.keys
    have hk2 := hs.vals
    have hkl : n.keys.length ≤ 1000000 := by omega
    have KG := Lib.hid (fun W (hW : Cd.Node W W.heap.size (.agg #[.bool n.leaf, .slice A n.keys.length c, .slice A2 n.vals.length c2, .slice A3 n.kids.length c3]) n) => lgood_any _ n W hW hkl)
    clear hgr
    by_cases hbig : 1024 < kl.length + vl.length
    · clear hs
      go_enter Try.func7, Try.ntmps7
      go_wp2_with (first
        | (go_at_call 8
           go_must (
           refine (aliveL_any _).mono ?_
           rintro e w1 ⟨rfl, hb⟩
           have HX := Lib.hid (HX.out.on hb); have HB := Lib.hid (HB.out.trans (hb.mono HB.out.size)); have x0 := HX.out.cell0; have x1 := HX.out.cell1; have x2 := HX.out.cell2; have x3 := HX.out.cell3
           clear hb))
        | (go_at_call 9
           go_must (
           refine (great_is _ n 1024 _ HGR.out _ (H.out.over HB.out) HF.out (by omega)).mono ?_
           rintro e w1 ⟨rfl, hb⟩
           have HX := Lib.hid (HX.out.on hb); have HB := Lib.hid (HB.out.trans (hb.mono HB.out.size)); have x0 := HX.out.cell0; have x1 := HX.out.cell1; have x2 := HX.out.cell2; have x3 := HX.out.cell3
           clear hb)))
      go_ret
      exact ⟨rfl, HB.out⟩
    · cases hlf : n.leaf
      · rw [hlf] at HX HB KG H
        clear hs
        go_enter Try.func7, Try.ntmps7
        go_wp2_with (first
          | (go_at_call 8
             go_must (
             refine (aliveL_any _).mono ?_
             rintro e w1 ⟨rfl, hb⟩
             have HX := Lib.hid (HX.out.on hb); have HB := Lib.hid (HB.out.trans (hb.mono HB.out.size)); have x0 := HX.out.cell0; have x1 := HX.out.cell1; have x2 := HX.out.cell2; have x3 := HX.out.cell3
             clear hb))
          | (go_at_call 9
             go_must (
             refine (great_is _ n 1024 _ HGR.out _ (H.out.over HB.out) HF.out (by omega)).mono ?_
             rintro e w1 ⟨rfl, hb⟩
             have HX := Lib.hid (HX.out.on hb); have HB := Lib.hid (HB.out.trans (hb.mono HB.out.size)); have x0 := HX.out.cell0; have x1 := HX.out.cell1; have x2 := HX.out.cell2; have x3 := HX.out.cell3
             clear hb)))
        go_ret
        exact ⟨rfl, HB.out⟩
      · cases hg : good n
        · rw [hlf] at HX HB KG H
          rw [hg] at KG
          clear hs
          go_enter Try.func7, Try.ntmps7
          go_wp2_with (first
            | (go_at_call 8
               go_must (
               refine (aliveL_any _).mono ?_
               rintro e w1 ⟨rfl, hb⟩
               have HX := Lib.hid (HX.out.on hb); have HB := Lib.hid (HB.out.trans (hb.mono HB.out.size)); have x0 := HX.out.cell0; have x1 := HX.out.cell1; have x2 := HX.out.cell2; have x3 := HX.out.cell3
               clear hb))
            | (go_at_call 9
               go_must (
               refine (great_is _ n 1024 _ HGR.out _ (H.out.over HB.out) HF.out (by omega)).mono ?_
               rintro e w1 ⟨rfl, hb⟩
               have HX := Lib.hid (HX.out.on hb); have HB := Lib.hid (HB.out.trans (hb.mono HB.out.size)); have x0 := HX.out.cell0; have x1 := HX.out.cell1; have x2 := HX.out.cell2; have x3 := HX.out.cell3
               clear hb))
            | (go_at_call 12
               go_must (
               refine (KG.out _ (H.out.over HB.out)).mono ?_
               rintro e w1 ⟨rfl, hb⟩
               have HX := Lib.hid (HX.out.on hb); have HB := Lib.hid (HB.out.trans (hb.mono HB.out.size)); have x0 := HX.out.cell0; have x1 := HX.out.cell1; have x2 := HX.out.cell2; have x3 := HX.out.cell3
               clear hb)))
          go_ret
          exact ⟨rfl, HB.out⟩
        · rw [hlf] at HX HB KG H
          rw [hg] at KG
          have hG := (good_iff n).1 hg
          go_enter Try.func7, Try.ntmps7
          go_wp2_with (first
            | (go_at_call 8
               go_must (
               refine (aliveL_any _).mono ?_
               rintro e w1 ⟨rfl, hb⟩
               have HX := Lib.hid (HX.out.on hb); have HB := Lib.hid (HB.out.trans (hb.mono HB.out.size)); have x0 := HX.out.cell0; have x1 := HX.out.cell1; have x2 := HX.out.cell2; have x3 := HX.out.cell3
               clear hb))
            | (go_at_call 9
               go_must (
               refine (great_is _ n 1024 _ HGR.out _ (H.out.over HB.out) HF.out (by omega)).mono ?_
               rintro e w1 ⟨rfl, hb⟩
               have HX := Lib.hid (HX.out.on hb); have HB := Lib.hid (HB.out.trans (hb.mono HB.out.size)); have x0 := HX.out.cell0; have x1 := HX.out.cell1; have x2 := HX.out.cell2; have x3 := HX.out.cell3
               clear hb))
            | (go_at_call 12
               go_must (
               refine (KG.out _ (H.out.over HB.out)).mono ?_
               rintro e w1 ⟨rfl, hb⟩
               have HX := Lib.hid (HX.out.on hb); have HB := Lib.hid (HB.out.trans (hb.mono HB.out.size)); have x0 := HX.out.cell0; have x1 := HX.out.cell1; have x2 := HX.out.cell2; have x3 := HX.out.cell3
               clear hb)))
          have HG := Lib.hid hG
          have hsk := hs.key
          have hsv := hs.val
          have hks := Lib.hid (H1.out.on HB.out)
          have hvs := Lib.hid (H2.out.on HB.out)
          have hxl := HX.out.lt
          obtain ⟨LK, hLK⟩ : ∃ l, n.keys ++ [kl] = l := ⟨_, rfl⟩
          obtain ⟨LV, hLV⟩ : ∃ l, n.vals ++ [vl] = l := ⟨_, rfl⟩
          have HLK := Lib.hid hLK
          have HLV := Lib.hid hLV
          have hlk : LK.length ≤ 1000000 := by rw [← hLK]; simp; omega
          have HSM : Hid (Small ⟨true, LK, LV, []⟩ 8192) := by
            rw [← hLK, ← hLV]
            refine ⟨by simp, by simp; omega, by simp; omega, fun s hs => ?_, fun s hs => ?_⟩
            · rcases List.mem_append.1 hs with h | h
              · have := hsk s h; omega
              · rw [List.mem_singleton.1 h]; omega
            · rcases List.mem_append.1 hs with h | h
              · have := hsv s h; omega
              · rw [List.mem_singleton.1 h]; omega
          have HKL : Hid (∀ s ∈ n.keys, s.length ≤ 1024) := hsk
          clear hLK hLV hs hsk hsv hG
          clear x0 x1 x2 x3
          obtain ⟨B0, hB0⟩ : ∃ b, w1.heap.size = b := ⟨_, rfl⟩
          rw [hB0] at hks hvs hxl
          have h00 : ∀ (i : Nat) (r : Value × List (List UInt8)), [((.slice none 0 0 : Value), ([] : List (List UInt8))), (.slice none 0 0, []), (.slice none 0 0, []), (.slice none 0 0, [])][i]? = some r → OwnS w1.drew B0 r.1 r.2 := fun i r hr => by
            have h : r = (.slice none 0 0, []) := by
              rcases i with _ | _ | _ | _ | i
              all_goals first | simpa using hr.symm | simp at hr
            rw [h]
            exact OwnS.nil _ _
          have h01 : ∀ (i j : Nat) (r s : Value × List (List UInt8)), i ≠ j → [((.slice none 0 0 : Value), ([] : List (List UInt8))), (.slice none 0 0, []), (.slice none 0 0, []), (.slice none 0 0, [])][i]? = some r → [((.slice none 0 0 : Value), ([] : List (List UInt8))), (.slice none 0 0, []), (.slice none 0 0, []), (.slice none 0 0, [])][j]? = some s → TwoBlocks r.1 s.1 := fun i j r s _ hr _ => by
            have h : r = (.slice none 0 0, []) := by
              rcases i with _ | _ | _ | _ | i
              all_goals first | simpa using hr.symm | simp at hr
            rw [h]
            exact .inl rfl
          obtain ⟨I, hI⟩ : ∃ I : Array Bool → Act → World → Prop, ∀ listed a wx, I listed a wx ↔ (∃ x7 x32 x33 x34 x35 x36 x37 x38 x39 x40 x41 x42 x43 x44 x45 x46 y1 z1 y2 z2 l1 m1 l2 m2 gb, a = ⟨#[(.agg #[.bool true, .slice A n.keys.length c, .slice A2 n.vals.length c2, .slice A3 n.kids.length c3]), (.string ⟨kl.toArray⟩), (.string ⟨vl.toArray⟩), (.pointer (some ⟨w.heap.size, 0, none⟩)), undef, undef, .bool false, x7, undef, undef, .bool true, .bool false, (.agg #[.bool true, .slice A n.keys.length c, .slice A2 n.vals.length c2, .slice A3 n.kids.length c3]), .bool false, .bool false, (.string ⟨kl.toArray⟩), .int .i64 kl.length, (.string ⟨vl.toArray⟩), .int .i64 vl.length, .int .i64 ((kl.length : Int) + vl.length), (.bool (decide (1024 < (kl.length : Int) + vl.length))), (.bool (decide (1024 < (kl.length : Int) + vl.length))), (.bool (decide (1024 < (kl.length : Int) + vl.length))), (.pointer (some ⟨w.heap.size, 0, none⟩)), .bool true, .bool false, (.bool (decide (1024 < (kl.length : Int) + vl.length))), (.bool (decide (1024 < (kl.length : Int) + vl.length))), (.agg #[.bool true, .slice A n.keys.length c, .slice A2 n.vals.length c2, .slice A3 n.kids.length c3]), .bool true, .bool false, (.bool (decide (1024 < (kl.length : Int) + vl.length))), x32, x33, x34, x35, x36, x37, x38, x39, x40, x41, x42, x43, x44, x45, x46, undef, undef, undef, undef, undef, undef, undef, undef, undef, undef, undef, undef, undef, undef, undef, undef, undef, undef, undef, undef, undef, undef, undef, undef, undef, undef, undef, undef, undef], []⟩ ∧ Cp w1 wx B0 [(y1, l1), (z1, m1), (y2, l2), (z2, m2)] (.slice none 0 0) [] gb ∧ (listed.getD 1 false = true → x33 = (.pointer (some ⟨w.heap.size, 1, none⟩))) ∧ (listed.getD 2 false = true → x34 = .slice A n.keys.length c) ∧ (listed.getD 4 false = true → x36 = (.string ⟨kl.toArray⟩)) ∧ (listed.getD 8 false = true → x40 = (.pointer (some ⟨w.heap.size, 2, none⟩))) ∧ (listed.getD 9 false = true → x41 = .slice A2 n.vals.length c2) ∧ (listed.getD 11 false = true → x43 = (.string ⟨vl.toArray⟩)) ∧ (listed.getD 3 false = true → ((listed.getD 0 false = true))) ∧ (listed.getD 10 false = true → ((listed.getD 7 false = true))) ∧ (listed.getD 0 false = true → ¬ listed.getD 3 false = true → x32 = y1 ∧ l1 = []) ∧ (listed.getD 3 false = true → ¬ listed.getD 6 false = true → x35 = y1 ∧ l1 = n.keys) ∧ (listed.getD 5 false = true → ¬ listed.getD 6 false = true → x37 = z1 ∧ m1 = [kl]) ∧ (listed.getD 6 false = true → ((listed.getD 0 false = true) ∧ (listed.getD 3 false = true) ∧ (listed.getD 5 false = true)) ∧ x38 = y1 ∧ l1 = LK) ∧ (listed.getD 7 false = true → ¬ listed.getD 10 false = true → x39 = y2 ∧ l2 = []) ∧ (listed.getD 10 false = true → ¬ listed.getD 13 false = true → x42 = y2 ∧ l2 = n.vals) ∧ (listed.getD 12 false = true → ¬ listed.getD 13 false = true → x44 = z2 ∧ m2 = [vl]) ∧ (listed.getD 13 false = true → ((listed.getD 7 false = true) ∧ (listed.getD 10 false = true) ∧ (listed.getD 12 false = true)) ∧ x45 = y2 ∧ l2 = LV) ∧ (listed.getD 14 false = true → ((listed.getD 6 false = true) ∧ (listed.getD 13 false = true)) ∧ x46 = .agg #[.bool true, x38, x45, .slice none 0 0]) ∧ (listed.getD 15 false = true → ¬ listed.getD 16 false = true → ∃ G, gb = some G ∧ x7 = .pointer (some ⟨G, 0, none⟩)) ∧ (listed.getD 16 false = true → (∀ j, j < 16 → listed.getD j false = true) ∧ ∃ G, x7 = .pointer (some ⟨G, 0, none⟩) ∧ B0 ≤ G ∧ Bx wx G true x38 x45 (.slice none 0 0))) := ⟨_, fun _ _ _ => Iff.rfl⟩
          have HI := Lib.hid hI
          clear hI
          refine wp_region_inv (by kernel_rfl) (backward_of (by kernel_rfl)) I ?h0 ?hstep ?hfin
          case h0 =>
            exact (HI.out _ _ _).2 ⟨undef, undef, undef, undef, undef, undef, undef, undef, undef, undef, undef, undef, undef, undef, undef, undef, .slice none 0 0, .slice none 0 0, .slice none 0 0, .slice none 0 0, [], [], [], [], none, rfl, ⟨hB0 ▸ (Below.refl _ _).drew, by omega, h00, h01, OwnI.nil _ _, fun _ e => by cases e⟩, (fun hb => by simp at hb), (fun hb => by simp at hb), (fun hb => by simp at hb), (fun hb => by simp at hb), (fun hb => by simp at hb), (fun hb => by simp at hb), (fun hb => by simp at hb), (fun hb => by simp at hb), (fun hb => by simp at hb), (fun hb => by simp at hb), (fun hb => by simp at hb), (fun hb => by simp at hb), (fun hb => by simp at hb), (fun hb => by simp at hb), (fun hb => by simp at hb), (fun hb => by simp at hb), (fun hb => by simp at hb), (fun hb => by simp at hb), (fun hb => by simp at hb)⟩
          case hstep =>
            intro i listed a wx hz hI0 hr
            obtain ⟨x7, x32, x33, x34, x35, x36, x37, x38, x39, x40, x41, x42, x43, x44, x45, x46, y1, z1, y2, z2, l1, m1, l2, m2, gb, rfl, hcp, q1, q2, q4, q8, q9, q11, p3, p10, q0, q3, q5, q6, q7, q10, q12, q13, q14, q15, q16⟩ := (HI.out _ _ _).1 hI0
            clear hI0
            have hni := (ready_mem.1 hr).2.1
            have hi17 : i < 17 := (ready_mem.1 hr).1
            have hz17 : listed.size = 17 := hz
            rcases (by omega : i = 0 ∨ i = 1 ∨ i = 2 ∨ i = 3 ∨ i = 4 ∨ i = 5 ∨ i = 6 ∨ i = 7 ∨ i = 8 ∨ i = 9 ∨ i = 10 ∨ i = 11 ∨ i = 12 ∨ i = 13 ∨ i = 14 ∨ i = 15 ∨ i = 16) with rfl | rfl | rfl | rfl | rfl | rfl | rfl | rfl | rfl | rfl | rfl | rfl | rfl | rfl | rfl | rfl | rfl
            · refine wpOp_of rfl ?_
              go_simp
              exact (HI.out _ _ _).2 ⟨_, _, _, _, _, _, _, _, _, _, _, _, _, _, _, _, _, _, _, _, _, _, _, _, _, rfl, (hcp.set 0 (_, _) rfl _ [] (owns_new wx B0 hcp.size) (grown_new _ _ _) (.inr fun k hk => by have hk2 : some wx.heap.size = some k := hk; injection hk2 with hk2; omega)), (fun hb => (q1 (bit_ne (by decide) hb))), (fun hb => (q2 (bit_ne (by decide) hb))), (fun hb => (q4 (bit_ne (by decide) hb))), (fun hb => (q8 (bit_ne (by decide) hb))), (fun hb => (q9 (bit_ne (by decide) hb))), (fun hb => (q11 (bit_ne (by decide) hb))), (fun hb => bit_keep (p3 (bit_ne (by decide) hb))), (fun hb => bit_keep (p10 (bit_ne (by decide) hb))), (fun _ _ => ⟨rfl, rfl⟩), (fun hb _ => absurd (p3 (bit_ne (by decide) hb)) (bit_off hni)), (fun hb hn => q5 (bit_ne (by decide) hb) (fun h => hn (bit_keep h))), (fun hb => absurd ((q6 (bit_ne (by decide) hb)).1.1) (bit_off hni)), (fun hb hn => q7 (bit_ne (by decide) hb) (fun h => hn (bit_keep h))), (fun hb hn => q10 (bit_ne (by decide) hb) (fun h => hn (bit_keep h))), (fun hb hn => q12 (bit_ne (by decide) hb) (fun h => hn (bit_keep h))), (fun hb => ⟨⟨bit_keep ((q13 (bit_ne (by decide) hb)).1.1), bit_keep ((q13 (bit_ne (by decide) hb)).1.2.1), bit_keep ((q13 (bit_ne (by decide) hb)).1.2.2)⟩, (q13 (bit_ne (by decide) hb)).2⟩), (fun hb => ⟨⟨bit_keep ((q14 (bit_ne (by decide) hb)).1.1), bit_keep ((q14 (bit_ne (by decide) hb)).1.2)⟩, (q14 (bit_ne (by decide) hb)).2⟩), (fun hb hn => q15 (bit_ne (by decide) hb) (fun h => hn (bit_keep h))), (fun hb => absurd ((q16 (bit_ne (by decide) hb)).1 0 (by decide)) (bit_off hni))⟩
            · refine wpOp_of rfl ?_
              go_simp
              exact (HI.out _ _ _).2 ⟨_, _, _, _, _, _, _, _, _, _, _, _, _, _, _, _, _, _, _, _, _, _, _, _, _, rfl, hcp, (fun _ => rfl), (fun hb => (q2 (bit_ne (by decide) hb))), (fun hb => (q4 (bit_ne (by decide) hb))), (fun hb => (q8 (bit_ne (by decide) hb))), (fun hb => (q9 (bit_ne (by decide) hb))), (fun hb => (q11 (bit_ne (by decide) hb))), (fun hb => bit_keep (p3 (bit_ne (by decide) hb))), (fun hb => bit_keep (p10 (bit_ne (by decide) hb))), (fun hb hn => q0 (bit_ne (by decide) hb) (fun h => hn (bit_keep h))), (fun hb hn => q3 (bit_ne (by decide) hb) (fun h => hn (bit_keep h))), (fun hb hn => q5 (bit_ne (by decide) hb) (fun h => hn (bit_keep h))), (fun hb => ⟨⟨bit_keep ((q6 (bit_ne (by decide) hb)).1.1), bit_keep ((q6 (bit_ne (by decide) hb)).1.2.1), bit_keep ((q6 (bit_ne (by decide) hb)).1.2.2)⟩, (q6 (bit_ne (by decide) hb)).2⟩), (fun hb hn => q7 (bit_ne (by decide) hb) (fun h => hn (bit_keep h))), (fun hb hn => q10 (bit_ne (by decide) hb) (fun h => hn (bit_keep h))), (fun hb hn => q12 (bit_ne (by decide) hb) (fun h => hn (bit_keep h))), (fun hb => ⟨⟨bit_keep ((q13 (bit_ne (by decide) hb)).1.1), bit_keep ((q13 (bit_ne (by decide) hb)).1.2.1), bit_keep ((q13 (bit_ne (by decide) hb)).1.2.2)⟩, (q13 (bit_ne (by decide) hb)).2⟩), (fun hb => ⟨⟨bit_keep ((q14 (bit_ne (by decide) hb)).1.1), bit_keep ((q14 (bit_ne (by decide) hb)).1.2)⟩, (q14 (bit_ne (by decide) hb)).2⟩), (fun hb hn => q15 (bit_ne (by decide) hb) (fun h => hn (bit_keep h))), (fun hb => absurd ((q16 (bit_ne (by decide) hb)).1 1 (by decide)) (bit_off hni))⟩
            · obtain rfl := q1 (ready_waits hr (show waitsB _ 2 1 = true by kernel_rfl))
              have hbx := HX.out.below hcp.below (by omega)
              have d0 := hbx.cell0; have d1 := hbx.cell1; have d2 := hbx.cell2; have d3 := hbx.cell3
              clear hbx
              refine wpOp_of rfl ?_
              go_simp
              exact (HI.out _ _ _).2 ⟨_, _, _, _, _, _, _, _, _, _, _, _, _, _, _, _, _, _, _, _, _, _, _, _, _, rfl, hcp, (fun hb => (q1 (bit_ne (by decide) hb))), (fun _ => rfl), (fun hb => (q4 (bit_ne (by decide) hb))), (fun hb => (q8 (bit_ne (by decide) hb))), (fun hb => (q9 (bit_ne (by decide) hb))), (fun hb => (q11 (bit_ne (by decide) hb))), (fun hb => bit_keep (p3 (bit_ne (by decide) hb))), (fun hb => bit_keep (p10 (bit_ne (by decide) hb))), (fun hb hn => q0 (bit_ne (by decide) hb) (fun h => hn (bit_keep h))), (fun hb hn => q3 (bit_ne (by decide) hb) (fun h => hn (bit_keep h))), (fun hb hn => q5 (bit_ne (by decide) hb) (fun h => hn (bit_keep h))), (fun hb => ⟨⟨bit_keep ((q6 (bit_ne (by decide) hb)).1.1), bit_keep ((q6 (bit_ne (by decide) hb)).1.2.1), bit_keep ((q6 (bit_ne (by decide) hb)).1.2.2)⟩, (q6 (bit_ne (by decide) hb)).2⟩), (fun hb hn => q7 (bit_ne (by decide) hb) (fun h => hn (bit_keep h))), (fun hb hn => q10 (bit_ne (by decide) hb) (fun h => hn (bit_keep h))), (fun hb hn => q12 (bit_ne (by decide) hb) (fun h => hn (bit_keep h))), (fun hb => ⟨⟨bit_keep ((q13 (bit_ne (by decide) hb)).1.1), bit_keep ((q13 (bit_ne (by decide) hb)).1.2.1), bit_keep ((q13 (bit_ne (by decide) hb)).1.2.2)⟩, (q13 (bit_ne (by decide) hb)).2⟩), (fun hb => ⟨⟨bit_keep ((q14 (bit_ne (by decide) hb)).1.1), bit_keep ((q14 (bit_ne (by decide) hb)).1.2)⟩, (q14 (bit_ne (by decide) hb)).2⟩), (fun hb hn => q15 (bit_ne (by decide) hb) (fun h => hn (bit_keep h))), (fun hb => absurd ((q16 (bit_ne (by decide) hb)).1 2 (by decide)) (bit_off hni))⟩
            · obtain ⟨rfl, rfl⟩ := q0 (ready_waits hr (show waitsB _ 3 0 = true by kernel_rfl)) (bit_off hni)
              obtain rfl := q2 (ready_waits hr (show waitsB _ 3 2 = true by kernel_rfl))
              refine wpOp_of rfl ?_
              refine step_two rfl (.tmp 32) (.tmp 34) rfl B0 x32 [] rfl (hcp.own 0 _ rfl) hcp.size (.slice A n.keys.length c) B0 n.keys rfl (hks.out.below hcp.below) (by simp; omega) ?_
              intro v2 w2 ho hg hf
              rw [List.nil_append] at ho
              exact (HI.out _ _ _).2 ⟨_, _, _, _, _, _, _, _, _, _, _, _, _, _, _, _, _, _, _, _, _, _, _, _, _, rfl, (hcp.set 0 (x32, []) rfl v2 _ ho hg hf), (fun hb => (q1 (bit_ne (by decide) hb))), (fun hb => (q2 (bit_ne (by decide) hb))), (fun hb => (q4 (bit_ne (by decide) hb))), (fun hb => (q8 (bit_ne (by decide) hb))), (fun hb => (q9 (bit_ne (by decide) hb))), (fun hb => (q11 (bit_ne (by decide) hb))), (fun _ => bit_keep (ready_waits hr (show waitsB _ 3 0 = true by kernel_rfl))), (fun hb => bit_keep (p10 (bit_ne (by decide) hb))), (fun _ hn => absurd (bit_self (by omega)) hn), (fun _ _ => ⟨rfl, rfl⟩), (fun hb hn => q5 (bit_ne (by decide) hb) (fun h => hn (bit_keep h))), (fun hb => absurd ((q6 (bit_ne (by decide) hb)).1.2.1) (bit_off hni)), (fun hb hn => q7 (bit_ne (by decide) hb) (fun h => hn (bit_keep h))), (fun hb hn => q10 (bit_ne (by decide) hb) (fun h => hn (bit_keep h))), (fun hb hn => q12 (bit_ne (by decide) hb) (fun h => hn (bit_keep h))), (fun hb => ⟨⟨bit_keep ((q13 (bit_ne (by decide) hb)).1.1), bit_keep ((q13 (bit_ne (by decide) hb)).1.2.1), bit_keep ((q13 (bit_ne (by decide) hb)).1.2.2)⟩, (q13 (bit_ne (by decide) hb)).2⟩), (fun hb => ⟨⟨bit_keep ((q14 (bit_ne (by decide) hb)).1.1), bit_keep ((q14 (bit_ne (by decide) hb)).1.2)⟩, (q14 (bit_ne (by decide) hb)).2⟩), (fun hb hn => q15 (bit_ne (by decide) hb) (fun h => hn (bit_keep h))), (fun hb => absurd ((q16 (bit_ne (by decide) hb)).1 3 (by decide)) (bit_off hni))⟩
            · refine wpOp_of rfl ?_
              go_simp
              exact (HI.out _ _ _).2 ⟨_, _, _, _, _, _, _, _, _, _, _, _, _, _, _, _, _, _, _, _, _, _, _, _, _, rfl, hcp, (fun hb => (q1 (bit_ne (by decide) hb))), (fun hb => (q2 (bit_ne (by decide) hb))), (fun _ => rfl), (fun hb => (q8 (bit_ne (by decide) hb))), (fun hb => (q9 (bit_ne (by decide) hb))), (fun hb => (q11 (bit_ne (by decide) hb))), (fun hb => bit_keep (p3 (bit_ne (by decide) hb))), (fun hb => bit_keep (p10 (bit_ne (by decide) hb))), (fun hb hn => q0 (bit_ne (by decide) hb) (fun h => hn (bit_keep h))), (fun hb hn => q3 (bit_ne (by decide) hb) (fun h => hn (bit_keep h))), (fun hb hn => q5 (bit_ne (by decide) hb) (fun h => hn (bit_keep h))), (fun hb => ⟨⟨bit_keep ((q6 (bit_ne (by decide) hb)).1.1), bit_keep ((q6 (bit_ne (by decide) hb)).1.2.1), bit_keep ((q6 (bit_ne (by decide) hb)).1.2.2)⟩, (q6 (bit_ne (by decide) hb)).2⟩), (fun hb hn => q7 (bit_ne (by decide) hb) (fun h => hn (bit_keep h))), (fun hb hn => q10 (bit_ne (by decide) hb) (fun h => hn (bit_keep h))), (fun hb hn => q12 (bit_ne (by decide) hb) (fun h => hn (bit_keep h))), (fun hb => ⟨⟨bit_keep ((q13 (bit_ne (by decide) hb)).1.1), bit_keep ((q13 (bit_ne (by decide) hb)).1.2.1), bit_keep ((q13 (bit_ne (by decide) hb)).1.2.2)⟩, (q13 (bit_ne (by decide) hb)).2⟩), (fun hb => ⟨⟨bit_keep ((q14 (bit_ne (by decide) hb)).1.1), bit_keep ((q14 (bit_ne (by decide) hb)).1.2)⟩, (q14 (bit_ne (by decide) hb)).2⟩), (fun hb hn => q15 (bit_ne (by decide) hb) (fun h => hn (bit_keep h))), (fun hb => absurd ((q16 (bit_ne (by decide) hb)).1 4 (by decide)) (bit_off hni))⟩
            · obtain rfl := q4 (ready_waits hr (show waitsB _ 5 4 = true by kernel_rfl))
              refine wpOp_of rfl ?_
              go_simp
              exact (HI.out _ _ _).2 ⟨_, _, _, _, _, _, _, _, _, _, _, _, _, _, _, _, _, _, _, _, _, _, _, _, _, rfl, (hcp.set 1 (_, _) rfl _ [kl] (owns_one wx B0 hcp.size kl) (grown_new _ _ _) (.inr fun k hk => by have hk2 : some wx.heap.size = some k := hk; injection hk2 with hk2; omega)), (fun hb => (q1 (bit_ne (by decide) hb))), (fun hb => (q2 (bit_ne (by decide) hb))), (fun hb => (q4 (bit_ne (by decide) hb))), (fun hb => (q8 (bit_ne (by decide) hb))), (fun hb => (q9 (bit_ne (by decide) hb))), (fun hb => (q11 (bit_ne (by decide) hb))), (fun hb => bit_keep (p3 (bit_ne (by decide) hb))), (fun hb => bit_keep (p10 (bit_ne (by decide) hb))), (fun hb hn => q0 (bit_ne (by decide) hb) (fun h => hn (bit_keep h))), (fun hb hn => q3 (bit_ne (by decide) hb) (fun h => hn (bit_keep h))), (fun _ _ => ⟨rfl, rfl⟩), (fun hb => absurd ((q6 (bit_ne (by decide) hb)).1.2.2) (bit_off hni)), (fun hb hn => q7 (bit_ne (by decide) hb) (fun h => hn (bit_keep h))), (fun hb hn => q10 (bit_ne (by decide) hb) (fun h => hn (bit_keep h))), (fun hb hn => q12 (bit_ne (by decide) hb) (fun h => hn (bit_keep h))), (fun hb => ⟨⟨bit_keep ((q13 (bit_ne (by decide) hb)).1.1), bit_keep ((q13 (bit_ne (by decide) hb)).1.2.1), bit_keep ((q13 (bit_ne (by decide) hb)).1.2.2)⟩, (q13 (bit_ne (by decide) hb)).2⟩), (fun hb => ⟨⟨bit_keep ((q14 (bit_ne (by decide) hb)).1.1), bit_keep ((q14 (bit_ne (by decide) hb)).1.2)⟩, (q14 (bit_ne (by decide) hb)).2⟩), (fun hb hn => q15 (bit_ne (by decide) hb) (fun h => hn (bit_keep h))), (fun hb => absurd ((q16 (bit_ne (by decide) hb)).1 5 (by decide)) (bit_off hni))⟩
            · obtain ⟨rfl, rfl⟩ := q3 (ready_waits hr (show waitsB _ 6 3 = true by kernel_rfl)) (bit_off hni)
              obtain ⟨rfl, rfl⟩ := q5 (ready_waits hr (show waitsB _ 6 5 = true by kernel_rfl)) (bit_off hni)
              refine wpOp_of rfl ?_
              refine step_two rfl (.tmp 35) (.tmp 37) rfl B0 x35 n.keys rfl (hcp.own 0 _ rfl) hcp.size x37 _ [kl] rfl (OwnS.strs (hcp.own 1 _ rfl)) (by simp; omega) ?_
              intro v2 w2 ho hg hf
              rw [HLK.out] at ho
              exact (HI.out _ _ _).2 ⟨_, _, _, _, _, _, _, _, _, _, _, _, _, _, _, _, _, _, _, _, _, _, _, _, _, rfl, (hcp.set 0 (x35, n.keys) rfl v2 _ ho hg hf), (fun hb => (q1 (bit_ne (by decide) hb))), (fun hb => (q2 (bit_ne (by decide) hb))), (fun hb => (q4 (bit_ne (by decide) hb))), (fun hb => (q8 (bit_ne (by decide) hb))), (fun hb => (q9 (bit_ne (by decide) hb))), (fun hb => (q11 (bit_ne (by decide) hb))), (fun hb => bit_keep (p3 (bit_ne (by decide) hb))), (fun hb => bit_keep (p10 (bit_ne (by decide) hb))), (fun _ hn => absurd (bit_keep (ready_waits hr (show waitsB _ 6 3 = true by kernel_rfl))) hn), (fun _ hn => absurd (bit_self (by omega)) hn), (fun _ hn => absurd (bit_self (by omega)) hn), (fun _ => ⟨⟨bit_keep (p3 (ready_waits hr (show waitsB _ 6 3 = true by kernel_rfl))), bit_keep (ready_waits hr (show waitsB _ 6 3 = true by kernel_rfl)), bit_keep (ready_waits hr (show waitsB _ 6 5 = true by kernel_rfl))⟩, rfl, rfl⟩), (fun hb hn => q7 (bit_ne (by decide) hb) (fun h => hn (bit_keep h))), (fun hb hn => q10 (bit_ne (by decide) hb) (fun h => hn (bit_keep h))), (fun hb hn => q12 (bit_ne (by decide) hb) (fun h => hn (bit_keep h))), (fun hb => ⟨⟨bit_keep ((q13 (bit_ne (by decide) hb)).1.1), bit_keep ((q13 (bit_ne (by decide) hb)).1.2.1), bit_keep ((q13 (bit_ne (by decide) hb)).1.2.2)⟩, (q13 (bit_ne (by decide) hb)).2⟩), (fun hb => absurd ((q14 (bit_ne (by decide) hb)).1.1) (bit_off hni)), (fun hb hn => q15 (bit_ne (by decide) hb) (fun h => hn (bit_keep h))), (fun hb => absurd ((q16 (bit_ne (by decide) hb)).1 6 (by decide)) (bit_off hni))⟩
            · refine wpOp_of rfl ?_
              go_simp
              exact (HI.out _ _ _).2 ⟨_, _, _, _, _, _, _, _, _, _, _, _, _, _, _, _, _, _, _, _, _, _, _, _, _, rfl, (hcp.set 2 (_, _) rfl _ [] (owns_new wx B0 hcp.size) (grown_new _ _ _) (.inr fun k hk => by have hk2 : some wx.heap.size = some k := hk; injection hk2 with hk2; omega)), (fun hb => (q1 (bit_ne (by decide) hb))), (fun hb => (q2 (bit_ne (by decide) hb))), (fun hb => (q4 (bit_ne (by decide) hb))), (fun hb => (q8 (bit_ne (by decide) hb))), (fun hb => (q9 (bit_ne (by decide) hb))), (fun hb => (q11 (bit_ne (by decide) hb))), (fun hb => bit_keep (p3 (bit_ne (by decide) hb))), (fun hb => bit_keep (p10 (bit_ne (by decide) hb))), (fun hb hn => q0 (bit_ne (by decide) hb) (fun h => hn (bit_keep h))), (fun hb hn => q3 (bit_ne (by decide) hb) (fun h => hn (bit_keep h))), (fun hb hn => q5 (bit_ne (by decide) hb) (fun h => hn (bit_keep h))), (fun hb => ⟨⟨bit_keep ((q6 (bit_ne (by decide) hb)).1.1), bit_keep ((q6 (bit_ne (by decide) hb)).1.2.1), bit_keep ((q6 (bit_ne (by decide) hb)).1.2.2)⟩, (q6 (bit_ne (by decide) hb)).2⟩), (fun _ _ => ⟨rfl, rfl⟩), (fun hb _ => absurd (p10 (bit_ne (by decide) hb)) (bit_off hni)), (fun hb hn => q12 (bit_ne (by decide) hb) (fun h => hn (bit_keep h))), (fun hb => absurd ((q13 (bit_ne (by decide) hb)).1.1) (bit_off hni)), (fun hb => ⟨⟨bit_keep ((q14 (bit_ne (by decide) hb)).1.1), bit_keep ((q14 (bit_ne (by decide) hb)).1.2)⟩, (q14 (bit_ne (by decide) hb)).2⟩), (fun hb hn => q15 (bit_ne (by decide) hb) (fun h => hn (bit_keep h))), (fun hb => absurd ((q16 (bit_ne (by decide) hb)).1 7 (by decide)) (bit_off hni))⟩
            · refine wpOp_of rfl ?_
              go_simp
              exact (HI.out _ _ _).2 ⟨_, _, _, _, _, _, _, _, _, _, _, _, _, _, _, _, _, _, _, _, _, _, _, _, _, rfl, hcp, (fun hb => (q1 (bit_ne (by decide) hb))), (fun hb => (q2 (bit_ne (by decide) hb))), (fun hb => (q4 (bit_ne (by decide) hb))), (fun _ => rfl), (fun hb => (q9 (bit_ne (by decide) hb))), (fun hb => (q11 (bit_ne (by decide) hb))), (fun hb => bit_keep (p3 (bit_ne (by decide) hb))), (fun hb => bit_keep (p10 (bit_ne (by decide) hb))), (fun hb hn => q0 (bit_ne (by decide) hb) (fun h => hn (bit_keep h))), (fun hb hn => q3 (bit_ne (by decide) hb) (fun h => hn (bit_keep h))), (fun hb hn => q5 (bit_ne (by decide) hb) (fun h => hn (bit_keep h))), (fun hb => ⟨⟨bit_keep ((q6 (bit_ne (by decide) hb)).1.1), bit_keep ((q6 (bit_ne (by decide) hb)).1.2.1), bit_keep ((q6 (bit_ne (by decide) hb)).1.2.2)⟩, (q6 (bit_ne (by decide) hb)).2⟩), (fun hb hn => q7 (bit_ne (by decide) hb) (fun h => hn (bit_keep h))), (fun hb hn => q10 (bit_ne (by decide) hb) (fun h => hn (bit_keep h))), (fun hb hn => q12 (bit_ne (by decide) hb) (fun h => hn (bit_keep h))), (fun hb => ⟨⟨bit_keep ((q13 (bit_ne (by decide) hb)).1.1), bit_keep ((q13 (bit_ne (by decide) hb)).1.2.1), bit_keep ((q13 (bit_ne (by decide) hb)).1.2.2)⟩, (q13 (bit_ne (by decide) hb)).2⟩), (fun hb => ⟨⟨bit_keep ((q14 (bit_ne (by decide) hb)).1.1), bit_keep ((q14 (bit_ne (by decide) hb)).1.2)⟩, (q14 (bit_ne (by decide) hb)).2⟩), (fun hb hn => q15 (bit_ne (by decide) hb) (fun h => hn (bit_keep h))), (fun hb => absurd ((q16 (bit_ne (by decide) hb)).1 8 (by decide)) (bit_off hni))⟩
            · obtain rfl := q8 (ready_waits hr (show waitsB _ 9 8 = true by kernel_rfl))
              have hbx := HX.out.below hcp.below (by omega)
              have d0 := hbx.cell0; have d1 := hbx.cell1; have d2 := hbx.cell2; have d3 := hbx.cell3
              clear hbx
              refine wpOp_of rfl ?_
              go_simp
              exact (HI.out _ _ _).2 ⟨_, _, _, _, _, _, _, _, _, _, _, _, _, _, _, _, _, _, _, _, _, _, _, _, _, rfl, hcp, (fun hb => (q1 (bit_ne (by decide) hb))), (fun hb => (q2 (bit_ne (by decide) hb))), (fun hb => (q4 (bit_ne (by decide) hb))), (fun hb => (q8 (bit_ne (by decide) hb))), (fun _ => rfl), (fun hb => (q11 (bit_ne (by decide) hb))), (fun hb => bit_keep (p3 (bit_ne (by decide) hb))), (fun hb => bit_keep (p10 (bit_ne (by decide) hb))), (fun hb hn => q0 (bit_ne (by decide) hb) (fun h => hn (bit_keep h))), (fun hb hn => q3 (bit_ne (by decide) hb) (fun h => hn (bit_keep h))), (fun hb hn => q5 (bit_ne (by decide) hb) (fun h => hn (bit_keep h))), (fun hb => ⟨⟨bit_keep ((q6 (bit_ne (by decide) hb)).1.1), bit_keep ((q6 (bit_ne (by decide) hb)).1.2.1), bit_keep ((q6 (bit_ne (by decide) hb)).1.2.2)⟩, (q6 (bit_ne (by decide) hb)).2⟩), (fun hb hn => q7 (bit_ne (by decide) hb) (fun h => hn (bit_keep h))), (fun hb hn => q10 (bit_ne (by decide) hb) (fun h => hn (bit_keep h))), (fun hb hn => q12 (bit_ne (by decide) hb) (fun h => hn (bit_keep h))), (fun hb => ⟨⟨bit_keep ((q13 (bit_ne (by decide) hb)).1.1), bit_keep ((q13 (bit_ne (by decide) hb)).1.2.1), bit_keep ((q13 (bit_ne (by decide) hb)).1.2.2)⟩, (q13 (bit_ne (by decide) hb)).2⟩), (fun hb => ⟨⟨bit_keep ((q14 (bit_ne (by decide) hb)).1.1), bit_keep ((q14 (bit_ne (by decide) hb)).1.2)⟩, (q14 (bit_ne (by decide) hb)).2⟩), (fun hb hn => q15 (bit_ne (by decide) hb) (fun h => hn (bit_keep h))), (fun hb => absurd ((q16 (bit_ne (by decide) hb)).1 9 (by decide)) (bit_off hni))⟩
            · obtain ⟨rfl, rfl⟩ := q7 (ready_waits hr (show waitsB _ 10 7 = true by kernel_rfl)) (bit_off hni)
              obtain rfl := q9 (ready_waits hr (show waitsB _ 10 9 = true by kernel_rfl))
              refine wpOp_of rfl ?_
              refine step_two rfl (.tmp 39) (.tmp 41) rfl B0 x39 [] rfl (hcp.own 2 _ rfl) hcp.size (.slice A2 n.vals.length c2) B0 n.vals rfl (hvs.out.below hcp.below) (by simp; omega) ?_
              intro v2 w2 ho hg hf
              rw [List.nil_append] at ho
              exact (HI.out _ _ _).2 ⟨_, _, _, _, _, _, _, _, _, _, _, _, _, _, _, _, _, _, _, _, _, _, _, _, _, rfl, (hcp.set 2 (x39, []) rfl v2 _ ho hg hf), (fun hb => (q1 (bit_ne (by decide) hb))), (fun hb => (q2 (bit_ne (by decide) hb))), (fun hb => (q4 (bit_ne (by decide) hb))), (fun hb => (q8 (bit_ne (by decide) hb))), (fun hb => (q9 (bit_ne (by decide) hb))), (fun hb => (q11 (bit_ne (by decide) hb))), (fun hb => bit_keep (p3 (bit_ne (by decide) hb))), (fun _ => bit_keep (ready_waits hr (show waitsB _ 10 7 = true by kernel_rfl))), (fun hb hn => q0 (bit_ne (by decide) hb) (fun h => hn (bit_keep h))), (fun hb hn => q3 (bit_ne (by decide) hb) (fun h => hn (bit_keep h))), (fun hb hn => q5 (bit_ne (by decide) hb) (fun h => hn (bit_keep h))), (fun hb => ⟨⟨bit_keep ((q6 (bit_ne (by decide) hb)).1.1), bit_keep ((q6 (bit_ne (by decide) hb)).1.2.1), bit_keep ((q6 (bit_ne (by decide) hb)).1.2.2)⟩, (q6 (bit_ne (by decide) hb)).2⟩), (fun _ hn => absurd (bit_self (by omega)) hn), (fun _ _ => ⟨rfl, rfl⟩), (fun hb hn => q12 (bit_ne (by decide) hb) (fun h => hn (bit_keep h))), (fun hb => absurd ((q13 (bit_ne (by decide) hb)).1.2.1) (bit_off hni)), (fun hb => ⟨⟨bit_keep ((q14 (bit_ne (by decide) hb)).1.1), bit_keep ((q14 (bit_ne (by decide) hb)).1.2)⟩, (q14 (bit_ne (by decide) hb)).2⟩), (fun hb hn => q15 (bit_ne (by decide) hb) (fun h => hn (bit_keep h))), (fun hb => absurd ((q16 (bit_ne (by decide) hb)).1 10 (by decide)) (bit_off hni))⟩
            · refine wpOp_of rfl ?_
              go_simp
              exact (HI.out _ _ _).2 ⟨_, _, _, _, _, _, _, _, _, _, _, _, _, _, _, _, _, _, _, _, _, _, _, _, _, rfl, hcp, (fun hb => (q1 (bit_ne (by decide) hb))), (fun hb => (q2 (bit_ne (by decide) hb))), (fun hb => (q4 (bit_ne (by decide) hb))), (fun hb => (q8 (bit_ne (by decide) hb))), (fun hb => (q9 (bit_ne (by decide) hb))), (fun _ => rfl), (fun hb => bit_keep (p3 (bit_ne (by decide) hb))), (fun hb => bit_keep (p10 (bit_ne (by decide) hb))), (fun hb hn => q0 (bit_ne (by decide) hb) (fun h => hn (bit_keep h))), (fun hb hn => q3 (bit_ne (by decide) hb) (fun h => hn (bit_keep h))), (fun hb hn => q5 (bit_ne (by decide) hb) (fun h => hn (bit_keep h))), (fun hb => ⟨⟨bit_keep ((q6 (bit_ne (by decide) hb)).1.1), bit_keep ((q6 (bit_ne (by decide) hb)).1.2.1), bit_keep ((q6 (bit_ne (by decide) hb)).1.2.2)⟩, (q6 (bit_ne (by decide) hb)).2⟩), (fun hb hn => q7 (bit_ne (by decide) hb) (fun h => hn (bit_keep h))), (fun hb hn => q10 (bit_ne (by decide) hb) (fun h => hn (bit_keep h))), (fun hb hn => q12 (bit_ne (by decide) hb) (fun h => hn (bit_keep h))), (fun hb => ⟨⟨bit_keep ((q13 (bit_ne (by decide) hb)).1.1), bit_keep ((q13 (bit_ne (by decide) hb)).1.2.1), bit_keep ((q13 (bit_ne (by decide) hb)).1.2.2)⟩, (q13 (bit_ne (by decide) hb)).2⟩), (fun hb => ⟨⟨bit_keep ((q14 (bit_ne (by decide) hb)).1.1), bit_keep ((q14 (bit_ne (by decide) hb)).1.2)⟩, (q14 (bit_ne (by decide) hb)).2⟩), (fun hb hn => q15 (bit_ne (by decide) hb) (fun h => hn (bit_keep h))), (fun hb => absurd ((q16 (bit_ne (by decide) hb)).1 11 (by decide)) (bit_off hni))⟩
            · obtain rfl := q11 (ready_waits hr (show waitsB _ 12 11 = true by kernel_rfl))
              refine wpOp_of rfl ?_
              go_simp
              exact (HI.out _ _ _).2 ⟨_, _, _, _, _, _, _, _, _, _, _, _, _, _, _, _, _, _, _, _, _, _, _, _, _, rfl, (hcp.set 3 (_, _) rfl _ [vl] (owns_one wx B0 hcp.size vl) (grown_new _ _ _) (.inr fun k hk => by have hk2 : some wx.heap.size = some k := hk; injection hk2 with hk2; omega)), (fun hb => (q1 (bit_ne (by decide) hb))), (fun hb => (q2 (bit_ne (by decide) hb))), (fun hb => (q4 (bit_ne (by decide) hb))), (fun hb => (q8 (bit_ne (by decide) hb))), (fun hb => (q9 (bit_ne (by decide) hb))), (fun hb => (q11 (bit_ne (by decide) hb))), (fun hb => bit_keep (p3 (bit_ne (by decide) hb))), (fun hb => bit_keep (p10 (bit_ne (by decide) hb))), (fun hb hn => q0 (bit_ne (by decide) hb) (fun h => hn (bit_keep h))), (fun hb hn => q3 (bit_ne (by decide) hb) (fun h => hn (bit_keep h))), (fun hb hn => q5 (bit_ne (by decide) hb) (fun h => hn (bit_keep h))), (fun hb => ⟨⟨bit_keep ((q6 (bit_ne (by decide) hb)).1.1), bit_keep ((q6 (bit_ne (by decide) hb)).1.2.1), bit_keep ((q6 (bit_ne (by decide) hb)).1.2.2)⟩, (q6 (bit_ne (by decide) hb)).2⟩), (fun hb hn => q7 (bit_ne (by decide) hb) (fun h => hn (bit_keep h))), (fun hb hn => q10 (bit_ne (by decide) hb) (fun h => hn (bit_keep h))), (fun _ _ => ⟨rfl, rfl⟩), (fun hb => absurd ((q13 (bit_ne (by decide) hb)).1.2.2) (bit_off hni)), (fun hb => ⟨⟨bit_keep ((q14 (bit_ne (by decide) hb)).1.1), bit_keep ((q14 (bit_ne (by decide) hb)).1.2)⟩, (q14 (bit_ne (by decide) hb)).2⟩), (fun hb hn => q15 (bit_ne (by decide) hb) (fun h => hn (bit_keep h))), (fun hb => absurd ((q16 (bit_ne (by decide) hb)).1 12 (by decide)) (bit_off hni))⟩
            · obtain ⟨rfl, rfl⟩ := q10 (ready_waits hr (show waitsB _ 13 10 = true by kernel_rfl)) (bit_off hni)
              obtain ⟨rfl, rfl⟩ := q12 (ready_waits hr (show waitsB _ 13 12 = true by kernel_rfl)) (bit_off hni)
              refine wpOp_of rfl ?_
              refine step_two rfl (.tmp 42) (.tmp 44) rfl B0 x42 n.vals rfl (hcp.own 2 _ rfl) hcp.size x44 _ [vl] rfl (OwnS.strs (hcp.own 3 _ rfl)) (by simp; omega) ?_
              intro v2 w2 ho hg hf
              rw [HLV.out] at ho
              exact (HI.out _ _ _).2 ⟨_, _, _, _, _, _, _, _, _, _, _, _, _, _, _, _, _, _, _, _, _, _, _, _, _, rfl, (hcp.set 2 (x42, n.vals) rfl v2 _ ho hg hf), (fun hb => (q1 (bit_ne (by decide) hb))), (fun hb => (q2 (bit_ne (by decide) hb))), (fun hb => (q4 (bit_ne (by decide) hb))), (fun hb => (q8 (bit_ne (by decide) hb))), (fun hb => (q9 (bit_ne (by decide) hb))), (fun hb => (q11 (bit_ne (by decide) hb))), (fun hb => bit_keep (p3 (bit_ne (by decide) hb))), (fun hb => bit_keep (p10 (bit_ne (by decide) hb))), (fun hb hn => q0 (bit_ne (by decide) hb) (fun h => hn (bit_keep h))), (fun hb hn => q3 (bit_ne (by decide) hb) (fun h => hn (bit_keep h))), (fun hb hn => q5 (bit_ne (by decide) hb) (fun h => hn (bit_keep h))), (fun hb => ⟨⟨bit_keep ((q6 (bit_ne (by decide) hb)).1.1), bit_keep ((q6 (bit_ne (by decide) hb)).1.2.1), bit_keep ((q6 (bit_ne (by decide) hb)).1.2.2)⟩, (q6 (bit_ne (by decide) hb)).2⟩), (fun _ hn => absurd (bit_keep (ready_waits hr (show waitsB _ 13 10 = true by kernel_rfl))) hn), (fun _ hn => absurd (bit_self (by omega)) hn), (fun _ hn => absurd (bit_self (by omega)) hn), (fun _ => ⟨⟨bit_keep (p10 (ready_waits hr (show waitsB _ 13 10 = true by kernel_rfl))), bit_keep (ready_waits hr (show waitsB _ 13 10 = true by kernel_rfl)), bit_keep (ready_waits hr (show waitsB _ 13 12 = true by kernel_rfl))⟩, rfl, rfl⟩), (fun hb => absurd ((q14 (bit_ne (by decide) hb)).1.2) (bit_off hni)), (fun hb hn => q15 (bit_ne (by decide) hb) (fun h => hn (bit_keep h))), (fun hb => absurd ((q16 (bit_ne (by decide) hb)).1 13 (by decide)) (bit_off hni))⟩
            · obtain ⟨_, rfl, eq6⟩ := q6 (ready_waits hr (show waitsB _ 14 6 = true by kernel_rfl))
              have eq6 := eq6.symm
              subst eq6
              obtain ⟨_, rfl, eq13⟩ := q13 (ready_waits hr (show waitsB _ 14 13 = true by kernel_rfl))
              have eq13 := eq13.symm
              subst eq13
              obtain ⟨Y1, k1, hy1, _, _⟩ := (hcp.own 0 _ rfl).strs.len
              have hy1 : x38 = .slice Y1 LK.length k1 := hy1
              subst hy1
              obtain ⟨Y2, k2, hy2, _, _⟩ := (hcp.own 2 _ rfl).strs.len
              have hy2 : x45 = .slice Y2 LV.length k2 := hy2
              subst hy2
              refine wpOp_of rfl ?_
              go_simp
              exact (HI.out _ _ _).2 ⟨_, _, _, _, _, _, _, _, _, _, _, _, _, _, _, _, _, _, _, _, _, _, _, _, _, rfl, hcp, (fun hb => (q1 (bit_ne (by decide) hb))), (fun hb => (q2 (bit_ne (by decide) hb))), (fun hb => (q4 (bit_ne (by decide) hb))), (fun hb => (q8 (bit_ne (by decide) hb))), (fun hb => (q9 (bit_ne (by decide) hb))), (fun hb => (q11 (bit_ne (by decide) hb))), (fun hb => bit_keep (p3 (bit_ne (by decide) hb))), (fun hb => bit_keep (p10 (bit_ne (by decide) hb))), (fun hb hn => q0 (bit_ne (by decide) hb) (fun h => hn (bit_keep h))), (fun hb hn => q3 (bit_ne (by decide) hb) (fun h => hn (bit_keep h))), (fun hb hn => q5 (bit_ne (by decide) hb) (fun h => hn (bit_keep h))), (fun hb => ⟨⟨bit_keep ((q6 (bit_ne (by decide) hb)).1.1), bit_keep ((q6 (bit_ne (by decide) hb)).1.2.1), bit_keep ((q6 (bit_ne (by decide) hb)).1.2.2)⟩, (q6 (bit_ne (by decide) hb)).2⟩), (fun hb hn => q7 (bit_ne (by decide) hb) (fun h => hn (bit_keep h))), (fun hb hn => q10 (bit_ne (by decide) hb) (fun h => hn (bit_keep h))), (fun hb hn => q12 (bit_ne (by decide) hb) (fun h => hn (bit_keep h))), (fun hb => ⟨⟨bit_keep ((q13 (bit_ne (by decide) hb)).1.1), bit_keep ((q13 (bit_ne (by decide) hb)).1.2.1), bit_keep ((q13 (bit_ne (by decide) hb)).1.2.2)⟩, (q13 (bit_ne (by decide) hb)).2⟩), (fun _ => ⟨⟨bit_keep (ready_waits hr (show waitsB _ 14 6 = true by kernel_rfl)), bit_keep (ready_waits hr (show waitsB _ 14 13 = true by kernel_rfl))⟩, rfl⟩), (fun hb hn => q15 (bit_ne (by decide) hb) (fun h => hn (bit_keep h))), (fun hb => absurd ((q16 (bit_ne (by decide) hb)).1 14 (by decide)) (bit_off hni))⟩
            · refine wpOp_of rfl ?_
              go_simp
              exact (HI.out _ _ _).2 ⟨_, _, _, _, _, _, _, _, _, _, _, _, _, _, _, _, _, _, _, _, _, _, _, _, _, rfl, hcp.lay, (fun hb => (q1 (bit_ne (by decide) hb))), (fun hb => (q2 (bit_ne (by decide) hb))), (fun hb => (q4 (bit_ne (by decide) hb))), (fun hb => (q8 (bit_ne (by decide) hb))), (fun hb => (q9 (bit_ne (by decide) hb))), (fun hb => (q11 (bit_ne (by decide) hb))), (fun hb => bit_keep (p3 (bit_ne (by decide) hb))), (fun hb => bit_keep (p10 (bit_ne (by decide) hb))), (fun hb hn => q0 (bit_ne (by decide) hb) (fun h => hn (bit_keep h))), (fun hb hn => q3 (bit_ne (by decide) hb) (fun h => hn (bit_keep h))), (fun hb hn => q5 (bit_ne (by decide) hb) (fun h => hn (bit_keep h))), (fun hb => ⟨⟨bit_keep ((q6 (bit_ne (by decide) hb)).1.1), bit_keep ((q6 (bit_ne (by decide) hb)).1.2.1), bit_keep ((q6 (bit_ne (by decide) hb)).1.2.2)⟩, (q6 (bit_ne (by decide) hb)).2⟩), (fun hb hn => q7 (bit_ne (by decide) hb) (fun h => hn (bit_keep h))), (fun hb hn => q10 (bit_ne (by decide) hb) (fun h => hn (bit_keep h))), (fun hb hn => q12 (bit_ne (by decide) hb) (fun h => hn (bit_keep h))), (fun hb => ⟨⟨bit_keep ((q13 (bit_ne (by decide) hb)).1.1), bit_keep ((q13 (bit_ne (by decide) hb)).1.2.1), bit_keep ((q13 (bit_ne (by decide) hb)).1.2.2)⟩, (q13 (bit_ne (by decide) hb)).2⟩), (fun hb => ⟨⟨bit_keep ((q14 (bit_ne (by decide) hb)).1.1), bit_keep ((q14 (bit_ne (by decide) hb)).1.2)⟩, (q14 (bit_ne (by decide) hb)).2⟩), (fun _ _ => ⟨_, rfl, rfl⟩), (fun hb => absurd ((q16 (bit_ne (by decide) hb)).1 15 (by decide)) (bit_off hni))⟩
            · obtain ⟨G, rfl, rfl⟩ := q15 (ready_waits hr (show waitsB _ 16 15 = true by kernel_rfl)) (bit_off hni)
              obtain ⟨_, rfl⟩ := q14 (ready_waits hr (show waitsB _ 16 14 = true by kernel_rfl))
              obtain ⟨_, rfl, eq6⟩ := q6 (ready_waits hr (show waitsB _ 16 6 = true by kernel_rfl))
              have eq6 := eq6.symm
              subst eq6
              obtain ⟨_, rfl, eq13⟩ := q13 (ready_waits hr (show waitsB _ 16 13 = true by kernel_rfl))
              have eq13 := eq13.symm
              subst eq13
              obtain ⟨hG, hbx⟩ := hcp.box G rfl
              have d0 := hbx.cell0; have d1 := hbx.cell1; have d2 := hbx.cell2; have d3 := hbx.cell3
              have f0 := hbx.frozen 0; have f1 := hbx.frozen 1; have f2 := hbx.frozen 2; have f3 := hbx.frozen 3
              clear hbx
              obtain ⟨Y1, k1, hy1, _, _⟩ := (hcp.own 0 _ rfl).strs.len
              have hy1 : x38 = .slice Y1 LK.length k1 := hy1
              subst hy1
              obtain ⟨Y2, k2, hy2, _, _⟩ := (hcp.own 2 _ rfl).strs.len
              have hy2 : x45 = .slice Y2 LV.length k2 := hy2
              subst hy2
              obtain ⟨hcp2, hbx2⟩ := hcp.fill true (.slice Y1 LK.length k1) (.slice Y2 LV.length k2) (.slice none 0 0)
              have wall2 : Hid (∀ j, j < 16 → listed.getD j false = true) := fun j hj => by
                rcases (by omega : j = 0 ∨ j = 1 ∨ j = 2 ∨ j = 3 ∨ j = 4 ∨ j = 5 ∨ j = 6 ∨ j = 7 ∨ j = 8 ∨ j = 9 ∨ j = 10 ∨ j = 11 ∨ j = 12 ∨ j = 13 ∨ j = 14 ∨ j = 15) with rfl | rfl | rfl | rfl | rfl | rfl | rfl | rfl | rfl | rfl | rfl | rfl | rfl | rfl | rfl | rfl
                all_goals exact ready_waits hr (by kernel_rfl)
              refine wpOp_of rfl ?_
              go_simp
              exact (HI.out _ _ _).2 ⟨_, _, _, _, _, _, _, _, _, _, _, _, _, _, _, _, _, _, _, _, _, _, _, _, _, rfl, hcp2, (fun hb => (q1 (bit_ne (by decide) hb))), (fun hb => (q2 (bit_ne (by decide) hb))), (fun hb => (q4 (bit_ne (by decide) hb))), (fun hb => (q8 (bit_ne (by decide) hb))), (fun hb => (q9 (bit_ne (by decide) hb))), (fun hb => (q11 (bit_ne (by decide) hb))), (fun hb => bit_keep (p3 (bit_ne (by decide) hb))), (fun hb => bit_keep (p10 (bit_ne (by decide) hb))), (fun hb hn => q0 (bit_ne (by decide) hb) (fun h => hn (bit_keep h))), (fun hb hn => q3 (bit_ne (by decide) hb) (fun h => hn (bit_keep h))), (fun hb hn => q5 (bit_ne (by decide) hb) (fun h => hn (bit_keep h))), (fun hb => ⟨⟨bit_keep ((q6 (bit_ne (by decide) hb)).1.1), bit_keep ((q6 (bit_ne (by decide) hb)).1.2.1), bit_keep ((q6 (bit_ne (by decide) hb)).1.2.2)⟩, (q6 (bit_ne (by decide) hb)).2⟩), (fun hb hn => q7 (bit_ne (by decide) hb) (fun h => hn (bit_keep h))), (fun hb hn => q10 (bit_ne (by decide) hb) (fun h => hn (bit_keep h))), (fun hb hn => q12 (bit_ne (by decide) hb) (fun h => hn (bit_keep h))), (fun hb => ⟨⟨bit_keep ((q13 (bit_ne (by decide) hb)).1.1), bit_keep ((q13 (bit_ne (by decide) hb)).1.2.1), bit_keep ((q13 (bit_ne (by decide) hb)).1.2.2)⟩, (q13 (bit_ne (by decide) hb)).2⟩), (fun hb => ⟨⟨bit_keep ((q14 (bit_ne (by decide) hb)).1.1), bit_keep ((q14 (bit_ne (by decide) hb)).1.2)⟩, (q14 (bit_ne (by decide) hb)).2⟩), (fun _ hn => absurd (bit_self (by omega)) hn), (fun _ => ⟨fun j hj => bit_keep (wall2.out j hj), G, rfl, hG, hbx2⟩)⟩
          case hfin =>
            intro listed a wx hI0 hall
            obtain ⟨x7, x32, x33, x34, x35, x36, x37, x38, x39, x40, x41, x42, x43, x44, x45, x46, y1, z1, y2, z2, l1, m1, l2, m2, gb, rfl, hcp, q1, q2, q4, q8, q9, q11, p3, p10, q0, q3, q5, q6, q7, q10, q12, q13, q14, q15, q16⟩ := (HI.out _ _ _).1 hI0
            clear hI0
            obtain ⟨_, G, rfl, hG, hbx⟩ := q16 (hall 16 (by show 16 < 17; omega))
            obtain ⟨_, rfl, e6⟩ := q6 (hall 6 (by show 6 < 17; omega))
            have e6 := e6.symm
            subst e6
            obtain ⟨_, rfl, e13⟩ := q13 (hall 13 (by show 13 < 17; omega))
            have e13 := e13.symm
            subst e13
            clear q0 q1 q2 q3 q4 q5 q6 q7 q8 q9 q10 q11 q12 q13 q14 q15 q16 p3 p10 hall HI h00 h01
            obtain ⟨Y1, k1, hy1, _, _⟩ := (hcp.own 0 _ rfl).strs.len
            have hy1 : x38 = .slice Y1 LK.length k1 := hy1
            subst hy1
            obtain ⟨Y2, k2, hy2, _, _⟩ := (hcp.own 2 _ rfl).strs.len
            have hy2 : x45 = .slice Y2 LV.length k2 := hy2
            subst hy2
            have NM : Hid (NodeF wx B0 (.agg #[.bool true, .slice Y1 LK.length k1, .slice Y2 LV.length k2, .slice none 0 0]) ⟨true, LK, LV, []⟩) := ⟨_, _, _, rfl, hcp.own 0 _ rfl, hcp.own 2 _ rfl, OwnI.nil _ _⟩
            have HX := Lib.hid (HX.out.below hcp.below (by omega))
            have HB := Lib.hid (HB.out.trans (hcp.below.mono (by omega)))
            have GX := Lib.hid hbx
            have x0 := HX.out.cell0; have x1 := HX.out.cell1; have x2 := HX.out.cell2; have x3 := HX.out.cell3
            have y0 := GX.out.cell0; have y1 := GX.out.cell1; have y2 := GX.out.cell2; have y3 := GX.out.cell3
            clear hbx hcp
            cases hgm : good ⟨true, LK, LV, []⟩
            · have HGM := Lib.hid hgm
              have HZM : Hid (sizeN ⟨true, LK, LV, []⟩ = -1) := by unfold Hid sizeN; rw [hgm]; rfl
              clear hgm
              go_wp2_with (first
                | (go_at_call 12
                   go_must (
                   refine (lgood_any _ ⟨true, LK, LV, []⟩ _ NM.out.node hlk).mono ?_
                   rintro e w2 ⟨rfl, hb⟩
                   rw [HGM.out]
                   have HX := Lib.hid (HX.out.on hb); have HB := Lib.hid (HB.out.trans (hb.mono HB.out.size)); have GX := Lib.hid (GX.out.on hb); have NM := Lib.hid (NM.out.keep hb); have x0 := HX.out.cell0; have x1 := HX.out.cell1; have x2 := HX.out.cell2; have x3 := HX.out.cell3; have y0 := GX.out.cell0; have y1 := GX.out.cell1; have y2 := GX.out.cell2; have y3 := GX.out.cell3
                   clear hb))
                | (go_at_call 13
                   go_must (
                   refine (lsize_any _ ⟨true, LK, LV, []⟩ _ NM.out.node HSM.out (by simp)).mono ?_
                   rintro e w3 ⟨rfl, hb⟩
                   rw [HZM.out]
                   have HB := Lib.hid (HB.out.trans (hb.mono HB.out.size))
                   clear hb)))
              go_ret
              exact ⟨rfl, HB.out⟩
            · have HGM := Lib.hid hgm
              have HEQ : Hid ((encN ⟨true, LK, LV, []⟩).length = (encN n).length + 2 + kl.length + vl.length + (if n.keys.length = 63 then 1 else 0) + (if 127 < vl.length then 1 else 0)) := by
                unfold Hid
                rw [← HLK.out, ← HLV.out]
                exact size_more HG.out hlf hk1 (by rw [HLK.out, HLV.out]; exact (good_iff _).1 hgm)
              have HZM : Hid (sizeN ⟨true, LK, LV, []⟩ = ((encN ⟨true, LK, LV, []⟩).length : Nat)) := by unfold Hid sizeN; rw [hgm]; rfl
              clear hgm
              have hzz := small_sz HS.out (by omega) (fun p hp => by have := HG.out.kids p hp; omega)
              have hhd := head_lt HS.out (by omega)
              have hel := enc_le10 (x := head n) (by omega)
              have hln := encN_len HG.out
              have HZN : Hid (sizeN n = ((encN n).length : Nat)) := by unfold Hid sizeN; rw [(good_iff n).2 HG.out]; rfl
              obtain ⟨LN, hLN⟩ : ∃ x, (encN n).length = x := ⟨_, rfl⟩
              obtain ⟨LM, hLM⟩ : ∃ x, (encN ⟨true, LK, LV, []⟩).length = x := ⟨_, rfl⟩
              rw [hLN] at HZN HEQ hln
              rw [hLM] at HZM HEQ
              have hb1 : LN ≤ 200000000 := by rw [hln]; omega
              have hb2 : LM ≤ 200003000 := by rw [HEQ.out]; split <;> split <;> omega
              clear hLN hLM hzz hhd hel hln
              have hways : (n.keys.length = 63 ∧ (((n.keys.length : Nat) : Int) == 63) = true) ∨ (n.keys.length ≠ 63 ∧ (((n.keys.length : Nat) : Int) == 63) = false) := by
                by_cases h : n.keys.length = 63
                · exact .inl ⟨h, by rw [h]; rfl⟩
                · exact .inr ⟨h, by simp; omega⟩
              have hways2 : 127 < vl.length ∨ ¬ 127 < vl.length := by omega
              rcases hways with ⟨h63, hq⟩ | ⟨h63, hq⟩ <;> rcases hways2 with h127 | h127
              all_goals
                have HEQ2 : Hid (LM = _) := HEQ.out
                simp only [h63, h127, if_true, if_false] at HEQ2
                have HEQ3 : Hid (LM = _) := HEQ2
                have H63 := Lib.hid h63
                clear HEQ HEQ2 h63
                go_wp2_with (first
                  | (go_at_call 12
                     go_must (
                     refine (lgood_any _ ⟨true, LK, LV, []⟩ _ NM.out.node hlk).mono ?_
                     rintro e w2 ⟨rfl, hb⟩
                     rw [HGM.out]
                     have HX := Lib.hid (HX.out.on hb); have HB := Lib.hid (HB.out.trans (hb.mono HB.out.size)); have GX := Lib.hid (GX.out.on hb); have NM := Lib.hid (NM.out.keep hb); have x0 := HX.out.cell0; have x1 := HX.out.cell1; have x2 := HX.out.cell2; have x3 := HX.out.cell3; have y0 := GX.out.cell0; have y1 := GX.out.cell1; have y2 := GX.out.cell2; have y3 := GX.out.cell3
                     clear hb)))
                have HX := Lib.hid HX.out.drew
                have GX := Lib.hid GX.out.drew
                have HB := Lib.hid HB.out.drew
                have NM := Lib.hid (NM.out.keep (Below.refl _ _).drew)
                go_region_with (first
                  | (go_at_call_of 13 (Value.agg #[Value.bool true, Value.slice Y1 LK.length k1, Value.slice Y2 LV.length k2, Value.slice none 0 0])
                     go_must (
                     refine (lsize_any _ ⟨true, LK, LV, []⟩ _ NM.out.node HSM.out (by simp)).mono ?_
                     rintro e w3 ⟨rfl, hb⟩
                     rw [HZM.out]
                     have HX := Lib.hid (HX.out.on hb); have HB := Lib.hid (HB.out.trans (hb.mono HB.out.size)); have GX := Lib.hid (GX.out.on hb); have NM := Lib.hid (NM.out.keep hb); have x0 := HX.out.cell0; have x1 := HX.out.cell1; have x2 := HX.out.cell2; have x3 := HX.out.cell3; have y0 := GX.out.cell0; have y1 := GX.out.cell1; have y2 := GX.out.cell2; have y3 := GX.out.cell3
                     clear hb))
                  | (go_at_call_of 13 (Value.agg #[Value.bool true, Value.slice A n.keys.length c, Value.slice A2 n.vals.length c2, Value.slice A3 n.kids.length c3])
                     go_must (
                     refine (lsize_any _ n _ (H.out.over HB.out) HS.out HF.out.kid).mono ?_
                     rintro e w4 ⟨rfl, hb⟩
                     rw [HZN.out]
                     have HX := Lib.hid (HX.out.on hb); have HB := Lib.hid (HB.out.trans (hb.mono HB.out.size)); have GX := Lib.hid (GX.out.on hb); have NM := Lib.hid (NM.out.keep hb); have x0 := HX.out.cell0; have x1 := HX.out.cell1; have x2 := HX.out.cell2; have x3 := HX.out.cell3; have y0 := GX.out.cell0; have y1 := GX.out.cell1; have y2 := GX.out.cell2; have y3 := GX.out.cell3
                     clear hb)))
                all_goals
                  go_wp2
                  go_ret
                  refine ⟨?_, HB.out⟩
                  have h9 := HEQ3.out
                  clear x0 x1 x2 x3 y0 y1 y2 y3
                  simp [Act.put]
                  have w1 := IntWalk.i64_in ((LN : Int) + 2) (by omega)
                  have w2 := IntWalk.i64_in ((LN : Int) + 2 + kl.length) (by omega)
                  have w3 := IntWalk.i64_in ((LN : Int) + 2 + kl.length + vl.length) (by omega)
                  have w4 := IntWalk.i64_in ((LN : Int) + 2 + kl.length + vl.length + 1) (by omega)
                  have w5 := IntWalk.i64_in ((LN : Int) + 2 + kl.length + vl.length + 1 + 1) (by omega)
                  simp only [w1, w2, w3, w4, w5]
                  omega
  · have HGR := Lib.hid hgr
    clear hgr
    go_enter Try.func7, Try.ntmps7
    go_wp2_with (first
      | (go_at_call 8
         go_must (
         refine (aliveL_any _).mono ?_
         rintro e w1 ⟨rfl, hb⟩
         have HX := Lib.hid (HX.out.on hb); have HB := Lib.hid (HB.out.trans (hb.mono HB.out.size)); have x0 := HX.out.cell0; have x1 := HX.out.cell1; have x2 := HX.out.cell2; have x3 := HX.out.cell3
         clear hb))
      | (go_at_call 9
         go_must (
         refine (great_is _ n 1024 _ HGR.out _ (H.out.over HB.out) HF.out (by omega)).mono ?_
         rintro e w1 ⟨rfl, hb⟩
         have HX := Lib.hid (HX.out.on hb); have HB := Lib.hid (HB.out.trans (hb.mono HB.out.size)); have x0 := HX.out.cell0; have x1 := HX.out.cell1; have x2 := HX.out.cell2; have x3 := HX.out.cell3
         clear hb)))
    go_ret
    exact ⟨rfl, HB.out⟩

end Go.Proofs.Ytjilkpgbojjnfaa.LeafSizes
