/-
  LeafKeeps: what its text does, call by call. Conditions: none.
-/
import Derived.Test.YtjilkpgbojjnfaaAliveL
import Derived.Test.YtjilkpgbojjnfaaLeafDecode
import Derived.Test.YtjilkpgbojjnfaaRefSameN
import Derived.Test.YtjilkpgbojjnfaaCopies
namespace Go.Proofs.Ytjilkpgbojjnfaa.LeafKeeps
open Go.RowKit Go.Proofs.Ytjilkpgbojjnfaa.Cd

set_option maxRecDepth 100000 in
set_option maxHeartbeats 8000000 in
theorem walk (v : Value) (n : Nd) (w : World) (h : Cd.Node w w.heap.size v n ∧ Fits n) :
    Calls Try.prog 6 #[v] w (Gives (.bool true) w) := by
  obtain ⟨h, hf⟩ := h
  have H := Lib.hid h
  have HF := Lib.hid hf
  obtain ⟨vk, vv, vi, rfl, h1, h2, h3⟩ := h
  obtain ⟨A, c, rfl, _, _⟩ := h1.len
  obtain ⟨A2, c2, rfl, _, _⟩ := h2.len
  obtain ⟨A3, c3, rfl, _, m3⟩ := h3.len
  have H1 := Lib.hid h1
  have H2 := Lib.hid h2
  have H3 := Lib.hid h3
  clear h1 h2 h3
  have HX : Hid (Bx (w.alloc (.cells #[.bool n.leaf, .slice A n.keys.length c, .slice A2 n.vals.length c2, .slice A3 n.kids.length c3] 25)) w.heap.size n.leaf (.slice A n.keys.length c) (.slice A2 n.vals.length c2) (.slice A3 n.kids.length c3)) := heap_alloc_new w _
  have HB := Lib.hid (new_below w (.cells #[.bool n.leaf, .slice A n.keys.length c, .slice A2 n.vals.length c2, .slice A3 n.kids.length c3] 25))
  cases hgr : great n 4096
  · have hs := small_of hgr
    have HS : Hid (Small n 8192) := ⟨by have := hs.kids; omega, by have := hs.keys; omega, by have := hs.vals; omega, fun s h => by have := hs.key s h; omega, fun s h => by have := hs.val s h; omega⟩
    have HGR := Lib.hid hgr
    have hk1 := hs.keys
    have hk2 := hs.vals
    have hk3 := hs.kids
    clear hgr hs
    go_enter Try.func6, Try.ntmps6
    go_wp2_with (first
      | (go_at_call 8
         go_must (
         refine (aliveL_any _).mono ?_
         rintro e w1 ⟨rfl, hb⟩
         have HX := Lib.hid (HX.out.on hb); have HB := Lib.hid (HB.out.trans (hb.mono HB.out.size)); have x0 := HX.out.cell0; have x1 := HX.out.cell1; have x2 := HX.out.cell2; have x3 := HX.out.cell3
         clear hb))
      | (go_at_call 9
         go_must (
         refine (great_is _ n 4096 _ HGR.out _ (H.out.over HB.out) HF.out (by omega)).mono ?_
         rintro e w1 ⟨rfl, hb⟩
         have HX := Lib.hid (HX.out.on hb); have HB := Lib.hid (HB.out.trans (hb.mono HB.out.size)); have x0 := HX.out.cell0; have x1 := HX.out.cell1; have x2 := HX.out.cell2; have x3 := HX.out.cell3
         clear hb)))
    have hks := Lib.hid (H1.out.on HB.out)
    have hvs := Lib.hid (H2.out.on HB.out)
    have his := Lib.hid (H3.out.on HB.out)
    have hxl := HX.out.lt
    clear x0 x1 x2 x3
    obtain ⟨B0, hB0⟩ : ∃ b, w1.heap.size = b := ⟨_, rfl⟩
    rw [hB0] at hks hvs his hxl
    have h00 : ∀ (i : Nat) (r : Value × List (List UInt8)), [((.slice none 0 0 : Value), ([] : List (List UInt8))), (.slice none 0 0, [])][i]? = some r → OwnS w1.drew B0 r.1 r.2 := fun i r hr => by
      have h : r = (.slice none 0 0, []) := by
        rcases i with _ | _ | i
        · simpa using hr.symm
        · simpa using hr.symm
        · simp at hr
      rw [h]
      exact OwnS.nil _ _
    have h01 : ∀ (i j : Nat) (r s : Value × List (List UInt8)), i ≠ j → [((.slice none 0 0 : Value), ([] : List (List UInt8))), (.slice none 0 0, [])][i]? = some r → [((.slice none 0 0 : Value), ([] : List (List UInt8))), (.slice none 0 0, [])][j]? = some s → TwoBlocks r.1 s.1 := fun i j r s _ hr _ => by
      have h : r = (.slice none 0 0, []) := by
        rcases i with _ | _ | i
        · simpa using hr.symm
        · simpa using hr.symm
        · simp at hr
      rw [h]
      exact .inl rfl
    obtain ⟨I, hI⟩ : ∃ I : Array Bool → Act → World → Prop, ∀ listed a wx, I listed a wx ↔ ( ∃ x3 x14 x15 x16 x17 x18 x19 x20 x21 x22 x23 x24 x25 x26 x27 x28 y1 y2 y3 l1 l2 l3 gb, a = ⟨#[(.agg #[.bool n.leaf, .slice A n.keys.length c, .slice A2 n.vals.length c2, .slice A3 n.kids.length c3]), (.pointer (some ⟨w.heap.size, 0, none⟩)), .bool false, x3, undef, undef, undef, undef, undef, undef, .bool true, .bool false, (.agg #[.bool n.leaf, .slice A n.keys.length c, .slice A2 n.vals.length c2, .slice A3 n.kids.length c3]), .bool false, x14, x15, x16, x17, x18, x19, x20, x21, x22, x23, x24, x25, x26, x27, x28, undef, undef, undef, undef, undef, undef, undef, undef, undef, undef, undef, undef, undef, undef, undef, undef, undef, undef, undef, undef, undef, undef, undef, undef, undef, undef, undef, undef, undef, undef, undef, undef, undef, undef, undef, undef, undef], []⟩ ∧ Cp w1 wx B0 [(y1, l1), (y2, l2)] y3 l3 gb ∧ (listed.getD 0 false = true → x14 = (.pointer (some ⟨w.heap.size, 0, none⟩))) ∧ (listed.getD 1 false = true → x15 = .bool n.leaf) ∧ (listed.getD 3 false = true → x17 = (.pointer (some ⟨w.heap.size, 1, none⟩))) ∧ (listed.getD 4 false = true → x18 = .slice A n.keys.length c) ∧ (listed.getD 7 false = true → x21 = (.pointer (some ⟨w.heap.size, 2, none⟩))) ∧ (listed.getD 8 false = true → x22 = .slice A2 n.vals.length c2) ∧ (listed.getD 11 false = true → x25 = (.pointer (some ⟨w.heap.size, 3, none⟩))) ∧ (listed.getD 12 false = true → x26 = .slice A3 n.kids.length c3) ∧ (listed.getD 2 false = true → ¬ listed.getD 5 false = true → x16 = y1 ∧ l1 = []) ∧ (listed.getD 5 false = true → (listed.getD 2 false = true) ∧ x19 = y1 ∧ l1 = n.keys) ∧ (listed.getD 6 false = true → ¬ listed.getD 9 false = true → x20 = y2 ∧ l2 = []) ∧ (listed.getD 9 false = true → (listed.getD 6 false = true) ∧ x23 = y2 ∧ l2 = n.vals) ∧ (listed.getD 10 false = true → ¬ listed.getD 13 false = true → x24 = y3 ∧ l3 = []) ∧ (listed.getD 13 false = true → (listed.getD 10 false = true) ∧ x27 = y3 ∧ l3 = n.kids) ∧ (listed.getD 14 false = true → ((listed.getD 5 false = true) ∧ (listed.getD 9 false = true) ∧ (listed.getD 13 false = true)) ∧ x28 = .agg #[.bool n.leaf, x19, x23, x27]) ∧ (listed.getD 15 false = true → ¬ listed.getD 16 false = true → ∃ G, gb = some G ∧ x3 = .pointer (some ⟨G, 0, none⟩)) ∧ (listed.getD 16 false = true → (∀ j, j < 16 → listed.getD j false = true) ∧ ∃ G, x3 = .pointer (some ⟨G, 0, none⟩) ∧ B0 ≤ G ∧ Bx wx G n.leaf x19 x23 x27)) := ⟨_, fun _ _ _ => Iff.rfl⟩
    have HI := Lib.hid hI
    clear hI
    refine wp_region_inv (by kernel_rfl) (backward_of (by kernel_rfl)) I ?h0 ?hstep ?hfin
    case h0 =>
      exact (HI.out _ _ _).2 ⟨undef, undef, undef, undef, undef, undef, undef, undef, undef, undef, undef, undef, undef, undef, undef, undef, .slice none 0 0, .slice none 0 0, .slice none 0 0, [], [], [], none, rfl, ⟨hB0 ▸ (Below.refl _ _).drew, by omega, h00, h01, OwnI.nil _ _, fun _ e => by cases e⟩, (fun hb => by simp at hb), (fun hb => by simp at hb), (fun hb => by simp at hb), (fun hb => by simp at hb), (fun hb => by simp at hb), (fun hb => by simp at hb), (fun hb => by simp at hb), (fun hb => by simp at hb), (fun hb => by simp at hb), (fun hb => by simp at hb), (fun hb => by simp at hb), (fun hb => by simp at hb), (fun hb => by simp at hb), (fun hb => by simp at hb), (fun hb => by simp at hb), (fun hb => by simp at hb), (fun hb => by simp at hb)⟩
    case hstep =>
      intro i listed a wx hz hI0 hr
      obtain ⟨x3, x14, x15, x16, x17, x18, x19, x20, x21, x22, x23, x24, x25, x26, x27, x28, y1, y2, y3, l1, l2, l3, gb, rfl, hcp, q0, q1, q3, q4, q7, q8, q11, q12, q2, q5, q6, q9, q10, q13, q14, q15, q16⟩ := (HI.out _ _ _).1 hI0
      clear hI0
      have hni := (ready_mem.1 hr).2.1
      have hi17 : i < 17 := (ready_mem.1 hr).1
      have hz17 : listed.size = 17 := hz
      rcases (by omega : i = 0 ∨ i = 1 ∨ i = 2 ∨ i = 3 ∨ i = 4 ∨ i = 5 ∨ i = 6 ∨ i = 7 ∨ i = 8 ∨ i = 9 ∨ i = 10 ∨ i = 11 ∨ i = 12 ∨ i = 13 ∨ i = 14 ∨ i = 15 ∨ i = 16) with rfl | rfl | rfl | rfl | rfl | rfl | rfl | rfl | rfl | rfl | rfl | rfl | rfl | rfl | rfl | rfl | rfl
      · refine wpOp_of rfl ?_
        go_simp
        exact (HI.out _ _ _).2 ⟨_, _, _, _, _, _, _, _, _, _, _, _, _, _, _, _, _, _, _, _, _, _, _, rfl, hcp, (fun _ => rfl), (fun hb => q1 (bit_ne (by decide) hb)), (fun hb => q3 (bit_ne (by decide) hb)), (fun hb => q4 (bit_ne (by decide) hb)), (fun hb => q7 (bit_ne (by decide) hb)), (fun hb => q8 (bit_ne (by decide) hb)), (fun hb => q11 (bit_ne (by decide) hb)), (fun hb => q12 (bit_ne (by decide) hb)), (fun hb hn => q2 (bit_ne (by decide) hb) (fun h => hn (bit_keep h))), (fun hb => ⟨bit_keep (q5 (bit_ne (by decide) hb)).1, (q5 (bit_ne (by decide) hb)).2⟩), (fun hb hn => q6 (bit_ne (by decide) hb) (fun h => hn (bit_keep h))), (fun hb => ⟨bit_keep (q9 (bit_ne (by decide) hb)).1, (q9 (bit_ne (by decide) hb)).2⟩), (fun hb hn => q10 (bit_ne (by decide) hb) (fun h => hn (bit_keep h))), (fun hb => ⟨bit_keep (q13 (bit_ne (by decide) hb)).1, (q13 (bit_ne (by decide) hb)).2⟩), (fun hb => ⟨⟨bit_keep (q14 (bit_ne (by decide) hb)).1.1, bit_keep (q14 (bit_ne (by decide) hb)).1.2.1, bit_keep (q14 (bit_ne (by decide) hb)).1.2.2⟩, (q14 (bit_ne (by decide) hb)).2⟩), (fun hb hn => q15 (bit_ne (by decide) hb) (fun h => hn (bit_keep h))), (fun hb => absurd ((q16 (bit_ne (by decide) hb)).1 0 (by decide)) (bit_off hni))⟩
      · obtain rfl := q0 (ready_waits hr (show waitsB _ 1 0 = true by kernel_rfl))
        have hbx := HX.out.below hcp.below (by omega)
        have d0 := hbx.cell0; have d1 := hbx.cell1; have d2 := hbx.cell2; have d3 := hbx.cell3
        clear hbx
        refine wpOp_of rfl ?_
        go_simp
        exact (HI.out _ _ _).2 ⟨_, _, _, _, _, _, _, _, _, _, _, _, _, _, _, _, _, _, _, _, _, _, _, rfl, hcp, (fun hb => q0 (bit_ne (by decide) hb)), (fun _ => rfl), (fun hb => q3 (bit_ne (by decide) hb)), (fun hb => q4 (bit_ne (by decide) hb)), (fun hb => q7 (bit_ne (by decide) hb)), (fun hb => q8 (bit_ne (by decide) hb)), (fun hb => q11 (bit_ne (by decide) hb)), (fun hb => q12 (bit_ne (by decide) hb)), (fun hb hn => q2 (bit_ne (by decide) hb) (fun h => hn (bit_keep h))), (fun hb => ⟨bit_keep (q5 (bit_ne (by decide) hb)).1, (q5 (bit_ne (by decide) hb)).2⟩), (fun hb hn => q6 (bit_ne (by decide) hb) (fun h => hn (bit_keep h))), (fun hb => ⟨bit_keep (q9 (bit_ne (by decide) hb)).1, (q9 (bit_ne (by decide) hb)).2⟩), (fun hb hn => q10 (bit_ne (by decide) hb) (fun h => hn (bit_keep h))), (fun hb => ⟨bit_keep (q13 (bit_ne (by decide) hb)).1, (q13 (bit_ne (by decide) hb)).2⟩), (fun hb => ⟨⟨bit_keep (q14 (bit_ne (by decide) hb)).1.1, bit_keep (q14 (bit_ne (by decide) hb)).1.2.1, bit_keep (q14 (bit_ne (by decide) hb)).1.2.2⟩, (q14 (bit_ne (by decide) hb)).2⟩), (fun hb hn => q15 (bit_ne (by decide) hb) (fun h => hn (bit_keep h))), (fun hb => absurd ((q16 (bit_ne (by decide) hb)).1 1 (by decide)) (bit_off hni))⟩
      · refine wpOp_of rfl ?_
        go_simp
        exact (HI.out _ _ _).2 ⟨_, _, _, _, _, _, _, _, _, _, _, _, _, _, _, _, _, _, _, _, _, _, _, rfl, (hcp.set 0 (y1, l1) rfl _ [] (owns_new wx B0 hcp.size) (grown_new _ _ _) (.inr fun k hk => by have hk2 : some wx.heap.size = some k := hk; injection hk2 with hk2; omega)), (fun hb => q0 (bit_ne (by decide) hb)), (fun hb => q1 (bit_ne (by decide) hb)), (fun hb => q3 (bit_ne (by decide) hb)), (fun hb => q4 (bit_ne (by decide) hb)), (fun hb => q7 (bit_ne (by decide) hb)), (fun hb => q8 (bit_ne (by decide) hb)), (fun hb => q11 (bit_ne (by decide) hb)), (fun hb => q12 (bit_ne (by decide) hb)), (fun _ _ => ⟨rfl, rfl⟩), (fun hb => absurd (q5 (bit_ne (by decide) hb)).1 (bit_off hni)), (fun hb hn => q6 (bit_ne (by decide) hb) (fun h => hn (bit_keep h))), (fun hb => ⟨bit_keep (q9 (bit_ne (by decide) hb)).1, (q9 (bit_ne (by decide) hb)).2⟩), (fun hb hn => q10 (bit_ne (by decide) hb) (fun h => hn (bit_keep h))), (fun hb => ⟨bit_keep (q13 (bit_ne (by decide) hb)).1, (q13 (bit_ne (by decide) hb)).2⟩), (fun hb => ⟨⟨bit_keep (q14 (bit_ne (by decide) hb)).1.1, bit_keep (q14 (bit_ne (by decide) hb)).1.2.1, bit_keep (q14 (bit_ne (by decide) hb)).1.2.2⟩, (q14 (bit_ne (by decide) hb)).2⟩), (fun hb hn => q15 (bit_ne (by decide) hb) (fun h => hn (bit_keep h))), (fun hb => absurd ((q16 (bit_ne (by decide) hb)).1 2 (by decide)) (bit_off hni))⟩
      · refine wpOp_of rfl ?_
        go_simp
        exact (HI.out _ _ _).2 ⟨_, _, _, _, _, _, _, _, _, _, _, _, _, _, _, _, _, _, _, _, _, _, _, rfl, hcp, (fun hb => q0 (bit_ne (by decide) hb)), (fun hb => q1 (bit_ne (by decide) hb)), (fun _ => rfl), (fun hb => q4 (bit_ne (by decide) hb)), (fun hb => q7 (bit_ne (by decide) hb)), (fun hb => q8 (bit_ne (by decide) hb)), (fun hb => q11 (bit_ne (by decide) hb)), (fun hb => q12 (bit_ne (by decide) hb)), (fun hb hn => q2 (bit_ne (by decide) hb) (fun h => hn (bit_keep h))), (fun hb => ⟨bit_keep (q5 (bit_ne (by decide) hb)).1, (q5 (bit_ne (by decide) hb)).2⟩), (fun hb hn => q6 (bit_ne (by decide) hb) (fun h => hn (bit_keep h))), (fun hb => ⟨bit_keep (q9 (bit_ne (by decide) hb)).1, (q9 (bit_ne (by decide) hb)).2⟩), (fun hb hn => q10 (bit_ne (by decide) hb) (fun h => hn (bit_keep h))), (fun hb => ⟨bit_keep (q13 (bit_ne (by decide) hb)).1, (q13 (bit_ne (by decide) hb)).2⟩), (fun hb => ⟨⟨bit_keep (q14 (bit_ne (by decide) hb)).1.1, bit_keep (q14 (bit_ne (by decide) hb)).1.2.1, bit_keep (q14 (bit_ne (by decide) hb)).1.2.2⟩, (q14 (bit_ne (by decide) hb)).2⟩), (fun hb hn => q15 (bit_ne (by decide) hb) (fun h => hn (bit_keep h))), (fun hb => absurd ((q16 (bit_ne (by decide) hb)).1 3 (by decide)) (bit_off hni))⟩
      · obtain rfl := q3 (ready_waits hr (show waitsB _ 4 3 = true by kernel_rfl))
        have hbx := HX.out.below hcp.below (by omega)
        have d0 := hbx.cell0; have d1 := hbx.cell1; have d2 := hbx.cell2; have d3 := hbx.cell3
        clear hbx
        refine wpOp_of rfl ?_
        go_simp
        exact (HI.out _ _ _).2 ⟨_, _, _, _, _, _, _, _, _, _, _, _, _, _, _, _, _, _, _, _, _, _, _, rfl, hcp, (fun hb => q0 (bit_ne (by decide) hb)), (fun hb => q1 (bit_ne (by decide) hb)), (fun hb => q3 (bit_ne (by decide) hb)), (fun _ => rfl), (fun hb => q7 (bit_ne (by decide) hb)), (fun hb => q8 (bit_ne (by decide) hb)), (fun hb => q11 (bit_ne (by decide) hb)), (fun hb => q12 (bit_ne (by decide) hb)), (fun hb hn => q2 (bit_ne (by decide) hb) (fun h => hn (bit_keep h))), (fun hb => ⟨bit_keep (q5 (bit_ne (by decide) hb)).1, (q5 (bit_ne (by decide) hb)).2⟩), (fun hb hn => q6 (bit_ne (by decide) hb) (fun h => hn (bit_keep h))), (fun hb => ⟨bit_keep (q9 (bit_ne (by decide) hb)).1, (q9 (bit_ne (by decide) hb)).2⟩), (fun hb hn => q10 (bit_ne (by decide) hb) (fun h => hn (bit_keep h))), (fun hb => ⟨bit_keep (q13 (bit_ne (by decide) hb)).1, (q13 (bit_ne (by decide) hb)).2⟩), (fun hb => ⟨⟨bit_keep (q14 (bit_ne (by decide) hb)).1.1, bit_keep (q14 (bit_ne (by decide) hb)).1.2.1, bit_keep (q14 (bit_ne (by decide) hb)).1.2.2⟩, (q14 (bit_ne (by decide) hb)).2⟩), (fun hb hn => q15 (bit_ne (by decide) hb) (fun h => hn (bit_keep h))), (fun hb => absurd ((q16 (bit_ne (by decide) hb)).1 4 (by decide)) (bit_off hni))⟩
      · obtain ⟨rfl, rfl⟩ := q2 (ready_waits hr (show waitsB _ 5 2 = true by kernel_rfl)) (bit_off hni)
        obtain rfl := q4 (ready_waits hr (show waitsB _ 5 4 = true by kernel_rfl))
        refine wpOp_of rfl ?_
        refine step_two rfl (.tmp 16) (.tmp 18) rfl B0 x16 [] rfl (hcp.own 0 _ rfl) hcp.size (.slice A n.keys.length c) B0 n.keys rfl (hks.out.below hcp.below) (by simp; omega) ?_
        intro v2 w2 ho hg hf
        rw [List.nil_append] at ho
        exact (HI.out _ _ _).2 ⟨_, _, _, _, _, _, _, _, _, _, _, _, _, _, _, _, _, _, _, _, _, _, _, rfl, (hcp.set 0 (x16, []) rfl v2 _ ho hg hf), (fun hb => q0 (bit_ne (by decide) hb)), (fun hb => q1 (bit_ne (by decide) hb)), (fun hb => q3 (bit_ne (by decide) hb)), (fun hb => q4 (bit_ne (by decide) hb)), (fun hb => q7 (bit_ne (by decide) hb)), (fun hb => q8 (bit_ne (by decide) hb)), (fun hb => q11 (bit_ne (by decide) hb)), (fun hb => q12 (bit_ne (by decide) hb)), (fun _ hn => absurd (bit_self (by omega)) hn), (fun _ => ⟨bit_keep (ready_waits hr (show waitsB _ 5 2 = true by kernel_rfl)), rfl, rfl⟩), (fun hb hn => q6 (bit_ne (by decide) hb) (fun h => hn (bit_keep h))), (fun hb => ⟨bit_keep (q9 (bit_ne (by decide) hb)).1, (q9 (bit_ne (by decide) hb)).2⟩), (fun hb hn => q10 (bit_ne (by decide) hb) (fun h => hn (bit_keep h))), (fun hb => ⟨bit_keep (q13 (bit_ne (by decide) hb)).1, (q13 (bit_ne (by decide) hb)).2⟩), (fun hb => absurd (q14 (bit_ne (by decide) hb)).1.1 (bit_off hni)), (fun hb hn => q15 (bit_ne (by decide) hb) (fun h => hn (bit_keep h))), (fun hb => absurd ((q16 (bit_ne (by decide) hb)).1 5 (by decide)) (bit_off hni))⟩
      · refine wpOp_of rfl ?_
        go_simp
        exact (HI.out _ _ _).2 ⟨_, _, _, _, _, _, _, _, _, _, _, _, _, _, _, _, _, _, _, _, _, _, _, rfl, (hcp.set 1 (y2, l2) rfl _ [] (owns_new wx B0 hcp.size) (grown_new _ _ _) (.inr fun k hk => by have hk2 : some wx.heap.size = some k := hk; injection hk2 with hk2; omega)), (fun hb => q0 (bit_ne (by decide) hb)), (fun hb => q1 (bit_ne (by decide) hb)), (fun hb => q3 (bit_ne (by decide) hb)), (fun hb => q4 (bit_ne (by decide) hb)), (fun hb => q7 (bit_ne (by decide) hb)), (fun hb => q8 (bit_ne (by decide) hb)), (fun hb => q11 (bit_ne (by decide) hb)), (fun hb => q12 (bit_ne (by decide) hb)), (fun hb hn => q2 (bit_ne (by decide) hb) (fun h => hn (bit_keep h))), (fun hb => ⟨bit_keep (q5 (bit_ne (by decide) hb)).1, (q5 (bit_ne (by decide) hb)).2⟩), (fun _ _ => ⟨rfl, rfl⟩), (fun hb => absurd (q9 (bit_ne (by decide) hb)).1 (bit_off hni)), (fun hb hn => q10 (bit_ne (by decide) hb) (fun h => hn (bit_keep h))), (fun hb => ⟨bit_keep (q13 (bit_ne (by decide) hb)).1, (q13 (bit_ne (by decide) hb)).2⟩), (fun hb => ⟨⟨bit_keep (q14 (bit_ne (by decide) hb)).1.1, bit_keep (q14 (bit_ne (by decide) hb)).1.2.1, bit_keep (q14 (bit_ne (by decide) hb)).1.2.2⟩, (q14 (bit_ne (by decide) hb)).2⟩), (fun hb hn => q15 (bit_ne (by decide) hb) (fun h => hn (bit_keep h))), (fun hb => absurd ((q16 (bit_ne (by decide) hb)).1 6 (by decide)) (bit_off hni))⟩
      · refine wpOp_of rfl ?_
        go_simp
        exact (HI.out _ _ _).2 ⟨_, _, _, _, _, _, _, _, _, _, _, _, _, _, _, _, _, _, _, _, _, _, _, rfl, hcp, (fun hb => q0 (bit_ne (by decide) hb)), (fun hb => q1 (bit_ne (by decide) hb)), (fun hb => q3 (bit_ne (by decide) hb)), (fun hb => q4 (bit_ne (by decide) hb)), (fun _ => rfl), (fun hb => q8 (bit_ne (by decide) hb)), (fun hb => q11 (bit_ne (by decide) hb)), (fun hb => q12 (bit_ne (by decide) hb)), (fun hb hn => q2 (bit_ne (by decide) hb) (fun h => hn (bit_keep h))), (fun hb => ⟨bit_keep (q5 (bit_ne (by decide) hb)).1, (q5 (bit_ne (by decide) hb)).2⟩), (fun hb hn => q6 (bit_ne (by decide) hb) (fun h => hn (bit_keep h))), (fun hb => ⟨bit_keep (q9 (bit_ne (by decide) hb)).1, (q9 (bit_ne (by decide) hb)).2⟩), (fun hb hn => q10 (bit_ne (by decide) hb) (fun h => hn (bit_keep h))), (fun hb => ⟨bit_keep (q13 (bit_ne (by decide) hb)).1, (q13 (bit_ne (by decide) hb)).2⟩), (fun hb => ⟨⟨bit_keep (q14 (bit_ne (by decide) hb)).1.1, bit_keep (q14 (bit_ne (by decide) hb)).1.2.1, bit_keep (q14 (bit_ne (by decide) hb)).1.2.2⟩, (q14 (bit_ne (by decide) hb)).2⟩), (fun hb hn => q15 (bit_ne (by decide) hb) (fun h => hn (bit_keep h))), (fun hb => absurd ((q16 (bit_ne (by decide) hb)).1 7 (by decide)) (bit_off hni))⟩
      · obtain rfl := q7 (ready_waits hr (show waitsB _ 8 7 = true by kernel_rfl))
        have hbx := HX.out.below hcp.below (by omega)
        have d0 := hbx.cell0; have d1 := hbx.cell1; have d2 := hbx.cell2; have d3 := hbx.cell3
        clear hbx
        refine wpOp_of rfl ?_
        go_simp
        exact (HI.out _ _ _).2 ⟨_, _, _, _, _, _, _, _, _, _, _, _, _, _, _, _, _, _, _, _, _, _, _, rfl, hcp, (fun hb => q0 (bit_ne (by decide) hb)), (fun hb => q1 (bit_ne (by decide) hb)), (fun hb => q3 (bit_ne (by decide) hb)), (fun hb => q4 (bit_ne (by decide) hb)), (fun hb => q7 (bit_ne (by decide) hb)), (fun _ => rfl), (fun hb => q11 (bit_ne (by decide) hb)), (fun hb => q12 (bit_ne (by decide) hb)), (fun hb hn => q2 (bit_ne (by decide) hb) (fun h => hn (bit_keep h))), (fun hb => ⟨bit_keep (q5 (bit_ne (by decide) hb)).1, (q5 (bit_ne (by decide) hb)).2⟩), (fun hb hn => q6 (bit_ne (by decide) hb) (fun h => hn (bit_keep h))), (fun hb => ⟨bit_keep (q9 (bit_ne (by decide) hb)).1, (q9 (bit_ne (by decide) hb)).2⟩), (fun hb hn => q10 (bit_ne (by decide) hb) (fun h => hn (bit_keep h))), (fun hb => ⟨bit_keep (q13 (bit_ne (by decide) hb)).1, (q13 (bit_ne (by decide) hb)).2⟩), (fun hb => ⟨⟨bit_keep (q14 (bit_ne (by decide) hb)).1.1, bit_keep (q14 (bit_ne (by decide) hb)).1.2.1, bit_keep (q14 (bit_ne (by decide) hb)).1.2.2⟩, (q14 (bit_ne (by decide) hb)).2⟩), (fun hb hn => q15 (bit_ne (by decide) hb) (fun h => hn (bit_keep h))), (fun hb => absurd ((q16 (bit_ne (by decide) hb)).1 8 (by decide)) (bit_off hni))⟩
      · obtain ⟨rfl, rfl⟩ := q6 (ready_waits hr (show waitsB _ 9 6 = true by kernel_rfl)) (bit_off hni)
        obtain rfl := q8 (ready_waits hr (show waitsB _ 9 8 = true by kernel_rfl))
        refine wpOp_of rfl ?_
        refine step_two rfl (.tmp 20) (.tmp 22) rfl B0 x20 [] rfl (hcp.own 1 _ rfl) hcp.size (.slice A2 n.vals.length c2) B0 n.vals rfl (hvs.out.below hcp.below) (by simp; omega) ?_
        intro v2 w2 ho hg hf
        rw [List.nil_append] at ho
        exact (HI.out _ _ _).2 ⟨_, _, _, _, _, _, _, _, _, _, _, _, _, _, _, _, _, _, _, _, _, _, _, rfl, (hcp.set 1 (x20, []) rfl v2 _ ho hg hf), (fun hb => q0 (bit_ne (by decide) hb)), (fun hb => q1 (bit_ne (by decide) hb)), (fun hb => q3 (bit_ne (by decide) hb)), (fun hb => q4 (bit_ne (by decide) hb)), (fun hb => q7 (bit_ne (by decide) hb)), (fun hb => q8 (bit_ne (by decide) hb)), (fun hb => q11 (bit_ne (by decide) hb)), (fun hb => q12 (bit_ne (by decide) hb)), (fun hb hn => q2 (bit_ne (by decide) hb) (fun h => hn (bit_keep h))), (fun hb => ⟨bit_keep (q5 (bit_ne (by decide) hb)).1, (q5 (bit_ne (by decide) hb)).2⟩), (fun _ hn => absurd (bit_self (by omega)) hn), (fun _ => ⟨bit_keep (ready_waits hr (show waitsB _ 9 6 = true by kernel_rfl)), rfl, rfl⟩), (fun hb hn => q10 (bit_ne (by decide) hb) (fun h => hn (bit_keep h))), (fun hb => ⟨bit_keep (q13 (bit_ne (by decide) hb)).1, (q13 (bit_ne (by decide) hb)).2⟩), (fun hb => absurd (q14 (bit_ne (by decide) hb)).1.2.1 (bit_off hni)), (fun hb hn => q15 (bit_ne (by decide) hb) (fun h => hn (bit_keep h))), (fun hb => absurd ((q16 (bit_ne (by decide) hb)).1 9 (by decide)) (bit_off hni))⟩
      · refine wpOp_of rfl ?_
        go_simp
        exact (HI.out _ _ _).2 ⟨_, _, _, _, _, _, _, _, _, _, _, _, _, _, _, _, _, _, _, _, _, _, _, rfl, (hcp.seti _ [] (owni_new wx B0 hcp.size) (grown_new _ _ _)), (fun hb => q0 (bit_ne (by decide) hb)), (fun hb => q1 (bit_ne (by decide) hb)), (fun hb => q3 (bit_ne (by decide) hb)), (fun hb => q4 (bit_ne (by decide) hb)), (fun hb => q7 (bit_ne (by decide) hb)), (fun hb => q8 (bit_ne (by decide) hb)), (fun hb => q11 (bit_ne (by decide) hb)), (fun hb => q12 (bit_ne (by decide) hb)), (fun hb hn => q2 (bit_ne (by decide) hb) (fun h => hn (bit_keep h))), (fun hb => ⟨bit_keep (q5 (bit_ne (by decide) hb)).1, (q5 (bit_ne (by decide) hb)).2⟩), (fun hb hn => q6 (bit_ne (by decide) hb) (fun h => hn (bit_keep h))), (fun hb => ⟨bit_keep (q9 (bit_ne (by decide) hb)).1, (q9 (bit_ne (by decide) hb)).2⟩), (fun _ _ => ⟨rfl, rfl⟩), (fun hb => absurd (q13 (bit_ne (by decide) hb)).1 (bit_off hni)), (fun hb => ⟨⟨bit_keep (q14 (bit_ne (by decide) hb)).1.1, bit_keep (q14 (bit_ne (by decide) hb)).1.2.1, bit_keep (q14 (bit_ne (by decide) hb)).1.2.2⟩, (q14 (bit_ne (by decide) hb)).2⟩), (fun hb hn => q15 (bit_ne (by decide) hb) (fun h => hn (bit_keep h))), (fun hb => absurd ((q16 (bit_ne (by decide) hb)).1 10 (by decide)) (bit_off hni))⟩
      · refine wpOp_of rfl ?_
        go_simp
        exact (HI.out _ _ _).2 ⟨_, _, _, _, _, _, _, _, _, _, _, _, _, _, _, _, _, _, _, _, _, _, _, rfl, hcp, (fun hb => q0 (bit_ne (by decide) hb)), (fun hb => q1 (bit_ne (by decide) hb)), (fun hb => q3 (bit_ne (by decide) hb)), (fun hb => q4 (bit_ne (by decide) hb)), (fun hb => q7 (bit_ne (by decide) hb)), (fun hb => q8 (bit_ne (by decide) hb)), (fun _ => rfl), (fun hb => q12 (bit_ne (by decide) hb)), (fun hb hn => q2 (bit_ne (by decide) hb) (fun h => hn (bit_keep h))), (fun hb => ⟨bit_keep (q5 (bit_ne (by decide) hb)).1, (q5 (bit_ne (by decide) hb)).2⟩), (fun hb hn => q6 (bit_ne (by decide) hb) (fun h => hn (bit_keep h))), (fun hb => ⟨bit_keep (q9 (bit_ne (by decide) hb)).1, (q9 (bit_ne (by decide) hb)).2⟩), (fun hb hn => q10 (bit_ne (by decide) hb) (fun h => hn (bit_keep h))), (fun hb => ⟨bit_keep (q13 (bit_ne (by decide) hb)).1, (q13 (bit_ne (by decide) hb)).2⟩), (fun hb => ⟨⟨bit_keep (q14 (bit_ne (by decide) hb)).1.1, bit_keep (q14 (bit_ne (by decide) hb)).1.2.1, bit_keep (q14 (bit_ne (by decide) hb)).1.2.2⟩, (q14 (bit_ne (by decide) hb)).2⟩), (fun hb hn => q15 (bit_ne (by decide) hb) (fun h => hn (bit_keep h))), (fun hb => absurd ((q16 (bit_ne (by decide) hb)).1 11 (by decide)) (bit_off hni))⟩
      · obtain rfl := q11 (ready_waits hr (show waitsB _ 12 11 = true by kernel_rfl))
        have hbx := HX.out.below hcp.below (by omega)
        have d0 := hbx.cell0; have d1 := hbx.cell1; have d2 := hbx.cell2; have d3 := hbx.cell3
        clear hbx
        refine wpOp_of rfl ?_
        go_simp
        exact (HI.out _ _ _).2 ⟨_, _, _, _, _, _, _, _, _, _, _, _, _, _, _, _, _, _, _, _, _, _, _, rfl, hcp, (fun hb => q0 (bit_ne (by decide) hb)), (fun hb => q1 (bit_ne (by decide) hb)), (fun hb => q3 (bit_ne (by decide) hb)), (fun hb => q4 (bit_ne (by decide) hb)), (fun hb => q7 (bit_ne (by decide) hb)), (fun hb => q8 (bit_ne (by decide) hb)), (fun hb => q11 (bit_ne (by decide) hb)), (fun _ => rfl), (fun hb hn => q2 (bit_ne (by decide) hb) (fun h => hn (bit_keep h))), (fun hb => ⟨bit_keep (q5 (bit_ne (by decide) hb)).1, (q5 (bit_ne (by decide) hb)).2⟩), (fun hb hn => q6 (bit_ne (by decide) hb) (fun h => hn (bit_keep h))), (fun hb => ⟨bit_keep (q9 (bit_ne (by decide) hb)).1, (q9 (bit_ne (by decide) hb)).2⟩), (fun hb hn => q10 (bit_ne (by decide) hb) (fun h => hn (bit_keep h))), (fun hb => ⟨bit_keep (q13 (bit_ne (by decide) hb)).1, (q13 (bit_ne (by decide) hb)).2⟩), (fun hb => ⟨⟨bit_keep (q14 (bit_ne (by decide) hb)).1.1, bit_keep (q14 (bit_ne (by decide) hb)).1.2.1, bit_keep (q14 (bit_ne (by decide) hb)).1.2.2⟩, (q14 (bit_ne (by decide) hb)).2⟩), (fun hb hn => q15 (bit_ne (by decide) hb) (fun h => hn (bit_keep h))), (fun hb => absurd ((q16 (bit_ne (by decide) hb)).1 12 (by decide)) (bit_off hni))⟩
      · obtain ⟨rfl, rfl⟩ := q10 (ready_waits hr (show waitsB _ 13 10 = true by kernel_rfl)) (bit_off hni)
        obtain rfl := q12 (ready_waits hr (show waitsB _ 13 12 = true by kernel_rfl))
        refine wpOp_of rfl ?_
        refine step_ints rfl (.tmp 24) (.tmp 26) rfl B0 x24 [] rfl hcp.ints hcp.size (.slice A3 n.kids.length c3) B0 n.kids rfl (his.out.below hcp.below) (by simp; omega) ?_
        intro v2 w2 ho hg
        rw [List.nil_append] at ho
        exact (HI.out _ _ _).2 ⟨_, _, _, _, _, _, _, _, _, _, _, _, _, _, _, _, _, _, _, _, _, _, _, rfl, (hcp.seti v2 _ ho hg), (fun hb => q0 (bit_ne (by decide) hb)), (fun hb => q1 (bit_ne (by decide) hb)), (fun hb => q3 (bit_ne (by decide) hb)), (fun hb => q4 (bit_ne (by decide) hb)), (fun hb => q7 (bit_ne (by decide) hb)), (fun hb => q8 (bit_ne (by decide) hb)), (fun hb => q11 (bit_ne (by decide) hb)), (fun hb => q12 (bit_ne (by decide) hb)), (fun hb hn => q2 (bit_ne (by decide) hb) (fun h => hn (bit_keep h))), (fun hb => ⟨bit_keep (q5 (bit_ne (by decide) hb)).1, (q5 (bit_ne (by decide) hb)).2⟩), (fun hb hn => q6 (bit_ne (by decide) hb) (fun h => hn (bit_keep h))), (fun hb => ⟨bit_keep (q9 (bit_ne (by decide) hb)).1, (q9 (bit_ne (by decide) hb)).2⟩), (fun _ hn => absurd (bit_self (by omega)) hn), (fun _ => ⟨bit_keep (ready_waits hr (show waitsB _ 13 10 = true by kernel_rfl)), rfl, rfl⟩), (fun hb => absurd (q14 (bit_ne (by decide) hb)).1.2.2 (bit_off hni)), (fun hb hn => q15 (bit_ne (by decide) hb) (fun h => hn (bit_keep h))), (fun hb => absurd ((q16 (bit_ne (by decide) hb)).1 13 (by decide)) (bit_off hni))⟩
      · obtain rfl := q1 (ready_waits hr (show waitsB _ 14 1 = true by kernel_rfl))
        obtain ⟨b2, rfl, rfl⟩ := q5 (ready_waits hr (show waitsB _ 14 5 = true by kernel_rfl))
        obtain ⟨b6, rfl, rfl⟩ := q9 (ready_waits hr (show waitsB _ 14 9 = true by kernel_rfl))
        obtain ⟨b10, rfl, rfl⟩ := q13 (ready_waits hr (show waitsB _ 14 13 = true by kernel_rfl))
        obtain ⟨Y1, k1, hy1, _, _⟩ := (hcp.own 0 _ rfl).strs.len
        have hy1 : x19 = .slice Y1 n.keys.length k1 := hy1
        subst hy1
        obtain ⟨Y2, k2, hy2, _, _⟩ := (hcp.own 1 _ rfl).strs.len
        have hy2 : x23 = .slice Y2 n.vals.length k2 := hy2
        subst hy2
        obtain ⟨Y3, k3, hy3, _, _⟩ := hcp.ints.flat.len
        have hy3 : x27 = .slice Y3 n.kids.length k3 := hy3
        subst hy3
        refine wpOp_of rfl ?_
        go_simp
        exact (HI.out _ _ _).2 ⟨_, _, _, _, _, _, _, _, _, _, _, _, _, _, _, _, _, _, _, _, _, _, _, rfl, hcp, (fun hb => q0 (bit_ne (by decide) hb)), (fun hb => q1 (bit_ne (by decide) hb)), (fun hb => q3 (bit_ne (by decide) hb)), (fun hb => q4 (bit_ne (by decide) hb)), (fun hb => q7 (bit_ne (by decide) hb)), (fun hb => q8 (bit_ne (by decide) hb)), (fun hb => q11 (bit_ne (by decide) hb)), (fun hb => q12 (bit_ne (by decide) hb)), (fun hb hn => q2 (bit_ne (by decide) hb) (fun h => hn (bit_keep h))), (fun hb => ⟨bit_keep (q5 (bit_ne (by decide) hb)).1, (q5 (bit_ne (by decide) hb)).2⟩), (fun hb hn => q6 (bit_ne (by decide) hb) (fun h => hn (bit_keep h))), (fun hb => ⟨bit_keep (q9 (bit_ne (by decide) hb)).1, (q9 (bit_ne (by decide) hb)).2⟩), (fun hb hn => q10 (bit_ne (by decide) hb) (fun h => hn (bit_keep h))), (fun hb => ⟨bit_keep (q13 (bit_ne (by decide) hb)).1, (q13 (bit_ne (by decide) hb)).2⟩), (fun _ => ⟨⟨bit_keep (ready_waits hr (show waitsB _ 14 5 = true by kernel_rfl)), bit_keep (ready_waits hr (show waitsB _ 14 9 = true by kernel_rfl)), bit_keep (ready_waits hr (show waitsB _ 14 13 = true by kernel_rfl))⟩, rfl⟩), (fun hb hn => q15 (bit_ne (by decide) hb) (fun h => hn (bit_keep h))), (fun hb => absurd ((q16 (bit_ne (by decide) hb)).1 14 (by decide)) (bit_off hni))⟩
      · refine wpOp_of rfl ?_
        go_simp
        exact (HI.out _ _ _).2 ⟨_, _, _, _, _, _, _, _, _, _, _, _, _, _, _, _, _, _, _, _, _, _, _, rfl, hcp.lay, (fun hb => q0 (bit_ne (by decide) hb)), (fun hb => q1 (bit_ne (by decide) hb)), (fun hb => q3 (bit_ne (by decide) hb)), (fun hb => q4 (bit_ne (by decide) hb)), (fun hb => q7 (bit_ne (by decide) hb)), (fun hb => q8 (bit_ne (by decide) hb)), (fun hb => q11 (bit_ne (by decide) hb)), (fun hb => q12 (bit_ne (by decide) hb)), (fun hb hn => q2 (bit_ne (by decide) hb) (fun h => hn (bit_keep h))), (fun hb => ⟨bit_keep (q5 (bit_ne (by decide) hb)).1, (q5 (bit_ne (by decide) hb)).2⟩), (fun hb hn => q6 (bit_ne (by decide) hb) (fun h => hn (bit_keep h))), (fun hb => ⟨bit_keep (q9 (bit_ne (by decide) hb)).1, (q9 (bit_ne (by decide) hb)).2⟩), (fun hb hn => q10 (bit_ne (by decide) hb) (fun h => hn (bit_keep h))), (fun hb => ⟨bit_keep (q13 (bit_ne (by decide) hb)).1, (q13 (bit_ne (by decide) hb)).2⟩), (fun hb => ⟨⟨bit_keep (q14 (bit_ne (by decide) hb)).1.1, bit_keep (q14 (bit_ne (by decide) hb)).1.2.1, bit_keep (q14 (bit_ne (by decide) hb)).1.2.2⟩, (q14 (bit_ne (by decide) hb)).2⟩), (fun _ _ => ⟨_, rfl, rfl⟩), (fun hb => absurd ((q16 (bit_ne (by decide) hb)).1 15 (by decide)) (bit_off hni))⟩
      · obtain ⟨G, rfl, rfl⟩ := q15 (ready_waits hr (show waitsB _ 16 15 = true by kernel_rfl)) (bit_off hni)
        obtain ⟨_, rfl⟩ := q14 (ready_waits hr (show waitsB _ 16 14 = true by kernel_rfl))
        obtain ⟨_, rfl, rfl⟩ := q5 (ready_waits hr (show waitsB _ 16 5 = true by kernel_rfl))
        obtain ⟨_, rfl, rfl⟩ := q9 (ready_waits hr (show waitsB _ 16 9 = true by kernel_rfl))
        obtain ⟨_, rfl, rfl⟩ := q13 (ready_waits hr (show waitsB _ 16 13 = true by kernel_rfl))
        obtain ⟨hG, hbx⟩ := hcp.box G rfl
        have d0 := hbx.cell0; have d1 := hbx.cell1; have d2 := hbx.cell2; have d3 := hbx.cell3
        have f0 := hbx.frozen 0; have f1 := hbx.frozen 1; have f2 := hbx.frozen 2; have f3 := hbx.frozen 3
        clear hbx
        obtain ⟨Y1, k1, hy1, _, _⟩ := (hcp.own 0 _ rfl).strs.len
        have hy1 : x19 = .slice Y1 n.keys.length k1 := hy1
        subst hy1
        obtain ⟨Y2, k2, hy2, _, _⟩ := (hcp.own 1 _ rfl).strs.len
        have hy2 : x23 = .slice Y2 n.vals.length k2 := hy2
        subst hy2
        obtain ⟨Y3, k3, hy3, _, _⟩ := hcp.ints.flat.len
        have hy3 : x27 = .slice Y3 n.kids.length k3 := hy3
        subst hy3
        obtain ⟨hcp2, hbx2⟩ := hcp.fill n.leaf (.slice Y1 n.keys.length k1) (.slice Y2 n.vals.length k2) (.slice Y3 n.kids.length k3)
        have wall2 : Hid (∀ j, j < 16 → listed.getD j false = true) := fun j hj => by
          rcases (by omega : j = 0 ∨ j = 1 ∨ j = 2 ∨ j = 3 ∨ j = 4 ∨ j = 5 ∨ j = 6 ∨ j = 7 ∨ j = 8 ∨ j = 9 ∨ j = 10 ∨ j = 11 ∨ j = 12 ∨ j = 13 ∨ j = 14 ∨ j = 15) with rfl | rfl | rfl | rfl | rfl | rfl | rfl | rfl | rfl | rfl | rfl | rfl | rfl | rfl | rfl | rfl
          all_goals exact ready_waits hr (by kernel_rfl)
        refine wpOp_of rfl ?_
        go_simp
        exact (HI.out _ _ _).2 ⟨_, _, _, _, _, _, _, _, _, _, _, _, _, _, _, _, _, _, _, _, _, _, _, rfl, hcp2, (fun hb => q0 (bit_ne (by decide) hb)), (fun hb => q1 (bit_ne (by decide) hb)), (fun hb => q3 (bit_ne (by decide) hb)), (fun hb => q4 (bit_ne (by decide) hb)), (fun hb => q7 (bit_ne (by decide) hb)), (fun hb => q8 (bit_ne (by decide) hb)), (fun hb => q11 (bit_ne (by decide) hb)), (fun hb => q12 (bit_ne (by decide) hb)), (fun hb hn => q2 (bit_ne (by decide) hb) (fun h => hn (bit_keep h))), (fun hb => ⟨bit_keep (q5 (bit_ne (by decide) hb)).1, (q5 (bit_ne (by decide) hb)).2⟩), (fun hb hn => q6 (bit_ne (by decide) hb) (fun h => hn (bit_keep h))), (fun hb => ⟨bit_keep (q9 (bit_ne (by decide) hb)).1, (q9 (bit_ne (by decide) hb)).2⟩), (fun hb hn => q10 (bit_ne (by decide) hb) (fun h => hn (bit_keep h))), (fun hb => ⟨bit_keep (q13 (bit_ne (by decide) hb)).1, (q13 (bit_ne (by decide) hb)).2⟩), (fun hb => ⟨⟨bit_keep (q14 (bit_ne (by decide) hb)).1.1, bit_keep (q14 (bit_ne (by decide) hb)).1.2.1, bit_keep (q14 (bit_ne (by decide) hb)).1.2.2⟩, (q14 (bit_ne (by decide) hb)).2⟩), (fun _ hn => absurd (bit_self (by omega)) hn), (fun _ => ⟨fun j hj => bit_keep (wall2.out j hj), G, rfl, hG, hbx2⟩)⟩
    case hfin =>
      intro listed a wx hI0 hall
      obtain ⟨x3, x14, x15, x16, x17, x18, x19, x20, x21, x22, x23, x24, x25, x26, x27, x28, y1, y2, y3, l1, l2, l3, gb, rfl, hcp, q0, q1, q3, q4, q7, q8, q11, q12, q2, q5, q6, q9, q10, q13, q14, q15, q16⟩ := (HI.out _ _ _).1 hI0
      clear hI0
      obtain ⟨_, G, rfl, hG, hbx⟩ := q16 (hall 16 (by show 16 < 17; omega))
      obtain ⟨_, rfl, rfl⟩ := q5 (hall 5 (by show 5 < 17; omega))
      obtain ⟨_, rfl, rfl⟩ := q9 (hall 9 (by show 9 < 17; omega))
      obtain ⟨_, rfl, rfl⟩ := q13 (hall 13 (by show 13 < 17; omega))
      clear q0 q1 q3 q4 q7 q8 q11 q12 q2 q5 q6 q9 q10 q13 q14 q15 q16 hall HI h00 h01
      obtain ⟨Y1, k1, hy1, _, _⟩ := (hcp.own 0 _ rfl).strs.len
      have hy1 : x19 = .slice Y1 n.keys.length k1 := hy1
      subst hy1
      obtain ⟨Y2, k2, hy2, _, _⟩ := (hcp.own 1 _ rfl).strs.len
      have hy2 : x23 = .slice Y2 n.vals.length k2 := hy2
      subst hy2
      obtain ⟨Y3, k3, hy3, _, _⟩ := hcp.ints.flat.len
      have hy3 : x27 = .slice Y3 n.kids.length k3 := hy3
      subst hy3
      have NM : Hid (NodeF wx B0 (.agg #[.bool n.leaf, .slice Y1 n.keys.length k1, .slice Y2 n.vals.length k2, .slice Y3 n.kids.length k3]) n) := ⟨_, _, _, rfl, hcp.own 0 _ rfl, hcp.own 1 _ rfl, hcp.ints⟩
      have HX := Lib.hid (HX.out.below hcp.below (by omega))
      have HB := Lib.hid (HB.out.trans (hcp.below.mono (by omega)))
      have GX := Lib.hid hbx
      have y0 := GX.out.cell0; have y1 := GX.out.cell1; have y2 := GX.out.cell2; have y3 := GX.out.cell3
      clear hbx hcp
      obtain ⟨bs, hbs⟩ : ∃ x, encB n = x := ⟨_, rfl⟩
      obtain ⟨cc, hcc⟩ : ∃ x, encC n = x := ⟨_, rfl⟩
      have HBS := Lib.hid hbs
      have HCC := Lib.hid hcc
      have hbl : bs.length ≤ 512 := by rw [← hbs]; exact encB_len n
      have hdd := dec_encB n
      rw [hbs] at hdd
      clear hbs hcc
      rcases hdd with hd | hd
      · have HD := Lib.hid hd
        clear hd
        go_wp2_with (first
          | (go_at_call 10
             go_must (
             refine (encode_any _ n _ NM.out.node HS.out HF.out.kid).mono ?_
             rintro e w2 ⟨v1, rfl, ho1, hb⟩
             rw [HBS.out] at ho1
             rw [HCC.out]
             obtain ⟨B1, d1, rfl, _, _⟩ := ho1.sl.len
             have HX := Lib.hid (HX.out.on hb); have HB := Lib.hid (HB.out.trans (hb.mono HB.out.size)); have GX := Lib.hid (GX.out.on hb)
             have NM := Lib.hid (NM.out.keep hb)
             have HO := Lib.hid ho1
             clear hb ho1))
          | (at_builtin
             refine wp_append_sl rfl _ _ rfl w2.heap.size _ [] rfl (own_new w2 w2.heap.size (Nat.le_refl _)) (by simp) _ w2.heap.size bs rfl (HO.out.sl.below (new_below w2 _)) (by simp; omega) ?_
             intro v3 w3 ho3 hb3
             rw [List.nil_append] at ho3
             obtain ⟨A5, c5, rfl, _, _⟩ := ho3.sl.len
             have hb : Below w2.heap.size w2 w3 := (new_below w2 _).trans hb3
             have hz3 := hb.size
             have hxl2 := HX.out.lt
             have hgl2 := GX.out.lt
             have hbl2 := HB.out.size
             have HX := Lib.hid (HX.out.on hb); have HB := Lib.hid (HB.out.trans (hb.mono HB.out.size)); have GX := Lib.hid (GX.out.on hb)
             have NB : Hid (Cd.Node w3 w2.heap.size (.agg #[.bool n.leaf, .slice Y1 n.keys.length k1, .slice Y2 n.vals.length k2, .slice Y3 n.kids.length k3]) n) := NM.out.node.below hb
             have HC := Lib.hid ho3
             clear hb hb3 ho3)
          | (go_at_call 15
             go_must (
             refine (decode_any _ bs _ HC.out.sl (by omega)).mono ?_
             rintro e w4 ⟨hb, y, hey, hn⟩
             rw [HD.out] at hey hn
             have hey : e = .returned (.tuple #[y, .int .i64 4]) := hey
             obtain rfl := hey
             obtain ⟨Bk, dk, Bv, dv, Bi, di, rfl⟩ := NodeF.len (n := zeroN) hn
             have hnb4 := new_below w4 (.cells #[.bool (zeroN).leaf, .slice Bk (zeroN).keys.length dk, .slice Bv (zeroN).vals.length dv, .slice Bi (zeroN).kids.length di] 25)
             have NF : Hid (NodeF _ w3.heap.size _ zeroN) := NodeF.keep (n := zeroN) hn hnb4
             have BX : Hid (Bx (w4.alloc (.cells #[.bool (zeroN).leaf, .slice Bk (zeroN).keys.length dk, .slice Bv (zeroN).vals.length dv, .slice Bi (zeroN).kids.length di] 25)) w4.heap.size (zeroN).leaf (.slice Bk (zeroN).keys.length dk) (.slice Bv (zeroN).vals.length dv) (.slice Bi (zeroN).kids.length di)) := heap_alloc_new w4 _
             have HB := Lib.hid ((HB.out.trans (hb.mono HB.out.size)).trans (hnb4.mono (HB.out.trans (hb.mono HB.out.size)).size))
             have HX := Lib.hid ((HX.out.on hb).on hnb4)
             have GX := Lib.hid ((GX.out.on hb).on hnb4)
             have NB := Lib.hid ((NB.out.below (hb.mono hz3)).below (hnb4.mono (Nat.le_trans hz3 hb.size)))
             have hlt3 := HC.out.lt
             have HC := Lib.hid ((HC.out.keep hb).keep hnb4)
             have hz4 := hb.size
             have hz5 := hnb4.size
             clear hb hn hnb4)))
        go_loopw [44] (fun i wr => ∃ (k : Nat) (cs : List UInt8), i = .int .i64 k ∧ k ≤ bs.length ∧ cs.length = bs.length ∧ Hid (Own wr w2.heap.size (.slice A5 bs.length c5) cs) ∧ Hid (Bx wr w.heap.size n.leaf (.slice A n.keys.length c) (.slice A2 n.vals.length c2) (.slice A3 n.kids.length c3)) ∧ Hid (Bx wr G n.leaf (.slice Y1 n.keys.length k1) (.slice Y2 n.vals.length k2) (.slice Y3 n.kids.length k3)) ∧ Hid (Bx wr w4.heap.size (zeroN).leaf (.slice Bk (zeroN).keys.length dk) (.slice Bv (zeroN).vals.length dv) (.slice Bi (zeroN).kids.length di)) ∧ Hid (NodeF wr w3.heap.size (.agg #[.bool (zeroN).leaf, .slice Bk (zeroN).keys.length dk, .slice Bv (zeroN).vals.length dv, .slice Bi (zeroN).kids.length di]) zeroN) ∧ Hid (Cd.Node wr w2.heap.size (.agg #[.bool n.leaf, .slice Y1 n.keys.length k1, .slice Y2 n.vals.length k2, .slice Y3 n.kids.length k3]) n) ∧ Hid (Below w.heap.size w wr) ∧ w4.heap.size < wr.heap.size) (fun i _ => bs.length - (intOf i).toNat)
        case atStart => exact ⟨0, bs, rfl, by omega, rfl, HC.out, HX.out, GX.out, BX.out, NF.out, NB.out, HB.out, BX.out.lt⟩
        case round =>
          clear HC HX GX BX NF NB HB
          obtain ⟨k, cs, rfl, hk, hcl, HC, HX, GX, BX, NF, NB, HB, hzr0⟩ := hrel
          by_cases hlt : k < bs.length
          · have hlt2 : k < cs.length := by omega
            obtain ⟨g0, cap, cur, hv, hgB, hgl, hblk, hcap, hmx, hcur⟩ := own_block HC.out (by omega)
            injection hv with hv1 hv2 hv3
            subst hv1 hv3
            have hc : wr.cell? ⟨g0, k, none⟩ = some (.int .u8 (cs[k].toNat)) := by
              obtain ⟨_, _, ev, _, _, _, _, hcell⟩ := HC.out.sl
              injection ev with ev1 _ _
              have hc := hcell _ ev1.symm k _ (vb_at cs k hlt2)
              rwa [Addr.add_lit, Nat.zero_add] at hc
            have hf : wr.frozen? ⟨g0, k, none⟩ = false := by simp [World.frozen?, hblk]
            have hg0 : g0 < w3.heap.size := (hlt3 g0 rfl).2
            obtain ⟨d, hd⟩ := byte_of (IntKind.u8.wrap ((cs[k].toNat : Int) + 1)) (by rw [IntKind.wrap_u8']; omega) (by rw [IntKind.wrap_u8']; omega)
            have HC2 : Hid (Own (wr.setCell ⟨g0, k, none⟩ (.int .u8 d.toNat)) w2.heap.size (.slice (some ⟨g0, 0, none⟩) bs.length c5) (cs.set k d)) := HC.out.stored k d
            have HX2 := Lib.hid (HX.out.other ⟨g0, k, none⟩ (.int .u8 d.toNat) (by show w.heap.size ≠ g0; omega))
            have GX2 := Lib.hid (GX.out.other ⟨g0, k, none⟩ (.int .u8 d.toNat) (by show G ≠ g0; omega))
            have BX2 := Lib.hid (BX.out.other ⟨g0, k, none⟩ (.int .u8 d.toNat) (by show w4.heap.size ≠ g0; omega))
            have NF2 := Lib.hid (NF.out.put ⟨g0, k, none⟩ (.int .u8 d.toNat) hg0)
            have NB2 := Lib.hid (NB.out.below ((Below.refl _ _).setCell (p := ⟨g0, k, none⟩) hgB (.int .u8 d.toNat)))
            have HB2 := Lib.hid (HB.out.setCell (p := ⟨g0, k, none⟩) (by show w.heap.size ≤ g0; omega) (.int .u8 d.toNat))
            have HCL := Lib.hid hcl
            clear hcur hblk HC HX GX BX NF NB HB hv2 hcl hcap
            generalize cs[k] = x at *
            go_wp2_with fail
            go_roundw
            case rel => exact ⟨k + 1, cs.set k d, by go_num, by omega, by rw [List.length_set]; exact HCL.out, HC2.out, HX2.out, GX2.out, BX2.out, NF2.out, NB2.out, HB2.out, by simp; omega⟩
            case measure => simp [intOf]; omega
          · have hzr : w2.heap.size ≤ wr.heap.size := by omega
            clear hcl
            have x0 := HX.out.cell0; have x1 := HX.out.cell1; have x2 := HX.out.cell2; have x3 := HX.out.cell3
            have y0 := GX.out.cell0; have y1 := GX.out.cell1; have y2 := GX.out.cell2; have y3 := GX.out.cell3
            go_wp2_with (first
              | (go_at_call_of 17 (Value.agg #[Value.bool n.leaf, Value.slice Y1 n.keys.length k1, Value.slice Y2 n.vals.length k2, Value.slice Y3 n.kids.length k3])
                 go_must (
                 refine (sameN_any _ _ n _ (NB.out.more hzr) (H.out.over HB.out)).mono ?_
                 rintro e w6 ⟨rfl, hb⟩
                 have HX := Lib.hid (HX.out.on hb); have HB := Lib.hid (HB.out.trans (hb.mono HB.out.size)); have BX := Lib.hid (BX.out.on hb); have NF := Lib.hid (NF.out.keep hb)
                 have x0 := HX.out.cell0; have x1 := HX.out.cell1; have x2 := HX.out.cell2; have x3 := HX.out.cell3
                 have z0 := BX.out.cell0; have z1 := BX.out.cell1; have z2 := BX.out.cell2; have z3 := BX.out.cell3
                 clear hb)))
            go_ret
            exact ⟨rfl, HB.out⟩
      · have HD := Lib.hid hd
        clear hd
        go_wp2_with (first
          | (go_at_call 10
             go_must (
             refine (encode_any _ n _ NM.out.node HS.out HF.out.kid).mono ?_
             rintro e w2 ⟨v1, rfl, ho1, hb⟩
             rw [HBS.out] at ho1
             rw [HCC.out]
             obtain ⟨B1, d1, rfl, _, _⟩ := ho1.sl.len
             have HX := Lib.hid (HX.out.on hb); have HB := Lib.hid (HB.out.trans (hb.mono HB.out.size)); have GX := Lib.hid (GX.out.on hb)
             have NM := Lib.hid (NM.out.keep hb)
             have HO := Lib.hid ho1
             clear hb ho1))
          | (at_builtin
             refine wp_append_sl rfl _ _ rfl w2.heap.size _ [] rfl (own_new w2 w2.heap.size (Nat.le_refl _)) (by simp) _ w2.heap.size bs rfl (HO.out.sl.below (new_below w2 _)) (by simp; omega) ?_
             intro v3 w3 ho3 hb3
             rw [List.nil_append] at ho3
             obtain ⟨A5, c5, rfl, _, _⟩ := ho3.sl.len
             have hb : Below w2.heap.size w2 w3 := (new_below w2 _).trans hb3
             have hz3 := hb.size
             have hxl2 := HX.out.lt
             have hgl2 := GX.out.lt
             have hbl2 := HB.out.size
             have HX := Lib.hid (HX.out.on hb); have HB := Lib.hid (HB.out.trans (hb.mono HB.out.size)); have GX := Lib.hid (GX.out.on hb)
             have NB : Hid (Cd.Node w3 w2.heap.size (.agg #[.bool n.leaf, .slice Y1 n.keys.length k1, .slice Y2 n.vals.length k2, .slice Y3 n.kids.length k3]) n) := NM.out.node.below hb
             have HC := Lib.hid ho3
             clear hb hb3 ho3)
          | (go_at_call 15
             go_must (
             refine (decode_any _ bs _ HC.out.sl (by omega)).mono ?_
             rintro e w4 ⟨hb, y, hey, hn⟩
             rw [HD.out] at hey hn
             have hey : e = .returned (.tuple #[y, .int .i64 0]) := hey
             obtain rfl := hey
             obtain ⟨Bk, dk, Bv, dv, Bi, di, rfl⟩ := NodeF.len (n := n) hn
             have hnb4 := new_below w4 (.cells #[.bool (n).leaf, .slice Bk (n).keys.length dk, .slice Bv (n).vals.length dv, .slice Bi (n).kids.length di] 25)
             have NF : Hid (NodeF _ w3.heap.size _ n) := NodeF.keep (n := n) hn hnb4
             have BX : Hid (Bx (w4.alloc (.cells #[.bool (n).leaf, .slice Bk (n).keys.length dk, .slice Bv (n).vals.length dv, .slice Bi (n).kids.length di] 25)) w4.heap.size (n).leaf (.slice Bk (n).keys.length dk) (.slice Bv (n).vals.length dv) (.slice Bi (n).kids.length di)) := heap_alloc_new w4 _
             have HB := Lib.hid ((HB.out.trans (hb.mono HB.out.size)).trans (hnb4.mono (HB.out.trans (hb.mono HB.out.size)).size))
             have HX := Lib.hid ((HX.out.on hb).on hnb4)
             have GX := Lib.hid ((GX.out.on hb).on hnb4)
             have NB := Lib.hid ((NB.out.below (hb.mono hz3)).below (hnb4.mono (Nat.le_trans hz3 hb.size)))
             have hlt3 := HC.out.lt
             have HC := Lib.hid ((HC.out.keep hb).keep hnb4)
             have hz4 := hb.size
             have hz5 := hnb4.size
             clear hb hn hnb4)))
        go_loopw [44] (fun i wr => ∃ (k : Nat) (cs : List UInt8), i = .int .i64 k ∧ k ≤ bs.length ∧ cs.length = bs.length ∧ Hid (Own wr w2.heap.size (.slice A5 bs.length c5) cs) ∧ Hid (Bx wr w.heap.size n.leaf (.slice A n.keys.length c) (.slice A2 n.vals.length c2) (.slice A3 n.kids.length c3)) ∧ Hid (Bx wr G n.leaf (.slice Y1 n.keys.length k1) (.slice Y2 n.vals.length k2) (.slice Y3 n.kids.length k3)) ∧ Hid (Bx wr w4.heap.size (n).leaf (.slice Bk (n).keys.length dk) (.slice Bv (n).vals.length dv) (.slice Bi (n).kids.length di)) ∧ Hid (NodeF wr w3.heap.size (.agg #[.bool (n).leaf, .slice Bk (n).keys.length dk, .slice Bv (n).vals.length dv, .slice Bi (n).kids.length di]) n) ∧ Hid (Cd.Node wr w2.heap.size (.agg #[.bool n.leaf, .slice Y1 n.keys.length k1, .slice Y2 n.vals.length k2, .slice Y3 n.kids.length k3]) n) ∧ Hid (Below w.heap.size w wr) ∧ w4.heap.size < wr.heap.size) (fun i _ => bs.length - (intOf i).toNat)
        case atStart => exact ⟨0, bs, rfl, by omega, rfl, HC.out, HX.out, GX.out, BX.out, NF.out, NB.out, HB.out, BX.out.lt⟩
        case round =>
          clear HC HX GX BX NF NB HB
          obtain ⟨k, cs, rfl, hk, hcl, HC, HX, GX, BX, NF, NB, HB, hzr0⟩ := hrel
          by_cases hlt : k < bs.length
          · have hlt2 : k < cs.length := by omega
            obtain ⟨g0, cap, cur, hv, hgB, hgl, hblk, hcap, hmx, hcur⟩ := own_block HC.out (by omega)
            injection hv with hv1 hv2 hv3
            subst hv1 hv3
            have hc : wr.cell? ⟨g0, k, none⟩ = some (.int .u8 (cs[k].toNat)) := by
              obtain ⟨_, _, ev, _, _, _, _, hcell⟩ := HC.out.sl
              injection ev with ev1 _ _
              have hc := hcell _ ev1.symm k _ (vb_at cs k hlt2)
              rwa [Addr.add_lit, Nat.zero_add] at hc
            have hf : wr.frozen? ⟨g0, k, none⟩ = false := by simp [World.frozen?, hblk]
            have hg0 : g0 < w3.heap.size := (hlt3 g0 rfl).2
            obtain ⟨d, hd⟩ := byte_of (IntKind.u8.wrap ((cs[k].toNat : Int) + 1)) (by rw [IntKind.wrap_u8']; omega) (by rw [IntKind.wrap_u8']; omega)
            have HC2 : Hid (Own (wr.setCell ⟨g0, k, none⟩ (.int .u8 d.toNat)) w2.heap.size (.slice (some ⟨g0, 0, none⟩) bs.length c5) (cs.set k d)) := HC.out.stored k d
            have HX2 := Lib.hid (HX.out.other ⟨g0, k, none⟩ (.int .u8 d.toNat) (by show w.heap.size ≠ g0; omega))
            have GX2 := Lib.hid (GX.out.other ⟨g0, k, none⟩ (.int .u8 d.toNat) (by show G ≠ g0; omega))
            have BX2 := Lib.hid (BX.out.other ⟨g0, k, none⟩ (.int .u8 d.toNat) (by show w4.heap.size ≠ g0; omega))
            have NF2 := Lib.hid (NF.out.put ⟨g0, k, none⟩ (.int .u8 d.toNat) hg0)
            have NB2 := Lib.hid (NB.out.below ((Below.refl _ _).setCell (p := ⟨g0, k, none⟩) hgB (.int .u8 d.toNat)))
            have HB2 := Lib.hid (HB.out.setCell (p := ⟨g0, k, none⟩) (by show w.heap.size ≤ g0; omega) (.int .u8 d.toNat))
            have HCL := Lib.hid hcl
            clear hcur hblk HC HX GX BX NF NB HB hv2 hcl hcap
            generalize cs[k] = x at *
            go_wp2_with fail
            go_roundw
            case rel => exact ⟨k + 1, cs.set k d, by go_num, by omega, by rw [List.length_set]; exact HCL.out, HC2.out, HX2.out, GX2.out, BX2.out, NF2.out, NB2.out, HB2.out, by simp; omega⟩
            case measure => simp [intOf]; omega
          · have hzr : w2.heap.size ≤ wr.heap.size := by omega
            clear hcl
            have x0 := HX.out.cell0; have x1 := HX.out.cell1; have x2 := HX.out.cell2; have x3 := HX.out.cell3
            have y0 := GX.out.cell0; have y1 := GX.out.cell1; have y2 := GX.out.cell2; have y3 := GX.out.cell3
            go_wp2_with (first
              | (go_at_call_of 17 (Value.agg #[Value.bool n.leaf, Value.slice Y1 n.keys.length k1, Value.slice Y2 n.vals.length k2, Value.slice Y3 n.kids.length k3])
                 go_must (
                 refine (sameN_any _ _ n _ (NB.out.more hzr) (H.out.over HB.out)).mono ?_
                 rintro e w6 ⟨rfl, hb⟩
                 have HX := Lib.hid (HX.out.on hb); have HB := Lib.hid (HB.out.trans (hb.mono HB.out.size)); have BX := Lib.hid (BX.out.on hb); have NF := Lib.hid (NF.out.keep hb)
                 have x0 := HX.out.cell0; have x1 := HX.out.cell1; have x2 := HX.out.cell2; have x3 := HX.out.cell3
                 have z0 := BX.out.cell0; have z1 := BX.out.cell1; have z2 := BX.out.cell2; have z3 := BX.out.cell3
                 clear hb))
              | (go_at_call 17
                 go_must (
                 refine (sameN_any _ _ n _ NF.out.node (H.out.over HB.out)).mono ?_
                 rintro e w7 ⟨rfl, hb⟩
                 have HB := Lib.hid (HB.out.trans (hb.mono HB.out.size))
                 clear hb)))
            go_ret
            exact ⟨rfl, HB.out⟩
  · have HGR := Lib.hid hgr
    clear hgr
    go_enter Try.func6, Try.ntmps6
    go_wp2_with (first
      | (go_at_call 8
         go_must (
         refine (aliveL_any _).mono ?_
         rintro e w1 ⟨rfl, hb⟩
         have HX := Lib.hid (HX.out.on hb); have HB := Lib.hid (HB.out.trans (hb.mono HB.out.size)); have x0 := HX.out.cell0; have x1 := HX.out.cell1; have x2 := HX.out.cell2; have x3 := HX.out.cell3
         clear hb))
      | (go_at_call 9
         go_must (
         refine (great_is _ n 4096 _ HGR.out _ (H.out.over HB.out) HF.out (by omega)).mono ?_
         rintro e w1 ⟨rfl, hb⟩
         have HX := Lib.hid (HX.out.on hb); have HB := Lib.hid (HB.out.trans (hb.mono HB.out.size)); have x0 := HX.out.cell0; have x1 := HX.out.cell1; have x2 := HX.out.cell2; have x3 := HX.out.cell3
         clear hb)))
    go_ret
    exact ⟨rfl, HB.out⟩

end Go.Proofs.Ytjilkpgbojjnfaa.LeafKeeps
