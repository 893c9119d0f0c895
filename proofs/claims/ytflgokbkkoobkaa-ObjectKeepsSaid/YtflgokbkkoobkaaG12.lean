/-
  ObjectKeeps: the law's walk. Conditions: none.
-/
import Derived.Test.YtflgokbkkoobkaaG11
import Derived.Test.YtflgokbkkoobkaaG9
import Derived.Test.YtflgokbkkoobkaaG10
namespace Go.Proofs.Ytflgokbkkoobkaa.ObjectKeeps
open Go.RowKit Go.Proofs.Ytflgokbkkoobkaa.Cd

set_option maxRecDepth 100000 in
set_option maxHeartbeats 25600000 in
theorem walk (vt : Value) (t : Tre) (vc : Value) (c : Cmt) (w : World) (ht : TreIn w w.heap.size vt t ∧ FitT t) (hc : CmtIn w w.heap.size vc c ∧ FitC c) : Calls Try.prog 3 #[vt, vc] w (Gives (.bool true) w) := by
  obtain ⟨⟨vp, vk, rfl, hp0, hk0⟩, hft⟩ := ht
  obtain ⟨⟨vi, rfl, hi0⟩, hfc⟩ := hc
  obtain ⟨A1, c1, e1, k1, l1⟩ := hp0.len
  obtain ⟨A2, c2, e2, k2, l2⟩ := hk0.len
  obtain ⟨A3, c3, e3, k3, l3⟩ := hi0.len
  subst e1 e2 e3
  have HFT := Lib.hid hft
  have HH1 := Lib.hid (Held.start hp0 hk0 hi0)
  clear hp0 hk0 hi0 hft
  go_enter Try.func3, Try.ntmps3
  go_wp2_with (refine wp_box_row rfl _ rfl rfl ?_)
  generalize (w.alloc (.cells #[.slice A1 t.ps.length c1, .slice A2 t.ks.length c2] 25)).alloc (.cells (cmC c (.slice A3 c.is.length c3)).toArray 31) = W1 at *
  refine (oalive_any W1).mono ?_
  rintro e W2 ⟨rfl, hb⟩
  have HH2 := Lib.hid (HH1.out.step hb)
  clear hb HH1
  have d0 := HH2.out.tr.c0
  have d1 := HH2.out.tr.c1
  go_wp2_with fail
  refine (greatt_any _ t W2 HH2.out.tre HFT.out).mono ?_
  rintro e W3 ⟨s, rfl, hs, hb⟩
  have HH3 := Lib.hid (HH2.out.step hb)
  clear hb HH2 d0 d1
  cases s
  case true =>
    have HB := Lib.hid HH3.out.bel
    clear hs
    go_wp2_with fail
    go_ret
    exact ⟨rfl, HB.out⟩
  have HST := Lib.hid (hs rfl)
  clear hs
  try dsimp only
  repeat (first
    | go_values | go_skip | go_guarded
    | (refine wp_load_mid 31 _ rfl (w.heap.size + 1) 0 rfl (cmC c (.slice A3 c.is.length c3)) _ HH3.out.range Try.underlying31 rfl (cells_com _ _) ?_; try simp only [Act.put, List.setIfInBounds_toArray, List.set_cons_zero, List.set_cons_succ])
    | go_step | go_upon)
  refine (greatc_any _ c W3 HH3.out.cmt).mono ?_
  rintro e W4 ⟨s, rfl, hs, hb⟩
  have HH4 := Lib.hid (HH3.out.step hb)
  clear hb HH3
  cases s
  case true =>
    have HB := Lib.hid HH4.out.bel
    clear hs
    go_wp2_with fail
    go_ret
    exact ⟨rfl, HB.out⟩
  have HSC := Lib.hid (hs rfl)
  clear hs
  have d0 := HH4.out.tr.c0
  have d1 := HH4.out.tr.c1
  go_wp2_with fail
  have hps : Hid (PsIn W4 W4.heap.size (.slice A1 t.ps.length c1) t.ps) := HH4.out.psIn
  have hks : Hid (KsIn W4 W4.heap.size (.slice A2 t.ks.length c2) t.ks) := HH4.out.ksIn
  obtain ⟨B0, hB0⟩ : ∃ b, W4.heap.size = b := ⟨_, rfl⟩
  have htop := HH4.out.top
  rw [hB0] at hps hks htop
  have HTOP : Hid (w.heap.size + 2 ≤ B0) := htop
  have hn50 : t.ps.length ≤ 50 := HST.out.ps
  have hk50 : t.ks.length ≤ 50 := HST.out.ks
  clear d0 d1 htop
  obtain ⟨I, hI⟩ : ∃ I : Array Bool → Act → World → Prop, ∀ listed a wx, I listed a wx ↔ (∃ s5 s21 s22 s23 s24 s25 s26 s27 s28 s29 yp lp yk lk gb, a = ⟨#[.agg #[.slice A1 t.ps.length c1, .slice A2 t.ks.length c2], .agg (cmC c (.slice A3 c.is.length c3)).toArray, .pointer (some ⟨w.heap.size, 0, none⟩), .pointer (some ⟨w.heap.size + 1, 0, none⟩), .bool false, s5, undef, undef, undef, undef, undef, undef, undef, .bool true, .bool false, .agg #[.slice A1 t.ps.length c1, .slice A2 t.ks.length c2], .bool false, .bool false, .agg (cmC c (.slice A3 c.is.length c3)).toArray, .bool false, .bool false, s21, s22, s23, s24, s25, s26, s27, s28, s29, undef, undef, undef, undef, undef, undef, undef, undef, undef, undef, undef, undef, undef, undef, undef, undef, undef, undef, undef, undef, undef, undef, undef, undef, undef, undef, undef, undef, undef, undef, undef, undef, undef, undef, undef, undef, undef, undef, undef, undef, undef, undef, undef, undef, undef, undef, undef, undef, undef, undef, undef, undef, undef, undef, undef, undef, undef, undef, undef, undef, undef, undef, undef, undef, undef, undef, undef, undef, undef, undef], []⟩ ∧ Kp W4 B0 wx yp lp yk lk gb ∧ (listed.getD 1 false = true → s22 = .pointer (some ⟨w.heap.size, 0, none⟩)) ∧ (listed.getD 2 false = true → listed.getD 1 false = true ∧ s23 = .slice A1 t.ps.length c1) ∧ (listed.getD 5 false = true → s26 = .pointer (some ⟨w.heap.size, 1, none⟩)) ∧ (listed.getD 6 false = true → listed.getD 5 false = true ∧ s27 = .slice A2 t.ks.length c2) ∧ (listed.getD 0 false = true → ¬ listed.getD 3 false = true → s21 = yp ∧ lp = []) ∧ (listed.getD 3 false = true → (listed.getD 0 false = true ∧ listed.getD 2 false = true) ∧ s24 = yp ∧ lp = t.ps) ∧ (listed.getD 4 false = true → ¬ listed.getD 7 false = true → s25 = yk ∧ lk = []) ∧ (listed.getD 7 false = true → (listed.getD 4 false = true ∧ listed.getD 6 false = true) ∧ s28 = yk ∧ lk = t.ks) ∧ (listed.getD 8 false = true → (listed.getD 3 false = true ∧ listed.getD 7 false = true) ∧ s29 = .agg #[s24, s28]) ∧ (listed.getD 9 false = true → ¬ listed.getD 10 false = true → ∃ G, gb = some G ∧ s5 = .pointer (some ⟨G, 0, none⟩)) ∧ (listed.getD 10 false = true → (∀ j, j < 10 → listed.getD j false = true) ∧ ∃ G, s5 = .pointer (some ⟨G, 0, none⟩) ∧ B0 ≤ G ∧ TrAt wx G s24 s28)) := ⟨_, fun _ _ _ => Iff.rfl⟩
  have HI := Lib.hid hI
  clear hI
  refine wp_region_inv (by kernel_rfl) (backward_of (by kernel_rfl)) I ?h0 ?hstep ?hfin
  case h0 =>
    exact (HI.out _ _ _).2 ⟨undef, undef, undef, undef, undef, undef, undef, undef, undef, undef, .slice none 0 0, [], .slice none 0 0, [], none, rfl, ⟨hB0 ▸ (Below.refl _ _).drew, by omega, OwnRw.nil _ _, OwnRw.nil _ _, fun _ e => by cases e⟩, (fun hb => by simp at hb), (fun hb => by simp at hb), (fun hb => by simp at hb), (fun hb => by simp at hb), (fun hb => by simp at hb), (fun hb => by simp at hb), (fun hb => by simp at hb), (fun hb => by simp at hb), (fun hb => by simp at hb), (fun hb => by simp at hb), (fun hb => by simp at hb)⟩
  case hstep =>
    intro i listed a wx hz hI0 hr
    obtain ⟨s5, s21, s22, s23, s24, s25, s26, s27, s28, s29, yp, lp, yk, lk, gb, rfl, hcp, q1, q2, q5, q6, q0, q3, q4, q7, q8, q9, q10⟩ := (HI.out _ _ _).1 hI0
    clear hI0
    have hni := (ready_mem.1 hr).2.1
    have hi11 : i < 11 := (ready_mem.1 hr).1
    have hz11 : listed.size = 11 := hz
    rcases (by omega : i = 0 ∨ i = 1 ∨ i = 2 ∨ i = 3 ∨ i = 4 ∨ i = 5 ∨ i = 6 ∨ i = 7 ∨ i = 8 ∨ i = 9 ∨ i = 10) with rfl | rfl | rfl | rfl | rfl | rfl | rfl | rfl | rfl | rfl | rfl
    · refine wpOp_of rfl ?_
      refine step_empty kind_pp rfl rfl ?_
      exact (HI.out _ _ _).2 ⟨_, _, _, _, _, _, _, _, _, _, _, _, _, _, _, rfl, hcp.newp, (fun hb => q1 (bit_ne (by decide) hb)), (fun hb => ⟨bit_keep (q2 (bit_ne (by decide) hb)).1, (q2 (bit_ne (by decide) hb)).2⟩), (fun hb => q5 (bit_ne (by decide) hb)), (fun hb => ⟨bit_keep (q6 (bit_ne (by decide) hb)).1, (q6 (bit_ne (by decide) hb)).2⟩), (fun _ _ => ⟨rfl, rfl⟩), (fun hb => absurd (q3 (bit_ne (by decide) hb)).1.1 (bit_off hni)), (fun hb hn => q4 (bit_ne (by decide) hb) (fun h => hn (bit_keep h))), (fun hb => ⟨⟨bit_keep (q7 (bit_ne (by decide) hb)).1.1, bit_keep (q7 (bit_ne (by decide) hb)).1.2⟩, (q7 (bit_ne (by decide) hb)).2⟩), (fun hb => ⟨⟨bit_keep (q8 (bit_ne (by decide) hb)).1.1, bit_keep (q8 (bit_ne (by decide) hb)).1.2⟩, (q8 (bit_ne (by decide) hb)).2⟩), (fun hb hn => q9 (bit_ne (by decide) hb) (fun h => hn (bit_keep h))), (fun hb => absurd ((q10 (bit_ne (by decide) hb)).1 0 (by omega)) (bit_off hni))⟩
    · refine wpOp_of rfl ?_
      go_simp
      exact (HI.out _ _ _).2 ⟨_, _, _, _, _, _, _, _, _, _, _, _, _, _, _, rfl, hcp, (fun _ => rfl), (fun hb => ⟨bit_keep (q2 (bit_ne (by decide) hb)).1, (q2 (bit_ne (by decide) hb)).2⟩), (fun hb => q5 (bit_ne (by decide) hb)), (fun hb => ⟨bit_keep (q6 (bit_ne (by decide) hb)).1, (q6 (bit_ne (by decide) hb)).2⟩), (fun hb hn => q0 (bit_ne (by decide) hb) (fun h => hn (bit_keep h))), (fun hb => ⟨⟨bit_keep (q3 (bit_ne (by decide) hb)).1.1, bit_keep (q3 (bit_ne (by decide) hb)).1.2⟩, (q3 (bit_ne (by decide) hb)).2⟩), (fun hb hn => q4 (bit_ne (by decide) hb) (fun h => hn (bit_keep h))), (fun hb => ⟨⟨bit_keep (q7 (bit_ne (by decide) hb)).1.1, bit_keep (q7 (bit_ne (by decide) hb)).1.2⟩, (q7 (bit_ne (by decide) hb)).2⟩), (fun hb => ⟨⟨bit_keep (q8 (bit_ne (by decide) hb)).1.1, bit_keep (q8 (bit_ne (by decide) hb)).1.2⟩, (q8 (bit_ne (by decide) hb)).2⟩), (fun hb hn => q9 (bit_ne (by decide) hb) (fun h => hn (bit_keep h))), (fun hb => absurd ((q10 (bit_ne (by decide) hb)).1 1 (by omega)) (bit_off hni))⟩
    · obtain rfl := q1 (ready_waits hr (show waitsB _ 2 1 = true by kernel_rfl))
      have hhx : Held w wx t c (.slice A1 t.ps.length c1) (.slice A2 t.ks.length c2) (.slice A3 c.is.length c3) := HH4.out.on (B := B0) (hcp.below) HTOP.out
      have d0 := hhx.tr.c0
      clear hhx
      refine wpOp_of rfl ?_
      go_simp
      exact (HI.out _ _ _).2 ⟨_, _, _, _, _, _, _, _, _, _, _, _, _, _, _, rfl, hcp, (fun hb => q1 (bit_ne (by decide) hb)), (fun _ => ⟨bit_keep (ready_waits hr (show waitsB _ 2 1 = true by kernel_rfl)), rfl⟩), (fun hb => q5 (bit_ne (by decide) hb)), (fun hb => ⟨bit_keep (q6 (bit_ne (by decide) hb)).1, (q6 (bit_ne (by decide) hb)).2⟩), (fun hb hn => q0 (bit_ne (by decide) hb) (fun h => hn (bit_keep h))), (fun hb => absurd (q3 (bit_ne (by decide) hb)).1.2 (bit_off hni)), (fun hb hn => q4 (bit_ne (by decide) hb) (fun h => hn (bit_keep h))), (fun hb => ⟨⟨bit_keep (q7 (bit_ne (by decide) hb)).1.1, bit_keep (q7 (bit_ne (by decide) hb)).1.2⟩, (q7 (bit_ne (by decide) hb)).2⟩), (fun hb => ⟨⟨bit_keep (q8 (bit_ne (by decide) hb)).1.1, bit_keep (q8 (bit_ne (by decide) hb)).1.2⟩, (q8 (bit_ne (by decide) hb)).2⟩), (fun hb hn => q9 (bit_ne (by decide) hb) (fun h => hn (bit_keep h))), (fun hb => absurd ((q10 (bit_ne (by decide) hb)).1 2 (by omega)) (bit_off hni))⟩
    · obtain ⟨rfl, rfl⟩ := q0 (ready_waits hr (show waitsB _ 3 0 = true by kernel_rfl)) (bit_off hni)
      obtain ⟨_, rfl⟩ := q2 (ready_waits hr (show waitsB _ 3 2 = true by kernel_rfl))
      refine wpOp_of rfl ?_
      refine step_append_rw kind_pp rfl (.tmp 21) (.tmp 23) rfl rfl hcp.ps hcp.size (.slice A1 t.ps.length c1) B0 t.ps rfl (hps.out.below hcp.below) (by simp; omega) ?_
      intro v2 w2 ho hb hg
      rw [List.nil_append] at ho
      exact (HI.out _ _ _).2 ⟨_, _, _, _, _, _, _, _, _, _, _, _, _, _, _, rfl, (hcp.setp ho hb hg), (fun hb => q1 (bit_ne (by decide) hb)), (fun hb => ⟨bit_keep (q2 (bit_ne (by decide) hb)).1, (q2 (bit_ne (by decide) hb)).2⟩), (fun hb => q5 (bit_ne (by decide) hb)), (fun hb => ⟨bit_keep (q6 (bit_ne (by decide) hb)).1, (q6 (bit_ne (by decide) hb)).2⟩), (fun _ hn => absurd (bit_self (by omega)) hn), (fun _ => ⟨⟨bit_keep (ready_waits hr (show waitsB _ 3 0 = true by kernel_rfl)), bit_keep (ready_waits hr (show waitsB _ 3 2 = true by kernel_rfl))⟩, rfl, rfl⟩), (fun hb hn => q4 (bit_ne (by decide) hb) (fun h => hn (bit_keep h))), (fun hb => ⟨⟨bit_keep (q7 (bit_ne (by decide) hb)).1.1, bit_keep (q7 (bit_ne (by decide) hb)).1.2⟩, (q7 (bit_ne (by decide) hb)).2⟩), (fun hb => absurd (q8 (bit_ne (by decide) hb)).1.1 (bit_off hni)), (fun hb hn => q9 (bit_ne (by decide) hb) (fun h => hn (bit_keep h))), (fun hb => absurd ((q10 (bit_ne (by decide) hb)).1 3 (by omega)) (bit_off hni))⟩
    · refine wpOp_of rfl ?_
      refine step_empty kind_kk rfl rfl ?_
      exact (HI.out _ _ _).2 ⟨_, _, _, _, _, _, _, _, _, _, _, _, _, _, _, rfl, hcp.newk, (fun hb => q1 (bit_ne (by decide) hb)), (fun hb => ⟨bit_keep (q2 (bit_ne (by decide) hb)).1, (q2 (bit_ne (by decide) hb)).2⟩), (fun hb => q5 (bit_ne (by decide) hb)), (fun hb => ⟨bit_keep (q6 (bit_ne (by decide) hb)).1, (q6 (bit_ne (by decide) hb)).2⟩), (fun hb hn => q0 (bit_ne (by decide) hb) (fun h => hn (bit_keep h))), (fun hb => ⟨⟨bit_keep (q3 (bit_ne (by decide) hb)).1.1, bit_keep (q3 (bit_ne (by decide) hb)).1.2⟩, (q3 (bit_ne (by decide) hb)).2⟩), (fun _ _ => ⟨rfl, rfl⟩), (fun hb => absurd (q7 (bit_ne (by decide) hb)).1.1 (bit_off hni)), (fun hb => ⟨⟨bit_keep (q8 (bit_ne (by decide) hb)).1.1, bit_keep (q8 (bit_ne (by decide) hb)).1.2⟩, (q8 (bit_ne (by decide) hb)).2⟩), (fun hb hn => q9 (bit_ne (by decide) hb) (fun h => hn (bit_keep h))), (fun hb => absurd ((q10 (bit_ne (by decide) hb)).1 4 (by omega)) (bit_off hni))⟩
    · refine wpOp_of rfl ?_
      go_simp
      exact (HI.out _ _ _).2 ⟨_, _, _, _, _, _, _, _, _, _, _, _, _, _, _, rfl, hcp, (fun hb => q1 (bit_ne (by decide) hb)), (fun hb => ⟨bit_keep (q2 (bit_ne (by decide) hb)).1, (q2 (bit_ne (by decide) hb)).2⟩), (fun _ => rfl), (fun hb => ⟨bit_keep (q6 (bit_ne (by decide) hb)).1, (q6 (bit_ne (by decide) hb)).2⟩), (fun hb hn => q0 (bit_ne (by decide) hb) (fun h => hn (bit_keep h))), (fun hb => ⟨⟨bit_keep (q3 (bit_ne (by decide) hb)).1.1, bit_keep (q3 (bit_ne (by decide) hb)).1.2⟩, (q3 (bit_ne (by decide) hb)).2⟩), (fun hb hn => q4 (bit_ne (by decide) hb) (fun h => hn (bit_keep h))), (fun hb => ⟨⟨bit_keep (q7 (bit_ne (by decide) hb)).1.1, bit_keep (q7 (bit_ne (by decide) hb)).1.2⟩, (q7 (bit_ne (by decide) hb)).2⟩), (fun hb => ⟨⟨bit_keep (q8 (bit_ne (by decide) hb)).1.1, bit_keep (q8 (bit_ne (by decide) hb)).1.2⟩, (q8 (bit_ne (by decide) hb)).2⟩), (fun hb hn => q9 (bit_ne (by decide) hb) (fun h => hn (bit_keep h))), (fun hb => absurd ((q10 (bit_ne (by decide) hb)).1 5 (by omega)) (bit_off hni))⟩
    · obtain rfl := q5 (ready_waits hr (show waitsB _ 6 5 = true by kernel_rfl))
      have hhx : Held w wx t c (.slice A1 t.ps.length c1) (.slice A2 t.ks.length c2) (.slice A3 c.is.length c3) := HH4.out.on (B := B0) (hcp.below) HTOP.out
      have d1 := hhx.tr.c1
      clear hhx
      refine wpOp_of rfl ?_
      go_simp
      exact (HI.out _ _ _).2 ⟨_, _, _, _, _, _, _, _, _, _, _, _, _, _, _, rfl, hcp, (fun hb => q1 (bit_ne (by decide) hb)), (fun hb => ⟨bit_keep (q2 (bit_ne (by decide) hb)).1, (q2 (bit_ne (by decide) hb)).2⟩), (fun hb => q5 (bit_ne (by decide) hb)), (fun _ => ⟨bit_keep (ready_waits hr (show waitsB _ 6 5 = true by kernel_rfl)), rfl⟩), (fun hb hn => q0 (bit_ne (by decide) hb) (fun h => hn (bit_keep h))), (fun hb => ⟨⟨bit_keep (q3 (bit_ne (by decide) hb)).1.1, bit_keep (q3 (bit_ne (by decide) hb)).1.2⟩, (q3 (bit_ne (by decide) hb)).2⟩), (fun hb hn => q4 (bit_ne (by decide) hb) (fun h => hn (bit_keep h))), (fun hb => absurd (q7 (bit_ne (by decide) hb)).1.2 (bit_off hni)), (fun hb => ⟨⟨bit_keep (q8 (bit_ne (by decide) hb)).1.1, bit_keep (q8 (bit_ne (by decide) hb)).1.2⟩, (q8 (bit_ne (by decide) hb)).2⟩), (fun hb hn => q9 (bit_ne (by decide) hb) (fun h => hn (bit_keep h))), (fun hb => absurd ((q10 (bit_ne (by decide) hb)).1 6 (by omega)) (bit_off hni))⟩
    · obtain ⟨rfl, rfl⟩ := q4 (ready_waits hr (show waitsB _ 7 4 = true by kernel_rfl)) (bit_off hni)
      obtain ⟨_, rfl⟩ := q6 (ready_waits hr (show waitsB _ 7 6 = true by kernel_rfl))
      refine wpOp_of rfl ?_
      refine step_append_rw kind_kk rfl (.tmp 25) (.tmp 27) rfl rfl hcp.ks hcp.size (.slice A2 t.ks.length c2) B0 t.ks rfl (hks.out.below hcp.below) (by simp; omega) ?_
      intro v2 w2 ho hb hg
      rw [List.nil_append] at ho
      exact (HI.out _ _ _).2 ⟨_, _, _, _, _, _, _, _, _, _, _, _, _, _, _, rfl, (hcp.setk ho hb hg), (fun hb => q1 (bit_ne (by decide) hb)), (fun hb => ⟨bit_keep (q2 (bit_ne (by decide) hb)).1, (q2 (bit_ne (by decide) hb)).2⟩), (fun hb => q5 (bit_ne (by decide) hb)), (fun hb => ⟨bit_keep (q6 (bit_ne (by decide) hb)).1, (q6 (bit_ne (by decide) hb)).2⟩), (fun hb hn => q0 (bit_ne (by decide) hb) (fun h => hn (bit_keep h))), (fun hb => ⟨⟨bit_keep (q3 (bit_ne (by decide) hb)).1.1, bit_keep (q3 (bit_ne (by decide) hb)).1.2⟩, (q3 (bit_ne (by decide) hb)).2⟩), (fun _ hn => absurd (bit_self (by omega)) hn), (fun _ => ⟨⟨bit_keep (ready_waits hr (show waitsB _ 7 4 = true by kernel_rfl)), bit_keep (ready_waits hr (show waitsB _ 7 6 = true by kernel_rfl))⟩, rfl, rfl⟩), (fun hb => absurd (q8 (bit_ne (by decide) hb)).1.2 (bit_off hni)), (fun hb hn => q9 (bit_ne (by decide) hb) (fun h => hn (bit_keep h))), (fun hb => absurd ((q10 (bit_ne (by decide) hb)).1 7 (by omega)) (bit_off hni))⟩
    · have e3 := (q3 (ready_waits hr (show waitsB _ 8 3 = true by kernel_rfl))).2.1
      have e7 := (q7 (ready_waits hr (show waitsB _ 8 7 = true by kernel_rfl))).2.1
      obtain ⟨Y1, m1, hy1, _, _⟩ := (hcp.ps.rwIn kind_pp).len
      obtain ⟨Y2, m2, hy2, _, _⟩ := (hcp.ks.rwIn kind_kk).len
      rw [hy1] at e3
      rw [hy2] at e7
      subst e3 e7
      refine wpOp_of rfl ?_
      go_simp
      exact (HI.out _ _ _).2 ⟨_, _, _, _, _, _, _, _, _, _, _, _, _, _, _, rfl, hcp, (fun hb => q1 (bit_ne (by decide) hb)), (fun hb => ⟨bit_keep (q2 (bit_ne (by decide) hb)).1, (q2 (bit_ne (by decide) hb)).2⟩), (fun hb => q5 (bit_ne (by decide) hb)), (fun hb => ⟨bit_keep (q6 (bit_ne (by decide) hb)).1, (q6 (bit_ne (by decide) hb)).2⟩), (fun hb hn => q0 (bit_ne (by decide) hb) (fun h => hn (bit_keep h))), (fun hb => ⟨⟨bit_keep (q3 (bit_ne (by decide) hb)).1.1, bit_keep (q3 (bit_ne (by decide) hb)).1.2⟩, (q3 (bit_ne (by decide) hb)).2⟩), (fun hb hn => q4 (bit_ne (by decide) hb) (fun h => hn (bit_keep h))), (fun hb => ⟨⟨bit_keep (q7 (bit_ne (by decide) hb)).1.1, bit_keep (q7 (bit_ne (by decide) hb)).1.2⟩, (q7 (bit_ne (by decide) hb)).2⟩), (fun _ => ⟨⟨bit_keep (ready_waits hr (show waitsB _ 8 3 = true by kernel_rfl)), bit_keep (ready_waits hr (show waitsB _ 8 7 = true by kernel_rfl))⟩, rfl⟩), (fun hb hn => q9 (bit_ne (by decide) hb) (fun h => hn (bit_keep h))), (fun hb => absurd ((q10 (bit_ne (by decide) hb)).1 8 (by omega)) (bit_off hni))⟩
    · refine wpOp_of rfl ?_
      go_simp
      exact (HI.out _ _ _).2 ⟨_, _, _, _, _, _, _, _, _, _, _, _, _, _, _, rfl, hcp.lay, (fun hb => q1 (bit_ne (by decide) hb)), (fun hb => ⟨bit_keep (q2 (bit_ne (by decide) hb)).1, (q2 (bit_ne (by decide) hb)).2⟩), (fun hb => q5 (bit_ne (by decide) hb)), (fun hb => ⟨bit_keep (q6 (bit_ne (by decide) hb)).1, (q6 (bit_ne (by decide) hb)).2⟩), (fun hb hn => q0 (bit_ne (by decide) hb) (fun h => hn (bit_keep h))), (fun hb => ⟨⟨bit_keep (q3 (bit_ne (by decide) hb)).1.1, bit_keep (q3 (bit_ne (by decide) hb)).1.2⟩, (q3 (bit_ne (by decide) hb)).2⟩), (fun hb hn => q4 (bit_ne (by decide) hb) (fun h => hn (bit_keep h))), (fun hb => ⟨⟨bit_keep (q7 (bit_ne (by decide) hb)).1.1, bit_keep (q7 (bit_ne (by decide) hb)).1.2⟩, (q7 (bit_ne (by decide) hb)).2⟩), (fun hb => ⟨⟨bit_keep (q8 (bit_ne (by decide) hb)).1.1, bit_keep (q8 (bit_ne (by decide) hb)).1.2⟩, (q8 (bit_ne (by decide) hb)).2⟩), (fun _ _ => ⟨_, rfl, rfl⟩), (fun hb => absurd ((q10 (bit_ne (by decide) hb)).1 9 (by omega)) (bit_off hni))⟩
    · obtain ⟨G, rfl, rfl⟩ := q9 (ready_waits hr (show waitsB _ 10 9 = true by kernel_rfl)) (bit_off hni)
      have b8 := (ready_waits hr (show waitsB _ 10 8 = true by kernel_rfl))
      have b9 := (ready_waits hr (show waitsB _ 10 9 = true by kernel_rfl))
      obtain ⟨⟨b3, b7⟩, rfl⟩ := q8 b8
      have b02 := (q3 b3).1
      have b46 := (q7 b7).1
      have b1 := (q2 b02.2).1
      have b5 := (q6 b46.2).1
      have hall : ∀ j, j < 10 → (listed.setIfInBounds 10 true).getD j false = true := fun j hj => by
        rcases (by omega : j = 0 ∨ j = 1 ∨ j = 2 ∨ j = 3 ∨ j = 4 ∨ j = 5 ∨ j = 6 ∨ j = 7 ∨ j = 8 ∨ j = 9) with rfl | rfl | rfl | rfl | rfl | rfl | rfl | rfl | rfl | rfl
        all_goals (first | exact bit_keep b8 | exact bit_keep b9 | exact bit_keep b3 | exact bit_keep b7 | exact bit_keep b02.1 | exact bit_keep b02.2 | exact bit_keep b46.1 | exact bit_keep b46.2 | exact bit_keep b1 | exact bit_keep b5)
      have e3 := (q3 b3).2.1
      have e7 := (q7 b7).2.1
      obtain ⟨Y1, m1, hy1, _, _⟩ := (hcp.ps.rwIn kind_pp).len
      obtain ⟨Y2, m2, hy2, _, _⟩ := (hcp.ks.rwIn kind_kk).len
      rw [hy1] at e3
      rw [hy2] at e7
      subst e3 e7
      have HALL := Lib.hid hall
      clear hall b8 b9 b3 b7 b02 b46 b1 b5
      have hf := hcp.fill (.slice Y1 lp.length m1) (.slice Y2 lk.length m2)
      have hbg := hf.2
      have hx := (hcp.box G rfl).2
      have g0 := hx.c0
      have g1 := hx.c1
      have f0 := hx.frozen 0
      have f1 := hx.frozen 1
      refine wpOp_of rfl ?_
      go_simp
      exact (HI.out _ _ _).2 ⟨_, _, _, _, _, _, _, _, _, _, _, _, _, _, _, rfl, hf.1, (fun hb => q1 (bit_ne (by decide) hb)), (fun hb => ⟨bit_keep (q2 (bit_ne (by decide) hb)).1, (q2 (bit_ne (by decide) hb)).2⟩), (fun hb => q5 (bit_ne (by decide) hb)), (fun hb => ⟨bit_keep (q6 (bit_ne (by decide) hb)).1, (q6 (bit_ne (by decide) hb)).2⟩), (fun hb hn => q0 (bit_ne (by decide) hb) (fun h => hn (bit_keep h))), (fun hb => ⟨⟨bit_keep (q3 (bit_ne (by decide) hb)).1.1, bit_keep (q3 (bit_ne (by decide) hb)).1.2⟩, (q3 (bit_ne (by decide) hb)).2⟩), (fun hb hn => q4 (bit_ne (by decide) hb) (fun h => hn (bit_keep h))), (fun hb => ⟨⟨bit_keep (q7 (bit_ne (by decide) hb)).1.1, bit_keep (q7 (bit_ne (by decide) hb)).1.2⟩, (q7 (bit_ne (by decide) hb)).2⟩), (fun hb => ⟨⟨bit_keep (q8 (bit_ne (by decide) hb)).1.1, bit_keep (q8 (bit_ne (by decide) hb)).1.2⟩, (q8 (bit_ne (by decide) hb)).2⟩), (fun _ hn => absurd (bit_self (by omega)) hn), (fun _ => ⟨HALL.out, G, rfl, hbg.1, hbg.2⟩)⟩
  case hfin =>
    intro listed a wx hI0 hall
    obtain ⟨s5, s21, s22, s23, s24, s25, s26, s27, s28, s29, yp, lp, yk, lk, gb, rfl, hcp, q1, q2, q5, q6, q0, q3, q4, q7, q8, q9, q10⟩ := (HI.out _ _ _).1 hI0
    clear hI0
    obtain ⟨_, G, rfl, hG, hbx⟩ := q10 (hall 10 (by show 10 < 11; omega))
    obtain ⟨_, rfl, rfl⟩ := q3 (hall 3 (by show 3 < 11; omega))
    obtain ⟨_, rfl, rfl⟩ := q7 (hall 7 (by show 7 < 11; omega))
    clear q1 q2 q5 q6 q0 q3 q4 q7 q8 q9 q10 hall HI hps hks
    have HH5 : Hid (Held w wx t c (.slice A1 t.ps.length c1) (.slice A2 t.ks.length c2) (.slice A3 c.is.length c3)) := HH4.out.on (B := B0) hcp.below HTOP.out
    have HP5 := Lib.hid hcp.ps
    have HK5 := Lib.hid hcp.ks
    have HT5 := Lib.hid hbx
    have hzG := hbx.lt
    have hcs0 := hcp.size
    clear hcp hbx HH4
    obtain ⟨Y1, m1, hy1, k4, l4⟩ := (HP5.out.rwIn kind_pp).len
    obtain ⟨Y2, m2, hy2, k5, l5⟩ := (HK5.out.rwIn kind_kk).len
    subst hy1 hy2
    have hw6 : wx.heap.size + 1 = (wx.alloc (.cells (cmC c (.slice A3 c.is.length c3)).toArray 31)).heap.size := (asz _ _).symm
    have hb7 : Below wx.heap.size wx ((wx.alloc (.cells (cmC c (.slice A3 c.is.length c3)).toArray 31)).alloc (.cells #[] 28)) := (new_below _ _).trans ((new_below _ _).mono (by omega))
    have HH7 := Lib.hid (HH5.out.step hb7)
    have HP7 := Lib.hid (HP5.out.keep hb7)
    have HK7 := Lib.hid (HK5.out.keep hb7)
    have HT7 := Lib.hid (HT5.out.below hb7 hzG)
    have HD7 : Hid (ComAt ((wx.alloc (.cells (cmC c (.slice A3 c.is.length c3)).toArray 31)).alloc (.cells #[] 28)) wx.heap.size c (.slice A3 c.is.length c3)) := (ComAt.new wx c (.slice A3 c.is.length c3)).below (new_below _ _) (by omega)
    have HE7 : Hid (OwnRw iiC 33 28 ((wx.alloc (.cells (cmC c (.slice A3 c.is.length c3)).toArray 31)).alloc (.cells #[] 28)) (wx.heap.size + 1) (.slice (some ⟨wx.heap.size + 1, 0, none⟩) 0 0) []) := by
      have h := OwnRw.empty (f := iiC) (n := 33) (T := 28) (wx.alloc (.cells (cmC c (.slice A3 c.is.length c3)).toArray 31)) (B := wx.heap.size + 1) (by rw [hw6]; exact Nat.le_refl _)
      rw [← hw6] at h
      exact h
    have hz7 : wx.heap.size + 1 ≤ ((wx.alloc (.cells (cmC c (.slice A3 c.is.length c3)).toArray 31)).alloc (.cells #[] 28)).heap.size := by rw [asz, asz]; omega
    have d33 := HH7.out.cm.is
    have HR5 := Lib.hid HH5.out.range
    have hi50 : c.is.length ≤ 50 := HSC.out.is
    have hB0x : B0 ≤ wx.heap.size := hcs0
    clear hb7 HP5 HK5 HT5 hw6 hB0 hcs0
    go_wp2_with (first
      | (refine wpList_load_mid rfl 31 _ rfl (w.heap.size + 1) 0 rfl (cmC c (.slice A3 c.is.length c3)) _ HR5.out Try.underlying31 rfl (cells_com _ _) ?_)
      | (refine wp_alloc_row zero_cm rfl rfl ?_)
      | (refine wp_fill_cm rfl _ _ rfl (cm0 idZ) (.slice none 0 0) rfl (by first | rfl | simp [Act.eval, Act.put]) c A3 c.is.length c3 (by first | rfl | simp [Act.eval, Act.put]) ?_)
      | (refine wp_append_rw kind_ii rfl _ _ rfl rfl HE7.out hz7 (.slice A3 c.is.length c3) _ c.is rfl HH7.out.isIn (by simp; omega) ?_))
    intro v8 w8 ho hb hg
    obtain ⟨D, hD⟩ : ∃ D, wx.heap.size = D := ⟨_, rfl⟩
    have HH8 : Hid (Held w w8 t c (.slice A1 t.ps.length c1) (.slice A2 t.ks.length c2) (.slice A3 c.is.length c3)) := HH7.out.on hb (by have := HH5.out.top; omega)
    have hsb : ∀ k, (Value.slice (some ⟨wx.heap.size + 1, 0, none⟩) 0 0).ownBlock = some k → wx.heap.size < k := fun k hk => by
      have hk2 : some (wx.heap.size + 1) = some k := hk
      injection hk2 with hk2
      omega
    have HP8 : Hid (OwnRw ppC 2 43 w8 B0 (.slice Y1 t.ps.length m1) t.ps) := HP7.out.apart hg (rows_apart HE7.out HP7.out (by decide))
    have HK8 : Hid (OwnRw kkC 34 48 w8 B0 (.slice Y2 t.ks.length m2) t.ks) := HK7.out.apart hg (rows_apart HE7.out HK7.out (by decide))
    have HT8 : Hid (TrAt w8 G (.slice Y1 t.ps.length m1) (.slice Y2 t.ks.length m2)) := (hg.block G HT7.out.lt (fun e => by have := hsb G e.symm; omega)).trans HT7.out
    have HD8 : Hid (ComAt w8 wx.heap.size c (.slice A3 c.is.length c3)) := (hg.block _ HD7.out.lt (fun e => by have := hsb _ e.symm; omega)).trans HD7.out
    have HI8 := Lib.hid (OwnRw.lower ho (show B0 ≤ wx.heap.size + 1 by omega))
    obtain ⟨Y3, m3, hy3, k6, l6⟩ := (ho.rwIn kind_ii).len
    subst hy3
    rw [hD] at HD8 hzG hB0x
    clear ho hb hg HH7 HP7 HK7 HT7 HD7 HE7 hz7 d33 hsb HR5 HH5
    have c33 := HD8.out.is
    have f33 := HD8.out.frozen 33
    have HM9 : Hid (MidK w (w8.setCell ⟨D, 33, none⟩ (.slice Y3 c.is.length m3)) t c (.slice A1 t.ps.length c1) (.slice A2 t.ks.length c2) (.slice A3 c.is.length c3) B0 G D (.slice Y1 t.ps.length m1) (.slice Y2 t.ks.length m2) (.slice Y3 c.is.length m3)) := by
      have hgD : w8.grownBy (w8.setCell ⟨D, 33, none⟩ (.slice Y3 c.is.length m3)) (some D) := grown_cell (show w8.grownBy w8 (some D) from ⟨rfl, rfl, rfl, Nat.le_refl _, fun _ _ _ => rfl⟩) 33 _
      exact ⟨HH8.out.on (grown_below hgD (B := B0) hB0x (by have := HH8.out.top; have := HD8.out.lt; omega)) HTOP.out,
        HP8.out.apart hgD (.inr fun e => box_apart (T' := 31) HP8.out HD8.out (by decide) e.symm), HK8.out.apart hgD (.inr fun e => box_apart (T' := 31) HK8.out HD8.out (by decide) e.symm), HI8.out.apart hgD (.inr fun e => box_apart (T' := 31) HI8.out HD8.out (by decide) e.symm),
        (hgD.block G HT8.out.lt (fun e => by injection e with e; omega)).trans HT8.out, HD8.out.set33 _⟩
    rw [hD]
    clear HH8 HP8 HK8 HT8 HD8 HI8 hD
    have g0 := HM9.out.tr.c0
    have g1 := HM9.out.tr.c1
    go_wp2_with fail
    generalize w8.setCell ⟨D, 33, none⟩ (.slice Y3 c.is.length m3) = w9 at HM9 g0 g1 ⊢
    refine (putt_any _ t w9 HM9.out.tre).mono ?_
    rintro e w10 ⟨v5, n5, rfl, hb, hput⟩
    have HMA := Lib.hid (HM9.out.step hb)
    have hx5 : ∃ X A cc, v5 = .slice A X.length cc ∧ Own w10 w9.heap.size v5 X ∧ ((GoodT t ∧ n5 = 0 ∧ X = treeB t) ∨ n5 = 1) := by
      rcases hput with ⟨hg, h0, ho⟩ | ⟨_, h1, rfl⟩
      · obtain ⟨A5, c5, e5, _, _⟩ := ho.sl.len
        exact ⟨_, A5, c5, e5, ho, .inl ⟨hg, h0, rfl⟩⟩
      · exact ⟨[], none, 0, rfl, ⟨rfl, .inl ⟨rfl, rfl⟩⟩, .inr h1⟩
    obtain ⟨X, A5, c5, rfl, hox, hX⟩ := hx5
    have HOX := Lib.hid hox
    have HX := Lib.hid hX
    clear hb hput hox hX g0 g1 HM9
    have HRA := Lib.hid HMA.out.cm.whole
    go_wp2_with (refine wpList_load_mid rfl 31 _ rfl D 0 rfl (cmC c (.slice Y3 c.is.length m3)) _ HRA.out Try.underlying31 rfl (cells_com _ _) ?_)
    refine (putc_any _ c w10 HMA.out.cmt).mono ?_
    rintro e w11 ⟨v6, n6, rfl, hb, hput⟩
    have HMB := Lib.hid (HMA.out.step hb)
    have HOX2 := Lib.hid (HOX.out.keep hb)
    have hx6 : ∃ Z A cc, v6 = .slice A Z.length cc ∧ Own w11 w10.heap.size v6 Z ∧ ((GoodC c ∧ n6 = 0 ∧ Z = comB c) ∨ n6 = 1) := by
      rcases hput with ⟨hg, h0, ho⟩ | ⟨_, h1, rfl⟩
      · obtain ⟨A5, c5, e5, _, _⟩ := ho.sl.len
        exact ⟨_, A5, c5, e5, ho, .inl ⟨hg, h0, rfl⟩⟩
      · exact ⟨[], none, 0, rfl, ⟨rfl, .inl ⟨rfl, rfl⟩⟩, .inr h1⟩
    obtain ⟨Z, A6, c6, rfl, hoz, hZ⟩ := hx6
    have HOZ := Lib.hid hoz
    have HZ := Lib.hid hZ
    clear hb hput hoz hZ HMA HOX HRA
    have g0 := HMB.out.tr.c0
    have g1 := HMB.out.tr.c1
    have d0 := HMB.out.held.tr.c0
    have d1 := HMB.out.held.tr.c1
    go_wp2_with fail
    refine (samet_any _ _ t t w11 HMB.out.tre HMB.out.held.tre).mono ?_
    rintro e w12 ⟨s, rfl, hs, hb⟩
    obtain rfl : s = true := hs.2 rfl
    have HMC := Lib.hid (HMB.out.step hb)
    have HOX3 := Lib.hid (HOX2.out.keep hb)
    have HOZ3 := Lib.hid (HOZ.out.keep hb)
    clear hs hb HMB HOX2 HOZ g0 g1 d0 d1
    have HRC := Lib.hid HMC.out.cm.whole
    have HRH := Lib.hid HMC.out.held.range
    try dsimp only
    repeat (first
      | go_values | go_skip | go_guarded
      | (refine wp_load_mid 31 _ rfl D 0 rfl (cmC c (.slice Y3 c.is.length m3)) _ HRC.out Try.underlying31 rfl (cells_com _ _) ?_; try simp only [Act.put, List.setIfInBounds_toArray, List.set_cons_zero, List.set_cons_succ])
      | (refine wp_load_mid 31 _ rfl (w.heap.size + 1) 0 rfl (cmC c (.slice A3 c.is.length c3)) _ HRH.out Try.underlying31 rfl (cells_com _ _) ?_; try simp only [Act.put, List.setIfInBounds_toArray, List.set_cons_zero, List.set_cons_succ])
      | go_step | go_upon)
    refine (samec_any _ _ c c w12 HMC.out.cmt HMC.out.held.cmt).mono ?_
    rintro e w13 ⟨s, rfl, hs, hb⟩
    obtain rfl : s = true := hs.2 rfl
    have HMD := Lib.hid (HMC.out.step hb)
    have HOX4 := Lib.hid (HOX3.out.keep hb)
    have HOZ4 := Lib.hid (HOZ3.out.keep hb)
    clear hs hb HMC HOX3 HOZ3 HRC HRH
    have g0 := HMD.out.tr.c0
    have g1 := HMD.out.tr.c1
    go_wp2_with fail
    have hB0z : B0 ≤ w13.heap.size := by have := HMD.out.tr.lt; omega
    obtain ⟨gp, Ap, mp, hgp, hyp, hyl, hym, hyb, hyo, hyu⟩ := rw_at kind_pp HMD.out.ps hB0z
    injection hyp with e1 _ e3
    subst e1 e3
    have HYB := Lib.hid (fun h => (hyb h).1)
    have HBL : Hid (0 < t.ps.length → ∃ cur, w13.heap[gp]? = some (.cells cur 43) ∧ t.ps.length * 2 ≤ cur.size) := fun h => (hyb h).2
    have hGn : G ≠ gp := hyo G _ _ _ HMD.out.tr (by decide)
    have hDn : D ≠ gp := hyo D _ _ _ HMD.out.cm (by decide)
    have HTR : Hid (∀ W, w13.grownBy W (some gp) → TrAt W G (.slice Y1 t.ps.length m1) (.slice Y2 t.ks.length m2)) := fun W hg => (hg.block G HMD.out.tr.lt (fun e => hGn (by injection e))).trans HMD.out.tr
    have HAF : Hid (∀ W, w13.grownBy W (some gp) → (Held w W t c (.slice A1 t.ps.length c1) (.slice A2 t.ks.length c2) (.slice A3 c.is.length c3) ∧ ComAt W D c (.slice Y3 c.is.length m3) ∧ OwnRw iiC 33 28 W B0 (.slice Y3 c.is.length m3) c.is) ∧ Own W w9.heap.size (.slice A5 X.length c5) X ∧ Own W w10.heap.size (.slice A6 Z.length c6) Z) := fun W hg =>
      ⟨⟨HMD.out.held.on (grown_below hg hgp hB0z) HTOP.out, (hg.block D HMD.out.cm.lt (fun e => hDn (by injection e))).trans HMD.out.cm, HMD.out.is.apart hg (hyu _ _ _ _ _ _ HMD.out.is (by decide))⟩,
        World.ownsRow.kept HOX4.out hg (hyu _ _ _ _ _ _ HOX4.out (by decide)), World.ownsRow.kept HOZ4.out hg (hyu _ _ _ _ _ _ HOZ4.out (by decide))⟩
    have HG0 : Hid (w13.grownBy w13 (some gp)) := ⟨rfl, rfl, rfl, Nat.le_refl _, fun _ _ _ => rfl⟩
    have hzz : B0 ≤ w13.heap.size := hB0z
    clear hyb hyo hyu hGn hDn HMD HOX4 HOZ4 g0 g1 hB0z hyl hym
    go_loopw [59] (fun i wr => ∃ k : Nat, k ≤ t.ps.length ∧ i = .int .i64 k ∧ Hid (w13.grownBy wr (some gp)) ∧ Hid (0 < t.ps.length → ∃ cur, wr.heap[gp]? = some (.cells cur 43) ∧ t.ps.length * 2 ≤ cur.size)) (fun i _ => t.ps.length - (intOf i).toNat)
    case atStart => exact ⟨0, by omega, rfl, HG0, HBL⟩
    case round =>
      clear HG0 HBL
      obtain ⟨k, hk, rfl, HG, HBL⟩ := hrel
      by_cases hlt : k < t.ps.length
      · have e1 := HYB.out (by omega)
        subst e1
        obtain ⟨cur, hcur, hcz⟩ := HBL.out (by omega)
        obtain ⟨⟨v9, hv9⟩, hf9⟩ := block_cell hcur (k * 2) (by omega)
        have g0 := (HTR.out _ HG.out).c0
        have HG2 : Hid (w13.grownBy (wr.setCell ⟨gp, k * 2, none⟩ (.string ⟨#[63]⟩)) (some gp)) := grown_cell HG.out _ _
        have HB2 : Hid (0 < t.ps.length → ∃ cur, (wr.setCell ⟨gp, k * 2, none⟩ (.string ⟨#[63]⟩)).heap[gp]? = some (.cells cur 43) ∧ t.ps.length * 2 ≤ cur.size) := fun _ => by
          obtain ⟨c2, h2, z2⟩ := block_set hcur (k * 2) (.string ⟨#[63]⟩)
          exact ⟨c2, h2, by omega⟩
        clear hcur hcz HBL HG
        go_wp2_with fail
        go_roundw
        case rel => exact ⟨k + 1, by omega, by go_num, HG2, HB2⟩
        case measure => simp [intOf]; omega
      · have hafs := HAF.out _ HG.out
        have hBr : B0 ≤ wr.heap.size := Nat.le_trans hzz HG.out.size
        obtain ⟨gi, Ai, mi, hgi, hyp, _, _, hyb, hyo, hyu⟩ := rw_at kind_ii hafs.1.2.2 hBr
        injection hyp with e1 _ e3
        subst e1 e3
        have HYC := Lib.hid (fun h => (hyb h).1)
        have HCL : Hid (0 < c.is.length → ∃ cur, wr.heap[gi]? = some (.cells cur 28) ∧ c.is.length * 33 ≤ cur.size) := fun h => (hyb h).2
        have hDn : D ≠ gi := hyo D _ _ _ hafs.1.2.1 (by decide)
        have HCM : Hid (∀ W, wr.grownBy W (some gi) → ComAt W D c (.slice Y3 c.is.length m3)) := fun W hg => (hg.block D hafs.1.2.1.lt (fun e => hDn (by injection e))).trans hafs.1.2.1
        have HEN : Hid (∀ W, wr.grownBy W (some gi) → Held w W t c (.slice A1 t.ps.length c1) (.slice A2 t.ks.length c2) (.slice A3 c.is.length c3) ∧ Own W w9.heap.size (.slice A5 X.length c5) X ∧ Own W w10.heap.size (.slice A6 Z.length c6) Z) := fun W hg =>
          ⟨hafs.1.1.on (grown_below hg hgi hBr) HTOP.out, World.ownsRow.kept hafs.2.1 hg (hyu _ _ _ _ _ _ hafs.2.1 (by decide)), World.ownsRow.kept hafs.2.2 hg (hyu _ _ _ _ _ _ hafs.2.2 (by decide))⟩
        have HG0 : Hid (wr.grownBy wr (some gi)) := ⟨rfl, rfl, rfl, Nat.le_refl _, fun _ _ _ => rfl⟩
        have c33 := hafs.1.2.1.is
        obtain rfl : k = t.ps.length := by omega
        clear hyb hyo hyu hDn hafs HG HBL HTR HAF HYB hlt hk
        go_wp2_with fail
        rename World => W14
        go_loopw [71] (fun i wz => ∃ k : Nat, k ≤ c.is.length ∧ i = .int .i64 k ∧ Hid (W14.grownBy wz (some gi)) ∧ Hid (0 < c.is.length → ∃ cur, wz.heap[gi]? = some (.cells cur 28) ∧ c.is.length * 33 ≤ cur.size)) (fun i _ => c.is.length - (intOf i).toNat)
        case atStart => exact ⟨0, by omega, rfl, HG0, HCL⟩
        case round =>
          clear HG0 HCL
          obtain ⟨k, hk, rfl, HG, HCL⟩ := hrel
          by_cases hlt : k < c.is.length
          · have e1 := HYC.out (by omega)
            subst e1
            obtain ⟨cur, hcur, hcz⟩ := HCL.out (by omega)
            have c33 := (HCM.out _ HG.out).is
            have hst : (storeCells ⟨gi, k * 33, none⟩ (vb (zer 33))).run Try.prog wr = .ok () (wr.setCells gi (k * 33) (vb (zer 33))) := by
              have h33 : (vb (zer 33)).length = 33 := by rw [vb_length, zer_length]
              have h := run_storeCells_cells (P := Try.prog) gi (k * 33) (vb (zer 33)) 0 wr (fun j hj => by
                obtain ⟨⟨v9, hv9⟩, _⟩ := block_cell hcur (k * 33 + 0 + j) (by omega)
                rw [hv9]; rfl) (fun j hj => (block_cell hcur (k * 33 + 0 + j) (by omega)).2) (vb_one _)
              exact h
            have HG2 : Hid (W14.grownBy (wr.setCells gi (k * 33) (vb (zer 33))) (some gi)) := grown_then HG.out (setCells_grown gi _ wr _)
            have HB2 : Hid (0 < c.is.length → ∃ cur, (wr.setCells gi (k * 33) (vb (zer 33))).heap[gi]? = some (.cells cur 28) ∧ c.is.length * 33 ≤ cur.size) := fun _ => by
              obtain ⟨c2, h2, z2⟩ := block_sets gi _ (vb (zer 33)) wr cur (k * 33) hcur
              exact ⟨c2, h2, by omega⟩
            generalize wr.setCells gi (k * 33) (vb (zer 33)) = w15 at hst HG2 HB2
            clear hcur hcz HCL HG
            go_wp2_with (refine wp_build_row rfl _ rfl _ built_id0 (by simp) ?_)
            go_roundw
            case rel => exact ⟨k + 1, by omega, by go_num, HG2, HB2⟩
            case measure => simp [intOf]; omega
          · have hen := HEN.out _ HG.out
            obtain rfl : k = c.is.length := by omega
            have HS5 := Lib.hid hen
            clear hen HG HCL HCM HEN HYC hlt hk
            go_wp2_with fail
            obtain ⟨W0, hW0⟩ : ∃ v, wr.drew = v := ⟨_, rfl⟩
            have hS0 : (fun W => Held w W t c (.slice A1 t.ps.length c1) (.slice A2 t.ks.length c2) (.slice A3 c.is.length c3) ∧ Own W w9.heap.size (.slice A5 X.length c5) X ∧ Own W w10.heap.size (.slice A6 Z.length c6) Z) W0 := by rw [← hW0]; exact ⟨HS5.out.1.drew, HS5.out.2.1, HS5.out.2.2⟩
            clear HS5 c33
            rcases HX.out with ⟨hgt, h0, hxe⟩ | h0 <;> rcases HZ.out with ⟨hgc, h1, hze⟩ | h1 <;> subst h0 h1
            · refine region_begin hW0 (S := fun W => Held w W t c (.slice A1 t.ps.length c1) (.slice A2 t.ks.length c2) (.slice A3 c.is.length c3) ∧ Own W w9.heap.size (.slice A5 X.length c5) X ∧ Own W w10.heap.size (.slice A6 Z.length c6) Z) (by kernel_rfl) hS0 (fun hHeld => ?_)
              clear hW0 hS0
              have HGT := Lib.hid hgt
              have HXE := Lib.hid hxe
              clear hgt hxe
              have HGC := Lib.hid hgc
              have HZE := Lib.hid hze
              clear hgc hze
              refine take_at (i := 0) (.int .i64 0) (some 80) (by decide) (by rfl) (by kernel_rfl) (by kernel_rfl) (by kernel_rfl) (fun _ _ _ h => h) (by rfl) (fun W hW => by go_simp) (by assumption) ?_
              try simp only [Act.put, List.setIfInBounds_toArray, List.set_cons_zero, List.set_cons_succ]
              refine take_at (i := 1) (.bool false) (some 81) (by decide) (by rfl) (by kernel_rfl) (by kernel_rfl) (by kernel_rfl) (fun _ _ _ h => h) (by rfl) (fun W hW => by go_simp) (by assumption) ?_
              try simp only [Act.put, List.setIfInBounds_toArray, List.set_cons_zero, List.set_cons_succ]
              refine take_at (i := 2) (.bool false) (some 82) (by decide) (by rfl) (by kernel_rfl) (by kernel_rfl) (by kernel_rfl) (fun _ _ _ h => h) (by rfl) (fun W hW => by go_simp) (by assumption) ?_
              try simp only [Act.put, List.setIfInBounds_toArray, List.set_cons_zero, List.set_cons_succ]
              refine take_at (i := 3) (.slice A5 X.length c5) (some 83) (by decide) (by rfl) (by kernel_rfl) (by kernel_rfl) (by kernel_rfl) (fun _ _ _ h => h) (by rfl) (fun W hW => by go_simp) (by assumption) ?_
              try simp only [Act.put, List.setIfInBounds_toArray, List.set_cons_zero, List.set_cons_succ]
              refine take_at (i := 4) (.string ⟨X.toArray⟩) (some 84) (by decide) (by rfl) (by kernel_rfl) (by kernel_rfl) (by kernel_rfl) (fun _ _ _ h => h) (by rfl) (fun W hW => by have := run_text_of W _ _ X hW.2.1.sl; go_simp) (by assumption) ?_
              try simp only [Act.put, List.setIfInBounds_toArray, List.set_cons_zero, List.set_cons_succ]
              refine take_at (i := 5) (.agg #[.slice A1 t.ps.length c1, .slice A2 t.ks.length c2]) (some 85) (by decide) (by rfl) (by kernel_rfl) (by kernel_rfl) (by kernel_rfl) (fun _ _ _ h => h) (by rfl) (fun W hW => by have d0 := hW.1.tr.c0; have d1 := hW.1.tr.c1; go_simp) (by assumption) ?_
              try simp only [Act.put, List.setIfInBounds_toArray, List.set_cons_zero, List.set_cons_succ]
              refine wpAnyH_ready (rs := [6]) (by kernel_rfl) (by simp) (AllReadyH.cons (Array.getElem?_eq_getElem (i := 6) (by decide)) (fun K9 hK => ?_) AllReadyH.nil)
              go_simp
              refine (rtree_any _ t _ hHeld.1.tre (goodT_few HGT.out).1 (goodT_few HGT.out).2).mono ?_
              rintro e wb ⟨rfl, hbc⟩
              rw [← HXE.out]
              refine hK.out _ _ (⟨hHeld.1.step hbc, hHeld.2.1.keep hbc, hHeld.2.2.keep hbc⟩) (fun hHeld => ?_)
              clear hK K9
              try simp only [Act.put, List.setIfInBounds_toArray, List.set_cons_zero, List.set_cons_succ]
              clear hbc
              refine take_at (i := 7) (.bool true) (some 87) (by decide) (by rfl) (by kernel_rfl) (by kernel_rfl) (by kernel_rfl) (fun _ _ _ h => h) (by rfl) (fun W hW => by go_simp) (by assumption) ?_
              try simp only [Act.put, List.setIfInBounds_toArray, List.set_cons_zero, List.set_cons_succ]
              refine take_at (i := 8) (.bool true) (some 88) (by decide) (by rfl) (by kernel_rfl) (by kernel_rfl) (by kernel_rfl) (fun _ _ _ h => h) (by rfl) (fun W hW => by go_simp) (by assumption) ?_
              try simp only [Act.put, List.setIfInBounds_toArray, List.set_cons_zero, List.set_cons_succ]
              refine take_at (i := 9) (.bool true) (some 89) (by decide) (by rfl) (by kernel_rfl) (by kernel_rfl) (by kernel_rfl) (fun _ _ _ h => h) (by rfl) (fun W hW => by go_simp) (by assumption) ?_
              try simp only [Act.put, List.setIfInBounds_toArray, List.set_cons_zero, List.set_cons_succ]
              refine take_at (i := 10) (.int .i64 0) (some 90) (by decide) (by rfl) (by kernel_rfl) (by kernel_rfl) (by kernel_rfl) (fun _ _ _ h => h) (by rfl) (fun W hW => by go_simp) (by assumption) ?_
              try simp only [Act.put, List.setIfInBounds_toArray, List.set_cons_zero, List.set_cons_succ]
              refine take_at (i := 11) (.bool false) (some 91) (by decide) (by rfl) (by kernel_rfl) (by kernel_rfl) (by kernel_rfl) (fun _ _ _ h => h) (by rfl) (fun W hW => by go_simp) (by assumption) ?_
              try simp only [Act.put, List.setIfInBounds_toArray, List.set_cons_zero, List.set_cons_succ]
              refine take_at (i := 12) (.bool false) (some 92) (by decide) (by rfl) (by kernel_rfl) (by kernel_rfl) (by kernel_rfl) (fun _ _ _ h => h) (by rfl) (fun W hW => by go_simp) (by assumption) ?_
              try simp only [Act.put, List.setIfInBounds_toArray, List.set_cons_zero, List.set_cons_succ]
              refine take_at (i := 13) (.slice A6 Z.length c6) (some 93) (by decide) (by rfl) (by kernel_rfl) (by kernel_rfl) (by kernel_rfl) (fun _ _ _ h => h) (by rfl) (fun W hW => by go_simp) (by assumption) ?_
              try simp only [Act.put, List.setIfInBounds_toArray, List.set_cons_zero, List.set_cons_succ]
              refine take_at (i := 14) (.string ⟨Z.toArray⟩) (some 94) (by decide) (by rfl) (by kernel_rfl) (by kernel_rfl) (by kernel_rfl) (fun _ _ _ h => h) (by rfl) (fun W hW => by have := run_text_of W _ _ Z hW.2.2.sl; go_simp) (by assumption) ?_
              try simp only [Act.put, List.setIfInBounds_toArray, List.set_cons_zero, List.set_cons_succ]
              refine take_at (i := 15) (.agg (cmC c (.slice A3 c.is.length c3)).toArray) (some 95) (by decide) (by rfl) (by kernel_rfl) (by kernel_rfl) (by kernel_rfl) (fun _ _ _ h => h) (by rfl) (fun W hW => by exact exec_load_mid _ _ rfl (w.heap.size + 1) 0 rfl (cmC c (.slice A3 c.is.length c3)) _ hW.1.range Try.underlying31 rfl (cells_com _ _)) (by assumption) ?_
              try simp only [Act.put, List.setIfInBounds_toArray, List.set_cons_zero, List.set_cons_succ]
              refine wpAnyH_ready (rs := [16]) (by kernel_rfl) (by simp) (AllReadyH.cons (Array.getElem?_eq_getElem (i := 16) (by decide)) (fun K9 hK => ?_) AllReadyH.nil)
              go_simp
              refine (rcom_any _ c _ hHeld.1.cmt HGC.out).mono ?_
              rintro e wc ⟨rfl, hbc⟩
              rw [← HZE.out]
              refine hK.out _ _ (⟨hHeld.1.step hbc, hHeld.2.1.keep hbc, hHeld.2.2.keep hbc⟩) (fun hHeld => ?_)
              clear hK K9
              try simp only [Act.put, List.setIfInBounds_toArray, List.set_cons_zero, List.set_cons_succ]
              clear hbc
              refine take_at (i := 17) (.bool true) (some 97) (by decide) (by rfl) (by kernel_rfl) (by kernel_rfl) (by kernel_rfl) (fun _ _ _ h => h) (by rfl) (fun W hW => by go_simp) (by assumption) ?_
              try simp only [Act.put, List.setIfInBounds_toArray, List.set_cons_zero, List.set_cons_succ]
              refine take_at (i := 18) (.bool true) (some 98) (by decide) (by rfl) (by kernel_rfl) (by kernel_rfl) (by kernel_rfl) (fun _ _ _ h => h) (by rfl) (fun W hW => by go_simp) (by assumption) ?_
              try simp only [Act.put, List.setIfInBounds_toArray, List.set_cons_zero, List.set_cons_succ]
              refine take_at (i := 19) (.bool true) (some 99) (by decide) (by rfl) (by kernel_rfl) (by kernel_rfl) (by kernel_rfl) (fun _ _ _ h => h) (by rfl) (fun W hW => by go_simp) (by assumption) ?_
              try simp only [Act.put, List.setIfInBounds_toArray, List.set_cons_zero, List.set_cons_succ]
              refine take_at (i := 20) (.bool true) (some 4) (by decide) (by rfl) (by kernel_rfl) (by kernel_rfl) (by kernel_rfl) (fun _ _ _ h => h) (by rfl) (fun W hW => by go_simp) (by assumption) ?_
              try simp only [Act.put, List.setIfInBounds_toArray, List.set_cons_zero, List.set_cons_succ]
              refine wpAnyH_done (by kernel_rfl) ?_ _
              try simp only [Act.put, List.setIfInBounds_toArray, List.set_cons_zero, List.set_cons_succ]
              have HBE := Lib.hid hHeld.1.bel
              clear hHeld
              go_wp2_with fail
              go_ret
              exact ⟨rfl, HBE.out⟩
            · refine region_begin hW0 (S := fun W => Held w W t c (.slice A1 t.ps.length c1) (.slice A2 t.ks.length c2) (.slice A3 c.is.length c3) ∧ Own W w9.heap.size (.slice A5 X.length c5) X ∧ Own W w10.heap.size (.slice A6 Z.length c6) Z) (by kernel_rfl) hS0 (fun hHeld => ?_)
              clear hW0 hS0
              have HGT := Lib.hid hgt
              have HXE := Lib.hid hxe
              clear hgt hxe
              refine take_at (i := 0) (.int .i64 0) (some 80) (by decide) (by rfl) (by kernel_rfl) (by kernel_rfl) (by kernel_rfl) (fun _ _ _ h => h) (by rfl) (fun W hW => by go_simp) (by assumption) ?_
              try simp only [Act.put, List.setIfInBounds_toArray, List.set_cons_zero, List.set_cons_succ]
              refine take_at (i := 1) (.bool false) (some 81) (by decide) (by rfl) (by kernel_rfl) (by kernel_rfl) (by kernel_rfl) (fun _ _ _ h => h) (by rfl) (fun W hW => by go_simp) (by assumption) ?_
              try simp only [Act.put, List.setIfInBounds_toArray, List.set_cons_zero, List.set_cons_succ]
              refine take_at (i := 2) (.bool false) (some 82) (by decide) (by rfl) (by kernel_rfl) (by kernel_rfl) (by kernel_rfl) (fun _ _ _ h => h) (by rfl) (fun W hW => by go_simp) (by assumption) ?_
              try simp only [Act.put, List.setIfInBounds_toArray, List.set_cons_zero, List.set_cons_succ]
              refine take_at (i := 3) (.slice A5 X.length c5) (some 83) (by decide) (by rfl) (by kernel_rfl) (by kernel_rfl) (by kernel_rfl) (fun _ _ _ h => h) (by rfl) (fun W hW => by go_simp) (by assumption) ?_
              try simp only [Act.put, List.setIfInBounds_toArray, List.set_cons_zero, List.set_cons_succ]
              refine take_at (i := 4) (.string ⟨X.toArray⟩) (some 84) (by decide) (by rfl) (by kernel_rfl) (by kernel_rfl) (by kernel_rfl) (fun _ _ _ h => h) (by rfl) (fun W hW => by have := run_text_of W _ _ X hW.2.1.sl; go_simp) (by assumption) ?_
              try simp only [Act.put, List.setIfInBounds_toArray, List.set_cons_zero, List.set_cons_succ]
              refine take_at (i := 5) (.agg #[.slice A1 t.ps.length c1, .slice A2 t.ks.length c2]) (some 85) (by decide) (by rfl) (by kernel_rfl) (by kernel_rfl) (by kernel_rfl) (fun _ _ _ h => h) (by rfl) (fun W hW => by have d0 := hW.1.tr.c0; have d1 := hW.1.tr.c1; go_simp) (by assumption) ?_
              try simp only [Act.put, List.setIfInBounds_toArray, List.set_cons_zero, List.set_cons_succ]
              refine wpAnyH_ready (rs := [6]) (by kernel_rfl) (by simp) (AllReadyH.cons (Array.getElem?_eq_getElem (i := 6) (by decide)) (fun K9 hK => ?_) AllReadyH.nil)
              go_simp
              refine (rtree_any _ t _ hHeld.1.tre (goodT_few HGT.out).1 (goodT_few HGT.out).2).mono ?_
              rintro e wb ⟨rfl, hbc⟩
              rw [← HXE.out]
              refine hK.out _ _ (⟨hHeld.1.step hbc, hHeld.2.1.keep hbc, hHeld.2.2.keep hbc⟩) (fun hHeld => ?_)
              clear hK K9
              try simp only [Act.put, List.setIfInBounds_toArray, List.set_cons_zero, List.set_cons_succ]
              clear hbc
              refine take_at (i := 7) (.bool true) (some 87) (by decide) (by rfl) (by kernel_rfl) (by kernel_rfl) (by kernel_rfl) (fun _ _ _ h => h) (by rfl) (fun W hW => by go_simp) (by assumption) ?_
              try simp only [Act.put, List.setIfInBounds_toArray, List.set_cons_zero, List.set_cons_succ]
              refine take_at (i := 8) (.bool true) (some 88) (by decide) (by rfl) (by kernel_rfl) (by kernel_rfl) (by kernel_rfl) (fun _ _ _ h => h) (by rfl) (fun W hW => by go_simp) (by assumption) ?_
              try simp only [Act.put, List.setIfInBounds_toArray, List.set_cons_zero, List.set_cons_succ]
              refine take_at (i := 9) (.bool true) (some 89) (by decide) (by rfl) (by kernel_rfl) (by kernel_rfl) (by kernel_rfl) (fun _ _ _ h => h) (by rfl) (fun W hW => by go_simp) (by assumption) ?_
              try simp only [Act.put, List.setIfInBounds_toArray, List.set_cons_zero, List.set_cons_succ]
              refine take_at (i := 10) (.int .i64 1) (some 90) (by decide) (by rfl) (by kernel_rfl) (by kernel_rfl) (by kernel_rfl) (fun _ _ _ h => h) (by rfl) (fun W hW => by go_simp) (by assumption) ?_
              try simp only [Act.put, List.setIfInBounds_toArray, List.set_cons_zero, List.set_cons_succ]
              refine take_at (i := 11) (.bool true) (some 91) (by decide) (by rfl) (by kernel_rfl) (by kernel_rfl) (by kernel_rfl) (fun _ _ _ h => h) (by rfl) (fun W hW => by go_simp) (by assumption) ?_
              try simp only [Act.put, List.setIfInBounds_toArray, List.set_cons_zero, List.set_cons_succ]
              refine take_at (i := 12) (.bool true) (some 92) (by decide) (by rfl) (by kernel_rfl) (by kernel_rfl) (by kernel_rfl) (fun _ _ _ h => h) (by rfl) (fun W hW => by go_simp) (by assumption) ?_
              try simp only [Act.put, List.setIfInBounds_toArray, List.set_cons_zero, List.set_cons_succ]
              refine skip_at (i := 13) (some 93) (by decide) (by rfl) (by kernel_rfl) (by kernel_rfl) (by kernel_rfl) (fun _ _ _ h => h) (by rfl) (by assumption) ?_
              try simp only [Act.put, List.setIfInBounds_toArray, List.set_cons_zero, List.set_cons_succ]
              refine skip_at (i := 14) (some 94) (by decide) (by rfl) (by kernel_rfl) (by kernel_rfl) (by kernel_rfl) (fun _ _ _ h => h) (by rfl) (by assumption) ?_
              try simp only [Act.put, List.setIfInBounds_toArray, List.set_cons_zero, List.set_cons_succ]
              refine skip_at (i := 15) (some 95) (by decide) (by rfl) (by kernel_rfl) (by kernel_rfl) (by kernel_rfl) (fun _ _ _ h => h) (by rfl) (by assumption) ?_
              try simp only [Act.put, List.setIfInBounds_toArray, List.set_cons_zero, List.set_cons_succ]
              refine skip_at (i := 16) (some 96) (by decide) (by rfl) (by kernel_rfl) (by kernel_rfl) (by kernel_rfl) (fun _ _ _ h => h) (by rfl) (by assumption) ?_
              try simp only [Act.put, List.setIfInBounds_toArray, List.set_cons_zero, List.set_cons_succ]
              refine skip_at (i := 17) (some 97) (by decide) (by rfl) (by kernel_rfl) (by kernel_rfl) (by kernel_rfl) (fun _ _ _ h => h) (by rfl) (by assumption) ?_
              try simp only [Act.put, List.setIfInBounds_toArray, List.set_cons_zero, List.set_cons_succ]
              refine take_at (i := 18) (.bool true) (some 98) (by decide) (by rfl) (by kernel_rfl) (by kernel_rfl) (by kernel_rfl) (fun _ _ _ h => h) (by rfl) (fun W hW => by go_simp) (by assumption) ?_
              try simp only [Act.put, List.setIfInBounds_toArray, List.set_cons_zero, List.set_cons_succ]
              refine take_at (i := 19) (.bool true) (some 99) (by decide) (by rfl) (by kernel_rfl) (by kernel_rfl) (by kernel_rfl) (fun _ _ _ h => h) (by rfl) (fun W hW => by go_simp) (by assumption) ?_
              try simp only [Act.put, List.setIfInBounds_toArray, List.set_cons_zero, List.set_cons_succ]
              refine take_at (i := 20) (.bool true) (some 4) (by decide) (by rfl) (by kernel_rfl) (by kernel_rfl) (by kernel_rfl) (fun _ _ _ h => h) (by rfl) (fun W hW => by go_simp) (by assumption) ?_
              try simp only [Act.put, List.setIfInBounds_toArray, List.set_cons_zero, List.set_cons_succ]
              refine wpAnyH_done (by kernel_rfl) ?_ _
              try simp only [Act.put, List.setIfInBounds_toArray, List.set_cons_zero, List.set_cons_succ]
              have HBE := Lib.hid hHeld.1.bel
              clear hHeld
              go_wp2_with fail
              go_ret
              exact ⟨rfl, HBE.out⟩
            · refine region_begin hW0 (S := fun W => Held w W t c (.slice A1 t.ps.length c1) (.slice A2 t.ks.length c2) (.slice A3 c.is.length c3) ∧ Own W w9.heap.size (.slice A5 X.length c5) X ∧ Own W w10.heap.size (.slice A6 Z.length c6) Z) (by kernel_rfl) hS0 (fun hHeld => ?_)
              clear hW0 hS0
              have HGC := Lib.hid hgc
              have HZE := Lib.hid hze
              clear hgc hze
              refine take_at (i := 0) (.int .i64 1) (some 80) (by decide) (by rfl) (by kernel_rfl) (by kernel_rfl) (by kernel_rfl) (fun _ _ _ h => h) (by rfl) (fun W hW => by go_simp) (by assumption) ?_
              try simp only [Act.put, List.setIfInBounds_toArray, List.set_cons_zero, List.set_cons_succ]
              refine take_at (i := 1) (.bool true) (some 81) (by decide) (by rfl) (by kernel_rfl) (by kernel_rfl) (by kernel_rfl) (fun _ _ _ h => h) (by rfl) (fun W hW => by go_simp) (by assumption) ?_
              try simp only [Act.put, List.setIfInBounds_toArray, List.set_cons_zero, List.set_cons_succ]
              refine take_at (i := 2) (.bool true) (some 82) (by decide) (by rfl) (by kernel_rfl) (by kernel_rfl) (by kernel_rfl) (fun _ _ _ h => h) (by rfl) (fun W hW => by go_simp) (by assumption) ?_
              try simp only [Act.put, List.setIfInBounds_toArray, List.set_cons_zero, List.set_cons_succ]
              refine skip_at (i := 3) (some 83) (by decide) (by rfl) (by kernel_rfl) (by kernel_rfl) (by kernel_rfl) (fun _ _ _ h => h) (by rfl) (by assumption) ?_
              try simp only [Act.put, List.setIfInBounds_toArray, List.set_cons_zero, List.set_cons_succ]
              refine skip_at (i := 4) (some 84) (by decide) (by rfl) (by kernel_rfl) (by kernel_rfl) (by kernel_rfl) (fun _ _ _ h => h) (by rfl) (by assumption) ?_
              try simp only [Act.put, List.setIfInBounds_toArray, List.set_cons_zero, List.set_cons_succ]
              refine skip_at (i := 5) (some 85) (by decide) (by rfl) (by kernel_rfl) (by kernel_rfl) (by kernel_rfl) (fun _ _ _ h => h) (by rfl) (by assumption) ?_
              try simp only [Act.put, List.setIfInBounds_toArray, List.set_cons_zero, List.set_cons_succ]
              refine skip_at (i := 6) (some 86) (by decide) (by rfl) (by kernel_rfl) (by kernel_rfl) (by kernel_rfl) (fun _ _ _ h => h) (by rfl) (by assumption) ?_
              try simp only [Act.put, List.setIfInBounds_toArray, List.set_cons_zero, List.set_cons_succ]
              refine skip_at (i := 7) (some 87) (by decide) (by rfl) (by kernel_rfl) (by kernel_rfl) (by kernel_rfl) (fun _ _ _ h => h) (by rfl) (by assumption) ?_
              try simp only [Act.put, List.setIfInBounds_toArray, List.set_cons_zero, List.set_cons_succ]
              refine take_at (i := 8) (.bool true) (some 88) (by decide) (by rfl) (by kernel_rfl) (by kernel_rfl) (by kernel_rfl) (fun _ _ _ h => h) (by rfl) (fun W hW => by go_simp) (by assumption) ?_
              try simp only [Act.put, List.setIfInBounds_toArray, List.set_cons_zero, List.set_cons_succ]
              refine take_at (i := 9) (.bool true) (some 89) (by decide) (by rfl) (by kernel_rfl) (by kernel_rfl) (by kernel_rfl) (fun _ _ _ h => h) (by rfl) (fun W hW => by go_simp) (by assumption) ?_
              try simp only [Act.put, List.setIfInBounds_toArray, List.set_cons_zero, List.set_cons_succ]
              refine take_at (i := 10) (.int .i64 0) (some 90) (by decide) (by rfl) (by kernel_rfl) (by kernel_rfl) (by kernel_rfl) (fun _ _ _ h => h) (by rfl) (fun W hW => by go_simp) (by assumption) ?_
              try simp only [Act.put, List.setIfInBounds_toArray, List.set_cons_zero, List.set_cons_succ]
              refine take_at (i := 11) (.bool false) (some 91) (by decide) (by rfl) (by kernel_rfl) (by kernel_rfl) (by kernel_rfl) (fun _ _ _ h => h) (by rfl) (fun W hW => by go_simp) (by assumption) ?_
              try simp only [Act.put, List.setIfInBounds_toArray, List.set_cons_zero, List.set_cons_succ]
              refine take_at (i := 12) (.bool false) (some 92) (by decide) (by rfl) (by kernel_rfl) (by kernel_rfl) (by kernel_rfl) (fun _ _ _ h => h) (by rfl) (fun W hW => by go_simp) (by assumption) ?_
              try simp only [Act.put, List.setIfInBounds_toArray, List.set_cons_zero, List.set_cons_succ]
              refine take_at (i := 13) (.slice A6 Z.length c6) (some 93) (by decide) (by rfl) (by kernel_rfl) (by kernel_rfl) (by kernel_rfl) (fun _ _ _ h => h) (by rfl) (fun W hW => by go_simp) (by assumption) ?_
              try simp only [Act.put, List.setIfInBounds_toArray, List.set_cons_zero, List.set_cons_succ]
              refine take_at (i := 14) (.string ⟨Z.toArray⟩) (some 94) (by decide) (by rfl) (by kernel_rfl) (by kernel_rfl) (by kernel_rfl) (fun _ _ _ h => h) (by rfl) (fun W hW => by have := run_text_of W _ _ Z hW.2.2.sl; go_simp) (by assumption) ?_
              try simp only [Act.put, List.setIfInBounds_toArray, List.set_cons_zero, List.set_cons_succ]
              refine take_at (i := 15) (.agg (cmC c (.slice A3 c.is.length c3)).toArray) (some 95) (by decide) (by rfl) (by kernel_rfl) (by kernel_rfl) (by kernel_rfl) (fun _ _ _ h => h) (by rfl) (fun W hW => by exact exec_load_mid _ _ rfl (w.heap.size + 1) 0 rfl (cmC c (.slice A3 c.is.length c3)) _ hW.1.range Try.underlying31 rfl (cells_com _ _)) (by assumption) ?_
              try simp only [Act.put, List.setIfInBounds_toArray, List.set_cons_zero, List.set_cons_succ]
              refine wpAnyH_ready (rs := [16]) (by kernel_rfl) (by simp) (AllReadyH.cons (Array.getElem?_eq_getElem (i := 16) (by decide)) (fun K9 hK => ?_) AllReadyH.nil)
              go_simp
              refine (rcom_any _ c _ hHeld.1.cmt HGC.out).mono ?_
              rintro e wc ⟨rfl, hbc⟩
              rw [← HZE.out]
              refine hK.out _ _ (⟨hHeld.1.step hbc, hHeld.2.1.keep hbc, hHeld.2.2.keep hbc⟩) (fun hHeld => ?_)
              clear hK K9
              try simp only [Act.put, List.setIfInBounds_toArray, List.set_cons_zero, List.set_cons_succ]
              clear hbc
              refine take_at (i := 17) (.bool true) (some 97) (by decide) (by rfl) (by kernel_rfl) (by kernel_rfl) (by kernel_rfl) (fun _ _ _ h => h) (by rfl) (fun W hW => by go_simp) (by assumption) ?_
              try simp only [Act.put, List.setIfInBounds_toArray, List.set_cons_zero, List.set_cons_succ]
              refine take_at (i := 18) (.bool true) (some 98) (by decide) (by rfl) (by kernel_rfl) (by kernel_rfl) (by kernel_rfl) (fun _ _ _ h => h) (by rfl) (fun W hW => by go_simp) (by assumption) ?_
              try simp only [Act.put, List.setIfInBounds_toArray, List.set_cons_zero, List.set_cons_succ]
              refine take_at (i := 19) (.bool true) (some 99) (by decide) (by rfl) (by kernel_rfl) (by kernel_rfl) (by kernel_rfl) (fun _ _ _ h => h) (by rfl) (fun W hW => by go_simp) (by assumption) ?_
              try simp only [Act.put, List.setIfInBounds_toArray, List.set_cons_zero, List.set_cons_succ]
              refine take_at (i := 20) (.bool true) (some 4) (by decide) (by rfl) (by kernel_rfl) (by kernel_rfl) (by kernel_rfl) (fun _ _ _ h => h) (by rfl) (fun W hW => by go_simp) (by assumption) ?_
              try simp only [Act.put, List.setIfInBounds_toArray, List.set_cons_zero, List.set_cons_succ]
              refine wpAnyH_done (by kernel_rfl) ?_ _
              try simp only [Act.put, List.setIfInBounds_toArray, List.set_cons_zero, List.set_cons_succ]
              have HBE := Lib.hid hHeld.1.bel
              clear hHeld
              go_wp2_with fail
              go_ret
              exact ⟨rfl, HBE.out⟩
            · refine region_begin hW0 (S := fun W => Held w W t c (.slice A1 t.ps.length c1) (.slice A2 t.ks.length c2) (.slice A3 c.is.length c3) ∧ Own W w9.heap.size (.slice A5 X.length c5) X ∧ Own W w10.heap.size (.slice A6 Z.length c6) Z) (by kernel_rfl) hS0 (fun hHeld => ?_)
              clear hW0 hS0
              refine take_at (i := 0) (.int .i64 1) (some 80) (by decide) (by rfl) (by kernel_rfl) (by kernel_rfl) (by kernel_rfl) (fun _ _ _ h => h) (by rfl) (fun W hW => by go_simp) (by assumption) ?_
              try simp only [Act.put, List.setIfInBounds_toArray, List.set_cons_zero, List.set_cons_succ]
              refine take_at (i := 1) (.bool true) (some 81) (by decide) (by rfl) (by kernel_rfl) (by kernel_rfl) (by kernel_rfl) (fun _ _ _ h => h) (by rfl) (fun W hW => by go_simp) (by assumption) ?_
              try simp only [Act.put, List.setIfInBounds_toArray, List.set_cons_zero, List.set_cons_succ]
              refine take_at (i := 2) (.bool true) (some 82) (by decide) (by rfl) (by kernel_rfl) (by kernel_rfl) (by kernel_rfl) (fun _ _ _ h => h) (by rfl) (fun W hW => by go_simp) (by assumption) ?_
              try simp only [Act.put, List.setIfInBounds_toArray, List.set_cons_zero, List.set_cons_succ]
              refine skip_at (i := 3) (some 83) (by decide) (by rfl) (by kernel_rfl) (by kernel_rfl) (by kernel_rfl) (fun _ _ _ h => h) (by rfl) (by assumption) ?_
              try simp only [Act.put, List.setIfInBounds_toArray, List.set_cons_zero, List.set_cons_succ]
              refine skip_at (i := 4) (some 84) (by decide) (by rfl) (by kernel_rfl) (by kernel_rfl) (by kernel_rfl) (fun _ _ _ h => h) (by rfl) (by assumption) ?_
              try simp only [Act.put, List.setIfInBounds_toArray, List.set_cons_zero, List.set_cons_succ]
              refine skip_at (i := 5) (some 85) (by decide) (by rfl) (by kernel_rfl) (by kernel_rfl) (by kernel_rfl) (fun _ _ _ h => h) (by rfl) (by assumption) ?_
              try simp only [Act.put, List.setIfInBounds_toArray, List.set_cons_zero, List.set_cons_succ]
              refine skip_at (i := 6) (some 86) (by decide) (by rfl) (by kernel_rfl) (by kernel_rfl) (by kernel_rfl) (fun _ _ _ h => h) (by rfl) (by assumption) ?_
              try simp only [Act.put, List.setIfInBounds_toArray, List.set_cons_zero, List.set_cons_succ]
              refine skip_at (i := 7) (some 87) (by decide) (by rfl) (by kernel_rfl) (by kernel_rfl) (by kernel_rfl) (fun _ _ _ h => h) (by rfl) (by assumption) ?_
              try simp only [Act.put, List.setIfInBounds_toArray, List.set_cons_zero, List.set_cons_succ]
              refine take_at (i := 8) (.bool true) (some 88) (by decide) (by rfl) (by kernel_rfl) (by kernel_rfl) (by kernel_rfl) (fun _ _ _ h => h) (by rfl) (fun W hW => by go_simp) (by assumption) ?_
              try simp only [Act.put, List.setIfInBounds_toArray, List.set_cons_zero, List.set_cons_succ]
              refine take_at (i := 9) (.bool true) (some 89) (by decide) (by rfl) (by kernel_rfl) (by kernel_rfl) (by kernel_rfl) (fun _ _ _ h => h) (by rfl) (fun W hW => by go_simp) (by assumption) ?_
              try simp only [Act.put, List.setIfInBounds_toArray, List.set_cons_zero, List.set_cons_succ]
              refine take_at (i := 10) (.int .i64 1) (some 90) (by decide) (by rfl) (by kernel_rfl) (by kernel_rfl) (by kernel_rfl) (fun _ _ _ h => h) (by rfl) (fun W hW => by go_simp) (by assumption) ?_
              try simp only [Act.put, List.setIfInBounds_toArray, List.set_cons_zero, List.set_cons_succ]
              refine take_at (i := 11) (.bool true) (some 91) (by decide) (by rfl) (by kernel_rfl) (by kernel_rfl) (by kernel_rfl) (fun _ _ _ h => h) (by rfl) (fun W hW => by go_simp) (by assumption) ?_
              try simp only [Act.put, List.setIfInBounds_toArray, List.set_cons_zero, List.set_cons_succ]
              refine take_at (i := 12) (.bool true) (some 92) (by decide) (by rfl) (by kernel_rfl) (by kernel_rfl) (by kernel_rfl) (fun _ _ _ h => h) (by rfl) (fun W hW => by go_simp) (by assumption) ?_
              try simp only [Act.put, List.setIfInBounds_toArray, List.set_cons_zero, List.set_cons_succ]
              refine skip_at (i := 13) (some 93) (by decide) (by rfl) (by kernel_rfl) (by kernel_rfl) (by kernel_rfl) (fun _ _ _ h => h) (by rfl) (by assumption) ?_
              try simp only [Act.put, List.setIfInBounds_toArray, List.set_cons_zero, List.set_cons_succ]
              refine skip_at (i := 14) (some 94) (by decide) (by rfl) (by kernel_rfl) (by kernel_rfl) (by kernel_rfl) (fun _ _ _ h => h) (by rfl) (by assumption) ?_
              try simp only [Act.put, List.setIfInBounds_toArray, List.set_cons_zero, List.set_cons_succ]
              refine skip_at (i := 15) (some 95) (by decide) (by rfl) (by kernel_rfl) (by kernel_rfl) (by kernel_rfl) (fun _ _ _ h => h) (by rfl) (by assumption) ?_
              try simp only [Act.put, List.setIfInBounds_toArray, List.set_cons_zero, List.set_cons_succ]
              refine skip_at (i := 16) (some 96) (by decide) (by rfl) (by kernel_rfl) (by kernel_rfl) (by kernel_rfl) (fun _ _ _ h => h) (by rfl) (by assumption) ?_
              try simp only [Act.put, List.setIfInBounds_toArray, List.set_cons_zero, List.set_cons_succ]
              refine skip_at (i := 17) (some 97) (by decide) (by rfl) (by kernel_rfl) (by kernel_rfl) (by kernel_rfl) (fun _ _ _ h => h) (by rfl) (by assumption) ?_
              try simp only [Act.put, List.setIfInBounds_toArray, List.set_cons_zero, List.set_cons_succ]
              refine take_at (i := 18) (.bool true) (some 98) (by decide) (by rfl) (by kernel_rfl) (by kernel_rfl) (by kernel_rfl) (fun _ _ _ h => h) (by rfl) (fun W hW => by go_simp) (by assumption) ?_
              try simp only [Act.put, List.setIfInBounds_toArray, List.set_cons_zero, List.set_cons_succ]
              refine take_at (i := 19) (.bool true) (some 99) (by decide) (by rfl) (by kernel_rfl) (by kernel_rfl) (by kernel_rfl) (fun _ _ _ h => h) (by rfl) (fun W hW => by go_simp) (by assumption) ?_
              try simp only [Act.put, List.setIfInBounds_toArray, List.set_cons_zero, List.set_cons_succ]
              refine take_at (i := 20) (.bool true) (some 4) (by decide) (by rfl) (by kernel_rfl) (by kernel_rfl) (by kernel_rfl) (fun _ _ _ h => h) (by rfl) (fun W hW => by go_simp) (by assumption) ?_
              try simp only [Act.put, List.setIfInBounds_toArray, List.set_cons_zero, List.set_cons_succ]
              refine wpAnyH_done (by kernel_rfl) ?_ _
              try simp only [Act.put, List.setIfInBounds_toArray, List.set_cons_zero, List.set_cons_succ]
              have HBE := Lib.hid hHeld.1.bel
              clear hHeld
              go_wp2_with fail
              go_ret
              exact ⟨rfl, HBE.out⟩

end Go.Proofs.Ytflgokbkkoobkaa.ObjectKeeps
