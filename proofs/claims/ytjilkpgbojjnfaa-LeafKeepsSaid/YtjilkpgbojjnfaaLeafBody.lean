/-
  leaf.body: what stands behind the number of keys. Conditions: none.
-/
import Derived.Test.YtjilkpgbojjnfaaNodeBox
import Derived.Deep.RegionLaw
import Derived.Deep.DeepMust
namespace Go.Proofs.Ytjilkpgbojjnfaa.Cd
open Go.RowKit

/-- What body reads. -/
def bodyS (leaf : Bool) (bs : List UInt8) (bad : Bool) (count : Nat) : St :=
  if leaf then itK ⟨⟨leaf, [], [], []⟩, bs, bad⟩ count else itP (itK ⟨⟨leaf, [], [], []⟩, bs, bad⟩ count) (count + 1)

/-- What body leaves. -/
def BodyIs (w : World) (g : Nat) (s : St) (e : Ending) (w' : World) : Prop := ∃ v, e = .returned v ∧ NodeF w' w.heap.size v s.n ∧ Left w g s.bs s.bad w'

set_option maxRecDepth 100000 in
set_option maxHeartbeats 4000000 in
theorem body_any (g : Nat) (bs : List UInt8) (bad : Bool) (count : Nat) (leaf : Bool) (w : World) (hr : Rd w g bs bad) (hbb : Sane bad bs) (hs : bs.length ≤ 140737488355328) (hc : count ≤ 512) :
    Calls Try.prog 30 #[.pointer (some ⟨g, 0, none⟩), .int .i64 count, .bool leaf] w (BodyIs w g (bodyS leaf bs bad count)) := by
  have hg := hr.lt
  have HR := Lib.hid hr
  have HBB := Lib.hid hbb
  clear hr hbb
  obtain ⟨s0, hs0⟩ : ∃ s, (⟨⟨leaf, [], [], []⟩, bs, bad⟩ : St) = s := ⟨_, rfl⟩
  have HS0 := Lib.hid hs0
  have hsl : s0.bs.length ≤ 140737488355328 := by rw [← hs0]; exact hs
  have hss : Hid (Sane s0.bad s0.bs) := by rw [← hs0]; exact HBB.out
  have hn0 : Hid (s0.n = ⟨leaf, [], [], []⟩) := by rw [← hs0]; exact rfl
  have hend : Hid (bodyS leaf bs bad count = if leaf then itK s0 count else itP (itK s0 count) (count + 1)) := by unfold Hid bodyS; rw [hs0]
  have hr0 : Hid (Rd w g s0.bs s0.bad) := by rw [← hs0]; exact HR.out
  clear hs0 HBB HR
  have hlf : ∀ k, (itK s0 k).n.leaf = leaf := fun k => by rw [itK_leaf, hn0.out]
  have hlen : ∀ k, (itK s0 k).n.keys.length = k ∧ (itK s0 k).n.vals.length ≤ k := fun k => by
    have := itK_lens s0 k
    rw [hn0.out] at this
    refine ⟨by simpa using this.1, ?_⟩
    rw [this.2]
    split <;> simp
  have HLF := Lib.hid hlf
  have HLEN := Lib.hid hlen
  clear hlf hlen hs
  go_enter Try.func30, Try.ntmps30
  go_wp2_with fail
  obtain ⟨w0, hw0⟩ : ∃ x, ((w.alloc (.cells #[.bool false, .slice none 0 0, .slice none 0 0, .slice none 0 0] 25)).alloc (.cells #[.bool leaf, .slice none 0 0, .slice none 0 0, .slice none 0 0] 25)) = x := ⟨_, rfl⟩
  have hz0 : w0.heap.size = w.heap.size + 2 := by rw [← hw0]; simp
  have HB0 : Hid (Below w.heap.size w w0) := by rw [← hw0]; exact ((Below.refl _ _).alloc (Nat.le_refl _) _).alloc (by simp) _
  have HX0 : Hid (Bx w0 w.heap.size false (.slice none 0 0) (.slice none 0 0) (.slice none 0 0)) := by
    rw [← hw0]
    exact Bx.on (heap_alloc_new w _) (new_below _ _)
  have HG0 : Hid (Grow w0 (w.heap.size + 1) (w.heap.size + 2) s0.n (.slice none 0 0) (.slice none 0 0) (.slice none 0 0)) := by
    rw [hn0.out]
    refine ⟨?_, by omega, by omega, OwnS.nil _ _, OwnS.nil _ _, .inl rfl⟩
    rw [← hw0]
    have := heap_alloc_new (w.alloc (.cells #[.bool false, .slice none 0 0, .slice none 0 0, .slice none 0 0] 25)) (.cells #[.bool leaf, .slice none 0 0, .slice none 0 0, .slice none 0 0] 25)
    rw [World.size_alloc] at this
    exact this
  have HR0 : Hid (Rd w0 g s0.bs s0.bad) := hr0.out.below HB0.out hg
  have HW0 : Hid (w.grownBy w0 (some g)) := ⟨HB0.out.os, HB0.out.tape, HB0.out.output, HB0.out.size, fun k hk _ => HB0.out.block k hk⟩
  rw [hw0]
  clear hw0 HB0 hr0
  go_loopw [11] (fun i wr => ∃ (k : Nat) (vk vv : Value), i = .int .i64 k ∧ k ≤ count ∧ Hid (Rd wr g (itK s0 k).bs (itK s0 k).bad) ∧ Hid (Grow wr (w.heap.size + 1) (w.heap.size + 2) (itK s0 k).n vk vv (.slice none 0 0)) ∧ Hid (Bx wr w.heap.size false (.slice none 0 0) (.slice none 0 0) (.slice none 0 0)) ∧ Hid (w.grownBy wr (some g))) (fun i _ => count - (intOf i).toNat)
  case atStart => exact ⟨0, _, _, rfl, by omega, HR0.out, HG0.out, HX0.out, HW0.out⟩
  case round =>
    clear HR0 HG0 HX0 HW0 hz0
    obtain ⟨k, vk, vv, rfl, hk, hrd, hgr, hbx, hw⟩ := hrel
    have hlk := HLEN.out k
    have hlf := HLF.out k
    have hsn : Hid (Sane (itK s0 k).bad (itK s0 k).bs) := sane_itK hss.out k
    have hle := itK_len s0 k
    by_cases hlt : k < count
    · have hnx : Hid (itK s0 (k + 1) = stK (itK s0 k)) := rfl
      generalize itK s0 k = q at *
      have hc1 := hgr.out.box.cell1
      have htop := hgr.out.top
      go_wp2_with fail
      go_region_law (first
        | (go_simp
           go_at_call 38
           go_must (
           refine (rtext_any g 48 q.bs q.bad _ hrd.out.drew hsn.out (by omega) (by omega)).mono ?_
           rintro e w1 ⟨rfl, hl⟩
           have G1 := Lib.hid (hgr.out.drew.far hl.2 (by omega))
           have X1 := Lib.hid (hbx.out.drew.far hl.2 (by omega))
           have W1 : Hid (w.grownBy w1 (some g)) := grown_trans (grown_drew hw.out) hl.2
           have R1 := Lib.hid hl.1
           have d1 := G1.out.box.cell1
           have d1a := fun o => (G1.out.alloc o).box.cell1
           clear hl))
        | (refine step_append_str1 rfl (.tmp 14) (.tmp 17) rfl (w.heap.size + 2) vk q.n.keys vv q.n.vals (by simp [Act.eval]) (G1.out.alloc _).keys (G1.out.alloc _).vals G1.out.two (G1.out.alloc _).top w1.heap.size 0 1 (txV 48 q.bs) (by simp [Act.eval]) (by simp) (by omega) ?_
           intro v2 w2 ho2 hu2 ht2 hb2
           obtain ⟨L2, hL2⟩ : ∃ x, q.n.keys ++ [txV 48 q.bs] = x := ⟨_, rfl⟩
           rw [hL2] at ho2
           have HL2 := Lib.hid hL2
           obtain ⟨A2, c2, rfl, _, _⟩ := ho2.strs.len
           clear hL2
           have d2 := ((G1.out.alloc _).box.below hb2 (by omega)).cell1
           have f2 := ((G1.out.alloc _).box.below hb2 (by omega)).frozen 1))
      all_goals
        have G2 : Hid (Grow (w2.setCell ⟨w.heap.size + 1, 1, none⟩ (.slice A2 L2.length c2)) (w.heap.size + 1) (w.heap.size + 2) ⟨q.n.leaf, q.n.keys ++ [txV 48 q.bs], q.n.vals, q.n.kids⟩ (.slice A2 L2.length c2) vv (.slice none 0 0)) :=
          (G1.out.alloc _).key hb2 (by rw [HL2.out]; exact ho2) hu2 ht2
        have X2 : Hid (Bx (w2.setCell ⟨w.heap.size + 1, 1, none⟩ (.slice A2 L2.length c2)) w.heap.size false (.slice none 0 0) (.slice none 0 0) (.slice none 0 0)) :=
          ((X1.out.on (new_below _ _)).below hb2 (by omega)).other _ _ (by show w.heap.size ≠ w.heap.size + 1; omega)
        have R2 : Hid (Rd (w2.setCell ⟨w.heap.size + 1, 1, none⟩ (.slice A2 L2.length c2)) g (txB 48 q.bs) (txX 48 q.bs)) :=
          ((R1.out.on (new_below _ _)).below hb2 (by omega)).other _ _ (by show g ≠ w.heap.size + 1; omega)
        have W2 : Hid (w.grownBy (w2.setCell ⟨w.heap.size + 1, 1, none⟩ (.slice A2 L2.length c2)) (some g)) :=
          grown_box (grown_on W1.out (new_below _ _)) hb2 (by omega) (by omega) (G1.out.alloc _).top _ _
        clear hb2 ho2 hu2 ht2 d1 d1a d2 f2 R1 X1 W1 G1
        generalize w2.setCell ⟨w.heap.size + 1, 1, none⟩ (.slice A2 L2.length c2) = w3 at *
        cases leaf
        · have hst : Hid (itK s0 (k + 1) = ⟨⟨q.n.leaf, q.n.keys ++ [txV 48 q.bs], q.n.vals, q.n.kids⟩, txB 48 q.bs, txX 48 q.bs⟩) := by
            rw [hnx.out]
            unfold Hid stK
            rw [hlf]
            rfl
          go_wp2_with fail
          go_roundw
          case rel => exact ⟨k + 1, _, _, by go_num, by omega, by rw [hst.out]; exact R2.out, by rw [hst.out]; exact G2.out, X2.out, W2.out⟩
          case measure => simp [intOf]; omega
        · have hst : Hid (itK s0 (k + 1) = ⟨⟨q.n.leaf, q.n.keys ++ [txV 48 q.bs], q.n.vals ++ [txV 160 (txB 48 q.bs)], q.n.kids⟩, txB 160 (txB 48 q.bs), txX 160 (txB 48 q.bs)⟩) := by
            rw [hnx.out]
            unfold Hid stK
            rw [hlf]
            rfl
          have hc2 := G2.out.box.cell2
          have hle2 := txB_len 48 q.bs
          go_wp2_with fail
          go_region_law (first
            | (go_simp
               go_at_call 38
               go_must (
               refine (rtext_any g 160 (txB 48 q.bs) (txX 48 q.bs) _ R2.out.drew (Sane.tx 48 q.bs) (by omega) (by omega)).mono ?_
               rintro e w4 ⟨rfl, hl⟩
               have G4 := Lib.hid (G2.out.drew.far hl.2 (by omega))
               have X4 := Lib.hid (X2.out.drew.far hl.2 (by omega))
               have W4 : Hid (w.grownBy w4 (some g)) := grown_trans (grown_drew W2.out) hl.2
               have R4 := Lib.hid hl.1
               have d4 := G4.out.box.cell2
               have d4a := fun o => (G4.out.alloc o).box.cell2
               clear hl))
            | (refine step_append_str1 rfl (.tmp 22) (.tmp 25) rfl (w.heap.size + 2) vv q.n.vals (.slice A2 L2.length c2) (q.n.keys ++ [txV 48 q.bs]) (by simp [Act.eval]) (G4.out.alloc _).vals (G4.out.alloc _).keys G4.out.two.symm (G4.out.alloc _).top w4.heap.size 0 1 (txV 160 (txB 48 q.bs)) (by simp [Act.eval]) (by simp) (by omega) ?_
               intro v5 w5 ho5 hu5 ht5 hb5
               obtain ⟨L5, hL5⟩ : ∃ x, q.n.vals ++ [txV 160 (txB 48 q.bs)] = x := ⟨_, rfl⟩
               rw [hL5] at ho5
               have HL5 := Lib.hid hL5
               obtain ⟨A5, c5, rfl, _, _⟩ := ho5.strs.len
               clear hL5
               have d5 := ((G4.out.alloc _).box.below hb5 (by omega)).cell2
               have f5 := ((G4.out.alloc _).box.below hb5 (by omega)).frozen 2))
          all_goals
            have G6 : Hid (Grow (w5.setCell ⟨w.heap.size + 1, 2, none⟩ (.slice A5 L5.length c5)) (w.heap.size + 1) (w.heap.size + 2) ⟨q.n.leaf, q.n.keys ++ [txV 48 q.bs], q.n.vals ++ [txV 160 (txB 48 q.bs)], q.n.kids⟩ (.slice A2 L2.length c2) (.slice A5 L5.length c5) (.slice none 0 0)) :=
              (G4.out.alloc _).val hb5 (by rw [HL5.out]; exact ho5) hu5 ht5
            have X6 : Hid (Bx (w5.setCell ⟨w.heap.size + 1, 2, none⟩ (.slice A5 L5.length c5)) w.heap.size false (.slice none 0 0) (.slice none 0 0) (.slice none 0 0)) :=
              ((X4.out.on (new_below _ _)).below hb5 (by omega)).other _ _ (by show w.heap.size ≠ w.heap.size + 1; omega)
            have R6 : Hid (Rd (w5.setCell ⟨w.heap.size + 1, 2, none⟩ (.slice A5 L5.length c5)) g (txB 160 (txB 48 q.bs)) (txX 160 (txB 48 q.bs))) :=
              ((R4.out.on (new_below _ _)).below hb5 (by omega)).other _ _ (by show g ≠ w.heap.size + 1; omega)
            have W6 : Hid (w.grownBy (w5.setCell ⟨w.heap.size + 1, 2, none⟩ (.slice A5 L5.length c5)) (some g)) :=
              grown_box (grown_on W4.out (new_below _ _)) hb5 (by omega) (by omega) (G4.out.alloc _).top _ _
            clear hb5 ho5 hu5 ht5 d4 d4a d5 f5 R4 X4 W4 G4
            generalize w5.setCell ⟨w.heap.size + 1, 2, none⟩ (.slice A5 L5.length c5) = w6 at *
            go_wp2_with fail
            go_roundw
            case rel => exact ⟨k + 1, _, _, by go_num, by omega, by rw [hst.out]; exact R6.out, by rw [hst.out]; exact G6.out, X6.out, W6.out⟩
            case measure => simp [intOf]; omega
    · have hkk : k = count := by omega
      subst hkk
      clear hlt hk hle
      obtain ⟨q, hq⟩ : ∃ x, itK s0 k = x := ⟨_, rfl⟩
      have hqk : Hid (q.n.kids = []) := by rw [← hq]; unfold Hid; rw [itK_kids, hn0.out]
      have hql : q.bs.length ≤ 140737488355328 := by rw [← hq]; have := itK_len s0 k; omega
      have HQ : Hid (itK s0 k = q) := hq
      rw [hq] at hrd hgr hlk hlf hsn
      clear hq
      have hlk1 : q.n.keys.length ≤ 512 := by omega
      have hlk2 : q.n.vals.length ≤ 512 := by omega
      clear hlk
      obtain ⟨Ak, ck, rfl, hck, hmk⟩ := hgr.out.keys.strs.len
      obtain ⟨Av, cv, rfl, hcv, hmv⟩ := hgr.out.vals.strs.len
      cases leaf
      · have hE : Hid (bodyS false bs bad k = itP q (k + 1)) := by have := hend.out; unfold Hid; rw [this, HQ.out]; rfl
        go_wp2_with fail
        go_loopw [33] (fun i wx => ∃ (j : Nat) (vi : Value), i = .int .i64 j ∧ j ≤ k + 1 ∧ Hid (Rd wx g (itP q j).bs (itP q j).bad) ∧ Hid (Grow wx (w.heap.size + 1) (w.heap.size + 2) (itP q j).n (.slice Ak q.n.keys.length ck) (.slice Av q.n.vals.length cv) vi) ∧ Hid (OwnI wx (w.heap.size + 2) vi (itP q j).n.kids) ∧ Hid (Bx wx w.heap.size false (.slice none 0 0) (.slice none 0 0) (.slice none 0 0)) ∧ Hid (w.grownBy wx (some g))) (fun i _ => k + 1 - (intOf i).toNat)
        case atStart => exact ⟨0, _, rfl, by omega, hrd.out, hgr.out, (by unfold Hid; show OwnI _ _ _ q.n.kids; rw [hqk.out]; exact OwnI.nil _ _), hbx.out, hw.out⟩
        case round =>
          clear hrd hgr hbx hw
          obtain ⟨j, vi, rfl, hj, hrd, hgr, hki, hbx, hw⟩ := hrel
          have hsn : Hid (Sane (itP q j).bad (itP q j).bs) := sane_itP hsn.out j
          have hle := itP_len q j
          have hlq := itP_kids q j
          have hlf2 := itP_leaf q j
          rw [hqk.out] at hlq
          have hkeys := itP_keys q j
          by_cases hlt : j < k + 1
          · have hnx : Hid (itP q (j + 1) = ⟨⟨(itP q j).n.leaf, (itP q j).n.keys, (itP q j).n.vals, (itP q j).n.kids ++ [((min (nv (itP q j).bs) 4096 : Nat) : Int)]⟩, uB (itP q j).bs, uX (itP q j).bs⟩) := rfl
            generalize itP q j = p at *
            have hc3 := hgr.out.box.cell3
            have htop := hgr.out.top
            have hnv := nv_u64 p.bs
            obtain ⟨x, hx⟩ : ∃ x, min (nv p.bs) 4096 = x := ⟨_, rfl⟩
            have hx2 : x ≤ 4096 := by omega
            have HX := Lib.hid hx
            have hxv : IntKind.i64.wrap (min ((nv p.bs : Nat) : Int) 4096) = (x : Int) := by
              rw [show min ((nv p.bs : Nat) : Int) 4096 = (x : Int) by omega]
              exact IntWalk.i64_in _ (by omega)
            have hlq1 : p.n.kids.length ≤ 513 := by rw [hlq]; simp; omega
            rw [hx] at hnx
            clear hlq
            clear hx
            have hjk : (j : Int) < k + 1 := by omega
            go_wp2_with fail
            go_region_law (first
              | (go_simp
                 go_at_call 29
                 go_must (
                 refine (ruint_any g p.bs p.bad _ hrd.out.drew hsn.out (by omega)).mono ?_
                 rintro e w1 ⟨rfl, hl⟩
                 have G1 := Lib.hid (hgr.out.drew.far hl.2 (by omega))
                 have I1 : Hid (OwnI w1 (w.heap.size + 2) vi p.n.kids) := (hki.out.keep (Below.refl _ _).drew).far hl.2 (by omega)
                 have X1 := Lib.hid (hbx.out.drew.far hl.2 (by omega))
                 have W1 : Hid (w.grownBy w1 (some g)) := grown_trans (grown_drew hw.out) hl.2
                 have R1 := Lib.hid hl.1
                 have d1 := G1.out.box.cell3
                 have d1a := fun o => (G1.out.alloc o).box.cell3
                 clear hl))
              | (refine step_append_int1 rfl (.tmp 36) (.tmp 41) rfl (w.heap.size + 2) vi p.n.kids (by simp [Act.eval]) (I1.out.keep (new_below _ _)) (G1.out.alloc _).top w1.heap.size 0 1 (x : Nat) (by simp [Act.eval]) (by simp [vint]) (by omega) ?_
                 intro v2 w2 ho2 hg2 hb2
                 obtain ⟨L2, hL2⟩ : ∃ y, p.n.kids ++ [((x : Nat) : Int)] = y := ⟨_, rfl⟩
                 rw [hL2] at ho2
                 have HL2 := Lib.hid hL2
                 obtain ⟨A2, c2, rfl, _, _⟩ := ho2.flat.len
                 clear hL2
                 have d2 := ((G1.out.alloc _).box.below hb2 (by omega)).cell3
                 have f2 := ((G1.out.alloc _).box.below hb2 (by omega)).frozen 3))
            all_goals
              have G2 : Hid (Grow (w2.setCell ⟨w.heap.size + 1, 3, none⟩ (.slice A2 L2.length c2)) (w.heap.size + 1) (w.heap.size + 2) ⟨p.n.leaf, p.n.keys, p.n.vals, p.n.kids ++ [((x : Nat) : Int)]⟩ (.slice Ak q.n.keys.length ck) (.slice Av q.n.vals.length cv) (.slice A2 L2.length c2)) :=
                (G1.out.alloc _).kid (I1.out.keep (new_below _ _)) hg2 hb2 _
              have I2 : Hid (OwnI (w2.setCell ⟨w.heap.size + 1, 3, none⟩ (.slice A2 L2.length c2)) (w.heap.size + 2) (.slice A2 L2.length c2) (p.n.kids ++ [((x : Nat) : Int)])) := by
                rw [HL2.out]
                exact ho2.put _ _ (by show w.heap.size + 1 < w.heap.size + 2; omega)
              have X2 : Hid (Bx (w2.setCell ⟨w.heap.size + 1, 3, none⟩ (.slice A2 L2.length c2)) w.heap.size false (.slice none 0 0) (.slice none 0 0) (.slice none 0 0)) :=
                ((X1.out.on (new_below _ _)).below hb2 (by omega)).other _ _ (by show w.heap.size ≠ w.heap.size + 1; omega)
              have R2 : Hid (Rd (w2.setCell ⟨w.heap.size + 1, 3, none⟩ (.slice A2 L2.length c2)) g (uB p.bs) (uX p.bs)) :=
                ((R1.out.on (new_below _ _)).below hb2 (by omega)).other _ _ (by show g ≠ w.heap.size + 1; omega)
              have W2 : Hid (w.grownBy (w2.setCell ⟨w.heap.size + 1, 3, none⟩ (.slice A2 L2.length c2)) (some g)) :=
                grown_box (grown_on W1.out (new_below _ _)) hb2 (by omega) (by omega) (G1.out.alloc _).top _ _
              clear hb2 hg2 ho2 d1 d1a d2 f2 R1 X1 W1 G1 I1
              generalize w2.setCell ⟨w.heap.size + 1, 3, none⟩ (.slice A2 L2.length c2) = w3 at *
              go_wp2_with fail
              go_roundw
              case rel => exact ⟨j + 1, _, by go_num, by omega, by rw [hnx.out]; exact R2.out, by rw [hnx.out]; exact G2.out, by rw [hnx.out]; exact I2.out, X2.out, W2.out⟩
              case measure => simp [intOf]; omega
          · have hjj : j = k + 1 := by omega
            subst hjj
            obtain ⟨Ai, ci, rfl, hci, hmi⟩ := hki.out.flat.len
            have hb : Bx wr (w.heap.size + 1) false (.slice Ak q.n.keys.length ck) (.slice Av q.n.vals.length cv) (.slice Ai (itP q (k + 1)).n.kids.length ci) := (hlf2.trans hlf) ▸ hgr.out.box
            have e0 := hb.cell0
            have e1 := hb.cell1
            have e2 := hb.cell2
            have e3 := hb.cell3
            have r0 := hbx.out.cell0
            have r1 := hbx.out.cell1
            have r2 := hbx.out.cell2
            have r3 := hbx.out.cell3
            have f0 := hbx.out.frozen 0
            have f1 := hbx.out.frozen 1
            have f2 := hbx.out.frozen 2
            have f3 := hbx.out.frozen 3
            have hlq1 : (itP q (k + 1)).n.kids.length ≤ 513 := by rw [hlq]; simp; omega
            have HLF2 := Lib.hid (hlf2.trans hlf)
            clear hb hlq hlf2 hkeys hle
            generalize itP q (k + 1) = p at *
            go_wp2_with fail
            refine bodyPost_ret (result_node rfl _ _ _ _ _ _ _ rfl (hbx.out.whole _ _ _ _)) rfl ?_
            rw [hE.out]
            refine ⟨_, rfl, ?_, hrd.out.whole (by omega) _ _ _ _, grown_whole hw.out (Nat.le_refl _) _ _ _ _⟩
            have := hgr.out.node (R := w.heap.size) hki.out (by omega) (.bool false) (.slice Ak q.n.keys.length ck) (.slice Av q.n.vals.length cv) (.slice Ai p.n.kids.length ci)
            rw [HLF2.out] at this
            exact this.lower (by omega)
      · have hE : Hid (bodyS true bs bad k = q) := by have := hend.out; unfold Hid; rw [this, HQ.out]; rfl
        have hb : Bx wr (w.heap.size + 1) true (.slice Ak q.n.keys.length ck) (.slice Av q.n.vals.length cv) (.slice none 0 0) := hlf ▸ hgr.out.box
        have e0 := hb.cell0
        have e1 := hb.cell1
        have e2 := hb.cell2
        have e3 := hb.cell3
        have r0 := hbx.out.cell0
        have r1 := hbx.out.cell1
        have r2 := hbx.out.cell2
        have r3 := hbx.out.cell3
        have f0 := hbx.out.frozen 0
        have f1 := hbx.out.frozen 1
        have f2 := hbx.out.frozen 2
        have f3 := hbx.out.frozen 3
        clear hb
        go_wp2_with fail
        refine bodyPost_ret (result_node rfl _ _ _ _ _ _ _ rfl (hbx.out.whole _ _ _ _)) rfl ?_
        rw [hE.out]
        refine ⟨_, rfl, ?_, hrd.out.whole (by omega) _ _ _ _, grown_whole hw.out (Nat.le_refl _) _ _ _ _⟩
        have := hgr.out.node (R := w.heap.size) (by rw [hqk.out]; exact OwnI.nil _ _) (by omega) (.bool true) (.slice Ak q.n.keys.length ck) (.slice Av q.n.vals.length cv) (.slice none 0 0)
        rw [hlf] at this
        exact this.lower (by omega)

end Go.Proofs.Ytjilkpgbojjnfaa.Cd
