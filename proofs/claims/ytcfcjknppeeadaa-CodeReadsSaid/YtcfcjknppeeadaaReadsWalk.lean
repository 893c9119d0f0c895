/-
  CodeReads answers true. Conditions: none.
-/
import Derived.Test.YtcfcjknppeeadaaRefReads
import Derived.Test.YtcfcjknppeeadaaAlive
import Derived.Test.YtcfcjknppeeadaaOpen
import Derived.Deep.RegionWith
import Derived.Deep.DeepCutAuto
import Derived.Deep.LoopGhost
import Derived.Deep.CutBlock
import Derived.Deep.RegionHeld3
namespace Go.Proofs.Ytcfcjknppeeadaa.CodeReads
open Go.RowKit Go.Proofs.Ytcfcjknppeeadaa.Cd

theorem rd_new {w : World} {g : Nat} {bs : List UInt8} {bad : Bool} (h : Rd w g bs bad) (o : Obj) : Rd (w.alloc o) g bs bad :=
  h.below ((Below.refl w.heap.size w).alloc (Nat.le_refl _) o) h.lt

/-- Both readers have the same left, and nothing that was there has turned. -/
def Both (w W : World) (g gm : Nat) (bs : List UInt8) (bad : Bool) : Prop :=
  Rd W g bs bad ∧ Rf W gm bs bad ∧ Below w.heap.size w W

theorem both_of {w W v1 v2 : World} {g gm : Nat} {bs' : List UInt8} {bad' : Bool} (hb : Below w.heap.size w W) (h1 : Go.Proofs.Ytcfcjknppeeadaa.Cd.Left W g bs' bad' v1) (h2 : LeftF v1 gm bs' bad' v2) (hW : w.heap.size ≤ W.heap.size) (hg : w.heap.size ≤ g) (hgm : w.heap.size ≤ gm)
    (hne : g ≠ gm) : Both w v2 g gm bs' bad' :=
  ⟨h1.1.far h2.2 hne, h2.1, below_of_grown (below_of_grown hb h1.2 hW hg) h2.2 (Nat.le_trans hW h1.2.size) hgm⟩

/-- Ahead of every round. -/
def Inv (w W : World) (g gm : Nat) : Prop := ∃ bs bad, Both w W g gm bs bad ∧ Sane bad bs ∧ bs.length ≤ 16384

theorem both_new {w W : World} {g gm : Nat} {bs : List UInt8} {bad : Bool} (h : Both w W g gm bs bad) (o : Obj) : Both w (W.alloc o) g gm bs bad :=
  ⟨rd_new h.1 o, h.2.1.new o, h.2.2.alloc h.2.2.size o⟩

/-- Behind the switch. -/
def After (w : World) (g gm : Nat) (s10 : Value) (W : World) : Prop := s10 = .bool true ∧ Inv w W g gm

/-- What the two readers are made as. -/
def Made (w : World) (b0 : List UInt8) (s5 s6 : Value) (W : World) : Prop :=
  ∃ g gm, s5 = .pointer (some ⟨g, 0, none⟩) ∧ s6 = .pointer (some ⟨gm, 0, none⟩) ∧ g ≠ gm ∧ w.heap.size ≤ g ∧ w.heap.size ≤ gm ∧ Both w W g gm b0 false

set_option maxHeartbeats 400000 in
theorem much (v0 v : Value) (b0 : List UInt8) (ps : List Prt) (w : World) (hs : Sl w w.heap.size v0 b0) (h : Parts w w.heap.size v ps) (hb : 16384 < b0.length ∨ (¬ 16384 < b0.length ∧ 200 < ps.length)) :
    Calls Try.prog 4 #[v0, v] w (Gives (.bool true) w) := by
  obtain ⟨A0, k0, rfl, m1, m2, _⟩ := hs
  obtain ⟨A, c, rfl, hm, _⟩ := h
  have hm1 : b0.length ≤ 9223372036854775807 := by unfold maxLen at m2; omega
  have hm2 : ps.length ≤ 9223372036854775807 := by unfold maxLen at hm; omega
  clear m2 hm
  rcases hb with hb | ⟨hb, hb'⟩
  all_goals
    go_enter Try.func4, Try.ntmps4
    go_wp2_with (go_at_call 10; refine (alive_any _).mono ?_; rintro e w1 ⟨rfl, hb1⟩)
    go_ret
    exact ⟨rfl, hb1⟩

set_option maxRecDepth 100000 in
set_option maxHeartbeats 4000000 in
theorem main (v0 v : Value) (b0 : List UInt8) (ps : List Prt) (w : World) (hs : Sl w w.heap.size v0 b0) (h : Parts w w.heap.size v ps) (hb : b0.length ≤ 16384) (hp200 : ps.length ≤ 200) :
    Calls Try.prog 4 #[v0, v] w (Gives (.bool true) w) := by
  have HSL := Lib.hid hs
  obtain ⟨A0, k0, rfl, m1, m2, mm⟩ := hs
  obtain ⟨A, c, rfl, hm, hok, hp⟩ := h
  have HP := Lib.hid hp
  have HO := Lib.hid hok
  clear hp hok hm m2 mm
  go_enter Try.func4, Try.ntmps4
  go_wp2_with fail
  refine (alive_any _).mono ?_
  rintro e w1 ⟨rfl, hb1⟩
  have hs1 := hb1.size
  have HS1 := Lib.hid ((HSL.out.below hb1).more hs1)
  go_wp2_with fail
  go_cut [5, 6] (fun s5 s6 W => Made w b0 s5 s6 W)
  case first =>
    have t0 := run_text_of w1.drew w1.heap.size _ b0 HS1.out
    have hA : Sl w1.drew w1.drew.heap.size _ b0 := HS1.out
    have hB := fun o : Obj => ((HS1.out.below ((Below.refl w1.heap.size w1).alloc (Nat.le_refl _) o).drew).more (B' := (w1.alloc o).drew.heap.size) (by simp))
    have HA := Lib.hid hA
    have HB := Lib.hid hB
    clear hA hB
    go_region_with (go_at_call 16; first | (refine (read_any _ b0 _ HA.out).mono ?_; rintro e w4 ⟨rfl, hr4, hb4⟩; have t4 := run_text_of w4 w1.heap.size _ b0 (HS1.out.below ((Below.refl _ _).drew.trans hb4)); have HR4 := Lib.hid hr4; clear hr4) | (refine (read_any _ b0 _ (HB.out _)).mono ?_; rintro e w4 ⟨rfl, hr4, hb4⟩; rw [show ∀ o, (World.drew (w1.alloc o)).heap.size = w1.heap.size + 1 from fun o => asz w1 o] at hr4; have HR4 := Lib.hid hr4; clear hr4))
    all_goals
      go_wp2_with fail
      go_meet
      first
        | exact ⟨w1.heap.size, w4.heap.size, rfl, rfl, by have := hb4.size; have := HR4.out.lt; simp at this; omega, by omega, by have := hb4.size; simp at this; omega, rd_new HR4.out _, heap_alloc_new w4 _, ((hb1.drew).trans (hb4.mono hs1)).alloc (by have := hb4.size; simp at this; omega) _⟩
        | exact ⟨w1.heap.size + 1, w1.heap.size, rfl, rfl, by omega, by omega, by omega, HR4.out, Rf.below (show Rf (World.drew (w1.alloc _)) w1.heap.size b0 false from heap_alloc_new w1 _) hb4 (by simp), (((hb1.alloc hs1 _).drew).trans (hb4.mono (by simp; omega)))⟩
  case rest =>
    obtain ⟨g, gm, rfl, rfl, hne, hg, hgm, hbo⟩ := hcut
    have HI : Hid (Inv w wc g gm) := ⟨b0, false, hbo, Sane.start _, hb⟩
    have hnm : gm ≠ g := fun e => hne e.symm
    clear hbo hb1 HS1
    go_wp2_with fail
    go_loopw [29] (fun i wr => ∃ (k : Nat), i = .int .i64 k ∧ k ≤ ps.length ∧ Hid (Inv w wr g gm)) (fun i _ => ps.length - (intOf i).toNat)
    case atStart => exact ⟨0, rfl, by omega, HI⟩
    case round =>
      obtain ⟨k, rfl, hk, hinv⟩ := hrel
      obtain ⟨bs, bad, hbo, hsn, hbl⟩ := hinv.out
      have HN := Lib.hid hsn
      have HB := Lib.hid hbo
      have hbw := hbo.2.2
      have hszw := hbw.size
      have hbl2 : bs.length ≤ 140737488355328 := by omega
      clear hbo hsn hinv
      by_cases hlt : k < ps.length
      · obtain ⟨b, off, rfl, hB, hc⟩ := HP.out (by omega)
        obtain ⟨p, hpk⟩ : ∃ p, ps[k]? = some p := ⟨ps[k], List.getElem?_eq_getElem hlt⟩
        have hcell : ∀ j u, p.cells[j]? = some u → wr.cell? ⟨b, off + k * 6 + j, none⟩ = some u := fun j u hu => (hbw.cell (p := ⟨b, off + k * 6 + j, none⟩) hB).trans (hc k p hpk j u hu)
        have c0 : wr.cell? ⟨b, off + k * 6, none⟩ = some (.int .i64 p.kind) := hcell 0 _ rfl
        have c1 := hcell 1 _ rfl
        have c2 := hcell 2 _ rfl
        have c3 := hcell 3 _ rfl
        have c4 := hcell 4 _ rfl
        have c5 := hcell 5 _ rfl
        have hOk := HO.out p (List.mem_of_getElem? hpk)
        have HR := Lib.hid (fun o => rd_new HB.out.1 o)
        have HF := Lib.hid (fun o => HB.out.2.1.new o)
        have hgl := HB.out.1.lt
        have hgml := HB.out.2.1.lt
        have HNN := Lib.hid hOk.n
        clear hc hcell hpk
        have HG := Lib.hid (show ∀ j, some (({ block := wr.heap.size, off := j } : Addr).block) ≠ some g from fun j => by simp; omega)
        have HGM := Lib.hid (show ∀ j, some (({ block := wr.heap.size, off := j } : Addr).block) ≠ some gm from fun j => by simp; omega)
        go_upto_block 2 with fail
        go_cut [10] (fun s10 W => After w g gm s10 W)
        case first =>
          by_cases hk : p.kind = 0
          · have q0 : (p.kind == 0) = true := by simp [hk]
            clear hk
            go_wp2_with (first
              | (go_at_call_of 17 (Value.pointer (some ⟨g, 0, none⟩)); refine (ruint_any g bs bad _ (HR.out _) HN.out hbl2).mono ?_; rintro e v1 ⟨rfl, hl1⟩; have hf1 := Lib.hid ((HF.out _).far hl1.2 hnm))
              | (go_at_call 18; refine (fuint_any gm bs bad _ hf1.out HN.out hbl2).mono ?_; rintro e v2 ⟨rfl, hl2⟩; have hbo2 : Both w v2 g gm (uB bs) (uX bs) := both_of (hbw.alloc hszw _) hl1 hl2 (by simp; omega) hg hgm hne; have HB2 := Lib.hid hbo2; clear hbo2)
              | (go_at_call_of 17 (Value.pointer none); refine (ruint_nil _).mono ?_; rintro e v3 ⟨rfl, rfl⟩))
            go_meet
            exact ⟨rfl, ⟨uB bs, uX bs, HB2.out, Sane.u bs, Nat.le_trans (uB_len bs) hbl⟩⟩
          · have q0 : (p.kind == 0) = false := by simp; omega
            have n0 := Lib.hid hk
            clear hk
            by_cases hk : p.kind = 1
            · have q1 : (p.kind == 1) = true := by simp [hk]
              clear hk
              go_wp2_with (first
                | (go_at_call_of 19 (Value.pointer (some ⟨g, 0, none⟩)); refine (rint_any g bs bad _ (HR.out _) HN.out hbl2).mono ?_; rintro e v1 ⟨rfl, hl1⟩; have hf1 := Lib.hid ((HF.out _).far hl1.2 hnm))
                | (go_at_call 20; refine (fint_any gm bs bad _ hf1.out HN.out hbl2).mono ?_; rintro e v2 ⟨rfl, hl2⟩; have hbo2 : Both w v2 g gm (uB bs) (uX bs) := both_of (hbw.alloc hszw _) hl1 hl2 (by simp; omega) hg hgm hne; have HB2 := Lib.hid hbo2; clear hbo2)
                | (go_at_call_of 19 (Value.pointer none); refine (rint_nil _).mono ?_; rintro e v3 ⟨rfl, rfl⟩))
              go_meet
              exact ⟨rfl, ⟨uB bs, uX bs, HB2.out, Sane.u bs, Nat.le_trans (uB_len bs) hbl⟩⟩
            · have q1 : (p.kind == 1) = false := by simp; omega
              have n1 := Lib.hid hk
              clear hk
              by_cases hk : p.kind = 2
              · have q2 : (p.kind == 2) = true := by simp [hk]
                clear hk
                go_wp2_with fail
                go_region_held3 (fun W => W.cell? ⟨wr.heap.size, 2, none⟩ = some (.int .i64 p.n)) (first | exact d22 | exact d12 | simp) (first
                  | (go_at_call_of 21 (Value.pointer (some ⟨g, 0, none⟩)); refine (rtext_any g p.n bs bad _ (HR.out _).drew HN.out hbl2 HNN.out.2).mono ?_; rintro e v1 ⟨rfl, hl1⟩; have hf1 := Lib.hid ((HF.out _).drew.far hl1.2 hnm)
                     have d12 : v1.cell? ⟨wr.heap.size, 2, none⟩ = some (.int .i64 p.n) := hl1.2.cell (by simp) (HG.out 2))
                  | (go_at_call 22; refine (ftext_any gm p.n bs bad _ hf1.out HN.out hbl2 HNN.out.2).mono ?_; rintro e v2 ⟨rfl, hl2⟩; have hbo2 : Both w v2 g gm (txB p.n bs) (txX p.n bs) := both_of (hbw.alloc hszw _).drew hl1 hl2 (by simp; omega) hg hgm hne; have HB2 := Lib.hid hbo2; clear hbo2
                     have d22 : v2.cell? ⟨wr.heap.size, 2, none⟩ = some (.int .i64 p.n) := hl2.2.cell d12 (HGM.out 2))
                  | (go_at_call_of 21 (Value.pointer none); refine (rtext_nil _ _).mono ?_; rintro e v3 ⟨rfl, rfl⟩))
                all_goals
                  go_wp2_with fail
                  go_meet
                  exact ⟨rfl, ⟨txB p.n bs, txX p.n bs, HB2.out, Sane.tx p.n bs, Nat.le_trans (txB_len p.n bs) hbl⟩⟩
              · have q2 : (p.kind == 2) = false := by simp; omega
                have n2 := Lib.hid hk
                clear hk
                by_cases hk : p.kind = 3
                · have q3 : (p.kind == 3) = true := by simp [hk]
                  clear hk
                  go_wp2_with fail
                  go_region_held3 (fun W => W.cell? ⟨wr.heap.size, 4, none⟩ = some (.int .i64 p.lo) ∧ W.cell? ⟨wr.heap.size, 5, none⟩ = some (.int .i64 p.hi)) (first | exact ⟨d24, d25⟩ | exact ⟨d14, d15⟩ | (constructor <;> simp)) (first
                    | (go_at_call_of 23 (Value.pointer (some ⟨g, 0, none⟩)); refine (rin_any g p.lo p.hi bs bad _ (HR.out _).drew HN.out hbl2).mono ?_; rintro e v1 ⟨rfl, hl1⟩; have hf1 := Lib.hid ((HF.out _).drew.far hl1.2 hnm)
                       have d14 : v1.cell? ⟨wr.heap.size, 4, none⟩ = some (.int .i64 p.lo) := hl1.2.cell (by simp) (HG.out 4)
                       have d15 : v1.cell? ⟨wr.heap.size, 5, none⟩ = some (.int .i64 p.hi) := hl1.2.cell (by simp) (HG.out 5))
                    | (go_at_call 24; refine (fin_any gm p.lo p.hi bs bad _ hf1.out HN.out hbl2).mono ?_; rintro e v2 ⟨rfl, hl2⟩; have hbo2 : Both w v2 g gm (inB p.lo p.hi bs) (inX p.lo p.hi bs) := both_of (hbw.alloc hszw _).drew hl1 hl2 (by simp; omega) hg hgm hne; have HB2 := Lib.hid hbo2; clear hbo2
                       have d24 : v2.cell? ⟨wr.heap.size, 4, none⟩ = some (.int .i64 p.lo) := hl2.2.cell d14 (HGM.out 4)
                       have d25 : v2.cell? ⟨wr.heap.size, 5, none⟩ = some (.int .i64 p.hi) := hl2.2.cell d15 (HGM.out 5))
                    | (go_at_call_of 23 (Value.pointer none); refine (rin_nil _ _ _).mono ?_; rintro e v3 ⟨rfl, rfl⟩))
                  all_goals
                    go_wp2_with fail
                    go_meet
                    exact ⟨rfl, ⟨inB p.lo p.hi bs, inX p.lo p.hi bs, HB2.out, Sane.in p.lo p.hi bs, Nat.le_trans (inB_len p.lo p.hi bs) hbl⟩⟩
                · have q3 : (p.kind == 3) = false := by simp; omega
                  have n3 := Lib.hid hk
                  clear hk
                  by_cases hk : p.kind = 4
                  · have q4 : (p.kind == 4) = true := by simp [hk]
                    clear hk
                    go_wp2_with fail
                    go_region_held3 (fun W => W.cell? ⟨wr.heap.size, 2, none⟩ = some (.int .i64 p.n)) (first | exact d22 | exact d12 | simp) (first
                      | (go_at_call_of 25 (Value.pointer (some ⟨g, 0, none⟩)); refine (rtake_any g p.n bs bad _ (HR.out _).drew HN.out hbl2).mono ?_; rintro e v1 ⟨rfl, hl1⟩; have hf1 := Lib.hid ((HF.out _).drew.far hl1.2 hnm)
                         have d12 : v1.cell? ⟨wr.heap.size, 2, none⟩ = some (.int .i64 p.n) := hl1.2.cell (by simp) (HG.out 2))
                      | (go_at_call 26; refine (ftake_any gm p.n bs bad _ hf1.out hbl2).mono ?_; rintro e v2 ⟨rfl, hl2⟩; have hbo2 : Both w v2 g gm (tkB bad p.n bs) (tkX bad p.n bs) := both_of (hbw.alloc hszw _).drew hl1 hl2 (by simp; omega) hg hgm hne; have HB2 := Lib.hid hbo2; clear hbo2
                         have d22 : v2.cell? ⟨wr.heap.size, 2, none⟩ = some (.int .i64 p.n) := hl2.2.cell d12 (HGM.out 2))
                      | (go_at_call_of 25 (Value.pointer none); refine (rtake_nil _ _).mono ?_; rintro e v3 ⟨rfl, rfl⟩))
                    all_goals
                      go_wp2_with fail
                      go_meet
                      exact ⟨rfl, ⟨tkB bad p.n bs, tkX bad p.n bs, HB2.out, Sane.tk bad p.n bs, Nat.le_trans (tkB_len bad p.n bs) hbl⟩⟩
                  · have q4 : (p.kind == 4) = false := by simp; omega
                    have n4 := Lib.hid hk
                    clear hk
                    go_wp2_with fail
                    go_meet
                    exact ⟨rfl, ⟨bs, bad, both_new HB.out _, HN.out, hbl⟩⟩
        case rest =>
          obtain ⟨rfl, bs2, bad2, hbo2, hsn2, hbl3⟩ := hcut
          have HB2 := Lib.hid hbo2
          have HN2 := Lib.hid hsn2
          clear hbo2 hsn2
          go_wp2_with (first | (go_at_call 27; refine (good_any g _ _ _ HB2.out.1).mono ?_; rintro e v4 ⟨rfl, rfl⟩) | (go_at_call 28; refine (fgood_any gm _ _ _ HB2.out.2.1).mono ?_; rintro e v5 ⟨rfl, rfl⟩) | (go_at_call 29; refine (end_any g _ _ _ HB2.out.1).mono ?_; rintro e v6 ⟨rfl, rfl⟩) | (go_at_call 30; refine (fend_any gm _ _ _ HB2.out.2.1).mono ?_; rintro e v7 ⟨rfl, rfl⟩))
          go_roundw
          case rel =>
            first
              | exact ⟨k + 1, by go_num, by omega, ⟨bs2, bad2, HB2.out, HN2.out, hbl3⟩⟩
              | ((repeat apply Exists.intro); exact ⟨⟨k + 1, by go_num, by omega, ⟨bs2, bad2, HB2.out, HN2.out, hbl3⟩⟩, rfl⟩)
          case measure => simp [intOf]; omega
      · have hkl : k = ps.length := by omega
        clear hkl
        go_wp2_with (first | (go_at_call 27; refine (good_nil _).mono ?_; rintro e v1 ⟨rfl, rfl⟩) | (go_at_call 29; refine (end_nil _).mono ?_; rintro e v1 ⟨rfl, rfl⟩))
        go_ret
        exact ⟨rfl, hbw⟩

theorem walk (v0 : Value) (b0 : List UInt8) (v1 : Value) (ps : List Prt) (w : World) (w0 : Sl w w.heap.size v0 b0) (w1 : Parts w w.heap.size v1 ps ∧ ∀ p ∈ ps, p.s.length ≤ 140737488351232) :
    Calls Try.prog 4 #[v0, v1] w (Gives (.bool true) w) := by
  by_cases h1 : 16384 < b0.length
  · exact much v0 v1 b0 ps w w0 w1.1 (.inl h1)
  · by_cases h2 : 200 < ps.length
    · exact much v0 v1 b0 ps w w0 w1.1 (.inr ⟨h1, h2⟩)
    · exact main v0 v1 b0 ps w w0 w1.1 (by omega) (by omega)

end Go.Proofs.Ytcfcjknppeeadaa.CodeReads
