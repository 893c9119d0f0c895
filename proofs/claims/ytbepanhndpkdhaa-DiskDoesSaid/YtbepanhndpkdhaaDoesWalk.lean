/-
  DiskDoes answers true. Conditions: none.
-/
import Derived.Test.YtbepanhndpkdhaaTwinsWalk
namespace Go.Proofs.Ytbepanhndpkdhaa.DiskDoes
open Go.RowKit Go.Proofs.Ytbepanhndpkdhaa.Cd Go.Proofs.Ytbepanhndpkdhaa.DiskTwins

/-- A pair; the block q is none of its. -/
def OneQ (w : World) (B gd gm N : Nat) (D : Dsk) (q : Nat) : Prop := ∃ S T, Pair w B gd gm N S T D ∧ ∀ k, Feet S T gm k → k ≠ q
theorem OneQ.below {w w' : World} {B gd gm N q : Nat} {D : Dsk} (h : OneQ w B gd gm N D q) (hb : Below w.heap.size w w') : OneQ w' B gd gm N D q := by
  obtain ⟨S, T, h1, h2⟩ := h
  exact ⟨S, T, h1.below hb, h2⟩
theorem OneQ.box {w : World} {B gd gm N q : Nat} {D : Dsk} (h : OneQ w B gd gm N D q) (o : Obj) : OneQ (w.alloc o) B gd gm N D w.heap.size := by
  obtain ⟨S, T, h1, _⟩ := h
  exact ⟨S, T, h1.below ((Below.refl _ _).alloc (Nat.le_refl _) _), fun k hk e => by have := h1.lt k hk; omega⟩
theorem does_one {w : World} {B gd gm N q : Nat} {D : Dsk} (h : OneQ w B gd gm N D q) (hB : B ≤ w.heap.size) {c : Cl} {u : Value} {NS : List (List UInt8)} (ok : c.Ok) (hu : Sl w B u c.b) (hs : SrtD (fun n => n ∈ NS) D) (hl : NS.length ≤ 4096) (hN : N + 4 ≤ 4096) :
    Calls Try.prog 14 #[.pointer (some ⟨gd, 0, none⟩), .pointer (some ⟨gm, 0, none⟩), .agg #[.int .i64 c.kind, .string ⟨c.a.toArray⟩, .string ⟨c.z.toArray⟩, .int .i64 c.i, u, .int .u64 c.k]] w
      (fun e w' => e = .returned (.bool true) ∧ (∃ S T, Pair w' B gd gm (N + 4) S T (stepD D c)) ∧ Below B w w' ∧ w.heap.size ≤ w'.heap.size) := by
  obtain ⟨S, T, h1, h4⟩ := h
  refine (does_any B gd gm N S T D c u NS w h1 hB ok hu hs hl hN).mono ?_
  rintro e w' ⟨rfl, S', T', p1, p2, p3⟩
  exact ⟨rfl, ⟨S', T', p1⟩, p2.low hB h1.lo, p2.size⟩
theorem start {w0 w1 w2 : World} {B gd gm : Nat} {S : Nat → Prop} {D : Dsk} (hB : B ≤ w0.heap.size) (hda : DkS w1 gd 0 S D) (hS : ∀ k, S k → w0.heap.size ≤ k) (hb1 : Below w0.heap.size w0 w1) (hra : RefR w2 gm (fun _ => False) D) (hma : w1.heap.size ≤ gm) (hb2 : Below w1.heap.size w1 w2) : OneQ w2 B gd gm 0 D w2.heap.size := by
  have s1 := hb1.size
  have s2 := hb2.size
  have la := hda.lt
  have lm := hra.glt
  refine ⟨S, fun _ => False, ⟨hda.below hb2, hra, fun _ _ h => h, fun h => by have := la _ h; omega, fun k hk => ?_⟩, fun k hk => ?_⟩
  · rcases hk with hk | hk | hk
    · have := hS k hk; omega
    · exact hk.elim
    · omega
  · rcases hk with hk | hk | hk
    · have := la k hk; omega
    · exact hk.elim
    · omega
theorem read_on {D : Dsk} {f : Fil} (ho : Once D.now) (hf : f ∈ D.now) {j : Nat} (hj : j < f.pages.length) : readD (onD D) f.name (j : Int) = (f.pages[j], 0) := by
  unfold readD
  rw [if_neg (by simp [onD])]
  have e : pagesF (onD D).now f.name = f.pages := pages_mem ho hf
  rw [e, if_neg (by omega)]
  simp [List.getD_eq_getElem?_getD, List.getElem?_eq_getElem hj]

set_option maxRecDepth 100000 in
set_option maxHeartbeats 8000000 in
theorem walk (a0 : Int) (v1 : Value) (ps : List Cl) (w : World) (w0 : (Lit.int .i64 a0).wf = true) (w1 : Clls w w.heap.size v1 ps) :
    Calls Try.prog 3 #[.int .i64 a0, v1] w (Gives (.bool true) w) := by
  have b0 := bounds_i64 w0
  obtain ⟨A, c, rfl⟩ := clls_len w1
  have HCL := Lib.hid w1
  have HOK : Hid (∀ p ∈ ps, p.Ok) := by obtain ⟨_, _, _, _, h, _⟩ := w1; exact h
  clear w1 w0
  go_enter Try.func3, Try.ntmps3
  go_wp2_with fail
  refine (alive_any w).mono ?_
  rintro e wa ⟨rfl, hba⟩
  have HBA := Lib.hid hba
  have KG := Lib.hid (great5_any _ ps wa (clls_more (HCL.out.below hba) hba.size))
  clear hba
  go_wp2_with fail
  refine KG.out.mono ?_
  rintro e wg ⟨rfl, hbg⟩
  have HBG : Hid (Below w.heap.size w wg) := HBA.out.trans (hbg.mono HBA.out.size)
  clear hbg KG HBA
  cases hbig : bigC ps
  · have hlen : ps.length ≤ 80 := by
      unfold bigC at hbig
      simp at hbig
      exact hbig.2
    clear hbig
    have hli : (ps.length : Int) ≤ 80 := by omega
    go_wp2_with fail
    refine (new_dks a0 wg b0.1 b0.2).mono ?_
    rintro e w1 ⟨gd, S0, rfl, hda, hSa, hb1⟩
    have HDA := Lib.hid hda
    have HSA := Lib.hid hSa
    have HB1 := Lib.hid hb1
    clear hda hSa hb1
    go_wp2_with fail
    refine (rnew_any a0 w1 b0.1 b0.2).mono ?_
    rintro e w2 ⟨gm, rfl, hra, hma, hb2⟩
    have T2 : Hid (OneQ w2 w.heap.size gd gm 0 (newD a0) w2.heap.size) := start HBG.out.size HDA.out HSA.out HB1.out hra hma hb2
    have HB2 : Hid (Below w.heap.size w w2) := (HBG.out.trans (HB1.out.mono HBG.out.size)).trans (hb2.mono (by have := HBG.out.size; have := HB1.out.size; omega))
    clear hra hma hb2 HDA HSA HB1
    go_wp2_with fail
    go_loopw [28] (fun i wr => ∃ k : Nat, i = .int .i64 k ∧ k ≤ ps.length ∧ Hid (∃ q, OneQ wr w.heap.size gd gm (4 * k) (runD (newD a0) ps k) q) ∧ Hid (Below w.heap.size w wr)) (fun i _ => ps.length - (intOf i).toNat)
    case atStart => exact ⟨0, rfl, by omega, ⟨_, T2.out⟩, HB2.out⟩
    case round =>
      clear T2 HB2
      obtain ⟨k, rfl, hk, ht, hB⟩ := hrel
      by_cases hlt : k < ps.length
      · have hlt' : (k : Int) < ps.length := by omega
        obtain ⟨b, off, Au, cu, rfl, hb, hok, hsl, c0, c1, c2, c3, c4, c5⟩ := clls_at (HCL.out.below hB.out) hlt
        have hsucc := Lib.hid (runD_succ (newD a0) hlt)
        have hsrt := Lib.hid (srt_run a0 ps k hk)
        have hsrt2 := Lib.hid (srt_run a0 ps (k + 1) hlt)
        have hsh := Lib.hid (namesC_short HOK.out)
        have hnl : (namesC ps).length ≤ 4096 := by rw [namesC_len]; omega
        have hN : 4 * k + 4 ≤ 4096 := by omega
        have hkb := hok.b
        have K1 : ∀ o, Hid (Calls Try.prog 14 #[.pointer (some ⟨gd, 0, none⟩), .pointer (some ⟨gm, 0, none⟩), .agg #[.int .i64 (ps[k]).kind, .string ⟨(ps[k]).a.toArray⟩, .string ⟨(ps[k]).z.toArray⟩, .int .i64 (ps[k]).i, .slice Au (ps[k]).b.length cu, .int .u64 (ps[k]).k]] (wr.alloc o) _) := fun o => by
          obtain ⟨q, ht⟩ := ht.out
          exact does_one (ht.box o) (by have := hB.out.size; simp; omega) hok (hsl.below ((Below.refl _ _).alloc hB.out.size o)) hsrt.out hnl hN
        clear hok hsl ht hsrt
        generalize runD (newD a0) ps k = D at *
        generalize ps[k] = p at *
        rw [hsucc.out] at hsrt2
        go_wp2_with fail
        refine (K1 _).out.mono ?_
        rintro e w2 ⟨rfl, ⟨S, T, P⟩, hb2, hz2⟩
        generalize stepD D p = E at *
        have P2 := Lib.hid P
        have HB2 : Hid (Below w.heap.size w w2) := (hB.out.alloc hB.out.size _).trans hb2
        have K2 := Lib.hid (sames_any w.heap.size gd gm _ S T E _ w2 P hsrt2.out hsh.out hnl hN)
        clear P hb2 hz2 K1
        go_wp2_with fail
        refine K2.out.mono ?_
        rintro e w3 ⟨rfl, hb3⟩
        have HB3 : Hid (Below w2.heap.size w2 w3) := hb3
        clear hb3 K2
        go_wp2_with fail
        go_roundw
        case rel => exact ⟨k + 1, by go_num, by omega, (by rw [hsucc.out]; exact ⟨_, OneQ.below ⟨S, T, P2.out, fun j hj e => Nat.lt_irrefl _ (e ▸ P2.out.lt j hj)⟩ HB3.out⟩), HB2.out.trans (HB3.out.mono HB2.out.size)⟩
        case measure => simp [intOf]; omega
      · have hlt' : (ps.length : Int) ≤ k := by omega
        clear hlt
        have HSH := Lib.hid (short_run (room := a0) HOK.out hk)
        generalize runD (newD a0) ps k = D at *
        obtain ⟨q, S, T, P, _⟩ := ht.out
        have PP := Lib.hid P
        have KON := Lib.hid (on_dks gd _ S D wr P.d)
        clear P ht
        go_wp2_with fail
        refine KON.out.mono ?_
        rintro e wa ⟨rfl, hd, ha⟩
        obtain ⟨vn, vs, vw, hrc⟩ := PP.out.half ha
        obtain ⟨An, cn, rfl, hln, hmn⟩ := hrc.now.len
        have e0 : wa.cell? ⟨gm, 0, none⟩ = some (.slice An D.now.length cn) := cell_of_row _ _ _ _ _ _ hrc.row
        obtain ⟨em, fm, hr2, ha2⟩ := ron_poke (PP.out.half ha)
        have PT := Lib.hid (PP.out.done hB.out.size hd ha hr2 ha2)
        have e2 : Hid ((wa.setCell ⟨gm, 4, none⟩ (.bool false)).cell? ⟨gm, 0, none⟩ = some (.slice An D.now.length cn)) := cell_of_row _ _ _ _ _ _ (hrc.poke (D' := onD D) (vn' := .slice An D.now.length cn) (vs' := vs) (vw' := vw) 4 (.bool false) (by simp [rcells, onD]) hrc.now hrc.safe hrc.waits).row
        clear hrc hr2 ha2 hd ha KON
        go_wp2_with fail
        generalize wa.setCell ⟨gm, 4, none⟩ (.bool false) = W at *
        obtain ⟨S', T', P2, hA2, _⟩ := PT.out
        have PP2 := Lib.hid P2
        have ONC := Lib.hid P2.d.once
        obtain ⟨vn', vs', vw', hrc2⟩ := P2.r
        have hv : vn' = .slice An D.now.length cn := by
          have h := cell_of_row _ _ 0 _ _ _ hrc2.row
          rw [e2.out] at h
          exact (Option.some.inj h).symm
        subst hv
        have HRC := Lib.hid hrc2
        have HBW : Hid (Below w.heap.size w W) := hB.out.trans (hA2.low hB.out.size PP.out.lo)
        clear hA2 P2 hrc2 PT e0 em fm hlt'
        obtain ⟨U, hU⟩ : ∃ x, x = wr := ⟨_, rfl⟩
        subst hU
        go_loopw [54] (fun i wr => ∃ k : Nat, i = .int .i64 k ∧ k ≤ D.now.length ∧ Hid (Below W.heap.size W wr)) (fun i _ => D.now.length - (intOf i).toNat)
        case atStart => exact ⟨0, rfl, by omega, Below.refl _ _⟩
        case round =>
          obtain ⟨k2, rfl, hk2, hX⟩ := hrel
          obtain ⟨V, hV⟩ : ∃ x, x = wr := ⟨_, rfl⟩
          subst hV
          by_cases hlt : k2 < D.now.length
          · have hlt' : (k2 : Int) < D.now.length := by omega
            have hnow : Fils T' V (.slice An D.now.length cn) D.now := (HRC.out.below hX.out).now
            obtain ⟨b, off, A', c', rfl, hb, hc1, hc2, hst⟩ := hnow.at hlt
            clear hnow
            have hsn : Hid ((D.now[k2]).name.length ≤ 140737488355328) := HSH.out.now.all _ (List.getElem_mem hlt)
            have HRD : Hid (∀ j (hj : j < (D.now[k2]).pages.length), readD (onD D) (D.now[k2]).name (j : Int) = ((D.now[k2]).pages[j], 0)) := fun j hj => read_on ONC.out (List.getElem_mem hlt) hj
            have HST : Hid (StrsT T' V (.slice A' (D.now[k2]).pages.length c') (D.now[k2]).pages) := hst
            clear hst
            generalize D.now[k2] = f at *
            go_wp2_with fail
            go_loopw [61] (fun i wr => ∃ j : Nat, i = .int .i64 j ∧ j ≤ f.pages.length ∧ Hid (Below (V.heap.size + 1) (V.alloc (.cells #[.string ⟨f.name.toArray⟩, .slice A' f.pages.length c'] 41)) wr)) (fun i _ => f.pages.length - (intOf i).toNat)
            case atStart => exact ⟨0, rfl, by omega, Below.refl _ _⟩
            case round =>
              obtain ⟨j, rfl, hj, hY⟩ := hrel
              by_cases hjl : j < f.pages.length
              · have hjl' : (j : Int) < f.pages.length := by omega
                obtain ⟨b2, off2, c2, hv2, hcl2, hmx2, hT2, hcells⟩ := HST.out.at (by omega)
                injection hv2 with hv3 _ hv4
                subst hv3 hv4
                have hb2 : b2 < V.heap.size := by have := HRC.out.lt b2 hT2; have := hX.out.size; omega
                have n0 : wr.cell? ⟨V.heap.size, 0, none⟩ = some (.string ⟨f.name.toArray⟩) := (hY.out.cell (p := ⟨V.heap.size, 0, none⟩) (by simp)).trans (by simp)
                have n1 : wr.cell? ⟨b2, off2 + j, none⟩ = some (.string ⟨(f.pages[j]).toArray⟩) := (hY.out.cell (p := ⟨b2, off2 + j, none⟩) (by show b2 < _; omega)).trans (((new_lower V _).cell (p := ⟨b2, off2 + j, none⟩) hb2).trans (hcells j hjl))
                have HX2 : Hid (Below W.heap.size W wr) := (hX.out.alloc hX.out.size _).trans (hY.out.mono (by have := hX.out.size; omega))
                have hrj := Lib.hid (HRD.out j hjl)
                have hjm : (f.pages.length : Int) ≤ 9223372036854775807 := by unfold maxLen at hmx2; omega
                have KR := Lib.hid (read_dks gd _ S' (onD D) f.name wr (j : Int) (PP2.out.below HX2.out).d hsn.out (WalkArith.wf_i64 (by omega)))
                obtain ⟨t, ht⟩ : ∃ x, f.pages[j] = x := ⟨_, rfl⟩
                rw [ht] at n1 hrj
                clear hcells ht
                go_wp2_with fail
                refine KR.out.mono ?_
                rintro e w5 hr
                rcases hr with ⟨p, hrd, hpl, rfl, rfl⟩ | ⟨n, hn0, hrd, _, _⟩
                · obtain rfl : p = t := by rw [hrj.out] at hrd; exact (congrArg Prod.fst hrd).symm
                  have hcv := run_text_of _ _ _ _ (page_at hpl 81 (heap_alloc_new wr _))
                  have hpp : (p != p) = false := by simp
                  clear hrd
                  go_wp2_with fail
                  go_roundw
                  case rel => exact ⟨j + 1, by go_num, by omega, hY.out.alloc (by have := hY.out.size; simp at this; omega) _⟩
                  case measure => simp [intOf]; omega
                · rw [hrj.out] at hrd
                  exact absurd (congrArg Prod.snd hrd).symm hn0
              · have hjl' : (f.pages.length : Int) ≤ j := by omega
                have HX2 : Hid (Below W.heap.size W wr) := (hX.out.alloc hX.out.size _).trans (hY.out.mono (by have := hX.out.size; omega))
                clear hjl
                go_wp2_with fail
                go_roundw
                case rel => exact ⟨k2 + 1, by go_num, by omega, HX2.out⟩
                case measure => simp [intOf]; omega
          · have hlt' : (D.now.length : Int) ≤ k2 := by omega
            have HZ : Hid (Below w.heap.size w V) := HBW.out.trans (hX.out.mono HBW.out.size)
            clear hlt
            go_wp2_with (first
            | (go_at_call 18; refine (off_nil _ _).mono ?_; rintro e wX ⟨rfl, rfl⟩)
            | (go_at_call 16; refine (on_nil _).mono ?_; rintro e wX ⟨rfl, rfl⟩)
            | (go_at_call 19; refine (arm_nil _ _ _).mono ?_; rintro e wX ⟨rfl, rfl⟩)
            | (go_at_call 17; refine (read_nil _ _ _).mono ?_; rintro e wX ⟨rfl, hbX⟩; have HZ := Lib.hid (HZ.out.trans (hbX.mono HZ.out.size)); clear hbX)
            | (go_at_call 20; refine (write_nil _ _ _ _).mono ?_; rintro e wX ⟨rfl, rfl⟩)
            | (go_at_call 21; refine (sync_nil _ _).mono ?_; rintro e wX ⟨rfl, hbX⟩; have HZ := Lib.hid (HZ.out.trans (hbX.mono HZ.out.size)); clear hbX)
            | (go_at_call 22; refine (cut_nil _ _ _).mono ?_; rintro e wX ⟨rfl, hbX⟩; have HZ := Lib.hid (HZ.out.trans (hbX.mono HZ.out.size)); clear hbX)
            | (go_at_call 23; refine (rename_nil _ _ _).mono ?_; rintro e wX ⟨rfl, hbX⟩; have HZ := Lib.hid (HZ.out.trans (hbX.mono HZ.out.size)); clear hbX)
            | (go_at_call 24; refine (remove_nil _ _).mono ?_; rintro e wX ⟨rfl, hbX⟩; have HZ := Lib.hid (HZ.out.trans (hbX.mono HZ.out.size)); clear hbX)
            | (go_at_call 25; refine (names_nil _).mono ?_; rintro e wX ⟨rfl, rfl⟩)
            | (go_at_call 26; refine (acts_nil _).mono ?_; rintro e wX ⟨rfl, rfl⟩)
            | (go_at_call 27; refine (down_nil _).mono ?_; rintro e wX ⟨rfl, rfl⟩)
            | (go_at_call 28; refine (free_nil _).mono ?_; rintro e wX ⟨rfl, rfl⟩)
            | (go_at_call 29; refine (count_nil _ _).mono ?_; rintro e wX ⟨rfl, rfl⟩)
            | (go_at_call 30; refine (has_nil _ _).mono ?_; rintro e wX ⟨rfl, rfl⟩))
            go_ret
            exact ⟨rfl, HZ.out⟩
  · clear hbig
    go_wp2_with fail
    go_ret
    exact ⟨rfl, HBG.out⟩

end Go.Proofs.Ytbepanhndpkdhaa.DiskDoes
