/-
  DiskLoses answers true. Conditions: none.
-/
import Derived.Test.YtpeodhgmflgbgaaDkS
import Derived.Test.YtpeodhgmflgbgaaLosRows
import Derived.Test.YtpeodhgmflgbgaaFlat
import Derived.Test.YtpeodhgmflgbgaaAliveD
import Derived.Test.YtpeodhgmflgbgaaNoughts
import Derived.OpenShut
import Derived.Deep.RegionHeld3
import Derived.Deep.DrawnRows
import Derived.Deep.QuietTactic
import Derived.BigQuiet
namespace Go.Proofs.Ytpeodhgmflgbgaa.DiskLoses
open Go.RowKit Go.Proofs.Ytpeodhgmflgbgaa.Cd

theorem sls_at {w : World} {B n c : Nat} {A : Option Addr} {l : List (List UInt8)} (h : Sls w B (.slice A n c) l) {k : Nat} (hk : k < l.length) :
    ∃ b off A' c', A = some ⟨b, off, none⟩ ∧ b < B ∧ w.cell? ⟨b, off + k, none⟩ = some (.slice A' (l[k]).length c') ∧ Sl w B (.slice A' (l[k]).length c') l[k] ∧ (l[k]).length ≤ c' ∧ c' ≤ 9223372036854775807 := by
  obtain ⟨A0, c0, e, _, _, h5⟩ := h
  injection e with e1 e2 e3
  obtain ⟨b, off, e, hB, hc⟩ := h5 (by omega)
  obtain ⟨u, hu, hsl⟩ := hc k hk
  obtain ⟨A', c', rfl, h6, h7⟩ := hsl.len
  exact ⟨b, off, A', c', e1.trans e, hB, hu, hsl, h6, h7⟩
theorem sls_len {w : World} {B : Nat} {v : Value} {l : List (List UInt8)} (h : Sls w B v l) : ∃ A c, v = .slice A l.length c ∧ l.length ≤ c ∧ c ≤ 9223372036854775807 := by
  obtain ⟨A, c, h1, h2, h3, _⟩ := h
  exact ⟨A, c, h1, h2, h3⟩

theorem region_begin {P : Program} {ops : Array Oper} {Q : Exit → Act → World → Prop} {S : World → Prop} {id : Nat} {a : Act} {w W0 : World} (hW : w.drew = W0) (hm : P.follows .mixedOrders = true) (hS : S W0)
    (h : S W0 → wpAnyH P .any ops Q S ops.size (Array.replicate ops.size false) a W0) : (Code.region id ops true).wp P Q a w := by
  subst hW
  exact wp_region_held_drew hm hS h
theorem page_all {w : World} {g : Nat} {bs : List UInt8} (hl : bs.length = 512) (T : TypeId) (hg : w.heap[g]? = some (.cells (vb bs).toArray T)) : Sl w w.heap.size (.slice (some ⟨g, 0, none⟩) 512 512) bs := by
  refine ⟨_, 512, by rw [hl], by omega, by decide, (fun h => by cases h), fun ad e _ => ?_, fun ad e j u hu => ?_⟩
  · injection e with e
    subst e
    exact (Array.getElem?_eq_some_iff.1 hg).1
  · injection e with e
    subst e
    rw [Addr.add_lit, Nat.zero_add, cell_of_row _ _ _ _ _ _ hg, List.getElem?_toArray]
    exact hu
theorem by_end {p q : Prop} (h : Hid q → p) (hq : q) : p := h hq
theorem take_at {P : Program} {md : Region.Mode} {ops : Array Oper} {Q : Exit → Act → World → Prop} {S : World → Prop} {i fuel : Nat} {listed : Array Bool} {a : Act} {w : World} (v : Value) (d : Option Nat) (h : i < ops.size) (hd : (ops[i]'h).dst = d)
    (hs : Region.noSelect ops = true) (hf : Region.free md ops listed i = true) (hr : (Region.ready md ops listed).contains i = true)
    (hQ : ∀ c a w, Q (.panic c) (a.put d v) w → Q (.panic c) a w) (hw : Region.wanted (ops[i]'h) (yielded ops a.tmps) = true)
    (hy : ∀ W, S W → (execOp a.eval (ops[i]'h)).run P W = .ok (.value v) W) (hS : S w)
    (hrest : wpAnyH P md ops Q S fuel (listed.setIfInBounds i true) (a.put d v) w) : wpAnyH P md ops Q S (fuel + 1) listed a w := by
  subst hd
  exact wpAnyH_take (Array.getElem?_eq_getElem h) hs hf hr hQ (.inl ⟨hw, hy⟩) hS hrest
theorem come {P : Program} {md : Region.Mode} {ops : Array Oper} {Q : Exit → Act → World → Prop} {S : World → Prop} {i fuel : Nat} {listed : Array Bool} {a : Act} {w : World} {rs : List Nat} (v : Value) (w' : World) (d : Option Nat) (h : i < ops.size) (hd : (ops[i]'h).dst = d)
    (hw : Region.wanted (ops[i]'h) (yielded ops a.tmps) = true) (hy : (execOp a.eval (ops[i]'h)).run P w = .ok (.value v) w') (hS : S w')
    (hrest : wpAnyH P md ops Q S fuel (listed.setIfInBounds i true) (a.put d v) w') (hs : AllReadyH P md ops Q S fuel listed a w rs) : AllReadyH P md ops Q S fuel listed a w (i :: rs) := by
  subst hd
  refine AllReadyH.cons (Array.getElem?_eq_getElem h) (fun K' hK => ?_) hs
  rw [if_pos hw]
  unfold Oper.wp
  simp only [hy, Oper.upon]
  exact hK.out _ _ hS (fun _ => hrest)
theorem cell_new2 (W : World) (o1 : Obj) (v : Value) (T : TypeId) : ((W.alloc o1).alloc (.cells #[v] T)).drew.cell? ⟨W.heap.size + 1, 0, none⟩ = some v := by
  have h := heap_alloc_new (W.alloc o1) (.cells #[v] T)
  rw [World.size_alloc] at h
  exact cell_of_row ((W.alloc o1).alloc (.cells #[v] T)).drew (W.heap.size + 1) 0 #[v] T (0, 0) h
theorem pad_nil : pad [] = noughts 512 := by simp only [pad, noughts, List.nil_append, List.length_nil, Nat.sub_zero]
def cur6 (i : Nat) : List (List UInt8) := List.replicate i (pad [])
theorem cur6_len (i : Nat) : (cur6 i).length = i := List.length_replicate
theorem cur6_succ (i : Nat) : cur6 i ++ [pad []] = cur6 (i + 1) := by unfold cur6; rw [List.replicate_succ']
theorem nil_sl (w : World) (B : Nat) : Sl w B (.slice none 0 0) [] := ⟨none, 0, rfl, Nat.le_refl _, by decide, fun _ => rfl, (fun _ h => by cases h), (fun _ h => by cases h)⟩

set_option maxRecDepth 100000 in
set_option maxHeartbeats 8000000 in
theorem main (v0 v1 v2 : Value) (l0 : List Int) (l1 : List (List UInt8)) (l2 : List Bool) (n : Int) (keep : Nat) (w : World) (h0 : Flat (fun n => Value.int .i64 n) w w.heap.size v0 l0) (hwf : ∀ n ∈ l0, (Lit.int .i64 n).wf = true) (h1 : Sls w w.heap.size v1 l1) (h2 : Flat Value.bool w w.heap.size v2 l2)
    (hn : n ≤ 9223372036854775807) (hkeep : keep < 18446744073709551616) (hl0 : l0.length ≤ 40) (hl1 : l0.length ≤ l1.length) (hl2 : l0.length ≤ l2.length) :
    Calls Try.prog 4 #[v0, v1, v2, .int .i64 n, .int .u64 keep] w (Gives (.bool true) w) := by
  obtain ⟨A0, c0, rfl, hc0, hm0⟩ := h0.len
  obtain ⟨A1, c1, rfl, hc1, hm1⟩ := sls_len h1
  obtain ⟨A2, c2, rfl, hc2, hm2⟩ := h2.len
  have H0 := Lib.hid h0
  have H1 := Lib.hid h1
  have H2 := Lib.hid h2
  have HWF := Lib.hid hwf
  have i0 : (l0.length : Int) ≤ 40 := by omega
  have i1 : (l0.length : Int) ≤ l1.length := by omega
  have i2 : (l0.length : Int) ≤ l2.length := by omega
  clear h0 h1 h2 hwf
  go_enter Try.func4, Try.ntmps4
  go_wp2_with fail
  refine (alive_any w).mono ?_
  rintro e w1 ⟨rfl, hb1⟩
  have HB0 := Lib.hid hb1
  clear hb1
  go_wp2_with fail
  refine (new_dks 20 w1 (by omega) (by omega)).mono ?_
  rintro e w2 ⟨g, S0, rfl, hd2, hS2, hb2⟩
  have HD2 := Lib.hid hd2
  have HB2 := Lib.hid hb2
  have HS2 := Lib.hid hS2
  clear hd2 hb2 hS2
  go_wp2_with fail
  go_loopw [12] (fun v wr => ∃ (i : Nat) (D : Dsk) (S : Nat → Prop), v = .int .i64 i ∧ i ≤ 6 ∧ Hid (DkS wr g (4 * i) S D) ∧ Hid (∀ k, S k → w1.heap.size ≤ k) ∧ Hid (Wq D [102] 20 (cur6 i)) ∧ Hid (Below w1.heap.size w1 wr)) (fun v _ => 6 - (intOf v).toNat)
  case atStart => exact ⟨0, newD 20, S0, rfl, by omega, HD2, HS2, ⟨rfl, rfl, rfl, .inl ⟨rfl, rfl⟩, rfl, fun w h => by cases h⟩, HB2⟩
  case round =>
    clear HD2 HS2 HB2
    obtain ⟨i, D, S, rfl, hi, hdk, hS, hwq, hbel⟩ := hrel
    by_cases hlt : i < 6
    · have hlt' : (i : Int) < 6 := by omega
      have W1 := write_dks g (4 * i) S D [102] wr [] i (.slice none 0 0) hdk.out (nil_sl _ _) (fun h => by simp at h) (by simp) (by omega) (by omega)
      have R1 := hwq.out.write (b := []) (by rw [cur6_len]; omega) (by simp)
      rw [cur6_len, cur6_succ] at R1
      generalize writeD D [102] (i : Int) [] = R at W1 R1
      have W1 := Lib.hid W1
      have R1 := Lib.hid R1.2
      clear hwq
      go_wp2_with fail
      refine W1.out.mono ?_
      rintro e w4 ⟨rfl, hd4, ha4⟩
      have hS4 : Hid (∀ k, since S wr w4 k → w1.heap.size ≤ k) := fun k hk => hk.elim (hS.out k) (fun e => Nat.le_trans hbel.out.size e.1)
      have hB4 := Lib.hid (hbel.out.trans (ha4.low hbel.out.size hS.out))
      have hd4 : Hid (DkS w4 g (4 * (i + 1)) (since S wr w4) R.1) := hd4
      clear W1 ha4 hbel hdk hS
      go_wp2_with fail
      go_roundw
      case rel => exact ⟨i + 1, R.1, _, by go_num, by omega, hd4, hS4, R1, hB4⟩
      case measure => simp [intOf]; omega
    · obtain rfl : i = 6 := by omega
      have S1 := fun may hm => hwq.out.six (by simp [cur6]) n keep (may := may) hm
      rw [cur6_len] at S1
      have C1 := Lib.hid (sync_dks g _ S D [102] wr hdk.out (by simp) (by omega))
      generalize syncD D [102] = R at S1 C1
      have S1 := Lib.hid (S1 (fun _ => [noughts 512]) (fun p x hx => by
        unfold cur6 at hx
        rw [List.getElem?_replicate] at hx
        split at hx
        · injection hx with hx; rw [← hx, pad_nil]
        · cases hx))
      clear hwq hdk
      go_wp2_with fail
      refine C1.out.mono ?_
      rintro e w4 ⟨rfl, hd4, ha4⟩
      have hS4 : Hid (∀ k, since S wr w4 k → w1.heap.size ≤ k) := fun k hk => hk.elim (hS.out k) (fun e => Nat.le_trans hbel.out.size e.1)
      have hB4 := Lib.hid (hbel.out.trans (ha4.low hbel.out.size hS.out))
      generalize since S wr w4 = S4 at *
      have A1 := Lib.hid (arm_dks g _ S4 R.1 w4 n keep hd4 hn hkeep)
      generalize armD R.1 n keep = D5 at *
      clear C1 hd4 ha4 hbel hS
      go_wp2_with fail
      refine A1.out.mono ?_
      rintro e w5 ⟨rfl, hd5, ha5⟩
      have hS5 : Hid (∀ k, since S4 w4 w5 k → w1.heap.size ≤ k) := fun k hk => hk.elim (hS4.out k) (fun e => Nat.le_trans hB4.out.size e.1)
      have hB5 := Lib.hid (hB4.out.trans (ha5.low hB4.out.size hS4.out))
      generalize since S4 w4 w5 = S5 at *
      have hd5 := Lib.hid hd5
      clear A1 ha5 hB4 hS4
      go_wp2_with fail
      obtain ⟨m, hm⟩ : ∃ m, w5.heap.size = m := ⟨_, rfl⟩
      rw [hm]
      have hR5 : Hid (SixR (w5.alloc (.cells #[.slice none 0 0, .slice none 0 0, .slice none 0 0, .slice none 0 0, .slice none 0 0, .slice none 0 0] 59)) S5 w1.heap.size m 0 (fun _ => [noughts 512])) := by
        subst hm
        exact ⟨_, fun _ => 0, heap_alloc_new _ _, rfl, hB5.out.size, fun h => Nat.lt_irrefl _ (hd5.out.lt _ h), fun k hk => absurd hk (Nat.not_lt_zero _), fun j k hj => absurd hj (Nat.not_lt_zero _)⟩
      have hd6 : Hid (DkS (w5.alloc (.cells #[.slice none 0 0, .slice none 0 0, .slice none 0 0, .slice none 0 0, .slice none 0 0, .slice none 0 0] 59)) g 28 S5 D5) := hd5.out.below ((Below.refl _ _).alloc (Nat.le_refl _) _)
      have hB6 : Hid (Below w1.heap.size w1 (w5.alloc (.cells #[.slice none 0 0, .slice none 0 0, .slice none 0 0, .slice none 0 0, .slice none 0 0, .slice none 0 0] 59))) := hB5.out.alloc hB5.out.size _
      clear hd5 hB5
      generalize w5.alloc (.cells #[.slice none 0 0, .slice none 0 0, .slice none 0 0, .slice none 0 0, .slice none 0 0, .slice none 0 0] 59) = w6 at *
      go_loopw [58] (fun v wr => ∃ i : Nat, v = .int .i64 i ∧ i ≤ 6 ∧ Hid (SixR wr S5 w1.heap.size m i (fun _ => [noughts 512])) ∧ Hid (DkS wr g 28 S5 D5) ∧ Hid (Below w1.heap.size w1 wr)) (fun v _ => 6 - (intOf v).toNat)
      case atStart => exact ⟨0, rfl, by omega, hR5, hd6, hB6⟩
      case round =>
        clear hR5 hd6 hB6
        obtain ⟨i, rfl, hi, hR, hd, hB⟩ := hrel
        by_cases hlt : i < 6
        · have hlt' : (i : Int) < 6 := by omega
          have hmk : ∀ W, (Instr.makeSlice 29 (.int .i64 512) (.int .i64 512)).run Try.prog W = .ok (.slice (some ⟨W.heap.size, 0, none⟩) 512 512) (W.alloc (.cells (vb (noughts 512)).toArray 5)) := fun W => make_bytes 512 (by omega) W
          have hcv := fun W => text_noughts W 512 (by omega) _ rfl
          have hb : Below wr.heap.size wr ((wr.alloc (.cells (vb (noughts 512)).toArray 5)).alloc (.cells #[.string ⟨(noughts 512).toArray⟩] 9)) := ((Below.refl _ _).alloc (Nat.le_refl _) _).alloc (by simp) _
          obtain ⟨u, hu⟩ := (hR.out.below hb).cell_some hlt
          have hfz := (hR.out.below hb).frozen i
          have hb := Lib.hid hb
          go_wp2_with fail
          go_roundw
          case rel =>
            have ht := txt_one (wr.alloc (.cells (vb (noughts 512)).toArray 5)) (noughts 512)
            rw [World.size_alloc] at ht
            have hR2 := hR.out.push hlt hb.out (v' := .slice (some ⟨wr.heap.size + 1, 0, none⟩) 1 1) (b' := wr.heap.size + 1) ht (by omega) hB.out.size hd.out.lt
            have hbs := Below.setCell (Below.refl m ((wr.alloc (.cells (vb (noughts 512)).toArray 5)).alloc (.cells #[.string ⟨(noughts 512).toArray⟩] 9))) (p := ⟨m, i, none⟩) (Nat.le_refl _) (.slice (some ⟨wr.heap.size + 1, 0, none⟩) 1 1)
            refine ⟨i + 1, by go_num, by omega, hR2, ?_, (hB.out.trans (hb.out.mono hB.out.size)).trans (hbs.mono hR.out.low)⟩
            refine DkS.apart (T := fun k => k = m) (hd.out.below hb.out) ⟨rfl, rfl, rfl, by simp, fun k _ hk => heap_setCell_other _ _ _ _ hk⟩ (fun k hk e => hR.out.out (by rw [← e]; exact hk))
          case measure => simp [intOf]; omega
        · obtain rfl : i = 6 := by omega
          go_wp2_with fail
          go_loopw [69] (fun v wr => ∃ (i : Nat) (D : Dsk) (S : Nat → Prop) (may : Nat → List (List UInt8)), v = .int .i64 i ∧ i ≤ l0.length ∧ Hid (DkS wr g (28 + 8 * i) S D) ∧ Hid (∀ k, S k → w1.heap.size ≤ k) ∧ Hid (SixR wr S w1.heap.size m 6 may) ∧
            Hid (Six D [102] 6 may) ∧ Hid (∀ k, (may k).length ≤ 1 + i) ∧ Hid (Below w1.heap.size w1 wr)) (fun v _ => l0.length - (intOf v).toNat)
          case atStart => exact ⟨0, D5, S5, _, rfl, by omega, hd, hS5, hR, S1, (fun k => Nat.le_refl _), hB⟩
          case round =>
            clear hd hS5 hR S1 hB
            obtain ⟨i, D, S, may, rfl, hi, hd, hS, hR, h6, hlen, hB⟩ := hrel
            by_cases hlt : i < l0.length
            · have hlt' : (i : Int) < l0.length := by omega
              have BB := Lib.hid (HB0.out.trans (hB.out.mono HB0.out.size))
              obtain ⟨pb, po, hA0, hpb, hpc⟩ := (H0.out.below BB.out).at hlt
              obtain ⟨sb, so, A', c', hA1, hsb, hsc0, hsl, hlc, hcm⟩ := sls_at H1.out (show i < l1.length by omega)
              obtain ⟨tb, to, hA2, htb, htc0⟩ := H2.out.at (show i < l2.length by omega)
              have hsc := (BB.out.cell (p := ⟨sb, so + i, none⟩) hsb).trans hsc0
              have htc := (BB.out.cell (p := ⟨tb, to + i, none⟩) htb).trans htc0
              have hpw := HWF.out _ (List.getElem_mem hlt)
              generalize l0[i] = p at *
              generalize l1[i] = s at *
              generalize l2[i] = sy at *
              subst hA0 hA1 hA2
              have HSL := Lib.hid hsl
              have hsc0 := Lib.hid hsc0
              have htc0 := Lib.hid htc0
              clear hsl
              by_cases hbad : p < 0 ∨ (¬ p < 0 ∧ 5 < p) ∨ (¬ p < 0 ∧ ¬ 5 < p ∧ 512 < s.length)
              · clear hd hS hR h6 hlen
                rcases hbad with h | ⟨h, h'⟩ | ⟨h, h', h2⟩
                all_goals
                  go_wp2_with fail
                  go_ret
                  exact ⟨rfl, BB.out⟩
              · obtain ⟨q, rfl⟩ := Int.eq_ofNat_of_zero_le (a := p) (by omega)
                have hq : q < 6 := by omega
                have hsl2 : s.length ≤ 512 := by omega
                have hsl3 : (s.length : Int) ≤ 512 := by omega
                clear hbad
                have W1 := write_dks g (28 + 8 * i) S D [102] wr s q (.slice A' s.length c') hd.out ((HSL.out.below BB.out).more BB.out.size) (fun h0 A n c e hA => by
                  obtain ⟨A2, c2, e2, _, _, _, hlt2, _⟩ := HSL.out
                  rw [e] at e2
                  injection e2 with e2
                  have k1 := hlt2 A e2.symm h0
                  have k2 := hS.out _ hA
                  have := HB0.out.size
                  omega) (by simp) (by omega) (by omega)
                have R1 := h6.out.write hq hsl2
                generalize writeD D [102] (q : Int) s = R at W1 R1
                obtain ⟨ne, hne⟩ : ∃ x, R.2 = x := ⟨_, rfl⟩
                rw [hne] at W1 R1
                have W1 := Lib.hid W1
                have R1 := Lib.hid R1
                clear h6 hne
                go_wp2_with fail
                refine W1.out.mono ?_
                rintro e w4 ⟨rfl, hd4, ha4⟩
                have hR4 := Lib.hid (hR.out.disk ha4)
                have hS4 : Hid (∀ k, since S wr w4 k → w1.heap.size ≤ k) := fun k hk => hk.elim (hS.out k) (fun e => Nat.le_trans hB.out.size e.1)
                have hB4 := Lib.hid (hB.out.trans (ha4.low hB.out.size hS.out))
                have BB4 := Lib.hid (HB0.out.trans (hB4.out.mono HB0.out.size))
                generalize since S wr w4 = S4 at *
                have hd4 := Lib.hid hd4
                clear W1 ha4 hd hS hR hB BB hsc htc hpc
                have hsc : w4.cell? ⟨sb, so + i, none⟩ = some (.slice A' s.length c') := (BB4.out.cell (p := ⟨sb, so + i, none⟩) hsb).trans hsc0.out
                have htc : w4.cell? ⟨tb, to + i, none⟩ = some (.bool sy) := (BB4.out.cell (p := ⟨tb, to + i, none⟩) htb).trans htc0.out
                obtain ⟨b, o, c, hcell, htxt, hlc2, hcm2, hBb, hbm, hbS⟩ := hR4.out.at hq (by omega)
                have hfz := hR4.out.frozen q
                have HT := Lib.hid htxt
                have hmlt := Lib.hid hR4.out.lt
                have hlq := hlen.out q
                have KS : Hid (∀ W, Below w4.heap.size w4 W → W.cell? ⟨m, q, none⟩ = some (.slice (some ⟨b, o, none⟩) (may q).length c) ∧ W.cell? ⟨sb, so + i, none⟩ = some (.slice A' s.length c') ∧ (convert 29 9 (.slice A' s.length c')).run Try.prog W = .ok (.string ⟨s.toArray⟩) W) := fun W hW =>
                  ⟨(hW.cell (p := ⟨m, q, none⟩) hmlt.out).trans hcell, (hW.cell (p := ⟨sb, so + i, none⟩) (by have := BB4.out.size; show sb < w4.heap.size; omega)).trans hsc, run_text_of _ _ _ _ (HSL.out.below (BB4.out.trans (hW.mono BB4.out.size)))⟩
                have KA : Hid (∀ W w', Below w4.heap.size w4 W → Apart (fun k => k = b) W w' → w'.cell? ⟨m, q, none⟩ = some (.slice (some ⟨b, o, none⟩) (may q).length c) ∧ w'.cell? ⟨sb, so + i, none⟩ = some (.slice A' s.length c') ∧ (convert 29 9 (.slice A' s.length c')).run Try.prog w' = .ok (.string ⟨s.toArray⟩) w') := fun W w' hW ha =>
                  ⟨(ha.cell (p := ⟨m, q, none⟩) (Nat.lt_of_lt_of_le hmlt.out hW.size) (fun e => hbm e.symm)).trans (KS.out W hW).1,
                    (ha.cell (p := ⟨sb, so + i, none⟩) (by have := BB4.out.size; have := hW.size; show sb < W.heap.size; omega) (fun e => by have e : sb = b := e; have := HB0.out.size; omega)).trans (KS.out W hW).2.1,
                    run_text_of _ _ _ _ (HSL.out.below ((BB4.out.trans (hW.mono BB4.out.size)).trans (ha.low (by have := BB4.out.size; have := hW.size; omega) (fun k e => by have := HB0.out.size; omega))))⟩
                have HTb : Hid (∀ W, Below w4.heap.size w4 W → Txt W b (.slice (some ⟨b, o, none⟩) (may q).length c) (may q)) := fun W hW => HT.out.heap (hW.block _ HT.out.lt)
                have hmk : ∀ W, (Instr.makeSlice 29 (.int .i64 (512 - (s.length : Int))) (.int .i64 (512 - (s.length : Int)))).run Try.prog W = .ok (.slice (some ⟨W.heap.size, 0, none⟩) (512 - s.length) (512 - s.length)) (W.alloc (.cells (vb (noughts (512 - s.length))).toArray 5)) := fun W => by
                  have := make_bytes (512 - s.length) (by omega) W
                  rw [show ((512 - s.length : Nat) : Int) = 512 - (s.length : Int) by omega] at this
                  exact this
                have hcv := fun W => text_noughts W (512 - s.length) (by omega) _ rfl
                have hcv2 := fun W : World => text_noughts2 W (512 - s.length) (by omega)
                have hadd := fun W => add_text W s (noughts (512 - s.length)) (by rw [noughts_len]; omega)
                have hwrap : IntKind.i64.wrap (512 - (s.length : Int)) = 512 - (s.length : Int) := by rw [IntKind.wrap_i64]; omega
                have hq1 : (0 : Int) ≤ (q : Int) := Int.natCast_nonneg q
                have hq2 : (q : Int) < 6 := by omega
                have hi0 : (0 : Int) ≤ (i : Int) := Int.natCast_nonneg i
                have hi1 : (i : Int) < l1.length := by omega
                have hi2 : (i : Int) < l2.length := by omega
                have hi3 : i < l1.length := by omega
                clear htxt
                go_wp2_with fail
                have hb0 : Below w4.heap.size w4 w4.drew := (Below.refl _ _).drew
                obtain ⟨W0, hW0⟩ : ∃ x, w4.drew = x := ⟨_, rfl⟩
                rw [hW0] at hb0
                refine region_begin hW0 (S := fun W => W.cell? ⟨sb, so + i, none⟩ = some (.slice A' s.length c') ∧ (convert 29 9 (.slice A' s.length c')).run Try.prog W = .ok (.string ⟨s.toArray⟩) W) (by kernel_rfl) (KS.out _ hb0).2 (fun hHeld => ?_)
                clear hW0
                refine take_at (i := 0) (.int .i64 q) (some 95) (by decide) (by rfl) (by kernel_rfl) (by kernel_rfl) (by kernel_rfl) (fun _ _ _ h => h) (by rfl) (fun W hW => by obtain ⟨hW1, hW2⟩ := hW; go_simp) (by assumption) ?_
                simp only [Act.put, List.setIfInBounds_toArray, List.set_cons_zero, List.set_cons_succ]
                refine take_at (i := 1) (.int .i64 q) (some 96) (by decide) (by rfl) (by kernel_rfl) (by kernel_rfl) (by kernel_rfl) (fun _ _ _ h => h) (by rfl) (fun W hW => by obtain ⟨hW1, hW2⟩ := hW; go_simp) (by assumption) ?_
                simp only [Act.put, List.setIfInBounds_toArray, List.set_cons_zero, List.set_cons_succ]
                refine take_at (i := 2) (.pointer (some ⟨m, q, none⟩)) (some 97) (by decide) (by rfl) (by kernel_rfl) (by kernel_rfl) (by kernel_rfl) (fun _ _ _ h => h) (by rfl) (fun W hW => by obtain ⟨hW1, hW2⟩ := hW; go_simp) (by assumption) ?_
                simp only [Act.put, List.setIfInBounds_toArray, List.set_cons_zero, List.set_cons_succ]
                refine take_at (i := 4) (.slice (some ⟨sb, so, none⟩) l1.length c1) (some 99) (by decide) (by rfl) (by kernel_rfl) (by kernel_rfl) (by kernel_rfl) (fun _ _ _ h => h) (by rfl) (fun W hW => by obtain ⟨hW1, hW2⟩ := hW; go_simp) (by assumption) ?_
                simp only [Act.put, List.setIfInBounds_toArray, List.set_cons_zero, List.set_cons_succ]
                refine take_at (i := 5) (.int .i64 i) (some 100) (by decide) (by rfl) (by kernel_rfl) (by kernel_rfl) (by kernel_rfl) (fun _ _ _ h => h) (by rfl) (fun W hW => by obtain ⟨hW1, hW2⟩ := hW; go_simp) (by assumption) ?_
                simp only [Act.put, List.setIfInBounds_toArray, List.set_cons_zero, List.set_cons_succ]
                refine take_at (i := 6) (.pointer (some ⟨sb, so + i, none⟩)) (some 101) (by decide) (by rfl) (by kernel_rfl) (by kernel_rfl) (by kernel_rfl) (fun _ _ _ h => h) (by rfl) (fun W hW => by obtain ⟨hW1, hW2⟩ := hW; go_simp) (by assumption) ?_
                simp only [Act.put, List.setIfInBounds_toArray, List.set_cons_zero, List.set_cons_succ]
                refine take_at (i := 7) (.slice A' s.length c') (some 102) (by decide) (by rfl) (by kernel_rfl) (by kernel_rfl) (by kernel_rfl) (fun _ _ _ h => h) (by rfl) (fun W hW => by obtain ⟨hW1, hW2⟩ := hW; go_simp) (by assumption) ?_
                simp only [Act.put, List.setIfInBounds_toArray, List.set_cons_zero, List.set_cons_succ]
                refine take_at (i := 8) (.string ⟨s.toArray⟩) (some 103) (by decide) (by rfl) (by kernel_rfl) (by kernel_rfl) (by kernel_rfl) (fun _ _ _ h => h) (by rfl) (fun W hW => by obtain ⟨hW1, hW2⟩ := hW; go_simp) (by assumption) ?_
                simp only [Act.put, List.setIfInBounds_toArray, List.set_cons_zero, List.set_cons_succ]
                refine take_at (i := 9) (.slice (some ⟨sb, so, none⟩) l1.length c1) (some 104) (by decide) (by rfl) (by kernel_rfl) (by kernel_rfl) (by kernel_rfl) (fun _ _ _ h => h) (by rfl) (fun W hW => by obtain ⟨hW1, hW2⟩ := hW; go_simp) (by assumption) ?_
                simp only [Act.put, List.setIfInBounds_toArray, List.set_cons_zero, List.set_cons_succ]
                refine take_at (i := 10) (.int .i64 i) (some 105) (by decide) (by rfl) (by kernel_rfl) (by kernel_rfl) (by kernel_rfl) (fun _ _ _ h => h) (by rfl) (fun W hW => by obtain ⟨hW1, hW2⟩ := hW; go_simp) (by assumption) ?_
                simp only [Act.put, List.setIfInBounds_toArray, List.set_cons_zero, List.set_cons_succ]
                refine take_at (i := 11) (.pointer (some ⟨sb, so + i, none⟩)) (some 106) (by decide) (by rfl) (by kernel_rfl) (by kernel_rfl) (by kernel_rfl) (fun _ _ _ h => h) (by rfl) (fun W hW => by obtain ⟨hW1, hW2⟩ := hW; go_simp) (by assumption) ?_
                simp only [Act.put, List.setIfInBounds_toArray, List.set_cons_zero, List.set_cons_succ]
                refine take_at (i := 12) (.slice A' s.length c') (some 107) (by decide) (by rfl) (by kernel_rfl) (by kernel_rfl) (by kernel_rfl) (fun _ _ _ h => h) (by rfl) (fun W hW => by obtain ⟨hW1, hW2⟩ := hW; go_simp) (by assumption) ?_
                simp only [Act.put, List.setIfInBounds_toArray, List.set_cons_zero, List.set_cons_succ]
                refine take_at (i := 13) (.int .i64 s.length) (some 108) (by decide) (by rfl) (by kernel_rfl) (by kernel_rfl) (by kernel_rfl) (fun _ _ _ h => h) (by rfl) (fun W hW => by obtain ⟨hW1, hW2⟩ := hW; go_simp) (by assumption) ?_
                simp only [Act.put, List.setIfInBounds_toArray, List.set_cons_zero, List.set_cons_succ]
                refine take_at (i := 14) (.int .i64 (512 - (s.length : Int))) (some 109) (by decide) (by rfl) (by kernel_rfl) (by kernel_rfl) (by kernel_rfl) (fun _ _ _ h => h) (by rfl) (fun W hW => by obtain ⟨hW1, hW2⟩ := hW; go_simp) (by assumption) ?_
                simp only [Act.put, List.setIfInBounds_toArray, List.set_cons_zero, List.set_cons_succ]
                obtain ⟨W1, hW1⟩ : ∃ x, W0.alloc (.cells (vb (noughts (512 - s.length))).toArray 5) = x := ⟨_, rfl⟩
                obtain ⟨W2, hW2⟩ : ∃ x, W1.alloc (.cells #[.string ⟨(s ++ noughts (512 - s.length)).toArray⟩] 9) = x := ⟨_, rfl⟩
                have hb1 : Below w4.heap.size w4 W1 := by rw [← hW1]; exact hb0.alloc hb0.size _
                have hb2 : Below w4.heap.size w4 W2 := by rw [← hW2]; exact hb1.alloc hb1.size _
                have h2c : W2.cell? ⟨W1.heap.size, 0, none⟩ = some (.string ⟨(s ++ noughts (512 - s.length)).toArray⟩) := by rw [← hW2]; exact cell_of_row _ _ _ _ _ _ (heap_alloc_new _ _)
                have hmk1 := hmk W0
                have hcv1 := hcv W0
                rw [hW1] at hmk1 hcv1
                have k0 := KS.out _ hb0
                have k1 := KS.out _ hb1
                have k2 := KS.out _ hb2
                have e0 := k0.1
                have e1 := k1.1
                have e2 := k2.1
                have HK := Lib.hid (And.intro k0.2 (And.intro k1.2 k2.2))
                clear hmk hcv hcv2 k0 k1 k2 hW1
                refine' by_end (q := _) (fun hfin => ?main) ?fin
                case main =>
                  refine wpAnyH_ready (rs := [3, 15]) (by kernel_rfl) (by simp) ?_
                  refine come (i := 3) (.slice (some ⟨b, o, none⟩) (may q).length c) W0 (some 98) (by decide) (by rfl) (by rfl) (by go_simp) HK.out.1 ?_ ?_
                  · simp only [Act.put, List.setIfInBounds_toArray, List.set_cons_zero, List.set_cons_succ]
                    refine wpAnyH_ready (rs := [15]) (by kernel_rfl) (by simp) ?_
                    refine come (i := 15) (.slice (some ⟨W0.heap.size, 0, none⟩) (512 - s.length) (512 - s.length)) W1 (some 110) (by decide) (by rfl) (by rfl) (by go_simp) HK.out.2.1 ?_ ?_
                    · simp only [Act.put, List.setIfInBounds_toArray, List.set_cons_zero, List.set_cons_succ]
                      refine wpAnyH_ready (rs := [16]) (by kernel_rfl) (by simp) ?_
                      refine come (i := 16) (.string ⟨(noughts (512 - s.length)).toArray⟩) W1 (some 111) (by decide) (by rfl) (by rfl) (by go_simp) HK.out.2.1 ?_ ?_
                      · simp only [Act.put, List.setIfInBounds_toArray, List.set_cons_zero, List.set_cons_succ]
                        refine take_at (i := 17) (.string ⟨(s ++ noughts (512 - s.length)).toArray⟩) (some 112) (by decide) (by rfl) (by kernel_rfl) (by kernel_rfl) (by kernel_rfl) (fun _ _ _ h => h) (by rfl) (fun W hW => by obtain ⟨hW1, hW2⟩ := hW; go_simp) HK.out.2.1 ?_
                        simp only [Act.put, List.setIfInBounds_toArray, List.set_cons_zero, List.set_cons_succ]
                        refine wpAnyH_ready (rs := [18]) (by kernel_rfl) (by simp) ?_
                        refine come (i := 18) (.slice (some ⟨W1.heap.size, 0, none⟩) 1 1) W2 (some 113) (by decide) (by rfl) (by rfl) (by go_simp) HK.out.2.2 ?_ ?_
                        · simp only [Act.put, List.setIfInBounds_toArray, List.set_cons_zero, List.set_cons_succ]
                          exact hfin.out
                        exact AllReadyH.nil
                      exact AllReadyH.nil
                    exact AllReadyH.nil
                  refine come (i := 15) (.slice (some ⟨W0.heap.size, 0, none⟩) (512 - s.length) (512 - s.length)) W1 (some 110) (by decide) (by rfl) (by rfl) (by go_simp) HK.out.2.1 ?_ ?_
                  · simp only [Act.put, List.setIfInBounds_toArray, List.set_cons_zero, List.set_cons_succ]
                    refine wpAnyH_ready (rs := [3, 16]) (by kernel_rfl) (by simp) ?_
                    refine come (i := 3) (.slice (some ⟨b, o, none⟩) (may q).length c) W1 (some 98) (by decide) (by rfl) (by rfl) (by go_simp) HK.out.2.1 ?_ ?_
                    · simp only [Act.put, List.setIfInBounds_toArray, List.set_cons_zero, List.set_cons_succ]
                      refine wpAnyH_ready (rs := [16]) (by kernel_rfl) (by simp) ?_
                      refine come (i := 16) (.string ⟨(noughts (512 - s.length)).toArray⟩) W1 (some 111) (by decide) (by rfl) (by rfl) (by go_simp) HK.out.2.1 ?_ ?_
                      · simp only [Act.put, List.setIfInBounds_toArray, List.set_cons_zero, List.set_cons_succ]
                        refine take_at (i := 17) (.string ⟨(s ++ noughts (512 - s.length)).toArray⟩) (some 112) (by decide) (by rfl) (by kernel_rfl) (by kernel_rfl) (by kernel_rfl) (fun _ _ _ h => h) (by rfl) (fun W hW => by obtain ⟨hW1, hW2⟩ := hW; go_simp) HK.out.2.1 ?_
                        simp only [Act.put, List.setIfInBounds_toArray, List.set_cons_zero, List.set_cons_succ]
                        refine wpAnyH_ready (rs := [18]) (by kernel_rfl) (by simp) ?_
                        refine come (i := 18) (.slice (some ⟨W1.heap.size, 0, none⟩) 1 1) W2 (some 113) (by decide) (by rfl) (by rfl) (by go_simp) HK.out.2.2 ?_ ?_
                        · simp only [Act.put, List.setIfInBounds_toArray, List.set_cons_zero, List.set_cons_succ]
                          exact hfin.out
                        exact AllReadyH.nil
                      exact AllReadyH.nil
                    refine come (i := 16) (.string ⟨(noughts (512 - s.length)).toArray⟩) W1 (some 111) (by decide) (by rfl) (by rfl) (by go_simp) HK.out.2.1 ?_ ?_
                    · simp only [Act.put, List.setIfInBounds_toArray, List.set_cons_zero, List.set_cons_succ]
                      refine take_at (i := 17) (.string ⟨(s ++ noughts (512 - s.length)).toArray⟩) (some 112) (by decide) (by rfl) (by kernel_rfl) (by kernel_rfl) (by kernel_rfl) (fun _ _ _ h => h) (by rfl) (fun W hW => by obtain ⟨hW1, hW2⟩ := hW; go_simp) HK.out.2.1 ?_
                      simp only [Act.put, List.setIfInBounds_toArray, List.set_cons_zero, List.set_cons_succ]
                      refine wpAnyH_ready (rs := [3, 18]) (by kernel_rfl) (by simp) ?_
                      refine come (i := 3) (.slice (some ⟨b, o, none⟩) (may q).length c) W1 (some 98) (by decide) (by rfl) (by rfl) (by go_simp) HK.out.2.1 ?_ ?_
                      · simp only [Act.put, List.setIfInBounds_toArray, List.set_cons_zero, List.set_cons_succ]
                        refine wpAnyH_ready (rs := [18]) (by kernel_rfl) (by simp) ?_
                        refine come (i := 18) (.slice (some ⟨W1.heap.size, 0, none⟩) 1 1) W2 (some 113) (by decide) (by rfl) (by rfl) (by go_simp) HK.out.2.2 ?_ ?_
                        · simp only [Act.put, List.setIfInBounds_toArray, List.set_cons_zero, List.set_cons_succ]
                          exact hfin.out
                        exact AllReadyH.nil
                      refine come (i := 18) (.slice (some ⟨W1.heap.size, 0, none⟩) 1 1) W2 (some 113) (by decide) (by rfl) (by rfl) (by go_simp) HK.out.2.2 ?_ ?_
                      · simp only [Act.put, List.setIfInBounds_toArray, List.set_cons_zero, List.set_cons_succ]
                        refine wpAnyH_ready (rs := [3]) (by kernel_rfl) (by simp) ?_
                        refine come (i := 3) (.slice (some ⟨b, o, none⟩) (may q).length c) W2 (some 98) (by decide) (by rfl) (by rfl) (by go_simp) HK.out.2.2 ?_ ?_
                        · simp only [Act.put, List.setIfInBounds_toArray, List.set_cons_zero, List.set_cons_succ]
                          exact hfin.out
                        exact AllReadyH.nil
                      exact AllReadyH.nil
                    exact AllReadyH.nil
                  exact AllReadyH.nil
                case fin =>
                  refine wpAnyH_ready (rs := [19]) (by kernel_rfl) (by simp) ?_
                  refine AllReadyH.cons (Array.getElem?_eq_getElem (by decide)) (fun K hK => ?_) AllReadyH.nil
                  refine step_append_row (by rfl) (.tmp 98) (.tmp 113) (by rfl) (b := b) (l := may q) (v := .slice (some ⟨b, o, none⟩) (may q).length c) (by rfl) (HTb.out _ hb2) (s ++ noughts (512 - s.length)) ⟨W1.heap.size, 0, none⟩ 1 (by rfl) h2c (by omega) ?_
                  intro v5 w5 b5 ht5 hb5 ha5
                  obtain ⟨o5, c5, hv5, hlc5, hcm5⟩ := ht5.len
                  obtain ⟨n5, hn5⟩ : ∃ x, (may q ++ [s ++ noughts (512 - s.length)]).length = x := ⟨_, rfl⟩
                  rw [hn5] at hv5
                  subst hv5
                  have s5 := KA.out _ _ hb2 ha5
                  refine hK.out _ _ s5.2 (fun hHeld5 => ?_)
                  clear hK
                  simp only [Act.put, List.setIfInBounds_toArray, List.set_cons_zero, List.set_cons_succ]
                  refine take_at (i := 20) (.pointer (some ⟨m, q, none⟩)) (some 115) (by decide) (by rfl) (by kernel_rfl) (by kernel_rfl) (by kernel_rfl) (fun _ _ _ h => h) (by rfl) (fun W hW => by obtain ⟨hW1, hW2⟩ := hW; go_simp) s5.2 ?_
                  simp only [Act.put, List.setIfInBounds_toArray, List.set_cons_zero, List.set_cons_succ]
                  refine wpAnyH_ready (rs := [21]) (by kernel_rfl) (by simp) ?_
                  refine AllReadyH.cons (Array.getElem?_eq_getElem (by decide)) (fun K hK => ?_) AllReadyH.nil
                  have f5 : w5.frozen? ⟨m, q, none⟩ = false := by
                    have e := (ha5.block m (Nat.lt_of_lt_of_le hmlt.out hb2.size) (fun e => hbm e.symm)).trans (hb2.block m hmlt.out)
                    have f4 := hR4.out.frozen q
                    unfold World.frozen? at f4 ⊢
                    rw [e]
                    exact f4
                  have c5' := s5.1
                  have hB5 : Below w.heap.size w w5 := (BB4.out.trans (hb2.mono BB4.out.size)).trans (ha5.low (by have := BB4.out.size; have := hb2.size; omega) (fun k e => by have := HB0.out.size; omega))
                  have hB6 : Below w.heap.size w (w5.setCell ⟨m, q, none⟩ (.slice (some ⟨b5, o5, none⟩) n5 c5)) := hB5.setCell (p := ⟨m, q, none⟩) (by have := HB0.out.size; have := hR4.out.low; show w.heap.size ≤ m; omega) _
                  have s6 := And.intro ((hB6.cell (p := ⟨sb, so + i, none⟩) hsb).trans hsc0.out) (run_text_of _ _ _ _ (HSL.out.below hB6))
                  have HS6 := Lib.hid s6
                  have hB5 := Lib.hid hB5
                  have hR6 : Hid (SixR (w5.setCell ⟨m, q, none⟩ (.slice (some ⟨b5, o5, none⟩) n5 c5)) S4 w1.heap.size m 6 (more may q (pad s))) := by
                    have h := (hR4.out.below hb2).put hq (by omega) (KS.out _ hb2).1 ha5 ht5 hb5 (by have := hB4.out.size; have := hb2.size; omega) (fun k hk => Nat.lt_of_lt_of_le (hd4.out.lt k hk) hb2.size)
                    have e : (fun k => if k = q then may q ++ [s ++ noughts (512 - s.length)] else may k) = more may q (pad s) := by
                      funext k
                      unfold more
                      by_cases e : k = q
                      · rw [if_pos e, if_pos e, e]; rfl
                      · rw [if_neg e, if_neg e]
                    rw [e] at h
                    exact h
                  have hd6 : Hid (DkS (w5.setCell ⟨m, q, none⟩ (.slice (some ⟨b5, o5, none⟩) n5 c5)) g (28 + 8 * i + 4) S4 R.1) :=
                    DkS.apart (T := fun k => k = m) ((hd4.out.below hb2).apart ha5 (fun k hk e => hbS (by rw [← e]; exact hk))) ⟨rfl, rfl, rfl, by simp, fun k _ hk => heap_setCell_other _ _ _ _ hk⟩ (fun k hk e => hR4.out.out (by rw [← e]; exact hk))
                  have hB7 : Hid (Below w1.heap.size w1 (w5.setCell ⟨m, q, none⟩ (.slice (some ⟨b5, o5, none⟩) n5 c5))) :=
                    ((hB4.out.trans (hb2.mono hB4.out.size)).trans (ha5.low (by have := hB4.out.size; have := hb2.size; omega) (fun k e => by omega))).setCell (p := ⟨m, q, none⟩) hR4.out.low _
                  have htc6 := (hB6.cell (p := ⟨tb, to + i, none⟩) htb).trans htc0.out
                  clear s5 s6 hB6 hB5 ht5 hb5 ha5 KS KA HTb HK
                  go_simp
                  refine hK.out _ _ HS6.out (fun _ => ?_)
                  refine wpAnyH_done (by kernel_rfl) ?_ _
                  clear hK HS6 hHeld hHeld5 f5 c5' h2c hmk1 hcv1 hadd
                  have e' : (∀ k, (more may q (pad s) k).length ≤ 1 + (i + 1)) := fun k => by
                    have := hlen.out k
                    unfold more
                    split
                    · rw [List.length_append]; simp only [List.length_singleton]; omega
                    · omega
                  have HL6 := Lib.hid e'
                  generalize w5.setCell ⟨m, q, none⟩ (.slice (some ⟨b5, o5, none⟩) n5 c5) = w6 at *
                  generalize more may q (pad s) = may2 at *
                  clear e' hlq hn5
                  rcases R1.out with ⟨rfl, h6⟩ | ⟨rfl, hgone⟩
                  · have h6 := Lib.hid h6
                    cases sy
                    · clear hsc
                      go_wp2_with fail
                      refine ⟨?_, ?measure⟩
                      repeat apply Exists.intro
                      refine ⟨?rel, rfl⟩
                      case rel => exact ⟨i + 1, R.1, S4, may2, by go_num, by omega, hd6.out.mono (by omega) (by omega), hS4, hR6, h6, HL6, hB7⟩
                      case measure => simp [intOf]; omega
                    · have C1 := sync_dks g (28 + 8 * i + 4) S4 R.1 [102] w6 hd6.out (by simp) (by omega)
                      have Y1 := h6.out.sync
                      have h1l : ∀ k, k < 6 → 1 ≤ (may2 k).length := fun k hk => by
                        have hl := h6.out.len
                        have := h6.out.last k _ (List.getElem?_eq_getElem (show k < (pagesF R.1.now [102]).length by omega))
                        cases hm : may2 k with
                        | nil => rw [hm] at this; cases this
                        | cons a r => simp
                      have H1L := Lib.hid h1l
                      clear h1l
                      generalize syncD R.1 [102] = R' at C1 Y1
                      rcases Y1 with ⟨y1, y2⟩ | ⟨y1, y2⟩
                      · rw [y1] at C1
                        have C1 := Lib.hid C1
                        have Y2 : Hid (Six R'.1 [102] 6 (lasts may2 6)) := (y2 (fun k => (may2 k).drop ((may2 k).length - 1)) (fun p x hx => last_drop hx)).cong (fun p hp => by unfold lasts; rw [if_pos hp])
                        clear y1 y2 h6 hsc
                        go_wp2_with fail
                        refine C1.out.mono ?_
                        rintro e w7 ⟨rfl, hd7, ha7⟩
                        have hR7 := Lib.hid (hR6.out.disk ha7)
                        have hS7 : Hid (∀ k, since S4 w6 w7 k → w1.heap.size ≤ k) := fun k hk => hk.elim (hS4.out k) (fun e => Nat.le_trans hB7.out.size e.1)
                        have hB8 := Lib.hid (hB7.out.trans (ha7.low hB7.out.size hS4.out))
                        generalize since S4 w6 w7 = S7 at *
                        have hd7 : Hid (DkS w7 g (28 + 8 * (i + 1)) S7 R'.1) := hd7
                        clear C1 ha7 hR6 hS4 hB7 hd6
                        rw [← lasts_zero may2] at hR7
                        go_wp2_with fail
                        go_loopw [128] (fun v wr => ∃ k : Nat, v = .int .i64 k ∧ k ≤ 6 ∧ Hid (DkS wr g (28 + 8 * (i + 1)) S7 R'.1) ∧ Hid (SixR wr S7 w1.heap.size m 6 (lasts may2 k)) ∧ Hid (Below w1.heap.size w1 wr)) (fun v _ => 6 - (intOf v).toNat)
                        case atStart => exact ⟨0, rfl, by omega, hd7, hR7, hB8⟩
                        case round =>
                          clear hd7 hR7 hB8
                          obtain ⟨k, rfl, hk, hd, hR, hB⟩ := hrel
                          by_cases hlt6 : k < 6
                          · have hlt6' : (k : Int) < 6 := by omega
                            obtain ⟨b, o, c, hcell, htxt, hlc2, hcm2, hBb, hbm, hbS⟩ := hR.out.at hlt6 (by omega)
                            have hl1 := H1L.out k hlt6
                            rw [lasts_at] at hcell htxt hlc2
                            obtain ⟨z, hz⟩ : ∃ z, (may2 k).length = z + 1 := ⟨(may2 k).length - 1, by omega⟩
                            rw [hz] at hcell htxt
                            have htd := htxt.drop z (by omega)
                            have hfz := hR.out.frozen k
                            have hz1 : ((z : Int) + 1) ≤ c := by omega
                            have hz2 : (c : Int) ≤ 9223372036854775807 := by omega
                            have hz3 : (0 : Int) ≤ (z : Int) := Int.natCast_nonneg z
                            have hz6 : (z : Int) ≤ (z : Int) + 1 := by omega
                            have hwz2 : IntKind.i64.wrap (z : Int) = z := by rw [IntKind.wrap_i64]; omega
                            have hz4 : ¬ c = z := by omega
                            have hz5 : ¬ c - z = 0 := by omega
                            have hwz : IntKind.i64.wrap ((z : Int) + 1 - 1) = z := by rw [IntKind.wrap_i64]; omega
                            have HTD := Lib.hid htd
                            have HCELL := Lib.hid hcell
                            have HZ := Lib.hid hz
                            clear htxt htd hlc2 hz hl1
                            go_wp2_with fail
                            go_region_law (fail)
                            all_goals
                              go_wp2_with fail
                              go_roundw
                              case rel =>
                                have hbd : Below wr.heap.size wr wr.drew := (Below.refl _ _).drew
                                have h := (hR.out.below hbd).put (w1 := wr.drew) (b' := b) (v' := .slice (some ⟨b, o + z, none⟩) (z + 1 - z) (c - z)) (l' := (may2 k).drop z) hlt6 (by omega) (HCELL.out) (Apart.refl _ _) (HTD.out.heap rfl) (.inl rfl) (hB.out.size) hd.out.lt
                                rw [show z = (may2 k).length - 1 by rw [HZ.out]; rfl, lasts_succ, ← show z = (may2 k).length - 1 by rw [HZ.out]; rfl] at h
                                refine ⟨k + 1, by go_num, by omega, ?_, ?_, ?_⟩
                                · exact DkS.apart (T := fun j => j = m) (hd.out.below hbd) ⟨rfl, rfl, rfl, by simp, fun j _ hj => heap_setCell_other _ _ _ _ hj⟩ (fun j hj e => hR.out.out (by rw [← e]; exact hj))
                                · first | exact h | (simp only [Nat.add_sub_cancel_left] at h; exact h)
                                · exact (hB.out.trans (hbd.mono hB.out.size)).setCell (p := ⟨m, k, none⟩) hR.out.low _
                              case measure => simp [intOf]; omega
                          · obtain rfl : k = 6 := by omega
                            go_wp2_with fail
                            refine ⟨?_, ?measure⟩
                            repeat apply Exists.intro
                            refine ⟨?rel, rfl⟩
                            case rel => exact ⟨i + 1, R'.1, S7, lasts may2 6, by go_num, by omega, hd, hS7, hR, Y2, (fun k => by
                              unfold lasts
                              split
                              · rw [List.length_drop]; omega
                              · exact HL6.out k), hB⟩
                            case measure => simp [intOf]; omega
                      · rw [y1] at C1
                        have C1 := Lib.hid C1
                        have HG : Hid (Six R'.1 [102] 6 may2 ∨ Gone R'.1 [102] 6 may2) := .inr y2
                        clear y1 y2 h6 hsc
                        go_wp2_with fail
                        refine C1.out.mono ?_
                        rintro e w7 ⟨rfl, hd7, ha7⟩
                        have hR7 := Lib.hid (hR6.out.disk ha7)
                        have hS7 : Hid (∀ k, since S4 w6 w7 k → w1.heap.size ≤ k) := fun k hk => hk.elim (hS4.out k) (fun e => Nat.le_trans hB7.out.size e.1)
                        have hB8 := Lib.hid (hB7.out.trans (ha7.low hB7.out.size hS4.out))
                        generalize since S4 w6 w7 = S7 at *
                        have hd7 : Hid (DkS w7 g (28 + 8 * i + 4 + 4) S7 R'.1) := hd7
                        clear C1 ha7 hR6 hS4 hB7 hd6
                        generalize R'.1 = DA at *
                        go_wp2_with fail
                        have O1 := Lib.hid (off_dks g (28 + 8 * i + 4 + 4) S7 DA w7 keep hd7.out hkeep)
                        have G1 := Lib.hid (ends_gone HG.out keep)
                        generalize lose DA keep = DY at *
                        go_wp2_with fail
                        refine O1.out.mono ?_
                        rintro e wy ⟨rfl, hdy, hay⟩
                        have HRY := Lib.hid (hR7.out.disk hay)
                        have HSY : Hid (∀ k, since S7 w7 wy k → w1.heap.size ≤ k) := fun k hk => hk.elim (hS7.out k) (fun e => Nat.le_trans hB8.out.size e.1)
                        have HBY := Lib.hid (hB8.out.trans (hay.low hB8.out.size hS7.out))
                        generalize since S7 w7 wy = SY at *
                        have O2 := Lib.hid (on_dks g (28 + 8 * i + 4 + 4) SY DY wy hdy)
                        clear O1 hay hdy hd7 hR7 hS7 hB8
                        go_wp2_with fail
                        refine O2.out.mono ?_
                        rintro e wz ⟨rfl, hdz, haz⟩
                        have HRZ := Lib.hid (HRY.out.disk haz)
                        have HBZ := Lib.hid (HBY.out.trans (haz.low HBY.out.size HSY.out))
                        generalize since SY wy wz = SZ at *
                        have HDZ := Lib.hid hdz
                        clear O2 haz hdz HRY HSY HBY
                        go_wp2_with fail
                        go_loopw [151] (fun v wr => ∃ p : Nat, v = .int .i64 p ∧ p ≤ 6 ∧ Hid (DkS wr g (28 + 8 * i + 4 + 4) SZ (onD DY)) ∧ Hid (SixR wr SZ w1.heap.size m 6 may2) ∧ Hid (Below w1.heap.size w1 wr)) (fun v _ => 6 - (intOf v).toNat)
                        case atStart => exact ⟨0, rfl, by omega, HDZ, HRZ, HBZ⟩
                        case round =>
                          clear HDZ HRZ HBZ
                          obtain ⟨p, rfl, hp, hd, hR, hB⟩ := hrel
                          by_cases hlt : p < 6
                          · have hlt' : (p : Int) < 6 := by omega
                            obtain ⟨x, hx1, hx2⟩ := G1.out.read hlt
                            have R1 := Lib.hid (read_dks g (28 + 8 * i + 4 + 4) SZ (onD DY) [102] wr p hd.out (by simp) (WalkArith.wf_i64 (by omega)))
                            have HX1 := Lib.hid hx1
                            have HX2 := Lib.hid hx2
                            clear hx1 hx2
                            go_wp2_with fail
                            refine R1.out.mono ?_
                            rintro e wq hans
                            obtain ⟨hx5, rfl, rfl⟩ : x.length = 512 ∧ e = .returned (.tuple #[.slice (some ⟨wr.heap.size, 0, none⟩) 512 512, .int .i64 0]) ∧ wq = wr.alloc (.cells (vb x).toArray 81) := by
                              rcases hans with ⟨p', h1, h2, h3, h4⟩ | ⟨n', h0, h1, _⟩
                              · rw [HX1.out] at h1
                                injection h1 with h1
                                rw [h1]
                                exact ⟨h2, h3, h4⟩
                              · rw [HX1.out] at h1
                                injection h1 with _ h1
                                exact absurd h1.symm h0
                            have hbq : Below wr.heap.size wr (wr.alloc (.cells (vb x).toArray 81)) := (Below.refl _ _).alloc (Nat.le_refl _) _
                            have SX5 : Hid (Sl (wr.alloc (.cells (vb x).toArray 81)) (wr.alloc (.cells (vb x).toArray 81)).heap.size (.slice (some ⟨wr.heap.size, 0, none⟩) 512 512) x) := page_all hx5 _ (heap_alloc_new _ _)
                            have hd2 := Lib.hid (hd.out.below hbq)
                            have hR2 := Lib.hid (hR.out.below hbq)
                            have hB2 := Lib.hid (hB.out.trans (hbq.mono hB.out.size))
                            obtain ⟨gb, hgb⟩ : ∃ y, wr.heap.size = y := ⟨_, rfl⟩
                            rw [hgb] at SX5 ⊢
                            generalize wr.alloc (.cells (vb x).toArray 81) = wq at *
                            obtain ⟨b, o, c, hcell, htxt, hlc2, hcm2, hBb, hbm, hbS⟩ := hR2.out.at hlt (by omega)
                            have HT := Lib.hid htxt
                            have hlz : ((may2 p).length : Int) ≤ c := by omega
                            clear R1 hd hR hB hbq htxt hgb
                            go_wp2_with fail
                            go_loopw [164, 22] (fun v u wr' => ∃ (k : Nat) (ok : Bool), v = .int .i64 k ∧ u = .bool ok ∧ k ≤ (may2 p).length ∧ Hid (ok = true ↔ x ∈ (may2 p).take k) ∧ Hid (Below wq.heap.size wq wr')) (fun v _ _ => (may2 p).length - (intOf v).toNat)
                            case atStart => exact ⟨0, false, rfl, rfl, by omega, (by unfold Hid; simp), Below.refl _ _⟩
                            case round =>
                              obtain ⟨k, ok, rfl, rfl, hk, hok, hb⟩ := hrel
                              by_cases hltk : k < (may2 p).length
                              · have hltk' : (k : Int) < (may2 p).length := by omega
                                have hck := (HT.out.heap (hb.out.block _ HT.out.lt)).cell hltk
                                have htk := Lib.hid (List.take_succ_eq_append_getElem hltk)
                                obtain ⟨y, hy⟩ : ∃ y, (may2 p)[k] = y := ⟨_, rfl⟩
                                rw [hy] at hck htk
                                have hcv := run_text_of _ _ _ _ (SX5.out.below hb.out)
                                cases ok
                                · by_cases hxy : x = y
                                  · have hq : (x == y) = true := beq_iff_eq.2 hxy
                                    go_wp2_with fail
                                    go_roundw
                                    case rel => exact ⟨k + 1, true, by go_num, rfl, by omega, (by unfold Hid; rw [htk.out, hxy]; simp), hb⟩
                                    case measure => simp [intOf]; omega
                                  · have hq : (x == y) = false := beq_eq_false_iff_ne.2 hxy
                                    go_wp2_with fail
                                    go_roundw
                                    case rel => exact ⟨k + 1, false, by go_num, rfl, by omega, (by unfold Hid; rw [htk.out, List.mem_append, ← hok.out, List.mem_singleton]; simp [hxy]), hb⟩
                                    case measure => simp [intOf]; omega
                                · go_wp2_with fail
                                  go_roundw
                                  case rel => exact ⟨k + 1, true, by go_num, rfl, by omega, (by unfold Hid; rw [htk.out, List.mem_append, ← hok.out]; simp), hb⟩
                                  case measure => simp [intOf]; omega
                              · obtain rfl : k = (may2 p).length := by omega
                                have hokt : ok = true := hok.out.2 (by rw [List.take_length]; exact HX2.out)
                                subst hokt
                                have hd3 := Lib.hid (hd2.out.below hb.out)
                                have hR3 := Lib.hid (hR2.out.below hb.out)
                                have hB3 := Lib.hid (hB2.out.trans (hb.out.mono hB2.out.size))
                                clear hb hd2 hR2 hB2 hok
                                go_wp2_with fail
                                go_roundw
                                case rel => exact ⟨p + 1, by go_num, by omega, hd3, hR3, hB3⟩
                                case measure => simp [intOf]; omega
                          · obtain rfl : p = 6 := by omega
                            go_wp2_with fail
                            go_ret
                            exact ⟨rfl, HB0.out.trans (hB.out.mono HB0.out.size)⟩
                  · have HG : Hid (Six R.1 [102] 6 may2 ∨ Gone R.1 [102] 6 may2) := .inr hgone
                    clear hgone hsc
                    generalize R.1 = DA at *
                    go_wp2_with fail
                    have O1 := Lib.hid (off_dks g (28 + 8 * i + 4) S4 DA w6 keep hd6.out hkeep)
                    have G1 := Lib.hid (ends_gone HG.out keep)
                    generalize lose DA keep = DY at *
                    go_wp2_with fail
                    refine O1.out.mono ?_
                    rintro e wy ⟨rfl, hdy, hay⟩
                    have HRY := Lib.hid (hR6.out.disk hay)
                    have HSY : Hid (∀ k, since S4 w6 wy k → w1.heap.size ≤ k) := fun k hk => hk.elim (hS4.out k) (fun e => Nat.le_trans hB7.out.size e.1)
                    have HBY := Lib.hid (hB7.out.trans (hay.low hB7.out.size hS4.out))
                    generalize since S4 w6 wy = SY at *
                    have O2 := Lib.hid (on_dks g (28 + 8 * i + 4) SY DY wy hdy)
                    clear O1 hay hdy hd6 hR6 hS4 hB7
                    go_wp2_with fail
                    refine O2.out.mono ?_
                    rintro e wz ⟨rfl, hdz, haz⟩
                    have HRZ := Lib.hid (HRY.out.disk haz)
                    have HBZ := Lib.hid (HBY.out.trans (haz.low HBY.out.size HSY.out))
                    generalize since SY wy wz = SZ at *
                    have HDZ := Lib.hid hdz
                    clear O2 haz hdz HRY HSY HBY
                    go_wp2_with fail
                    go_loopw [151] (fun v wr => ∃ p : Nat, v = .int .i64 p ∧ p ≤ 6 ∧ Hid (DkS wr g (28 + 8 * i + 4) SZ (onD DY)) ∧ Hid (SixR wr SZ w1.heap.size m 6 may2) ∧ Hid (Below w1.heap.size w1 wr)) (fun v _ => 6 - (intOf v).toNat)
                    case atStart => exact ⟨0, rfl, by omega, HDZ, HRZ, HBZ⟩
                    case round =>
                      clear HDZ HRZ HBZ
                      obtain ⟨p, rfl, hp, hd, hR, hB⟩ := hrel
                      by_cases hlt : p < 6
                      · have hlt' : (p : Int) < 6 := by omega
                        obtain ⟨x, hx1, hx2⟩ := G1.out.read hlt
                        have R1 := Lib.hid (read_dks g (28 + 8 * i + 4) SZ (onD DY) [102] wr p hd.out (by simp) (WalkArith.wf_i64 (by omega)))
                        have HX1 := Lib.hid hx1
                        have HX2 := Lib.hid hx2
                        clear hx1 hx2
                        go_wp2_with fail
                        refine R1.out.mono ?_
                        rintro e wq hans
                        obtain ⟨hx5, rfl, rfl⟩ : x.length = 512 ∧ e = .returned (.tuple #[.slice (some ⟨wr.heap.size, 0, none⟩) 512 512, .int .i64 0]) ∧ wq = wr.alloc (.cells (vb x).toArray 81) := by
                          rcases hans with ⟨p', h1, h2, h3, h4⟩ | ⟨n', h0, h1, _⟩
                          · rw [HX1.out] at h1
                            injection h1 with h1
                            rw [h1]
                            exact ⟨h2, h3, h4⟩
                          · rw [HX1.out] at h1
                            injection h1 with _ h1
                            exact absurd h1.symm h0
                        have hbq : Below wr.heap.size wr (wr.alloc (.cells (vb x).toArray 81)) := (Below.refl _ _).alloc (Nat.le_refl _) _
                        have SX5 : Hid (Sl (wr.alloc (.cells (vb x).toArray 81)) (wr.alloc (.cells (vb x).toArray 81)).heap.size (.slice (some ⟨wr.heap.size, 0, none⟩) 512 512) x) := page_all hx5 _ (heap_alloc_new _ _)
                        have hd2 := Lib.hid (hd.out.below hbq)
                        have hR2 := Lib.hid (hR.out.below hbq)
                        have hB2 := Lib.hid (hB.out.trans (hbq.mono hB.out.size))
                        obtain ⟨gb, hgb⟩ : ∃ y, wr.heap.size = y := ⟨_, rfl⟩
                        rw [hgb] at SX5 ⊢
                        generalize wr.alloc (.cells (vb x).toArray 81) = wq at *
                        obtain ⟨b, o, c, hcell, htxt, hlc2, hcm2, hBb, hbm, hbS⟩ := hR2.out.at hlt (by omega)
                        have HT := Lib.hid htxt
                        have hlz : ((may2 p).length : Int) ≤ c := by omega
                        clear R1 hd hR hB hbq htxt hgb
                        go_wp2_with fail
                        go_loopw [164, 22] (fun v u wr' => ∃ (k : Nat) (ok : Bool), v = .int .i64 k ∧ u = .bool ok ∧ k ≤ (may2 p).length ∧ Hid (ok = true ↔ x ∈ (may2 p).take k) ∧ Hid (Below wq.heap.size wq wr')) (fun v _ _ => (may2 p).length - (intOf v).toNat)
                        case atStart => exact ⟨0, false, rfl, rfl, by omega, (by unfold Hid; simp), Below.refl _ _⟩
                        case round =>
                          obtain ⟨k, ok, rfl, rfl, hk, hok, hb⟩ := hrel
                          by_cases hltk : k < (may2 p).length
                          · have hltk' : (k : Int) < (may2 p).length := by omega
                            have hck := (HT.out.heap (hb.out.block _ HT.out.lt)).cell hltk
                            have htk := Lib.hid (List.take_succ_eq_append_getElem hltk)
                            obtain ⟨y, hy⟩ : ∃ y, (may2 p)[k] = y := ⟨_, rfl⟩
                            rw [hy] at hck htk
                            have hcv := run_text_of _ _ _ _ (SX5.out.below hb.out)
                            cases ok
                            · by_cases hxy : x = y
                              · have hq : (x == y) = true := beq_iff_eq.2 hxy
                                go_wp2_with fail
                                go_roundw
                                case rel => exact ⟨k + 1, true, by go_num, rfl, by omega, (by unfold Hid; rw [htk.out, hxy]; simp), hb⟩
                                case measure => simp [intOf]; omega
                              · have hq : (x == y) = false := beq_eq_false_iff_ne.2 hxy
                                go_wp2_with fail
                                go_roundw
                                case rel => exact ⟨k + 1, false, by go_num, rfl, by omega, (by unfold Hid; rw [htk.out, List.mem_append, ← hok.out, List.mem_singleton]; simp [hxy]), hb⟩
                                case measure => simp [intOf]; omega
                            · go_wp2_with fail
                              go_roundw
                              case rel => exact ⟨k + 1, true, by go_num, rfl, by omega, (by unfold Hid; rw [htk.out, List.mem_append, ← hok.out]; simp), hb⟩
                              case measure => simp [intOf]; omega
                          · obtain rfl : k = (may2 p).length := by omega
                            have hokt : ok = true := hok.out.2 (by rw [List.take_length]; exact HX2.out)
                            subst hokt
                            have hd3 := Lib.hid (hd2.out.below hb.out)
                            have hR3 := Lib.hid (hR2.out.below hb.out)
                            have hB3 := Lib.hid (hB2.out.trans (hb.out.mono hB2.out.size))
                            clear hb hd2 hR2 hB2 hok
                            go_wp2_with fail
                            go_roundw
                            case rel => exact ⟨p + 1, by go_num, by omega, hd3, hR3, hB3⟩
                            case measure => simp [intOf]; omega
                      · obtain rfl : p = 6 := by omega
                        go_wp2_with fail
                        go_ret
                        exact ⟨rfl, HB0.out.trans (hB.out.mono HB0.out.size)⟩
            · obtain rfl : i = l0.length := by omega
              have HG : Hid (Six D [102] 6 may ∨ Gone D [102] 6 may) := .inl h6.out
              clear h6 hlen
              go_wp2_with fail
              have O1 := Lib.hid (off_dks g (28 + 8 * l0.length) S D wr keep hd.out hkeep)
              have G1 := Lib.hid (ends_gone HG.out keep)
              generalize lose D keep = DY at *
              go_wp2_with fail
              refine O1.out.mono ?_
              rintro e wy ⟨rfl, hdy, hay⟩
              have HRY := Lib.hid (hR.out.disk hay)
              have HSY : Hid (∀ k, since S wr wy k → w1.heap.size ≤ k) := fun k hk => hk.elim (hS.out k) (fun e => Nat.le_trans hB.out.size e.1)
              have HBY := Lib.hid (hB.out.trans (hay.low hB.out.size hS.out))
              generalize since S wr wy = SY at *
              have O2 := Lib.hid (on_dks g (28 + 8 * l0.length) SY DY wy hdy)
              clear O1 hay hdy hd hR hS hB
              go_wp2_with fail
              refine O2.out.mono ?_
              rintro e wz ⟨rfl, hdz, haz⟩
              have HRZ := Lib.hid (HRY.out.disk haz)
              have HBZ := Lib.hid (HBY.out.trans (haz.low HBY.out.size HSY.out))
              generalize since SY wy wz = SZ at *
              have HDZ := Lib.hid hdz
              clear O2 haz hdz HRY HSY HBY
              go_wp2_with fail
              go_loopw [151] (fun v wr' => ∃ p : Nat, v = .int .i64 p ∧ p ≤ 6 ∧ Hid (DkS wr' g (28 + 8 * l0.length) SZ (onD DY)) ∧ Hid (SixR wr' SZ w1.heap.size m 6 may) ∧ Hid (Below w1.heap.size w1 wr')) (fun v _ => 6 - (intOf v).toNat)
              case atStart => exact ⟨0, rfl, by omega, HDZ, HRZ, HBZ⟩
              case round =>
                clear HDZ HRZ HBZ
                obtain ⟨p, rfl, hp, hd, hR, hB⟩ := hrel
                by_cases hlt : p < 6
                · have hlt' : (p : Int) < 6 := by omega
                  obtain ⟨x, hx1, hx2⟩ := G1.out.read hlt
                  have R1 := Lib.hid (read_dks g (28 + 8 * l0.length) SZ (onD DY) [102] wr p hd.out (by simp) (WalkArith.wf_i64 (by omega)))
                  have HX1 := Lib.hid hx1
                  have HX2 := Lib.hid hx2
                  clear hx1 hx2
                  go_wp2_with fail
                  refine R1.out.mono ?_
                  rintro e wq hans
                  obtain ⟨hx5, rfl, rfl⟩ : x.length = 512 ∧ e = .returned (.tuple #[.slice (some ⟨wr.heap.size, 0, none⟩) 512 512, .int .i64 0]) ∧ wq = wr.alloc (.cells (vb x).toArray 81) := by
                    rcases hans with ⟨p', h1, h2, h3, h4⟩ | ⟨n', h0, h1, _⟩
                    · rw [HX1.out] at h1
                      injection h1 with h1
                      rw [h1]
                      exact ⟨h2, h3, h4⟩
                    · rw [HX1.out] at h1
                      injection h1 with _ h1
                      exact absurd h1.symm h0
                  have hbq : Below wr.heap.size wr (wr.alloc (.cells (vb x).toArray 81)) := (Below.refl _ _).alloc (Nat.le_refl _) _
                  have SX5 : Hid (Sl (wr.alloc (.cells (vb x).toArray 81)) (wr.alloc (.cells (vb x).toArray 81)).heap.size (.slice (some ⟨wr.heap.size, 0, none⟩) 512 512) x) := page_all hx5 _ (heap_alloc_new _ _)
                  have hd2 := Lib.hid (hd.out.below hbq)
                  have hR2 := Lib.hid (hR.out.below hbq)
                  have hB2 := Lib.hid (hB.out.trans (hbq.mono hB.out.size))
                  obtain ⟨gb, hgb⟩ : ∃ y, wr.heap.size = y := ⟨_, rfl⟩
                  rw [hgb] at SX5 ⊢
                  generalize wr.alloc (.cells (vb x).toArray 81) = wq at *
                  obtain ⟨b, o, c, hcell, htxt, hlc2, hcm2, hBb, hbm, hbS⟩ := hR2.out.at hlt (by omega)
                  have HT := Lib.hid htxt
                  have hlz : ((may p).length : Int) ≤ c := by omega
                  clear R1 hd hR hB hbq htxt hgb
                  go_wp2_with fail
                  go_loopw [164, 22] (fun v u wr' => ∃ (k : Nat) (ok : Bool), v = .int .i64 k ∧ u = .bool ok ∧ k ≤ (may p).length ∧ Hid (ok = true ↔ x ∈ (may p).take k) ∧ Hid (Below wq.heap.size wq wr')) (fun v _ _ => (may p).length - (intOf v).toNat)
                  case atStart => exact ⟨0, false, rfl, rfl, by omega, (by unfold Hid; simp), Below.refl _ _⟩
                  case round =>
                    obtain ⟨k, ok, rfl, rfl, hk, hok, hb⟩ := hrel
                    by_cases hltk : k < (may p).length
                    · have hltk' : (k : Int) < (may p).length := by omega
                      have hck := (HT.out.heap (hb.out.block _ HT.out.lt)).cell hltk
                      have htk := Lib.hid (List.take_succ_eq_append_getElem hltk)
                      obtain ⟨y, hy⟩ : ∃ y, (may p)[k] = y := ⟨_, rfl⟩
                      rw [hy] at hck htk
                      have hcv := run_text_of _ _ _ _ (SX5.out.below hb.out)
                      cases ok
                      · by_cases hxy : x = y
                        · have hq : (x == y) = true := beq_iff_eq.2 hxy
                          go_wp2_with fail
                          go_roundw
                          case rel => exact ⟨k + 1, true, by go_num, rfl, by omega, (by unfold Hid; rw [htk.out, hxy]; simp), hb⟩
                          case measure => simp [intOf]; omega
                        · have hq : (x == y) = false := beq_eq_false_iff_ne.2 hxy
                          go_wp2_with fail
                          go_roundw
                          case rel => exact ⟨k + 1, false, by go_num, rfl, by omega, (by unfold Hid; rw [htk.out, List.mem_append, ← hok.out, List.mem_singleton]; simp [hxy]), hb⟩
                          case measure => simp [intOf]; omega
                      · go_wp2_with fail
                        go_roundw
                        case rel => exact ⟨k + 1, true, by go_num, rfl, by omega, (by unfold Hid; rw [htk.out, List.mem_append, ← hok.out]; simp), hb⟩
                        case measure => simp [intOf]; omega
                    · obtain rfl : k = (may p).length := by omega
                      have hokt : ok = true := hok.out.2 (by rw [List.take_length]; exact HX2.out)
                      subst hokt
                      have hd3 := Lib.hid (hd2.out.below hb.out)
                      have hR3 := Lib.hid (hR2.out.below hb.out)
                      have hB3 := Lib.hid (hB2.out.trans (hb.out.mono hB2.out.size))
                      clear hb hd2 hR2 hB2 hok
                      go_wp2_with fail
                      go_roundw
                      case rel => exact ⟨p + 1, by go_num, by omega, hd3, hR3, hB3⟩
                      case measure => simp [intOf]; omega
                · obtain rfl : p = 6 := by omega
                  go_wp2_with fail
                  go_ret
                  exact ⟨rfl, HB0.out.trans (hB.out.mono HB0.out.size)⟩

set_option maxRecDepth 100000 in
set_option maxHeartbeats 800000 in
theorem much (v0 v1 v2 : Value) (l0 : List Int) (l1 : List (List UInt8)) (l2 : List Bool) (n : Int) (keep : Nat) (w : World) (h0 : Flat (fun n => Value.int .i64 n) w w.heap.size v0 l0) (h1 : Sls w w.heap.size v1 l1) (h2 : Flat Value.bool w w.heap.size v2 l2)
    (hb : 40 < l0.length ∨ (¬ 40 < l0.length ∧ l1.length < l0.length) ∨ (¬ 40 < l0.length ∧ ¬ l1.length < l0.length ∧ l2.length < l0.length)) :
    Calls Try.prog 4 #[v0, v1, v2, .int .i64 n, .int .u64 keep] w (Gives (.bool true) w) := by
  obtain ⟨A0, c0, rfl, hc0, hm0⟩ := h0.len
  obtain ⟨A1, c1, rfl, hc1, hm1⟩ := sls_len h1
  obtain ⟨A2, c2, rfl, hc2, hm2⟩ := h2.len
  clear h0 h1 h2
  generalize l0.length = n0 at *
  generalize l1.length = n1 at *
  generalize l2.length = n2 at *
  rcases hb with h | ⟨h, h'⟩ | ⟨h, h', h''⟩
  all_goals
    go_enter Try.func4, Try.ntmps4
    go_wp2_with fail
    refine (alive_any w).mono ?_
    rintro e w1 ⟨rfl, hb1⟩
    go_wp2_with fail
    go_ret
    exact ⟨rfl, hb1⟩

theorem walk (v0 : Value) (l0 : List Int) (v1 : Value) (l1 : List (List UInt8)) (v2 : Value) (l2 : List Bool) (n keep : Int) (w : World)
    (h0 : Flat (fun n => Value.int .i64 n) w w.heap.size v0 l0 ∧ ∀ n ∈ l0, (Lit.int .i64 n).wf = true) (h1 : Sls w w.heap.size v1 l1 ∧ ∀ p ∈ l1, p.length ≤ 140737488351232) (h2 : Flat Value.bool w w.heap.size v2 l2) (h3 : (Lit.int .i64 n).wf = true) (h4 : (Lit.int .u64 keep).wf = true) :
    Calls Try.prog 4 #[v0, v1, v2, .int .i64 n, .int .u64 keep] w (Gives (.bool true) w) := by
  have b3 := bounds_i64 h3
  have b4 := bounds_u64 h4
  obtain ⟨k, rfl⟩ := Int.eq_ofNat_of_zero_le (a := keep) (by omega)
  by_cases c1 : 40 < l0.length
  · exact much v0 v1 v2 l0 l1 l2 n k w h0.1 h1.1 h2 (.inl c1)
  · by_cases c2 : l1.length < l0.length
    · exact much v0 v1 v2 l0 l1 l2 n k w h0.1 h1.1 h2 (.inr (.inl ⟨c1, c2⟩))
    · by_cases c3 : l2.length < l0.length
      · exact much v0 v1 v2 l0 l1 l2 n k w h0.1 h1.1 h2 (.inr (.inr ⟨c1, c2, c3⟩))
      · exact main v0 v1 v2 l0 l1 l2 n k w h0.1 h0.2 h1.1 h2 (by omega) (by omega) (by omega) (by omega) (by omega)

end Go.Proofs.Ytpeodhgmflgbgaa.DiskLoses
