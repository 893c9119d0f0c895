/-
  frame.Split. Conditions: none.
-/
import Derived.Test.YthgnchgehmakjaaG8
import Derived.Test.YthgnchgehmakjaaG10
import Derived.Test.YthgnchgehmakjaaG1
import Derived.Deep.RegionWith
import Derived.LoopTactic
import Derived.IntWalk
import Derived.Laws.BitsAllLaws
import Derived.Deep.Strs
import Derived.Test.YthgnchgehmakjaaRows
import Derived.WalkKit
import Derived.WalkSpells
import Derived.WalkLawsBesides
import Derived.Outline
import Derived.Lib.Hide
import Derived.Test.YthgnchgehmakjaaG6
/-
  Save: a table's bytes are laid down in a file, and synced. Conditions: the writes have no more than 2^20 bytes.
-/
namespace Go.Proofs.Ythgnchgehmakjaa.Cd
open Go.RowKit Go.Shelf
set_option linter.unusedVariables false

/-- A row of bytes, its block known whole. -/
def RowT (W : World) (r : Nat) (bs : List UInt8) : Prop := ∃ cur : Array Value, W.heap[r]? = some (.cells cur 5 (0, 0)) ∧ ∀ (j : Nat) (u : Value), (vb bs)[j]? = some u → cur[j]? = some u
theorem RowT.on {W W' : World} {r : Nat} {bs : List UInt8} (h : RowT W r bs) (he : W'.heap[r]? = W.heap[r]?) : RowT W' r bs := by
  obtain ⟨cur, h1, h2⟩ := h
  exact ⟨cur, he.trans h1, h2⟩
theorem RowT.lt {W : World} {r : Nat} {bs : List UInt8} (h : RowT W r bs) : r < W.heap.size := by
  obtain ⟨cur, h1, _⟩ := h
  exact (Array.getElem?_eq_some_iff.1 h1).1
/-- The k-th page of a row's bytes. -/
theorem RowT.part {W : World} {r : Nat} {bs : List UInt8} (h : RowT W r bs) (k : Nat) (hk : 512 * k < bs.length) (hl : bs.length ≤ 9223372036854775807) : Sl W W.heap.size (tgV r 0 bs.length k) (chunk bs k) := by
  have hlt := h.lt
  obtain ⟨cur, h1, h2⟩ := h
  have hpl : (chunk bs k).length = min 512 (bs.length - 512 * k) := by simp [chunk]
  refine ⟨some ⟨r, 0 + 512 * k, none⟩, min 512 (bs.length - 512 * k), by rw [hpl]; rfl, by rw [hpl]; exact Nat.le_refl _, by simp only [maxLen]; omega, (fun h => by cases h), fun ad e _ => ?_, fun ad e j u hu => ?_⟩
  · injection e with e
    subst e
    exact hlt
  · injection e with e
    subst e
    have hj := (List.getElem?_eq_some_iff.1 hu).1
    rw [vb_length, hpl] at hj
    rw [Addr.add_lit, cell_of_row _ _ _ _ _ _ h1]
    refine h2 _ _ ?_
    rw [← hu]
    simp only [vb, chunk, List.map_take, List.map_drop]
    rw [List.getElem?_take, if_pos (by omega), List.getElem?_drop]
    congr 1
    omega
/-- A row of slices, its block known whole. -/
def RowV (W : World) (r : Nat) (vs : List Value) : Prop := ∃ cur : Array Value, W.heap[r]? = some (.cells cur 31 (0, 0)) ∧ ∀ (j : Nat) (u : Value), vs[j]? = some u → cur[j]? = some u
theorem RowV.on {W W' : World} {r : Nat} {vs : List Value} (h : RowV W r vs) (he : W'.heap[r]? = W.heap[r]?) : RowV W' r vs := by
  obtain ⟨cur, h1, h2⟩ := h
  exact ⟨cur, he.trans h1, h2⟩
theorem RowV.cell {W : World} {r : Nat} {vs : List Value} (h : RowV W r vs) {j : Nat} {u : Value} (hu : vs[j]? = some u) : W.cell? ⟨r, j, none⟩ = some u := by
  obtain ⟨cur, h1, h2⟩ := h
  rw [cell_of_row _ _ _ _ _ _ h1]
  exact h2 j u hu

section
variable {w W W' : World} {S : Nat → Prop} {g M : Nat} {keep : List Nat} {D : Dsk}
/-- A block that a call made. -/
theorem InP.newT (h : InP w S g keep M D W) (hb : Below W.heap.size W W') {r : Nat} (h1 : W.heap.size ≤ r) (h2 : r < W'.heap.size) : InP w S g (r :: keep) M D W' := by
  obtain ⟨T, k1, k2, k3, k4⟩ := h
  refine ⟨T, k1.below hb, k2, fun q hq => ?_, k4.trans (Apart.below hb)⟩
  rcases List.mem_cons.1 hq with rfl | hq
  · exact ⟨fun e => by have := k1.lt _ e; omega, h2⟩
  · exact ⟨(k3 q hq).1, Nat.lt_of_lt_of_le (k3 q hq).2 hb.size⟩
/-- What a call on the disk leaves, and that the call's own blocks are none of the disk's. -/
theorem InP.goT (h : InP w S g keep M D W) : ∃ T, DkS W g M T D ∧ (∀ r ∈ keep, ¬ T r) ∧
    ∀ e v N D' W', MakesD g N T D' v W e W' → InP w S g keep N D' W' ∧ (∀ r ∈ keep, W'.heap[r]? = W.heap[r]?) := by
  obtain ⟨T, h1, h2, h3, h4⟩ := h
  refine ⟨T, h1, fun r hr => (h3 r hr).1, fun e v N D' W' hm => ?_⟩
  obtain ⟨_, m2, m3⟩ := hm
  refine ⟨⟨since T W W', m2, fun j hj => ?_, fun r hr => ⟨fun e => ?_, Nat.lt_of_lt_of_le (h3 r hr).2 m3.size⟩, ?_⟩, fun r hr => m3.block r (h3 r hr).2 (h3 r hr).1⟩
  · rcases hj with hj | hj
    · exact h2 j hj
    · exact .inr (by have := h4.size; omega)
  · rcases e with e | e
    · exact (h3 r hr).1 e
    · have := (h3 r hr).2; omega
  · refine ⟨m3.os.trans h4.os, m3.tape.trans h4.tape, m3.output.trans h4.output, Nat.le_trans h4.size m3.size, fun j hj hn => ?_⟩
    exact (m3.block j (Nat.lt_of_lt_of_le hj h4.size) (fun ht => by rcases h2 j ht with h | h; exact hn h; omega)).trans (h4.block j hj hn)
end

theorem writeD_le (D : Dsk) (n b : List UInt8) (i : Int) : (writeD D n i b).2 ≤ 8 := by
  unfold writeD ends
  repeat' split
  all_goals simp

set_option maxRecDepth 100000 in
set_option maxHeartbeats 6400000 in
theorem tsave_any (t g N M : Nat) (X : List Wr) (n : List UInt8) (S : Nat → Prop) (D : Dsk) (w : World) (hX : TabV w (.pointer (some ⟨t, 0, none⟩)) X) (hs : sumW X ≤ 1048576) (hd : DkS w g N S D) (hn : n.length ≤ 140737488355000)
    (hN : N + 4 * (pagesOf (bytesW X).length + 2) ≤ M) (hM : M ≤ 137438953472) :
    Calls Try.prog 11 #[.pointer (some ⟨t, 0, none⟩), .pointer (some ⟨g, 0, none⟩), .string ⟨n.toArray⟩] w (MakesD g M S (saveD D n (bytesW X)).1 (.int .i64 ((saveD D n (bytesW X)).2 : Nat)) w) := by
  have HDn := down_dks g N S D w hd
  have HD := Lib.hid hd
  by_cases ho : D.off = true
  · rw [show saveD D n (bytesW X) = (D, 8) from if_pos ho]
    rw [ho] at HDn
    have HDn := Lib.hid HDn
    clear hd ho hX hs
    go_enter Try.func11, Try.ntmps11
    go_wp2_with fail
    refine HDn.out.mono ?_
    rintro e w' ⟨rfl, h⟩
    obtain rfl := h.symm
    go_wp2_with fail
    go_ret
    exact makesD_same HD.out (Below.refl _ _) (by omega) hM
  have ho : D.off = false := by simpa using ho
  rw [ho] at HDn
  have HDn := Lib.hid HDn
  have HH := has_dks g N S D n w hd ho (by omega)
  by_cases hh : (getF D.now n).isSome = true
  · rw [show saveD D n (bytesW X) = (D, 6) by unfold saveD; rw [if_neg (by rw [ho]; simp), if_pos hh]]
    rw [hh] at HH
    have HH := Lib.hid HH
    clear hd ho hX hs hh
    go_enter Try.func11, Try.ntmps11
    go_wp2_with fail
    refine HDn.out.mono ?_
    rintro e w' ⟨rfl, h⟩
    obtain rfl := h.symm
    go_wp2_with fail
    refine HH.out.mono ?_
    rintro e w' ⟨rfl, h⟩
    obtain rfl := h.symm
    go_wp2_with fail
    go_ret
    exact makesD_same HD.out (Below.refl _ _) (by omega) hM
  have hh : (getF D.now n).isSome = false := by simpa using hh
  rw [hh] at HH
  have HH := Lib.hid HH
  have he : saveD D n (bytesW X) = if freeD D < (pagesOf (bytesW X).length : Nat) then (D, 7) else if (writes D n (chunks (bytesW X))).2 ≠ 0 then writes D n (chunks (bytesW X)) else syncD (writes D n (chunks (bytesW X))).1 n := by
    unfold saveD
    rw [if_neg (by rw [ho]; simp), if_neg (by rw [hh]; simp)]
  rw [he]
  have CB := tbytes_any _ X w hX hs
  have hB0 : 0 < (bytesW X).length := frm_pos _
  have hBl : (bytesW X).length ≤ 31457304 := by have := recW_len X hs; have := frm_le (recW X) (by omega); unfold bytesW; omega
  obtain ⟨B, hB⟩ : ∃ x, bytesW X = x := ⟨_, rfl⟩
  rw [hB] at CB hB0 hBl hN ⊢
  have CB := Lib.hid CB
  have HSl := Lib.hid hd.lt
  obtain ⟨m, hm⟩ : ∃ x, pagesOf B.length = x := ⟨_, rfl⟩
  have hm0 : 0 < m := by rw [← hm]; exact pagesOf_pos hB0
  have hml : m ≤ 70000 := by rw [← hm]; unfold pagesOf; omega
  rw [hm] at hN ⊢
  have HM := Lib.hid hm
  obtain ⟨ZD, ze, hZ⟩ : ∃ a b, (if freeD D < (m : Nat) then (D, 7) else if (writes D n (chunks B)).2 ≠ 0 then writes D n (chunks B) else syncD (writes D n (chunks B)).1 n) = (a, b) := ⟨_, _, rfl⟩
  rw [hZ]
  dsimp only
  have HZZ := Lib.hid hZ
  clear hX hs hB he hh hd hm hZ
  go_enter Try.func11, Try.ntmps11
  go_wp2_with fail
  refine HDn.out.mono ?_
  rintro e w' ⟨rfl, h⟩
  obtain rfl := h.symm
  go_wp2_with fail
  refine HH.out.mono ?_
  rintro e w' ⟨rfl, h⟩
  obtain rfl := h.symm
  go_wp2_with fail
  refine CB.out.mono ?_
  rintro e w1 ⟨v1, rfl, ho1, hb1⟩
  obtain ⟨b1, c1, cur1, rfl, hbB, hblt, hh1, hcap, hcm, hcur⟩ := own_block ho1 hB0
  have hcm : c1 ≤ 9223372036854775807 := hcm
  have R1 := Lib.hid (show RowT w1 b1 B from ⟨cur1, hh1, hcur⟩)
  have I1 := Lib.hid ((inP_start HD.out).newT hb1 hbB hblt)
  have HB1 := Lib.hid hb1
  have CC := Lib.hid (tchunk_any (some ⟨b1, 0, none⟩) B.length c1 w1)
  clear ho1 hb1 hh1 hcur CB HH HDn
  go_wp2_with fail
  refine CC.out.mono ?_
  rintro e w2 ⟨rfl, hw2⟩
  have hb2 : Below w1.heap.size w1 w2 := by rw [hw2]; exact ((Below.refl _ _).alloc (Nat.le_refl _) _).alloc (by simp) _
  have x0 : BoxAt w2 w1.heap.size (.slice (some ⟨b1, 0, none⟩) B.length c1) 31 := by rw [hw2]; exact (BoxAt.new w1 _ _).alloc _
  have x1 : BoxAt w2 (w1.heap.size + 1) (.int .i64 512) 3 := by
    rw [hw2]
    have := BoxAt.new (w1.alloc (.cells #[.slice (some ⟨b1, 0, none⟩) B.length c1] 31)) (.int .i64 512) 3
    rwa [World.size_alloc] at this
  have CD := Lib.hid (collect_v 5 (by omega) 47 #[.pointer (some ⟨w1.heap.size, 0, none⟩), .pointer (some ⟨w1.heap.size + 1, 0, none⟩)] (enters_of Try.func47 (by kernel_rfl) rfl) (fun k => tgV b1 0 B.length k) (fun k => ⟨_, _, _, rfl⟩) m (by omega)
    (BoxesT w1.heap.size (w1.heap.size + 1) b1 0 B.length c1) w2 (fun W hW => ⟨(hW.cell (p := ⟨w1.heap.size, 0, none⟩) x0.lt).trans x0.cell, (hW.cell (p := ⟨w1.heap.size + 1, 0, none⟩) x1.lt).trans x1.cell⟩) (by rw [← HM.out]; exact tchunk_hands 3 _ _ _ _ _ _ hcap hcm (by omega)))
  have I2 := Lib.hid (I1.out.below hb2)
  have R2 := Lib.hid (R1.out.on (hb2.block _ R1.out.lt))
  have HB2 := Lib.hid (HB1.out.trans (hb2.mono HB1.out.size))
  clear hb2 x0 x1 hw2 CC I1 R1 HB1
  go_wp2_with fail
  refine ((callsIn_wide (n := 5)).1 CD.out).mono ?_
  rintro e w3 ⟨v3, rfl, ho3, hb3⟩
  obtain ⟨b3, c3, rfl, hc3, hm3, hb3B, hb3lt, cur3, hh3, hcur3⟩ := ho3.open (by simpa using hm0)
  have hvl : ((List.range m).map fun k => tgV b1 0 B.length k).length = m := by simp
  have hva : ∀ k, k < m → ((List.range m).map fun k => tgV b1 0 B.length k)[k]? = some (tgV b1 0 B.length k) := fun k hk => by rw [List.getElem?_map, List.getElem?_range hk]; rfl
  obtain ⟨vs, hvs⟩ : ∃ x, ((List.range m).map fun k => tgV b1 0 B.length k) = x := ⟨_, rfl⟩
  rw [hvs] at hvl hva hc3 hcur3 ⊢
  rw [hvl] at hc3 ⊢
  have hm3 : c3 ≤ 9223372036854775807 := hm3
  have R3 := Lib.hid (show RowV w3 b3 vs from ⟨cur3, hh3, hcur3⟩)
  have HVA := Lib.hid hva
  have I3 := Lib.hid (I2.out.newT hb3 hb3B hb3lt)
  have R1 := Lib.hid (R2.out.on (hb3.block _ R2.out.lt))
  have HB3 := Lib.hid (HB2.out.trans (hb3.mono HB2.out.size))
  have CF := Lib.hid (free_dks g N S D w3 (HD.out.below HB3.out))
  clear ho3 hb3 hvs hvl hva hh3 hcur3 I2 R2 HB2 CD
  have hr4 : ∀ w4, Below w3.heap.size w3 w4 → Hid (InP w S g [b3, b1] N D w4) ∧ Hid (RowV w4 b3 vs) ∧ Hid (RowT w4 b1 B) ∧ Hid (Below w.heap.size w w4) := fun w4 hb4 =>
    ⟨I3.out.below hb4, R3.out.on (hb4.block _ hb3lt), R1.out.on (hb4.block _ R1.out.lt), HB3.out.trans (hb4.mono HB3.out.size)⟩
  have HR4 := Lib.hid hr4
  clear hr4 hb3lt
  by_cases hf : freeD D < (m : Nat)
  · go_wp2_with fail
    refine CF.out.mono ?_
    rintro e w4 ⟨rfl, hb4⟩
    obtain ⟨i4, _, _, hb4⟩ := HR4.out w4 hb4
    go_wp2_with fail
    go_ret
    obtain ⟨rfl, rfl⟩ : D = ZD ∧ 7 = ze := by
      have := HZZ.out
      rw [if_pos hf] at this
      injection this with h1 h2
      exact ⟨h1, h2⟩
    exact makesD_same HD.out hb4.out (by omega) hM
  have HF := Lib.hid hf
  have hf2 : (m : Int) ≤ freeD D := by omega
  clear hf
  go_wp2_with fail
  refine CF.out.mono ?_
  rintro e w4 ⟨rfl, hb4⟩
  obtain ⟨i4, rv4, rt4, _⟩ := HR4.out w4 hb4
  clear HR4 hb4 HB3 CF I3 R3 R1
  go_wp2_with fail
  go_loopw [36] (fun i W => ∃ k : Nat, i = .int .i64 k ∧ k ≤ m ∧ Hid (InP w S g [b3, b1] (N + 4 * k) (writes D n ((chunks B).take k)).1 W) ∧ Hid ((writes D n ((chunks B).take k)).2 = 0) ∧ Hid (RowV W b3 vs) ∧ Hid (RowT W b1 B)) (fun i _ => m - (intOf i).toNat)
  case atStart => exact ⟨0, rfl, Nat.zero_le _, i4, rfl, rv4, rt4⟩
  case round =>
    obtain ⟨k, rfl, hk, hi, hz, hrv, hrt⟩ := hrel
    by_cases hlt : k < m
    · have hlt' : (k : Int) < m := by omega
      have hkc : k < (chunks B).length := by rw [chunks_len, HM.out]; exact hlt
      have hstep := writes_take n (chunks B) D hkc hz.out
      rw [show (chunks B)[k] = ((k : Int), chunk B k) by simp [chunks]] at hstep
      obtain ⟨Dk, hDk⟩ : ∃ x, (writes D n ((chunks B).take k)).1 = x := ⟨_, rfl⟩
      rw [hDk] at hi hstep
      obtain ⟨T, d1, d2, d3⟩ := hi.out.goT
      have hlk : 512 * k < B.length := by have := HM.out; unfold pagesOf at this; omega
      have CW := write_dks g (N + 4 * k) T Dk n wr (chunk B k) k (tgV b1 0 B.length k) d1 (hrt.out.part k hlk (by omega)) (fun _ A j c e => by
        unfold tgV at e
        injection e with e _ _
        injection e with e
        rw [← e]
        exact d2 b1 (by simp)) (by omega) (by omega) (by omega)
      have hle := writeD_le Dk n (chunk B k) k
      have cv := hrv.out.cell (HVA.out k hlt)
      obtain ⟨pv, hpv⟩ : ∃ x, tgV b1 0 B.length k = x := ⟨_, rfl⟩
      rw [hpv] at CW cv
      rw [← hstep] at CW hle
      obtain ⟨R, hR⟩ : ∃ x, writes D n ((chunks B).take (k + 1)) = x := ⟨_, rfl⟩
      rw [hR] at CW hle
      have CW := Lib.hid CW
      have HR := Lib.hid hR
      have HG := Lib.hid d3
      have hki : ((k : Int)).toNat = k := by omega
      clear d1 d2 d3 hstep hDk hpv hR hlk hkc
      go_wp2_with fail
      refine CW.out.mono ?_
      intro e w5 hm
      obtain rfl := hm.1
      obtain ⟨i5, k5⟩ := HG.out _ _ _ _ _ hm
      have I5 := Lib.hid i5
      have RV5 := Lib.hid (hrv.out.on (k5 b3 (by simp)))
      have RT5 := Lib.hid (hrt.out.on (k5 b1 (by simp)))
      clear hm i5 k5 hrv hrt hi CW HG cv
      by_cases hz5 : R.2 = 0
      · have hz5' : (R.2 : Int) = 0 := by omega
        have HZ5 := Lib.hid hz5
        rw [hz5']
        clear hz5
        go_wp2_with fail
        go_roundw
        case rel =>
          refine ⟨k + 1, by go_num, by omega, ?_, ?_, RV5, RT5⟩
          · unfold Hid
            rw [HR.out]
            exact I5.out
          · unfold Hid
            rw [HR.out]
            exact HZ5.out
        case measure => simp [intOf]; omega
      · have hz5' : ¬ (R.2 : Int) = 0 := by omega
        have hfin : Hid (writes D n (chunks B) = R) := by
          unfold Hid
          rw [writes_stop n (chunks B) D (k := k + 1) (by rw [HR.out]; exact hz5), HR.out]
        obtain ⟨E, q⟩ := R
        dsimp only at hz5 hz5' hle I5
        have HZ5 := Lib.hid hz5
        clear hz5
        go_wp2_with fail
        go_ret
        obtain ⟨rfl, rfl⟩ : E = ZD ∧ q = ze := by
          have := HZZ.out
          rw [if_neg (Int.not_lt.2 HF.out), hfin.out, if_pos HZ5.out] at this
          injection this with h1 h2
          exact ⟨h1, h2⟩
        exact (I5.out.grow (by omega) hM).makes HSl.out _
    · have hkm : k = m := by omega
      have hlt' : ¬ (k : Int) < m := by omega
      subst hkm
      have htk : (chunks B).take k = chunks B := List.take_of_length_le (by rw [chunks_len, HM.out]; exact Nat.le_refl _)
      rw [htk] at hi hz
      have HZ := hz
      obtain ⟨R, hR⟩ : ∃ x, writes D n (chunks B) = x := ⟨_, rfl⟩
      rw [hR] at hi hz HZ
      have HRR := Lib.hid hR
      obtain ⟨T, d1, d2, d3⟩ := hi.out.goT
      have CS := sync_dks g (N + 4 * k) T R.1 n wr d1 (by omega) (by omega)
      obtain ⟨Q, hQ⟩ : ∃ x, syncD R.1 n = x := ⟨_, rfl⟩
      rw [hQ] at CS
      have HQQ := Lib.hid hQ
      have CS := Lib.hid CS
      have HG := Lib.hid d3
      clear d1 d2 d3 hQ hR hi hz hrv hrt htk
      go_wp2_with fail
      refine CS.out.mono ?_
      intro e w5 hm
      obtain rfl := hm.1
      have I5 := Lib.hid (HG.out _ _ _ _ _ hm).1
      clear hm CS HG
      go_wp2_with fail
      go_ret
      obtain ⟨rfl, rfl⟩ : Q.1 = ZD ∧ Q.2 = ze := by
        have := HZZ.out
        rw [if_neg (Int.not_lt.2 HF.out), HRR.out, if_neg (fun h => h HZ.out), HQQ.out] at this
        rw [this]
        exact ⟨rfl, rfl⟩
      exact (I5.out.grow (by omega) hM).makes HSl.out _

theorem tsave_nil (v : Value) (hv : ∃ x, v = .pointer x) (n : List UInt8) (w : World) :
    Calls Try.prog 11 #[.pointer none, v, .string ⟨n.toArray⟩] w (fun e w' => e = .returned (.int .i64 2) ∧ w' = w) := by
  obtain ⟨x, rfl⟩ := hv
  go_enter Try.func11, Try.ntmps11
  go_wp2_with fail
  go_ret
  exact ⟨rfl, rfl⟩

theorem tsave_nod (t : Nat) (n : List UInt8) (w : World) :
    Calls Try.prog 11 #[.pointer (some ⟨t, 0, none⟩), .pointer none, .string ⟨n.toArray⟩] w (fun e w' => e = .returned (.int .i64 2) ∧ w' = w) := by
  go_enter Try.func11, Try.ntmps11
  go_wp2_with fail
  go_ret
  exact ⟨rfl, rfl⟩

end Go.Proofs.Ythgnchgehmakjaa.Cd

/-
  code.Reader: Read, Good, fail, End. Conditions: none.
-/
namespace Go.Proofs.Ythgnchgehmakjaa.Cd
open Go.RowKit

/-- Block g is a reader that has the bytes 'bs' left. -/
def Rd (w : World) (g : Nat) (bs : List UInt8) (bad : Bool) : Prop := w.heap[g]? = some (.cells #[.string ⟨bs.toArray⟩, .bool bad] 130 (0, 0))

section
variable {w w' : World} {g : Nat} {bs : List UInt8} {bad : Bool}
theorem Rd.lt (h : Rd w g bs bad) : g < w.heap.size := by
  rcases Nat.lt_or_ge g w.heap.size with hlt | hge
  · exact hlt
  · unfold Rd at h; rw [Array.getElem?_eq_none hge] at h; cases h
theorem Rd.cell0 (h : Rd w g bs bad) : w.cell? ⟨g, 0, none⟩ = some (.string ⟨bs.toArray⟩) := cell_of_row w g 0 _ _ (0, 0) h
theorem Rd.cell1 (h : Rd w g bs bad) : w.cell? ⟨g, 1, none⟩ = some (.bool bad) := cell_of_row w g 1 _ _ (0, 0) h
theorem Rd.frozen (h : Rd w g bs bad) (i : Nat) : w.frozen? ⟨g, i, none⟩ = false := by
  unfold Rd at h
  simp [World.frozen?, h]
theorem Rd.drew (h : Rd w g bs bad) : Rd w.drew g bs bad := h
theorem Rd.set0 (h : Rd w g bs bad) (cs : List UInt8) : Rd (w.setCell ⟨g, 0, none⟩ (.string ⟨cs.toArray⟩)) g cs bad := by
  unfold Rd at h ⊢
  simp [World.setCell, Array.getElem?_modify, h]
theorem Rd.set1 (h : Rd w g bs bad) (b : Bool) : Rd (w.setCell ⟨g, 1, none⟩ (.bool b)) g bs b := by
  unfold Rd at h ⊢
  simp [World.setCell, Array.getElem?_modify, h]
theorem Rd.below {B : Nat} (h : Rd w g bs bad) (hb : Below B w w') (hg : g < B) : Rd w' g bs bad := (hb.block g hg).trans h
end

/-- What a reader's call leaves: the reader as it is said, and else nothing of what was there has turned. -/
def Left (w : World) (g : Nat) (bs : List UInt8) (bad : Bool) (w' : World) : Prop := Rd w' g bs bad ∧ w.grownBy w' (some g)

theorem grown_refl (w : World) (r : Option Nat) : w.grownBy w r := ⟨rfl, rfl, rfl, Nat.le_refl _, fun _ _ _ => rfl⟩
theorem grown_trans {a b c : World} {g : Nat} (h : a.grownBy b (some g)) (k : b.grownBy c (some g)) : a.grownBy c (some g) :=
  ⟨k.os.trans h.os, k.tape.trans h.tape, k.output.trans h.output, Nat.le_trans h.size k.size, fun i hi hn => (k.block i (Nat.lt_of_lt_of_le hi h.size) hn).trans (h.block i hi hn)⟩
theorem grown_set (w : World) (g i : Nat) (v : Value) : w.grownBy (w.setCell ⟨g, i, none⟩ v) (some g) :=
  ⟨rfl, rfl, rfl, by simp [World.setCell], fun k _ hk => Below.heap_setCell w _ v k (fun e => hk (by rw [e]))⟩

set_option maxHeartbeats 400000 in
theorem read_any (v : Value) (bs : List UInt8) (w : World) (hs : Sl w w.heap.size v bs) :
    Calls Try.prog 66 #[v] w fun e w' => e = .returned (.pointer (some ⟨w.heap.size, 0, none⟩)) ∧ Rd w' w.heap.size bs false ∧ Below w.heap.size w w' := by
  have hcv := run_text_of w _ v bs hs
  go_enter Try.func66, Try.ntmps66
  go_wp2_with fail
  go_ret
  exact ⟨rfl, heap_alloc_new w _, (Below.refl _ _).alloc (Nat.le_refl _) _⟩

set_option maxHeartbeats 400000 in
theorem good_any (g : Nat) (bs : List UInt8) (bad : Bool) (w : World) (hr : Rd w g bs bad) :
    Calls Try.prog 70 #[.pointer (some ⟨g, 0, none⟩)] w fun e w' => e = .returned (.bool !bad) ∧ w = w' := by
  have hc := hr.cell1
  go_enter Try.func70, Try.ntmps70
  go_wp2_with fail
  go_ret
  exact ⟨rfl, rfl⟩

set_option maxHeartbeats 400000 in
theorem good_nil (w : World) :
    Calls Try.prog 70 #[.pointer none] w fun e w' => e = .returned (.bool false) ∧ w = w' := by
  go_enter Try.func70, Try.ntmps70
  go_wp2_with fail
  go_ret
  exact ⟨rfl, rfl⟩

set_option maxHeartbeats 400000 in
theorem fail_any (g : Nat) (bs : List UInt8) (bad : Bool) (w : World) (hr : Rd w g bs bad) :
    Calls Try.prog 81 #[.pointer (some ⟨g, 0, none⟩)] w fun e w' => e = .returned (.tuple #[]) ∧ Left w g [] true w' := by
  have hc0 := hr.cell0
  have hc1 := hr.cell1
  have hf0 := hr.frozen 0
  have hf1 := hr.frozen 1
  go_enter Try.func81, Try.ntmps81
  go_wp2_with fail
  go_end0
  exact ⟨rfl, (hr.set0 []).set1 true, grown_trans (grown_set _ _ _ _) (grown_set _ _ _ _)⟩

set_option maxHeartbeats 400000 in
theorem end_any (g : Nat) (bs : List UInt8) (bad : Bool) (w : World) (hr : Rd w g bs bad) :
    Calls Try.prog 71 #[.pointer (some ⟨g, 0, none⟩)] w fun e w' => e = .returned (.bool (!bad && bs.isEmpty)) ∧ w = w' := by
  have hc0 := hr.cell0
  cases bad
  · go_enter Try.func71, Try.ntmps71
    go_wp2_with (go_at_call 70; refine (good_any g bs _ _ hr).mono ?_; rintro e w1 ⟨rfl, rfl⟩)
    go_ret
    exact ⟨by simp, rfl⟩
  · go_enter Try.func71, Try.ntmps71
    go_wp2_with (go_at_call 70; refine (good_any g bs _ _ hr).mono ?_; rintro e w1 ⟨rfl, rfl⟩)
    go_ret
    exact ⟨rfl, rfl⟩

set_option maxHeartbeats 400000 in
theorem end_nil (w : World) :
    Calls Try.prog 71 #[.pointer none] w fun e w' => e = .returned (.bool false) ∧ w = w' := by
  go_enter Try.func71, Try.ntmps71
  go_wp2_with (go_at_call 70; refine (good_nil _).mono ?_; rintro e w1 ⟨rfl, rfl⟩)
  go_ret
  exact ⟨rfl, rfl⟩

end Go.Proofs.Ythgnchgehmakjaa.Cd

/-
  code.number: the number that a text begins with. Conditions: none.
-/
namespace Go.Proofs.Ythgnchgehmakjaa.Cd
open Go.RowKit

/-- What number answers. -/
def NumIs (l : List UInt8) (w : World) (e : Ending) (w' : World) : Prop := e = .returned (.tuple #[.int .u64 (nv l : Nat), .int .i64 (ns l : Nat)]) ∧ w = w'

theorem NumIs.bad {l : List UInt8} {w : World} {e : Ending} (h : Bad l) (he : e = .returned (.tuple #[.int .u64 0, .int .i64 0])) : NumIs l w e w :=
  ⟨by rw [he, nv_bad h, ns_bad h]; rfl, rfl⟩

theorem NumIs.good {l : List UInt8} {w : World} {e : Ending} {k x : Nat} (h : ¬ Bad l ∧ stop l = k ∧ x = val l (k + 1)) (he : e = .returned (.tuple #[.int .u64 (x : Nat), .int .i64 ((k : Int) + 1)])) : NumIs l w e w := by
  obtain ⟨h1, rfl, rfl⟩ := h
  refine ⟨?_, rfl⟩
  rw [he, nv_good h1, ns_good h1]
  rfl

theorem part_byte (c : UInt8) : IntKind.u64.wrap (bits BinOp.and IntKind.u8 (c.toNat : Int) 127) = ((c.toNat % 128 : Nat) : Int) := by
  have h := u8_and_nat c.toNat 127 c.toNat_lt (by omega)
  have h2 : c.toNat &&& 127 = c.toNat % 128 := Nat.and_two_pow_sub_one_eq_mod _ 7
  rw [show (127 : Int) = ((127 : Nat) : Int) from rfl, h, h2, IntKind.wrap_u64]
  omega

theorem shl_part (p k : Nat) : Op.shift .shl .u64 (p : Int) .i64 (7 * (k : Int)) = pure (.int .u64 (up p k : Nat)) := by
  have h : ¬ (7 * (k : Int) < 0) := by omega
  have h2 : (7 * (k : Int)).toNat = 7 * k := by omega
  simp only [Op.shift, if_neg h, h2, IntKind.bits, IntKind.wrap_u64]
  congr 2

theorem shr_part (y k : Nat) : Op.shift .shr .u64 (y : Int) .i64 (7 * (k : Int)) = pure (.int .u64 (down y k : Nat)) := by
  have h : ¬ (7 * (k : Int) < 0) := by omega
  have h2 : (7 * (k : Int)).toNat = 7 * k := by omega
  simp only [Op.shift, if_neg h, h2, IntKind.bits]
  congr 2
  unfold down
  rw [Int.natCast_ediv, Int.natCast_pow, Int.fdiv_eq_ediv_of_nonneg _ (Int.pow_nonneg (by omega))]
  rfl

theorem at8_of (s : ByteArray) (k : Nat) (h : k < s.size) : s[k].toNat = at8 s.data.toList k := by
  have h2 : k < s.data.toList.length := h
  unfold at8
  rw [List.getD_eq_getElem?_getD, List.getElem?_eq_getElem h2]
  rfl

set_option maxRecDepth 100000 in
set_option maxHeartbeats 800000 in
theorem number_any (s : ByteArray) (w : World) (hs : s.size ≤ 140737488355328) :
    Calls Try.prog 80 #[.string s] w (NumIs s.data.toList w) := by
  go_enter Try.func80, Try.ntmps80
  go_wp2
  go_loop [4, 5] (fun n i => ∃ (m k : Nat), n = .int .u64 m ∧ i = .int .i64 k ∧ k ≤ s.size ∧ m < 18446744073709551616 ∧ Hid (More s.data.toList k) ∧ Hid (k ≤ 9 → m = val s.data.toList k)) (fun _ i => s.size - (intOf i).toNat)
  case atStart => exact ⟨0, 0, rfl, rfl, by omega, by omega, More.zero _, fun _ => rfl⟩
  case round =>
    obtain ⟨m, k, rfl, rfl, hk, hm, hb, hv⟩ := hrel
    by_cases hlt : k < s.size
    · obtain ⟨c, hc⟩ : ∃ c, c = s[k] := ⟨_, rfl⟩
      have hat : c.toNat = at8 s.data.toList k := by rw [hc]; exact at8_of s k hlt
      have hc2 : s[k] = c := hc.symm
      have HAT := Lib.hid hat
      have HC := Lib.hid hc
      clear hat hc
      have E1 := part_byte c
      have E2 := shl_part (c.toNat % 128) k
      have E3 := shr_part (up (c.toNat % 128) k) k
      have E4 := u64_or_nat m (up (c.toNat % 128) k) hm (up_lt _ _)
      generalize hp : c.toNat % 128 = p at E1 E2 E3 E4
      generalize hy : up p k = y at E2 E3 E4
      generalize hz : down y k = z at E3
      have HP := Lib.hid hp
      have HY := Lib.hid hy
      have HZ := Lib.hid hz
      clear hp hy hz
      have hlen : Hid (k < s.data.toList.length) := hlt
      by_cases ha : 0 < k ∧ c.toNat = 0
      · obtain ⟨h0, hcz⟩ := ha
        have hbad : Hid (Bad s.data.toList) := num_zero hb.out hlen.out h0 (by rw [← HAT.out]; exact hcz)
        have hq : ((c.toNat : Int) == 0) = true := by simp; omega
        clear hcz hb hv E2 E3 E4 E1
        go_wp2
        go_ret2
        exact NumIs.bad hbad.out rfl
      · by_cases hzp : z = p
        · have hq : ((z : Int) != (p : Int)) = false := by simp; omega
          by_cases h8 : c.toNat < 128
          · have hdone := num_done hb.out hlen.out (by rw [← HAT.out]; exact h8) (by rw [← HAT.out]; omega) (by rw [← HAT.out, HP.out, HY.out, HZ.out]; exact hzp) hv.out
            rw [← HAT.out, HP.out, HY.out] at hdone
            have HD := Lib.hid hdone
            clear hdone hzp hb hv
            by_cases h0 : 0 < k
            · have hq2 : ((c.toNat : Int) == 0) = false := by simp; omega
              clear ha
              go_wp2
              go_ret2
              exact NumIs.good HD.out rfl
            · have hk0 : decide (0 < k) = false := by simpa using h0
              clear ha h0
              go_wp2
              go_ret2
              exact NumIs.good HD.out rfl
          · have hstep : Hid (k + 1 ≤ 9 → m ||| y = val s.data.toList (k + 1)) := fun h9 => by
              have := num_step hv.out (by omega)
              rw [← HAT.out, HP.out, HY.out] at this
              exact this
            have hmore : Hid (More s.data.toList (k + 1)) := hb.out.succ (by rw [← HAT.out]; omega)
            have hor : m ||| y < 18446744073709551616 := Nat.or_lt_two_pow (n := 64) hm (by rw [← HY.out]; exact up_lt _ _)
            have hq2 : ((c.toNat : Int) == 0) = false := by simp; omega
            clear hzp hb hv ha
            by_cases h0 : 0 < k
            · go_wp2
              go_round
              case rel => exact ⟨m ||| y, k + 1, by go_num, by go_num, by omega, hor, hmore, hstep⟩
              case measure => simp [intOf]; omega
            · have hk0 : decide (0 < k) = false := by simpa using h0
              clear h0
              go_wp2
              go_round
              case rel => exact ⟨m ||| y, k + 1, by go_num, by go_num, by omega, hor, hmore, hstep⟩
              case measure => simp [intOf]; omega
        · have hq : ((z : Int) != (p : Int)) = true := by simp; omega
          have hbad : Hid (Bad s.data.toList) := num_over hb.out hlen.out (by rw [← HAT.out, HP.out, HY.out, HZ.out]; exact hzp)
          clear hzp hb hv
          by_cases h0 : 0 < k
          · have hq2 : ((c.toNat : Int) == 0) = false := by simp; omega
            clear ha
            go_wp2
            go_ret2
            exact NumIs.bad hbad.out rfl
          · have hk0 : decide (0 < k) = false := by simpa using h0
            clear ha h0
            go_wp2
            go_ret2
            exact NumIs.bad hbad.out rfl
    · have : k = s.size := by omega
      have hbad : Hid (Bad s.data.toList) := num_end (by have := hb.out; subst k; exact this)
      clear this hb hv
      go_wp2
      go_ret2
      exact NumIs.bad hbad.out rfl

end Go.Proofs.Ythgnchgehmakjaa.Cd

/-
  code.Reader: Uint, Int, In, Take, Text. Conditions: none.
-/
namespace Go.Proofs.Ythgnchgehmakjaa.Cd
open Go.RowKit

theorem number_list (bs : List UInt8) (w : World) (hs : bs.length ≤ 140737488355328) : Calls Try.prog 80 #[.string ⟨bs.toArray⟩] w (NumIs bs w) :=
  number_any ⟨bs.toArray⟩ w hs

theorem extract_tail (bs : List UInt8) (k n : Nat) (hn : n = bs.length) : (ByteArray.mk bs.toArray).extract k n = ⟨(bs.drop k).toArray⟩ := by
  subst hn
  apply ByteArray.ext
  simp [ByteArray.data_extract, List.take_of_length_le]

theorem extract_head (bs : List UInt8) (k : Nat) : (ByteArray.mk bs.toArray).extract 0 k = ⟨(bs.take k).toArray⟩ := by
  apply ByteArray.ext
  simp [ByteArray.data_extract, List.extract_eq_take_drop]

theorem Rd.set0' {w : World} {g : Nat} {bs : List UInt8} {bad : Bool} (h : Rd w g bs bad) {v : Value} (cs : List UInt8) (hv : v = .string ⟨cs.toArray⟩) : Rd (w.setCell ⟨g, 0, none⟩ v) g cs bad := by
  subst hv
  exact h.set0 cs

/-- What a reader's method leaves: its answer, and the reader. -/
def Ans (v : Value) (w : World) (g : Nat) (bs : List UInt8) (bad : Bool) (e : Ending) (w' : World) : Prop := e = .returned v ∧ Left w g bs bad w'

set_option maxRecDepth 100000 in
set_option maxHeartbeats 400000 in
theorem ruint_any (g : Nat) (bs : List UInt8) (bad : Bool) (w : World) (hr : Rd w g bs bad) (hbb : Sane bad bs) (hs : bs.length ≤ 140737488355328) :
    Calls Try.prog 68 #[.pointer (some ⟨g, 0, none⟩)] w (Ans (.int .u64 (nv bs : Nat)) w g (uB bs) (uX bs)) := by
  have HS := Lib.hid hbb
  have HR := Lib.hid hr
  have hc0 := hr.cell0
  have hf0 := hr.frozen 0
  clear hbb hr
  cases bad
  · by_cases hbad : Bad bs
    · have hx : Hid (uB bs = [] ∧ uX bs = true ∧ nv bs = 0) := ⟨if_pos hbad, decide_eq_true hbad, nv_bad hbad⟩
      have hn : ((ns bs : Int) == 0) = true := by rw [ns_bad hbad]; rfl
      clear hbad
      go_enter Try.func68, Try.ntmps68
      go_wp2_with (first | (go_at_call 70; refine (good_any g bs _ _ HR.out).mono ?_; rintro e w1 ⟨rfl, rfl⟩) | (go_at_call 80; refine (number_list bs _ hs).mono ?_; rintro e w1 ⟨rfl, rfl⟩) | (go_at_call 81; refine (fail_any g bs _ _ HR.out).mono ?_; rintro e w1 ⟨rfl, hl⟩))
      go_ret
      obtain ⟨h1, h2, h3⟩ := hx.out
      rw [h1, h2, h3]
      exact ⟨rfl, hl⟩
    · have hx : Hid (uB bs = bs.drop (ns bs) ∧ uX bs = false) := ⟨if_neg hbad, decide_eq_false hbad⟩
      have hn : ((ns bs : Int) == 0) = false := by have := fun h => hbad (ns_zero.1 h); simp; omega
      have hle := ns_le bs
      have hsz : (ByteArray.mk bs.toArray).size = bs.length := rfl
      clear hbad
      go_enter Try.func68, Try.ntmps68
      go_wp2_with (first | (go_at_call 70; refine (good_any g bs _ _ HR.out).mono ?_; rintro e w1 ⟨rfl, rfl⟩) | (go_at_call 80; refine (number_list bs _ hs).mono ?_; rintro e w1 ⟨rfl, rfl⟩))
      go_ret
      obtain ⟨h1, h2⟩ := hx.out
      rw [h1, h2]
      refine ⟨rfl, HR.out.set0' _ ?_, grown_set _ _ _ _⟩
      rw [extract_tail _ _ _ rfl]
  · have hx : Hid (bs = []) := HS.out rfl
    go_enter Try.func68, Try.ntmps68
    go_wp2_with (first | (go_at_call 70; refine (good_any g bs _ _ HR.out).mono ?_; rintro e w1 ⟨rfl, rfl⟩))
    go_ret
    have h0 := hx.out
    have hr := HR.out
    subst h0
    exact ⟨rfl, hr, grown_refl _ _⟩

theorem left_trans {w w1 w2 : World} {g : Nat} {a b : List UInt8} {x y : Bool} (h : Left w g a x w1) (k : Left w1 g b y w2) : Left w g b y w2 := ⟨k.1, grown_trans h.2 k.2⟩

theorem uX_eq (bs : List UInt8) : (uX bs = true) ↔ Bad bs := decide_eq_true_iff

set_option maxHeartbeats 400000 in
theorem rtake_any (g : Nat) (n : Int) (bs : List UInt8) (bad : Bool) (w : World) (hr : Rd w g bs bad) (hbb : Sane bad bs) (hs : bs.length ≤ 140737488355328) :
    Calls Try.prog 78 #[.pointer (some ⟨g, 0, none⟩), .int .i64 n] w (Ans (.string ⟨(tkV bad n bs).toArray⟩) w g (tkB bad n bs) (tkX bad n bs)) := by
  have HS := Lib.hid hbb
  have HR := Lib.hid hr
  have hc0 := hr.cell0
  have hf0 := hr.frozen 0
  have hsz : (ByteArray.mk bs.toArray).size = bs.length := rfl
  clear hbb hr
  cases bad
  · by_cases hbad : TkBad false n bs
    · have hx : Hid (tkB false n bs = [] ∧ tkX false n bs = true ∧ tkV false n bs = []) := ⟨if_pos hbad, decide_eq_true hbad, if_pos hbad⟩
      have ho : n < 0 ∨ (bs.length : Int) < n := by
        rcases hbad with h | h
        · cases h
        · exact h
      clear hbad
      rcases (by omega : n < 0 ∨ (¬ n < 0 ∧ (bs.length : Int) < n)) with h0 | ⟨h0, h1⟩
      all_goals
        clear ho
        go_enter Try.func78, Try.ntmps78
        go_wp2_with (first | (go_at_call 70; refine (good_any g bs _ _ HR.out).mono ?_; rintro e w1 ⟨rfl, rfl⟩) | (go_at_call 81; refine (fail_any g bs _ _ HR.out).mono ?_; rintro e w1 ⟨rfl, hl⟩))
        go_ret
        obtain ⟨h1, h2, h3⟩ := hx.out
        rw [h1, h2, h3]
        exact ⟨rfl, hl⟩
    · have hx : Hid (tkB false n bs = bs.drop n.toNat ∧ tkX false n bs = false ∧ tkV false n bs = bs.take n.toNat) := ⟨if_neg hbad, decide_eq_false hbad, if_neg hbad⟩
      have h0 : ¬ n < 0 := fun h => hbad (.inr (.inl h))
      have h1 : ¬ (bs.length : Int) < n := fun h => hbad (.inr (.inr h))
      clear hbad
      obtain ⟨k, rfl⟩ := Int.eq_ofNat_of_zero_le (by omega : 0 ≤ n)
      have h2 : k ≤ bs.length := by omega
      go_enter Try.func78, Try.ntmps78
      go_wp2_with (first | (go_at_call 70; refine (good_any g bs _ _ HR.out).mono ?_; rintro e w1 ⟨rfl, rfl⟩))
      go_ret
      obtain ⟨h1, h2, h3⟩ := hx.out
      rw [h1, h2, h3, Int.toNat_natCast]
      refine ⟨?_, HR.out.set0' _ ?_, grown_set _ _ _ _⟩
      · rw [← extract_head]; rfl
      · rw [extract_tail _ _ _ rfl]
  · have hx : Hid (bs = []) := HS.out rfl
    go_enter Try.func78, Try.ntmps78
    go_wp2_with (first | (go_at_call 70; refine (good_any g bs _ _ HR.out).mono ?_; rintro e w1 ⟨rfl, rfl⟩))
    go_ret
    have h0 := hx.out
    have hr := HR.out
    subst h0
    have hb : TkBad true n [] := .inl rfl
    refine ⟨by unfold tkV; rw [if_pos hb]; rfl, ?_, grown_refl _ _⟩
    unfold tkB tkX
    rw [if_pos hb, decide_eq_true hb]
    exact hr

theorem tk_nil_bad (n : Int) : tkV true n [] = [] ∧ tkB true n [] = [] ∧ tkX true n [] = true := by
  have hb : TkBad true n [] := .inl rfl
  exact ⟨if_pos hb, if_pos hb, decide_eq_true hb⟩

set_option maxRecDepth 100000 in
set_option maxHeartbeats 400000 in
theorem rtext_any (g : Nat) (most : Int) (bs : List UInt8) (bad : Bool) (w : World) (hr : Rd w g bs bad) (hbb : Sane bad bs) (hs : bs.length ≤ 140737488355328) (hm : most ≤ 9223372036854775807) :
    Calls Try.prog 69 #[.pointer (some ⟨g, 0, none⟩), .int .i64 most] w (Ans (.string ⟨(txV most bs).toArray⟩) w g (txB most bs) (txX most bs)) := by
  have hu := Lib.hid (ruint_any g bs bad w hr hbb hs)
  clear hr hbb
  have hlen := uB_len bs
  have hsane := Lib.hid (Sane.u bs)
  have hn := nv_u64 bs
  by_cases hb : Bad bs
  · have ht : TxBad most bs := .inl hb
    have hx : Hid (txB most bs = [] ∧ txX most bs = true ∧ txV most bs = []) := ⟨if_pos ht, decide_eq_true ht, if_pos ht⟩
    have hx0 : Hid (uB bs = []) := if_pos hb
    have hx2 : uX bs = true := (uX_eq bs).2 hb
    have hn0 := nv_bad hb
    clear hb ht
    rw [hx2] at hu hsane
    rw [hn0] at hu
    clear hn0
    go_enter Try.func69, Try.ntmps69
    go_wp2_with (first | (go_at_call 68; refine hu.out.mono ?_; rintro e w1 ⟨rfl, hl⟩) | (go_at_call 70; refine (good_any g _ _ _ hl.1).mono ?_; rintro e w2 ⟨rfl, rfl⟩) | (go_at_call 78; refine (rtake_any g _ _ _ _ hl.1 hsane.out (by omega)).mono ?_; rintro e w2 ⟨rfl, hl2⟩))
    go_ret
    obtain ⟨h1, h2, h3⟩ := hx.out
    rw [h1, h2, h3]
    rw [hx0.out] at hl2
    obtain ⟨k1, k2, k3⟩ := tk_nil_bad 0
    refine ⟨?_, ?_⟩
    · show Ending.returned (.string ⟨(tkV true 0 (uB bs)).toArray⟩) = _
      rw [hx0.out, k1]
    · have := left_trans hl hl2
      rw [k2, k3] at this
      exact this
  · have hx2 : uX bs = false := decide_eq_false hb
    have hx0 : Hid (uB bs = bs.drop (ns bs)) := if_neg hb
    rw [hx2] at hu hsane
    by_cases ho : most < 0 ∨ most < (nv bs : Nat)
    · have ht : TxBad most bs := .inr (by rcases ho with h | h; exact .inl h; exact .inr (.inl h))
      have hx : Hid (txB most bs = [] ∧ txX most bs = true ∧ txV most bs = []) := ⟨if_pos ht, decide_eq_true ht, if_pos ht⟩
      clear hb ht
      generalize nv bs = n at hu ho hn
      rcases (by omega : most < 0 ∨ (¬ most < 0 ∧ most < (n : Int))) with h0 | ⟨h0, h1⟩
      all_goals
        clear ho
        go_enter Try.func69, Try.ntmps69
        go_wp2_with (first | (go_at_call 68; refine hu.out.mono ?_; rintro e w1 ⟨rfl, hl⟩) | (go_at_call 70; refine (good_any g _ _ _ hl.1).mono ?_; rintro e w2 ⟨rfl, rfl⟩) | (go_at_call 81; refine (fail_any g _ _ _ hl.1).mono ?_; rintro e w2 ⟨rfl, hl2⟩))
        go_ret
        obtain ⟨h1, h2, h3⟩ := hx.out
        rw [h1, h2, h3]
        exact ⟨rfl, left_trans hl hl2⟩
    · have h0 : ¬ most < 0 := fun h => ho (.inl h)
      have h1 : ¬ most < (nv bs : Nat) := fun h => ho (.inr h)
      have hx : Hid (txB most bs = tkB false (nv bs : Nat) (uB bs) ∧ txX most bs = tkX false (nv bs : Nat) (uB bs) ∧ txV most bs = tkV false (nv bs : Nat) (uB bs)) := by
        have e := hx0.out
        have hiff : TxBad most bs ↔ TkBad false (nv bs : Nat) (uB bs) := by
          unfold TxBad TkBad
          rw [e]
          simp only [Bool.false_eq_true, false_or]
          constructor
          · rintro (h | h | h | h)
            · exact absurd h hb
            · exact absurd h h0
            · exact absurd h h1
            · exact .inr (by omega)
          · rintro (h | h)
            · omega
            · exact .inr (.inr (.inr (by omega)))
        unfold Hid txB txX txV tkB tkX tkV
        by_cases hk : TkBad false (nv bs : Nat) (uB bs)
        · rw [if_pos hk, if_pos hk, if_pos (hiff.2 hk), if_pos (hiff.2 hk), decide_eq_true hk, decide_eq_true (hiff.2 hk)]
          exact ⟨rfl, rfl, rfl⟩
        · have hk2 := fun h => hk (hiff.1 h)
          rw [if_neg hk, if_neg hk, if_neg hk2, if_neg hk2, decide_eq_false hk, decide_eq_false hk2, e, Int.toNat_natCast]
          exact ⟨rfl, rfl, rfl⟩
      clear hb ho hx0
      generalize nv bs = n at hu h1 hn hx
      go_enter Try.func69, Try.ntmps69
      go_wp2_with (first | (go_at_call 68; refine hu.out.mono ?_; rintro e w1 ⟨rfl, hl⟩) | (go_at_call 70; refine (good_any g _ _ _ hl.1).mono ?_; rintro e w2 ⟨rfl, rfl⟩) | (go_at_call 78; refine (rtake_any g _ _ _ _ hl.1 hsane.out (by omega)).mono ?_; rintro e w2 ⟨rfl, hl2⟩))
      go_ret
      obtain ⟨h1, h2, h3⟩ := hx.out
      rw [h1, h2, h3]
      exact ⟨rfl, left_trans hl hl2⟩

/-! ### A nil reader -/

/-- A nil reader's answer: nothing turns. -/
def Still (v : Value) (w : World) (e : Ending) (w' : World) : Prop := e = .returned v ∧ w = w'

set_option maxHeartbeats 400000 in
theorem ruint_nil (w : World) : Calls Try.prog 68 #[.pointer none] w (Still (.int .u64 0) w) := by
  go_enter Try.func68, Try.ntmps68
  go_wp2_with (first | (go_at_call 70; refine (good_nil _).mono ?_; rintro e w1 ⟨rfl, rfl⟩))
  go_ret
  exact ⟨rfl, rfl⟩

set_option maxHeartbeats 400000 in
theorem rtake_nil (n : Int) (w : World) : Calls Try.prog 78 #[.pointer none, .int .i64 n] w (Still (.string ⟨#[]⟩) w) := by
  go_enter Try.func78, Try.ntmps78
  go_wp2_with (first | (go_at_call 70; refine (good_nil _).mono ?_; rintro e w1 ⟨rfl, rfl⟩))
  go_ret
  exact ⟨rfl, rfl⟩

set_option maxHeartbeats 400000 in
theorem rtext_nil (most : Int) (w : World) : Calls Try.prog 69 #[.pointer none, .int .i64 most] w (Still (.string ⟨#[]⟩) w) := by
  go_enter Try.func69, Try.ntmps69
  go_wp2_with (first | (go_at_call 68; refine (ruint_nil _).mono ?_; rintro e w1 ⟨rfl, rfl⟩) | (go_at_call 70; refine (good_nil _).mono ?_; rintro e w1 ⟨rfl, rfl⟩) | (go_at_call 78; refine (rtake_nil _ _).mono ?_; rintro e w1 ⟨rfl, rfl⟩))
  go_ret
  exact ⟨rfl, rfl⟩

end Go.Proofs.Ythgnchgehmakjaa.Cd

/-
  Slices of strings: how they read, how they grow. Conditions: none.
-/
namespace Go.Proofs.Ythgnchgehmakjaa.Cd
open Go.RowKit Go.ChangeShapes Go.WideShapes Go.Deep

/-- Texts as cells. -/
def vs (l : List (List UInt8)) : List Value := l.map fun s => Value.string ⟨s.toArray⟩
theorem vs_length (l : List (List UInt8)) : (vs l).length = l.length := by simp [vs]
theorem vs_append (a b : List (List UInt8)) : vs (a ++ b) = vs a ++ vs b := by simp [vs]
theorem vs_at (l : List (List UInt8)) (j : Nat) (hj : j < l.length) : (vs l)[j]? = some (.string ⟨l[j].toArray⟩) := by simp [vs, hj]
theorem vs_one (l : List (List UInt8)) : ∀ u ∈ vs l, u.oneCell' = true := by
  intro u hu
  simp only [vs, List.mem_map] at hu
  obtain ⟨b, _, rfl⟩ := hu
  rfl

/-- A slice value that reads as the texts 'l'. -/
def Strs (w : World) (B : Nat) (v : Value) (l : List (List UInt8)) : Prop :=
  ∃ A c, v = .slice A l.length c ∧ l.length ≤ c ∧ c ≤ maxLen ∧ (A = none → c = 0) ∧
    (0 < l.length → ∃ b off, A = some ⟨b, off, none⟩ ∧ b < B ∧ ∀ j u, (vs l)[j]? = some u → w.cell? ⟨b, off + j, none⟩ = some u)

theorem Strs.below {w w' : World} {B : Nat} {v : Value} {l : List (List UInt8)} (h : Strs w B v l) (hb : Below B w w') : Strs w' B v l := by
  obtain ⟨A, c, h1, h2, h3, h4, h5⟩ := h
  refine ⟨A, c, h1, h2, h3, h4, fun h0 => ?_⟩
  obtain ⟨b, off, e, hB, hc⟩ := h5 h0
  exact ⟨b, off, e, hB, fun j u hu => (hb.cell (p := ⟨b, off + j, none⟩) hB).trans (hc j u hu)⟩

theorem Strs.more {w : World} {B B' : Nat} {v : Value} {l : List (List UInt8)} (h : Strs w B v l) (hB : B ≤ B') : Strs w B' v l := by
  obtain ⟨A, c, h1, h2, h3, h4, h5⟩ := h
  refine ⟨A, c, h1, h2, h3, h4, fun h0 => ?_⟩
  obtain ⟨b, off, e, hB', hc⟩ := h5 h0
  exact ⟨b, off, e, Nat.lt_of_lt_of_le hB' hB, hc⟩

theorem Strs.len {w : World} {B : Nat} {v : Value} {l : List (List UInt8)} (h : Strs w B v l) : ∃ A c, v = .slice A l.length c ∧ l.length ≤ c ∧ c ≤ maxLen := by
  obtain ⟨A, c, h1, h2, h3, _⟩ := h
  exact ⟨A, c, h1, h2, h3⟩

theorem Strs.at {w : World} {B : Nat} {v : Value} {l : List (List UInt8)} (h : Strs w B v l) (h0 : 0 < l.length) :
    ∃ b off c, v = .slice (some ⟨b, off, none⟩) l.length c ∧ l.length ≤ c ∧ c ≤ maxLen ∧ b < B ∧ ∀ j (hj : j < l.length), w.cell? ⟨b, off + j, none⟩ = some (.string ⟨l[j].toArray⟩) := by
  obtain ⟨A, c, rfl, h2, h3, h4, h5⟩ := h
  obtain ⟨b, off, rfl, hB, hc⟩ := h5 h0
  exact ⟨b, off, c, rfl, h2, h3, hB, fun j hj => hc j _ (vs_at l j hj)⟩

theorem Strs.take {w : World} {B : Nat} {A : Option Addr} {L c : Nat} {l : List (List UInt8)} (h : Strs w B (.slice A L c) l) (k : Nat) (hk : k ≤ l.length) : Strs w B (.slice A k c) (l.take k) := by
  obtain ⟨A', c', e, h2, h3, h4, h5⟩ := h
  injection e with e1 e2 e3
  subst e1 e2 e3
  have hl : (l.take k).length = k := by rw [List.length_take]; omega
  refine ⟨A, c, by rw [hl], by rw [hl]; omega, h3, h4, fun h0 => ?_⟩
  rw [hl] at h0
  obtain ⟨b, off, e, hB, hc⟩ := h5 (by omega)
  refine ⟨b, off, e, hB, fun j u hu => hc j u ?_⟩
  have hj := (List.getElem?_eq_some_iff.1 hu).1
  rw [vs_length, hl] at hj
  rw [← hu]
  simp only [vs, List.map_take]
  rw [List.getElem?_take, if_pos hj]

/-- A row of texts of the call's own. -/
def OwnS (w : World) (B : Nat) (v : Value) (l : List (List UInt8)) : Prop := w.ownsRow B 9 1 v l.length (vs l)

theorem OwnS.nil (w : World) (B : Nat) : OwnS w B (.slice none 0 0) [] := World.ownsRow_nil _ _ _ _
theorem OwnS.alloc {w : World} {B : Nat} {v : Value} {l : List (List UInt8)} (h : OwnS w B v l) (o : Obj) : OwnS (w.alloc o) B v l := World.ownsRow.alloc h o
theorem OwnS.lower {w : World} {B B' : Nat} {v : Value} {l : List (List UInt8)} (h : OwnS w B v l) (hB : B' ≤ B) : OwnS w B' v l := by
  refine ⟨h.1, ?_⟩
  rcases h.2 with h2 | ⟨g, cap, cur, hv, hg, r⟩
  · exact .inl h2
  · exact .inr ⟨g, cap, cur, hv, Nat.le_trans hB hg, r⟩
theorem OwnS.keep {w w' : World} {B : Nat} {v : Value} {l : List (List UInt8)} (h : OwnS w B v l) (hb : Below w.heap.size w w') : OwnS w' B v l := by
  have hlt := h.lt
  refine ⟨h.1, ?_⟩
  rcases h.2 with h2 | ⟨g, cap, cur, rfl, hg, hh, r⟩
  · exact .inl h2
  · exact .inr ⟨g, cap, cur, rfl, hg, (hb.block g (hlt g rfl).2).trans hh, r⟩
/-- A block below the row's is written. -/
theorem OwnS.far {w w' : World} {B g : Nat} {v : Value} {l : List (List UInt8)} (h : OwnS w B v l) (hg : w.grownBy w' (some g)) (hlt0 : g < B) : OwnS w' B v l := by
  have hlt := h.lt
  refine ⟨h.1, ?_⟩
  rcases h.2 with h2 | ⟨g', cap, cur, rfl, hb, hh, r⟩
  · exact .inl h2
  · exact .inr ⟨g', cap, cur, rfl, hb, (hg.block g' (hlt g' rfl).2 (fun e => by injection e with e; omega)).trans hh, r⟩

theorem OwnS.strs {w : World} {B : Nat} {v : Value} {l : List (List UInt8)} (h : OwnS w B v l) : Strs w w.heap.size v l := by
  have hlt := h.lt
  have hc := fun g hg => h.cells (g := g) hg
  rcases h.2 with ⟨rfl, h0⟩ | ⟨g, cap, cur, rfl, _, hg, hn, hm, _, _⟩
  · have : l = [] := List.eq_nil_of_length_eq_zero h0
    subst this
    exact ⟨none, 0, rfl, by simp, by simp, fun _ => rfl, fun h => by simp at h⟩
  · refine ⟨_, cap, rfl, hn, hm, (fun h => by cases h), fun _ => ⟨g, 0, rfl, (hlt g rfl).2, fun j u hu => ?_⟩⟩
    have := hc g rfl j u hu
    rwa [Addr.add_lit] at this

theorem info_str : (Try.prog.info? 9).map (fun i => (i.zero, i.size, i.bytes)) = some (some (.string ByteArray.empty), 1, 16) := by kernel_rfl

/-- append of texts, onto a row of the call's own. -/
theorem run_append_strs (w : World) (B : Nat) (v : Value) (l : List (List UInt8)) (ho : OwnS w B v l) (hB : B ≤ w.heap.size) (x : Value) (B' : Nat) (ns : List (List UInt8)) (hx : Strs w B' x ns)
    (hm : l.length + ns.length ≤ 8796093022208) (ty : TypeId) :
    ∃ v' w', (Builtin.append_ #[103, 103] ty #[v, x]).run Try.prog w = .ok v' w' ∧ OwnS w' B v' (l ++ ns) ∧ Below B w w' := by
  obtain ⟨i0, hi, hz0, hz1, hz2⟩ := info_parts info_str
  have hmax : l.length + ns.length ≤ maxLen := by simp only [maxLen]; omega
  obtain ⟨A, c, rfl, _, _, h4, h6⟩ := hx
  by_cases h0 : 0 < ns.length
  · obtain ⟨b, off, rfl, _, hc⟩ := h6 h0
    obtain ⟨v', w', hr, h2, h3, _⟩ := run_append_own (P := Try.prog) w B 103 ty 9 i0 _ 1 16 Try.underlying103 hi hz0 hz1 hz2 rfl (by omega) v l.length (vs l) ho ⟨b, off, none⟩ ns.length c (vs ns) (by simp [vs]) (fun j u hu => by rw [Addr.add_lit]; exact hc j u hu) (vs_one ns) hmax (by omega) hB
    refine ⟨v', w', hr, ?_, (Below.refl _ _).grown h3 hB (fun k hk => (ho.lt k hk).1)⟩
    unfold OwnS
    rw [vs_append, List.length_append]
    exact h2
  · have hns : ns = [] := List.eq_nil_of_length_eq_zero (by omega)
    subst hns
    cases A with
    | some ad =>
      obtain ⟨v', w', hr, h2, h3, _⟩ := run_append_own (P := Try.prog) w B 103 ty 9 i0 _ 1 16 Try.underlying103 hi hz0 hz1 hz2 rfl (by omega) v l.length (vs l) ho ad 0 c [] rfl (fun j u hu => by simp at hu) (by simp) hmax (by simpa using by omega) hB
      refine ⟨v', w', hr, ?_, (Below.refl _ _).grown h3 hB (fun k hk => (ho.lt k hk).1)⟩
      unfold OwnS
      rw [vs_append, List.length_append]
      exact h2
    | none =>
      have hc := h4 rfl
      subst hc
      refine ⟨v, w, ?_, by simpa using ho, Below.refl _ _⟩
      rcases ho.2 with ⟨rfl, h0⟩ | ⟨g, cap, cur, rfl, _, _, hnc, _⟩
      · simp [Builtin.append_, run_underlying Try.underlying103, sizeOf, typeInfo, hi, Builtin.lenOf, Builtin.firstCells]
      · simp [Builtin.append_, run_underlying Try.underlying103, sizeOf, typeInfo, hi, Builtin.lenOf, Builtin.firstCells, hnc, storeCells]

/-- append of texts, for the walk. -/
theorem wp_append_strs {w : World} {ops : Array Oper} {rest : List Oper} {o : Oper} {a : Act} {Q : Exit → Act → World → Prop} (hgd : o.guard = none) (s x : Operand)
    (hop : o.op = .call { callee := .builtin .append, args := #[s, x], argTypes := #[103, 103] })
    (B : Nat) (v : Value) (l : List (List UInt8)) (hs : a.eval s = v) (ho : OwnS w B v l) (hB : B ≤ w.heap.size) (y : Value) (B' : Nat) (ns : List (List UInt8)) (hx : a.eval x = y) (hy : Strs w B' y ns)
    (hm : l.length + ns.length ≤ 8796093022208)
    (hK : ∀ v' w', OwnS w' B v' (l ++ ns) → Below B w w' → wpList Try.prog ops Q rest (a.put o.dst v') w') : wpList Try.prog ops Q (o :: rest) a w := by
  refine wpList_plain hgd fun K hK' => ?_
  obtain ⟨v', w', hrun, r1, r2⟩ := run_append_strs w B v l ho hB y B' ns hy hm o.type
  unfold Oper.wp
  simp [execOp, hop, resolve, invoke, builtin, hs, hx, hrun, Result.andThen]
  exact hK' _ _ (hK v' w' r1 r2)

/-- A row stays while another, older one grows. -/
theorem OwnS.apart {w w' : World} {B : Nat} {v : Value} {l : List (List UInt8)} {r : Option Nat} (h : OwnS w B v l) (hg : w.grownBy w' r) (hr : ∀ k, r = some k → k < B) : OwnS w' B v l :=
  World.ownsRow.kept h hg (by
    cases hv : v.ownBlock with
    | none => exact .inl rfl
    | some k => exact .inr fun e => by have h1 := (World.ownsRow.lt h k hv).1; have h2 := hr k e.symm; omega)

/-- append of bytes, for the walk: what else lies there stays. -/
theorem wp_append_far {w : World} {ops : Array Oper} {rest : List Oper} {o : Oper} {a : Act} {Q : Exit → Act → World → Prop} (hgd : o.guard = none) (s x : Operand)
    (hop : o.op = .call { callee := .builtin .append, args := #[s, x], argTypes := #[31, 31] })
    (B : Nat) (v : Value) (bs : List UInt8) (hs : a.eval s = v) (ho : Own w B v bs) (hB : B ≤ w.heap.size) (y : Value) (B' : Nat) (ns : List UInt8) (hx : a.eval x = y) (hy : Sl w B' y ns)
    (hm : bs.length + ns.length ≤ 140737488355328)
    (hK : ∀ v' w', Own w' B v' (bs ++ ns) → Below B w w' → w.grownBy w' v.ownBlock → wpList Try.prog ops Q rest (a.put o.dst v') w') : wpList Try.prog ops Q (o :: rest) a w := by
  refine wpList_plain hgd fun K hK' => ?_
  obtain ⟨i0, hi, hz0, hz1, hz2⟩ := info_parts info5
  have hmax : bs.length + ns.length ≤ maxLen := by simp only [maxLen]; omega
  obtain ⟨v', w', hrun, r1, r2, r3⟩ : ∃ v' w', (Builtin.append_ #[31, 31] o.type #[v, y]).run Try.prog w = .ok v' w' ∧ Own w' B v' (bs ++ ns) ∧ Below B w w' ∧ w.grownBy w' v.ownBlock := by
    obtain ⟨A, c, rfl, _, _, h4, _, h6⟩ := hy
    cases A with
    | some ad =>
      obtain ⟨v', w', hr, h2, h3, _⟩ := run_append_own (P := Try.prog) w B 31 o.type 5 i0 _ 1 1 Try.underlying31 hi hz0 hz1 hz2 rfl (by omega) v bs.length (vb bs) ho ad ns.length c (vb ns) (by simp [vb]) (h6 ad rfl) (vb_one ns) hmax (by omega) hB
      refine ⟨v', w', hr, ?_, (Below.refl _ _).grown h3 hB (fun k hk => (ho.lt k hk).1), h3⟩
      unfold Own
      rw [vb_append, List.length_append]
      exact h2
    | none =>
      have hc := h4 rfl
      subst hc
      have : ns = [] := List.eq_nil_of_length_eq_zero (by omega)
      subst this
      refine ⟨v, w, ?_, by simpa using ho, Below.refl _ _, ⟨rfl, rfl, rfl, Nat.le_refl _, fun _ _ _ => rfl⟩⟩
      rcases ho.2 with ⟨rfl, h0⟩ | ⟨g, cap, cur, rfl, _, _, hnc, _⟩
      · simp [Builtin.append_, run_underlying Try.underlying31, sizeOf, typeInfo, hi, Builtin.lenOf, Builtin.firstCells]
      · simp [Builtin.append_, run_underlying Try.underlying31, sizeOf, typeInfo, hi, Builtin.lenOf, Builtin.firstCells, hnc, storeCells]
  unfold Oper.wp
  simp [execOp, hop, resolve, invoke, builtin, hs, hx, hrun, Result.andThen]
  exact hK' _ _ (hK v' w' r1 r2 r3)

/-- One text, laid out a moment ago. -/
theorem strs_one (w : World) (s : List UInt8) (T : TypeId) : Strs (w.alloc (.cells #[.string ⟨s.toArray⟩] T)) (w.heap.size + 1) (.slice (some ⟨w.heap.size, 0, none⟩) 1 1) [s] :=
  ⟨_, 1, rfl, by simp, by simp [maxLen], (fun h => by cases h), fun _ => ⟨w.heap.size, 0, rfl, by omega, fun j u hu => by
    have hj := (List.getElem?_eq_some_iff.1 hu).1
    rw [vs_length] at hj
    obtain rfl : j = 0 := by simp at hj; omega
    have := cell_of_row (w.alloc (.cells #[.string ⟨s.toArray⟩] T)) w.heap.size 0 #[.string ⟨s.toArray⟩] T (0, 0) (heap_alloc_new w _)
    rw [this]
    simpa [vs] using hu⟩⟩

theorem owns_new (w : World) (B : Nat) (hB : B ≤ w.heap.size) : OwnS (w.alloc (.cells #[] 9)) B (.slice (some ⟨w.heap.size, 0, none⟩) 0 0) [] :=
  World.ownsRow_made (base := B) (e := 9) (size := 1) w #[] 0 hB (by simp) rfl

theorem cells_str : Try.prog.cellsOf 9 = 1 := by kernel_rfl
theorem bytes_str : Try.prog.bytesOf 9 = 16 := by kernel_rfl

theorem strs_of_trod {H : Type} {enc : TypeId × Value → H} {w : World} {v : Value} {d : DataW H} {ps : List MemPlace} (hv : ∃ A n c, v = .slice A n c)
    (h : DataW.Trod enc Try.prog w 0 (fun _ => true) true 103 v d ps) (hw : ∀ n ∈ d.weights Try.prog 103, n ≤ reachBytes) :
    ∃ l, Strs w w.heap.size v l ∧ ∀ p ∈ l, p.length ≤ 140737488351232 := by
  obtain ⟨A0, n0, c0, rfl⟩ := hv
  obtain ⟨fuel, hf⟩ := h
  rcases open_strs Try.underlying103 Try.underlying9 cells_str hf with ⟨hcs, _⟩ | ⟨a, len, cap, m, Sx, hcs, _, hl, hm, hmm, hx, hi⟩
  · simp [Value.cells] at hcs
    obtain ⟨rfl, rfl, rfl⟩ := hcs
    exact ⟨[], ⟨none, 0, rfl, by simp, by simp, fun _ => rfl, fun h => by simp at h⟩, by simp⟩
  · simp [Value.cells] at hcs
    obtain ⟨rfl, rfl, rfl⟩ := hcs
    have hmc : m = c0 := by rw [hmm]; simp
    have hlen : ((List.range n0).map fun i => (Sx i).data.toList).length = n0 := by simp
    refine ⟨(List.range n0).map fun i => (Sx i).data.toList, ⟨some a, c0, by rw [hlen], by rw [hlen]; exact hl, hm, (fun h => by cases h), fun hp => ?_⟩, ?_⟩
    · rw [hlen] at hp
      obtain ⟨b, off, spot⟩ := a
      have hc := (hi 0 (by omega)).1
      have hspot : spot = none := by simpa [Addr.add] using World.cell?_spot hc
      subst hspot
      refine ⟨b, off, rfl, ?_, fun j u hu => ?_⟩
      · have := World.block_lt_of_cell? w _ hc
        rwa [block_of_add] at this
      · have hj := (List.getElem?_eq_some_iff.1 hu).1
        rw [vs_length, hlen] at hj
        have := (hi j (by omega)).1
        rw [Addr.add_lit] at this
        rw [this, ← hu]
        simp [vs, hj]
    · intro p hp
      obtain ⟨i, hi2, rfl⟩ := List.mem_map.1 hp
      have hlt := List.mem_range.1 hi2
      have hd : d = .slice ((List.range n0).map fun i => .lit (.string (Sx i).data.toList)) ((List.range (m - n0)).map fun j => .lit (.string (Sx (n0 + j)).data.toList)) := by
        simp only [Prod.mk.injEq] at hx
        exact hx.1
      refine hw _ ?_
      rw [hd]
      simp only [DataW.weights, Try.underlying103]
      refine List.mem_cons_of_mem _ (List.mem_append_left _ (weightsAll_mem (d := .lit (.string (Sx i).data.toList)) (List.mem_map.2 ⟨i, hi2, rfl⟩) ?_))
      simp [DataW.weights]

end Go.Proofs.Ythgnchgehmakjaa.Cd

/-
  code.Size: how many bytes a number has. Conditions: none.
-/
namespace Go.Proofs.Ythgnchgehmakjaa.Cd
open Go.RowKit

theorem ret_int {k : IntKind} {a b : Int} (h : a = b) : Ending.returned (.int k b) = .returned (.int k a) := by rw [h]

set_option maxHeartbeats 400000 in
theorem size_any (n : Nat) (hn : n < 18446744073709551616) (w : World) :
    Calls Try.prog 79 #[.int .u64 n] w fun e w' => e = .returned (.int .i64 ((enc n).length : Nat)) ∧ w = w' := by
  have hl := enc_u64 n hn
  go_enter Try.func79, Try.ntmps79
  go_wp2
  go_loop [0, 3] (fun v s => ∃ (m k : Nat), v = .int .u64 m ∧ s = .int .i64 k ∧ 1 ≤ k ∧ m < 18446744073709551616 ∧ k + (enc m).length ≤ 11 ∧ Hid ((enc n).length + 1 = (enc m).length + k)) (fun v _ => (intOf v).toNat)
  case atStart => exact ⟨n, 1, rfl, rfl, by omega, hn, by omega, rfl⟩
  case round =>
    obtain ⟨m, k, rfl, rfl, h1, hm, hk, hh⟩ := hrel
    by_cases hc : 127 < m
    · have h2 := enc_hi (n := m) (by omega)
      have h3 : (enc m).length = (enc (m / 128)).length + 1 := by rw [h2]; rfl
      have h4 : Hid ((enc m).length = (enc (m / 128)).length + 1) := h3
      clear h2 h3
      go_wp2
      go_round
      case rel => exact ⟨m / 128, k + 1, by go_num, by go_num, by omega, by omega, by have := h4.out; omega, by have := h4.out; have := hh.out; unfold Hid; omega⟩
      case measure => simp [intOf]; omega
    · have h2 : Hid ((enc m).length = 1) := by unfold Hid; rw [enc_lo (by omega)]; rfl
      go_wp2
      go_ret
      have := h2.out
      have := hh.out
      exact ⟨ret_int (by omega), rfl⟩

end Go.Proofs.Ythgnchgehmakjaa.Cd

/-
  frame.first, frame.One: the record that bytes begin with. Conditions: none.
-/
namespace Go.Proofs.Ythgnchgehmakjaa.Cd
open Go.RowKit

/-- What first leaves. -/
def FirstIs (w : World) (g : Nat) (bs : List UInt8) (e : Ending) (w' : World) : Prop :=
  ((∃ x, frm x <+: bs ∧ e = .returned (.tuple #[.string ⟨x.toArray⟩, .int .i64 ((frm x).length : Nat)]) ∧ Rd w' g (bs.drop (frm x).length) false) ∨
    (¬ HasRec bs ∧ e = .returned (.tuple #[.string ⟨#[]⟩, .int .i64 0]))) ∧ w.grownBy w' (some g)

theorem grown_below {a b c : World} {g : Nat} (h : a.grownBy b (some g)) (k : Below b.heap.size b c) : a.grownBy c (some g) :=
  ⟨k.os.trans h.os, k.tape.trans h.tape, k.output.trans h.output, Nat.le_trans h.size k.size, fun i hi hn => (k.block i (Nat.lt_of_lt_of_le hi h.size)).trans (h.block i hi hn)⟩

/-- A slice's beginning. -/
theorem sl_take {w : World} {B : Nat} {A : Option Addr} {L cap : Nat} {bs : List UInt8} (h : Sl w B (.slice A L cap) bs) (k : Nat) (hk : k ≤ bs.length) :
    Sl w B (.slice A k cap) (bs.take k) := by
  obtain ⟨A', c, e, h2, h3, h4, h5, h6⟩ := h
  injection e with e1 e2 e3
  subst e1 e2 e3
  have hl : (bs.take k).length = k := by rw [List.length_take]; omega
  refine ⟨A, cap, by rw [hl], by rw [hl]; omega, h3, h4, (fun ad e h0 => h5 ad e (by omega)), fun ad e j u hu => ?_⟩
  have hj := (List.getElem?_eq_some_iff.1 hu).1
  rw [vb_length, hl] at hj
  refine h6 ad e j u ?_
  rw [← hu]
  simp only [vb, List.map_take]
  rw [List.getElem?_take, if_pos hj]

theorem ret_pair {a : Value} {k : IntKind} {x y : Int} (h : x = y) : Ending.returned (.tuple #[a, .int k x]) = .returned (.tuple #[a, .int k y]) := by rw [h]

set_option maxRecDepth 100000 in
set_option maxHeartbeats 1600000 in
theorem first_any (g : Nat) (v : Value) (bs : List UInt8) (w : World) (hr : Rd w g bs false) (h : Sl w w.heap.size v bs) (hg : g < w.heap.size) (hs : ∀ W : World, w.grownBy W (some g) → Sl W W.heap.size v bs) (hb : bs.length ≤ 140737488355328) :
    Calls Try.prog 67 #[.pointer (some ⟨g, 0, none⟩), v] w (FirstIs w g bs) := by
  obtain ⟨A, c, rfl, h2, h3⟩ := h.len
  have h3 : c ≤ 9223372036854775807 := h3
  have htx := Lib.hid (rtext_any g bs.length bs false w hr (Sane.start _) hb (by omega))
  have HS := Lib.hid hs
  have HTL := Lib.hid (txV_len (bs.length : Int) bs)
  have HBL := Lib.hid (txB_len (bs.length : Int) bs)
  clear hr hs h
  have h64 : bs.length < 18446744073709551616 := by omega
  cases hX : txX bs.length bs
  · by_cases h4 : (txB (bs.length : Int) bs).length < 4
    · have hno : Hid (¬ HasRec bs) := no_rec h64 (.inr (.inl h4))
      generalize hR : txB (bs.length : Int) bs = R at *
      generalize txV (bs.length : Int) bs = T at *
      rw [hX] at htx
      have htk : Hid (tkX false 4 R = true) := decide_eq_true (.inr (.inr (by omega)))
      clear hR hX h4
      go_enter Try.func67, Try.ntmps67
      go_wp2_with (first | (go_at_call 69; refine htx.out.mono ?_; rintro e w1 ⟨rfl, hl1⟩) | (go_at_call 78; refine (rtake_any g 4 R false w1 hl1.1 (Sane.start _) (by have := HBL.out; omega)).mono ?_; rintro e w2 ⟨rfl, hl2⟩; rw [htk.out] at hl2) | (go_at_call 70; refine (good_any g _ _ _ hl2.1).mono ?_; rintro e w3 ⟨rfl, rfl⟩))
      go_ret2
      exact ⟨.inr ⟨hno.out, rfl⟩, (left_trans hl1 hl2).2⟩
    · have h4' : 4 ≤ (txB (bs.length : Int) bs).length := by omega
      have h1 := one_tx hX
      have hrec := Lib.hid (fun hk => rec_of hX hk)
      have hno := Lib.hid (fun hk => no_rec h64 (.inr (.inr hk)))
      generalize hR : txB (bs.length : Int) bs = R at *
      generalize hT : txV (bs.length : Int) bs = T at *
      rw [hX] at htx
      have htk : Hid (tkX false 4 R = false ∧ tkV false 4 R = R.take 4 ∧ tkB false 4 R = R.drop 4) := by
        have hn : ¬ TkBad false 4 R := by
          rintro (h | h | h)
          · cases h
          · omega
          · omega
        exact ⟨decide_eq_false hn, if_neg hn, if_neg hn⟩
      obtain ⟨n, hn⟩ : ∃ n, (enc T.length).length = n := ⟨_, rfl⟩
      have hsz : n + T.length + R.length = bs.length := by
        have := congrArg List.length h1
        rw [List.length_append, List.length_append] at this
        omega
      have htake : Hid (bs.take (n + T.length) = enc T.length ++ T) := by
        unfold Hid
        rw [← h1, List.take_append_of_le_length (by rw [List.length_append]; omega), List.take_of_length_le (by rw [List.length_append]; omega)]
      have hdrop : Hid (bs.drop (n + T.length + 4) = R.drop 4) := by
        unfold Hid
        have e : (enc T.length ++ T).length = n + T.length := by rw [List.length_append, hn]
        rw [← h1, ← e, List.drop_append]
        simp
      have hfl : Hid ((frm T).length = n + T.length + 4) := by unfold Hid; rw [frm_len, hn]
      have hszT := size_any T.length (by omega)
      rw [hn] at hszT
      have HN := Lib.hid hn
      have HSZ := Lib.hid hszT
      clear hR hT hX h4 h1 hn hszT
      by_cases hk : R.take 4 = le4 (crc (enc T.length ++ T))
      · have hpre := Lib.hid (hrec.out hk)
        have HK := Lib.hid hk
        clear hrec hno hk
        go_enter Try.func67, Try.ntmps67
        go_wp2_with (first | (go_at_call 69; refine htx.out.mono ?_; rintro e w1 ⟨rfl, hl1⟩) | (go_at_call 78; refine (rtake_any g 4 R false w1 hl1.1 (Sane.start _) (by have := HBL.out; omega)).mono ?_; rintro e w2 ⟨rfl, hl2⟩; rw [htk.out.1, htk.out.2.2] at hl2; rw [htk.out.2.1]) | (go_at_call 70; refine (good_any g _ _ _ hl2.1).mono ?_; rintro e w3 ⟨rfl, rfl⟩) | (go_at_call 79; refine (HSZ.out _).mono ?_; rintro e w4 ⟨rfl, rfl⟩))
        have hl3 := left_trans hl1 hl2
        refine (tail_any _ (enc T.length ++ T) w2 (by have := sl_take (HS.out w2 hl3.2) (n + T.length) (by omega); rw [htake.out] at this; exact this)).mono ?_
        rintro e w3 ⟨v3, rfl, ho3, hb3⟩
        have hcv := run_text_of w3 _ v3 _ ho3.sl
        generalize le4 (crc (enc T.length ++ T)) = P at *
        rw [HK.out]
        have hq : (P == P) = true := by simp
        go_wp2_with fail
        go_ret2
        exact ⟨.inl ⟨T, hpre.out, (by rw [hfl.out]; exact ret_pair rfl), by rw [hfl.out, hdrop.out]; exact hl3.1.below hb3 (by have := hl3.2.size; omega)⟩, grown_below hl3.2 hb3⟩
      · have hno2 := Lib.hid (hno.out hk)
        clear hrec hno
        go_enter Try.func67, Try.ntmps67
        go_wp2_with (first | (go_at_call 69; refine htx.out.mono ?_; rintro e w1 ⟨rfl, hl1⟩) | (go_at_call 78; refine (rtake_any g 4 R false w1 hl1.1 (Sane.start _) (by have := HBL.out; omega)).mono ?_; rintro e w2 ⟨rfl, hl2⟩; rw [htk.out.1, htk.out.2.2] at hl2; rw [htk.out.2.1]) | (go_at_call 70; refine (good_any g _ _ _ hl2.1).mono ?_; rintro e w3 ⟨rfl, rfl⟩) | (go_at_call 79; refine (HSZ.out _).mono ?_; rintro e w4 ⟨rfl, rfl⟩))
        have hl3 := left_trans hl1 hl2
        refine (tail_any _ (enc T.length ++ T) w2 (by have := sl_take (HS.out w2 hl3.2) (n + T.length) (by omega); rw [htake.out] at this; exact this)).mono ?_
        rintro e w3 ⟨v3, rfl, ho3, hb3⟩
        have hcv := run_text_of w3 _ v3 _ ho3.sl
        generalize le4 (crc (enc T.length ++ T)) = P at *
        generalize R.take 4 = Q at *
        have hq : (Q == P) = false := by simpa using hk
        clear hk
        go_wp2_with fail
        go_ret2
        exact ⟨.inr ⟨hno2.out, rfl⟩, grown_below hl3.2 hb3⟩
  · have hno : Hid (¬ HasRec bs) := no_rec h64 (.inl hX)
    have hR : txB (bs.length : Int) bs = [] := by unfold txB; rw [if_pos (of_decide_eq_true hX)]
    rw [hX, hR] at htx
    generalize txV (bs.length : Int) bs = T at *
    obtain ⟨k1, k2, k3⟩ := tk_nil_bad 4
    have K3 := Lib.hid k3
    clear hR hX k1 k2 k3 HBL
    go_enter Try.func67, Try.ntmps67
    go_wp2_with (first | (go_at_call 69; refine htx.out.mono ?_; rintro e w1 ⟨rfl, hl1⟩) | (go_at_call 78; refine (rtake_any g 4 [] true w1 hl1.1 (fun _ => rfl) (by simp)).mono ?_; rintro e w2 ⟨rfl, hl2⟩; rw [K3.out] at hl2) | (go_at_call 70; refine (good_any g _ _ _ hl2.1).mono ?_; rintro e w3 ⟨rfl, rfl⟩))
    go_ret2
    exact ⟨.inr ⟨hno.out, rfl⟩, (left_trans hl1 hl2).2⟩

theorem first_at (v : Value) (bs : List UInt8) (w : World) (g : Nat) (hr : Rd w g bs false) (h : Sl w g v bs) (hb : bs.length ≤ 140737488355328) :
    Calls Try.prog 67 #[.pointer (some ⟨g, 0, none⟩), v] w (FirstIs w g bs) := by
  have hg := hr.lt
  refine first_any g v bs w hr (h.more (by omega)) hg (fun W hW => ?_) hb
  have hk : ∀ p : Addr, p.block < g → W.cell? p = w.cell? p := fun p hp => World.cell?_of_block (hW.block p.block (by omega) (fun e => by injection e with e; omega))
  exact (h.keep hk).more (by have := hW.size; omega)

/-- What One answers. -/
def OneIs (w : World) (bs : List UInt8) (e : Ending) (w' : World) : Prop :=
  ((∃ x, frm x = bs ∧ e = .returned (.tuple #[.string ⟨x.toArray⟩, .bool true])) ∨ ((¬ ∃ x, frm x = bs) ∧ e = .returned (.tuple #[.string ⟨#[]⟩, .bool false]))) ∧ Below w.heap.size w w'

theorem below_grown {w0 w w' : World} {g B : Nat} (h : Below B w0 w) (hg : w.grownBy w' (some g)) (hB : B ≤ w.heap.size) (hr : B ≤ g) : Below B w0 w' :=
  h.grown hg hB (fun k hk => by injection hk with hk; omega)

end Go.Proofs.Ythgnchgehmakjaa.Cd

/-
  frame.Split. Conditions: none.
-/
namespace Go.Proofs.Ythgnchgehmakjaa.Cd
open Go.RowKit

/-- What Split answers. -/
def SplitIs (w : World) (bs : List UInt8) (e : Ending) (w' : World) : Prop :=
  ∃ u ds cur, Splits bs ds cur ∧ e = .returned (.tuple #[u, .int .i64 ((flat ds).length : Nat)]) ∧ OwnS w' w.heap.size u ds ∧ Below w.heap.size w w'

/-- What is left of a slice reads as what is left of the bytes. -/
theorem sl_rest {w : World} {B : Nat} {A : Option Addr} {c : Nat} {bs : List UInt8} (h : Sl w B (.slice A bs.length c) bs) (n : Nat) (hn : n ≤ bs.length) (C : Option Addr) (hC : c ≠ n → C = A.map (·.add n)) (hC2 : c = n → C = A) :
    Sl w B (.slice C (bs.length - n) (c - n)) (bs.drop n) := by
  obtain ⟨A', c', e, h2, h3, h4, h5, h6⟩ := h
  injection e with e1 _ e3
  subst e1 e3
  refine ⟨C, c - n, by rw [List.length_drop], by rw [List.length_drop]; omega, by omega, fun hnone => ?_, fun ad e h0 => ?_, fun ad e j u hu => ?_⟩
  · by_cases hcn : c = n
    · omega
    · have := hC hcn
      rw [hnone] at this
      have hA : A = none := by cases A with
        | none => rfl
        | some _ => cases this
      have := h4 hA
      omega
  · rw [List.length_drop] at h0
    have hcn : c ≠ n := by omega
    have := hC hcn
    rw [e] at this
    cases A with
    | none => cases this
    | some a =>
      injection this with this
      rw [this, block_of_add]
      exact h5 a rfl (by omega)
  · have hj := (List.getElem?_eq_some_iff.1 hu).1
    rw [vb_length, List.length_drop] at hj
    have hcn : c ≠ n := by omega
    have := hC hcn
    rw [e] at this
    cases A with
    | none => cases this
    | some a =>
      injection this with this
      have hu2 : (vb bs)[n + j]? = some u := by
        rw [← hu]
        simp only [vb, List.map_drop, List.getElem?_drop]
      have h7 := h6 a rfl (n + j) u hu2
      rw [this, Go.Deep.add_add]
      exact h7

set_option maxRecDepth 100000 in
set_option maxHeartbeats 1600000 in
theorem split_any (v : Value) (bs : List UInt8) (w : World) (h : Sl w w.heap.size v bs) (hb : bs.length ≤ 1048576) :
    Calls Try.prog 55 #[v] w (SplitIs w bs) := by
  obtain ⟨A, c, rfl, h2, h3⟩ := h.len
  have h3 : c ≤ 9223372036854775807 := h3
  have H := Lib.hid h
  clear h
  go_enter Try.func55, Try.ntmps55
  go_wp2_with fail
  refine (read_any _ bs w H.out).mono ?_
  rintro e w1 ⟨rfl, hr1, hb1⟩
  have HR1 := Lib.hid hr1
  have hlt1 := hr1.lt
  clear hr1
  go_wp2_with fail
  go_loopw [4, 5] (fun o t wr => ∃ ds cur, Hid (bs = flat ds ++ cur) ∧ t = .int .i64 ((flat ds).length : Nat) ∧ Hid (OwnS wr (w.heap.size + 1) o ds) ∧ Hid (Rd wr w.heap.size cur false) ∧ Below w.heap.size w wr) (fun _ t _ => bs.length - (intOf t).toNat)
  case atStart => exact ⟨[], bs, rfl, rfl, OwnS.nil _ _, HR1.out, hb1⟩
  case round =>
    obtain ⟨ds, cur, he, rfl, ho, hr, hbel⟩ := hrel
    have hsz := hbel.size
    have hlen : (flat ds).length + cur.length = bs.length := by have := congrArg List.length he.out; rw [List.length_append] at this; omega
    have hdrop : Hid (bs.drop (flat ds).length = cur) := by unfold Hid; rw [he.out, List.drop_left]
    have hds := flat_ge ds
    generalize hn : (flat ds).length = n at *
    have HN := Lib.hid hn
    clear hn
    by_cases hcn : c = n
    · have hsl := sl_rest (H.out.below hbel) n (by omega) A (fun hq => absurd hcn hq) (fun _ => rfl)
      subst hcn
      rw [hdrop.out, Nat.sub_self, show bs.length - c = 0 by omega] at hsl
      have hf := Lib.hid (first_at _ cur wr w.heap.size hr.out hsl (by omega))
      clear hsl
      go_wp2_with fail
      refine hf.out.mono ?_
      rintro e w2 ⟨⟨x, hx, rfl, hr2⟩ | ⟨hno, rfl⟩, hg⟩
      · exfalso
        have := hx.length_le
        have := frm_ge x
        omega
      · have HB := Lib.hid (below_grown hbel hg hsz (Nat.le_refl _))
        have HNO := Lib.hid hno
        have HO := Lib.hid ((OwnS.far ho.out hg (Nat.lt_succ_self _)).lower (Nat.le_succ _))
        clear hno hg
        go_wp2_with fail
        go_ret2
        exact ⟨_, ds, cur, ⟨he.out, HNO.out⟩, by rw [HN.out]; rfl, HO.out, HB.out⟩
    · have hsl := sl_rest (H.out.below hbel) n (by omega) (A.map (fun x => x.add n)) (fun _ => rfl) (fun hq => absurd hq hcn)
      rw [hdrop.out] at hsl
      have hf := Lib.hid (first_at _ cur wr w.heap.size hr.out hsl (by omega))
      clear hsl
      go_wp2_with fail
      refine hf.out.mono ?_
      rintro e w2 ⟨⟨x, hx, rfl, hr2⟩ | ⟨hno, rfl⟩, hg⟩
      · have hxl := hx.length_le
        have hge := frm_ge x
        have HO := Lib.hid (OwnS.far ho.out hg (Nat.lt_succ_self _))
        have hs2 := hg.size
        have HB := Lib.hid (below_grown hbel hg hsz (Nat.le_refl _))
        have HR2 := Lib.hid hr2
        have hz : (((frm x).length : Int) == 0) = false := by rw [beq_eq_false_iff_ne]; omega
        have HF : Hid ((flat (ds ++ [x])).length = n + (frm x).length) := by unfold Hid; rw [flat_append, flat_one, List.length_append, HN.out]
        have HE : Hid (bs = flat (ds ++ [x]) ++ cur.drop (frm x).length) := by
          unfold Hid
          obtain ⟨t, ht⟩ := hx
          rw [flat_append, flat_one, List.append_assoc, ← ht, List.drop_left, ht]
          exact he.out
        clear hx hr2 hg
        generalize (frm x).length = m at *
        go_wp2_with (at_builtin; refine wp_append_strs rfl _ _ rfl (w.heap.size + 1) _ ds rfl ?ho ?hB _ (w2.heap.size + 1) [x] rfl ?hn ?hm ?hK)
        case ho => exact HO.out.alloc _
        case hB => simp; omega
        case hn => exact strs_one _ _ _
        case hm => simp; omega
        case hK =>
          intro v3 w3 ho3 hb3
          go_wp2_with fail
          go_roundw
          case rel => exact ⟨ds ++ [x], cur.drop m, HE.out, by rw [HF.out]; go_num, ho3, (HR2.out.below ((Below.refl _ _).alloc (Nat.le_refl _) _) HR2.out.lt).below hb3 (Nat.lt_succ_self _), (HB.out.alloc (by omega) _).trans (hb3.mono (by omega))⟩
          case measure => simp [intOf]; omega
      · have HB := Lib.hid (below_grown hbel hg hsz (Nat.le_refl _))
        have HNO := Lib.hid hno
        have HO := Lib.hid ((OwnS.far ho.out hg (Nat.lt_succ_self _)).lower (Nat.le_succ _))
        clear hno hg
        go_wp2_with fail
        go_ret2
        exact ⟨_, ds, cur, ⟨he.out, HNO.out⟩, by rw [HN.out]; rfl, HO.out, HB.out⟩

end Go.Proofs.Ythgnchgehmakjaa.Cd
