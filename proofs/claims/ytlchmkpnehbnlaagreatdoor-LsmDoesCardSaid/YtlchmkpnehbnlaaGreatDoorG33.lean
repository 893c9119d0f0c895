/-
  Save: a table's bytes are laid down in a file, and synced. Conditions: the writes have no more than 2^20 bytes.
-/
import Derived.Test.YtlchmkpnehbnlaaGreatDoorG11
import Derived.Test.YtlchmkpnehbnlaaGreatDoorG32
import Derived.Test.YtlchmkpnehbnlaaGreatDoorG23
namespace Go.Proofs.YtlchmkpnehbnlaaGreatDoor.Cd
open Go.RowKit Go.Shelf
set_option linter.unusedVariables false

def RowT (W : World) (r : Nat) (bs : List UInt8) : Prop := ∃ cur : Array Value, W.heap[r]? = some (.cells cur 5 (0, 0)) ∧ ∀ (j : Nat) (u : Value), (vb bs)[j]? = some u → cur[j]? = some u
theorem RowT.on {W W' : World} {r : Nat} {bs : List UInt8} (h : RowT W r bs) (he : W'.heap[r]? = W.heap[r]?) : RowT W' r bs := by
  obtain ⟨cur, h1, h2⟩ := h
  exact ⟨cur, he.trans h1, h2⟩
theorem RowT.lt {W : World} {r : Nat} {bs : List UInt8} (h : RowT W r bs) : r < W.heap.size := by
  obtain ⟨cur, h1, _⟩ := h
  exact (Array.getElem?_eq_some_iff.1 h1).1
theorem RowT.part {W : World} {r : Nat} {bs : List UInt8} (h : RowT W r bs) (k : Nat) (hk : 512 * k < bs.length) (hl : bs.length ≤ 9223372036854775807) : Sl W W.heap.size (tgV r 0 bs.length k) (chunk bs k) := by
  have hlt := h.lt
  obtain ⟨cur, h1, h2⟩ := h
  have hpl : (chunk bs k).length = min 512 (bs.length - 512 * k) := by simp [chunk]
  refine ⟨some ⟨r, 0 + 512 * k, none⟩, min 512 (bs.length - 512 * k), by rw [hpl]; rfl, by rw [hpl]; exact Nat.le_refl _, by simp only [maxLen]; omega, (fun h => by cases h), fun ad e _ => ?_, fun ad e j u hu => ?_⟩
  · injection e with e
    subst e
    exact hlt
  · injection e with e
    subst e
    have hj := (List.getElem?_eq_some_iff.1 hu).1
    rw [vb_length, hpl] at hj
    rw [Addr.add_lit, cell_of_row _ _ _ _ _ _ h1]
    refine h2 _ _ ?_
    rw [← hu]
    simp only [vb, chunk, List.map_take, List.map_drop]
    rw [List.getElem?_take, if_pos (by omega), List.getElem?_drop]
    congr 1
    omega
def RowV (W : World) (r : Nat) (vs : List Value) : Prop := ∃ cur : Array Value, W.heap[r]? = some (.cells cur 88 (0, 0)) ∧ ∀ (j : Nat) (u : Value), vs[j]? = some u → cur[j]? = some u
theorem RowV.on {W W' : World} {r : Nat} {vs : List Value} (h : RowV W r vs) (he : W'.heap[r]? = W.heap[r]?) : RowV W' r vs := by
  obtain ⟨cur, h1, h2⟩ := h
  exact ⟨cur, he.trans h1, h2⟩
theorem RowV.cell {W : World} {r : Nat} {vs : List Value} (h : RowV W r vs) {j : Nat} {u : Value} (hu : vs[j]? = some u) : W.cell? ⟨r, j, none⟩ = some u := by
  obtain ⟨cur, h1, h2⟩ := h
  rw [cell_of_row _ _ _ _ _ _ h1]
  exact h2 j u hu

section
variable {w W W' : World} {S : Nat → Prop} {g M : Nat} {keep : List Nat} {D : Dsk}
theorem InP.newT (h : InP w S g keep M D W) (hb : Below W.heap.size W W') {r : Nat} (h1 : W.heap.size ≤ r) (h2 : r < W'.heap.size) : InP w S g (r :: keep) M D W' := by
  obtain ⟨T, k1, k2, k3, k4⟩ := h
  refine ⟨T, k1.below hb, k2, fun q hq => ?_, k4.trans (Apart.below hb)⟩
  rcases List.mem_cons.1 hq with rfl | hq
  · exact ⟨fun e => by have := k1.lt _ e; omega, h2⟩
  · exact ⟨(k3 q hq).1, Nat.lt_of_lt_of_le (k3 q hq).2 hb.size⟩
theorem InP.goT (h : InP w S g keep M D W) : ∃ T, DkS W g M T D ∧ (∀ r ∈ keep, ¬ T r) ∧
    ∀ e v N D' W', MakesD g N T D' v W e W' → InP w S g keep N D' W' ∧ (∀ r ∈ keep, W'.heap[r]? = W.heap[r]?) := by
  obtain ⟨T, h1, h2, h3, h4⟩ := h
  refine ⟨T, h1, fun r hr => (h3 r hr).1, fun e v N D' W' hm => ?_⟩
  obtain ⟨_, m2, m3⟩ := hm
  refine ⟨⟨since T W W', m2, fun j hj => ?_, fun r hr => ⟨fun e => ?_, Nat.lt_of_lt_of_le (h3 r hr).2 m3.size⟩, ?_⟩, fun r hr => m3.block r (h3 r hr).2 (h3 r hr).1⟩
  · rcases hj with hj | hj
    · exact h2 j hj
    · exact .inr (by have := h4.size; omega)
  · rcases e with e | e
    · exact (h3 r hr).1 e
    · have := (h3 r hr).2; omega
  · refine ⟨m3.os.trans h4.os, m3.tape.trans h4.tape, m3.output.trans h4.output, Nat.le_trans h4.size m3.size, fun j hj hn => ?_⟩
    exact (m3.block j (Nat.lt_of_lt_of_le hj h4.size) (fun ht => by rcases h2 j ht with h | h; exact hn h; omega)).trans (h4.block j hj hn)
end

theorem writeD_le (D : Dsk) (n b : List UInt8) (i : Int) : (writeD D n i b).2 ≤ 8 := by
  unfold writeD ends
  repeat' split
  all_goals simp

set_option maxRecDepth 100000 in
set_option maxHeartbeats 6400000 in
theorem tsave_any (t g N M : Nat) (X : List Wr) (n : List UInt8) (S : Nat → Prop) (D : Dsk) (w : World) (hX : TabV w (.pointer (some ⟨t, 0, none⟩)) X) (hs : sumW X ≤ 1048576) (hd : DkS w g N S D) (hn : n.length ≤ 140737488355000)
    (hN : N + 4 * (pagesOf (bytesW X).length + 2) ≤ M) (hM : M ≤ 137438953472) :
    Calls Tryz.prog 118 #[.pointer (some ⟨t, 0, none⟩), .pointer (some ⟨g, 0, none⟩), .string ⟨n.toArray⟩] w (MakesD g M S (saveD D n (bytesW X)).1 (.int .i64 ((saveD D n (bytesW X)).2 : Nat)) w) := by
  have HDn := down_dks g N S D w hd
  have HD := Lib.hid hd
  by_cases ho : D.off = true
  · rw [show saveD D n (bytesW X) = (D, 8) from if_pos ho]
    rw [ho] at HDn
    have HDn := Lib.hid HDn
    clear hd ho hX hs
    go_enter Tryz.func118, Tryz.ntmps118
    go_wp2_with fail
    refine HDn.out.mono ?_
    rintro e w' ⟨rfl, h⟩
    obtain rfl := h.symm
    go_wp2_with fail
    go_ret
    exact makesD_same HD.out (Below.refl _ _) (by omega) hM
  have ho : D.off = false := by simpa using ho
  rw [ho] at HDn
  have HDn := Lib.hid HDn
  have HH := has_dks g N S D n w hd ho (by omega)
  by_cases hh : (getF D.now n).isSome = true
  · rw [show saveD D n (bytesW X) = (D, 6) by unfold saveD; rw [if_neg (by rw [ho]; simp), if_pos hh]]
    rw [hh] at HH
    have HH := Lib.hid HH
    clear hd ho hX hs hh
    go_enter Tryz.func118, Tryz.ntmps118
    go_wp2_with fail
    refine HDn.out.mono ?_
    rintro e w' ⟨rfl, h⟩
    obtain rfl := h.symm
    go_wp2_with fail
    refine HH.out.mono ?_
    rintro e w' ⟨rfl, h⟩
    obtain rfl := h.symm
    go_wp2_with fail
    go_ret
    exact makesD_same HD.out (Below.refl _ _) (by omega) hM
  have hh : (getF D.now n).isSome = false := by simpa using hh
  rw [hh] at HH
  have HH := Lib.hid HH
  have he : saveD D n (bytesW X) = if freeD D < (pagesOf (bytesW X).length : Nat) then (D, 7) else if (writes D n (chunks (bytesW X))).2 ≠ 0 then writes D n (chunks (bytesW X)) else syncD (writes D n (chunks (bytesW X))).1 n := by
    unfold saveD
    rw [if_neg (by rw [ho]; simp), if_neg (by rw [hh]; simp)]
  rw [he]
  have CB := tbytes_any _ X w hX hs
  have hB0 : 0 < (bytesW X).length := frm_pos _
  have hBl : (bytesW X).length ≤ 31457304 := by have := recW_len X hs; have := frm_le (recW X) (by omega); unfold bytesW; omega
  obtain ⟨B, hB⟩ : ∃ x, bytesW X = x := ⟨_, rfl⟩
  rw [hB] at CB hB0 hBl hN ⊢
  have CB := Lib.hid CB
  have HSl := Lib.hid hd.lt
  obtain ⟨m, hm⟩ : ∃ x, pagesOf B.length = x := ⟨_, rfl⟩
  have hm0 : 0 < m := by rw [← hm]; exact pagesOf_pos hB0
  have hml : m ≤ 70000 := by rw [← hm]; unfold pagesOf; omega
  rw [hm] at hN ⊢
  have HM := Lib.hid hm
  obtain ⟨ZD, ze, hZ⟩ : ∃ a b, (if freeD D < (m : Nat) then (D, 7) else if (writes D n (chunks B)).2 ≠ 0 then writes D n (chunks B) else syncD (writes D n (chunks B)).1 n) = (a, b) := ⟨_, _, rfl⟩
  rw [hZ]
  dsimp only
  have HZZ := Lib.hid hZ
  clear hX hs hB he hh hd hm hZ
  go_enter Tryz.func118, Tryz.ntmps118
  go_wp2_with fail
  refine HDn.out.mono ?_
  rintro e w' ⟨rfl, h⟩
  obtain rfl := h.symm
  go_wp2_with fail
  refine HH.out.mono ?_
  rintro e w' ⟨rfl, h⟩
  obtain rfl := h.symm
  go_wp2_with fail
  refine CB.out.mono ?_
  rintro e w1 ⟨v1, rfl, ho1, hb1⟩
  obtain ⟨b1, c1, cur1, rfl, hbB, hblt, hh1, hcap, hcm, hcur⟩ := own_block ho1 hB0
  have hcm : c1 ≤ 9223372036854775807 := hcm
  have R1 := Lib.hid (show RowT w1 b1 B from ⟨cur1, hh1, hcur⟩)
  have I1 := Lib.hid ((inP_start HD.out).newT hb1 hbB hblt)
  have HB1 := Lib.hid hb1
  have CC := Lib.hid (tchunk_any (some ⟨b1, 0, none⟩) B.length c1 w1)
  clear ho1 hb1 hh1 hcur CB HH HDn
  go_wp2_with fail
  refine CC.out.mono ?_
  rintro e w2 ⟨rfl, hw2⟩
  have hb2 : Below w1.heap.size w1 w2 := by rw [hw2]; exact ((Below.refl _ _).alloc (Nat.le_refl _) _).alloc (by simp) _
  have x0 : BoxAt w2 w1.heap.size (.slice (some ⟨b1, 0, none⟩) B.length c1) 88 := by rw [hw2]; exact (BoxAt.new w1 _ _).alloc _
  have x1 : BoxAt w2 (w1.heap.size + 1) (.int .i64 512) 3 := by
    rw [hw2]
    have := BoxAt.new (w1.alloc (.cells #[.slice (some ⟨b1, 0, none⟩) B.length c1] 88)) (.int .i64 512) 3
    rwa [World.size_alloc] at this
  have CD := Lib.hid (collect_v 5 (by omega) 177 #[.pointer (some ⟨w1.heap.size, 0, none⟩), .pointer (some ⟨w1.heap.size + 1, 0, none⟩)] (enters_of Tryz.func177 (by kernel_rfl) rfl) (fun k => tgV b1 0 B.length k) (fun k => ⟨_, _, _, rfl⟩) m (by omega)
    (BoxesT w1.heap.size (w1.heap.size + 1) b1 0 B.length c1) w2 (fun W hW => ⟨(hW.cell (p := ⟨w1.heap.size, 0, none⟩) x0.lt).trans x0.cell, (hW.cell (p := ⟨w1.heap.size + 1, 0, none⟩) x1.lt).trans x1.cell⟩) (by rw [← HM.out]; exact tchunk_hands 3 _ _ _ _ _ _ hcap hcm (by omega)))
  have I2 := Lib.hid (I1.out.below hb2)
  have R2 := Lib.hid (R1.out.on (hb2.block _ R1.out.lt))
  have HB2 := Lib.hid (HB1.out.trans (hb2.mono HB1.out.size))
  clear hb2 x0 x1 hw2 CC I1 R1 HB1
  go_wp2_with fail
  refine ((callsIn_wide (n := 5)).1 CD.out).mono ?_
  rintro e w3 ⟨v3, rfl, ho3, hb3⟩
  obtain ⟨b3, c3, rfl, hc3, hm3, hb3B, hb3lt, cur3, hh3, hcur3⟩ := ho3.open (by simpa using hm0)
  have hvl : ((List.range m).map fun k => tgV b1 0 B.length k).length = m := by simp
  have hva : ∀ k, k < m → ((List.range m).map fun k => tgV b1 0 B.length k)[k]? = some (tgV b1 0 B.length k) := fun k hk => by rw [List.getElem?_map, List.getElem?_range hk]; rfl
  obtain ⟨vs, hvs⟩ : ∃ x, ((List.range m).map fun k => tgV b1 0 B.length k) = x := ⟨_, rfl⟩
  rw [hvs] at hvl hva hc3 hcur3 ⊢
  rw [hvl] at hc3 ⊢
  have hm3 : c3 ≤ 9223372036854775807 := hm3
  have R3 := Lib.hid (show RowV w3 b3 vs from ⟨cur3, hh3, hcur3⟩)
  have HVA := Lib.hid hva
  have I3 := Lib.hid (I2.out.newT hb3 hb3B hb3lt)
  have R1 := Lib.hid (R2.out.on (hb3.block _ R2.out.lt))
  have HB3 := Lib.hid (HB2.out.trans (hb3.mono HB2.out.size))
  have CF := Lib.hid (free_dks g N S D w3 (HD.out.below HB3.out))
  clear ho3 hb3 hvs hvl hva hh3 hcur3 I2 R2 HB2 CD
  have hr4 : ∀ w4, Below w3.heap.size w3 w4 → Hid (InP w S g [b3, b1] N D w4) ∧ Hid (RowV w4 b3 vs) ∧ Hid (RowT w4 b1 B) ∧ Hid (Below w.heap.size w w4) := fun w4 hb4 =>
    ⟨I3.out.below hb4, R3.out.on (hb4.block _ hb3lt), R1.out.on (hb4.block _ R1.out.lt), HB3.out.trans (hb4.mono HB3.out.size)⟩
  have HR4 := Lib.hid hr4
  clear hr4 hb3lt
  by_cases hf : freeD D < (m : Nat)
  · go_wp2_with fail
    refine CF.out.mono ?_
    rintro e w4 ⟨rfl, hb4⟩
    obtain ⟨i4, _, _, hb4⟩ := HR4.out w4 hb4
    go_wp2_with fail
    go_ret
    obtain ⟨rfl, rfl⟩ : D = ZD ∧ 7 = ze := by
      have := HZZ.out
      rw [if_pos hf] at this
      injection this with h1 h2
      exact ⟨h1, h2⟩
    exact makesD_same HD.out hb4.out (by omega) hM
  have HF := Lib.hid hf
  have hf2 : (m : Int) ≤ freeD D := by omega
  clear hf
  go_wp2_with fail
  refine CF.out.mono ?_
  rintro e w4 ⟨rfl, hb4⟩
  obtain ⟨i4, rv4, rt4, _⟩ := HR4.out w4 hb4
  clear HR4 hb4 HB3 CF I3 R3 R1
  go_wp2_with fail
  go_loopw [36] (fun i W => ∃ k : Nat, i = .int .i64 k ∧ k ≤ m ∧ Hid (InP w S g [b3, b1] (N + 4 * k) (writes D n ((chunks B).take k)).1 W) ∧ Hid ((writes D n ((chunks B).take k)).2 = 0) ∧ Hid (RowV W b3 vs) ∧ Hid (RowT W b1 B)) (fun i _ => m - (intOf i).toNat)
  case atStart => exact ⟨0, rfl, Nat.zero_le _, i4, rfl, rv4, rt4⟩
  case round =>
    obtain ⟨k, rfl, hk, hi, hz, hrv, hrt⟩ := hrel
    by_cases hlt : k < m
    · have hlt' : (k : Int) < m := by omega
      have hkc : k < (chunks B).length := by rw [chunks_len, HM.out]; exact hlt
      have hstep := writes_take n (chunks B) D hkc hz.out
      rw [show (chunks B)[k] = ((k : Int), chunk B k) by simp [chunks]] at hstep
      obtain ⟨Dk, hDk⟩ : ∃ x, (writes D n ((chunks B).take k)).1 = x := ⟨_, rfl⟩
      rw [hDk] at hi hstep
      obtain ⟨T, d1, d2, d3⟩ := hi.out.goT
      have hlk : 512 * k < B.length := by have := HM.out; unfold pagesOf at this; omega
      have CW := write_dks g (N + 4 * k) T Dk n wr (chunk B k) k (tgV b1 0 B.length k) d1 (hrt.out.part k hlk (by omega)) (fun _ A j c e => by
        unfold tgV at e
        injection e with e _ _
        injection e with e
        rw [← e]
        exact d2 b1 (by simp)) (by omega) (by omega) (by omega)
      have hle := writeD_le Dk n (chunk B k) k
      have cv := hrv.out.cell (HVA.out k hlt)
      obtain ⟨pv, hpv⟩ : ∃ x, tgV b1 0 B.length k = x := ⟨_, rfl⟩
      rw [hpv] at CW cv
      rw [← hstep] at CW hle
      obtain ⟨R, hR⟩ : ∃ x, writes D n ((chunks B).take (k + 1)) = x := ⟨_, rfl⟩
      rw [hR] at CW hle
      have CW := Lib.hid CW
      have HR := Lib.hid hR
      have HG := Lib.hid d3
      have hki : ((k : Int)).toNat = k := by omega
      clear d1 d2 d3 hstep hDk hpv hR hlk hkc
      go_wp2_with fail
      refine CW.out.mono ?_
      intro e w5 hm
      obtain rfl := hm.1
      obtain ⟨i5, k5⟩ := HG.out _ _ _ _ _ hm
      have I5 := Lib.hid i5
      have RV5 := Lib.hid (hrv.out.on (k5 b3 (by simp)))
      have RT5 := Lib.hid (hrt.out.on (k5 b1 (by simp)))
      clear hm i5 k5 hrv hrt hi CW HG cv
      by_cases hz5 : R.2 = 0
      · have hz5' : (R.2 : Int) = 0 := by omega
        have HZ5 := Lib.hid hz5
        rw [hz5']
        clear hz5
        go_wp2_with fail
        go_roundw
        case rel =>
          refine ⟨k + 1, by go_num, by omega, ?_, ?_, RV5, RT5⟩
          · unfold Hid
            rw [HR.out]
            exact I5.out
          · unfold Hid
            rw [HR.out]
            exact HZ5.out
        case measure => simp [intOf]; omega
      · have hz5' : ¬ (R.2 : Int) = 0 := by omega
        have hfin : Hid (writes D n (chunks B) = R) := by
          unfold Hid
          rw [writes_stop n (chunks B) D (k := k + 1) (by rw [HR.out]; exact hz5), HR.out]
        obtain ⟨E, q⟩ := R
        dsimp only at hz5 hz5' hle I5
        have HZ5 := Lib.hid hz5
        clear hz5
        go_wp2_with fail
        go_ret
        obtain ⟨rfl, rfl⟩ : E = ZD ∧ q = ze := by
          have := HZZ.out
          rw [if_neg (Int.not_lt.2 HF.out), hfin.out, if_pos HZ5.out] at this
          injection this with h1 h2
          exact ⟨h1, h2⟩
        exact (I5.out.grow (by omega) hM).makes HSl.out _
    · have hkm : k = m := by omega
      have hlt' : ¬ (k : Int) < m := by omega
      subst hkm
      have htk : (chunks B).take k = chunks B := List.take_of_length_le (by rw [chunks_len, HM.out]; exact Nat.le_refl _)
      rw [htk] at hi hz
      have HZ := hz
      obtain ⟨R, hR⟩ : ∃ x, writes D n (chunks B) = x := ⟨_, rfl⟩
      rw [hR] at hi hz HZ
      have HRR := Lib.hid hR
      obtain ⟨T, d1, d2, d3⟩ := hi.out.goT
      have CS := sync_dks g (N + 4 * k) T R.1 n wr d1 (by omega) (by omega)
      obtain ⟨Q, hQ⟩ : ∃ x, syncD R.1 n = x := ⟨_, rfl⟩
      rw [hQ] at CS
      have HQQ := Lib.hid hQ
      have CS := Lib.hid CS
      have HG := Lib.hid d3
      clear d1 d2 d3 hQ hR hi hz hrv hrt htk
      go_wp2_with fail
      refine CS.out.mono ?_
      intro e w5 hm
      obtain rfl := hm.1
      have I5 := Lib.hid (HG.out _ _ _ _ _ hm).1
      clear hm CS HG
      go_wp2_with fail
      go_ret
      obtain ⟨rfl, rfl⟩ : Q.1 = ZD ∧ Q.2 = ze := by
        have := HZZ.out
        rw [if_neg (Int.not_lt.2 HF.out), HRR.out, if_neg (fun h => h HZ.out), HQQ.out] at this
        rw [this]
        exact ⟨rfl, rfl⟩
      exact (I5.out.grow (by omega) hM).makes HSl.out _

end Go.Proofs.YtlchmkpnehbnlaaGreatDoor.Cd
