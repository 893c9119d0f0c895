/-
  Two logs on one disk. Conditions: none.
-/
import Derived.Test.YtlchmkpnehbnlaaGreatDoorG28
import Derived.Test.YtlchmkpnehbnlaaGreatDoorG5
import Derived.Test.YtlchmkpnehbnlaaGreatDoorG24
import Derived.Shelf.Abstract
import Derived.Shelf.RegionOpen
import Derived.WalkKit
import Derived.OwnWalkIn
import Derived.TacticsInMore
import Derived.LoopNIn
import Derived.LoopIn
import Derived.BigRegionIn
import Derived.OwnWalk
import Derived.Test.YtlchmkpnehbnlaaGreatDoorG30
import Derived.Test.YtlchmkpnehbnlaaGreatDoorG15
/-
  slices.Chunk of bytes, by what a log's page has: what it hands over. Conditions: there are bytes.
-/
namespace Go.Proofs.YtlchmkpnehbnlaaGreatDoor.Cd
open Go.RowKit Go.Shelf
attribute [local go_sem] Oper.semAt_some

theorem lchunk_any (A : Option Addr) (n c : Nat) (w : World) :
    Calls Tryz.prog 151 #[.slice A n c, .int .i64 510] w (fun e w' => e = .returned (.func (.func 177) #[] #[.pointer (some ⟨w.heap.size, 0, none⟩), .pointer (some ⟨w.heap.size + 1, 0, none⟩)]) ∧
      w' = (w.alloc (.cells #[.slice A n c] 88)).alloc (.cells #[.int .i64 510] 3)) := by
  go_enter Tryz.func151, Tryz.ntmps151
  go_wp2_with fail
  go_ret
  exact ⟨by simp, rfl⟩

def ptV (b off n k : Nat) : Value := .slice (some ⟨b, off + 510 * k, none⟩) (min 510 (n - 510 * k)) (min 510 (n - 510 * k))
def BoxesL (bs bn : Nat) (b off n c : Nat) (W : World) : Prop := W.cell? ⟨bs, 0, none⟩ = some (.slice (some ⟨b, off, none⟩) n c) ∧ W.cell? ⟨bn, 0, none⟩ = some (.int .i64 510)

set_option maxRecDepth 100000 in
set_option maxHeartbeats 3200000 in
theorem lchunk_hands (m bs bn b off n c : Nat) (hn : n ≤ c) (hc : c ≤ 9223372036854775807) (hn2 : n ≤ 140737488355328) :
    Hands Fence.wide m Tryz.prog 177 #[.pointer (some ⟨bs, 0, none⟩), .pointer (some ⟨bn, 0, none⟩)] (fun k => #[ptV b off n k]) (List.range (needP n)) (BoxesL bs bn b off n c) := by
  intro l J Jx W hJ hJx hB hY h0
  have HJ := Lib.hid hJ
  have HJX := Lib.hid hJx
  have HBX := Lib.hid hB
  have HY := Lib.hid hY
  have H0 := Lib.hid h0
  clear hJ hJx hB hY h0
  refine callsIn_of_wp Tryz.func177 rfl trivial ?_ rfl
  simp only [Tryz.ntmps177, List.size_toArray, List.length_cons, List.length_nil, Nat.reduceAdd, Nat.reduceSub, Array.replicate_succ, Array.replicate_zero, List.push_toArray, List.append_toArray, List.nil_append, List.cons_append]
  gi_wp2
  gi_loopw [4] (fun p wr => ∃ i k : Nat, p = .int .i64 i ∧ Hid (i = 510 * k) ∧ i ≤ n + 510 ∧ Hid (k ≤ needP n) ∧ Hid (J k wr)) (fun p _ => n + 1020 - (intOf p).toNat)
  case atStart => exact ⟨0, 0, rfl, rfl, by omega, Nat.zero_le _, H0⟩
  case round =>
    obtain ⟨i, k, rfl, hi, hi2, hk, hJk⟩ := hrel
    obtain ⟨x1, x2⟩ := HBX.out k wr hJk.out
    have hn' : (n : Int) ≤ 140737488355328 := by omega
    by_cases hlt : i < n
    · have hlt' : (i : Int) < n := by omega
      have hJ1 : J k wr.drew := HJ.out k wr wr.drew hJk.out (Below.refl _ _).drew
      obtain ⟨y1, y2⟩ := HBX.out k wr.drew hJ1
      have hkl : k < needP n := by have := hi.out; unfold needP; omega
      obtain ⟨fn, tmps, assign, body, hy, hR⟩ := HY.out k k wr.drew (List.getElem?_range hkl) hJ1
      obtain ⟨e, he⟩ : ∃ e, min 510 (n - 510 * k) = e := ⟨_, rfl⟩
      have hpv : ptV b off n k = .slice (some ⟨b, off + i, none⟩) e e := by unfold ptV; rw [he, hi.out]
      have he' : e = min 510 (n - i) := by rw [hi.out]; exact he.symm
      have hmin : min (510 : Int) ((n - i : Nat) : Int) = (e : Int) := by omega
      have hsl : ((i : Int) + (e : Int)).toNat - i = e := by omega
      have he1 : i + e ≤ n := by omega
      have he2 : 1 ≤ e ∧ e ≤ 510 := by omega
      rw [hpv] at hy
      have HR := Lib.hid hR
      have HE := Lib.hid he'
      have HKL := Lib.hid hkl
      clear hR he' he hpv hJ1 hkl
      have hic : (i : Int) ≤ c := by omega
      have hcase : (e = n - i ∧ ((n - i : Nat) : Int) < 510) ∨ (e = 510 ∧ (510 : Int) ≤ ((n - i : Nat) : Int)) := by have := HE.out; omega
      have hsl2 : ((i : Int) + 510).toNat - i = 510 := by omega
      rcases hcase with ⟨rfl, hle⟩ | ⟨rfl, hle⟩
      all_goals
        clear hmin
        gi_wp2
        gi_region
        all_goals gi_wp2
        refine ⟨fun h => (by cases h), HR.out.mono ?_⟩
        rintro e2 W3 (⟨rfl, hJ3⟩ | ⟨rfl, hJx3⟩)
        · have HJ3 := Lib.hid hJ3
          obtain ⟨z1, z2⟩ := HBX.out _ W3 hJ3
          clear hJ3
          gi_wp2
          go_roundw
          case rel =>
            have h1 := hi.out
            have h2 := HKL.out
            exact ⟨i + 510, k + 1, by go_num, by unfold Hid; omega, by omega, by unfold Hid; omega, HJ3⟩
          case measure => simp [intOf]; omega
        · have HX3 := Lib.hid hJx3
          clear hJx3
          gi_wp2
          refine bodyPost_ret (results_none rfl _ _ _) rfl ?_
          exact ⟨⟨_, rfl⟩, .inr ⟨k + 1, by rw [List.length_range]; exact HKL.out, HX3.out⟩⟩
    · have hlt' : (n : Int) ≤ i := by omega
      have hke : k = needP n := by
        have h1 := hi.out
        have h2 := hk.out
        unfold needP at *
        omega
      gi_wp2
      go_end0
      exact ⟨⟨_, rfl⟩, .inl (by rw [List.length_range, ← hke]; exact hJk.out)⟩

end Go.Proofs.YtlchmkpnehbnlaaGreatDoor.Cd

/-
  log.put: bytes are written behind the records', from the page on in which these end. Conditions: the power is on; there are bytes; names that can be.
-/
namespace Go.Proofs.YtlchmkpnehbnlaaGreatDoor.Cd
open Go.RowKit Go.Shelf
attribute [local go_sem] Oper.semAt_some
set_option linter.unusedVariables false

section
variable {w W W' : World} {S : Nat → Prop} {g M : Nat} {keep : List Nat} {D : Dsk}
theorem InP.new (h : InP w S g keep M D W) (hb : Below W.heap.size W W') {r : Nat} (h1 : W.heap.size ≤ r) (h2 : r < W'.heap.size) : InP w S g (r :: keep) M D W' := by
  obtain ⟨T, k1, k2, k3, k4⟩ := h
  refine ⟨T, k1.below hb, k2, fun q hq => ?_, k4.trans (Apart.below hb)⟩
  rcases List.mem_cons.1 hq with rfl | hq
  · exact ⟨fun e => by have := k1.lt _ e; omega, h2⟩
  · exact ⟨(k3 q hq).1, Nat.lt_of_lt_of_le (k3 q hq).2 hb.size⟩
end

theorem InP.log {w W : World} {S : Nat → Prop} {l g M : Nat} {n s : List UInt8} {keep : List Nat} {D : Dsk} (h : InP w S g keep M D W) (hl : LogAt w S l g n s) (hS : ∀ k, S k → k < w.heap.size) :
    ∃ T : Nat → Prop, DkS W g M T D ∧ LogAt W T l g n s ∧ (∀ j, T j → since S w W j) ∧ Apart S w W ∧ (∀ r ∈ keep, ¬ T r ∧ r < W.heap.size) := by
  obtain ⟨T, h1, h2, h3, h4⟩ := h
  have hless : ∀ k, k < W.heap.size → T k → since S w W k := fun k hk ht => by
    rcases h2 k ht with h | h
    · exact .inl h
    · exact .inr ⟨h, hk⟩
  exact ⟨T, h1, (hl.apart h4).less hless, fun j hj => hless j (h1.lt j hj) hj, h4, h3⟩

def RowAt (W : World) (r : Nat) (bs : List UInt8) : Prop := ∃ cur : Array Value, W.heap[r]? = some (.cells cur 5 (0, 0)) ∧ ∀ (j : Nat) (u : Value), (vb bs)[j]? = some u → cur[j]? = some u
theorem RowAt.on {W W' : World} {r : Nat} {bs : List UInt8} (h : RowAt W r bs) (he : W'.heap[r]? = W.heap[r]?) : RowAt W' r bs := by
  obtain ⟨cur, h1, h2⟩ := h
  exact ⟨cur, he.trans h1, h2⟩
theorem RowAt.lt {W : World} {r : Nat} {bs : List UInt8} (h : RowAt W r bs) : r < W.heap.size := by
  obtain ⟨cur, h1, _⟩ := h
  exact (Array.getElem?_eq_some_iff.1 h1).1
theorem RowAt.part {W : World} {r : Nat} {bs : List UInt8} (h : RowAt W r bs) (k : Nat) (hk : 510 * k < bs.length) (hl : bs.length ≤ 9223372036854775807) : Sl W W.heap.size (ptV r 0 bs.length k) (part bs k) := by
  have hlt := h.lt
  obtain ⟨cur, h1, h2⟩ := h
  have hpl := part_len bs k
  refine ⟨some ⟨r, 0 + 510 * k, none⟩, min 510 (bs.length - 510 * k), by rw [hpl]; rfl, by rw [hpl]; exact Nat.le_refl _, by simp only [maxLen]; omega, (fun h => by cases h), fun ad e _ => ?_, fun ad e j u hu => ?_⟩
  · injection e with e
    subst e
    exact hlt
  · injection e with e
    subst e
    have hj := (List.getElem?_eq_some_iff.1 hu).1
    rw [vb_length, hpl] at hj
    rw [Addr.add_lit, cell_of_row _ _ _ _ _ _ h1]
    refine h2 _ _ ?_
    rw [← hu]
    simp only [vb, Cd.part, List.map_take, List.map_drop]
    rw [List.getElem?_take, if_pos (by omega), List.getElem?_drop]
    congr 1
    omega
theorem RowAt.sl {W : World} {r c : Nat} {bs : List UInt8} (h : RowAt W r bs) (hc : bs.length ≤ c) (hm : c ≤ maxLen) : Sl W W.heap.size (.slice (some ⟨r, 0, none⟩) bs.length c) bs := by
  have hlt := h.lt
  obtain ⟨cur, h1, h2⟩ := h
  refine ⟨some ⟨r, 0, none⟩, c, rfl, hc, hm, (fun h => by cases h), fun ad e _ => ?_, fun ad e j u hu => ?_⟩
  · injection e with e
    subst e
    exact hlt
  · injection e with e
    subst e
    rw [Addr.add_lit, cell_of_row _ _ _ _ _ _ h1, Nat.zero_add]
    exact h2 _ _ hu

theorem ret_cell9 {fn : Func} {p : Tmp} (h : fn.results = #[.cell p 26]) (tmps : Array Value) (w : World) {r : Nat} {v : Value} (hp : tmps.getD p undef = .pointer (some ⟨r, 0, none⟩)) (hb : w.cell? ⟨r, 0, none⟩ = some v) :
    (results fn tmps).run Tryz.prog w = .ok v w := by
  have hp' : tmps[p]?.getD undef = .pointer (some ⟨r, 0, none⟩) := by simpa using hp
  simp [results, h, hp', asAddr, loadVar, go_sem, hb]

set_option maxRecDepth 100000 in
set_option maxHeartbeats 6400000 in
theorem put_l (l g N M : Nat) (n s b : List UInt8) (A : Option Addr) (c : Nat) (S : Nat → Prop) (D : Dsk) (w : World) (h : LogAt w S l g n s) (hd : DkS w g N S D) (ho : D.off = false) (hn : n.length ≤ 140737488355000)
    (hb : Sl w w.heap.size (.slice A b.length c) b) (h0 : 0 < b.length) (hsl : s.length + b.length ≤ 1000000000) (hN : N + 4 * (needP (lastP s ++ b).length + 1) ≤ M) (hM : M ≤ 137438953472) :
    Calls Tryz.prog 109 #[.pointer (some ⟨l, 0, none⟩), .slice A b.length c] w (MakesL g M S (putD D n s b).1 (.int .i64 ((putD D n s b).2 : Nat)) l n (if (putD D n s b).2 = 0 then s ++ b else s) w) := by
  have HL := Lib.hid h
  have HB := Lib.hid hb
  have HD := Lib.hid hd
  have hSlt := Lib.hid hd.lt
  obtain ⟨hb2, hb3⟩ : b.length ≤ c ∧ c ≤ 9223372036854775807 := by
    obtain ⟨_, _, e, h1, h2, _⟩ := hb
    injection e with _ _ e
    rw [e]
    exact ⟨h1, h2⟩
  obtain ⟨W0, hW0⟩ : ∃ x, (w.alloc (.cells #[.pointer (some ⟨l, 0, none⟩)] 55)).alloc (.cells #[.int .i64 0] 26) = x := ⟨_, rfl⟩
  have hi0 : InP w S g [w.heap.size + 1, w.heap.size] N D W0 := by
    rw [← hW0]
    have := ((inP_start hd).lay (.cells #[.pointer (some ⟨l, 0, none⟩)] 55)).lay (.cells #[.int .i64 0] 26)
    rwa [World.size_alloc] at this
  have hbw : Below w.heap.size w W0 := by rw [← hW0]; exact ((Below.refl _ _).alloc (Nat.le_refl _) _).alloc (by simp) _
  have hl0 := h.below hbw
  have hsz0 : W0.heap.size = w.heap.size + 2 := by rw [← hW0]; simp
  have b0 : BoxAt W0 w.heap.size (.pointer (some ⟨l, 0, none⟩)) 55 := by rw [← hW0]; exact (BoxAt.new w _ _).alloc _
  have b1 : BoxAt W0 (w.heap.size + 1) (.int .i64 0) 26 := by
    rw [← hW0]
    have := BoxAt.new (w.alloc (.cells #[.pointer (some ⟨l, 0, none⟩)] 55)) (.int .i64 0) 26
    rwa [World.size_alloc] at this
  have hlt := h.lt
  have hnS := h.1
  have x0 := b0.cell
  obtain ⟨z0, z1, z2, lv, z3, hfar⟩ := hl0.cells
  obtain ⟨LA, Lc, rfl, hLc1, hLc2⟩ := hfar.1.len
  have hLc2 : Lc ≤ 9223372036854775807 := hLc2
  have HFAR := Lib.hid hfar
  have HI0 := Lib.hid hi0
  have B0 := Lib.hid b0
  have B1 := Lib.hid b1
  have HL0 := Lib.hid hl0
  have hsi : (s.length : Int) ≤ 1000000000 := by omega
  have hlt0 : l < W0.heap.size := by omega
  obtain ⟨PD, hPD⟩ : ∃ x, putD D n s b = x := ⟨_, rfl⟩
  obtain ⟨DE, ee⟩ := PD
  rw [hPD] at ⊢
  obtain ⟨s2, hs2⟩ : ∃ x, (if (DE, ee).2 = 0 then s ++ b else s) = x := ⟨_, rfl⟩
  rw [hs2]
  have HPD := Lib.hid hPD
  have HS2 := Lib.hid hs2
  have hz3 : ∀ o, (W0.alloc o).cell? ⟨l, 3, none⟩ = some (.slice LA (lastP s).length Lc) := fun o => (((Below.refl _ _).alloc (Nat.le_refl _) o).cell (p := ⟨l, 3, none⟩) hlt0).trans z3
  have HCC : Hid (∀ (r : Nat) (W : World), Below W0.heap.size W0 W → r < W.heap.size → W.cell? ⟨r, 0, none⟩ = some (.slice LA (lastP s).length Lc) → W.cell? ⟨r, 1, none⟩ = some (.slice A b.length c) → Calls Tryz.prog 150 #[.slice (some ⟨r, 0, none⟩) 2 2] W (Wrote W (lastP s ++ b))) := fun r W hbl hr e0 e1 =>
    concat_any r _ _ (lastP s) b W hr e0 e1 (((HFAR.out.1.below hbl)).more hbl.size) (((HB.out.below (hbw.trans (hbl.mono hbw.size)))).more (Nat.le_trans hbw.size hbl.size)) (by rw [lastP_len]; omega)
  have hbW := Lib.hid hbw
  clear hbw
  clear hi0 hPD hs2 b0 b1 hl0 hfar h hd hb
  refine (callsIn_wide (n := 6)).1 ?_
  refine callsIn_of_wp_marks Tryz.func109 rfl trivial ?_ rfl
  simp only [Tryz.ntmps109, List.size_toArray, List.length_cons, List.length_nil, Nat.reduceAdd, Nat.reduceSub, Array.replicate_succ, Array.replicate_zero, List.push_toArray, List.append_toArray, List.nil_append, List.cons_append]
  gi_wp2_with fail
  obtain ⟨W1, hW1⟩ : ∃ x, (W0.alloc (.cells #[.int .i64 ((s.length : Int) / 510)] 3)).alloc (.cells #[.slice LA (lastP s).length Lc, .slice A b.length c] 88) = x := ⟨_, rfl⟩
  rw [hW1]
  have i1 := (HI0.out.lay (.cells #[.int .i64 ((s.length : Int) / 510)] 3)).lay (.cells #[.slice LA (lastP s).length Lc, .slice A b.length c] 88)
  rw [hW1, World.size_alloc] at i1
  have hb01 : Below W0.heap.size W0 W1 := by rw [← hW1]; exact ((Below.refl _ _).alloc (Nat.le_refl _) _).alloc (by simp) _
  have hsz1 : W1.heap.size = w.heap.size + 4 := by rw [← hW1]; simp; omega
  have hrow1 : W1.heap[w.heap.size + 2 + 1]? = some (.cells #[.slice LA (lastP s).length Lc, .slice A b.length c] 88) := by
    rw [← hW1]
    have := heap_alloc_new (W0.alloc (.cells #[.int .i64 ((s.length : Int) / 510)] 3)) (.cells #[.slice LA (lastP s).length Lc, .slice A b.length c] 88)
    rwa [World.size_alloc, hsz0] at this
  have bi1 : BoxAt W1 (w.heap.size + 2) (.int .i64 ((s.length / 510 : Nat) : Int)) 3 := by
    rw [← hW1]
    have := (BoxAt.new W0 (.int .i64 ((s.length : Int) / 510)) 3).alloc (.cells #[.slice LA (lastP s).length Lc, .slice A b.length c] 88)
    rw [hsz0] at this
    rwa [show ((s.length / 510 : Nat) : Int) = (s.length : Int) / 510 by omega]
  refine ⟨trivial, (callsIn_wide.2 (HCC.out (w.heap.size + 2 + 1) W1 hb01 (by omega) (by rw [cell_of_row _ _ 0 _ _ _ hrow1]; rfl) (by rw [cell_of_row _ _ 1 _ _ _ hrow1]; rfl))).mono ?_⟩
  rintro e W2 ⟨v2, rfl, ho2, hb2'⟩
  obtain ⟨rest, hrest⟩ : ∃ x, lastP s ++ b = x := ⟨_, rfl⟩
  rw [hrest] at ho2 hN
  have hrl : rest.length ≤ 1000000000 := by rw [← hrest, List.length_append, lastP_len]; omega
  have hr0 : 0 < rest.length := by rw [← hrest, List.length_append]; omega
  have HREST := Lib.hid hrest
  obtain ⟨r, rc, rcur, rfl, hr1, hr2, hr3, hr4, hr5, hr6⟩ := own_block ho2 hr0
  have hrow2 : RowAt W2 r rest := ⟨rcur, hr3, hr6⟩
  have hrc : rc ≤ 9223372036854775807 := hr5
  have i2 := i1.new hb2' hr1 hr2
  have hsz2 : w.heap.size + 4 ≤ W2.heap.size := by have := hb2'.size; omega
  have hl02 : ∀ q, q < W0.heap.size → W2.heap[q]? = W0.heap[q]? := fun q hq => (hb2'.block q (by omega)).trans (hb01.block q hq)
  have b02 : BoxAt W2 w.heap.size (.pointer (some ⟨l, 0, none⟩)) 55 := B0.out.on (hl02 _ (by omega))
  have b12 : BoxAt W2 (w.heap.size + 1) (.int .i64 0) 26 := B1.out.on (hl02 _ (by omega))
  have bi2 : BoxAt W2 (w.heap.size + 2) (.int .i64 ((s.length / 510 : Nat) : Int)) 3 := bi1.on (hb2'.block _ (by omega))
  have I2 := Lib.hid i2
  have B02 := Lib.hid b02
  have B12 := Lib.hid b12
  have BI2 := Lib.hid bi2
  have ROW2 := Lib.hid hrow2
  have hri : (rest.length : Int) ≤ 1000000000 := by omega
  have hr1' : w.heap.size + 4 ≤ r := by omega
  have HR4 := Lib.hid hr4
  have HR5 := Lib.hid hr5
  clear i1 i2 b02 b12 bi2 bi1 hrow2 hr3 hr6 hl02 hrow1 hb01 hb2' ho2 hW1 hrest hz3 z0 z1 z2 z3 x0 HI0 HL0 HCC HFAR hr4 hr5
  gi_wp2_with fail
  refine ⟨trivial, (callsIn_wide.2 (lchunk_any _ _ _ _)).mono ?_⟩
  rintro e W' ⟨rfl, rfl⟩
  obtain ⟨W3, hW3⟩ : ∃ x, (W2.alloc (.cells #[.slice (some ⟨r, 0, none⟩) rest.length rc] 88)).alloc (.cells #[.int .i64 510] 3) = x := ⟨_, rfl⟩
  rw [hW3]
  have i3 := (I2.out.lay (.cells #[.slice (some ⟨r, 0, none⟩) rest.length rc] 88)).lay (.cells #[.int .i64 510] 3)
  simp only [World.size_alloc] at i3
  rw [hW3] at i3
  have hsz3 : W3.heap.size = W2.heap.size + 2 := by rw [← hW3]; simp
  have hal : ∀ q, q < W2.heap.size → W3.heap[q]? = W2.heap[q]? := fun q hq => by
    rw [← hW3]
    exact (((Below.refl W2.heap.size W2).alloc (Nat.le_refl _) _).alloc (by simp) _).block q hq
  have c0 : BoxAt W3 w.heap.size (.pointer (some ⟨l, 0, none⟩)) 55 := B02.out.on (hal _ (by omega))
  have c1 : BoxAt W3 (w.heap.size + 1) (.int .i64 0) 26 := B12.out.on (hal _ (by omega))
  have c2 : BoxAt W3 (w.heap.size + 2) (.int .i64 ((s.length / 510 : Nat) : Int)) 3 := BI2.out.on (hal _ (by omega))
  have c5 : RowAt W3 r rest := ROW2.out.on (hal _ ROW2.out.lt)
  have c3 : BoxAt W3 W2.heap.size (.slice (some ⟨r, 0, none⟩) rest.length rc) 88 := by
    rw [← hW3]
    exact (BoxAt.new W2 _ _).alloc _
  have c4 : BoxAt W3 (W2.heap.size + 1) (.int .i64 510) 3 := by
    rw [← hW3]
    have := BoxAt.new (W2.alloc (.cells #[.slice (some ⟨r, 0, none⟩) rest.length rc] 88)) (.int .i64 510) 3
    rwa [World.size_alloc] at this
  have hrlt := ROW2.out.lt
  have I3 := Lib.hid i3
  have C0 := Lib.hid c0
  have C1 := Lib.hid c1
  have C2 := Lib.hid c2
  have C3 := Lib.hid c3
  have C4 := Lib.hid c4
  have C5 := Lib.hid c5
  have HSZ := Lib.hid hsz3
  clear i3 c0 c1 c2 c3 c4 c5 hsz3 hW3 hal B02 B12 BI2 I2 ROW2
  gi_wp2_with fail
  obtain ⟨K7, hK7⟩ : ∃ q, q = [W3.heap.size + 1, W3.heap.size, W2.heap.size + 1, W2.heap.size, r, w.heap.size + 2 + 1, w.heap.size + 2, w.heap.size + 1, w.heap.size] := ⟨_, rfl⟩
  have hsz3 := HSZ.out
  obtain ⟨i0, hi0⟩ : ∃ x, s.length / 510 = x := ⟨_, rfl⟩
  rw [hi0] at C2
  have hi0l : i0 ≤ 1000000000 := by omega
  have hnl : needP rest.length ≤ 1000000000 := by unfold needP; omega
  have hchl : (chunksL s b).length = needP rest.length := by rw [chunksL_len, HREST.out]
  have HCHL := Lib.hid hchl
  have HI0 := Lib.hid hi0
  obtain ⟨I, hI⟩ : ∃ I : Nat → World → Prop, ∀ k W, I k W ↔ (InP w S g K7 (N + 4 * k) (writes D n ((chunksL s b).take k)).1 W ∧ (writes D n ((chunksL s b).take k)).2 = 0 ∧ BoxAt W w.heap.size (.pointer (some ⟨l, 0, none⟩)) 55 ∧ BoxAt W (w.heap.size + 1) (.int .i64 0) 26 ∧ BoxAt W (w.heap.size + 2) (.int .i64 ((i0 + k : Nat) : Int)) 3 ∧ BoxAt W W2.heap.size (.slice (some ⟨r, 0, none⟩) rest.length rc) 88 ∧ BoxAt W (W2.heap.size + 1) (.int .i64 510) 3 ∧ RowAt W r rest) := ⟨_, fun _ _ => Iff.rfl⟩
  obtain ⟨Ix, hIx⟩ : ∃ Ix : Code → Nat → World → Prop, ∀ c k W, Ix c k W ↔ (c = .ret ∧ ee ≠ 0 ∧ InP w S g K7 M DE W ∧ BoxAt W (w.heap.size + 1) (.int .i64 (ee : Nat)) 26) := ⟨_, fun _ _ _ => Iff.rfl⟩
  have HI := Lib.hid hI
  have HIX := Lib.hid hIx
  clear hI hIx hchl hi0
  have hstay : ∀ {r : Nat} {v : Value} {T : TypeId} {A : World} (o : Obj), BoxAt A r v T → r ≠ W3.heap.size + 1 → BoxAt (A.putObj (W3.heap.size + 1) o) r v T := fun o h hr => h.on (World.putObj_heap_other hr)
  refine wpIn_range rfl (by omega) (gf := 177) (lb := #[.pointer (some ⟨W2.heap.size, 0, none⟩), .pointer (some ⟨W2.heap.size + 1, 0, none⟩)]) rfl trivial (enters_of Tryz.func177 (by kernel_rfl) rfl) (encs := fun k => #[ptV r 0 rest.length k]) (fun _ => rfl)
    (List.range (needP rest.length)) (BoxesL W2.heap.size (W2.heap.size + 1) r 0 rest.length rc) (lchunk_hands _ _ _ _ _ _ _ HR4.out hrc (by omega)) I Ix ?hI ?hIx ?hBox ?h0 (fun k => { tmps := #[.pointer (some ⟨l, 0, none⟩), .slice A b.length c, .pointer (some ⟨w.heap.size, 0, none⟩), undef, .pointer (some ⟨w.heap.size + 1, 0, none⟩), .pointer (some ⟨w.heap.size + 2, 0, none⟩), .slice (some ⟨r, 0, none⟩) rest.length rc, ptV r 0 rest.length k, undef,
        .pointer (some ⟨l, 0, none⟩), .pointer (some ⟨l, 0, none⟩), .pointer (some ⟨l, 2, none⟩), .int .i64 s.length, .int .i64 ((s.length : Int) / 510), .pointer (some ⟨l, 0, none⟩), .pointer (some ⟨l, 0, none⟩), .pointer (some ⟨l, 3, none⟩), .slice LA (lastP s).length Lc, .slice A b.length c, .slice (some ⟨w.heap.size + 2 + 1, 0, none⟩) 2 2,
        .slice (some ⟨r, 0, none⟩) rest.length rc, .slice (some ⟨r, 0, none⟩) rest.length rc, .func (.func 177) #[] #[.pointer (some ⟨W2.heap.size, 0, none⟩), .pointer (some ⟨W2.heap.size + 1, 0, none⟩)], ptV r 0 rest.length k,
        undef, undef, undef, undef, undef, undef, undef, undef, undef, undef, undef, undef, undef, undef, undef, undef, undef, undef, undef, undef, undef, undef, undef, undef, undef, undef, undef, undef, undef, undef, undef, undef], defers := [] }) ?assign ?body ?done ?stop
  case hI =>
    intro k
    refine ⟨fun A B hA hb => ?_, fun A o hA => ?_⟩
    · obtain ⟨a1, a2, a3, a4, a5, a6, a7, a8⟩ := (HI.out _ _).1 hA
      exact (HI.out _ _).2 ⟨a1.below hb, a2, a3.on (hb.block _ a3.lt), a4.on (hb.block _ a4.lt), a5.on (hb.block _ a5.lt), a6.on (hb.block _ a6.lt), a7.on (hb.block _ a7.lt), a8.on (hb.block _ a8.lt)⟩
    · obtain ⟨a1, a2, a3, a4, a5, a6, a7, a8⟩ := (HI.out _ _).1 hA
      exact (HI.out _ _).2 ⟨a1.put (by rw [hK7]; simp) (by omega) o, a2, hstay o a3 (by omega), hstay o a4 (by omega), hstay o a5 (by omega), hstay o a6 (by omega), hstay o a7 (by omega), a8.on (World.putObj_heap_other (by omega))⟩
  case hIx =>
    intro c' k
    refine ⟨fun A B hA hb => ?_, fun A o hA => ?_⟩
    · obtain ⟨a1, a2, a3, a4⟩ := (HIX.out _ _ _).1 hA
      exact (HIX.out _ _ _).2 ⟨a1, a2, a3.below hb, a4.on (hb.block _ a4.lt)⟩
    · obtain ⟨a1, a2, a3, a4⟩ := (HIX.out _ _ _).1 hA
      exact (HIX.out _ _ _).2 ⟨a1, a2, a3.put (by rw [hK7]; simp) (by omega) o, hstay o a4 (by omega)⟩
  case hBox =>
    intro k A hA
    obtain ⟨_, _, _, _, _, a6, a7, _⟩ := (HI.out _ _).1 hA
    exact ⟨a6.cell, a7.cell⟩
  case h0 =>
    intro o
    have i5 := (I3.out.lay (.deferred (some []))).lay o
    rw [World.size_alloc] at i5
    have hal : ∀ {r : Nat}, r < W3.heap.size → ((W3.alloc (.deferred (some []))).alloc o).heap[r]? = W3.heap[r]? := fun hr => (((Below.refl W3.heap.size W3).alloc (Nat.le_refl _) _).alloc (by simp) _).block _ hr
    refine (HI.out _ _).2 ⟨i5.fewer (by rw [hK7, hsz0]; simp), rfl, (C0.out.alloc _).alloc _, (C1.out.alloc _).alloc _, (C2.out.alloc _).alloc _, (C3.out.alloc _).alloc _, (C4.out.alloc _).alloc _, C5.out.on (hal C5.out.lt)⟩
  case assign =>
    intro l x W K hK
    gi_wp2
    exact hK
  case body =>
    intro k x W hx hIk hlt3
    obtain ⟨hk1, hk2⟩ := List.getElem?_eq_some_iff.1 hx
    rw [List.length_range] at hk1
    rw [List.getElem_range] at hk2
    subst hk2
    obtain ⟨a1, a2, a3, a4, a5, a6, a7, a8⟩ := (HI.out _ _).1 hIk
    have hkc : k < (chunksL s b).length := by rw [HCHL.out]; exact hk1
    have hstep := writes_take n (chunksL s b) D hkc a2
    rw [chunksL_at s b hkc, HREST.out, HI0.out] at hstep
    obtain ⟨Dk, hDk⟩ : ∃ x, (writes D n ((chunksL s b).take k)).1 = x := ⟨_, rfl⟩
    rw [hDk] at a1 hstep
    obtain ⟨ik, hik⟩ : ∃ x, i0 + k = x := ⟨_, rfl⟩
    rw [hik] at a5 hstep
    have hikl : (ik : Int) ≤ 2000000000 := by omega
    have hikn : ik ≤ 2000000000 := by omega
    have HIK := Lib.hid hik
    clear hik
    obtain ⟨T, d1, d3, d2, _, d5⟩ := a1.go
    obtain ⟨dl1, dl2⟩ := d2 l hlt hnS
    have hlk : 510 * k < rest.length := by unfold needP at hk1; omega
    have d6 := a8.part k hlk (by omega)
    obtain ⟨W4, hW4⟩ : ∃ x, W.drew = x := ⟨_, rfl⟩
    have hb4 : Below W.heap.size W W4 := by rw [← hW4]; exact (Below.refl _ _).drew
    have hz4 : W4.heap.size = W.heap.size := by rw [← hW4]; rfl
    have hplt := part_le rest k
    have CP := Lib.hid (pageOf_any (ptV r 0 rest.length k) (part rest k) W4 (by rw [hz4]; exact d6.below hb4) hplt)
    have hlW : l < W.heap.size := Nat.lt_of_lt_of_le hlt a1.size
    have hlog : LogAt W S l g n s ∨ True := .inr trivial
    have e0 := (a3.on (hb4.block _ a3.lt)).cell
    obtain ⟨hlv, hlh, _⟩ := HL.out.2
    have hlh4 : W4.heap[l]? = some (.cells #[.pointer (some ⟨g, 0, none⟩), .string ⟨n.toArray⟩, .int .i64 s.length, hlv] 95) := ((hb4.block l hlW).trans dl1).trans hlh
    have e1 : W4.cell? ⟨l, 0, none⟩ = some (.pointer (some ⟨g, 0, none⟩)) := cell_of_row _ _ 0 _ _ _ hlh4
    have e3 : W4.cell? ⟨l, 1, none⟩ = some (.string ⟨n.toArray⟩) := cell_of_row _ _ 1 _ _ _ hlh4
    have e2 := (a5.on (hb4.block _ a5.lt)).cell
    gi_wp2_with fail
    refine region_round (S := fun X => X.cell? ⟨w.heap.size, 0, none⟩ = some (.pointer (some ⟨l, 0, none⟩)) ∧ X.cell? ⟨l, 0, none⟩ = some (.pointer (some ⟨g, 0, none⟩)) ∧ X.cell? ⟨l, 1, none⟩ = some (.string ⟨n.toArray⟩) ∧ X.cell? ⟨w.heap.size + 2, 0, none⟩ = some (.int .i64 (ik : Int))) hW4 (by kernel_rfl) ?hlo (by kernel_rfl) ⟨e0, e1, e3, e2⟩ (fun hHeld => ?_)
    case hlo => rintro ⟨a', w', h⟩; exact h
    refine take_at (i := 0) (.pointer (some ⟨l, 0, none⟩)) (some 24) (by decide) (by rfl) (by kernel_rfl) (by kernel_rfl) (by kernel_rfl) (fun _ _ _ h => h) (by rfl) (fun X hX => by obtain ⟨hX1, hX2, hX3, hX4⟩ := hX; go_simp) (by assumption) ?_
    simp only [Act.put, List.setIfInBounds_toArray, List.set_cons_zero, List.set_cons_succ]
    refine take_at (i := 1) (.pointer (some ⟨l, 0, none⟩)) (some 25) (by decide) (by rfl) (by kernel_rfl) (by kernel_rfl) (by kernel_rfl) (fun _ _ _ h => h) (by rfl) (fun X hX => by obtain ⟨hX1, hX2, hX3, hX4⟩ := hX; go_simp) (by assumption) ?_
    simp only [Act.put, List.setIfInBounds_toArray, List.set_cons_zero, List.set_cons_succ]
    refine take_at (i := 2) (.pointer (some ⟨l, 0, none⟩)) (some 26) (by decide) (by rfl) (by kernel_rfl) (by kernel_rfl) (by kernel_rfl) (fun _ _ _ h => h) (by rfl) (fun X hX => by obtain ⟨hX1, hX2, hX3, hX4⟩ := hX; go_simp) (by assumption) ?_
    simp only [Act.put, List.setIfInBounds_toArray, List.set_cons_zero, List.set_cons_succ]
    refine take_at (i := 3) (.pointer (some ⟨g, 0, none⟩)) (some 27) (by decide) (by rfl) (by kernel_rfl) (by kernel_rfl) (by kernel_rfl) (fun _ _ _ h => h) (by rfl) (fun X hX => by obtain ⟨hX1, hX2, hX3, hX4⟩ := hX; go_simp) (by assumption) ?_
    simp only [Act.put, List.setIfInBounds_toArray, List.set_cons_zero, List.set_cons_succ]
    refine take_at (i := 4) (.pointer (some ⟨l, 0, none⟩)) (some 28) (by decide) (by rfl) (by kernel_rfl) (by kernel_rfl) (by kernel_rfl) (fun _ _ _ h => h) (by rfl) (fun X hX => by obtain ⟨hX1, hX2, hX3, hX4⟩ := hX; go_simp) (by assumption) ?_
    simp only [Act.put, List.setIfInBounds_toArray, List.set_cons_zero, List.set_cons_succ]
    refine take_at (i := 5) (.pointer (some ⟨l, 0, none⟩)) (some 29) (by decide) (by rfl) (by kernel_rfl) (by kernel_rfl) (by kernel_rfl) (fun _ _ _ h => h) (by rfl) (fun X hX => by obtain ⟨hX1, hX2, hX3, hX4⟩ := hX; go_simp) (by assumption) ?_
    simp only [Act.put, List.setIfInBounds_toArray, List.set_cons_zero, List.set_cons_succ]
    refine take_at (i := 6) (.pointer (some ⟨l, 1, none⟩)) (some 30) (by decide) (by rfl) (by kernel_rfl) (by kernel_rfl) (by kernel_rfl) (fun _ _ _ h => h) (by rfl) (fun X hX => by obtain ⟨hX1, hX2, hX3, hX4⟩ := hX; go_simp) (by assumption) ?_
    simp only [Act.put, List.setIfInBounds_toArray, List.set_cons_zero, List.set_cons_succ]
    refine take_at (i := 7) (.string ⟨n.toArray⟩) (some 31) (by decide) (by rfl) (by kernel_rfl) (by kernel_rfl) (by kernel_rfl) (fun _ _ _ h => h) (by rfl) (fun X hX => by obtain ⟨hX1, hX2, hX3, hX4⟩ := hX; go_simp) (by assumption) ?_
    simp only [Act.put, List.setIfInBounds_toArray, List.set_cons_zero, List.set_cons_succ]
    refine take_at (i := 8) (.int .i64 (ik : Int)) (some 32) (by decide) (by rfl) (by kernel_rfl) (by kernel_rfl) (by kernel_rfl) (fun _ _ _ h => h) (by rfl) (fun X hX => by obtain ⟨hX1, hX2, hX3, hX4⟩ := hX; go_simp) (by assumption) ?_
    simp only [Act.put, List.setIfInBounds_toArray, List.set_cons_zero, List.set_cons_succ]
    refine take_at (i := 9) (ptV r 0 rest.length k) (some 33) (by decide) (by rfl) (by kernel_rfl) (by kernel_rfl) (by kernel_rfl) (fun _ _ _ h => h) (by rfl) (fun X hX => by obtain ⟨hX1, hX2, hX3, hX4⟩ := hX; go_simp) (by assumption) ?_
    simp only [Act.put, List.setIfInBounds_toArray, List.set_cons_zero, List.set_cons_succ]
    refine wpAnyH_ready (rs := [10]) (by kernel_rfl) (by simp) ?_
    refine AllReadyH.cons rfl (fun K' hK' => ?_) AllReadyH.nil
    go_simp
    refine CP.out.mono ?_
    rintro e5 W5 ⟨pv, rfl, hpo, hpb⟩
    have hb5 : Below W.heap.size W W5 := hb4.trans (by rw [← hz4]; exact hpb)
    have hpl : (pageB (part rest k)).length = (part rest k).length + 2 := pageB_len _
    obtain ⟨R, hR⟩ : ∃ R, writeD Dk n (ik : Int) (pageB (part rest k)) = R := ⟨_, rfl⟩
    obtain ⟨DR, ec⟩ := R
    rw [hR] at hstep
    have CW := Lib.hid (write_dks g (N + 4 * k) T Dk n W5 (pageB (part rest k)) (ik : Int) pv (d1.below hb5) hpo.sl (fun h0 A m c e ht => by have h1 := (hpo.lt A.block (by rw [e]; rfl)).1; have h2 := d1.lt _ ht; omega) (by omega) (by omega) (by omega))
    rw [hR] at CW
    have HST := Lib.hid hstep
    clear hR hstep
    have hH5 := And.intro (a3.on (hb5.block _ a3.lt)).cell (And.intro ((hpb.cell (p := ⟨l, 0, none⟩) (by show l < W4.heap.size; omega)).trans e1) (And.intro ((hpb.cell (p := ⟨l, 1, none⟩) (by show l < W4.heap.size; omega)).trans e3) (a5.on (hb5.block _ a5.lt)).cell))
    have HB5 := Lib.hid hb5
    refine hK'.out _ _ hH5 (fun _ => ?_)
    clear hK' K' CP hpo hpb hHeld
    refine wpAnyH_ready (rs := [11]) (by kernel_rfl) (by simp) ?_
    refine AllReadyH.cons rfl (fun K' hK' => ?_) AllReadyH.nil
    go_simp
    refine CW.out.mono ?_
    rintro e6 W6 hm
    obtain rfl := hm.1
    obtain ⟨i6, k6, s6, ap6⟩ := d5 _ _ _ _ _ (MakesD.over HB5.out hm)
    have f0 := a3.on (k6 _ (by rw [hK7]; simp))
    have f1 := a4.on (k6 _ (by rw [hK7]; simp))
    have f2 := a5.on (k6 _ (by rw [hK7]; simp))
    have f3 := a6.on (k6 _ (by rw [hK7]; simp))
    have f4 := a7.on (k6 _ (by rw [hK7]; simp))
    have f6 := a8.on (k6 _ (by rw [hK7]; simp))
    have htwo : Two W3.heap.size W W6 := ⟨k6 _ (by rw [hK7]; simp), k6 _ (by rw [hK7]; simp)⟩
    have hlh6 : W6.heap[l]? = some (.cells #[.pointer (some ⟨g, 0, none⟩), .string ⟨n.toArray⟩, .int .i64 s.length, hlv] 95) := (ap6.block l hlW dl2).trans (dl1.trans hlh)
    have hH6 := And.intro f0.cell (And.intro (cell_of_row _ _ 0 _ _ _ hlh6) (And.intro (cell_of_row _ _ 1 _ _ _ hlh6) f2.cell))
    have HTW := Lib.hid htwo
    have F0 := Lib.hid f0
    have F1 := Lib.hid f1
    have F2 := Lib.hid f2
    have F3 := Lib.hid f3
    have F4 := Lib.hid f4
    have F6 := Lib.hid f6
    have I6 := Lib.hid i6
    refine hK'.out _ _ hH6 (fun _ => ?_)
    clear hK' K' hm i6 k6 ap6 f3 f4 f6 htwo e0 e1 e2 e3 d1 d2 d3 d5 d6 a1 a3 a4 a5 a6 a7 a8 CW hIk hlh4 hlh6 hH5 hb5 dl1 dl2
    refine wpAnyH_ready (rs := [12]) (by kernel_rfl) (by simp) ?_
    refine AllReadyH.cons rfl (fun K' hK' => ?_) AllReadyH.nil
    go_simp
    refine hK'.out _ _ hH6 (fun _ => ?_)
    clear hK' K'
    refine ⟨by kernel_rfl, ?_⟩
    have x0 := f0.cell
    have x1 := f1.cell
    have y1 := f1.frozen
    have x2 := f2.cell
    have y2 := f2.frozen
    clear f0 f1 f2 hH6 hb4 hz4 hW4
    by_cases hz2 : ec = 0
    · subst hz2
      gi_wp2
      have hne : ∀ q, q ≠ w.heap.size + 2 → (W6.setCell ⟨w.heap.size + 2, 0, none⟩ (.int .i64 ((ik : Int) + 1))).heap[q]? = W6.heap[q]? := fun q hq => heap_setCell_other _ _ _ _ hq
      have htw := HTW.out
      rw [hsz3] at htw
      refine ⟨⟨(hne _ (by omega)).trans htw.1, (hne _ (by omega)).trans htw.2⟩, (HI.out _ _).2 ⟨?_, by rw [HST.out], F0.out.on (hne _ (by omega)), F1.out.on (hne _ (by omega)), ?_, F3.out.on (hne _ (by omega)), F4.out.on (hne _ (by omega)), F6.out.on (hne _ (by omega))⟩⟩
      · rw [HST.out]
        exact (I6.out.set (by rw [hK7]; simp) (by omega) _).grow (by omega) (by omega)
      · show BoxAt _ _ (.int .i64 ((i0 + (k + 1) : Nat) : Int)) _
        rw [show ((i0 + (k + 1) : Nat) : Int) = (ik : Int) + 1 by have := HIK.out; omega]
        exact F2.out.set _
    · have hz3 : (ec : Int) ≠ 0 := by omega
      have hpd : (DE, ee) = (DR, ec) := by
        rw [← HPD.out]
        show writes D n (chunksL s b) = _
        rw [writes_stop n (chunksL s b) D (k := k + 1) (by rw [HST.out]; exact hz2), HST.out]
      injection hpd with hp1 hp2
      have HP1 := Lib.hid hp1
      have HP2 := Lib.hid hp2
      clear hp1 hp2
      gi_wp2
      have hne : ∀ q, q ≠ w.heap.size + 1 → (W6.setCell ⟨w.heap.size + 1, 0, none⟩ (.int .i64 ec)).heap[q]? = W6.heap[q]? := fun q hq => heap_setCell_other _ _ _ _ hq
      have htw := HTW.out
      rw [hsz3] at htw
      refine ⟨⟨(hne _ (by omega)).trans htw.1, (hne _ (by omega)).trans htw.2⟩, (HIX.out _ _ _).2 ⟨rfl, by rw [HP2.out]; exact hz2, ?_, ?_⟩⟩
      · rw [HP1.out]
        exact (I6.out.set (by rw [hK7]; simp) (by omega) _).grow (by omega) hM
      · rw [HP2.out]
        exact F1.out.set _
  case done =>
    intro W hIk hK
    obtain ⟨a1, a2, a3, a4, a5, a6, a7, a8⟩ := (HI.out _ _).1 hIk
    rw [List.length_range, List.take_of_length_le (by rw [HCHL.out]; exact Nat.le_refl _)] at a1 a2
    have hpd : writes D n (chunksL s b) = (DE, ee) := HPD.out
    rw [hpd] at a1 a2
    have hee : ee = 0 := a2
    subst hee
    have hs2 : s2 = s ++ b := by have := HS2.out; rw [if_pos rfl] at this; exact this.symm
    have HS3 := Lib.hid hs2
    obtain ⟨T, d1, d2, d3, d4, d5⟩ := a1.log HL.out hSlt.out
    obtain ⟨z0, z1, z2, zv, z3, _⟩ := d2.cells
    have y2 := d2.frozen 2
    have hlW := d2.lt
    have hwW := d4.size
    have h3W : W3.heap.size + 1 < W.heap.size := (d5 (W3.heap.size + 1) (by rw [hK7]; simp)).2
    have x0 := a3.cell
    have hlb : (b.length : Int) ≤ 1000000000 := by omega
    have hsb : (s.length : Int) + b.length ≤ 1000000000 := by omega
    have hlast := last_of_append s b
    rw [HREST.out] at hlast
    have HLAST := Lib.hid hlast
    have D1 := Lib.hid d1
    have D2 := Lib.hid d2
    have D3 := Lib.hid d3
    have D4 := Lib.hid d4
    have D5 := Lib.hid d5
    have A4 := Lib.hid a4
    have A3 := Lib.hid a3
    have A8 := Lib.hid a8
    have HK3 := Lib.hid hK
    clear hs2 hlast d1 d2 d3 d4 d5 a1 a2 a4 a5 a6 a7 a8 hIk hpd hK a3
    gi_wp2_with fail
    obtain ⟨Wa, hWa⟩ : ∃ x, W.setCell ⟨l, 2, none⟩ (.int .i64 ((s.length : Int) + b.length)) = x := ⟨_, rfl⟩
    rw [hWa]
    have hza : Wa.heap.size = W.heap.size := by rw [← hWa]; simp
    have hoa : ∀ q : Nat, q ≠ l → Wa.heap[q]? = W.heap[q]? := fun q hq => by rw [← hWa]; exact heap_setCell_other _ _ _ _ hq
    obtain ⟨lv2, hlh, _⟩ := D2.out.2
    have hla : Wa.heap[l]? = some (.cells #[.pointer (some ⟨g, 0, none⟩), .string ⟨n.toArray⟩, .int .i64 ((s.length : Int) + b.length), lv2] 95) := by rw [← hWa]; exact four_two hlh
    obtain ⟨Wb, hWb⟩ : ∃ x, Wa.drew = x := ⟨_, rfl⟩
    have hbb : ∀ q : Nat, Wb.heap[q]? = Wa.heap[q]? := fun q => by rw [← hWb]; rfl
    have hzb : Wb.heap.size = W.heap.size := by rw [← hWb, ← hza]; rfl
    have hxb : BoxAt Wb w.heap.size (.pointer (some ⟨l, 0, none⟩)) 55 := A3.out.on ((hbb _).trans (hoa _ (by omega)))
    have hrb : RowAt Wb r rest := A8.out.on ((hbb _).trans (hoa _ (by omega)))
    have CE := Lib.hid (ending_any _ rc rest Wb (hrb.sl HR4.out HR5.out) (by omega))
    have e0 := hxb.cell
    have HAA := Lib.hid (show Apart (fun k => k = l) W Wa from by rw [← hWa]; exact apart_set _ _ _ _)
    have HAB := Lib.hid (show Below Wa.heap.size Wa Wb from by rw [← hWb]; exact (Below.refl _ _).drew)
    have HLB := Lib.hid ((hbb l).trans hla)
    have HZA := Lib.hid hza
    have HZB := Lib.hid hzb
    clear hbb hoa hla hlh hWa hxb hrb x0 z0 z1 z2 z3 y2
    refine wpIn_wide.2 (wp_region_noPanic (region_begin (S := fun X => X.cell? ⟨w.heap.size, 0, none⟩ = some (.pointer (some ⟨l, 0, none⟩))) hWb (by kernel_rfl) e0 (fun hHeld => ?_)))
    refine take_at (i := 0) (.pointer (some ⟨l, 0, none⟩)) (some 50) (by decide) (by rfl) (by kernel_rfl) (by kernel_rfl) (by kernel_rfl) (fun _ _ _ h => h) (by rfl) (fun X hX => by have hX1 := hX; go_simp) (by assumption) ?_
    simp only [Act.put, List.setIfInBounds_toArray, List.set_cons_zero, List.set_cons_succ]
    refine take_at (i := 1) (.slice (some ⟨r, 0, none⟩) rest.length rc) (some 51) (by decide) (by rfl) (by kernel_rfl) (by kernel_rfl) (by kernel_rfl) (fun _ _ _ h => h) (by rfl) (fun X hX => by have hX1 := hX; go_simp) (by assumption) ?_
    simp only [Act.put, List.setIfInBounds_toArray, List.set_cons_zero, List.set_cons_succ]
    refine wpAnyH_ready (rs := [2]) (by kernel_rfl) (by simp) ?_
    refine AllReadyH.cons rfl (fun K' hK' => ?_) AllReadyH.nil
    go_simp
    refine CE.out.mono ?_
    rintro e5 W5 ⟨rfl, C, cc, rfl, hsl5⟩
    have CC := Lib.hid (clone_any _ (lastP rest) Wb hsl5 (by rw [lastP_len]; omega))
    refine hK'.out _ _ hHeld (fun _ => ?_)
    clear hK' K' CE hsl5
    refine wpAnyH_ready (rs := [3]) (by kernel_rfl) (by simp) ?_
    refine AllReadyH.cons rfl (fun K' hK' => ?_) AllReadyH.nil
    go_simp
    refine CC.out.mono ?_
    rintro e8 W8 ⟨v8, rfl, ho8, hb8⟩
    obtain ⟨A8, c8', rfl, _, _⟩ := ho8.sl.len
    have hH8 := (hb8.cell (p := ⟨w.heap.size, 0, none⟩) (by show w.heap.size < Wb.heap.size; omega)).trans e0
    have hl8 := (hb8.block l (by omega)).trans HLB.out
    have c8 : W8.cell? ⟨l, 3, none⟩ = some lv2 := cell_of_row _ _ 3 _ _ _ hl8
    have f8 : W8.frozen? ⟨l, 3, none⟩ = false := by
      unfold World.frozen?
      simp only [hl8]
      rfl
    have HO8 := Lib.hid ho8
    have HB8 := Lib.hid hb8
    have HL8 := Lib.hid hl8
    refine hK'.out _ _ hH8 (fun _ => ?_)
    clear hK' K' CC ho8 hb8 hl8 hHeld
    refine take_at (i := 4) (.pointer (some ⟨l, 0, none⟩)) (some 54) (by decide) (by rfl) (by kernel_rfl) (by kernel_rfl) (by kernel_rfl) (fun _ _ _ h => h) (by rfl) (fun X hX => by have hX1 := hX; go_simp) (by assumption) ?_
    simp only [Act.put, List.setIfInBounds_toArray, List.set_cons_zero, List.set_cons_succ]
    refine take_at (i := 5) (.pointer (some ⟨l, 3, none⟩)) (some 55) (by decide) (by rfl) (by kernel_rfl) (by kernel_rfl) (by kernel_rfl) (fun _ _ _ h => h) (by rfl) (fun X hX => by have hX1 := hX; go_simp) (by assumption) ?_
    simp only [Act.put, List.setIfInBounds_toArray, List.set_cons_zero, List.set_cons_succ]
    refine wpAnyH_ready (rs := [6]) (by kernel_rfl) (by simp) ?_
    refine AllReadyH.cons rfl (fun K' hK' => ?_) AllReadyH.nil
    go_simp
    obtain ⟨W9, hW9⟩ : ∃ x, W8.setCell ⟨l, 3, none⟩ (.slice A8 (lastP rest).length c8') = x := ⟨_, rfl⟩
    rw [hW9]
    have hz8 := HB8.out.size
    have ho9 : ∀ q : Nat, q ≠ l → W9.heap[q]? = W8.heap[q]? := fun q hq => by rw [← hW9]; exact heap_setCell_other _ _ _ _ hq
    have hl9 : W9.heap[l]? = some (.cells #[.pointer (some ⟨g, 0, none⟩), .string ⟨n.toArray⟩, .int .i64 ((s.length : Int) + b.length), .slice A8 (lastP rest).length c8'] 95) := by rw [← hW9]; exact four_three HL8.out
    have HA9 := Lib.hid (show Apart (fun k => k = l) W8 W9 from by rw [← hW9]; exact apart_set _ _ _ _)
    have hx9 : W9.cell? ⟨w.heap.size, 0, none⟩ = some (.pointer (some ⟨l, 0, none⟩)) := (HA9.out.cell (p := ⟨w.heap.size, 0, none⟩) (by show w.heap.size < W8.heap.size; have := HZB.out; omega) (by show ¬ w.heap.size = l; omega)).trans hH8
    have HL9 := Lib.hid hl9
    have hza := HZA.out
    have hzb := HZB.out
    have hba : ∀ q : Nat, q < W.heap.size → q ≠ l → W9.heap[q]? = W.heap[q]? := fun q hq hne => (ho9 q hne).trans ((HB8.out.block q (by omega)).trans ((HAB.out.block q (by omega)).trans (HAA.out.block q hq hne)))
    have r9 : BoxAt W9 (w.heap.size + 1) (.int .i64 0) 26 := A4.out.on (hba _ (by omega) (by omega))
    have d9 : W9.heap[W3.heap.size]? = some (.deferred (some [])) := (hba _ (by omega) (by omega)).trans HK3.out
    have hz9 : W8.heap.size ≤ W9.heap.size := HA9.out.size
    have x1 := r9.cell
    have y1 := r9.frozen
    have R9 := Lib.hid r9
    have D9 := Lib.hid d9
    refine hK'.out _ _ hx9 (fun _ => ?_)
    clear hK' K' r9 d9 hl9 ho9 hba hW9 c8 f8 hH8 e0
    refine ⟨by kernel_rfl, NoPanic.normal ?_⟩
    gi_wp2_with fail
    obtain ⟨W10, hW10⟩ : ∃ x, W9.setCell ⟨w.heap.size + 1, 0, none⟩ (.int .i64 0) = x := ⟨_, rfl⟩
    rw [hW10]
    have ho10 : ∀ q : Nat, q ≠ w.heap.size + 1 → W10.heap[q]? = W9.heap[q]? := fun q hq => by rw [← hW10]; exact heap_setCell_other _ _ _ _ hq
    have r10 : BoxAt W10 (w.heap.size + 1) (.int .i64 0) 26 := by rw [← hW10]; exact R9.out.set _
    have d10 : W10.heap[W3.heap.size]? = some (.deferred (some [])) := (ho10 _ (by omega)).trans D9.out
    have HA10 := Lib.hid (show Apart (fun k => k = w.heap.size + 1) W9 W10 from by rw [← hW10]; exact apart_set _ _ _ _)
    refine ⟨by simp, .inl ⟨W3.heap.size, _, (by rw [hsz3]), run_takeDeferred d10, ⟨_, ret_cell9 rfl _ _ (r := w.heap.size + 1) (by rfl) (r10.on (World.putObj_heap_other (by omega))).cell, ?_⟩⟩⟩
    obtain ⟨W11, hW11⟩ : ∃ x, W10.putObj W3.heap.size (.deferred none) = x := ⟨_, rfl⟩
    rw [hW11]
    have HA11 : Apart (fun k => k = W3.heap.size) W10 W11 := by rw [← hW11]; exact ⟨rfl, rfl, rfl, by simp, fun q _ hq => World.putObj_heap_other hq⟩
    have hz10 := HA10.out.size
    have hz11 := HA11.size
    have ho11 : ∀ q : Nat, q < W.heap.size → q ≠ l → q ≠ w.heap.size + 1 → q ≠ W3.heap.size → W11.heap[q]? = W.heap[q]? := fun q hq h1 h2 h3 =>
      (HA11.block q (by omega) h3).trans ((HA10.out.block q (by omega) h2).trans ((HA9.out.block q (by omega) h1).trans ((HB8.out.block q (by omega)).trans ((HAB.out.block q (by omega)).trans (HAA.out.block q hq h1)))))
    have hX : Apart (fun k => k = l ∨ k = w.heap.size + 1 ∨ k = W3.heap.size) W W11 :=
      ⟨HA11.os.trans (HA10.out.os.trans (HA9.out.os.trans (HB8.out.os.trans (HAB.out.os.trans HAA.out.os)))), HA11.tape.trans (HA10.out.tape.trans (HA9.out.tape.trans (HB8.out.tape.trans (HAB.out.tape.trans HAA.out.tape)))),
        HA11.output.trans (HA10.out.output.trans (HA9.out.output.trans (HB8.out.output.trans (HAB.out.output.trans HAA.out.output)))), by omega, fun q hq hn => ho11 q hq (fun e => hn (.inl e)) (fun e => hn (.inr (.inl e))) (fun e => hn (.inr (.inr e)))⟩
    have hTn : ∀ k, T k → ¬ (k = l ∨ k = w.heap.size + 1 ∨ k = W3.heap.size) := fun k hk e => by
      rcases e with e | e | e
      · exact D2.out.1 (by rw [← e]; exact hk)
      · exact (D5.out (w.heap.size + 1) (by rw [hK7]; simp)).1 (by rw [← e]; exact hk)
      · exact (D5.out W3.heap.size (by rw [hK7]; simp)).1 (by rw [← e]; exact hk)
    have hl11 : W11.heap[l]? = some (.cells #[.pointer (some ⟨g, 0, none⟩), .string ⟨n.toArray⟩, .int .i64 ((s.length : Int) + b.length), .slice A8 (lastP rest).length c8'] 95) :=
      (HA11.block l (by omega) (by omega)).trans ((HA10.out.block l (by omega) (by omega)).trans HL9.out)
    have hY : Apart (fun k => T k ∨ k = l ∨ k = w.heap.size + 1 ∨ k = W3.heap.size) W8 W11 :=
      ⟨HA11.os.trans (HA10.out.os.trans HA9.out.os), HA11.tape.trans (HA10.out.tape.trans HA9.out.tape), HA11.output.trans (HA10.out.output.trans HA9.out.output), by omega, fun q hq hn =>
        (HA11.block q (by omega) (fun e => hn (.inr (.inr (.inr e))))).trans ((HA10.out.block q (by omega) (fun e => hn (.inr (.inr (.inl e))))).trans (HA9.out.block q hq (fun e => hn (.inr (.inl e)))))⟩
    have hF8 : Far W8 (fun k => T k ∨ k = l ∨ k = w.heap.size + 1 ∨ k = W3.heap.size) (.slice A8 (lastP rest).length c8') (lastP rest) := by
      refine ⟨HO8.out.sl, fun h0 A m cx e hk => ?_⟩
      have h1 := (HO8.out.lt A.block (by rw [e]; rfl)).1
      rcases hk with hk | hk | hk | hk
      · have := D1.out.lt _ hk; omega
      · omega
      · omega
      · omega
    have hF11 := hF8.apart hY
    rw [HS3.out]
    refine ⟨rfl, T, (D1.out.mono (by omega) hM).apart hX hTn, ⟨D2.out.1, .slice A8 (lastP rest).length c8', ?_, ?_, ?_⟩, fun k hk => ?_, ?_⟩
    · rw [hl11, List.length_append]
      simp
    · rw [← HLAST.out]
      refine hF11.less fun k _ hk => ?_
      rcases hk with hk | hk
      · exact .inl (.inl hk)
      · exact .inl (.inr (.inl hk))
    · rw [← HLAST.out]
      intro h0 A m cx e
      obtain ⟨cs, fr, hc⟩ := u8_own HO8.out h0 A m cx e
      refine ⟨cs, fr, ?_⟩
      have h1 := far_lt hF8 h0 e
      rw [hY.block _ h1 (hF8.2 h0 A m cx e)]
      exact hc
    · rcases D3.out k hk with h1 | h1
      · exact .inl h1
      · exact .inr ⟨h1.1, by omega⟩
    · refine (D4.out.mono fun _ => .inl).trans (hX.mono fun k hk => ?_)
      rcases hk with hk | hk | hk
      · exact .inl (.inr hk)
      · exact .inr ⟨by omega, by omega⟩
      · exact .inr ⟨by omega, by omega⟩
  case stop =>
    intro c' k W hk hx hK
    obtain ⟨rfl, a2, a3, a4⟩ := (HIX.out _ _ _).1 hx
    have hs2 : s2 = s := by have := HS2.out; rw [if_neg a2] at this; exact this.symm
    gi_wp2
    refine ⟨by simp, .inl ⟨W3.heap.size, _, (by rw [hsz3]), run_takeDeferred hK, ⟨_, ret_cell9 rfl _ _ (r := w.heap.size + 1) (by rfl) (a4.on (World.putObj_heap_other (by omega))).cell, ?_⟩⟩⟩
    obtain ⟨T, d1, d2, d3, d4, _⟩ := (a3.put (r := W3.heap.size) (by rw [hK7]; simp) (by omega) _).log HL.out hSlt.out
    rw [hs2]
    exact ⟨rfl, T, d1, d2, d3, d4.mono fun _ => .inl⟩

end Go.Proofs.YtlchmkpnehbnlaaGreatDoor.Cd

/-
  A log's Append. Conditions: names that can be; bytes that fit.
-/
namespace Go.Proofs.YtlchmkpnehbnlaaGreatDoor.Cd
open Go.RowKit
set_option linter.unusedVariables false

def appendA (D : Dsk) (n s b : List UInt8) : Dsk × Nat := if D.off = true then (D, 8) else appendD D n s b

theorem MakesL.over {w w1 w2 : World} {g N l : Nat} {S : Nat → Prop} {D : Dsk} {v : Value} {n s : List UInt8} {e : Ending} (hb : Below w.heap.size w w1) (h : MakesL g N S D v l n s w1 e w2) : MakesL g N S D v l n s w e w2 := by
  obtain ⟨h1, T, h2, h3, h4, h5⟩ := h
  refine ⟨h1, T, h2, h3, fun k hk => ?_, ⟨h5.os.trans hb.os, h5.tape.trans hb.tape, h5.output.trans hb.output, Nat.le_trans hb.size h5.size, fun k hk hn => (h5.block k (Nat.lt_of_lt_of_le hk hb.size) hn).trans (hb.block k hk)⟩⟩
  rcases h4 k hk with h6 | h6
  · exact .inl h6
  · exact .inr ⟨Nat.le_trans hb.size h6.1, h6.2⟩
theorem MakesL.same {w w' : World} {g N M l : Nat} {S : Nat → Prop} {D : Dsk} {v : Value} {n s : List UInt8} (h : LogAt w S l g n s) (hd : DkS w g N S D) (hb : Below w.heap.size w w') (hN : N ≤ M) (hM : M ≤ 137438953472) : MakesL g M S D v l n s w (.returned v) w' :=
  ⟨rfl, S, (hd.mono hN hM).below hb, h.below hb, fun _ => .inl, Apart.below hb⟩

set_option maxRecDepth 100000 in
set_option maxHeartbeats 3200000 in
theorem append_l (l g N M : Nat) (n s : List UInt8) (v : Value) (list : List (List UInt8)) (S : Nat → Prop) (D : Dsk) (w : World) (h : LogAt w S l g n s) (hd : DkS w g N S D) (hn : n.length ≤ 140737488355000) (hv : Strs w w.heap.size v list)
    (hsl : s.length + (flat list).length ≤ 1000000000) (hpc : (pagesF D.now n).length ≤ 1000000000) (hfr : -1000000000 ≤ freeD D ∧ freeD D ≤ 1000000000) (hN : N + 4 * (needP (s.length + (flat list).length) + 2) ≤ M) (hM : M ≤ 137438953472) :
    Calls Tryz.prog 63 #[.pointer (some ⟨l, 0, none⟩), v] w (MakesL g M S (appendA D n s (flat list)).1 (.int .i64 ((appendA D n s (flat list)).2 : Nat)) l n (if (appendA D n s (flat list)).2 = 0 then s ++ flat list else s) w) := by
  have HR := Lib.hid (ready_l l g N n s S D w h hd)
  have HL := Lib.hid h
  have HD := Lib.hid hd
  have HV := Lib.hid hv
  obtain ⟨A, c, rfl, hv2, hv3⟩ := hv.len
  have hv3 : c ≤ 9223372036854775807 := hv3
  clear hv
  by_cases ho : D.off = true
  · have he : appendA D n s (flat list) = (D, 8) := if_pos ho
    have hr : errL D = 8 := if_pos ho
    rw [hr] at HR
    rw [he]
    clear he hr h hd
    go_enter Tryz.func63, Tryz.ntmps63
    go_wp2_with (go_at_call 71; refine HR.out.mono ?_; rintro e w' ⟨rfl, rfl⟩)
    go_ret
    exact MakesL.same HL.out HD.out (Below.refl _ _) (by omega) hM
  · have ho2 : D.off = false := by simpa using ho
    have hr : errL D = 0 := if_neg ho
    rw [hr] at HR
    obtain ⟨b, hb⟩ : ∃ x, flat list = x := ⟨_, rfl⟩
    rw [hb] at hsl hN ⊢
    have he : appendA D n s b = appendD D n s b := if_neg ho
    rw [he]
    have HB := Lib.hid hb
    obtain ⟨fr, hfr2⟩ : ∃ x, freeD D = x := ⟨_, rfl⟩
    obtain ⟨pc, hpc2⟩ : ∃ x, (pagesF D.now n).length = x := ⟨_, rfl⟩
    rw [hfr2] at hfr
    rw [hpc2] at hpc
    have HFR := Lib.hid hfr2
    have HPC := Lib.hid hpc2
    obtain ⟨RA, hRA⟩ : ∃ R, appendD D n s b = R := ⟨_, rfl⟩
    obtain ⟨DA, ea⟩ := RA
    rw [hRA]
    obtain ⟨s2, hs2⟩ : ∃ x, (if (DA, ea).2 = 0 then s ++ b else s) = x := ⟨_, rfl⟩
    rw [hs2]
    have HRA := Lib.hid hRA
    have HS2 := Lib.hid hs2
    have hsm : ∀ x ∈ list, x.length ≤ 1000000000 := fun x hx => by
      obtain ⟨k, hk, rfl⟩ := List.getElem_of_mem hx
      have h1 := flat_mono list (k + 1) list.length (by omega)
      rw [List.take_length, hb, flat_take list k hk, List.length_append] at h1
      have := frm_ge list[k]
      omega
    have HSM := Lib.hid hsm
    have hll : list.length ≤ 1000000000 := by have := flat_ge list; rw [hb] at this; omega
    clear he hr h hd ho hb hfr2 hpc2 hRA hs2 hsm
    go_enter Tryz.func63, Tryz.ntmps63
    go_wp2_with (go_at_call 71; refine HR.out.mono ?_; rintro e w1 ⟨rfl, rfl⟩)
    go_loopw [6, 16] (fun x i wr => ∃ k : Nat, i = .int .i64 k ∧ k ≤ list.length ∧ Hid (Own wr w1.heap.size x (flat (list.take k))) ∧ Hid (Below w1.heap.size w1 wr)) (fun _ i _ => list.length - (intOf i).toNat)
    case atStart => exact ⟨0, rfl, by omega, nil_append_own _ _, Below.refl _ _⟩
    case round =>
      obtain ⟨k, rfl, hk, hown, hbl⟩ := hrel
      by_cases hlt : k < list.length
      · obtain ⟨b2, off2, c2', e2, _, _, hB2, hat⟩ := (HV.out.below hbl.out).at (by omega)
        injection e2 with e2 _ e3
        subst e2 e3
        have d0 := hat k hlt
        have hft := flat_take list k hlt
        have hfm := flat_mono list (k + 1) list.length (by omega)
        rw [List.take_length, HB.out, hft, List.length_append] at hfm
        obtain ⟨x, hx⟩ : ∃ x, list[k] = x := ⟨_, rfl⟩
        have hxl : x.length ≤ 1000000000 := HSM.out x (by rw [← hx]; exact List.getElem_mem hlt)
        rw [hx] at d0 hft hfm
        obtain ⟨F, hF⟩ : ∃ x, flat (list.take k) = x := ⟨_, rfl⟩
        rw [hF] at hown hft hfm
        have HFT := Lib.hid hft
        have HP := Lib.hid (put_any (.slice none 0 0) [] x wr (Sl.nil _ _) (by simp; omega))
        have hbz := hbl.out.size
        clear hat hx hft hF
        go_wp2_with (first
          | (go_at_call 108; refine HP.out.mono ?_; rintro e w2 ⟨v2, rfl, ho2', hb2'⟩; rw [List.nil_append] at ho2'; obtain ⟨A2, c2, rfl, _, _⟩ := ho2'.sl.len; have HO2 := Lib.hid ho2'; have HB2 := Lib.hid hb2'; clear ho2' hb2')
          | (at_builtin; refine wp_append_sl rfl _ _ rfl w1.heap.size _ F rfl ?ho ?hB _ w2.heap.size (frm x) rfl ?hn ?hm ?hK))
        case ho => exact hown.out.keep HB2.out
        case hB => have := HB2.out.size; omega
        case hn => exact HO2.out.sl
        case hm => omega
        case hK =>
          intro v3 w3 ho3 hb3
          have HO3 := Lib.hid ho3
          have HB3 := Lib.hid (hbl.out.trans ((HB2.out.mono hbz).trans hb3))
          clear ho3 hb3
          go_wp2
          go_roundw
          case rel => exact ⟨k + 1, by go_num, by omega, by unfold Hid; rw [HFT.out]; exact HO3.out, HB3.out⟩
          case measure => simp [intOf]; omega
      · have hkl : k = list.length := by omega
        have htk : flat (list.take k) = b := by rw [hkl, List.take_length, HB.out]
        rw [htk] at hown
        clear hkl htk
        obtain ⟨A8, c8, rfl, h81, h82⟩ := hown.out.sl.len
        have h82 : c8 ≤ 9223372036854775807 := h82
        by_cases hb0 : b.length = 0
        · have hbn : b = [] := List.length_eq_zero_iff.1 hb0
          have hRA := HRA.out
          have hq : DA = D ∧ ea = 0 ∧ s2 = s := by
            unfold appendD at hRA
            rw [if_pos hbn] at hRA
            injection hRA with h1 h2
            have := HS2.out
            rw [← h2, hbn, List.append_nil] at this
            refine ⟨h1.symm, h2.symm, ?_⟩
            rw [← this]
            split <;> rfl
          obtain ⟨rfl, rfl, rfl⟩ := hq
          clear hRA hbn
          rw [hb0]
          clear hb0
          go_wp2_with fail
          go_ret
          exact MakesL.same HL.out HD.out hbl.out (by omega) hM
        · have hbp : (b.length : Int) ≠ 0 := by omega
          have hbne : ((b.length : Int) == 0) = false := by rw [beq_eq_false_iff_ne]; omega
          have hRA := HRA.out
          unfold appendD at hRA
          rw [if_neg (fun e => hb0 (by rw [e]; rfl)), HFR.out, HPC.out] at hRA
          obtain ⟨nd, hnd⟩ : ∃ x, needP (s.length + b.length) = x := ⟨_, rfl⟩
          rw [hnd] at hRA hN
          have hndl : nd ≤ 1000000000 := by rw [← hnd]; unfold needP; omega
          have HND := Lib.hid hnd
          obtain ⟨tl, htl⟩ : ∃ x : Nat, s.length + b.length = x := ⟨_, rfl⟩
          have hwt : IntKind.i64.wrap ((s.length : Int) + (b.length : Int)) = (tl : Int) := by rw [IntWalk.i64_in _ (by omega)]; omega
          have hwd : IntKind.i64.wrap ((nd : Int) - (pc : Int)) = (nd : Int) - (pc : Int) := IntWalk.i64_in _ (by omega)
          have hG := Lib.hid (fun W => pagesOf_any tl W (by omega))
          have hnd2 : needP tl = nd := by rw [← htl, hnd]
          rw [hnd2] at hG
          have hD5 := HD.out.below (hbl.out.trans ((Below.refl _ _).drew))
          have HC := Lib.hid (count_dks g N S D n wr.drew hD5 ho2 (by omega))
          rw [HPC.out] at HC
          have HF := Lib.hid (free_dks g N S D wr.drew hD5)
          rw [HFR.out] at HF
          obtain ⟨x0, x1, x2, _⟩ := (HL.out.below hbl.out).cells
          have HL5 := Lib.hid (HL.out.below hbl.out)
          have HRA2 := Lib.hid hRA
          clear hRA hnd htl hnd2 hD5 HRA
          go_wp2_with fail
          go_region_held3 (fun W => W.cell? ⟨l, 0, none⟩ = some (.pointer (some ⟨g, 0, none⟩)) ∧ W.cell? ⟨l, 1, none⟩ = some (.string ⟨n.toArray⟩) ∧ W.cell? ⟨l, 2, none⟩ = some (.int .i64 s.length)) (first | exact ⟨x0, x1, x2⟩ | assumption) (first
            | (go_at_call 86; refine (hG.out _).mono ?_; rintro e w' ⟨rfl, rfl⟩)
            | (go_at_call 81; refine HC.out.mono ?_; rintro e w' ⟨rfl, rfl⟩)
            | (go_at_call 62; refine HF.out.mono ?_; rintro e W9 ⟨rfl, hb9⟩; have hS9 : W9.cell? ⟨l, 0, none⟩ = some (.pointer (some ⟨g, 0, none⟩)) ∧ W9.cell? ⟨l, 1, none⟩ = some (.string ⟨n.toArray⟩) ∧ W9.cell? ⟨l, 2, none⟩ = some (.int .i64 s.length) := ⟨(hb9.cell (p := ⟨l, 0, none⟩) HL5.out.lt).trans x0, (hb9.cell (p := ⟨l, 1, none⟩) HL5.out.lt).trans x1, (hb9.cell (p := ⟨l, 2, none⟩) HL5.out.lt).trans x2⟩; have HB9 := Lib.hid ((Below.refl wr.heap.size wr).drew.trans hb9); clear hb9))
          all_goals
            by_cases hful : fr < (nd : Int) - (pc : Int)
            · have hRA := HRA2.out
              rw [if_pos hful] at hRA
              have hq : DA = D ∧ ea = 7 ∧ s2 = s := by
                injection hRA with h1 h2
                have := HS2.out
                rw [← h2, if_neg (by decide)] at this
                exact ⟨h1.symm, h2.symm, this.symm⟩
              obtain ⟨rfl, rfl, rfl⟩ := hq
              clear hRA
              go_wp2_with fail
              go_ret
              exact MakesL.same HL.out HD.out (hbl.out.trans (HB9.out.mono hbl.out.size)) (by omega) hM
            · have hRA := HRA2.out
              rw [if_neg hful] at hRA
              have hbw := hbl.out.trans (HB9.out.mono hbl.out.size)
              have hle : (lastP s ++ b).length ≤ s.length + b.length := by rw [List.length_append, lastP_len]; omega
              have hnp := needP_mono hle
              rw [HND.out] at hnp
              have CP := put_l l g N M n s b A8 c8 S D W9 (HL.out.below hbw) (HD.out.below hbw) ho2 hn ((hown.out.sl.below HB9.out).more HB9.out.size) (by omega) hsl (by omega) hM
              rw [hRA, HS2.out] at CP
              have CP := Lib.hid CP
              have HBW := Lib.hid hbw
              have hful2 : (nd : Int) - (pc : Int) ≤ fr := by omega
              clear hRA hbw hful
              go_wp2_with (go_at_call 109; refine CP.out.mono ?_; intro e W10 hm; obtain rfl := hm.1; have HM := Lib.hid hm; clear hm)
              go_ret
              exact MakesL.over HBW.out HM.out

end Go.Proofs.YtlchmkpnehbnlaaGreatDoor.Cd

/-
  log.Open. Conditions: names that can be; files that are small enough.
-/
namespace Go.Proofs.YtlchmkpnehbnlaaGreatDoor.Cd
open Go.RowKit

theorem OwnS.aside {T : Nat → Prop} {w w' : World} {B : Nat} {v : Value} {l : List (List UInt8)} (h : OwnS w B v l) (ha : Apart T w w') (hT : ∀ b, v.ownBlock = some b → ¬ T b) : OwnS w' B v l := by
  have hlt := h.lt
  refine ⟨h.1, ?_⟩
  rcases h.2 with h2 | ⟨g, cap, cur, rfl, hg, hh, r⟩
  · exact .inl h2
  · exact .inr ⟨g, cap, cur, rfl, hg, (ha.block g (hlt g rfl).2 (hT g rfl)).trans hh, r⟩

def OpensL (g N : Nat) (S : Nat → Prop) (D : Dsk) (n : List UInt8) (w : World) (e : Ending) (w' : World) : Prop :=
  ∃ ds cur, Splits (logB (pagesF D.now n)) ds cur ∧
    (((trimD D n (flat ds) (logB (pagesF D.now n)).length).2 = 0 ∧ ∃ l v T, e = .returned (.tuple #[.pointer (some ⟨l, 0, none⟩), v, .int .i64 0]) ∧ OwnS w' w.heap.size v ds ∧ LogAt w' T l g n (flat ds) ∧
        DkS w' g N T (trimD D n (flat ds) (logB (pagesF D.now n)).length).1 ∧ (∀ k, T k → since S w w' k) ∧ Apart S w w' ∧ w.heap.size ≤ l ∧ (∀ b, v.ownBlock = some b → ¬ T b ∧ b ≠ l)) ∨
      ((trimD D n (flat ds) (logB (pagesF D.now n)).length).2 ≠ 0 ∧ e = .returned (.tuple #[.pointer none, .slice none 0 0, .int .i64 ((trimD D n (flat ds) (logB (pagesF D.now n)).length).2 : Nat)]) ∧
        DkS w' g N (since S w w') (trimD D n (flat ds) (logB (pagesF D.now n)).length).1 ∧ Apart S w w'))

set_option maxRecDepth 100000 in
set_option maxHeartbeats 3200000 in
theorem open_l (g N : Nat) (n : List UInt8) (S : Nat → Prop) (D : Dsk) (w : World) (hd : DkS w g N S D) (ho : D.off = false) (hn : n.length ≤ 140737488355000) (hpc : (pagesF D.now n).length ≤ 2000) (hN : N + 12 ≤ 137438953472) :
    Calls Tryz.prog 24 #[.pointer (some ⟨g, 0, none⟩), .string ⟨n.toArray⟩] w (OpensL g (N + 12) S D n w) := by
  have HD := Lib.hid hd
  have HW := Lib.hid (down_dks g N S D w hd)
  rw [ho] at HW
  have HR := Lib.hid (read_l g N n S D w hd ho hn (by omega))
  have hSlt := Lib.hid hd.lt
  have hbl := logB_le (pagesF D.now n)
  obtain ⟨bs, hbs⟩ : ∃ x, logB (pagesF D.now n) = x := ⟨_, rfl⟩
  rw [hbs] at HR hbl
  have HBS := Lib.hid hbs
  have hbl : bs.length ≤ 1020000 := by omega
  have hbi : (bs.length : Int) ≤ 1020000 := by omega
  clear hd hbs
  go_enter Tryz.func24, Tryz.ntmps24
  go_wp2_with (first
    | (go_at_call 45; refine HW.out.mono ?_; rintro e w0 ⟨rfl, rfl⟩)
    | (go_at_call 46; refine HR.out.mono ?_; rintro e w1 ⟨v, rfl, ho1, hb1⟩; obtain ⟨A, c, rfl, hc1, hc2⟩ := ho1.sl.len; have HO1 := Lib.hid ho1; have HB1 := Lib.hid hb1; have HSP := Lib.hid (split_any _ bs w1 ho1.sl (by omega)); clear ho1 hb1))
  refine HSP.out.mono ?_
  rintro e w2 ⟨u, ds, cur, hsp, rfl, ho2, hb2⟩
  have hlen := congrArg List.length hsp.1
  rw [List.length_append] at hlen
  obtain ⟨s, hs⟩ : ∃ x, flat ds = x := ⟨_, rfl⟩
  rw [hs]
  rw [hs] at hlen
  have hsb : s.length ≤ bs.length := by omega
  have hsc : (s.length : Int) ≤ c := by omega
  have hsi : (s.length : Int) ≤ 1020000 := by omega
  have hc3 : c ≤ 9223372036854775807 := hc2
  have hz1 := HB1.out.size
  have hz2 := hb2.size
  have hst := sl_take ((HO1.out.sl.below hb2).more hz2) s.length hsb
  have hts : bs.take s.length = s := by rw [hsp.1, hs, List.take_left]
  rw [hts] at hst
  have HS2 := Lib.hid hs
  have HSP2 := Lib.hid hsp
  obtain ⟨Au, cu, rfl, hcu1, hcu2⟩ := ho2.strs.len
  have hcu3 : cu ≤ 9223372036854775807 := hcu2
  have HO2 := Lib.hid ho2
  have HB2 := Lib.hid (HB1.out.trans (hb2.mono hz1))
  have HEN := Lib.hid (ending_any A c s w2 hst (by omega))
  clear hs hsp ho2 hb2 hst hts hlen HSP HR
  go_wp2_with fail
  refine HEN.out.mono ?_
  rintro e w2' ⟨rfl, C, cc, rfl, hsl⟩
  have HCL := Lib.hid (clone_any _ (lastP s) w2 hsl (by rw [lastP_len]; omega))
  clear hsl
  go_wp2_with fail
  refine HCL.out.mono ?_
  rintro e w3 ⟨v3, rfl, ho3, hb3⟩
  obtain ⟨A3, c3, rfl, _, _⟩ := ho3.sl.len
  have hz3 := hb3.size
  have HB3 := Lib.hid (HB2.out.trans (hb3.mono (Nat.le_trans hz1 hz2)))
  obtain ⟨w4, hw4⟩ : ∃ x, w3.alloc (.cells #[.pointer (some ⟨g, 0, none⟩), .string ⟨n.toArray⟩, .int .i64 s.length, .slice A3 (lastP s).length c3] 95) = x := ⟨_, rfl⟩
  have hl4 : LogAt w4 S w3.heap.size g n s := by
    rw [← hw4]
    refine log_new g n s _ (fun k hk => by have := hSlt.out k hk; omega) ⟨ho3.sl, fun h0 A m cx e hk => ?_⟩ (u8_own ho3)
    have h1 := (ho3.lt A.block (by rw [e]; rfl)).1
    have := hSlt.out _ hk
    omega
  have hb4 : Below w3.heap.size w3 w4 := by rw [← hw4]; exact (Below.refl _ _).alloc (Nat.le_refl _) _
  have hz4 : w4.heap.size = w3.heap.size + 1 := by rw [← hw4]; simp
  have HB4 := Lib.hid (HB3.out.trans (hb4.mono (by omega)))
  have CT := Lib.hid (trim_l w3.heap.size g N n s S D w4 bs.length hl4 (HD.out.below HB4.out) ho hn hN (by omega) (by omega) (by omega))
  have HL4 := Lib.hid hl4
  have HO4 := Lib.hid (HO2.out.keep (hb3.trans (hb4.mono hz3)))
  obtain ⟨l, hl⟩ : ∃ x, w3.heap.size = x := ⟨_, rfl⟩
  rw [hl] at CT HL4
  obtain ⟨R, hR⟩ : ∃ R, trimD D n s bs.length = R := ⟨_, rfl⟩
  obtain ⟨D5, e5⟩ := R
  rw [hR] at CT
  have HRT := Lib.hid hR
  have hlw : w0.heap.size ≤ l := by omega
  have HZ4 := Lib.hid (show w4.heap.size = l + 1 by omega)
  clear ho3 hb3 hl4 hb4 HO1 hR hz4
  go_wp2_with fail
  refine CT.out.mono ?_
  rintro e w5 hm
  obtain rfl := hm.1
  have HM := Lib.hid hm
  clear hm
  have hz0 := HB1.out.size
  have hbig : ∀ k, since S w4 w5 k → since S w0 w5 k := fun k hk => by
    rcases hk with hk | hk
    · exact .inl hk
    · exact .inr ⟨by have := HZ4.out; omega, hk.2⟩
  have hap : Apart S w0 w5 := ⟨HM.out.2.2.os.trans HB4.out.os, HM.out.2.2.tape.trans HB4.out.tape, HM.out.2.2.output.trans HB4.out.output, Nat.le_trans HB4.out.size HM.out.2.2.size, fun k hk hn => (HM.out.2.2.block k (Nat.lt_of_lt_of_le hk HB4.out.size) hn).trans (HB4.out.block k hk)⟩
  have HBIG := Lib.hid hbig
  have HAP := Lib.hid hap
  clear hbig hap
  by_cases hz : e5 = 0
  · subst hz
    go_wp2_with fail
    go_ret3
    refine ⟨ds, cur, by rw [HBS.out]; exact HSP2.out, .inl ?_⟩
    rw [HBS.out, HS2.out, HRT.out]
    have hot : ∀ b, (Value.slice Au ds.length cu).ownBlock = some b → ¬ S b ∧ b < l := fun b hb => by
      have h1 := (HO2.out.lt b hb)
      exact ⟨fun h2 => by have := hSlt.out b h2; omega, by omega⟩
    refine ⟨rfl, l, _, since S w4 w5, rfl, (HO4.out.aside HM.out.2.2 (fun b hb => (hot b hb).1)).lower (by omega), HL4.out.apart HM.out.2.2, HM.out.2.1, HBIG.out, HAP.out, hlw, fun b hb => ⟨fun h2 => ?_, by have := (hot b hb).2; omega⟩⟩
    rcases h2 with h2 | h2
    · exact (hot b hb).1 h2
    · have := (hot b hb).2; have := HZ4.out; omega
  · have hzi : (e5 : Int) ≠ 0 := by omega
    go_wp2_with fail
    go_ret3
    refine ⟨ds, cur, by rw [HBS.out]; exact HSP2.out, .inr ?_⟩
    rw [HBS.out, HS2.out, HRT.out]
    refine ⟨hz, rfl, HM.out.2.1.more HBIG.out (fun k hk => ?_), HAP.out⟩
    rcases hk with hk | hk
    · exact HM.out.2.1.lt k (.inl hk)
    · exact hk.2

end Go.Proofs.YtlchmkpnehbnlaaGreatDoor.Cd

/-
  A log and its disk between two calls, with the power on and no end of it in sight. Conditions: none.
-/
namespace Go.Proofs.YtlchmkpnehbnlaaGreatDoor.Cd
open Go.RowKit

section
variable {w W W' : World} {l g N M room k : Nat} {n s b : List UInt8} {D : Dsk} {T : Nat → Prop} {v : Value} {e : Ending}
theorem appendA_on (h : D.off = false) (n s b : List UInt8) : appendA D n s b = appendD D n s b := by unfold appendA; rw [if_neg (by rw [h]; simp)]

end

def OpensLay (g N : Nat) (S : Nat → Prop) (D : Dsk) (n : List UInt8) (list : List (List UInt8)) (w : World) (e : Ending) (w' : World) : Prop :=
  ∃ l v T, e = .returned (.tuple #[.pointer (some ⟨l, 0, none⟩), v, .int .i64 0]) ∧ OwnS w' w.heap.size v list ∧ LogAt w' T l g n (flat list) ∧ DkS w' g N T D ∧ (∀ k, T k → since S w w' k) ∧ Apart S w w' ∧ w.heap.size ≤ l ∧ (∀ b, v.ownBlock = some b → ¬ T b ∧ b ≠ l)

theorem open_lay (g N : Nat) (n : List UInt8) (list : List (List UInt8)) (S : Nat → Prop) (D : Dsk) (w : World) (hd : DkS w g N S D) (ho : D.off = false) (hn : n.length ≤ 140737488355000) (hpc : (pagesF D.now n).length ≤ 2000) (hN : N + 12 ≤ 137438953472)
    (hl : Lay (pagesF D.now n) (flat list)) : Calls Tryz.prog 24 #[.pointer (some ⟨g, 0, none⟩), .string ⟨n.toArray⟩] w (OpensLay g (N + 12) S D n list w) := by
  refine (open_l g N n S D w hd ho hn hpc hN).mono ?_
  rintro e w' ⟨ds, cur, hs, h⟩
  have hle := logB_le (pagesF D.now n)
  have h1 : logB (pagesF D.now n) = flat list := hl.1
  rw [h1] at hs hle
  obtain ⟨rfl, rfl⟩ := splits_uniq (by omega) hs (splits_all list)
  have ht := trim_lay hl
  rw [h1, ht] at h
  rcases h with ⟨_, l, v, T, h⟩ | ⟨h, _⟩
  · exact ⟨l, v, T, h⟩
  · exact absurd rfl h

section
variable {w W : World} {l g N room k : Nat} {n s : List UInt8} {D : Dsk} {T : Nat → Prop}
end

theorem one_strs (W : World) (a : List UInt8) (T : TypeId) : Strs (W.alloc (.cells #[.string ⟨a.toArray⟩] T)) (W.heap.size + 1) (.slice (some ⟨W.heap.size, 0, none⟩) 1 1) [a] := strs_one W a T
end Go.Proofs.YtlchmkpnehbnlaaGreatDoor.Cd

/-
  What the document tells of a log. Conditions: none.
-/
namespace Go.Proofs.YtlchmkpnehbnlaaGreatDoor.Cd
open Go.RowKit

end Go.Proofs.YtlchmkpnehbnlaaGreatDoor.Cd

/-
  A log beside a row of texts that grows; what a law hands to great. Conditions: none.
-/
namespace Go.Proofs.YtlchmkpnehbnlaaGreatDoor.Cd
open Go.RowKit

section
variable {w W W' : World} {l g N M room k B : Nat} {n s : List UInt8} {D : Dsk} {T T' : Nat → Prop} {v v' : Value} {list : List (List UInt8)} {t : List UInt8}
end

end Go.Proofs.YtlchmkpnehbnlaaGreatDoor.Cd

/-
  Two logs on one disk. Conditions: none.
-/
namespace Go.Proofs.YtlchmkpnehbnlaaGreatDoor.Cd
open Go.RowKit

section
variable {w W W' : World} {g N M room k k' l l2 : Nat} {n n2 s s2 s' : List UInt8} {D D' : Dsk} {T T' : Nat → Prop}
end

end Go.Proofs.YtlchmkpnehbnlaaGreatDoor.Cd
