/-
  Load: the table that lies in a file's pages. Conditions: no more than 2000 pages.
-/
import Derived.Test.YtlchmkpnehbnlaaGreatDoorG17
import Derived.Test.YtlchmkpnehbnlaaGreatDoorG22
import Derived.Test.YtlchmkpnehbnlaaGreatDoorG1
namespace Go.Proofs.YtlchmkpnehbnlaaGreatDoor.Cd
open Go.RowKit

theorem treads_in {D : Dsk} {n q : List UInt8} {k : Nat} {w w' : World} {e : Ending} (ho : D.off = false) (hk : (pagesF D.now n)[k]? = some q) (h : ReadsD D n (k : Int) w e w') :
    q.length = 512 ∧ e = .returned (.tuple #[.slice (some ⟨w.heap.size, 0, none⟩) 512 512, .int .i64 0]) ∧ w' = w.alloc (.cells (vb q).toArray 124) := by
  obtain ⟨hlt, hq⟩ := List.getElem?_eq_some_iff.1 hk
  have hr : readD D n (k : Int) = (q, 0) := by
    unfold readD
    rw [if_neg (by rw [ho]; simp), if_neg (by omega), Int.toNat_natCast, List.getD_eq_getElem?_getD, hk]
    rfl
  rcases h with ⟨p, h1, h2, h3, h4⟩ | ⟨m, h1, h2, _⟩
  · rw [hr] at h1
    injection h1 with h1
    subst h1
    exact ⟨h2, h3, h4⟩
  · rw [hr] at h2
    injection h2 with _ h2
    exact absurd h2.symm h1
theorem tsl_page {w : World} {g : Nat} {q : List UInt8} (hl : q.length = 512) (T : TypeId) (hg : w.heap[g]? = some (.cells (vb q).toArray T)) : Sl w w.heap.size (.slice (some ⟨g, 0, none⟩) 512 512) q := by
  refine ⟨_, 512, by rw [hl], by omega, by decide, (fun h => by cases h), fun ad e _ => ?_, fun ad e j u hu => ?_⟩
  · injection e with e
    subst e
    exact (Array.getElem?_eq_some_iff.1 hg).1
  · injection e with e
    subst e
    rw [Addr.add_lit, Nat.zero_add, cell_of_row _ _ _ _ _ _ hg, List.getElem?_toArray]
    exact hu

theorem wp_append_outs {w : World} {ops : Array Oper} {rest : List Oper} {o : Oper} {a : Act} {Q : Exit → Act → World → Prop} (hgd : o.guard = none) (s x : Operand)
    (hop : o.op = .call { callee := .builtin .append, args := #[s, x], argTypes := #[88, 88] })
    (B : Nat) (v : Value) (bs : List UInt8) (hs : a.eval s = v) (ho : Out w B v bs) (hB : B ≤ w.heap.size) (y : Value) (B' : Nat) (ns : List UInt8) (hx : a.eval x = y) (hy : Sl w B' y ns)
    (h1 : 1 ≤ ns.length) (hm : bs.length + ns.length ≤ 140737488355328)
    (hK : ∀ v' w', Own w' B v' (bs ++ ns) → Below B w w' → wpList Tryz.prog ops Q rest (a.put o.dst v') w') : wpList Tryz.prog ops Q (o :: rest) a w := by
  obtain ⟨A, c, rfl, e2, _, e4, _, e6⟩ := hy
  cases A with
  | none => have := e4 rfl; omega
  | some ad => exact wp_append_out hgd s x hop B v bs hs ho hB ad c ns hx h1 (e6 ad rfl) hm hK

theorem pages_flat_take {P : List (List UInt8)} {k : Nat} {q : List UInt8} (hq : P[k]? = some q) : (P.take (k + 1)).flatten = (P.take k).flatten ++ q := by
  obtain ⟨h1, h2⟩ := List.getElem?_eq_some_iff.1 hq
  rw [List.take_succ_eq_append_getElem h1, h2, List.flatten_append]
  simp

set_option maxRecDepth 100000 in
set_option maxHeartbeats 1600000 in
theorem tload_some (g N : Nat) (n : List UInt8) (S : Nat → Prop) (D : Dsk) (w : World) (hd : DkS w g N S D) (ho : D.off = false) (hn : n.length ≤ 140737488355000) (h0 : 0 < (pagesF D.now n).length) (hc : (pagesF D.now n).length ≤ 2000) :
    Calls Tryz.prog 95 #[.pointer (some ⟨g, 0, none⟩), .string ⟨n.toArray⟩] w (ReadsT w (pagesF D.now n).flatten) := by
  obtain ⟨P, hP⟩ : ∃ x, pagesF D.now n = x := ⟨_, rfl⟩
  have HC : ∀ W, DkS W g N S D → Calls Tryz.prog 81 #[.pointer (some ⟨g, 0, none⟩), .string ⟨n.toArray⟩] W (fun e w' => e = .returned (.int .i64 (P.length : Nat)) ∧ w' = W) := fun W hW => by
    have := count_dks g N S D n W hW ho (by omega)
    rwa [hP] at this
  have HC := Lib.hid HC
  rw [hP] at hc h0
  have HP := Lib.hid hP
  rw [hP]
  obtain ⟨q0, hq0⟩ : ∃ q, P[0]? = some q := ⟨P[0], List.getElem?_eq_getElem h0⟩
  have HQ0 : Hid ((pagesF D.now n)[0]? = some q0) := by unfold Hid; rw [hP]; exact hq0
  have HR0 := Lib.hid (read_dks g N S D n w ((0 : Nat) : Int) hd (by omega) (WalkArith.wf_i64 (by omega)))
  have HT1 := Lib.hid (pages_flat_take hq0)
  have HD := Lib.hid hd
  have hc' : (P.length : Int) ≤ 2000 := by omega
  clear hd hP hq0
  go_enter Tryz.func95, Tryz.ntmps95
  go_wp2_with fail
  refine HR0.out.mono ?_
  intro e w1 hr
  obtain ⟨hq, rfl, rfl⟩ := treads_in ho HQ0.out hr
  have hb1 : Below w.heap.size w (w.alloc (.cells (vb q0).toArray 124)) := (Below.refl _ _).alloc (Nat.le_refl _) _
  have hsl1 := tsl_page hq 124 (heap_alloc_new w (.cells (vb q0).toArray 124))
  have e1 : (P.take 1).flatten = q0 := by have := HT1.out; simpa using this
  have hout1 : Out (w.alloc (.cells (vb q0).toArray 124)) w.heap.size (.slice (some ⟨w.heap.size, 0, none⟩) 512 512) (P.take 1).flatten := by
    rw [e1]
    obtain ⟨A, c, e, _, _, _, _, e6⟩ := hsl1
    injection e with e _ _
    exact .inr ⟨_, by rw [hq], (fun h => by cases h), fun ad ha => e6 ad (e.symm.trans ha)⟩
  obtain ⟨w1, hw1⟩ : ∃ x, w.alloc (.cells (vb q0).toArray 124) = x := ⟨_, rfl⟩
  rw [hw1] at hb1 hsl1 hout1 ⊢
  rw [← e1] at hsl1 hq
  have HB1 := Lib.hid hb1
  have HS1 := Lib.hid hsl1
  have HO1 := Lib.hid hout1
  have HL1 := Lib.hid hq
  clear hr hb1 hsl1 hout1 hq hw1 HT1 HQ0 HR0 e1
  go_wp2_with fail
  go_loopw [6, 8] (fun b i wr => ∃ k : Nat, i = .int .i64 k ∧ k ≤ P.length ∧ 1 ≤ k ∧ Hid (Out wr w.heap.size b (P.take k).flatten) ∧ Hid (Sl wr wr.heap.size b (P.take k).flatten) ∧ Hid ((P.take k).flatten.length = 512 * k) ∧ Hid (Below w.heap.size w wr)) (fun _ i _ => P.length - (intOf i).toNat)
  case atStart => exact ⟨1, rfl, by omega, by omega, HO1, HS1, HL1, HB1⟩
  case round =>
    obtain ⟨k, rfl, hk, hk1, hout, hsl, hlen, hbl⟩ := hrel
    have CC := Lib.hid (HC.out wr (HD.out.below hbl.out))
    by_cases hlt : k < P.length
    · obtain ⟨q, hq⟩ : ∃ q, P[k]? = some q := ⟨P[k], List.getElem?_eq_getElem hlt⟩
      have HR := Lib.hid (read_dks g N S D n wr (k : Int) (HD.out.below hbl.out) (by omega) (WalkArith.wf_i64 (by omega)))
      have HQ2 : Hid ((pagesF D.now n)[k]? = some q) := by unfold Hid; rw [HP.out]; exact hq
      have HTK := Lib.hid (pages_flat_take hq)
      obtain ⟨L, hL⟩ : ∃ x, (P.take k).flatten = x := ⟨_, rfl⟩
      rw [hL] at hout hsl hlen HTK
      have hzb := hbl.out.size
      clear hq hL hsl
      go_wp2_with fail
      refine CC.out.mono ?_
      rintro e w2 ⟨rfl, rfl⟩
      go_wp2_with fail
      refine HR.out.mono ?_
      intro e w3 hr
      obtain ⟨hql, rfl, rfl⟩ := treads_in ho HQ2.out hr
      have hb3 : Below w2.heap.size w2 (w2.alloc (.cells (vb q).toArray 124)) := (Below.refl _ _).alloc (Nat.le_refl _) _
      have HSL3 := Lib.hid (tsl_page hql 124 (heap_alloc_new w2 (.cells (vb q).toArray 124)))
      have HO3 := Lib.hid (hout.out.alloc (.cells (vb q).toArray 124))
      have HB3 := Lib.hid (hbl.out.trans (hb3.mono hzb))
      have hz3 : w.heap.size ≤ (w2.alloc (.cells (vb q).toArray 124)).heap.size := by simp; omega
      obtain ⟨w3, hw3⟩ : ∃ x, w2.alloc (.cells (vb q).toArray 124) = x := ⟨_, rfl⟩
      rw [hw3] at HSL3 HO3 HB3 hz3 ⊢
      clear hr hw3 hb3 hout CC HR HQ2
      go_wp2_with (at_builtin; refine wp_append_outs rfl _ _ rfl w.heap.size _ L rfl HO3.out hz3 _ w3.heap.size q rfl HSL3.out (by omega) ?hm ?hK)
      case hm => rw [hlen.out]; omega
      case hK =>
        intro v' w' ho' hb'
        have HO := Lib.hid ho'
        have HB := Lib.hid (HB3.out.trans hb')
        clear ho' hb'
        go_wp2_with fail
        go_roundw
        case rel =>
          refine ⟨k + 1, by go_num, by omega, by omega, ?_, ?_, ?_, HB⟩
          · unfold Hid
            rw [HTK.out]
            exact .inl HO.out
          · unfold Hid
            rw [HTK.out]
            exact HO.out.sl
          · unfold Hid
            rw [HTK.out, List.length_append, hlen.out, hql]
            omega
        case measure => simp [intOf]; omega
    · have hkP : k = P.length := by omega
      have htk : Hid (P.take k = P) := by unfold Hid; rw [hkP, List.take_length]
      have hlt' : ¬ (k : Int) < P.length := by omega
      have hs4 := hsl.out
      rw [htk.out] at hs4
      have HS4 := Lib.hid hs4
      clear hs4
      have hPl : P.flatten.length ≤ 1048576 := by have := hlen.out; rw [htk.out] at this; omega
      obtain ⟨Bs, hBs⟩ : ∃ x, P.flatten = x := ⟨_, rfl⟩
      rw [hBs] at HS4 hPl
      have HBS := Lib.hid hBs
      have CT := Lib.hid (tread_any _ Bs wr HS4.out hPl)
      obtain ⟨A4, c4, rfl, _, _⟩ := HS4.out.len
      clear hkP hBs hout hsl hlen HS4
      go_wp2_with fail
      refine CC.out.mono ?_
      rintro e w2 ⟨rfl, rfl⟩
      go_wp2_with fail
      refine CT.out.mono ?_
      rintro e w3 ⟨v3, n3, rfl, hb3, hans⟩
      have HB3 := Lib.hid (hbl.out.trans (hb3.mono hbl.out.size))
      have HAN := Lib.hid hans
      clear hb3 hans CT CC
      go_wp2_with fail
      go_ret2
      rw [HBS.out]
      exact ⟨v3, n3, rfl, HB3.out, HAN.out⟩

end Go.Proofs.YtlchmkpnehbnlaaGreatDoor.Cd
