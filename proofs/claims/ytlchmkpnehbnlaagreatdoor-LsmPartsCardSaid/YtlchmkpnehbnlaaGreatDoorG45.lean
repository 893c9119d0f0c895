/-
  LsmParts answers true. Conditions: the library's error lies where the program laid it.
-/
import Derived.Test.YtlchmkpnehbnlaaGreatDoorG41
import Derived.Test.YtlchmkpnehbnlaaGreatDoorG13
/-
  Three trees on one disk of the greatest room: what an Apply leaves of all. Conditions: few bytes, few writes.
-/
namespace Go.Proofs.YtlchmkpnehbnlaaGreatDoor.Cd
open Go.RowKit

structure Tri11 (w0 : World) (g N b1 c1 b2 c2 b3 c3 : Nat) (n1 n2 n3 : List UInt8) (P1 P2 P3 : Prs) (D : Dsk) (S : Nat → Prop) (t1 l1 : Nat) (v1 : Value) (t2 l2 : Nat) (v2 : Value) (t3 l3 : Nat) (v3 : Value) (W : World) : Prop where
  a : Tr w0 g N 4096 n1 True P1 b1 c1 D S t1 l1 v1 W
  b : Tr w0 g N 4096 n2 True P2 b2 c2 D S t2 l2 v2 W
  c : Tr w0 g N 4096 n3 True P3 b3 c3 D S t3 l3 v3 W
  p12 : Parts2 t1 l1 v1 t2 l2 v2
  p13 : Parts2 t1 l1 v1 t3 l3 v3
  p23 : Parts2 t2 l2 v2 t3 l3 v3
  heads : Heads D [n1, n2, n3]
  few : b1 ≤ 71400 ∧ c1 ≤ 300 ∧ b2 ≤ 71400 ∧ c2 ≤ 300 ∧ b3 ≤ 71400 ∧ c3 ≤ 300

section
variable {w0 W W' : World} {g N M b1 c1 b2 c2 b3 c3 : Nat} {n1 n2 n3 : List UInt8} {P1 P2 P3 : Prs} {D : Dsk} {S : Nat → Prop} {t1 l1 t2 l2 t3 l3 : Nat} {v1 v2 v3 : Value}
theorem Tri11.rot (h : Tri11 w0 g N b1 c1 b2 c2 b3 c3 n1 n2 n3 P1 P2 P3 D S t1 l1 v1 t2 l2 v2 t3 l3 v3 W) : Tri11 w0 g N b2 c2 b3 c3 b1 c1 n2 n3 n1 P2 P3 P1 D S t2 l2 v2 t3 l3 v3 t1 l1 v1 W :=
  ⟨h.b, h.c, h.a, h.p23, h.p12.turn, h.p13.turn, fun m hm => by
    obtain ⟨k, hk, e⟩ := h.heads m hm
    refine ⟨k, ?_, e⟩
    simp only [List.mem_cons, List.not_mem_nil, or_false] at hk ⊢
    rcases hk with h | h | h
    · exact .inr (.inr h)
    · exact .inl h
    · exact .inr (.inl h), by have := h.few; omega⟩
theorem Tri11.below (h : Tri11 w0 g N b1 c1 b2 c2 b3 c3 n1 n2 n3 P1 P2 P3 D S t1 l1 v1 t2 l2 v2 t3 l3 v3 W) (hb : Below W.heap.size W W') : Tri11 w0 g N b1 c1 b2 c2 b3 c3 n1 n2 n3 P1 P2 P3 D S t1 l1 v1 t2 l2 v2 t3 l3 v3 W' := ⟨h.a.below hb, h.b.below hb, h.c.below hb, h.p12, h.p13, h.p23, h.heads, h.few⟩
theorem Tri11.grow (h : Tri11 w0 g N b1 c1 b2 c2 b3 c3 n1 n2 n3 P1 P2 P3 D S t1 l1 v1 t2 l2 v2 t3 l3 v3 W) (hN : N ≤ M) (hM : M ≤ 137438953472) : Tri11 w0 g M b1 c1 b2 c2 b3 c3 n1 n2 n3 P1 P2 P3 D S t1 l1 v1 t2 l2 v2 t3 l3 v3 W := by
  have hf := h.few
  exact ⟨h.a.grow hN hM (Nat.le_refl _) (Nat.le_refl _) (by omega) (by omega), h.b.grow hN hM (Nat.le_refl _) (Nat.le_refl _) (by omega) (by omega), h.c.grow hN hM (Nat.le_refl _) (Nat.le_refl _) (by omega) (by omega), h.p12, h.p13, h.p23, h.heads, hf⟩

/-- An Apply on the first. -/
def Applied3 (w0 : World) (g M b1 c1 b2 c2 b3 c3 : Nat) (n1 n2 n3 : List UInt8) (P1 P2 P3 : Prs) (t1 l1 t2 l2 : Nat) (v2 : Value) (t3 l3 : Nat) (v3 : Value) (ws : List Wr) (e : Ending) (W' : World) : Prop :=
  e = .returned (.int .i64 0) ∧ ∃ T D' v', Tri11 w0 g M (b1 + sumB ws) (c1 + ws.length) b2 c2 b3 c3 n1 n2 n3 (allP P1 ws) P2 P3 D' T t1 l1 v' t2 l2 v2 t3 l3 v3 W'

theorem Tri11.apply (h : Tri11 w0 g N b1 c1 b2 c2 b3 c3 n1 n2 n3 P1 P2 P3 D S t1 l1 v1 t2 l2 v2 t3 l3 v3 W) (u : Value) (ws : List Wr) (h2 : n2.head? ≠ n1.head?) (h3 : n3.head? ≠ n1.head?) (he : ErrAt w0) (M : Nat) (hv : TbIn W W.heap.size u ws) (hl : long8 ws = false) (hb : b1 + sumB ws ≤ 71400) (hc : c1 + ws.length ≤ 300) (hN : N + 100000 ≤ M) (hM : M ≤ 137438953472) :
    Calls Tryz.prog 13 #[.pointer (some ⟨t1, 0, none⟩), u] W (Applied3 w0 g M b1 c1 b2 c2 b3 c3 n1 n2 n3 P1 P2 P3 t1 l1 t2 l2 v2 t3 l3 v3 ws) := by
  have hf := h.few
  refine (apply_any u ws h.a he M hv hl (by omega) (by omega) (fun _ E whole last tabs R hi ht hg ho => ?_) hN hM).mono ?_
  · have h1 := big_heads h.heads (by simp) (hi.mono (b' := 71400) (c' := 300) (by omega) (by omega) (by omega) (by omega)) ht hg ho (fun m hm hne => by
      simp only [List.mem_cons, List.not_mem_nil, or_false] at hm
      rcases hm with rfl | rfl | rfl
      · exact absurd rfl hne
      · obtain ⟨w1, a1, t1, r1, k1, k2⟩ := h.b.lsI trivial
        exact ⟨h2, w1, a1, t1, r1, k1.mono (by omega) (by omega) (by omega) (by omega), k2⟩
      · obtain ⟨w1, a1, t1, r1, k1, k2⟩ := h.c.lsI trivial
        exact ⟨h3, w1, a1, t1, r1, k1.mono (by omega) (by omega) (by omega) (by omega), k2⟩)
    have h1 : 510 * count E.now ≤ 3 * (2 * 71400 + 60 * 300 + 2670) := h1
    omega
  · rintro e W' (⟨_, hn, _⟩ | ⟨rfl, T, D', v', htr, hto, hg, _⟩)
    · exact absurd trivial hn
    · exact ⟨rfl, T, D', v', htr, h.b.beside h.a htr hto h.p12 hg h2, h.c.beside h.a htr hto h.p13 hg h3, h.p12.after hto h.b.rowlt, h.p13.after hto h.c.rowlt, h.p23, h.heads.go (by simp) hg, by omega⟩
end

/-- A part of a row of writes. -/
theorem tb_cut {w : World} {B : Nat} {A : Option Addr} {n c : Nat} {l : List Wr} (h : TbIn w B (.slice A n c) l) {k m : Nat} (hk : k < m) (hm : m ≤ l.length) : TbIn w B (.slice (A.map fun x => x.add (k * 3)) (m - k) (c - k)) ((l.drop k).take (m - k)) := by
  obtain ⟨A', c', e, h2, h3, h4, h5⟩ := h
  injection e with e1 _ e3
  subst e1 e3
  have hlen : ((l.drop k).take (m - k)).length = m - k := by rw [List.length_take, List.length_drop]; omega
  obtain ⟨b, off, e, hb, hc⟩ := h5 (by omega)
  subst e
  refine ⟨_, c - k, by rw [hlen], by omega, by omega, (fun h => by cases h), fun _ => ⟨b, off + k * 3, by rw [Option.map_some, Addr.add_lit], hb, fun i p hi j x hx => ?_⟩⟩
  have hi2 : l[k + i]? = some p := by
    rw [List.getElem?_take] at hi
    split at hi
    · rwa [List.getElem?_drop] at hi
    · cases hi
  have := hc (k + i) p hi2 j x hx
  rwa [show off + k * 3 + i * 3 + j = off + (k + i) * 3 + j by omega]
theorem take_part (ws : List Wr) {k m : Nat} (h : k ≤ m) : ws.take k ++ (ws.drop k).take (m - k) = ws.take m := by
  have := List.take_add (l := ws) (i := k) (j := m - k)
  rw [show k + (m - k) = m by omega] at this
  exact this.symm
theorem sumB_take (ws : List Wr) (k : Nat) : sumB (ws.take k) ≤ sumB ws := by
  have h := sumB_append (ws.take k) (ws.drop k)
  rw [List.take_append_drop] at h
  omega
theorem long8_part {ws : List Wr} (h : long8 ws = false) {xs : List Wr} (hs : ∀ p ∈ xs, p ∈ ws) (hl : xs.length ≤ 1024) : long8 xs = false := by
  unfold long8 at h ⊢
  rw [Bool.or_eq_false_iff] at h ⊢
  refine ⟨?_, by simpa using hl⟩
  unfold longW at h ⊢
  exact List.any_eq_false.2 fun p hp => List.any_eq_false.1 h.1 p (hs p hp)
theorem sumB_long {ws : List Wr} (h : long8 ws = false) : sumB ws ≤ 238 * ws.length := by
  have hl := (limT_of_long h).1
  clear h
  induction ws with
  | nil => simp [sumB, sumW]
  | cons p r ih =>
    have h3 : sumB (p :: r) = (30 + p.1.length + p.2.1.length) + sumB r := by unfold sumB; rw [sumW_cons, List.length_cons]; omega
    have h4 := hl p (by simp)
    have h5 := ih fun q hq => hl q (by simp [hq])
    rw [h3, List.length_cons]
    omega

end Go.Proofs.YtlchmkpnehbnlaaGreatDoor.Cd

/-
  LsmParts answers true. Conditions: the library's error lies where the program laid it.
-/
namespace Go.Proofs.YtlchmkpnehbnlaaGreatDoor.Cd
open Go.RowKit

theorem head_ba : ([98] : List UInt8).head? ≠ ([97] : List UInt8).head? := by decide
theorem head_ca : ([99] : List UInt8).head? ≠ ([97] : List UInt8).head? := by decide
theorem head_cb : ([99] : List UInt8).head? ≠ ([98] : List UInt8).head? := by decide

set_option maxRecDepth 100000 in
set_option maxHeartbeats 1600000 in
theorem lwp_out (v : Value) (ws : List Wr) (part : Int) (w : World) (he : ErrAt w) (_ : -9223372036854775808 ≤ part) (_ : part ≤ 9223372036854775807) (hv : TbIn w w.heap.size v ws) (ho : 300 < ws.length ∨ part < 1 ∨ 50 < part ∨ long8 ws = true) :
    Calls Tryz.prog 6 #[v, .int .i64 part] w (Gives (.bool true) w) := by
  obtain ⟨A, c, rfl, hv2, hv3⟩ := hv.len
  have CA := Lib.hid (alive11 w he)
  have HV := Lib.hid hv
  clear hv he
  go_enter Tryz.func6, Tryz.ntmps6
  go_wp2_with fail
  refine CA.out.mono ?_
  rintro e w1 ⟨rfl, hb1⟩
  have CL := Lib.hid (rlong8_any _ ws w1 ((HV.out.below hb1).more hb1.size))
  have HB1 := Lib.hid hb1
  clear hb1 CA
  by_cases d0 : 300 < ws.length
  · have e0 : decide ((300 : Int) < ws.length) = true := decide_eq_true (by omega)
    have e0' : (300 : Int) < ws.length := by omega
    go_wp2_with fail
    go_ret
    exact ⟨rfl, HB1.out⟩
  have e0 : decide ((300 : Int) < ws.length) = false := decide_eq_false (by omega)
  by_cases d1 : part < 1
  · have e1 : decide (part < 1) = true := decide_eq_true d1
    go_wp2_with fail
    go_ret
    exact ⟨rfl, HB1.out⟩
  have e1 : decide (part < 1) = false := decide_eq_false d1
  by_cases d2 : 50 < part
  · have e2 : decide (50 < part) = true := decide_eq_true d2
    go_wp2_with fail
    go_ret
    exact ⟨rfl, HB1.out⟩
  have e2 : decide (50 < part) = false := decide_eq_false d2
  have hl : long8 ws = true := by
    rcases ho with h | h | h | h
    · exact absurd h d0
    · exact absurd h d1
    · exact absurd h d2
    · exact h
  rw [hl] at CL
  clear ho
  go_wp2_with fail
  refine CL.out.mono ?_
  rintro e w2 ⟨rfl, hb2⟩
  have HB2 := Lib.hid (HB1.out.trans (hb2.mono HB1.out.size))
  clear hb2 CL
  go_wp2_with fail
  go_ret
  exact ⟨rfl, HB2.out⟩

set_option maxRecDepth 100000 in
set_option maxHeartbeats 12800000 in
theorem lwp_main (v : Value) (ws : List Wr) (part : Nat) (w : World) (he : ErrAt w) (hp1 : 1 ≤ part) (hp2 : part ≤ 50) (hv : TbIn w w.heap.size v ws) (hlen : ws.length ≤ 300) (hlong : long8 ws = false) :
    Calls Tryz.prog 6 #[v, .int .i64 part] w (Gives (.bool true) w) := by
  obtain ⟨A, c, rfl, hv2, hv3⟩ := hv.len
  have CA := Lib.hid (alive11 w he)
  have HV := Lib.hid hv
  have HE := Lib.hid he
  have HL := Lib.hid hlong
  have hsB : sumB ws ≤ 71400 := by have := sumB_long hlong; omega
  clear hv he
  go_enter Tryz.func6, Tryz.ntmps6
  go_wp2_with fail
  refine CA.out.mono ?_
  rintro e w1 ⟨rfl, hb1⟩
  have CL := rlong8_any _ ws w1 ((HV.out.below hb1).more hb1.size)
  rw [hlong] at CL
  have CL := Lib.hid CL
  have HB1 := Lib.hid hb1
  clear hb1 CA hlong
  have e0 : decide ((300 : Int) < ws.length) = false := decide_eq_false (by omega)
  have e1 : decide ((part : Int) < 1) = false := decide_eq_false (by omega)
  have e2 : decide ((50 : Int) < part) = false := decide_eq_false (by omega)
  go_wp2_with fail
  refine CL.out.mono ?_
  rintro e w2 ⟨rfl, hb2⟩
  have HB2 := Lib.hid (HB1.out.trans (hb2.mono HB1.out.size))
  clear hb2 CL
  go_wp2_with fail
  refine (new_dks 4096 w2 (by omega) (by omega)).mono ?_
  rintro e w3 ⟨g, S, rfl, hd, hS, hb3⟩
  have hLa : Letter [97] := ⟨97, [], rfl, by decide, by decide, by decide⟩
  have hLb := Lib.hid (show Letter [98] from ⟨98, [], rfl, by decide, by decide, by decide⟩)
  have hLc := Lib.hid (show Letter [99] from ⟨99, [], rfl, by decide, by decide, by decide⟩)
  have CO := Lib.hid (open_s True hd (ample_of (new_roomy (room := 4096) (by omega)) (by omega)) (by omega) (lsI_new hLa (by simp) (fun m hm => by simp [newD, getF] at hm)) HE.out (HB2.out.trans (hb3.mono HB2.out.size)) (fun k hk => Nat.le_trans HB2.out.size (hS k hk)) 10000 (by omega) (by omega) (fun _ => by simp))
  clear hd hS hb3 hLa
  go_wp2_with fail
  refine CO.out.mono ?_
  rintro e w4 ⟨T4, D4, ta, la, va, rfl, htr, hs4, _, _, _, _, _⟩
  have hP : treeP ([] : List (List Wr)) (ofW ([] : List (List Wr)).flatten) = [] := rfl
  rw [hP] at htr
  have hno4 : ∀ m, (getF D4.now m).isSome = true → False := fun m hm => by rw [hs4 m] at hm; simp [newD, getF] at hm
  have CO2 := open_s True htr.disk htr.ample (by omega) (lsI_new hLb.out (by simp) (fun m hm => (hno4 m hm).elim)) HE.out htr.base.1 (fun k hk => htr.base.2 k (.inl hk)) 20000 (by omega) (by omega) (fun _ => by simp)
  rw [hP] at CO2
  have CO2 := Lib.hid CO2
  have HTR := Lib.hid htr
  have HNO := Lib.hid hno4
  have HPN := Lib.hid hP
  clear htr hP hs4 hno4 CO
  go_wp2_with fail
  refine CO2.out.mono ?_
  rintro e w5 ⟨T5, D5, tb, lb, vb, rfl, htr5, hs5, hT5, ha5, ht5, hl5, hr5⟩
  have hno5 : ∀ m, (getF D5.now m).isSome = true → False := fun m hm => HNO.out m (by rw [← hs5 m]; exact hm)
  have CO3 := open_s True htr5.disk htr5.ample (by omega) (lsI_new hLc.out (by simp) (fun m hm => (hno5 m hm).elim)) HE.out htr5.base.1 (fun k hk => htr5.base.2 k (.inl hk)) 30000 (by omega) (by omega) (fun _ => by simp)
  rw [HPN.out] at CO3
  have CO3 := Lib.hid CO3
  have HTA := Lib.hid (HTR.out.opened htr5 hs5 hT5 ha5)
  have HPAB := Lib.hid (Parts2.opened HTR.out ht5 hl5 hr5)
  have HTB := Lib.hid htr5
  have HNO5 := Lib.hid hno5
  clear htr5 hs5 hT5 ha5 ht5 hl5 hr5 hno5 CO2 HTR HNO
  go_wp2_with fail
  refine CO3.out.mono ?_
  rintro e w6 ⟨T6, D6, tc, lc, vc, rfl, htr6, hs6, hT6, ha6, ht6, hl6, hr6⟩
  have htri : Tri11 w g 30000 0 0 0 0 0 0 [97] [98] [99] [] [] [] D6 T6 ta la va tb lb vb tc lc vc w6 :=
    ⟨HTA.out.opened htr6 hs6 hT6 ha6, HTB.out.opened htr6 hs6 hT6 ha6, htr6, HPAB.out.turn, (Parts2.opened HTA.out ht6 hl6 hr6).turn, (Parts2.opened HTB.out ht6 hl6 hr6).turn, fun m hm => by rw [hs6 m] at hm; exact (HNO5.out m hm).elim, by omega⟩
  have HTRI := Lib.hid htri
  have CAp := Lib.hid (htri.apply _ ws head_ba head_ca HE.out 200000 ((HV.out.below htri.a.base.1).more htri.a.base.1.size) HL.out (by omega) (by omega) (by omega) (by omega))
  clear htri htr6 hs6 hT6 ha6 ht6 hl6 hr6 CO3 HTA HTB HPAB HNO5
  go_wp2_with fail
  refine CAp.out.mono ?_
  rintro e w7 ⟨rfl, T7, D7, va7, htri7⟩
  obtain ⟨PA, hPA⟩ : ∃ x, allP [] ws = x := ⟨_, rfl⟩
  rw [hPA] at htri7
  have HT7 := Lib.hid htri7.rot
  have HPA := Lib.hid hPA
  clear htri7 HTRI CAp hPA
  go_wp2_with fail
  go_loopw [58] (fun i wr => ∃ (k : Nat) (D : Dsk) (T : Nat → Prop) (vb : Value), i = .int .i64 k ∧ k ≤ ws.length ∧ Hid (Tri11 w g (200000 + 200000 * k) (sumB (ws.take k)) k 0 0 (0 + sumB ws) (0 + ws.length) [98] [99] [97] (allP [] (ws.take k)) [] PA D T tb lb vb tc lc vc ta la va7 wr)) (fun i _ => ws.length - (intOf i).toNat)
  case atStart => exact ⟨0, D7, T7, vb, rfl, by omega, HT7.out⟩
  case round =>
    obtain ⟨k, D, T, vb, rfl, hk, htri⟩ := hrel
    by_cases hlt : k < ws.length
    · obtain ⟨p, hpk⟩ : ∃ p, ws[k]? = some p := ⟨ws[k], List.getElem?_eq_getElem hlt⟩
      have hbw := htri.out.a.base.1
      obtain ⟨b, off, rfl, hB, d0, d1, d2⟩ := (HV.out.below hbw).at hpk
      obtain ⟨w8, hw8⟩ : ∃ x, wr.alloc (.cells #[.string ⟨p.1.toArray⟩, .string ⟨p.2.1.toArray⟩, .bool p.2.2] 52) = x := ⟨_, rfl⟩
      have hb8 : Below wr.heap.size wr w8 := by rw [← hw8]; exact (Below.refl _ _).alloc (Nat.le_refl _) _
      have hin8 : TbIn w8 w8.heap.size (.slice (some ⟨wr.heap.size, 0, none⟩) 1 1) [p] := by
        have := tb_one wr p 52
        rw [← hw8, World.size_alloc]
        exact this
      have htk : ws.take k ++ [p] = ws.take (k + 1) := by
        obtain ⟨hk2, rfl⟩ := List.getElem?_eq_some_iff.1 hpk
        exact (List.take_succ_eq_append_getElem hk2).symm
      have hsk : sumB (ws.take k) + sumB [p] ≤ 71400 := by
        rw [← sumB_append, htk]
        exact Nat.le_trans (sumB_take ws (k + 1)) hsB
      have CA := (htri.out.below hb8).apply _ [p] head_cb (fun e => head_ba e.symm) HE.out (200000 + 200000 * k + 100000) hin8 (long8_part HL.out (fun q hq => by rw [List.mem_singleton.1 hq]; exact List.mem_of_getElem? hpk) (by simp)) hsk (by simp; omega) (by omega) (by omega)
      have HTK := Lib.hid htk
      have CA := Lib.hid CA
      have HW8 := Lib.hid hw8
      clear hpk hbw hb8 hin8 htk hsk hw8 htri
      go_wp2_with fail
      rw [HW8.out]
      refine CA.out.mono ?_
      rintro e w9 ⟨rfl, T9, D9, vb9, htri9⟩
      rw [← all_append, ← sumB_append, HTK.out] at htri9
      have HT9 := Lib.hid (htri9.grow (M := 200000 + 200000 * (k + 1)) (by omega) (by omega))
      clear htri9 CA
      go_wp2_with fail
      go_roundw
      case rel => exact ⟨k + 1, D9, T9, vb9, by go_num, by omega, HT9.out⟩
      case measure => simp [intOf]; omega
    · obtain rfl : k = ws.length := by omega
      have htr2 := htri.out.rot
      rw [List.take_of_length_le (Nat.le_refl _), HPA.out] at htr2
      have HT2 := Lib.hid htr2
      clear htr2 htri
      obtain ⟨D8, hD8⟩ : ∃ x, D = x := ⟨_, rfl⟩
      obtain ⟨T8, hT8⟩ : ∃ x, T = x := ⟨_, rfl⟩
      rw [hD8, hT8] at HT2
      obtain ⟨N0, hN0⟩ : ∃ x, 200000 + 200000 * ws.length = x := ⟨_, rfl⟩
      rw [hN0] at HT2
      have hN1 : N0 ≤ 100000000 := by omega
      clear hD8 hT8 hN0
      go_wp2_with fail
      go_loopw [13] (fun i wr => ∃ (k : Nat) (D : Dsk) (T : Nat → Prop) (vc : Value), i = .int .i64 k ∧ k ≤ ws.length + 50 ∧ Hid (Tri11 w g (N0 + 200000 * k) (sumB (ws.take k)) (ws.take k).length (0 + sumB ws) (0 + ws.length) (sumB ws) ws.length [99] [97] [98] (allP [] (ws.take k)) PA PA D T tc lc vc ta la va7 tb lb vb wr)) (fun i _ => ws.length - (intOf i).toNat)
      case atStart => exact ⟨0, D8, T8, vc, rfl, by omega, HT2.out⟩
      case round =>
        obtain ⟨k, D, T, vc, rfl, hk, htri⟩ := hrel
        by_cases hlt : k < ws.length
        · obtain ⟨m, hm⟩ : ∃ m, min (k + part) ws.length = m := ⟨_, rfl⟩
          have hkm : k < m := by omega
          have hml : m ≤ ws.length := by omega
          obtain ⟨kp, hkp⟩ : ∃ x, k + part = x := ⟨_, rfl⟩
          have hkpi : (k : Int) + part = (kp : Int) := by omega
          have hmc2 : (ws.length < kp ∧ m = ws.length) ∨ (¬ ws.length < kp ∧ m = kp) := by omega
          have hbw := htri.out.a.base.1
          have hin := (tb_cut (HV.out.below hbw) hkm hml).more hbw.size
          have htk := take_part ws (Nat.le_of_lt hkm)
          have hlx : ((ws.drop k).take (m - k)).length ≤ 300 := by rw [List.length_take, List.length_drop]; omega
          have hsub : ∀ q ∈ (ws.drop k).take (m - k), q ∈ ws := fun q hq => List.mem_of_mem_drop (List.mem_of_mem_take hq)
          obtain ⟨xs, hxs⟩ : ∃ x, (ws.drop k).take (m - k) = x := ⟨_, rfl⟩
          rw [hxs] at hin htk hlx hsub
          have hsk : sumB (ws.take k) + sumB xs ≤ 71400 := by
            rw [← sumB_append, htk]
            exact Nat.le_trans (sumB_take ws m) hsB
          have hck : (ws.take k).length + xs.length ≤ 300 := by
            rw [← List.length_append, htk, List.length_take]
            omega
          have CA := htri.out.apply _ xs head_ca.symm head_cb.symm HE.out (N0 + 200000 * k + 100000) hin (long8_part HL.out hsub (by omega)) hsk hck (by omega) (by omega)
          have hmk : ws.take m = ws.take kp := by
            rcases hmc2 with ⟨h1, h2⟩ | ⟨_, h2⟩
            · rw [List.take_of_length_le (by omega), List.take_of_length_le (by omega)]
            · rw [h2]
          have HTK := Lib.hid (htk.trans hmk)
          have CA := Lib.hid CA
          have hck : c ≠ k := by omega
          have hcki : (c : Int) ≠ k := by omega
          have hkc : k ≤ c := by omega
          have hmc : m ≤ c := by omega
          have hkp1 : kp ≤ 400 := by omega
          have hkp2 : k < kp := by omega
          have HKP := Lib.hid hkp
          clear hbw hin htk hlx hsub hsk hmk htri hm hxs hkp
          rcases hmc2 with ⟨h1, h2⟩ | ⟨h1, h2⟩ <;> obtain rfl := h2.symm
          case' inl => have hmin : (min (kp : Int) (ws.length : Int)).toNat = ws.length := by omega
          case' inr => have hmin : (min (kp : Int) (ws.length : Int)).toNat = kp := by omega
          all_goals
            go_wp2_with fail
            first | rw [hmin] | skip
            refine CA.out.mono ?_
            rintro e w9 ⟨rfl, T9, D9, vc9, htri9⟩
            rw [← all_append, ← sumB_append, ← List.length_append, HTK.out] at htri9
            have HT9 := Lib.hid (htri9.grow (M := N0 + 200000 * kp) (by omega) (by omega))
            clear htri9 CA
            go_wp2_with fail
            go_roundw
            case rel => exact ⟨kp, D9, T9, vc9, by go_num, by have := HKP.out; omega, HT9.out⟩
            case measure => simp [intOf]; have := HKP.out; omega
        · have htr := htri.out
          rw [List.take_of_length_le (by omega), HPA.out] at htr
          have hbw := htr.a.base.1
          have CR := rall_any (.slice none 0 0) _ [] ws wr (PrIn.nil _ _) ((HV.out.below hbw).more hbw.size) (by simp; omega)
          have CR := Lib.hid CR
          have HT := Lib.hid htr
          clear htri htr hbw
          go_wp2_with fail
          refine CR.out.mono ?_
          rintro e wa ⟨v8, rfl, _, hpi, hba⟩
          rw [HPA.out] at hpi
          have hta := HT.out.below hba
          have C1 := Lib.hid (has_s _ _ hta.b hpi)
          have HTa := Lib.hid hta
          have HPI := Lib.hid hpi
          clear hta hpi hba CR HT
          go_wp2_with fail
          refine C1.out.mono ?_
          rintro e wb ⟨s, rfl, hs, hbb⟩
          obtain rfl : s = true := by simpa using hs
          have HTb := Lib.hid (HTa.out.below hbb)
          have HPb := Lib.hid ((HPI.out.below hbb).more hbb.size)
          have C2 := Lib.hid (has_s _ _ HTb.out.c HPb.out)
          clear hs hbb C1 HTa HPI
          go_wp2_with fail
          refine C2.out.mono ?_
          rintro e wc ⟨s, rfl, hs, hbc⟩
          obtain rfl : s = true := by simpa using hs
          have HTc := Lib.hid (HTb.out.below hbc)
          have HPc := Lib.hid ((HPb.out.below hbc).more hbc.size)
          have C3 := Lib.hid (has_s _ _ HTc.out.a HPc.out)
          clear hs hbc C2 HTb HPb
          go_wp2_with fail
          refine C3.out.mono ?_
          rintro e wd ⟨s, rfl, hs, hbd⟩
          obtain rfl : s = true := by simpa using hs
          have HBd := Lib.hid ((HTc.out.below hbd).a.base.1)
          clear hs hbd C3 HTc HPc
          go_wp2_with fail
          go_ret
          exact ⟨rfl, HBd.out⟩

end Go.Proofs.YtlchmkpnehbnlaaGreatDoor.Cd

namespace Go.Proofs.YtlchmkpnehbnlaaGreatDoor.LsmParts
open Go.RowKit Go.Proofs.YtlchmkpnehbnlaaGreatDoor.Cd

theorem walk (v : Value) (ws : List Wr) (part : Int) (w : World) (he : ErrAt w) (h : TbIn w w.heap.size v ws ∧ FitW ws) (hp : (Lit.int .i64 part).wf = true) : Calls Tryz.prog 6 #[v, .int .i64 part] w (Gives (.bool true) w) := by
  obtain ⟨h1, h2⟩ := bounds_i64 hp
  by_cases ho : 300 < ws.length ∨ part < 1 ∨ 50 < part ∨ long8 ws = true
  · exact lwp_out v ws part w he (by omega) (by omega) h.1 ho
  · obtain ⟨m, rfl⟩ := Int.eq_ofNat_of_zero_le (show 0 ≤ part by omega)
    have hl : long8 ws = false := by
      cases hh : long8 ws
      · rfl
      · exact absurd (.inr (.inr (.inr hh))) ho
    exact lwp_main v ws m w he (by omega) (by omega) h.1 (by omega) hl

end Go.Proofs.YtlchmkpnehbnlaaGreatDoor.LsmParts
