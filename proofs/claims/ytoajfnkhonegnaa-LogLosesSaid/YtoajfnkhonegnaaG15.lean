/-
  LogLoses answers true. Conditions: none.
-/
import Derived.Test.YtoajfnkhonegnaaG13
import Derived.Test.YtoajfnkhonegnaaG14
/-
  A log whose power may go: the log, its disk, what is left behind. Conditions: none.
-/
namespace Go.Proofs.Ytoajfnkhonegnaa.Cd
open Go.RowKit

/-- The power is on; all that was appended is there, the first b bytes are safe. -/
structure Runs9 (w : World) (l g N : Nat) (n t : List UInt8) (b : Nat) (D : Dsk) (T : Nat → Prop) (W : World) : Prop where
  disk : DkS W g N T D
  log : LogAt W T l g n t
  low : ∀ j, T j → w.heap.size ≤ j
  lowl : w.heap.size ≤ l
  below : Below w.heap.size w W
  going : Going D n t b
  room : D.room = 200
/-- Or it went. -/
structure Past9 (w : World) (g N : Nat) (n t : List UInt8) (b : Nat) (D : Dsk) (T : Nat → Prop) (W : World) : Prop where
  dry : Dry w g N D T W
  gone : Going D n t b ∨ Gone9 D n t b
  room : D.room = 200

section
variable {w W W' : World} {l g N M b : Nat} {n t x : List UInt8} {D : Dsk} {T : Nat → Prop} {v : Value} {e : Ending}
theorem Runs9.over (h : Runs9 w l g N n t b D T W) (hb : Below W.heap.size W W') : Runs9 w l g N n t b D T W' :=
  ⟨h.disk.below hb, h.log.below hb, h.low, h.lowl, h.below.trans (hb.mono h.below.size), h.going, h.room⟩
theorem Runs9.grow (h : Runs9 w l g N n t b D T W) (hN : N ≤ M) (hM : M ≤ 137438953472) : Runs9 w l g M n t b D T W :=
  ⟨h.disk.mono hN hM, h.log, h.low, h.lowl, h.below, h.going, h.room⟩
theorem Runs9.past (h : Runs9 w l g N n t b D T W) : Past9 w g N n t b D T W := ⟨⟨h.disk, h.low, h.below⟩, .inl h.going, h.room⟩
theorem Going.count (h : Going D n t b) : count D.now = needP t.length := by rw [sole_count h.vers.once h.vers.sole, h.lay.2]
theorem Going.appendA (h : Going D n t b) (hx : 0 < x.length) (hr : needP (t.length + x.length) ≤ D.room) : appendA D n t x = putD D n t x := by
  have h1 := h.count
  have h2 := h.lay.2
  unfold Cd.appendA appendD
  rw [if_neg (by rw [h.off]; simp), if_neg (fun e => by rw [e] at hx; simp at hx), if_neg (by unfold freeD; omega)]

/-- What an Append may leave. -/
theorem Runs9.append (h : Runs9 w l g N n t b D T W) (hx : 0 < x.length) (hr : needP (t.length + x.length) ≤ 200)
    (hm : MakesL g M T (Cd.appendA D n t x).1 v l n (if (Cd.appendA D n t x).2 = 0 then t ++ x else t) W e W') :
    ((Cd.appendA D n t x).2 = 0 ∧ ∃ T', Runs9 w l g M n (t ++ x) b (putD D n t x).1 T' W') ∨ ((Cd.appendA D n t x).2 = 8 ∧ ∃ T', Past9 w g M n (t ++ x) b (putD D n t x).1 T' W') := by
  have hap := h.going.appendA hx (by rw [h.room]; exact hr)
  have hg := h.going.put x (by rw [h.room]; exact hr)
  rw [hap] at hm ⊢
  obtain ⟨_, T', m1, m2, m3, m4⟩ := hm
  have hlow : ∀ j, T' j → w.heap.size ≤ j := fun j hj => by
    rcases m3 j hj with h1 | h1
    · exact h.low j h1
    · have := h.below.size; omega
  have hbl := h.below.trans (m4.low h.below.size fun j hj => by
    rcases hj with hj | hj
    · exact h.low j hj
    · rw [hj]; exact h.lowl)
  rcases hg with ⟨g1, _, g3, g4⟩ | ⟨g1, _, g3, g4⟩
  · rw [if_pos g1] at m2
    exact .inl ⟨g1, T', m1, m2, hlow, h.lowl, hbl, g3, g4.trans h.room⟩
  · exact .inr ⟨g1, T', ⟨m1, hlow, hbl⟩, .inr g3, g4.trans h.room⟩
/-- What a Sync may leave. -/
theorem Runs9.sync (h : Runs9 w l g N n t b D T W) (ht : 0 < t.length) (hm : MakesD g M T (syncD D n).1 v W e W') :
    (unless5 (syncD D n).2 = 0 ∧ Runs9 w l g M n t t.length (syncD D n).1 (since T W W') W') ∨ (unless5 (syncD D n).2 = 8 ∧ Past9 w g M n t b (syncD D n).1 (since T W W') W') := by
  have hd : Dry w g M (syncD D n).1 (since T W W') W' := Dry.made ⟨h.disk, h.low, h.below⟩ hm
  rcases h.going.sync ht with ⟨g1, _, g3, g4⟩ | ⟨g1, _, g3, g4⟩
  · exact .inl ⟨by rw [g1]; rfl, hm.2.1, h.log.apart hm.2.2, hd.low, h.lowl, hd.below, g3, g4.trans h.room⟩
  · exact .inr ⟨by rw [g1]; rfl, hd, .inr g3, g4.trans h.room⟩
/-- The power is gone for certain. -/
theorem Past9.lose (h : Past9 w g N n t b D T W) (k : Nat) : Gone9 (lose D k) n t b ∧ (lose D k).room = 200 := by
  rcases h.gone with h1 | h1
  · exact ⟨h1.vers.lose h1.off k, ((lose_is h1.off k).2.2.2.1).trans h.room⟩
  · rw [lose_again h1.off]; exact ⟨h1, h.room⟩
end

/-- What Open finds behind it: a beginning of the records, with all that are safe; and what it leaves. -/
theorem Gone9.opens {D : Dsk} {n : List UInt8} {l : List (List UInt8)} {sf made : Nat} {ds : List (List UInt8)} {cur : List UInt8} (h : Gone9 D n (flat (l.take made)) (flat (l.take sf)).length) (hr : D.room = 200) (hsf : sf ≤ made) (hml : made ≤ l.length) (hb : (flat l).length ≤ 100000)
    (hs : Splits (logB (pagesF (armD (onD D) 0 0).now n)) ds cur) :
    ∃ k, sf ≤ k ∧ k ≤ made ∧ ds = l.take k ∧ (trimD (armD (onD D) 0 0) n (flat ds) (logB (pagesF (armD (onD D) 0 0).now n)).length).2 = 0 ∧ Roomy (trimD (armD (onD D) 0 0) n (flat ds) (logB (pagesF (armD (onD D) 0 0).now n)).length).1 200 (needP (flat ds).length) ∧
      Lay (pagesF (trimD (armD (onD D) 0 0) n (flat ds) (logB (pagesF (armD (onD D) 0 0).now n)).length).1.now n) (flat ds) := by
  have hfm := flat_mono l made l.length hml
  rw [List.take_length] at hfm
  obtain ⟨m, m1, m2, m3⟩ := h.log
  have m1' : logB (pagesF (armD (onD D) 0 0).now n) = (flat (l.take made)).take m := m1
  obtain ⟨k, cur', k1, k2, k3⟩ := splits_at (l.take made) sf m (by omega) m3 (by rw [List.take_take, Nat.min_eq_left hsf]; exact m2) (by rw [List.length_take]; omega)
  rw [List.length_take] at k2
  have hs2 := hs
  rw [m1'] at hs2
  obtain ⟨e1, e2⟩ := splits_uniq (by rw [List.length_take]; omega) hs2 k3
  rw [List.take_take, Nat.min_eq_left (by omega)] at e1
  have hroom := h.roomy
  rw [hr] at hroom
  have hq : logB (pagesF (armD (onD D) 0 0).now n) = flat ds ++ cur := hs.1
  obtain ⟨t1, t2, t3, t4, _⟩ := hroom.trimL (n := n) hq
  refine ⟨k, k1, by omega, e1, t1, ?_, t3⟩
  have e : (pagesF (armD (onD D) 0 0).now n).length - ((pagesF (armD (onD D) 0 0).now n).length - needP (flat ds).length) = needP (flat ds).length := by omega
  rw [← e]
  exact t2

/-- What the Open behind it leaves. -/
theorem gone_opened {w W W' : World} {g N M : Nat} {e : Ending} {T : Nat → Prop} {D : Dsk} {n : List UInt8} {l : List (List UInt8)} {sf made : Nat} (h : Gone9 D n (flat (l.take made)) (flat (l.take sf)).length) (hr : D.room = 200) (hsf : sf ≤ made) (hml : made ≤ l.length) (hb : (flat l).length ≤ 100000)
    (hy : Dry w g N (armD (onD D) 0 0) T W) (hm : OpensL g M T (armD (onD D) 0 0) n W e W') :
    ∃ (k lb : Nat) (v : Value) (T' : Nat → Prop) (D' : Dsk), sf ≤ k ∧ k ≤ made ∧ e = .returned (.tuple #[.pointer (some ⟨lb, 0, none⟩), v, .int .i64 0]) ∧ Held9 w W.heap.size v (l.take k) T' lb W' ∧ Calm w lb g M 200 (needP (flat (l.take k)).length) n (flat (l.take k)) D' T' W' := by
  obtain ⟨ds, cur, hs, hc⟩ := hm
  obtain ⟨k, k1, k2, rfl, k4, k5, k6⟩ := h.opens hr hsf hml hb hs
  rcases hc with ⟨_, lb, v, T', rfl, hv, hlg, hd, ht, hap, hll, haw⟩ | ⟨hbad, _⟩
  · have hfm := flat_mono l k l.length (by omega)
    rw [List.take_length] at hfm
    refine ⟨k, lb, v, T', _, k1, k2, rfl, ⟨hv, hy.below.size, hap.size, haw⟩, hd, hlg, fun j hj => ?_, Nat.le_trans hy.below.size hll, hy.below.trans (hap.low hy.below.size hy.low), k6, k5, ?_⟩
    · rcases ht j hj with h1 | h1
      · exact hy.low j h1
      · have := hy.below.size; omega
    · unfold needP
      omega
  · exact absurd k4 hbad

section
variable {w W W' : World} {g N M B l l2 : Nat} {T T' : Nat → Prop} {v : Value} {list : List (List UInt8)}
theorem Held9.made (h : Held9 w B v list T l W) (ha : Apart T W W') : Held9 w B v list (since T W W') l W' := h.call (ha.mono fun _ => .inl) (fun _ => id)
/-- Beside an Open. -/
theorem Held9.opened (h : Held9 w B v list T l W) (ha : Apart T W W') (hT : ∀ j, T' j → since T W W' j) (hl : W.heap.size ≤ l2) : Held9 w B v list T' l2 W' := by
  refine ⟨h.own.aside ha (fun b hb ht => (h.away b hb).1 ht), h.low, Nat.le_trans h.le ha.size, fun b hb => ⟨fun ht => ?_, ?_⟩⟩
  · rcases hT b ht with h1 | h1
    · exact (h.away b hb).1 h1
    · have := (h.own.lt b hb).2; omega
  · have := (h.own.lt b hb).2; omega
end

/-- append of texts, for the walk, where it stands behind a condition that holds. -/
theorem wp_append_wanted {w : World} {ops : Array Oper} {rest : List Oper} {o : Oper} {a : Act} {Q : Exit → Act → World → Prop} (hwd : Region.wanted o (yielded ops a.tmps) = true) (s x : Operand)
    (hop : o.op = .call { callee := .builtin .append, args := #[s, x], argTypes := #[22, 22] })
    (B : Nat) (v : Value) (l : List (List UInt8)) (hs : a.eval s = v) (ho : OwnS w B v l) (hB : B ≤ w.heap.size) (y : Value) (B' : Nat) (ns : List (List UInt8)) (hx : a.eval x = y) (hy : Strs w B' y ns)
    (hm : l.length + ns.length ≤ 8796093022208)
    (hK : ∀ v' w', OwnS w' B v' (l ++ ns) → Below B w w' → wpList Try.prog ops Q rest (a.put o.dst v') w') : wpList Try.prog ops Q (o :: rest) a w := by
  refine wpList_step fun K hK' => ?_
  rw [if_pos hwd]
  obtain ⟨v', w', hrun, r1, r2⟩ := run_append_strs w B v l ho hB y B' ns hy hm o.type
  unfold Oper.wp
  simp [execOp, hop, resolve, invoke, builtin, hs, hx, hrun, Result.andThen]
  exact hK' _ _ (hK v' w' r1 r2)

end Go.Proofs.Ytoajfnkhonegnaa.Cd

/-
  LogLoses answers true. Conditions: none.
-/
namespace Go.Proofs.Ytoajfnkhonegnaa.Cd
open Go.RowKit

set_option maxRecDepth 100000 in
set_option maxHeartbeats 6400000 in
theorem ll_main (v sv : Value) (l : List (List UInt8)) (ss : List Bool) (n : Int) (keep : Nat) (again : List UInt8) (w : World) (hv : Strs w w.heap.size v l) (hok : ∀ p ∈ l, p.length ≤ 140737488351232) (hs : Flat Value.bool w w.heap.size sv ss)
    (hn : n ≤ 9223372036854775807) (hkp : keep < 18446744073709551616) (hag : again.length ≤ 140737488351232) :
    Calls Try.prog 3 #[v, sv, .int .i64 n, .int .u64 keep, .string ⟨again.toArray⟩] w (Gives (.bool true) w) := by
  obtain ⟨A, c, rfl, hv2, hv3⟩ := hv.len
  have hv3 : c ≤ 9223372036854775807 := hv3
  obtain ⟨A3, c3, rfl, hs2, hs3⟩ := hs.len
  have HV := Lib.hid hv
  have HOK := Lib.hid hok
  have HSY := Lib.hid hs
  clear hv hok hs
  obtain ⟨m, hm1, hm2, hm3⟩ : ∃ m, m ≤ 20 ∧ m ≤ l.length ∧ m = min l.length 20 := ⟨min l.length 20, by omega, by omega, rfl⟩
  have hmin : (if (20 : Int) < (l.length : Int) then (20 : Int) else (l.length : Int)) = (m : Int) := by split <;> omega
  have hmc : m ≤ c := by omega
  have HM := Lib.hid hm3
  clear hm3
  go_enter Try.func3, Try.ntmps3
  go_wp2_with fail
  refine (lalive_any w).mono ?_
  rintro e w1 ⟨rfl, hb1⟩
  have HB1 := Lib.hid hb1
  clear hb1
  go_wp2_with fail
  obtain ⟨w2, hw2⟩ : ∃ x, w1.alloc (.cells #[.int .i64 0, .slice A m c, .int .i64 0, .int .u64 0, .slice none 0 0] 29) = x := ⟨_, rfl⟩
  have htl : (l.take m).length = m := by rw [List.length_take]; omega
  have hcal := one_cal w1 A c (l.take m) (by rw [htl]; exact ((HV.out.below HB1.out).more HB1.out.size).take m hm2)
  rw [htl, hw2] at hcal
  rw [hw2]
  have hb2 : Below w1.heap.size w1 w2 := by rw [← hw2]; exact (Below.refl _ _).alloc (Nat.le_refl _) _
  have hz2 : w2.heap.size = w1.heap.size + 1 := by rw [← hw2]; simp
  rw [← hz2] at hcal
  refine (great9_any _ _ w2 hcal (fun p hp => by rw [List.mem_singleton] at hp; subst hp; exact ⟨fun q hq => HOK.out q (List.mem_of_mem_take hq), by simp⟩)).mono ?_
  rintro e w3 ⟨gr, rfl, hb3, hsm⟩
  have HB3 := Lib.hid (HB1.out.trans ((hb2.mono HB1.out.size).trans (hb3.mono (by have := HB1.out.size; omega))))
  clear hcal hw2 hb2 hb3 hz2 hmin
  by_cases hgo : gr = true ∨ 20 < l.length ∨ ss.length < l.length ∨ 4096 < again.length
  · rcases hgo with hg | hg | hg | hg
    · subst hg
      clear hsm
      go_wp2_with fail
      go_ret
      exact ⟨rfl, HB3.out⟩
    all_goals clear hsm
    all_goals by_cases h20 : 20 < l.length
    all_goals by_cases h21 : ss.length < l.length
    all_goals cases gr
    all_goals first
      | (go_wp2_with fail; go_ret; exact ⟨rfl, HB3.out⟩)
      | (exfalso; omega)
  · obtain rfl : gr = false := by cases gr; rfl; exact absurd (.inl rfl) hgo
    have hlen : l.length ≤ 20 := by omega
    have hssl : l.length ≤ ss.length := by omega
    have hagl : again.length ≤ 4096 := by omega
    obtain ⟨_, hlb⟩ := small_one (hsm rfl)
    rw [List.take_of_length_le (by have := HM.out; omega)] at hlb
    have hfl := flat_bytes l (by omega)
    obtain ⟨f, hf⟩ : ∃ x, flat l = x := ⟨_, rfl⟩
    rw [hf] at hfl
    have hf10 : f.length ≤ 8600 := by omega
    have HF := Lib.hid hf
    have hd1 : decide ((20 : Int) < (l.length : Int)) = false := decide_eq_false (by omega)
    have hd2 : decide ((ss.length : Int) < (l.length : Int)) = false := decide_eq_false (by omega)
    have hd3 : decide ((4096 : Int) < (again.length : Int)) = false := decide_eq_false (by omega)
    clear hsm hfl hf hgo HM
    go_wp2_with fail
    refine (new_dks 200 w3 (by omega) (by omega)).mono ?_
    rintro e w4 ⟨g, S, rfl, hd, hS, hb4⟩
    have HD := Lib.hid hd
    have HS := Lib.hid (show ∀ j, S j → w.heap.size ≤ j from fun j hj => Nat.le_trans HB3.out.size (hS j hj))
    have HB4 := Lib.hid (HB3.out.trans (hb4.mono HB3.out.size))
    clear hd hS hb4 hd1 hd2 hd3
    go_wp2_with fail
    refine (open_lay g 0 [108] [] S (newD 200) w4 HD.out rfl (by simp) (by simp [newD, pagesF, getF]) (by omega) lay_nil).mono ?_
    intro e w5 ho5
    obtain ⟨la, v5, T5, rfl, _, hc5, _, _, _, _⟩ := ho5.calm (k := 0) (room := 200) HS.out HB4.out lay_nil (new_roomy (room := 200) (by omega)) (by omega)
    have HC5 := Lib.hid hc5
    clear ho5 hc5 HD HS HB4
    go_wp2_with fail
    refine (arm_dks g 12 T5 (newD 200) w5 n keep HC5.out.disk hn hkp).mono ?_
    rintro e w6 hm6
    obtain rfl := hm6.1
    have hr6 : Runs9 w la g 12 [108] [] 0 (armD (newD 200) n keep) (since T5 w5 w6) w6 := by
      have h := Dry.made HC5.out.dry hm6
      exact ⟨h.disk, HC5.out.log.apart hm6.2.2, h.low, HC5.out.lowl, h.below, (going_new 200 [108]).arm n keep, rfl⟩
    have HR6 := Lib.hid hr6
    clear hm6 hr6 HC5
    go_wp2_with fail
    go_loopw [14, 15, 16, 64] (fun ev mv fv i wr => ∃ (k sf : Nat) (D : Dsk) (T : Nat → Prop), ev = .int .i64 0 ∧ mv = .int .i64 k ∧ fv = .int .i64 sf ∧ i = .int .i64 k ∧ k ≤ l.length ∧ sf ≤ k ∧ Hid (Runs9 w la g (12 + 10004 * k) [108] (flat (l.take k)) (flat (l.take sf)).length D T wr)) (fun _ _ _ i _ => l.length - (intOf i).toNat)
    case atStart => exact ⟨0, 0, armD (newD 200) n keep, _, rfl, rfl, rfl, rfl, by omega, by omega, HR6.out⟩
    case round =>
      obtain ⟨k, sf, D, T, rfl, rfl, rfl, rfl, hk, hsk, hru⟩ := hrel
      clear HR6
      by_cases hlt : k < l.length
      case' pos =>
        have hlow := hru.out.below.size
        obtain ⟨b2, off2, c2', e2, _, _, hB2, hat⟩ := (HV.out.below hru.out.below).at (by omega)
        injection e2 with e2 _ e3
        subst e2 e3
        have d0 := hat k hlt
        obtain ⟨b3, off3, e3, hB3, d1⟩ := HSY.out.at (show k < ss.length by omega)
        subst e3
        obtain ⟨x, hx⟩ : ∃ x, l[k] = x := ⟨_, rfl⟩
        have hft := flat_take l k hlt
        have hfm := flat_mono l (k + 1) l.length (by omega)
        rw [List.take_length, HF.out, hft, List.length_append] at hfm
        rw [hx] at d0 hft hfm
        have hfge := frm_ge x
        obtain ⟨t, ht⟩ : ∃ y, flat (l.take k) = y := ⟨_, rfl⟩
        rw [ht] at hru hft hfm
        have HFT := Lib.hid hft
        have hfr : -1000000000 ≤ freeD D ∧ freeD D ≤ 1000000000 := by have h1 := hru.out.going.count; have h2 := hru.out.room; unfold freeD; unfold needP at h1; omega
        have hpc : (pagesF D.now [108]).length ≤ 1000000000 := by rw [hru.out.going.lay.2]; unfold needP; omega
        have hroom : needP (t.length + (frm x).length) ≤ 200 := by unfold needP; omega
        have hnd : 4 * (needP (t.length + (frm x).length) + 2) ≤ 10000 := by omega
        have htp : 0 < (t ++ frm x).length := by rw [List.length_append]; omega
        clear hat hx hft ht
        obtain ⟨sy, hsy⟩ : ∃ y, ss[k] = y := ⟨_, rfl⟩
        rw [hsy] at d1
        clear hsy
        go_wp2_with fail
        obtain ⟨w9, hw9⟩ : ∃ y, wr.alloc (.cells #[.string ⟨x.toArray⟩] 9) = y := ⟨_, rfl⟩
        have hs9 : Strs w9 w9.heap.size (.slice (some ⟨wr.heap.size, 0, none⟩) 1 1) [x] := by
          have := one_strs wr x 9
          rw [← hw9, asz]
          exact this
        have HR9 := Lib.hid (hru.out.over (W' := w9) (by rw [← hw9]; exact (Below.refl _ _).alloc (Nat.le_refl _) _))
        rw [hw9]
        clear hw9
        refine (append_l la g (12 + 10004 * k) (12 + 10004 * k + 10000) [108] t _ [x] T D w9 HR9.out.log HR9.out.disk (by simp) hs9 (by rw [flat_one]; omega) hpc hfr (by rw [flat_one]; omega) (by omega)).mono ?_
        rw [flat_one]
        intro e W hm
        have he := hm.1
        have hout := HR9.out.append (by omega) hroom hm
        clear hm hs9
        rcases hout with ⟨ha, T1, hr1⟩ | ⟨ha, T1, hp1⟩
        case' inr =>
          rw [ha] at he
          subst he
          rw [← HFT.out] at hp1
          obtain ⟨mk, N', D', T', hmk, hmk1, hmk2, hN', HP⟩ : ∃ (mk N' : Nat) (D' : Dsk) (T' : Nat → Prop), (k : Int) + 1 = (mk : Int) ∧ sf ≤ mk ∧ mk ≤ l.length ∧ N' ≤ 1000000 ∧ Hid (Past9 w g N' [108] (flat (l.take mk)) (flat (l.take sf)).length D' T' W) := ⟨k + 1, _, _, _, by omega, by omega, by omega, by omega, hp1⟩
          clear hp1 ha
        case' inl =>
          rw [ha] at he
          subst he
          have HR1 := Lib.hid hr1
          have d2 := (hr1.below.cell (p := ⟨b3, off3 + k, none⟩) hB3).trans d1
          clear hr1 ha
          cases sy
          case false =>
            go_wp2_with fail
            go_roundw
            case rel => exact ⟨k + 1, sf, _, T1, rfl, by go_num, rfl, by go_num, by omega, by omega, by unfold Hid; rw [HFT.out]; exact HR1.out.grow (by omega) (by omega)⟩
            case measure => simp [intOf]; omega
          go_wp2_with fail
          refine (sync_l la g _ [108] _ T1 _ W HR1.out.log HR1.out.disk (by simp) (by omega)).mono ?_
          intro e W hm
          have he := hm.1
          have hout := HR1.out.sync htp hm
          clear hm
          rcases hout with ⟨ha, hr2⟩ | ⟨ha, hp2⟩
          case inl =>
            rw [ha] at he
            subst he
            have HR2 := Lib.hid hr2
            clear hr2 ha
            go_wp2_with fail
            go_roundw
            case rel => exact ⟨k + 1, k + 1, _, _, rfl, by go_num, by go_num, by go_num, by omega, by omega, by unfold Hid; rw [HFT.out]; exact HR2.out.grow (by omega) (by omega)⟩
            case measure => simp [intOf]; omega
          rw [ha] at he
          subst he
          rw [← HFT.out] at hp2
          obtain ⟨mk, N', D', T', hmk, hmk1, hmk2, hN', HP⟩ : ∃ (mk N' : Nat) (D' : Dsk) (T' : Nat → Prop), (k : Int) + 1 = (mk : Int) ∧ sf ≤ mk ∧ mk ≤ l.length ∧ N' ≤ 1000000 ∧ Hid (Past9 w g N' [108] (flat (l.take mk)) (flat (l.take sf)).length D' T' W) := ⟨k + 1, _, _, _, by omega, by omega, by omega, by omega, hp2⟩
          clear hp2 ha HR1 d2
        all_goals clear HR9 d0 d1 hfr hpc hroom hnd htp hfge hfm HFT
      case' neg =>
        have hji : (l.length : Int) ≤ k := by omega
        obtain ⟨W, hW⟩ : ∃ x, x = wr := ⟨wr, rfl⟩
        subst hW
        obtain ⟨mk, N', D', T', hmk, hmk1, hmk2, hN', HP⟩ : ∃ (mk N' : Nat) (D' : Dsk) (T' : Nat → Prop), (k : Int) = (mk : Int) ∧ sf ≤ mk ∧ mk ≤ l.length ∧ N' ≤ 1000000 ∧ Hid (Past9 w g N' [108] (flat (l.take mk)) (flat (l.take sf)).length D' T' W) := ⟨k, _, D, T, rfl, by omega, by omega, by omega, hru.out.past⟩
      all_goals
        clear hru hsk
        go_wp2_with fail
        refine (off_dks g _ _ _ _ keep HP.out.dry.disk hkp).mono ?_
        rintro e W2 hm2
        obtain rfl := hm2.1
        obtain ⟨hgn, hrm⟩ := HP.out.lose keep
        have HY2 := Lib.hid (HP.out.dry.made hm2)
        obtain ⟨D2, hD2⟩ : ∃ y, lose D' keep = y := ⟨_, rfl⟩
        obtain ⟨T2, hT2⟩ : ∃ y, since T' W W2 = y := ⟨_, rfl⟩
        rw [hD2] at hgn hrm HY2
        rw [hT2] at HY2
        have HGN := Lib.hid hgn
        have HRM := Lib.hid hrm
        clear hm2 hD2 hT2 HP hgn hrm
        go_wp2_with fail
        refine (on_dks g _ _ _ _ HY2.out.disk).mono ?_
        rintro e W3 hm3
        obtain rfl := hm3.1
        have HY3 := Lib.hid (HY2.out.made hm3)
        obtain ⟨T3, hT3⟩ : ∃ y, since T2 W2 W3 = y := ⟨_, rfl⟩
        rw [hT3] at HY3
        clear hm3 HY2 hT3
        go_wp2_with fail
        refine (arm_dks g _ _ _ _ 0 0 HY3.out.disk (by omega) (by omega)).mono ?_
        rintro e W4 hm4
        obtain rfl := hm4.1
        have HY4 := Lib.hid (HY3.out.made hm4)
        obtain ⟨T4, hT4⟩ : ∃ y, since T3 W3 W4 = y := ⟨_, rfl⟩
        rw [hT4] at HY4
        clear hm4 HY3 hT4
        have hfm := flat_mono l mk l.length (by omega)
        rw [List.take_length, HF.out] at hfm
        have hpc : (pagesF (armD (onD D2) 0 0).now [108]).length ≤ 2000 := by
          have h1 : (pagesF (armD (onD D2) 0 0).now [108]).length ≤ needP (flat (l.take mk)).length := HGN.out.count
          unfold needP at h1
          omega
        have HO := Lib.hid (open_l g N' [108] T4 (armD (onD D2) 0 0) W4 HY4.out.disk rfl (by simp) hpc (by omega))
        clear hpc hfm
        go_wp2_with fail
        refine HO.out.mono ?_
        intro e W5 ho
        obtain ⟨kk, lb, v9, T5, D5, kk1, kk2, rfl, hh5, hc5⟩ := gone_opened HGN.out HRM.out hmk1 hmk2 (by rw [HF.out]; omega) HY4.out ho
        obtain ⟨got, hgot⟩ : ∃ y, l.take kk = y := ⟨_, rfl⟩
        have hgl : got.length = kk := by rw [← hgot, List.length_take]; omega
        have hgf : (flat got).length ≤ 8600 := by
          have h1 := flat_mono l kk l.length (by omega)
          rw [List.take_length, HF.out, hgot] at h1
          omega
        have hsv := ((HV.out.below hc5.below).more hc5.below.size).take kk (by omega)
        rw [hgot] at hh5 hc5 hsv
        have HS5 := Lib.hid (same_any _ _ got got W5 hh5.own.strs hsv)
        obtain ⟨A5, c5, rfl, h51, h52⟩ := hh5.own.strs.len
        have h52 : c5 ≤ 9223372036854775807 := h52
        have hdt : decide (got = got) = true := by simp
        have hg1 : (sf : Int) ≤ (got.length : Int) := by omega
        have hg2 : (got.length : Int) ≤ (mk : Int) := by omega
        have hg3 : got.length ≤ c := by omega
        have hg4 : got.length ≤ l.length := by omega
        have HC5 := Lib.hid hc5
        have HH5 := Lib.hid hh5
        rw [hgl] at HS5 HH5
        clear ho hh5 hc5 hsv HO HGN HRM HY4 hgot kk1 kk2
        go_wp2_with fail
        refine HS5.out.mono ?_
        rintro e W6 ⟨rfl, hb6⟩
        have HC6 := Lib.hid (HC5.out.over hb6)
        have HH6 := Lib.hid (HH5.out.over hb6)
        clear hb6 HC5 HH5 HS5
        have hcnt : (pagesF D5.now [108]).length ≤ 2000 := by
          have h1 := HC6.out.count
          unfold needP at h1
          omega
        have HO6 := Lib.hid (open_lay g (N' + 12) [108] got T5 D5 W6 HC6.out.disk HC6.out.roomy.off (by simp) hcnt (by omega) HC6.out.lay)
        clear hcnt
        go_wp2_with fail
        refine HO6.out.mono ?_
        intro e W7 ho
        obtain ⟨lc, v7, T7, rfl, hv7, hc7, hap7, ht7, hll7, haw7⟩ := ho.calm HC6.out.low HC6.out.below HC6.out.lay HC6.out.roomy HC6.out.fits
        have hh7 := HH6.out.opened hap7 ht7 hll7
        have HS7 := Lib.hid (same_any _ _ got got W7 hv7.strs hh7.own.strs)
        obtain ⟨A7, c7, rfl, h71, h72⟩ := hv7.strs.len
        have h72 : c7 ≤ 9223372036854775807 := h72
        rw [hgl] at HS7
        have HC7 := Lib.hid hc7
        have HH7 := Lib.hid hh7
        clear ho hv7 hc7 hap7 ht7 hll7 haw7 hh7 HC6 HH6 HO6
        go_wp2_with fail
        refine HS7.out.mono ?_
        rintro e W8 ⟨rfl, hb8⟩
        have HC8 := Lib.hid (HC7.out.over hb8)
        have HH8 := Lib.hid (HH7.out.over hb8)
        clear hb8 HC7 HH7 HS7
        go_wp2_with fail
        obtain ⟨W9, hW9⟩ : ∃ y, W8.alloc (.cells #[.string ⟨again.toArray⟩] 9) = y := ⟨_, rfl⟩
        have hs9 : Strs W9 W9.heap.size (.slice (some ⟨W8.heap.size, 0, none⟩) 1 1) [again] := by
          have := one_strs W8 again 9
          rw [← hW9, asz]
          exact this
        have hb9 : Below W8.heap.size W8 W9 := by rw [← hW9]; exact (Below.refl _ _).alloc (Nat.le_refl _) _
        have HC9 := Lib.hid (HC8.out.over hb9)
        have HH9 := Lib.hid (HH8.out.over hb9)
        rw [hW9]
        have hfa := frm_le again (by omega)
        clear hb9 hW9 HC8 HH8
        refine (append_ok (N' + 40000) HC9.out _ [again] hs9 (by simp) (by omega) (by rw [flat_one]; omega) (by omega) (by omega) (by rw [flat_one]; unfold needP; omega)).mono ?_
        rintro e W10 ⟨rfl, _, _, _, T10, hc10, hap10, ht10⟩
        have HH10 := Lib.hid (HH9.out.call hap10 ht10)
        obtain ⟨all, hall⟩ : ∃ y, got ++ [again] = y := ⟨_, rfl⟩
        rw [← flat_append, hall] at hc10
        have hal : 0 < (flat all).length ∧ (flat all).length ≤ 20000 := by
          have h1 := flat_ge all
          rw [← hall, List.length_append] at h1
          simp only [List.length_cons, List.length_nil] at h1
          refine ⟨by rw [← hall]; omega, ?_⟩
          rw [← hall, flat_append, flat_one, List.length_append]
          omega
        obtain ⟨hal1, hal2⟩ := hal
        obtain ⟨D10, hD10⟩ : ∃ y, (appendD D5 [108] (flat got) (flat [again])).1 = y := ⟨_, rfl⟩
        obtain ⟨k10, hk10⟩ : ∃ y, needP (flat got).length + (needP ((flat got).length + (flat [again]).length) - needP (flat got).length) = y := ⟨_, rfl⟩
        rw [hD10, hk10] at hc10
        have HC10 := Lib.hid hc10
        clear hc10 hap10 ht10 HC9 HH9 hs9 hD10 hk10
        go_wp2_with fail
        refine (lsync_ok HC10.out (by simp) (by omega)).mono ?_
        rintro e W11 ⟨rfl, hs11, _, hc11, hap11⟩
        have HH11 := Lib.hid (HH10.out.made hap11)
        have hps := (hs11 hal1).1
        obtain ⟨T11, hT11⟩ : ∃ y, since T10 W10 W11 = y := ⟨_, rfl⟩
        obtain ⟨D11, hD11⟩ : ∃ y, (syncD D10 [108]).1 = y := ⟨_, rfl⟩
        rw [hD11] at hps hc11
        rw [hT11] at hc11 HH11
        have hlay : Lay (pagesF (onD (lose D11 0)).now [108]) (flat all) := by
          show Lay (pagesF (lose D11 0).now [108]) _
          rw [lose_zero hc11.roomy.off, hps]
          exact HC10.out.lay
        have HLAY := Lib.hid hlay
        have HY11 := Lib.hid hc11.dry
        clear hs11 hc11 hap11 hps hT11 hD11 hlay HC10 HH10
        go_wp2_with fail
        refine (off_dks g _ _ _ _ 0 HY11.out.disk (by omega)).mono ?_
        rintro e W12 hm12
        obtain rfl := hm12.1
        have HY12 := Lib.hid (HY11.out.made hm12)
        have HH12 := Lib.hid (HH11.out.made hm12.2.2)
        obtain ⟨T12, hT12⟩ : ∃ y, since T11 W11 W12 = y := ⟨_, rfl⟩
        rw [hT12] at HY12 HH12
        clear hm12 HY11 HH11 hT12
        go_wp2_with fail
        refine (on_dks g _ _ _ _ HY12.out.disk).mono ?_
        rintro e W13 hm13
        obtain rfl := hm13.1
        have HY13 := Lib.hid (HY12.out.made hm13)
        have HH13 := Lib.hid (HH12.out.made hm13.2.2)
        obtain ⟨T13, hT13⟩ : ∃ y, since T12 W12 W13 = y := ⟨_, rfl⟩
        rw [hT13] at HY13 HH13
        clear hm13 HY12 HH12 hT13
        have hcnt : (pagesF (onD (lose D11 0)).now [108]).length ≤ 2000 := by
          rw [HLAY.out.2]
          unfold needP
          omega
        have HO13 := Lib.hid (open_lay g _ [108] all T13 (onD (lose D11 0)) W13 HY13.out.disk rfl (by simp) hcnt (by omega) HLAY.out)
        clear hcnt
        go_wp2_with fail
        refine HO13.out.mono ?_
        rintro e W14 ⟨ld, v14, T14, rfl, hv14, _, _, ht14, hap14, hll14, _⟩
        have hB14 := HY13.out.below.trans (hap14.low HY13.out.below.size HY13.out.low)
        have hh14 := HH13.out.opened hap14 ht14 hll14
        obtain ⟨A14, c14, rfl, h141, h142⟩ := hv14.strs.len
        have h142 : c14 ≤ 9223372036854775807 := h142
        have HV14 := Lib.hid hv14
        have HB14 := Lib.hid hB14
        have HH14 := Lib.hid hh14
        clear hv14 hap14 ht14 hll14 hB14 hh14 HY13 HH13 HO13 HLAY
        have hba : Below W14.heap.size W14 (W14.alloc (.cells #[] 9)) := (Below.refl _ _).alloc (Nat.le_refl _) _
        have hn14 := HH14.out.own.strs.below hba
        have ho14 := owns_new W14 W14.heap.size (Nat.le_refl _)
        have hm14 : ([] : List (List UInt8)).length + got.length ≤ 8796093022208 := by simp only [List.length_nil]; omega
        have hz14 : W14.heap.size ≤ (W14.alloc (.cells #[] 9)).heap.size := hba.size
        go_wp2_with (at_builtin; refine wp_append_wanted rfl _ _ rfl W14.heap.size _ [] rfl ho14 hz14 _ W14.heap.size got rfl hn14 hm14 ?_)
        clear hba hn14 ho14 hm14 hz14
        intro v15 W15 ho15 hb15
        have hb145 : Below W14.heap.size W14 W15 := ((Below.refl W14.heap.size W14).alloc (Nat.le_refl _) _).trans hb15
        have HO15 := Lib.hid ho15
        have HB15 := Lib.hid hb145
        clear ho15 hb15 hb145
        have hn15 := one_strs W15 again 9
        have ho15 := HO15.out.alloc (.cells #[.string ⟨again.toArray⟩] 9)
        have hm15 : ([] ++ got).length + [again].length ≤ 8796093022208 := by simp only [List.nil_append, List.length_cons, List.length_nil]; omega
        have hz15 : W14.heap.size ≤ (W15.alloc (.cells #[.string ⟨again.toArray⟩] 9)).heap.size := by have := HB15.out.size; rw [asz]; omega
        go_wp2_with (at_builtin; refine wp_append_wanted rfl _ _ rfl W14.heap.size _ _ rfl ho15 hz15 _ (W15.heap.size + 1) [again] rfl hn15 hm15 ?_)
        clear hn15 ho15 hm15 hz15
        intro v16 W16 ho16 hb16
        have hb146 : Below W14.heap.size W14 W16 := HB15.out.trans ((((Below.refl W15.heap.size W15).alloc (Nat.le_refl _) _).mono HB15.out.size).trans hb16)
        have HS16 := Lib.hid (same_any _ _ all all W16 ((HV14.out.strs.below hb146).more hb146.size) ho16.strs)
        have HB16 := Lib.hid (HB14.out.trans (hb146.mono HB14.out.size))
        clear ho16 hb16 hb146
        go_wp2_with fail
        refine HS16.out.mono ?_
        rintro e W17 ⟨rfl, hb17⟩
        have HB17 := Lib.hid (HB16.out.trans (hb17.mono HB16.out.size))
        have hda : decide (all = all) = true := by simp
        clear hb17
        go_wp2_with fail
        go_ret
        exact ⟨by simp, HB17.out⟩

theorem ll_walk (v : Value) (l : List (List UInt8)) (sv : Value) (ss : List Bool) (n : Int) (k : Int) (again : ByteArray) (w : World) (h : Strs w w.heap.size v l ∧ ∀ p ∈ l, p.length ≤ 140737488351232) (hs : Flat Value.bool w w.heap.size sv ss) (hn : (Lit.int .i64 n).wf = true) (hk : (Lit.int .u64 k).wf = true) (ha : again.size ≤ 140737488351232) :
    Calls Try.prog 3 #[v, sv, .int .i64 n, .int .u64 k, .string again] w (Gives (.bool true) w) := by
  obtain ⟨al, rfl⟩ : ∃ al : List UInt8, again = ⟨al.toArray⟩ := ⟨again.data.toList, by simp⟩
  obtain ⟨_, h2⟩ := bounds_i64 hn
  obtain ⟨h3, h4⟩ := bounds_u64 hk
  obtain ⟨j, rfl⟩ := Int.eq_ofNat_of_zero_le h3
  exact ll_main v sv l ss n j al w h.1 h.2 hs (by omega) (by omega) ha

end Go.Proofs.Ytoajfnkhonegnaa.Cd

namespace Go.Proofs.Ytoajfnkhonegnaa.LogLoses
open Go.RowKit Go.Proofs.Ytoajfnkhonegnaa.Cd

theorem walk (v : Value) (l : List (List UInt8)) (sv : Value) (ss : List Bool) (n : Int) (k : Int) (again : ByteArray) (w : World) (h : Cd.Strs w w.heap.size v l ∧ ∀ p ∈ l, p.length ≤ 140737488351232) (hs : Cd.Flat Value.bool w w.heap.size sv ss) (hn : (Lit.int .i64 n).wf = true) (hk : (Lit.int .u64 k).wf = true) (ha : again.size ≤ 140737488351232) : Calls Try.prog 3 #[v, sv, .int .i64 n, .int .u64 k, .string again] w (Gives (.bool true) w) :=
  ll_walk v l sv ss n k again w h hs hn hk ha

end Go.Proofs.Ytoajfnkhonegnaa.LogLoses
