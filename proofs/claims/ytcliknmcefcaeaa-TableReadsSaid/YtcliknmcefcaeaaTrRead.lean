/-
  A table read from bytes: in plain Lean; areNoughts, writesOf, Read. Conditions: not too many bytes.
-/
import Derived.Test.YtcliknmcefcaeaaTbBytes
import Derived.Test.YtcliknmcefcaeaaFrameMath
import Derived.Test.YtcliknmcefcaeaaMathE
import Derived.Test.YtcliknmcefcaeaaPut
import Derived.Test.YtcliknmcefcaeaaReads
import Derived.Test.YtcliknmcefcaeaaTbPut
import Derived.Test.YtcliknmcefcaeaaSplit
namespace Go.Proofs.Ytcliknmcefcaeaa.Cd

/-- A write as it is read: the number ahead of it, its key, its value. -/
structure Ent where
  u : Nat
  k : List UInt8
  v : List UInt8

def rawE (e : Ent) : List UInt8 := (enc e.u ++ (enc e.k.length ++ e.k)) ++ (enc e.v.length ++ e.v)
def rawF (Q : List Ent) : List UInt8 := (Q.map rawE).flatten
def rawS (Q : List Ent) : List UInt8 := enc Q.length ++ rawF Q
def LimE (mk mv : Nat) (e : Ent) : Prop := e.u < 18446744073709551616 ∧ e.k.length ≤ mk ∧ e.v.length ≤ mv
def LimQ (mk mv : Nat) (Q : List Ent) : Prop := ∀ e ∈ Q, LimE mk mv e
def toW (e : Ent) : Wr := ⟨e.k, e.v, e.u == 1⟩
def ofE (p : Wr) : Ent := ⟨goneB p.2.2, p.1, p.2.1⟩
def LimT (mk mv : Nat) (T : List Wr) : Prop := ∀ p ∈ T, p.1.length ≤ mk ∧ p.2.1.length ≤ mv

theorem toW_ofE (p : Wr) : toW (ofE p) = p := by
  obtain ⟨k, v, g⟩ := p
  cases g <;> rfl
theorem rawE_of (p : Wr) : rawE (ofE p) = wrB p := rfl
theorem rawF_cons (e : Ent) (Q : List Ent) : rawF (e :: Q) = rawE e ++ rawF Q := by simp [rawF]
theorem rawF_append (P Q : List Ent) : rawF (P ++ Q) = rawF P ++ rawF Q := by simp [rawF]
theorem rawF_nil : rawF [] = [] := rfl
theorem rawS_of (T : List Wr) : rawS (T.map ofE) = recW T := by
  unfold rawS rawF recW
  rw [List.length_map, List.map_map]
  rfl
theorem lim_of {mk mv : Nat} {T : List Wr} (h : LimT mk mv T) : LimQ mk mv (T.map ofE) := fun e he => by
  obtain ⟨p, hp, rfl⟩ := List.mem_map.1 he
  have h1 := h p hp
  have h2 := goneB_lt p.2.2
  exact ⟨by show goneB p.2.2 < _; omega, h1.1, h1.2⟩
theorem map_of (T : List Wr) : (T.map ofE).map toW = T := by
  rw [List.map_map]
  conv => rhs; rw [← List.map_id T]
  exact List.map_congr_left fun p _ => toW_ofE p

/-- What one write's reading comes to. -/
def stU (b : List UInt8) : Nat := nv b
def stK (mk : Nat) (b : List UInt8) : List UInt8 := txV mk (uB b)
def stV (mk mv : Nat) (b : List UInt8) : List UInt8 := txV mv (txB mk (uB b))
def stB (mk mv : Nat) (b : List UInt8) : List UInt8 := txB mv (txB mk (uB b))
def stX (mk mv : Nat) (b : List UInt8) : Bool := txX mv (txB mk (uB b))

theorem txX_nil (m : Int) : txX m [] = true := by
  unfold txX
  exact decide_eq_true (.inl bad_nil)
theorem st_good {mk mv : Nat} {b : List UInt8} (h : stX mk mv b = false) : uX b = false ∧ txX mk (uB b) = false := by
  unfold stX at h
  have h2 : txX mk (uB b) = false := by
    cases hx : txX mk (uB b) with
    | false => rfl
    | true =>
      have hb : txB mk (uB b) = [] := by
        unfold txX at hx
        unfold txB
        rw [if_pos (of_decide_eq_true hx)]
      rw [hb, txX_nil] at h
      cases h
  refine ⟨?_, h2⟩
  cases hx : uX b with
  | false => rfl
  | true =>
    have hb : uB b = [] := by
      unfold uX at hx
      unfold uB
      rw [if_pos (of_decide_eq_true hx)]
    rw [hb, txX_nil] at h2
    cases h2
theorem txV_most {m : Int} {b : List UInt8} (h : txX m b = false) : ((txV m b).length : Int) ≤ m := by
  unfold txX at h
  have h := of_decide_eq_false h
  unfold txV
  rw [if_neg h]
  have h2 : ¬ (m < (nv b : Nat)) := fun h2 => h (.inr (.inr (.inl h2)))
  have := List.length_take_le (nv b) (b.drop (ns b))
  omega
theorem st_read {mk mv : Nat} {b : List UInt8} (h : stX mk mv b = false) : b = rawE ⟨stU b, stK mk b, stV mk mv b⟩ ++ stB mk mv b ∧ (stK mk b).length ≤ mk ∧ (stV mk mv b).length ≤ mv := by
  obtain ⟨h1, h2⟩ := st_good h
  have h3 : txX mv (txB mk (uB b)) = false := h
  have e1 := one_u h1
  have e2 := one_tx h2
  have e3 := one_tx h3
  have m2 := txV_most h2
  have m3 := txV_most h3
  refine ⟨?_, by show (txV mk (uB b)).length ≤ mk; omega, by show (txV mv (txB mk (uB b))).length ≤ mv; omega⟩
  unfold rawE stU stK stV stB
  dsimp only
  rw [List.append_assoc, e3, List.append_assoc, e2, e1]
theorem st_of {mk mv : Nat} (hmk : mk < 18446744073709551616) (hmv : mv < 18446744073709551616) {e : Ent} (h : LimE mk mv e) (t : List UInt8) : stU (rawE e ++ t) = e.u ∧ stK mk (rawE e ++ t) = e.k ∧ stV mk mv (rawE e ++ t) = e.v ∧ stB mk mv (rawE e ++ t) = t ∧ stX mk mv (rawE e ++ t) = false := by
  obtain ⟨h1, h2, h3⟩ := h
  have e1 : rawE e ++ t = enc e.u ++ (enc e.k.length ++ (e.k ++ (enc e.v.length ++ (e.v ++ t)))) := by simp [rawE]
  have hu := uB_enc h1 (enc e.k.length ++ (e.k ++ (enc e.v.length ++ (e.v ++ t))))
  have hn := nv_enc h1 (enc e.k.length ++ (e.k ++ (enc e.v.length ++ (e.v ++ t))))
  have hk := tx_all (enc e.v.length ++ (e.v ++ t)) e.k (by omega) mk (by omega)
  have hv := tx_all t e.v (by omega) mv (by omega)
  unfold stU stK stV stB stX
  rw [e1, hu, hn, hk.1, hk.2.1, hv.1, hv.2.1, hv.2.2]
  exact ⟨rfl, rfl, rfl, rfl, rfl⟩

/-- What was read so far is how any whole reading begins. -/
theorem raw_prefix {mk mv : Nat} (hmk : mk < 18446744073709551616) (hmv : mv < 18446744073709551616) : ∀ (P : List Ent) {Q : List Ent} {cur : List UInt8}, LimQ mk mv P → LimQ mk mv Q → P.length ≤ Q.length → rawF Q = rawF P ++ cur → ∃ R, Q = P ++ R ∧ cur = rawF R ∧ LimQ mk mv R
  | [], Q, cur, _, hq, _, h => ⟨Q, rfl, by rw [h]; rfl, hq⟩
  | e :: P, [], cur, _, _, hl, _ => by simp at hl
  | e :: P, q :: Q, cur, hp, hq, hl, h => by
    rw [rawF_cons, rawF_cons, List.append_assoc] at h
    have a := st_of hmk hmv (hp e (List.mem_cons_self ..)) (rawF P ++ cur)
    have b := st_of hmk hmv (hq q (List.mem_cons_self ..)) (rawF Q)
    rw [h] at b
    have hqe : q = e := by
      obtain ⟨qu, qk, qv⟩ := q
      obtain ⟨eu, ek, ev⟩ := e
      have h1 := b.1.symm.trans a.1
      have h2 := b.2.1.symm.trans a.2.1
      have h3 := b.2.2.1.symm.trans a.2.2.1
      dsimp only at h1 h2 h3
      rw [h1, h2, h3]
    subst hqe
    have hr : rawF Q = rawF P ++ cur := b.2.2.2.1.symm.trans a.2.2.2.1
    obtain ⟨R, rfl, h5, h6⟩ := raw_prefix hmk hmv P (fun x hx => hp x (List.mem_cons_of_mem _ hx)) (fun x hx => hq x (List.mem_cons_of_mem _ hx)) (by simpa using hl) hr
    exact ⟨R, rfl, h5, h6⟩
theorem raw_uniq {mk mv : Nat} (hmk : mk < 18446744073709551616) (hmv : mv < 18446744073709551616) {P Q : List Ent} (hp : LimQ mk mv P) (hq : LimQ mk mv Q) (lp : P.length < 18446744073709551616) (lq : Q.length < 18446744073709551616) (h : rawS P = rawS Q) : P = Q := by
  unfold rawS at h
  have h1 := nv_enc lp (rawF P)
  have h2 := nv_enc lq (rawF Q)
  have u1 := uB_enc lp (rawF P)
  have u2 := uB_enc lq (rawF Q)
  rw [h] at h1 u1
  have hl : P.length = Q.length := h1.symm.trans h2
  have hf : rawF Q = rawF P ++ [] := by rw [List.append_nil]; exact u2.symm.trans u1
  obtain ⟨R, hR, hr, _⟩ := raw_prefix hmk hmv P hp hq (by omega) hf
  have : R = [] := by
    have := congrArg List.length hR
    rw [List.length_append] at this
    exact List.length_eq_zero_iff.1 (by omega)
  rw [hR, this, List.append_nil]

/-- s tells of the table T. -/
def IsT (s : List UInt8) (T : List Wr) : Prop := s = recW T ∧ ofW T = T ∧ LimT 48 160 T ∧ T.length < 18446744073709551616
theorem isT_uniq {s : List UInt8} {T U : List Wr} (h : IsT s T) (k : IsT s U) : T = U := by
  have := raw_uniq (by omega) (by omega) (lim_of h.2.2.1) (lim_of k.2.2.1) (by rw [List.length_map]; exact h.2.2.2) (by rw [List.length_map]; exact k.2.2.2) (by rw [rawS_of, rawS_of, ← h.1, ← k.1])
  rw [← map_of T, this, map_of]
theorem ins_mem_lim {mk mv : Nat} {t : List Wr} (h : LimT mk mv t) {w : Wr} (hw : w.1.length ≤ mk ∧ w.2.1.length ≤ mv) : LimT mk mv (insW t w) := fun p hp => by
  rcases mem_ins hp with rfl | hp
  · exact hw
  · exact h p hp
theorem flat_lim {mk mv : Nat} {w : Wr} (hw : w.1.length ≤ mk ∧ w.2.1.length ≤ mv) : (flatG w).1.length ≤ mk ∧ (flatG w).2.1.length ≤ mv := by
  unfold flatG
  split
  · exact ⟨hw.1, by simp⟩
  · exact hw
theorem from_lim {mk mv : Nat} : ∀ (l : List Wr) (t : List Wr), LimT mk mv t → LimT mk mv l → LimT mk mv (ofFrom t l)
  | [], _, h, _ => h
  | w :: l, t, h, hl => from_lim l (insW t (flatG w)) (ins_mem_lim h (flat_lim (hl w (List.mem_cons_self ..)))) (fun p hp => hl p (List.mem_cons_of_mem _ hp))
theorem of_lim {mk mv : Nat} {l : List Wr} (h : LimT mk mv l) : LimT mk mv (ofW l) := from_lim l [] (fun _ h => by cases h) h
/-- What the program asks of what it parsed is what the document asks. -/
theorem tab_of {s : List UInt8} {Q : List Ent} (hq : LimQ 48 160 Q) (hl : Q.length < 18446744073709551616) (hs : s = rawS Q) : recW (ofW (Q.map toW)) = s ↔ IsT s (Q.map toW) := by
  constructor
  · intro h
    have hlt : LimT 48 160 (Q.map toW) := fun p hp => by
      obtain ⟨e, he, rfl⟩ := List.mem_map.1 hp
      exact (hq e he).2
    have hT := of_lim hlt
    have hTl : (ofW (Q.map toW)).length < 18446744073709551616 := Nat.lt_of_le_of_lt (ofW_len _) (by rw [List.length_map]; exact hl)
    have he := raw_uniq (by omega) (by omega) hq (lim_of hT) hl (by rw [List.length_map]; exact hTl) (by rw [← hs, rawS_of, h])
    have h2 : Q.map toW = ofW (Q.map toW) := by
      conv => lhs; rw [he]
      exact map_of _
    refine ⟨?_, h2.symm, hlt, by rw [List.length_map]; exact hl⟩
    rw [h2]
    exact h.symm
  · rintro ⟨h1, h2, _⟩
    rw [h2]
    exact h1.symm
theorem isT_raw {s : List UInt8} {T : List Wr} (h : IsT s T) : ∃ Q, LimQ 48 160 Q ∧ Q.length < 18446744073709551616 ∧ s = rawS Q ∧ Q.map toW = T := ⟨T.map ofE, lim_of h.2.2.1, by rw [List.length_map]; exact h.2.2.2, by rw [rawS_of]; exact h.1, map_of T⟩

/-- Bytes tell of the table T: its record, and noughts. -/
def IsB (b : List UInt8) (T : List Wr) : Prop := ∃ s cur, Splits b [s] cur ∧ (∀ c ∈ cur, c = 0) ∧ IsT s T
theorem isB_uniq {b : List UInt8} (hb : b.length < 18446744073709551616) {T U : List Wr} (h : IsB b T) (k : IsB b U) : T = U := by
  obtain ⟨s, c, h1, _, h2⟩ := h
  obtain ⟨s', c', k1, _, k2⟩ := k
  have := (splits_uniq hb h1 k1).1
  injection this with this
  subst this
  exact isT_uniq h2 k2
theorem no_noughts (n : Nat) : ¬ HasRec (List.replicate n 0) := by
  rintro ⟨x, t, h⟩
  have hz : ∀ c ∈ frm x, c = 0 := fun c hc => List.eq_of_mem_replicate (h ▸ List.mem_append_left t hc)
  have hx : x = [] := by
    have hm : ∀ c ∈ enc x.length, c = 0 := fun c hc => hz c (by unfold frm; simp [hc])
    by_cases hl : x.length < 128
    · rw [enc_lo hl] at hm
      have h1 := congrArg UInt8.toNat (hm _ (List.mem_singleton.2 rfl))
      rw [lo8_nat hl] at h1
      exact List.length_eq_zero_iff.1 h1
    · rw [enc_hi (by omega)] at hm
      have h1 := congrArg UInt8.toNat (hm _ (List.mem_cons_self ..))
      have h2 := hi8_ge x.length
      rw [h1] at h2
      simp at h2
  subst hx
  have h3 : b8 (crc [0]) = 0 := hz _ (by
    unfold frm
    rw [show enc ([] : List UInt8).length = [0] by rw [List.length_nil, enc_lo (by omega)]; rfl]
    simp [le4])
  exact absurd h3 (by decide +kernel)
/-- A table's bytes, and noughts behind them, tell of what its record tells of. -/
theorem isB_of {T U : List Wr} {n : Nat} (hn : (frm (recW T)).length + n < 18446744073709551616) : IsB (frm (recW T) ++ List.replicate n 0) U ↔ IsT (recW T) U := by
  have hs : Splits (frm (recW T) ++ List.replicate n 0) [recW T] (List.replicate n 0) := ⟨by rw [flat_one], no_noughts n⟩
  constructor
  · rintro ⟨s, cur, h1, _, h2⟩
    have := (splits_uniq (by rw [List.length_append, List.length_replicate]; exact hn) h1 hs).1
    injection this with this
    rw [← this]
    exact h2
  · intro h
    exact ⟨_, _, hs, fun c hc => List.eq_of_mem_replicate hc, h⟩
theorem isT_self {T : List Wr} (hT : ofW T = T) (hl : T.length < 18446744073709551616) (hm : LimT 48 160 T) : IsT (recW T) T := ⟨rfl, hT, hm, hl⟩
theorem isT_long {T U : List Wr} (hl : T.length < 18446744073709551616) (hm : LimT 1048576 1048576 T) (h : IsT (recW T) U) : LimT 48 160 T := by
  have hU : LimT 1048576 1048576 U := fun p hp => by have := h.2.2.1 p hp; omega
  have := raw_uniq (by omega) (by omega) (lim_of hm) (lim_of hU) (by rw [List.length_map]; exact hl) (by rw [List.length_map]; exact h.2.2.2) (by rw [rawS_of, rawS_of, ← h.1])
  have hTU : T = U := by rw [← map_of T, this, map_of]
  rw [hTU]
  exact h.2.2.1

end Go.Proofs.Ytcliknmcefcaeaa.Cd

namespace Go.Proofs.Ytcliknmcefcaeaa.Cd
open Go.RowKit

/-- What areNoughts answers. -/
def Zers (w : World) (bs : List UInt8) (e : Ending) (w' : World) : Prop := ∃ z : Bool, e = .returned (.bool z) ∧ w = w' ∧ (z = true ↔ ∀ c ∈ bs, c = 0)

set_option maxRecDepth 100000 in
set_option maxHeartbeats 800000 in
theorem noughts_any (v : Value) (bs : List UInt8) (w : World) (h : Sl w w.heap.size v bs) :
    Calls Try.prog 47 #[v] w (Zers w bs) := by
  obtain ⟨A, c, rfl, h2, h3⟩ := h.len
  have h3 : c ≤ 9223372036854775807 := h3
  have H := Lib.hid h
  clear h
  go_enter Try.func47, Try.ntmps47
  go_wp2_with fail
  go_loopw [7] (fun i wr => ∃ k : Nat, i = .int .i64 k ∧ k ≤ bs.length ∧ Hid (w = wr) ∧ Hid (∀ x ∈ bs.take k, x = 0)) (fun i _ => bs.length - (intOf i).toNat)
  case atStart => exact ⟨0, rfl, by omega, rfl, fun x hx => by simp at hx⟩
  case round =>
    obtain ⟨k, rfl, hk, hw, hz⟩ := hrel
    obtain rfl := hw.out
    by_cases hlt : k < bs.length
    · obtain ⟨b2, off2, c2, e2, _, _, hB2, hat⟩ := H.out.at (by omega)
      injection e2 with e2 _ _
      subst e2
      have d0 := hat k hlt
      have htk : bs.take (k + 1) = bs.take k ++ [bs[k]] := List.take_succ_eq_append_getElem hlt
      obtain ⟨y, hy⟩ : ∃ y, bs[k] = y := ⟨_, rfl⟩
      have hmem : y ∈ bs := hy ▸ List.getElem_mem hlt
      rw [hy] at d0 htk
      obtain ⟨m, hm⟩ : ∃ m, y.toNat = m := ⟨_, rfl⟩
      have HT := Lib.hid htk
      rw [hm] at d0
      clear hat htk
      by_cases h0 : m = 0
      · subst h0
        have hy0 : y = 0 := UInt8.toNat_inj.1 (by rw [hm]; rfl)
        have HZ : Hid (∀ x ∈ bs.take (k + 1), x = 0) := fun x hx => by
          rw [HT.out] at hx
          rcases List.mem_append.1 hx with hx | hx
          · exact hz.out x hx
          · rw [List.mem_singleton.1 hx]; exact hy0
        clear hy0 hm hy hmem HT hz
        go_wp2_with fail
        go_roundw
        case rel => exact ⟨k + 1, by go_num, by omega, True.intro, HZ⟩
        case measure => simp [intOf]; omega
      · have hq : ((m : Int) == 0) = false := by simpa using h0
        have hno : Hid (¬ ∀ x ∈ bs, x = 0) := fun h => h0 (by rw [← hm, h y hmem]; rfl)
        clear hm hy hmem HT hz
        go_wp2_with fail
        go_ret
        exact ⟨false, rfl, rfl, ⟨(fun h => by cases h), fun h => absurd h hno.out⟩⟩
    · have hall : Hid (∀ x ∈ bs, x = 0) := by
        have := hz.out
        rwa [List.take_of_length_le (by omega)] at this
      go_wp2_with fail
      go_ret
      exact ⟨true, rfl, rfl, ⟨fun _ => hall.out, fun _ => rfl⟩⟩

end Go.Proofs.Ytcliknmcefcaeaa.Cd

namespace Go.Proofs.Ytcliknmcefcaeaa.Cd
open Go.RowKit

/-- What writesOf answers. -/
def WritesIs (w : World) (s : List UInt8) (e : Ending) (w' : World) : Prop :=
  ∃ v ok, e = .returned (.tuple #[v, .bool ok]) ∧ Below w.heap.size w w' ∧
    ((ok = true ∧ ∃ Q, LimQ 48 160 Q ∧ Q.length < 18446744073709551616 ∧ s = rawS Q ∧ TbIn w' w'.heap.size v (Q.map toW)) ∨ (ok = false ∧ ∀ Q, LimQ 48 160 Q → Q.length < 18446744073709551616 → s ≠ rawS Q))

theorem rawE_pos (e : Ent) : 1 ≤ (rawE e).length := by
  have := enc_pos e.u
  unfold rawE
  simp only [List.length_append]
  omega
theorem rawF_len (Q : List Ent) : Q.length ≤ (rawF Q).length := by
  induction Q with
  | nil => simp
  | cons e Q ih => rw [rawF_cons, List.length_append, List.length_cons]; have := rawE_pos e; omega

/-- Midway: what was read, and what is left. -/
structure MidQ (s : List UInt8) (Q : List Ent) (cur : List UInt8) : Prop where
  lim : LimQ 48 160 Q
  eq : uX s = false → s = enc (nv s) ++ (rawF Q ++ cur)
  bad : uX s = true → cur = [] ∧ Q = []

section
variable {s cur : List UInt8} {Q : List Ent}
theorem mid_start (s : List UInt8) : MidQ s [] (uB s) := ⟨(fun _ h => by cases h), fun h => (one_u h).symm, fun h => ⟨Sane.u s h, rfl⟩⟩
theorem MidQ.len (h : MidQ s Q cur) : Q.length ≤ s.length ∧ cur.length ≤ s.length := by
  cases hx : uX s with
  | true => obtain ⟨rfl, rfl⟩ := h.bad hx; simp
  | false =>
    have h1 := congrArg List.length (h.eq hx)
    have h2 := rawF_len Q
    simp only [List.length_append] at h1
    omega
theorem MidQ.sane (h : MidQ s Q cur) : Sane (uX s) cur := fun hx => (h.bad hx).1
theorem MidQ.step (h : MidQ s Q cur) (hx : uX s = false) (hg : stX 48 160 cur = false) : MidQ s (Q ++ [⟨stU cur, stK 48 cur, stV 48 160 cur⟩]) (stB 48 160 cur) := by
  obtain ⟨h1, h2, h3⟩ := st_read hg
  refine ⟨fun e he => ?_, fun hx => ?_, fun hb => by rw [hx] at hb; cases hb⟩
  · rcases List.mem_append.1 he with he | he
    · exact h.lim e he
    · rw [List.mem_singleton.1 he]
      exact ⟨nv_u64 _, h2, h3⟩
  · have := h.eq hx
    rw [rawF_append, rawF_cons, rawF_nil, List.append_nil, List.append_assoc, ← h1]
    exact this
theorem MidQ.rest (h : MidQ s Q cur) (hx : uX s = false) (hl : Q.length ≤ nv s) {Q' : List Ent} (hq : LimQ 48 160 Q') (lq : Q'.length < 18446744073709551616) (he : s = rawS Q') : ∃ R, Q' = Q ++ R ∧ cur = rawF R ∧ LimQ 48 160 R ∧ Q'.length = nv s := by
  have h1 := nv_enc lq (rawF Q')
  have h2 := uB_enc lq (rawF Q')
  have h3 := uB_enc (nv_u64 s) (rawF Q ++ cur)
  have hr : rawS Q' = enc Q'.length ++ rawF Q' := rfl
  rw [← hr, ← he] at h1 h2
  rw [← h.eq hx, h2] at h3
  obtain ⟨R, a, b, c⟩ := raw_prefix (by omega) (by omega) Q h.lim hq (by omega) h3
  exact ⟨R, a, b, c, h1.symm⟩
theorem MidQ.none_bad (h : MidQ s Q cur) (hx : uX s = false) (hl : Q.length < nv s) (hg : stX 48 160 cur = true) : ∀ Q', LimQ 48 160 Q' → Q'.length < 18446744073709551616 → s ≠ rawS Q' := fun Q' hq lq he => by
  obtain ⟨R, h1, h2, h3, h4⟩ := h.rest hx (by omega) hq lq he
  cases R with
  | nil => rw [h1, List.append_nil] at h4; omega
  | cons e R =>
    have := (st_of (by omega) (by omega) (h3 e (List.mem_cons_self ..)) (rawF R)).2.2.2.2
    rw [← rawF_cons, ← h2, hg] at this
    cases this
theorem MidQ.last (h : MidQ s Q []) (hx : uX s = false) (hl : Q.length = nv s) : s = rawS Q := by
  have := h.eq hx
  rw [List.append_nil, ← hl] at this
  exact this
theorem MidQ.none_more (h : MidQ s Q cur) (hx : uX s = false) (hl : Q.length = nv s) (hc : cur ≠ []) : ∀ Q', LimQ 48 160 Q' → Q'.length < 18446744073709551616 → s ≠ rawS Q' := fun Q' hq lq he => by
  obtain ⟨R, h1, h2, h3, h4⟩ := h.rest hx (by omega) hq lq he
  rw [h1, List.length_append] at h4
  have : R = [] := List.length_eq_zero_iff.1 (by omega)
  rw [this] at h2
  exact hc h2
theorem none_u (hx : uX s = true) : ∀ Q', LimQ 48 160 Q' → Q'.length < 18446744073709551616 → s ≠ rawS Q' := fun Q' _ lq he => by
  have := uX_enc lq (rawF Q')
  have hr : rawS Q' = enc Q'.length ++ rawF Q' := rfl
  rw [← hr, ← he, hx] at this
  cases this
theorem bad_zero (h : uX s = true) : nv s = 0 := by unfold nv; rw [if_pos (of_decide_eq_true h)]
end

theorem OwnTb.past {w w' : World} {B g : Nat} {v : Value} {l : List Wr} (h : OwnTb w B v l) (hg : w.grownBy w' (some g)) (hlt : g < B) : OwnTb w' B v l :=
  World.ownsRow.kept h hg (.inr fun e => by have := (World.ownsRow.lt h _ e).1; omega)

set_option maxRecDepth 100000 in
set_option maxHeartbeats 3200000 in
theorem writesOf_any (s : List UInt8) (w : World) (hs : s.length ≤ 1048576) :
    Calls Try.prog 48 #[.string ⟨s.toArray⟩] w (WritesIs w s) := by
  go_enter Try.func48, Try.ntmps48
  go_wp2_with (refine wp_bytes_of rfl _ rfl s rfl (by omega) ?_)
  intro g0 c0 w1 hrow hg0 hb1
  have CR := Lib.hid (read_any _ s w1 hrow.sl)
  have HB1 := Lib.hid hb1
  clear hrow hb1 hg0
  go_wp2_with fail
  refine CR.out.mono ?_
  rintro e w2 ⟨rfl, hrd, hb2⟩
  have HB2 := Lib.hid (HB1.out.trans (hb2.mono HB1.out.size))
  have hgw := HB1.out.size
  have hlt2 := hrd.lt
  generalize w1.heap.size = g at *
  have CU := Lib.hid (ruint_any g s false w2 hrd (Sane.start s) (by omega))
  clear CR hrd hb2 HB1
  go_wp2_with fail
  refine CU.out.mono ?_
  rintro e w3 ⟨rfl, hrd, hgr⟩
  have HR3 := Lib.hid hrd
  have HM3 := Lib.hid (mid_start s)
  have hsz3 : g + 1 ≤ w3.heap.size := Nat.le_trans hlt2 hgr.size
  have HB3 : Hid (Below w.heap.size w w3) := HB2.out.grown hgr (by have := HB2.out.size; omega) (fun k e => by injection e with e; omega)
  have hn := nv_u64 s
  have HN : Hid (uX s = true → nv s = 0) := bad_zero
  obtain ⟨bad, hbad⟩ : ∃ x, uX s = x := ⟨_, rfl⟩
  obtain ⟨n, hnv⟩ : ∃ x, nv s = x := ⟨_, rfl⟩
  have HBAD := Lib.hid hbad
  have HNV := Lib.hid hnv
  rw [hbad] at HR3 HN
  rw [hnv] at hn HN ⊢
  clear CU hrd hgr HB2 hbad hnv hlt2
  go_wp2_with fail
  go_loopw [5, 13] (fun a5 i wr => ∃ (k : Nat) (Q : List Ent) (cur : List UInt8), i = .int .u64 k ∧ k ≤ n ∧ Hid (Q.length = k) ∧ Hid (MidQ s Q cur) ∧ Hid (Rd wr g cur bad) ∧ Hid (OwnTb wr (g + 1) a5 (Q.map toW)) ∧ Hid (Below w.heap.size w wr) ∧ g + 1 ≤ wr.heap.size) (fun _ i _ => n - (intOf i).toNat)
  case atStart => exact ⟨0, [], uB s, rfl, by omega, rfl, HM3.out, HR3.out, OwnTb.nil _ _, HB3.out, hsz3⟩
  case round =>
    clear HM3 HR3 HB3 hsz3
    obtain ⟨k, Q, cur, rfl, hk, hQl, hM, hR, hO, hB, hsz⟩ := hrel
    have hml := hM.out.len
    have hql := hQl.out
    by_cases hlt : k < n
    case pos =>
      obtain rfl : bad = false := by
        cases bad with
        | false => rfl
        | true => have := HN.out rfl; omega
      have CU := Lib.hid (ruint_any g cur false wr hR.out (Sane.start cur) (by omega))
      go_wp2_with fail
      refine CU.out.mono ?_
      rintro e w4 ⟨rfl, hr4, hg4⟩
      have hz4 := Nat.le_trans hsz hg4.size
      have HO4 := Lib.hid (hO.out.past hg4 (by omega))
      have HB4 : Hid (Below w.heap.size w w4) := hB.out.grown hg4 hB.out.size (fun k e => by injection e with e; omega)
      have hl4 := uB_len cur
      obtain ⟨gb, hgb⟩ : ∃ x, (((nv cur : Nat) : Int) == 1) = x := ⟨_, rfl⟩
      have HGB : Hid ((stU cur == 1) = gb) := by
        rw [← hgb]
        unfold Hid stU
        cases h : (nv cur == 1) with
        | true => have := of_decide_eq_true h; rw [this]; rfl
        | false => have := of_decide_eq_false h; symm; simp; omega
      obtain ⟨u, hu⟩ : ∃ x, nv cur = x := ⟨_, rfl⟩
      rw [hu] at hgb ⊢
      have CT := Lib.hid (rtext_any g 48 (uB cur) (uX cur) w4 hr4 (Sane.u cur) (by omega) (by omega))
      clear CU hr4 hg4 hO hB hR hu
      go_wp2_with fail
      refine CT.out.mono ?_
      rintro e w5 ⟨rfl, hr5, hg5⟩
      have hz5 := Nat.le_trans hz4 hg5.size
      have HO5 := Lib.hid (HO4.out.past hg5 (by omega))
      have HB5 : Hid (Below w.heap.size w w5) := HB4.out.grown hg5 HB4.out.size (fun k e => by injection e with e; omega)
      have hl5 := txB_len 48 (uB cur)
      have CV := Lib.hid (rtext_any g 160 (txB 48 (uB cur)) (txX 48 (uB cur)) w5 hr5 (Sane.tx 48 (uB cur)) (by omega) (by omega))
      clear CT hr5 hg5 HO4 HB4
      go_wp2_with fail
      refine CV.out.mono ?_
      rintro e w6 ⟨rfl, hr6, hg6⟩
      have hz6 := Nat.le_trans hz5 hg6.size
      have HO6 := Lib.hid (HO5.out.past hg6 (by omega))
      have HB6 : Hid (Below w.heap.size w w6) := HB5.out.grown hg6 HB5.out.size (fun k e => by injection e with e; omega)
      have hr6 : Rd w6 g (stB 48 160 cur) (stX 48 160 cur) := hr6
      obtain ⟨pk, hpk⟩ : ∃ x, txV 48 (uB cur) = x := ⟨_, rfl⟩
      obtain ⟨pv, hpv⟩ : ∃ x, txV 160 (txB 48 (uB cur)) = x := ⟨_, rfl⟩
      have HP : Hid (toW ⟨stU cur, stK 48 cur, stV 48 160 cur⟩ = ⟨pk, pv, gb⟩) := by
        unfold Hid toW
        dsimp only
        rw [HGB.out, ← hpk, ← hpv]
        rfl
      rw [hpk, hpv]
      have hba : Below w6.heap.size w6 (w6.alloc (.cells #[.string ⟨pk.toArray⟩, .string ⟨pv.toArray⟩, .bool gb] 29)) := (Below.refl _ _).alloc (Nat.le_refl _) _
      have hr7 := hr6.below hba (by omega)
      have CG := Lib.hid (good_any g _ _ _ hr7)
      have HR7 := Lib.hid hr7
      have HO7 := Lib.hid (HO6.out.alloc (.cells #[.string ⟨pk.toArray⟩, .string ⟨pv.toArray⟩, .bool gb] 29))
      have HB7 := Lib.hid (HB6.out.trans (hba.mono HB6.out.size))
      have hz7 := Nat.le_trans hz6 hba.size
      have hrow := heap_alloc_new w6 (.cells #[.string ⟨pk.toArray⟩, .string ⟨pv.toArray⟩, .bool gb] 29)
      obtain ⟨gx, hgx⟩ : ∃ x, stX 48 160 cur = x := ⟨_, rfl⟩
      have HGX := Lib.hid hgx
      rw [hgx] at CG HR7
      have HROW := Lib.hid hrow
      clear CV hr6 hg6 HO5 HB5 HO6 HB6 hpk hpv hba hr7 hgx hrow HGB
      go_wp2_with fail
      generalize w6.alloc (.cells #[.string ⟨pk.toArray⟩, .string ⟨pv.toArray⟩, .bool gb] 29) = w7 at *
      obtain ⟨pb, hpb⟩ : ∃ x, w6.heap.size = x := ⟨_, rfl⟩
      rw [hpb] at HROW ⊢
      refine CG.out.mono ?_
      rintro e w8 ⟨rfl, rfl⟩
      clear CG
      cases gx
      case true =>
        have hno := hM.out.none_bad HBAD.out (by rw [HNV.out]; omega) HGX.out
        have HNO := Lib.hid hno
        clear hno
        go_wp2_with fail
        go_ret2
        exact ⟨_, false, rfl, HB7.out, .inr ⟨rfl, HNO.out⟩⟩
      case false =>
        have hM8 := Lib.hid (hM.out.step HBAD.out HGX.out)
        have hmap : Hid ((Q ++ [(⟨stU cur, stK 48 cur, stV 48 160 cur⟩ : Ent)]).map toW = Q.map toW ++ [⟨pk, pv, gb⟩]) := by
          unfold Hid
          rw [List.map_append, List.map_cons, List.map_nil, HP.out]
        have hmlen : (Q.map toW).length + 1 ≤ 1099511627776 := by rw [List.length_map]; omega
        have c0 := cell_of_row _ _ 0 _ _ _ HROW.out
        have c1 := cell_of_row _ _ 1 _ _ _ HROW.out
        have c2 := cell_of_row _ _ 2 _ _ _ HROW.out
        have hws : IntKind.u64.wrap ((k : Int) + 1) = (k : Int) + 1 := by simp [IntKind.wrap, IntKind.bits, IntKind.signed]; omega
        clear hM HP HROW HGX hml
        go_wp2_with (at_builtin; refine wp_append_new rfl _ _ rfl (⟨pk, pv, gb⟩ : Wr) rfl HO7.out hz7 rfl hmlen ?_
                     intro v9 w9 ho9 hb9 _ hz9
                     have HO9 := Lib.hid ho9
                     have HB9 := Lib.hid (HB7.out.trans (hb9.mono (by omega)))
                     have HR9 := Lib.hid (HR7.out.below hb9 (by omega))
                     clear ho9 hb9)
        go_roundw
        case rel => exact ⟨k + 1, Q ++ [(⟨stU cur, stK 48 cur, stV 48 160 cur⟩ : Ent)], stB 48 160 cur, by go_num, by omega, by unfold Hid; rw [List.length_append, hql]; rfl, hM8.out, HR9.out, by unfold Hid; rw [hmap.out]; exact HO9.out, HB9.out, by omega⟩
        case measure => simp [intOf]; omega
    case neg =>
      have hkn : k = n := by omega
      have CE := Lib.hid (end_any g cur bad wr hR.out)
      obtain ⟨A5, c5, e5, _, _⟩ := hO.out.tbIn.len
      have HT5 := Lib.hid hO.out.tbIn
      subst e5
      go_wp2_with fail
      refine CE.out.mono ?_
      rintro e w4 ⟨rfl, rfl⟩
      clear CE
      go_wp2_with fail
      go_ret2
      refine ⟨_, !bad && cur.isEmpty, rfl, hB.out, ?_⟩
      have hb := HBAD.out
      cases bad with
      | true => exact .inr ⟨rfl, none_u hb⟩
      | false =>
        have hqn : Q.length = nv s := by rw [HNV.out]; omega
        cases cur with
        | nil => exact .inl ⟨rfl, Q, hM.out.lim, by omega, hM.out.last hb hqn, by have := HT5.out; rw [List.length_map, show Q.length = n by omega] at this; exact this⟩
        | cons c r => exact .inr ⟨rfl, hM.out.none_more hb hqn (fun h => by cases h)⟩

end Go.Proofs.Ytcliknmcefcaeaa.Cd

namespace Go.Proofs.Ytcliknmcefcaeaa.Cd
open Go.RowKit

/-- What Read answers: the table that the bytes tell of, or ErrForm. -/
def ReadsT (w : World) (b : List UInt8) (e : Ending) (w' : World) : Prop :=
  ∃ v n, e = .returned (.tuple #[v, .int .i64 n]) ∧ Below w.heap.size w w' ∧
    ((n = 0 ∧ ∃ T g, v = .pointer (some ⟨g, 0, none⟩) ∧ IsB b T ∧ TabV w' v T) ∨ (n = 4 ∧ v = .pointer none ∧ ∀ T, ¬ IsB b T))

theorem sum_raw (Q : List Ent) : sumW (Q.map toW) ≤ (rawF Q).length := by
  induction Q with
  | nil => simp [sumW]
  | cons e Q ih =>
    rw [List.map_cons, sumW_cons, rawF_cons, List.length_append]
    have h1 := enc_pos e.u
    have h2 : (rawE e).length = (enc e.u).length + ((enc e.k.length).length + e.k.length) + ((enc e.v.length).length + e.v.length) := by
      unfold rawE
      simp only [List.length_append]
    have h3 : (toW e).1 = e.k := rfl
    have h4 : (toW e).2.1 = e.v := rfl
    rw [h3, h4]
    omega
theorem fit_raw {Q : List Ent} (h : LimQ 48 160 Q) : FitW (Q.map toW) := fun p hp => by
  obtain ⟨e, he, rfl⟩ := List.mem_map.1 hp
  have := h e he
  exact ⟨Nat.le_trans this.2.1 (by omega), Nat.le_trans this.2.2 (by omega)⟩
theorem no_many {b cur : List UInt8} {ds : List (List UInt8)} (hb : b.length < 18446744073709551616) (h : Splits b ds cur) (hn : ds.length ≠ 1) (T : List Wr) : ¬ IsB b T := by
  rintro ⟨s, c, h1, _, _⟩
  have := (splits_uniq hb h h1).1
  rw [this] at hn
  exact hn rfl
theorem no_rest {b cur s : List UInt8} (hb : b.length < 18446744073709551616) (h : Splits b [s] cur) (hn : ¬ ∀ c ∈ cur, c = 0) (T : List Wr) : ¬ IsB b T := by
  rintro ⟨s', c, h1, h2, _⟩
  rw [(splits_uniq hb h h1).2] at hn
  exact hn h2
theorem no_form {b cur s : List UInt8} (hb : b.length < 18446744073709551616) (h : Splits b [s] cur) (hn : ∀ T, ¬ IsT s T) (T : List Wr) : ¬ IsB b T := by
  rintro ⟨s', c, h1, _, h3⟩
  have := (splits_uniq hb h h1).1
  injection this with this
  rw [← this] at h3
  exact hn T h3
theorem no_raw {s : List UInt8} (h : ∀ Q, LimQ 48 160 Q → Q.length < 18446744073709551616 → s ≠ rawS Q) (T : List Wr) : ¬ IsT s T := fun hT => by
  obtain ⟨Q, h1, h2, h3, _⟩ := isT_raw hT
  exact h Q h1 h2 h3
theorem no_other {s : List UInt8} {Q : List Ent} (hq : LimQ 48 160 Q) (hl : Q.length < 18446744073709551616) (hs : s = rawS Q) (hn : recW (ofW (Q.map toW)) ≠ s) (T : List Wr) : ¬ IsT s T := fun hT => by
  obtain ⟨Q', h1, h2, h3, h4⟩ := isT_raw hT
  have := raw_uniq (by omega) (by omega) hq h1 hl h2 (hs.symm.trans h3)
  subst this
  rw [← h4] at hT
  exact hn ((tab_of hq hl hs).2 hT)

set_option maxRecDepth 100000 in
set_option maxHeartbeats 3200000 in
theorem tread_any (v : Value) (b : List UInt8) (w : World) (h : Sl w w.heap.size v b) (hb : b.length ≤ 1048576) :
    Calls Try.prog 21 #[v] w (ReadsT w b) := by
  obtain ⟨A, c, rfl, h2, h3⟩ := h.len
  have h3 : c ≤ 9223372036854775807 := h3
  have HS := Lib.hid h
  have CS := Lib.hid (split_any _ b w h hb)
  clear h
  go_enter Try.func21, Try.ntmps21
  go_wp2_with fail
  refine CS.out.mono ?_
  rintro e w1 ⟨u, ds, cur, hsp, rfl, ho, hb1⟩
  have hlen := congrArg List.length hsp.1
  rw [List.length_append] at hlen
  have HSP := Lib.hid hsp
  have HB1 := Lib.hid hb1
  obtain ⟨Au, cu, rfl, _, _⟩ := ho.strs.len
  have HO := Lib.hid ho.strs
  clear hsp hb1 ho CS
  by_cases h1 : ds.length = 1
  case neg =>
    have hq : ((ds.length : Int) == 1) = false := by rw [beq_eq_false_iff_ne]; omega
    have HNO := Lib.hid (no_many (by omega) HSP.out h1)
    go_wp2_with fail
    go_ret2
    exact ⟨_, _, rfl, HB1.out, .inr ⟨rfl, rfl, HNO.out⟩⟩
  case pos =>
    obtain ⟨s, rfl⟩ := List.length_eq_one_iff.1 h1
    have hdrop : Hid (b.drop (flat [s]).length = cur) := by unfold Hid; rw [HSP.out.1, List.drop_left]
    obtain ⟨n, hn⟩ : ∃ x, (flat [s]).length = x := ⟨_, rfl⟩
    rw [hn] at hlen hdrop ⊢
    have hsn : s.length + 5 ≤ n := by rw [← hn, flat_one]; exact frm_ge s
    have HN := Lib.hid hn
    have HLEN := Lib.hid hlen
    have hnb : n ≤ b.length := by omega
    have hnb2 : (n : Int) ≤ b.length := by omega
    clear hn h1 hlen
    by_cases hcn : c = n
    case pos =>
      have hsl := sl_rest (HS.out.below HB1.out) n (by omega) A (fun hq => absurd hcn hq) (fun _ => rfl)
      subst hcn
      rw [hdrop.out, Nat.sub_self, show b.length - c = 0 by omega] at hsl
      have hbc : b.length = c := by omega
      have CZ := Lib.hid (noughts_any _ cur w1 (hsl.more HB1.out.size))
      clear hsl
      go_wp2_with fail
      refine CZ.out.mono ?_
      rintro e w2 ⟨z, rfl, rfl, hz⟩
      clear CZ
      cases z
      case false =>
        have HNO := Lib.hid (no_rest (by omega) HSP.out (fun h => by have := hz.2 h; cases this))
        clear hz
        go_wp2_with fail
        go_ret2
        exact ⟨_, _, rfl, HB1.out, .inr ⟨rfl, rfl, HNO.out⟩⟩
      case true =>
        have HZ := Lib.hid (hz.1 rfl)
        clear hz
        obtain ⟨rb, ro, rc, re, _, _, hrb, hcell⟩ := HO.out.at (by simp)
        injection re with re _ _
        subst re
        have d0 : w1.cell? ⟨rb, ro, none⟩ = some (.string ⟨s.toArray⟩) := hcell 0 (by simp)
        have CW := Lib.hid (writesOf_any s w1 (by omega))
        clear hcell
        go_wp2_with fail
        refine CW.out.mono ?_
        rintro e w2 ⟨v2, ok, rfl, hb2, hans⟩
        have HB2 := Lib.hid (HB1.out.trans (hb2.mono HB1.out.size))
        have d1 := (hb2.cell (p := ⟨rb, ro, none⟩) hrb).trans d0
        have hz2 := hb2.size
        clear CW hb2 d0
        cases ok
        case false =>
          have HNO := Lib.hid (no_form (by omega) HSP.out (no_raw (hans.resolve_left (fun h => by cases h.1)).2))
          clear hans
          go_wp2_with fail
          go_ret2
          exact ⟨_, _, rfl, HB2.out, .inr ⟨rfl, rfl, HNO.out⟩⟩
        case true =>
          obtain ⟨_, Q, hq, hl, hs, hin⟩ := hans.resolve_right (fun h => by cases h.1)
          clear hans
          have hsum := sum_raw Q
          have hrl : (rawF Q).length ≤ s.length := by rw [hs]; unfold rawS; rw [List.length_append]; omega
          have hso := sumW_of (Q.map toW)
          have hml := sumW_len (Q.map toW)
          obtain ⟨A2, c2, rfl, _, _⟩ := hin.len
          have CO := Lib.hid (tof_any _ (Q.map toW) w2 hin (fit_raw hq) (by omega))
          have HQ := Lib.hid hq
          have HL := Lib.hid hl
          have HS2 := Lib.hid hs
          obtain ⟨L, hL⟩ : ∃ L, Q.map toW = L := ⟨_, rfl⟩
          have HQL := Lib.hid hL
          rw [hL] at CO hso hsum hml ⊢
          have hsT : sumW (ofW L) ≤ 1048576 := by omega
          clear hin hq hl hs hL hso hsum hml hrl
          go_wp2_with fail
          refine CO.out.mono ?_
          intro e w3 h1
          obtain ⟨v1, rfl, ⟨g, rfl⟩, ht, hb3⟩ := h1.tab
          have HB3 := Lib.hid (HB2.out.trans (hb3.mono HB2.out.size))
          have d2 := (hb3.cell (p := ⟨rb, ro, none⟩) (by show rb < w2.heap.size; omega)).trans d1
          have hz3 := hb3.size
          have CR := Lib.hid (trecord_any _ (ofW L) w3.drew (ht.below (Below.refl _ _).drew) hsT)
          have HT := Lib.hid ht
          clear CO h1 ht hb3 d1
          obtain ⟨r, hr⟩ : ∃ r, recW (ofW L) = r := ⟨_, rfl⟩
          rw [hr] at CR
          have HRR := Lib.hid hr
          clear hr
          by_cases heq : r = s
          case pos =>
            have hq : (r == s) = true := by simpa using heq
            have HI : Hid (IsB b L ∧ ofW L = L) := by
              have := (tab_of HQ.out HL.out HS2.out).1 (by rw [HQL.out, HRR.out]; exact heq)
              rw [HQL.out] at this
              exact ⟨⟨_, _, HSP.out, HZ.out, this⟩, this.2.1⟩
            clear heq
            go_wp2_with fail
            go_region_held3 (fun W => W.cell? ⟨rb, ro, none⟩ = some (.string ⟨s.toArray⟩)) (first | exact hS4 | exact d2 | assumption) (first
              | (go_at_call 39; (with_reducible refine CR.out.mono ?_); rintro e w4 ⟨rfl, hb4⟩; have hb4 : Below w3.heap.size w3 w4 := (Below.refl _ _).drew.trans hb4; have hS4 : w4.cell? ⟨rb, ro, none⟩ = some (.string ⟨s.toArray⟩) := (hb4.cell (p := ⟨rb, ro, none⟩) (by show rb < w3.heap.size; omega)).trans d2; have HB4 := Lib.hid (HB3.out.trans (hb4.mono HB3.out.size)); have HT4 := Lib.hid (HT.out.below hb4); clear hb4))
            go_wp2_with fail
            go_ret2
            exact ⟨_, _, rfl, HB4.out, .inl ⟨rfl, L, g, rfl, HI.out.1, by have := HT4.out; rw [HI.out.2] at this; exact this⟩⟩
          case neg =>
            have hq : (r == s) = false := by simpa using heq
            have HNO := Lib.hid (no_form (by omega) HSP.out (no_other HQ.out HL.out HS2.out (by rw [HQL.out, HRR.out]; exact heq)))
            clear heq
            go_wp2_with fail
            go_region_held3 (fun W => W.cell? ⟨rb, ro, none⟩ = some (.string ⟨s.toArray⟩)) (first | exact hS4 | exact d2 | assumption) (first
              | (go_at_call 39; (with_reducible refine CR.out.mono ?_); rintro e w4 ⟨rfl, hb4⟩; have hb4 : Below w3.heap.size w3 w4 := (Below.refl _ _).drew.trans hb4; have hS4 : w4.cell? ⟨rb, ro, none⟩ = some (.string ⟨s.toArray⟩) := (hb4.cell (p := ⟨rb, ro, none⟩) (by show rb < w3.heap.size; omega)).trans d2; have HB4 := Lib.hid (HB3.out.trans (hb4.mono HB3.out.size)); have HT4 := Lib.hid (HT.out.below hb4); clear hb4))
            go_wp2_with fail
            go_ret2
            exact ⟨_, _, rfl, HB4.out, .inr ⟨rfl, rfl, HNO.out⟩⟩
    case neg =>
      have hsl := sl_rest (HS.out.below HB1.out) n (by omega) (A.map (fun x => x.add n)) (fun _ => rfl) (fun hq => absurd hq hcn)
      rw [hdrop.out] at hsl
      have CZ := Lib.hid (noughts_any _ cur w1 (hsl.more HB1.out.size))
      clear hsl
      go_wp2_with fail
      refine CZ.out.mono ?_
      rintro e w2 ⟨z, rfl, rfl, hz⟩
      clear CZ
      cases z
      case false =>
        have HNO := Lib.hid (no_rest (by omega) HSP.out (fun h => by have := hz.2 h; cases this))
        clear hz
        go_wp2_with fail
        go_ret2
        exact ⟨_, _, rfl, HB1.out, .inr ⟨rfl, rfl, HNO.out⟩⟩
      case true =>
        have HZ := Lib.hid (hz.1 rfl)
        clear hz
        obtain ⟨rb, ro, rc, re, _, _, hrb, hcell⟩ := HO.out.at (by simp)
        injection re with re _ _
        subst re
        have d0 : w1.cell? ⟨rb, ro, none⟩ = some (.string ⟨s.toArray⟩) := hcell 0 (by simp)
        have CW := Lib.hid (writesOf_any s w1 (by omega))
        clear hcell
        go_wp2_with fail
        refine CW.out.mono ?_
        rintro e w2 ⟨v2, ok, rfl, hb2, hans⟩
        have HB2 := Lib.hid (HB1.out.trans (hb2.mono HB1.out.size))
        have d1 := (hb2.cell (p := ⟨rb, ro, none⟩) hrb).trans d0
        have hz2 := hb2.size
        clear CW hb2 d0
        cases ok
        case false =>
          have HNO := Lib.hid (no_form (by omega) HSP.out (no_raw (hans.resolve_left (fun h => by cases h.1)).2))
          clear hans
          go_wp2_with fail
          go_ret2
          exact ⟨_, _, rfl, HB2.out, .inr ⟨rfl, rfl, HNO.out⟩⟩
        case true =>
          obtain ⟨_, Q, hq, hl, hs, hin⟩ := hans.resolve_right (fun h => by cases h.1)
          clear hans
          have hsum := sum_raw Q
          have hrl : (rawF Q).length ≤ s.length := by rw [hs]; unfold rawS; rw [List.length_append]; omega
          have hso := sumW_of (Q.map toW)
          have hml := sumW_len (Q.map toW)
          obtain ⟨A2, c2, rfl, _, _⟩ := hin.len
          have CO := Lib.hid (tof_any _ (Q.map toW) w2 hin (fit_raw hq) (by omega))
          have HQ := Lib.hid hq
          have HL := Lib.hid hl
          have HS2 := Lib.hid hs
          obtain ⟨L, hL⟩ : ∃ L, Q.map toW = L := ⟨_, rfl⟩
          have HQL := Lib.hid hL
          rw [hL] at CO hso hsum hml ⊢
          have hsT : sumW (ofW L) ≤ 1048576 := by omega
          clear hin hq hl hs hL hso hsum hml hrl
          go_wp2_with fail
          refine CO.out.mono ?_
          intro e w3 h1
          obtain ⟨v1, rfl, ⟨g, rfl⟩, ht, hb3⟩ := h1.tab
          have HB3 := Lib.hid (HB2.out.trans (hb3.mono HB2.out.size))
          have d2 := (hb3.cell (p := ⟨rb, ro, none⟩) (by show rb < w2.heap.size; omega)).trans d1
          have hz3 := hb3.size
          have CR := Lib.hid (trecord_any _ (ofW L) w3.drew (ht.below (Below.refl _ _).drew) hsT)
          have HT := Lib.hid ht
          clear CO h1 ht hb3 d1
          obtain ⟨r, hr⟩ : ∃ r, recW (ofW L) = r := ⟨_, rfl⟩
          rw [hr] at CR
          have HRR := Lib.hid hr
          clear hr
          by_cases heq : r = s
          case pos =>
            have hq : (r == s) = true := by simpa using heq
            have HI : Hid (IsB b L ∧ ofW L = L) := by
              have := (tab_of HQ.out HL.out HS2.out).1 (by rw [HQL.out, HRR.out]; exact heq)
              rw [HQL.out] at this
              exact ⟨⟨_, _, HSP.out, HZ.out, this⟩, this.2.1⟩
            clear heq
            go_wp2_with fail
            go_region_held3 (fun W => W.cell? ⟨rb, ro, none⟩ = some (.string ⟨s.toArray⟩)) (first | exact hS4 | exact d2 | assumption) (first
              | (go_at_call 39; (with_reducible refine CR.out.mono ?_); rintro e w4 ⟨rfl, hb4⟩; have hb4 : Below w3.heap.size w3 w4 := (Below.refl _ _).drew.trans hb4; have hS4 : w4.cell? ⟨rb, ro, none⟩ = some (.string ⟨s.toArray⟩) := (hb4.cell (p := ⟨rb, ro, none⟩) (by show rb < w3.heap.size; omega)).trans d2; have HB4 := Lib.hid (HB3.out.trans (hb4.mono HB3.out.size)); have HT4 := Lib.hid (HT.out.below hb4); clear hb4))
            go_wp2_with fail
            go_ret2
            exact ⟨_, _, rfl, HB4.out, .inl ⟨rfl, L, g, rfl, HI.out.1, by have := HT4.out; rw [HI.out.2] at this; exact this⟩⟩
          case neg =>
            have hq : (r == s) = false := by simpa using heq
            have HNO := Lib.hid (no_form (by omega) HSP.out (no_other HQ.out HL.out HS2.out (by rw [HQL.out, HRR.out]; exact heq)))
            clear heq
            go_wp2_with fail
            go_region_held3 (fun W => W.cell? ⟨rb, ro, none⟩ = some (.string ⟨s.toArray⟩)) (first | exact hS4 | exact d2 | assumption) (first
              | (go_at_call 39; (with_reducible refine CR.out.mono ?_); rintro e w4 ⟨rfl, hb4⟩; have hb4 : Below w3.heap.size w3 w4 := (Below.refl _ _).drew.trans hb4; have hS4 : w4.cell? ⟨rb, ro, none⟩ = some (.string ⟨s.toArray⟩) := (hb4.cell (p := ⟨rb, ro, none⟩) (by show rb < w3.heap.size; omega)).trans d2; have HB4 := Lib.hid (HB3.out.trans (hb4.mono HB3.out.size)); have HT4 := Lib.hid (HT.out.below hb4); clear hb4))
            go_wp2_with fail
            go_ret2
            exact ⟨_, _, rfl, HB4.out, .inr ⟨rfl, rfl, HNO.out⟩⟩

end Go.Proofs.Ytcliknmcefcaeaa.Cd
