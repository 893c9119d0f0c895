/-
  TableSaves: a table beside a disk, the law's walk. Conditions: none.
-/
import Derived.Test.YthgnchgehmakjaaG8
import Derived.Test.YthgnchgehmakjaaG6
import Derived.Test.YthgnchgehmakjaaG11
import Derived.Test.YthgnchgehmakjaaG10
/-
  A table read from bytes: in plain Lean; areNoughts, writesOf, Read. Conditions: not too many bytes.
-/
namespace Go.Proofs.Ythgnchgehmakjaa.Cd

/-- A write as it is read: the number ahead of it, its key, its value. -/
structure Ent where
  u : Nat
  k : List UInt8
  v : List UInt8

def rawE (e : Ent) : List UInt8 := (enc e.u ++ (enc e.k.length ++ e.k)) ++ (enc e.v.length ++ e.v)
def rawF (Q : List Ent) : List UInt8 := (Q.map rawE).flatten
def rawS (Q : List Ent) : List UInt8 := enc Q.length ++ rawF Q
def LimE (mk mv : Nat) (e : Ent) : Prop := e.u < 18446744073709551616 ∧ e.k.length ≤ mk ∧ e.v.length ≤ mv
def LimQ (mk mv : Nat) (Q : List Ent) : Prop := ∀ e ∈ Q, LimE mk mv e
def toW (e : Ent) : Wr := ⟨e.k, e.v, e.u == 1⟩
def ofE (p : Wr) : Ent := ⟨goneB p.2.2, p.1, p.2.1⟩
def LimT (mk mv : Nat) (T : List Wr) : Prop := ∀ p ∈ T, p.1.length ≤ mk ∧ p.2.1.length ≤ mv

theorem toW_ofE (p : Wr) : toW (ofE p) = p := by
  obtain ⟨k, v, g⟩ := p
  cases g <;> rfl
theorem rawE_of (p : Wr) : rawE (ofE p) = wrB p := rfl
theorem rawF_cons (e : Ent) (Q : List Ent) : rawF (e :: Q) = rawE e ++ rawF Q := by simp [rawF]
theorem rawF_append (P Q : List Ent) : rawF (P ++ Q) = rawF P ++ rawF Q := by simp [rawF]
theorem rawF_nil : rawF [] = [] := rfl
theorem rawS_of (T : List Wr) : rawS (T.map ofE) = recW T := by
  unfold rawS rawF recW
  rw [List.length_map, List.map_map]
  rfl
theorem lim_of {mk mv : Nat} {T : List Wr} (h : LimT mk mv T) : LimQ mk mv (T.map ofE) := fun e he => by
  obtain ⟨p, hp, rfl⟩ := List.mem_map.1 he
  have h1 := h p hp
  have h2 := goneB_lt p.2.2
  exact ⟨by show goneB p.2.2 < _; omega, h1.1, h1.2⟩
theorem map_of (T : List Wr) : (T.map ofE).map toW = T := by
  rw [List.map_map]
  conv => rhs; rw [← List.map_id T]
  exact List.map_congr_left fun p _ => toW_ofE p

/-- What one write's reading comes to. -/
def stU (b : List UInt8) : Nat := nv b
def stK (mk : Nat) (b : List UInt8) : List UInt8 := txV mk (uB b)
def stV (mk mv : Nat) (b : List UInt8) : List UInt8 := txV mv (txB mk (uB b))
def stB (mk mv : Nat) (b : List UInt8) : List UInt8 := txB mv (txB mk (uB b))
def stX (mk mv : Nat) (b : List UInt8) : Bool := txX mv (txB mk (uB b))

theorem txX_nil (m : Int) : txX m [] = true := by
  unfold txX
  exact decide_eq_true (.inl bad_nil)
theorem st_good {mk mv : Nat} {b : List UInt8} (h : stX mk mv b = false) : uX b = false ∧ txX mk (uB b) = false := by
  unfold stX at h
  have h2 : txX mk (uB b) = false := by
    cases hx : txX mk (uB b) with
    | false => rfl
    | true =>
      have hb : txB mk (uB b) = [] := by
        unfold txX at hx
        unfold txB
        rw [if_pos (of_decide_eq_true hx)]
      rw [hb, txX_nil] at h
      cases h
  refine ⟨?_, h2⟩
  cases hx : uX b with
  | false => rfl
  | true =>
    have hb : uB b = [] := by
      unfold uX at hx
      unfold uB
      rw [if_pos (of_decide_eq_true hx)]
    rw [hb, txX_nil] at h2
    cases h2
theorem txV_most {m : Int} {b : List UInt8} (h : txX m b = false) : ((txV m b).length : Int) ≤ m := by
  unfold txX at h
  have h := of_decide_eq_false h
  unfold txV
  rw [if_neg h]
  have h2 : ¬ (m < (nv b : Nat)) := fun h2 => h (.inr (.inr (.inl h2)))
  have := List.length_take_le (nv b) (b.drop (ns b))
  omega
theorem st_read {mk mv : Nat} {b : List UInt8} (h : stX mk mv b = false) : b = rawE ⟨stU b, stK mk b, stV mk mv b⟩ ++ stB mk mv b ∧ (stK mk b).length ≤ mk ∧ (stV mk mv b).length ≤ mv := by
  obtain ⟨h1, h2⟩ := st_good h
  have h3 : txX mv (txB mk (uB b)) = false := h
  have e1 := one_u h1
  have e2 := one_tx h2
  have e3 := one_tx h3
  have m2 := txV_most h2
  have m3 := txV_most h3
  refine ⟨?_, by show (txV mk (uB b)).length ≤ mk; omega, by show (txV mv (txB mk (uB b))).length ≤ mv; omega⟩
  unfold rawE stU stK stV stB
  dsimp only
  rw [List.append_assoc, e3, List.append_assoc, e2, e1]
theorem st_of {mk mv : Nat} (hmk : mk < 18446744073709551616) (hmv : mv < 18446744073709551616) {e : Ent} (h : LimE mk mv e) (t : List UInt8) : stU (rawE e ++ t) = e.u ∧ stK mk (rawE e ++ t) = e.k ∧ stV mk mv (rawE e ++ t) = e.v ∧ stB mk mv (rawE e ++ t) = t ∧ stX mk mv (rawE e ++ t) = false := by
  obtain ⟨h1, h2, h3⟩ := h
  have e1 : rawE e ++ t = enc e.u ++ (enc e.k.length ++ (e.k ++ (enc e.v.length ++ (e.v ++ t)))) := by simp [rawE]
  have hu := uB_enc h1 (enc e.k.length ++ (e.k ++ (enc e.v.length ++ (e.v ++ t))))
  have hn := nv_enc h1 (enc e.k.length ++ (e.k ++ (enc e.v.length ++ (e.v ++ t))))
  have hk := tx_all (enc e.v.length ++ (e.v ++ t)) e.k (by omega) mk (by omega)
  have hv := tx_all t e.v (by omega) mv (by omega)
  unfold stU stK stV stB stX
  rw [e1, hu, hn, hk.1, hk.2.1, hv.1, hv.2.1, hv.2.2]
  exact ⟨rfl, rfl, rfl, rfl, rfl⟩

/-- What was read so far is how any whole reading begins. -/
theorem raw_prefix {mk mv : Nat} (hmk : mk < 18446744073709551616) (hmv : mv < 18446744073709551616) : ∀ (P : List Ent) {Q : List Ent} {cur : List UInt8}, LimQ mk mv P → LimQ mk mv Q → P.length ≤ Q.length → rawF Q = rawF P ++ cur → ∃ R, Q = P ++ R ∧ cur = rawF R ∧ LimQ mk mv R
  | [], Q, cur, _, hq, _, h => ⟨Q, rfl, by rw [h]; rfl, hq⟩
  | e :: P, [], cur, _, _, hl, _ => by simp at hl
  | e :: P, q :: Q, cur, hp, hq, hl, h => by
    rw [rawF_cons, rawF_cons, List.append_assoc] at h
    have a := st_of hmk hmv (hp e (List.mem_cons_self ..)) (rawF P ++ cur)
    have b := st_of hmk hmv (hq q (List.mem_cons_self ..)) (rawF Q)
    rw [h] at b
    have hqe : q = e := by
      obtain ⟨qu, qk, qv⟩ := q
      obtain ⟨eu, ek, ev⟩ := e
      have h1 := b.1.symm.trans a.1
      have h2 := b.2.1.symm.trans a.2.1
      have h3 := b.2.2.1.symm.trans a.2.2.1
      dsimp only at h1 h2 h3
      rw [h1, h2, h3]
    subst hqe
    have hr : rawF Q = rawF P ++ cur := b.2.2.2.1.symm.trans a.2.2.2.1
    obtain ⟨R, rfl, h5, h6⟩ := raw_prefix hmk hmv P (fun x hx => hp x (List.mem_cons_of_mem _ hx)) (fun x hx => hq x (List.mem_cons_of_mem _ hx)) (by simpa using hl) hr
    exact ⟨R, rfl, h5, h6⟩
theorem raw_uniq {mk mv : Nat} (hmk : mk < 18446744073709551616) (hmv : mv < 18446744073709551616) {P Q : List Ent} (hp : LimQ mk mv P) (hq : LimQ mk mv Q) (lp : P.length < 18446744073709551616) (lq : Q.length < 18446744073709551616) (h : rawS P = rawS Q) : P = Q := by
  unfold rawS at h
  have h1 := nv_enc lp (rawF P)
  have h2 := nv_enc lq (rawF Q)
  have u1 := uB_enc lp (rawF P)
  have u2 := uB_enc lq (rawF Q)
  rw [h] at h1 u1
  have hl : P.length = Q.length := h1.symm.trans h2
  have hf : rawF Q = rawF P ++ [] := by rw [List.append_nil]; exact u2.symm.trans u1
  obtain ⟨R, hR, hr, _⟩ := raw_prefix hmk hmv P hp hq (by omega) hf
  have : R = [] := by
    have := congrArg List.length hR
    rw [List.length_append] at this
    exact List.length_eq_zero_iff.1 (by omega)
  rw [hR, this, List.append_nil]

/-- s tells of the table T. -/
def IsT (s : List UInt8) (T : List Wr) : Prop := s = recW T ∧ ofW T = T ∧ LimT 48 160 T ∧ T.length < 18446744073709551616
theorem isT_uniq {s : List UInt8} {T U : List Wr} (h : IsT s T) (k : IsT s U) : T = U := by
  have := raw_uniq (by omega) (by omega) (lim_of h.2.2.1) (lim_of k.2.2.1) (by rw [List.length_map]; exact h.2.2.2) (by rw [List.length_map]; exact k.2.2.2) (by rw [rawS_of, rawS_of, ← h.1, ← k.1])
  rw [← map_of T, this, map_of]
theorem ins_mem_lim {mk mv : Nat} {t : List Wr} (h : LimT mk mv t) {w : Wr} (hw : w.1.length ≤ mk ∧ w.2.1.length ≤ mv) : LimT mk mv (insW t w) := fun p hp => by
  rcases mem_ins hp with rfl | hp
  · exact hw
  · exact h p hp
theorem flat_lim {mk mv : Nat} {w : Wr} (hw : w.1.length ≤ mk ∧ w.2.1.length ≤ mv) : (flatG w).1.length ≤ mk ∧ (flatG w).2.1.length ≤ mv := by
  unfold flatG
  split
  · exact ⟨hw.1, by simp⟩
  · exact hw
theorem from_lim {mk mv : Nat} : ∀ (l : List Wr) (t : List Wr), LimT mk mv t → LimT mk mv l → LimT mk mv (ofFrom t l)
  | [], _, h, _ => h
  | w :: l, t, h, hl => from_lim l (insW t (flatG w)) (ins_mem_lim h (flat_lim (hl w (List.mem_cons_self ..)))) (fun p hp => hl p (List.mem_cons_of_mem _ hp))
theorem of_lim {mk mv : Nat} {l : List Wr} (h : LimT mk mv l) : LimT mk mv (ofW l) := from_lim l [] (fun _ h => by cases h) h
/-- What the program asks of what it parsed is what the document asks. -/
theorem tab_of {s : List UInt8} {Q : List Ent} (hq : LimQ 48 160 Q) (hl : Q.length < 18446744073709551616) (hs : s = rawS Q) : recW (ofW (Q.map toW)) = s ↔ IsT s (Q.map toW) := by
  constructor
  · intro h
    have hlt : LimT 48 160 (Q.map toW) := fun p hp => by
      obtain ⟨e, he, rfl⟩ := List.mem_map.1 hp
      exact (hq e he).2
    have hT := of_lim hlt
    have hTl : (ofW (Q.map toW)).length < 18446744073709551616 := Nat.lt_of_le_of_lt (ofW_len _) (by rw [List.length_map]; exact hl)
    have he := raw_uniq (by omega) (by omega) hq (lim_of hT) hl (by rw [List.length_map]; exact hTl) (by rw [← hs, rawS_of, h])
    have h2 : Q.map toW = ofW (Q.map toW) := by
      conv => lhs; rw [he]
      exact map_of _
    refine ⟨?_, h2.symm, hlt, by rw [List.length_map]; exact hl⟩
    rw [h2]
    exact h.symm
  · rintro ⟨h1, h2, _⟩
    rw [h2]
    exact h1.symm
theorem isT_raw {s : List UInt8} {T : List Wr} (h : IsT s T) : ∃ Q, LimQ 48 160 Q ∧ Q.length < 18446744073709551616 ∧ s = rawS Q ∧ Q.map toW = T := ⟨T.map ofE, lim_of h.2.2.1, by rw [List.length_map]; exact h.2.2.2, by rw [rawS_of]; exact h.1, map_of T⟩

/-- Bytes tell of the table T: its record, and noughts. -/
def IsB (b : List UInt8) (T : List Wr) : Prop := ∃ s cur, Splits b [s] cur ∧ (∀ c ∈ cur, c = 0) ∧ IsT s T
theorem isB_uniq {b : List UInt8} (hb : b.length < 18446744073709551616) {T U : List Wr} (h : IsB b T) (k : IsB b U) : T = U := by
  obtain ⟨s, c, h1, _, h2⟩ := h
  obtain ⟨s', c', k1, _, k2⟩ := k
  have := (splits_uniq hb h1 k1).1
  injection this with this
  subst this
  exact isT_uniq h2 k2
theorem no_noughts (n : Nat) : ¬ HasRec (List.replicate n 0) := by
  rintro ⟨x, t, h⟩
  have hz : ∀ c ∈ frm x, c = 0 := fun c hc => List.eq_of_mem_replicate (h ▸ List.mem_append_left t hc)
  have hx : x = [] := by
    have hm : ∀ c ∈ enc x.length, c = 0 := fun c hc => hz c (by unfold frm; simp [hc])
    by_cases hl : x.length < 128
    · rw [enc_lo hl] at hm
      have h1 := congrArg UInt8.toNat (hm _ (List.mem_singleton.2 rfl))
      rw [lo8_nat hl] at h1
      exact List.length_eq_zero_iff.1 h1
    · rw [enc_hi (by omega)] at hm
      have h1 := congrArg UInt8.toNat (hm _ (List.mem_cons_self ..))
      have h2 := hi8_ge x.length
      rw [h1] at h2
      simp at h2
  subst hx
  have h3 : b8 (crc [0]) = 0 := hz _ (by
    unfold frm
    rw [show enc ([] : List UInt8).length = [0] by rw [List.length_nil, enc_lo (by omega)]; rfl]
    simp [le4])
  exact absurd h3 (by decide +kernel)
/-- A table's bytes, and noughts behind them, tell of what its record tells of. -/
theorem isB_of {T U : List Wr} {n : Nat} (hn : (frm (recW T)).length + n < 18446744073709551616) : IsB (frm (recW T) ++ List.replicate n 0) U ↔ IsT (recW T) U := by
  have hs : Splits (frm (recW T) ++ List.replicate n 0) [recW T] (List.replicate n 0) := ⟨by rw [flat_one], no_noughts n⟩
  constructor
  · rintro ⟨s, cur, h1, _, h2⟩
    have := (splits_uniq (by rw [List.length_append, List.length_replicate]; exact hn) h1 hs).1
    injection this with this
    rw [← this]
    exact h2
  · intro h
    exact ⟨_, _, hs, fun c hc => List.eq_of_mem_replicate hc, h⟩
theorem isT_self {T : List Wr} (hT : ofW T = T) (hl : T.length < 18446744073709551616) (hm : LimT 48 160 T) : IsT (recW T) T := ⟨rfl, hT, hm, hl⟩
theorem isT_long {T U : List Wr} (hl : T.length < 18446744073709551616) (hm : LimT 1048576 1048576 T) (h : IsT (recW T) U) : LimT 48 160 T := by
  have hU : LimT 1048576 1048576 U := fun p hp => by have := h.2.2.1 p hp; omega
  have := raw_uniq (by omega) (by omega) (lim_of hm) (lim_of hU) (by rw [List.length_map]; exact hl) (by rw [List.length_map]; exact h.2.2.2) (by rw [rawS_of, rawS_of, ← h.1])
  have hTU : T = U := by rw [← map_of T, this, map_of]
  rw [hTU]
  exact h.2.2.1

end Go.Proofs.Ythgnchgehmakjaa.Cd

namespace Go.Proofs.Ythgnchgehmakjaa.Cd
open Go.RowKit

/-- What areNoughts answers. -/
def Zers (w : World) (bs : List UInt8) (e : Ending) (w' : World) : Prop := ∃ z : Bool, e = .returned (.bool z) ∧ w = w' ∧ (z = true ↔ ∀ c ∈ bs, c = 0)

set_option maxRecDepth 100000 in
set_option maxHeartbeats 800000 in
theorem noughts_any (v : Value) (bs : List UInt8) (w : World) (h : Sl w w.heap.size v bs) :
    Calls Try.prog 56 #[v] w (Zers w bs) := by
  obtain ⟨A, c, rfl, h2, h3⟩ := h.len
  have h3 : c ≤ 9223372036854775807 := h3
  have H := Lib.hid h
  clear h
  go_enter Try.func56, Try.ntmps56
  go_wp2_with fail
  go_loopw [7] (fun i wr => ∃ k : Nat, i = .int .i64 k ∧ k ≤ bs.length ∧ Hid (w = wr) ∧ Hid (∀ x ∈ bs.take k, x = 0)) (fun i _ => bs.length - (intOf i).toNat)
  case atStart => exact ⟨0, rfl, by omega, rfl, fun x hx => by simp at hx⟩
  case round =>
    obtain ⟨k, rfl, hk, hw, hz⟩ := hrel
    obtain rfl := hw.out
    by_cases hlt : k < bs.length
    · obtain ⟨b2, off2, c2, e2, _, _, hB2, hat⟩ := H.out.at (by omega)
      injection e2 with e2 _ _
      subst e2
      have d0 := hat k hlt
      have htk : bs.take (k + 1) = bs.take k ++ [bs[k]] := List.take_succ_eq_append_getElem hlt
      obtain ⟨y, hy⟩ : ∃ y, bs[k] = y := ⟨_, rfl⟩
      have hmem : y ∈ bs := hy ▸ List.getElem_mem hlt
      rw [hy] at d0 htk
      obtain ⟨m, hm⟩ : ∃ m, y.toNat = m := ⟨_, rfl⟩
      have HT := Lib.hid htk
      rw [hm] at d0
      clear hat htk
      by_cases h0 : m = 0
      · subst h0
        have hy0 : y = 0 := UInt8.toNat_inj.1 (by rw [hm]; rfl)
        have HZ : Hid (∀ x ∈ bs.take (k + 1), x = 0) := fun x hx => by
          rw [HT.out] at hx
          rcases List.mem_append.1 hx with hx | hx
          · exact hz.out x hx
          · rw [List.mem_singleton.1 hx]; exact hy0
        clear hy0 hm hy hmem HT hz
        go_wp2_with fail
        go_roundw
        case rel => exact ⟨k + 1, by go_num, by omega, True.intro, HZ⟩
        case measure => simp [intOf]; omega
      · have hq : ((m : Int) == 0) = false := by simpa using h0
        have hno : Hid (¬ ∀ x ∈ bs, x = 0) := fun h => h0 (by rw [← hm, h y hmem]; rfl)
        clear hm hy hmem HT hz
        go_wp2_with fail
        go_ret
        exact ⟨false, rfl, rfl, ⟨(fun h => by cases h), fun h => absurd h hno.out⟩⟩
    · have hall : Hid (∀ x ∈ bs, x = 0) := by
        have := hz.out
        rwa [List.take_of_length_le (by omega)] at this
      go_wp2_with fail
      go_ret
      exact ⟨true, rfl, rfl, ⟨fun _ => hall.out, fun _ => rfl⟩⟩

end Go.Proofs.Ythgnchgehmakjaa.Cd

namespace Go.Proofs.Ythgnchgehmakjaa.Cd
open Go.RowKit

/-- What writesOf answers. -/
def WritesIs (w : World) (s : List UInt8) (e : Ending) (w' : World) : Prop :=
  ∃ v ok, e = .returned (.tuple #[v, .bool ok]) ∧ Below w.heap.size w w' ∧
    ((ok = true ∧ ∃ Q, LimQ 48 160 Q ∧ Q.length < 18446744073709551616 ∧ s = rawS Q ∧ TbIn w' w'.heap.size v (Q.map toW)) ∨ (ok = false ∧ ∀ Q, LimQ 48 160 Q → Q.length < 18446744073709551616 → s ≠ rawS Q))

theorem rawE_pos (e : Ent) : 1 ≤ (rawE e).length := by
  have := enc_pos e.u
  unfold rawE
  simp only [List.length_append]
  omega
theorem rawF_len (Q : List Ent) : Q.length ≤ (rawF Q).length := by
  induction Q with
  | nil => simp
  | cons e Q ih => rw [rawF_cons, List.length_append, List.length_cons]; have := rawE_pos e; omega

/-- Midway: what was read, and what is left. -/
structure MidQ (s : List UInt8) (Q : List Ent) (cur : List UInt8) : Prop where
  lim : LimQ 48 160 Q
  eq : uX s = false → s = enc (nv s) ++ (rawF Q ++ cur)
  bad : uX s = true → cur = [] ∧ Q = []

section
variable {s cur : List UInt8} {Q : List Ent}
theorem mid_start (s : List UInt8) : MidQ s [] (uB s) := ⟨(fun _ h => by cases h), fun h => (one_u h).symm, fun h => ⟨Sane.u s h, rfl⟩⟩
theorem MidQ.len (h : MidQ s Q cur) : Q.length ≤ s.length ∧ cur.length ≤ s.length := by
  cases hx : uX s with
  | true => obtain ⟨rfl, rfl⟩ := h.bad hx; simp
  | false =>
    have h1 := congrArg List.length (h.eq hx)
    have h2 := rawF_len Q
    simp only [List.length_append] at h1
    omega
theorem MidQ.sane (h : MidQ s Q cur) : Sane (uX s) cur := fun hx => (h.bad hx).1
theorem MidQ.step (h : MidQ s Q cur) (hx : uX s = false) (hg : stX 48 160 cur = false) : MidQ s (Q ++ [⟨stU cur, stK 48 cur, stV 48 160 cur⟩]) (stB 48 160 cur) := by
  obtain ⟨h1, h2, h3⟩ := st_read hg
  refine ⟨fun e he => ?_, fun hx => ?_, fun hb => by rw [hx] at hb; cases hb⟩
  · rcases List.mem_append.1 he with he | he
    · exact h.lim e he
    · rw [List.mem_singleton.1 he]
      exact ⟨nv_u64 _, h2, h3⟩
  · have := h.eq hx
    rw [rawF_append, rawF_cons, rawF_nil, List.append_nil, List.append_assoc, ← h1]
    exact this
theorem MidQ.rest (h : MidQ s Q cur) (hx : uX s = false) (hl : Q.length ≤ nv s) {Q' : List Ent} (hq : LimQ 48 160 Q') (lq : Q'.length < 18446744073709551616) (he : s = rawS Q') : ∃ R, Q' = Q ++ R ∧ cur = rawF R ∧ LimQ 48 160 R ∧ Q'.length = nv s := by
  have h1 := nv_enc lq (rawF Q')
  have h2 := uB_enc lq (rawF Q')
  have h3 := uB_enc (nv_u64 s) (rawF Q ++ cur)
  have hr : rawS Q' = enc Q'.length ++ rawF Q' := rfl
  rw [← hr, ← he] at h1 h2
  rw [← h.eq hx, h2] at h3
  obtain ⟨R, a, b, c⟩ := raw_prefix (by omega) (by omega) Q h.lim hq (by omega) h3
  exact ⟨R, a, b, c, h1.symm⟩
theorem MidQ.none_bad (h : MidQ s Q cur) (hx : uX s = false) (hl : Q.length < nv s) (hg : stX 48 160 cur = true) : ∀ Q', LimQ 48 160 Q' → Q'.length < 18446744073709551616 → s ≠ rawS Q' := fun Q' hq lq he => by
  obtain ⟨R, h1, h2, h3, h4⟩ := h.rest hx (by omega) hq lq he
  cases R with
  | nil => rw [h1, List.append_nil] at h4; omega
  | cons e R =>
    have := (st_of (by omega) (by omega) (h3 e (List.mem_cons_self ..)) (rawF R)).2.2.2.2
    rw [← rawF_cons, ← h2, hg] at this
    cases this
theorem MidQ.last (h : MidQ s Q []) (hx : uX s = false) (hl : Q.length = nv s) : s = rawS Q := by
  have := h.eq hx
  rw [List.append_nil, ← hl] at this
  exact this
theorem MidQ.none_more (h : MidQ s Q cur) (hx : uX s = false) (hl : Q.length = nv s) (hc : cur ≠ []) : ∀ Q', LimQ 48 160 Q' → Q'.length < 18446744073709551616 → s ≠ rawS Q' := fun Q' hq lq he => by
  obtain ⟨R, h1, h2, h3, h4⟩ := h.rest hx (by omega) hq lq he
  rw [h1, List.length_append] at h4
  have : R = [] := List.length_eq_zero_iff.1 (by omega)
  rw [this] at h2
  exact hc h2
theorem none_u (hx : uX s = true) : ∀ Q', LimQ 48 160 Q' → Q'.length < 18446744073709551616 → s ≠ rawS Q' := fun Q' _ lq he => by
  have := uX_enc lq (rawF Q')
  have hr : rawS Q' = enc Q'.length ++ rawF Q' := rfl
  rw [← hr, ← he, hx] at this
  cases this
theorem bad_zero (h : uX s = true) : nv s = 0 := by unfold nv; rw [if_pos (of_decide_eq_true h)]
end

theorem OwnTb.past {w w' : World} {B g : Nat} {v : Value} {l : List Wr} (h : OwnTb w B v l) (hg : w.grownBy w' (some g)) (hlt : g < B) : OwnTb w' B v l :=
  World.ownsRow.kept h hg (.inr fun e => by have := (World.ownsRow.lt h _ e).1; omega)

set_option maxRecDepth 100000 in
set_option maxHeartbeats 3200000 in
theorem writesOf_any (s : List UInt8) (w : World) (hs : s.length ≤ 1048576) :
    Calls Try.prog 57 #[.string ⟨s.toArray⟩] w (WritesIs w s) := by
  go_enter Try.func57, Try.ntmps57
  go_wp2_with (refine wp_bytes_of rfl _ rfl s rfl (by omega) ?_)
  intro g0 c0 w1 hrow hg0 hb1
  have CR := Lib.hid (read_any _ s w1 hrow.sl)
  have HB1 := Lib.hid hb1
  clear hrow hb1 hg0
  go_wp2_with fail
  refine CR.out.mono ?_
  rintro e w2 ⟨rfl, hrd, hb2⟩
  have HB2 := Lib.hid (HB1.out.trans (hb2.mono HB1.out.size))
  have hgw := HB1.out.size
  have hlt2 := hrd.lt
  generalize w1.heap.size = g at *
  have CU := Lib.hid (ruint_any g s false w2 hrd (Sane.start s) (by omega))
  clear CR hrd hb2 HB1
  go_wp2_with fail
  refine CU.out.mono ?_
  rintro e w3 ⟨rfl, hrd, hgr⟩
  have HR3 := Lib.hid hrd
  have HM3 := Lib.hid (mid_start s)
  have hsz3 : g + 1 ≤ w3.heap.size := Nat.le_trans hlt2 hgr.size
  have HB3 : Hid (Below w.heap.size w w3) := HB2.out.grown hgr (by have := HB2.out.size; omega) (fun k e => by injection e with e; omega)
  have hn := nv_u64 s
  have HN : Hid (uX s = true → nv s = 0) := bad_zero
  obtain ⟨bad, hbad⟩ : ∃ x, uX s = x := ⟨_, rfl⟩
  obtain ⟨n, hnv⟩ : ∃ x, nv s = x := ⟨_, rfl⟩
  have HBAD := Lib.hid hbad
  have HNV := Lib.hid hnv
  rw [hbad] at HR3 HN
  rw [hnv] at hn HN ⊢
  clear CU hrd hgr HB2 hbad hnv hlt2
  go_wp2_with fail
  go_loopw [5, 13] (fun a5 i wr => ∃ (k : Nat) (Q : List Ent) (cur : List UInt8), i = .int .u64 k ∧ k ≤ n ∧ Hid (Q.length = k) ∧ Hid (MidQ s Q cur) ∧ Hid (Rd wr g cur bad) ∧ Hid (OwnTb wr (g + 1) a5 (Q.map toW)) ∧ Hid (Below w.heap.size w wr) ∧ g + 1 ≤ wr.heap.size) (fun _ i _ => n - (intOf i).toNat)
  case atStart => exact ⟨0, [], uB s, rfl, by omega, rfl, HM3.out, HR3.out, OwnTb.nil _ _, HB3.out, hsz3⟩
  case round =>
    clear HM3 HR3 HB3 hsz3
    obtain ⟨k, Q, cur, rfl, hk, hQl, hM, hR, hO, hB, hsz⟩ := hrel
    have hml := hM.out.len
    have hql := hQl.out
    by_cases hlt : k < n
    case pos =>
      obtain rfl : bad = false := by
        cases bad with
        | false => rfl
        | true => have := HN.out rfl; omega
      have CU := Lib.hid (ruint_any g cur false wr hR.out (Sane.start cur) (by omega))
      go_wp2_with fail
      refine CU.out.mono ?_
      rintro e w4 ⟨rfl, hr4, hg4⟩
      have hz4 := Nat.le_trans hsz hg4.size
      have HO4 := Lib.hid (hO.out.past hg4 (by omega))
      have HB4 : Hid (Below w.heap.size w w4) := hB.out.grown hg4 hB.out.size (fun k e => by injection e with e; omega)
      have hl4 := uB_len cur
      obtain ⟨gb, hgb⟩ : ∃ x, (((nv cur : Nat) : Int) == 1) = x := ⟨_, rfl⟩
      have HGB : Hid ((stU cur == 1) = gb) := by
        rw [← hgb]
        unfold Hid stU
        cases h : (nv cur == 1) with
        | true => have := of_decide_eq_true h; rw [this]; rfl
        | false => have := of_decide_eq_false h; symm; simp; omega
      obtain ⟨u, hu⟩ : ∃ x, nv cur = x := ⟨_, rfl⟩
      rw [hu] at hgb ⊢
      have CT := Lib.hid (rtext_any g 48 (uB cur) (uX cur) w4 hr4 (Sane.u cur) (by omega) (by omega))
      clear CU hr4 hg4 hO hB hR hu
      go_wp2_with fail
      refine CT.out.mono ?_
      rintro e w5 ⟨rfl, hr5, hg5⟩
      have hz5 := Nat.le_trans hz4 hg5.size
      have HO5 := Lib.hid (HO4.out.past hg5 (by omega))
      have HB5 : Hid (Below w.heap.size w w5) := HB4.out.grown hg5 HB4.out.size (fun k e => by injection e with e; omega)
      have hl5 := txB_len 48 (uB cur)
      have CV := Lib.hid (rtext_any g 160 (txB 48 (uB cur)) (txX 48 (uB cur)) w5 hr5 (Sane.tx 48 (uB cur)) (by omega) (by omega))
      clear CT hr5 hg5 HO4 HB4
      go_wp2_with fail
      refine CV.out.mono ?_
      rintro e w6 ⟨rfl, hr6, hg6⟩
      have hz6 := Nat.le_trans hz5 hg6.size
      have HO6 := Lib.hid (HO5.out.past hg6 (by omega))
      have HB6 : Hid (Below w.heap.size w w6) := HB5.out.grown hg6 HB5.out.size (fun k e => by injection e with e; omega)
      have hr6 : Rd w6 g (stB 48 160 cur) (stX 48 160 cur) := hr6
      obtain ⟨pk, hpk⟩ : ∃ x, txV 48 (uB cur) = x := ⟨_, rfl⟩
      obtain ⟨pv, hpv⟩ : ∃ x, txV 160 (txB 48 (uB cur)) = x := ⟨_, rfl⟩
      have HP : Hid (toW ⟨stU cur, stK 48 cur, stV 48 160 cur⟩ = ⟨pk, pv, gb⟩) := by
        unfold Hid toW
        dsimp only
        rw [HGB.out, ← hpk, ← hpv]
        rfl
      rw [hpk, hpv]
      have hba : Below w6.heap.size w6 (w6.alloc (.cells #[.string ⟨pk.toArray⟩, .string ⟨pv.toArray⟩, .bool gb] 44)) := (Below.refl _ _).alloc (Nat.le_refl _) _
      have hr7 := hr6.below hba (by omega)
      have CG := Lib.hid (good_any g _ _ _ hr7)
      have HR7 := Lib.hid hr7
      have HO7 := Lib.hid (HO6.out.alloc (.cells #[.string ⟨pk.toArray⟩, .string ⟨pv.toArray⟩, .bool gb] 44))
      have HB7 := Lib.hid (HB6.out.trans (hba.mono HB6.out.size))
      have hz7 := Nat.le_trans hz6 hba.size
      have hrow := heap_alloc_new w6 (.cells #[.string ⟨pk.toArray⟩, .string ⟨pv.toArray⟩, .bool gb] 44)
      obtain ⟨gx, hgx⟩ : ∃ x, stX 48 160 cur = x := ⟨_, rfl⟩
      have HGX := Lib.hid hgx
      rw [hgx] at CG HR7
      have HROW := Lib.hid hrow
      clear CV hr6 hg6 HO5 HB5 HO6 HB6 hpk hpv hba hr7 hgx hrow HGB
      go_wp2_with fail
      generalize w6.alloc (.cells #[.string ⟨pk.toArray⟩, .string ⟨pv.toArray⟩, .bool gb] 44) = w7 at *
      obtain ⟨pb, hpb⟩ : ∃ x, w6.heap.size = x := ⟨_, rfl⟩
      rw [hpb] at HROW ⊢
      refine CG.out.mono ?_
      rintro e w8 ⟨rfl, rfl⟩
      clear CG
      cases gx
      case true =>
        have hno := hM.out.none_bad HBAD.out (by rw [HNV.out]; omega) HGX.out
        have HNO := Lib.hid hno
        clear hno
        go_wp2_with fail
        go_ret2
        exact ⟨_, false, rfl, HB7.out, .inr ⟨rfl, HNO.out⟩⟩
      case false =>
        have hM8 := Lib.hid (hM.out.step HBAD.out HGX.out)
        have hmap : Hid ((Q ++ [(⟨stU cur, stK 48 cur, stV 48 160 cur⟩ : Ent)]).map toW = Q.map toW ++ [⟨pk, pv, gb⟩]) := by
          unfold Hid
          rw [List.map_append, List.map_cons, List.map_nil, HP.out]
        have hmlen : (Q.map toW).length + 1 ≤ 1099511627776 := by rw [List.length_map]; omega
        have c0 := cell_of_row _ _ 0 _ _ _ HROW.out
        have c1 := cell_of_row _ _ 1 _ _ _ HROW.out
        have c2 := cell_of_row _ _ 2 _ _ _ HROW.out
        have hws : IntKind.u64.wrap ((k : Int) + 1) = (k : Int) + 1 := by simp [IntKind.wrap, IntKind.bits, IntKind.signed]; omega
        clear hM HP HROW HGX hml
        go_wp2_with (at_builtin; refine wp_append_new rfl _ _ rfl (⟨pk, pv, gb⟩ : Wr) rfl HO7.out hz7 rfl hmlen ?_
                     intro v9 w9 ho9 hb9 _ hz9
                     have HO9 := Lib.hid ho9
                     have HB9 := Lib.hid (HB7.out.trans (hb9.mono (by omega)))
                     have HR9 := Lib.hid (HR7.out.below hb9 (by omega))
                     clear ho9 hb9)
        go_roundw
        case rel => exact ⟨k + 1, Q ++ [(⟨stU cur, stK 48 cur, stV 48 160 cur⟩ : Ent)], stB 48 160 cur, by go_num, by omega, by unfold Hid; rw [List.length_append, hql]; rfl, hM8.out, HR9.out, by unfold Hid; rw [hmap.out]; exact HO9.out, HB9.out, by omega⟩
        case measure => simp [intOf]; omega
    case neg =>
      have hkn : k = n := by omega
      have CE := Lib.hid (end_any g cur bad wr hR.out)
      obtain ⟨A5, c5, e5, _, _⟩ := hO.out.tbIn.len
      have HT5 := Lib.hid hO.out.tbIn
      subst e5
      go_wp2_with fail
      refine CE.out.mono ?_
      rintro e w4 ⟨rfl, rfl⟩
      clear CE
      go_wp2_with fail
      go_ret2
      refine ⟨_, !bad && cur.isEmpty, rfl, hB.out, ?_⟩
      have hb := HBAD.out
      cases bad with
      | true => exact .inr ⟨rfl, none_u hb⟩
      | false =>
        have hqn : Q.length = nv s := by rw [HNV.out]; omega
        cases cur with
        | nil => exact .inl ⟨rfl, Q, hM.out.lim, by omega, hM.out.last hb hqn, by have := HT5.out; rw [List.length_map, show Q.length = n by omega] at this; exact this⟩
        | cons c r => exact .inr ⟨rfl, hM.out.none_more hb hqn (fun h => by cases h)⟩

end Go.Proofs.Ythgnchgehmakjaa.Cd

namespace Go.Proofs.Ythgnchgehmakjaa.Cd
open Go.RowKit

/-- What Read answers: the table that the bytes tell of, or ErrForm. -/
def ReadsT (w : World) (b : List UInt8) (e : Ending) (w' : World) : Prop :=
  ∃ v n, e = .returned (.tuple #[v, .int .i64 n]) ∧ Below w.heap.size w w' ∧
    ((n = 0 ∧ ∃ T g, v = .pointer (some ⟨g, 0, none⟩) ∧ IsB b T ∧ TabV w' v T) ∨ (n = 4 ∧ v = .pointer none ∧ ∀ T, ¬ IsB b T))

theorem sum_raw (Q : List Ent) : sumW (Q.map toW) ≤ (rawF Q).length := by
  induction Q with
  | nil => simp [sumW]
  | cons e Q ih =>
    rw [List.map_cons, sumW_cons, rawF_cons, List.length_append]
    have h1 := enc_pos e.u
    have h2 : (rawE e).length = (enc e.u).length + ((enc e.k.length).length + e.k.length) + ((enc e.v.length).length + e.v.length) := by
      unfold rawE
      simp only [List.length_append]
    have h3 : (toW e).1 = e.k := rfl
    have h4 : (toW e).2.1 = e.v := rfl
    rw [h3, h4]
    omega
theorem fit_raw {Q : List Ent} (h : LimQ 48 160 Q) : FitW (Q.map toW) := fun p hp => by
  obtain ⟨e, he, rfl⟩ := List.mem_map.1 hp
  have := h e he
  exact ⟨Nat.le_trans this.2.1 (by omega), Nat.le_trans this.2.2 (by omega)⟩
theorem no_many {b cur : List UInt8} {ds : List (List UInt8)} (hb : b.length < 18446744073709551616) (h : Splits b ds cur) (hn : ds.length ≠ 1) (T : List Wr) : ¬ IsB b T := by
  rintro ⟨s, c, h1, _, _⟩
  have := (splits_uniq hb h h1).1
  rw [this] at hn
  exact hn rfl
theorem no_rest {b cur s : List UInt8} (hb : b.length < 18446744073709551616) (h : Splits b [s] cur) (hn : ¬ ∀ c ∈ cur, c = 0) (T : List Wr) : ¬ IsB b T := by
  rintro ⟨s', c, h1, h2, _⟩
  rw [(splits_uniq hb h h1).2] at hn
  exact hn h2
theorem no_form {b cur s : List UInt8} (hb : b.length < 18446744073709551616) (h : Splits b [s] cur) (hn : ∀ T, ¬ IsT s T) (T : List Wr) : ¬ IsB b T := by
  rintro ⟨s', c, h1, _, h3⟩
  have := (splits_uniq hb h h1).1
  injection this with this
  rw [← this] at h3
  exact hn T h3
theorem no_raw {s : List UInt8} (h : ∀ Q, LimQ 48 160 Q → Q.length < 18446744073709551616 → s ≠ rawS Q) (T : List Wr) : ¬ IsT s T := fun hT => by
  obtain ⟨Q, h1, h2, h3, _⟩ := isT_raw hT
  exact h Q h1 h2 h3
theorem no_other {s : List UInt8} {Q : List Ent} (hq : LimQ 48 160 Q) (hl : Q.length < 18446744073709551616) (hs : s = rawS Q) (hn : recW (ofW (Q.map toW)) ≠ s) (T : List Wr) : ¬ IsT s T := fun hT => by
  obtain ⟨Q', h1, h2, h3, h4⟩ := isT_raw hT
  have := raw_uniq (by omega) (by omega) hq h1 hl h2 (hs.symm.trans h3)
  subst this
  rw [← h4] at hT
  exact hn ((tab_of hq hl hs).2 hT)

set_option maxRecDepth 100000 in
set_option maxHeartbeats 3200000 in
theorem tread_any (v : Value) (b : List UInt8) (w : World) (h : Sl w w.heap.size v b) (hb : b.length ≤ 1048576) :
    Calls Try.prog 33 #[v] w (ReadsT w b) := by
  obtain ⟨A, c, rfl, h2, h3⟩ := h.len
  have h3 : c ≤ 9223372036854775807 := h3
  have HS := Lib.hid h
  have CS := Lib.hid (split_any _ b w h hb)
  clear h
  go_enter Try.func33, Try.ntmps33
  go_wp2_with fail
  refine CS.out.mono ?_
  rintro e w1 ⟨u, ds, cur, hsp, rfl, ho, hb1⟩
  have hlen := congrArg List.length hsp.1
  rw [List.length_append] at hlen
  have HSP := Lib.hid hsp
  have HB1 := Lib.hid hb1
  obtain ⟨Au, cu, rfl, _, _⟩ := ho.strs.len
  have HO := Lib.hid ho.strs
  clear hsp hb1 ho CS
  by_cases h1 : ds.length = 1
  case neg =>
    have hq : ((ds.length : Int) == 1) = false := by rw [beq_eq_false_iff_ne]; omega
    have HNO := Lib.hid (no_many (by omega) HSP.out h1)
    go_wp2_with fail
    go_ret2
    exact ⟨_, _, rfl, HB1.out, .inr ⟨rfl, rfl, HNO.out⟩⟩
  case pos =>
    obtain ⟨s, rfl⟩ := List.length_eq_one_iff.1 h1
    have hdrop : Hid (b.drop (flat [s]).length = cur) := by unfold Hid; rw [HSP.out.1, List.drop_left]
    obtain ⟨n, hn⟩ : ∃ x, (flat [s]).length = x := ⟨_, rfl⟩
    rw [hn] at hlen hdrop ⊢
    have hsn : s.length + 5 ≤ n := by rw [← hn, flat_one]; exact frm_ge s
    have HN := Lib.hid hn
    have HLEN := Lib.hid hlen
    have hnb : n ≤ b.length := by omega
    have hnb2 : (n : Int) ≤ b.length := by omega
    clear hn h1 hlen
    by_cases hcn : c = n
    case pos =>
      have hsl := sl_rest (HS.out.below HB1.out) n (by omega) A (fun hq => absurd hcn hq) (fun _ => rfl)
      subst hcn
      rw [hdrop.out, Nat.sub_self, show b.length - c = 0 by omega] at hsl
      have hbc : b.length = c := by omega
      have CZ := Lib.hid (noughts_any _ cur w1 (hsl.more HB1.out.size))
      clear hsl
      go_wp2_with fail
      refine CZ.out.mono ?_
      rintro e w2 ⟨z, rfl, rfl, hz⟩
      clear CZ
      cases z
      case false =>
        have HNO := Lib.hid (no_rest (by omega) HSP.out (fun h => by have := hz.2 h; cases this))
        clear hz
        go_wp2_with fail
        go_ret2
        exact ⟨_, _, rfl, HB1.out, .inr ⟨rfl, rfl, HNO.out⟩⟩
      case true =>
        have HZ := Lib.hid (hz.1 rfl)
        clear hz
        obtain ⟨rb, ro, rc, re, _, _, hrb, hcell⟩ := HO.out.at (by simp)
        injection re with re _ _
        subst re
        have d0 : w1.cell? ⟨rb, ro, none⟩ = some (.string ⟨s.toArray⟩) := hcell 0 (by simp)
        have CW := Lib.hid (writesOf_any s w1 (by omega))
        clear hcell
        go_wp2_with fail
        refine CW.out.mono ?_
        rintro e w2 ⟨v2, ok, rfl, hb2, hans⟩
        have HB2 := Lib.hid (HB1.out.trans (hb2.mono HB1.out.size))
        have d1 := (hb2.cell (p := ⟨rb, ro, none⟩) hrb).trans d0
        have hz2 := hb2.size
        clear CW hb2 d0
        cases ok
        case false =>
          have HNO := Lib.hid (no_form (by omega) HSP.out (no_raw (hans.resolve_left (fun h => by cases h.1)).2))
          clear hans
          go_wp2_with fail
          go_ret2
          exact ⟨_, _, rfl, HB2.out, .inr ⟨rfl, rfl, HNO.out⟩⟩
        case true =>
          obtain ⟨_, Q, hq, hl, hs, hin⟩ := hans.resolve_right (fun h => by cases h.1)
          clear hans
          have hsum := sum_raw Q
          have hrl : (rawF Q).length ≤ s.length := by rw [hs]; unfold rawS; rw [List.length_append]; omega
          have hso := sumW_of (Q.map toW)
          have hml := sumW_len (Q.map toW)
          obtain ⟨A2, c2, rfl, _, _⟩ := hin.len
          have CO := Lib.hid (tof_any _ (Q.map toW) w2 hin (fit_raw hq) (by omega))
          have HQ := Lib.hid hq
          have HL := Lib.hid hl
          have HS2 := Lib.hid hs
          obtain ⟨L, hL⟩ : ∃ L, Q.map toW = L := ⟨_, rfl⟩
          have HQL := Lib.hid hL
          rw [hL] at CO hso hsum hml ⊢
          have hsT : sumW (ofW L) ≤ 1048576 := by omega
          clear hin hq hl hs hL hso hsum hml hrl
          go_wp2_with fail
          refine CO.out.mono ?_
          intro e w3 h1
          obtain ⟨v1, rfl, ⟨g, rfl⟩, ht, hb3⟩ := h1.tab
          have HB3 := Lib.hid (HB2.out.trans (hb3.mono HB2.out.size))
          have d2 := (hb3.cell (p := ⟨rb, ro, none⟩) (by show rb < w2.heap.size; omega)).trans d1
          have hz3 := hb3.size
          have CR := Lib.hid (trecord_any _ (ofW L) w3.drew (ht.below (Below.refl _ _).drew) hsT)
          have HT := Lib.hid ht
          clear CO h1 ht hb3 d1
          obtain ⟨r, hr⟩ : ∃ r, recW (ofW L) = r := ⟨_, rfl⟩
          rw [hr] at CR
          have HRR := Lib.hid hr
          clear hr
          by_cases heq : r = s
          case pos =>
            have hq : (r == s) = true := by simpa using heq
            have HI : Hid (IsB b L ∧ ofW L = L) := by
              have := (tab_of HQ.out HL.out HS2.out).1 (by rw [HQL.out, HRR.out]; exact heq)
              rw [HQL.out] at this
              exact ⟨⟨_, _, HSP.out, HZ.out, this⟩, this.2.1⟩
            clear heq
            go_wp2_with fail
            go_region_held3 (fun W => W.cell? ⟨rb, ro, none⟩ = some (.string ⟨s.toArray⟩)) (first | exact hS4 | exact d2 | assumption) (first
              | (go_at_call 21; (with_reducible refine CR.out.mono ?_); rintro e w4 ⟨rfl, hb4⟩; have hb4 : Below w3.heap.size w3 w4 := (Below.refl _ _).drew.trans hb4; have hS4 : w4.cell? ⟨rb, ro, none⟩ = some (.string ⟨s.toArray⟩) := (hb4.cell (p := ⟨rb, ro, none⟩) (by show rb < w3.heap.size; omega)).trans d2; have HB4 := Lib.hid (HB3.out.trans (hb4.mono HB3.out.size)); have HT4 := Lib.hid (HT.out.below hb4); clear hb4))
            go_wp2_with fail
            go_ret2
            exact ⟨_, _, rfl, HB4.out, .inl ⟨rfl, L, g, rfl, HI.out.1, by have := HT4.out; rw [HI.out.2] at this; exact this⟩⟩
          case neg =>
            have hq : (r == s) = false := by simpa using heq
            have HNO := Lib.hid (no_form (by omega) HSP.out (no_other HQ.out HL.out HS2.out (by rw [HQL.out, HRR.out]; exact heq)))
            clear heq
            go_wp2_with fail
            go_region_held3 (fun W => W.cell? ⟨rb, ro, none⟩ = some (.string ⟨s.toArray⟩)) (first | exact hS4 | exact d2 | assumption) (first
              | (go_at_call 21; (with_reducible refine CR.out.mono ?_); rintro e w4 ⟨rfl, hb4⟩; have hb4 : Below w3.heap.size w3 w4 := (Below.refl _ _).drew.trans hb4; have hS4 : w4.cell? ⟨rb, ro, none⟩ = some (.string ⟨s.toArray⟩) := (hb4.cell (p := ⟨rb, ro, none⟩) (by show rb < w3.heap.size; omega)).trans d2; have HB4 := Lib.hid (HB3.out.trans (hb4.mono HB3.out.size)); have HT4 := Lib.hid (HT.out.below hb4); clear hb4))
            go_wp2_with fail
            go_ret2
            exact ⟨_, _, rfl, HB4.out, .inr ⟨rfl, rfl, HNO.out⟩⟩
    case neg =>
      have hsl := sl_rest (HS.out.below HB1.out) n (by omega) (A.map (fun x => x.add n)) (fun _ => rfl) (fun hq => absurd hq hcn)
      rw [hdrop.out] at hsl
      have CZ := Lib.hid (noughts_any _ cur w1 (hsl.more HB1.out.size))
      clear hsl
      go_wp2_with fail
      refine CZ.out.mono ?_
      rintro e w2 ⟨z, rfl, rfl, hz⟩
      clear CZ
      cases z
      case false =>
        have HNO := Lib.hid (no_rest (by omega) HSP.out (fun h => by have := hz.2 h; cases this))
        clear hz
        go_wp2_with fail
        go_ret2
        exact ⟨_, _, rfl, HB1.out, .inr ⟨rfl, rfl, HNO.out⟩⟩
      case true =>
        have HZ := Lib.hid (hz.1 rfl)
        clear hz
        obtain ⟨rb, ro, rc, re, _, _, hrb, hcell⟩ := HO.out.at (by simp)
        injection re with re _ _
        subst re
        have d0 : w1.cell? ⟨rb, ro, none⟩ = some (.string ⟨s.toArray⟩) := hcell 0 (by simp)
        have CW := Lib.hid (writesOf_any s w1 (by omega))
        clear hcell
        go_wp2_with fail
        refine CW.out.mono ?_
        rintro e w2 ⟨v2, ok, rfl, hb2, hans⟩
        have HB2 := Lib.hid (HB1.out.trans (hb2.mono HB1.out.size))
        have d1 := (hb2.cell (p := ⟨rb, ro, none⟩) hrb).trans d0
        have hz2 := hb2.size
        clear CW hb2 d0
        cases ok
        case false =>
          have HNO := Lib.hid (no_form (by omega) HSP.out (no_raw (hans.resolve_left (fun h => by cases h.1)).2))
          clear hans
          go_wp2_with fail
          go_ret2
          exact ⟨_, _, rfl, HB2.out, .inr ⟨rfl, rfl, HNO.out⟩⟩
        case true =>
          obtain ⟨_, Q, hq, hl, hs, hin⟩ := hans.resolve_right (fun h => by cases h.1)
          clear hans
          have hsum := sum_raw Q
          have hrl : (rawF Q).length ≤ s.length := by rw [hs]; unfold rawS; rw [List.length_append]; omega
          have hso := sumW_of (Q.map toW)
          have hml := sumW_len (Q.map toW)
          obtain ⟨A2, c2, rfl, _, _⟩ := hin.len
          have CO := Lib.hid (tof_any _ (Q.map toW) w2 hin (fit_raw hq) (by omega))
          have HQ := Lib.hid hq
          have HL := Lib.hid hl
          have HS2 := Lib.hid hs
          obtain ⟨L, hL⟩ : ∃ L, Q.map toW = L := ⟨_, rfl⟩
          have HQL := Lib.hid hL
          rw [hL] at CO hso hsum hml ⊢
          have hsT : sumW (ofW L) ≤ 1048576 := by omega
          clear hin hq hl hs hL hso hsum hml hrl
          go_wp2_with fail
          refine CO.out.mono ?_
          intro e w3 h1
          obtain ⟨v1, rfl, ⟨g, rfl⟩, ht, hb3⟩ := h1.tab
          have HB3 := Lib.hid (HB2.out.trans (hb3.mono HB2.out.size))
          have d2 := (hb3.cell (p := ⟨rb, ro, none⟩) (by show rb < w2.heap.size; omega)).trans d1
          have hz3 := hb3.size
          have CR := Lib.hid (trecord_any _ (ofW L) w3.drew (ht.below (Below.refl _ _).drew) hsT)
          have HT := Lib.hid ht
          clear CO h1 ht hb3 d1
          obtain ⟨r, hr⟩ : ∃ r, recW (ofW L) = r := ⟨_, rfl⟩
          rw [hr] at CR
          have HRR := Lib.hid hr
          clear hr
          by_cases heq : r = s
          case pos =>
            have hq : (r == s) = true := by simpa using heq
            have HI : Hid (IsB b L ∧ ofW L = L) := by
              have := (tab_of HQ.out HL.out HS2.out).1 (by rw [HQL.out, HRR.out]; exact heq)
              rw [HQL.out] at this
              exact ⟨⟨_, _, HSP.out, HZ.out, this⟩, this.2.1⟩
            clear heq
            go_wp2_with fail
            go_region_held3 (fun W => W.cell? ⟨rb, ro, none⟩ = some (.string ⟨s.toArray⟩)) (first | exact hS4 | exact d2 | assumption) (first
              | (go_at_call 21; (with_reducible refine CR.out.mono ?_); rintro e w4 ⟨rfl, hb4⟩; have hb4 : Below w3.heap.size w3 w4 := (Below.refl _ _).drew.trans hb4; have hS4 : w4.cell? ⟨rb, ro, none⟩ = some (.string ⟨s.toArray⟩) := (hb4.cell (p := ⟨rb, ro, none⟩) (by show rb < w3.heap.size; omega)).trans d2; have HB4 := Lib.hid (HB3.out.trans (hb4.mono HB3.out.size)); have HT4 := Lib.hid (HT.out.below hb4); clear hb4))
            go_wp2_with fail
            go_ret2
            exact ⟨_, _, rfl, HB4.out, .inl ⟨rfl, L, g, rfl, HI.out.1, by have := HT4.out; rw [HI.out.2] at this; exact this⟩⟩
          case neg =>
            have hq : (r == s) = false := by simpa using heq
            have HNO := Lib.hid (no_form (by omega) HSP.out (no_other HQ.out HL.out HS2.out (by rw [HQL.out, HRR.out]; exact heq)))
            clear heq
            go_wp2_with fail
            go_region_held3 (fun W => W.cell? ⟨rb, ro, none⟩ = some (.string ⟨s.toArray⟩)) (first | exact hS4 | exact d2 | assumption) (first
              | (go_at_call 21; (with_reducible refine CR.out.mono ?_); rintro e w4 ⟨rfl, hb4⟩; have hb4 : Below w3.heap.size w3 w4 := (Below.refl _ _).drew.trans hb4; have hS4 : w4.cell? ⟨rb, ro, none⟩ = some (.string ⟨s.toArray⟩) := (hb4.cell (p := ⟨rb, ro, none⟩) (by show rb < w3.heap.size; omega)).trans d2; have HB4 := Lib.hid (HB3.out.trans (hb4.mono HB3.out.size)); have HT4 := Lib.hid (HT.out.below hb4); clear hb4))
            go_wp2_with fail
            go_ret2
            exact ⟨_, _, rfl, HB4.out, .inr ⟨rfl, rfl, HNO.out⟩⟩

end Go.Proofs.Ythgnchgehmakjaa.Cd

/-
  Load: the table that lies in a file's pages. Conditions: no more than 2000 pages.
-/
namespace Go.Proofs.Ythgnchgehmakjaa.Cd
open Go.RowKit

theorem treads_in {D : Dsk} {n q : List UInt8} {k : Nat} {w w' : World} {e : Ending} (ho : D.off = false) (hk : (pagesF D.now n)[k]? = some q) (h : ReadsD D n (k : Int) w e w') :
    q.length = 512 ∧ e = .returned (.tuple #[.slice (some ⟨w.heap.size, 0, none⟩) 512 512, .int .i64 0]) ∧ w' = w.alloc (.cells (vb q).toArray 98) := by
  obtain ⟨hlt, hq⟩ := List.getElem?_eq_some_iff.1 hk
  have hr : readD D n (k : Int) = (q, 0) := by
    unfold readD
    rw [if_neg (by rw [ho]; simp), if_neg (by omega), Int.toNat_natCast, List.getD_eq_getElem?_getD, hk]
    rfl
  rcases h with ⟨p, h1, h2, h3, h4⟩ | ⟨m, h1, h2, _⟩
  · rw [hr] at h1
    injection h1 with h1
    subst h1
    exact ⟨h2, h3, h4⟩
  · rw [hr] at h2
    injection h2 with _ h2
    exact absurd h2.symm h1
/-- What Read answers of a page that isn't there. -/
theorem treads_no {D : Dsk} {n : List UInt8} {i : Int} {w w' : World} {e : Ending} {m : Nat} (hr : readD D n i = ([], m)) (hm : m ≠ 0) (h : ReadsD D n i w e w') :
    e = .returned (.tuple #[.slice none 0 0, .int .i64 m]) ∧ Below w.heap.size w w' := by
  rcases h with ⟨p, h1, h2, h3, h4⟩ | ⟨k, h1, h2, h3, h4⟩
  · rw [hr] at h1
    injection h1 with _ h1
    exact absurd h1 hm
  · rw [hr] at h2
    injection h2 with _ h2
    rw [h2]
    exact ⟨h3, h4⟩

/-- A page that was read lies whole in its block. -/
theorem tsl_page {w : World} {g : Nat} {q : List UInt8} (hl : q.length = 512) (T : TypeId) (hg : w.heap[g]? = some (.cells (vb q).toArray T)) : Sl w w.heap.size (.slice (some ⟨g, 0, none⟩) 512 512) q := by
  refine ⟨_, 512, by rw [hl], by omega, by decide, (fun h => by cases h), fun ad e _ => ?_, fun ad e j u hu => ?_⟩
  · injection e with e
    subst e
    exact (Array.getElem?_eq_some_iff.1 hg).1
  · injection e with e
    subst e
    rw [Addr.add_lit, Nat.zero_add, cell_of_row _ _ _ _ _ _ hg, List.getElem?_toArray]
    exact hu

/-- append of bytes that are some onto a slice without spare room, or a row of the call's own. -/
theorem wp_append_outs {w : World} {ops : Array Oper} {rest : List Oper} {o : Oper} {a : Act} {Q : Exit → Act → World → Prop} (hgd : o.guard = none) (s x : Operand)
    (hop : o.op = .call { callee := .builtin .append, args := #[s, x], argTypes := #[31, 31] })
    (B : Nat) (v : Value) (bs : List UInt8) (hs : a.eval s = v) (ho : Out w B v bs) (hB : B ≤ w.heap.size) (y : Value) (B' : Nat) (ns : List UInt8) (hx : a.eval x = y) (hy : Sl w B' y ns)
    (h1 : 1 ≤ ns.length) (hm : bs.length + ns.length ≤ 140737488355328)
    (hK : ∀ v' w', Own w' B v' (bs ++ ns) → Below B w w' → wpList Try.prog ops Q rest (a.put o.dst v') w') : wpList Try.prog ops Q (o :: rest) a w := by
  obtain ⟨A, c, rfl, e2, _, e4, _, e6⟩ := hy
  cases A with
  | none => have := e4 rfl; omega
  | some ad => exact wp_append_out hgd s x hop B v bs hs ho hB ad c ns hx h1 (e6 ad rfl) hm hK

theorem pages_flat_take {P : List (List UInt8)} {k : Nat} {q : List UInt8} (hq : P[k]? = some q) : (P.take (k + 1)).flatten = (P.take k).flatten ++ q := by
  obtain ⟨h1, h2⟩ := List.getElem?_eq_some_iff.1 hq
  rw [List.take_succ_eq_append_getElem h1, h2, List.flatten_append]
  simp

set_option maxRecDepth 100000 in
set_option maxHeartbeats 1600000 in
theorem tload_some (g N : Nat) (n : List UInt8) (S : Nat → Prop) (D : Dsk) (w : World) (hd : DkS w g N S D) (ho : D.off = false) (hn : n.length ≤ 140737488355000) (h0 : 0 < (pagesF D.now n).length) (hc : (pagesF D.now n).length ≤ 2000) :
    Calls Try.prog 14 #[.pointer (some ⟨g, 0, none⟩), .string ⟨n.toArray⟩] w (ReadsT w (pagesF D.now n).flatten) := by
  obtain ⟨P, hP⟩ : ∃ x, pagesF D.now n = x := ⟨_, rfl⟩
  have HC : ∀ W, DkS W g N S D → Calls Try.prog 32 #[.pointer (some ⟨g, 0, none⟩), .string ⟨n.toArray⟩] W (fun e w' => e = .returned (.int .i64 (P.length : Nat)) ∧ w' = W) := fun W hW => by
    have := count_dks g N S D n W hW ho (by omega)
    rwa [hP] at this
  have HC := Lib.hid HC
  rw [hP] at hc h0
  have HP := Lib.hid hP
  rw [hP]
  obtain ⟨q0, hq0⟩ : ∃ q, P[0]? = some q := ⟨P[0], List.getElem?_eq_getElem h0⟩
  have HQ0 : Hid ((pagesF D.now n)[0]? = some q0) := by unfold Hid; rw [hP]; exact hq0
  have HR0 := Lib.hid (read_dks g N S D n w ((0 : Nat) : Int) hd (by omega) (WalkArith.wf_i64 (by omega)))
  have HT1 := Lib.hid (pages_flat_take hq0)
  have HD := Lib.hid hd
  have hc' : (P.length : Int) ≤ 2000 := by omega
  clear hd hP hq0
  go_enter Try.func14, Try.ntmps14
  go_wp2_with fail
  refine HR0.out.mono ?_
  intro e w1 hr
  obtain ⟨hq, rfl, rfl⟩ := treads_in ho HQ0.out hr
  have hb1 : Below w.heap.size w (w.alloc (.cells (vb q0).toArray 98)) := (Below.refl _ _).alloc (Nat.le_refl _) _
  have hsl1 := tsl_page hq 98 (heap_alloc_new w (.cells (vb q0).toArray 98))
  have e1 : (P.take 1).flatten = q0 := by have := HT1.out; simpa using this
  have hout1 : Out (w.alloc (.cells (vb q0).toArray 98)) w.heap.size (.slice (some ⟨w.heap.size, 0, none⟩) 512 512) (P.take 1).flatten := by
    rw [e1]
    obtain ⟨A, c, e, _, _, _, _, e6⟩ := hsl1
    injection e with e _ _
    exact .inr ⟨_, by rw [hq], (fun h => by cases h), fun ad ha => e6 ad (e.symm.trans ha)⟩
  obtain ⟨w1, hw1⟩ : ∃ x, w.alloc (.cells (vb q0).toArray 98) = x := ⟨_, rfl⟩
  rw [hw1] at hb1 hsl1 hout1 ⊢
  rw [← e1] at hsl1 hq
  have HB1 := Lib.hid hb1
  have HS1 := Lib.hid hsl1
  have HO1 := Lib.hid hout1
  have HL1 := Lib.hid hq
  clear hr hb1 hsl1 hout1 hq hw1 HT1 HQ0 HR0 e1
  go_wp2_with fail
  go_loopw [6, 8] (fun b i wr => ∃ k : Nat, i = .int .i64 k ∧ k ≤ P.length ∧ 1 ≤ k ∧ Hid (Out wr w.heap.size b (P.take k).flatten) ∧ Hid (Sl wr wr.heap.size b (P.take k).flatten) ∧ Hid ((P.take k).flatten.length = 512 * k) ∧ Hid (Below w.heap.size w wr)) (fun _ i _ => P.length - (intOf i).toNat)
  case atStart => exact ⟨1, rfl, by omega, by omega, HO1, HS1, HL1, HB1⟩
  case round =>
    obtain ⟨k, rfl, hk, hk1, hout, hsl, hlen, hbl⟩ := hrel
    have CC := Lib.hid (HC.out wr (HD.out.below hbl.out))
    by_cases hlt : k < P.length
    · obtain ⟨q, hq⟩ : ∃ q, P[k]? = some q := ⟨P[k], List.getElem?_eq_getElem hlt⟩
      have HR := Lib.hid (read_dks g N S D n wr (k : Int) (HD.out.below hbl.out) (by omega) (WalkArith.wf_i64 (by omega)))
      have HQ2 : Hid ((pagesF D.now n)[k]? = some q) := by unfold Hid; rw [HP.out]; exact hq
      have HTK := Lib.hid (pages_flat_take hq)
      obtain ⟨L, hL⟩ : ∃ x, (P.take k).flatten = x := ⟨_, rfl⟩
      rw [hL] at hout hsl hlen HTK
      have hzb := hbl.out.size
      clear hq hL hsl
      go_wp2_with fail
      refine CC.out.mono ?_
      rintro e w2 ⟨rfl, rfl⟩
      go_wp2_with fail
      refine HR.out.mono ?_
      intro e w3 hr
      obtain ⟨hql, rfl, rfl⟩ := treads_in ho HQ2.out hr
      have hb3 : Below w2.heap.size w2 (w2.alloc (.cells (vb q).toArray 98)) := (Below.refl _ _).alloc (Nat.le_refl _) _
      have HSL3 := Lib.hid (tsl_page hql 98 (heap_alloc_new w2 (.cells (vb q).toArray 98)))
      have HO3 := Lib.hid (hout.out.alloc (.cells (vb q).toArray 98))
      have HB3 := Lib.hid (hbl.out.trans (hb3.mono hzb))
      have hz3 : w.heap.size ≤ (w2.alloc (.cells (vb q).toArray 98)).heap.size := by simp; omega
      obtain ⟨w3, hw3⟩ : ∃ x, w2.alloc (.cells (vb q).toArray 98) = x := ⟨_, rfl⟩
      rw [hw3] at HSL3 HO3 HB3 hz3 ⊢
      clear hr hw3 hb3 hout CC HR HQ2
      go_wp2_with (at_builtin; refine wp_append_outs rfl _ _ rfl w.heap.size _ L rfl HO3.out hz3 _ w3.heap.size q rfl HSL3.out (by omega) ?hm ?hK)
      case hm => rw [hlen.out]; omega
      case hK =>
        intro v' w' ho' hb'
        have HO := Lib.hid ho'
        have HB := Lib.hid (HB3.out.trans hb')
        clear ho' hb'
        go_wp2_with fail
        go_roundw
        case rel =>
          refine ⟨k + 1, by go_num, by omega, by omega, ?_, ?_, ?_, HB⟩
          · unfold Hid
            rw [HTK.out]
            exact .inl HO.out
          · unfold Hid
            rw [HTK.out]
            exact HO.out.sl
          · unfold Hid
            rw [HTK.out, List.length_append, hlen.out, hql]
            omega
        case measure => simp [intOf]; omega
    · have hkP : k = P.length := by omega
      have htk : Hid (P.take k = P) := by unfold Hid; rw [hkP, List.take_length]
      have hlt' : ¬ (k : Int) < P.length := by omega
      have hs4 := hsl.out
      rw [htk.out] at hs4
      have HS4 := Lib.hid hs4
      clear hs4
      have hPl : P.flatten.length ≤ 1048576 := by have := hlen.out; rw [htk.out] at this; omega
      obtain ⟨Bs, hBs⟩ : ∃ x, P.flatten = x := ⟨_, rfl⟩
      rw [hBs] at HS4 hPl
      have HBS := Lib.hid hBs
      have CT := Lib.hid (tread_any _ Bs wr HS4.out hPl)
      obtain ⟨A4, c4, rfl, _, _⟩ := HS4.out.len
      clear hkP hBs hout hsl hlen HS4
      go_wp2_with fail
      refine CC.out.mono ?_
      rintro e w2 ⟨rfl, rfl⟩
      go_wp2_with fail
      refine CT.out.mono ?_
      rintro e w3 ⟨v3, n3, rfl, hb3, hans⟩
      have HB3 := Lib.hid (hbl.out.trans (hb3.mono hbl.out.size))
      have HAN := Lib.hid hans
      clear hb3 hans CT CC
      go_wp2_with fail
      go_ret2
      rw [HBS.out]
      exact ⟨v3, n3, rfl, HB3.out, HAN.out⟩

/-- Where the file can't be read, or has no page, Load says why. -/
theorem tload_no (g N m : Nat) (n : List UInt8) (S : Nat → Prop) (D : Dsk) (w : World) (hd : DkS w g N S D) (hn : n.length ≤ 140737488355000) (hr : readD D n 0 = ([], m)) (hm : m ≠ 0) :
    Calls Try.prog 14 #[.pointer (some ⟨g, 0, none⟩), .string ⟨n.toArray⟩] w (fun e w' => e = .returned (.tuple #[.pointer none, .int .i64 m]) ∧ Below w.heap.size w w') := by
  have HR0 := Lib.hid (read_dks g N S D n w ((0 : Nat) : Int) hd (by omega) (WalkArith.wf_i64 (by omega)))
  have HRD := Lib.hid hr
  have hm' : ¬ (m : Int) = 0 := by omega
  clear hd hr
  go_enter Try.func14, Try.ntmps14
  go_wp2_with fail
  refine HR0.out.mono ?_
  intro e w1 hr
  obtain ⟨rfl, hb⟩ := treads_no HRD.out hm hr
  have HB := Lib.hid hb
  clear hr hb HR0 HRD
  go_wp2_with fail
  go_ret2
  exact ⟨rfl, HB.out⟩

theorem tload_nil (n : List UInt8) (w : World) :
    Calls Try.prog 14 #[.pointer none, .string ⟨n.toArray⟩] w (fun e w' => e = .returned (.tuple #[.pointer none, .int .i64 2]) ∧ Below w.heap.size w w') := by
  have HR0 := Lib.hid (read_nil ⟨n.toArray⟩ 0 w)
  go_enter Try.func14, Try.ntmps14
  go_wp2_with fail
  refine HR0.out.mono ?_
  rintro e w1 ⟨rfl, hb⟩
  have HB := Lib.hid hb
  clear hb HR0
  go_wp2_with fail
  go_ret2
  exact ⟨rfl, HB.out⟩

end Go.Proofs.Ythgnchgehmakjaa.Cd

/-
  The document's Long: are there keys or values that are too long. Conditions: none.
-/
namespace Go.Proofs.Ythgnchgehmakjaa.Cd
open Go.RowKit

theorem TbIn.up {w w' : World} {v : Value} {l : List Wr} (h : TbIn w w.heap.size v l) (hb : Below w.heap.size w w') : TbIn w' w'.heap.size v l := (h.below hb).more hb.size

/-- What Long answers. -/
def LongIs (w : World) (l : List Wr) (e : Ending) (w' : World) : Prop := ∃ g : Bool, e = .returned (.bool g) ∧ Below w.heap.size w w' ∧ (g = false ↔ LimT 48 160 l)

set_option maxRecDepth 100000 in
set_option maxHeartbeats 1600000 in
theorem rlong_any (v : Value) (l : List Wr) (w : World) (h : TbIn w w.heap.size v l) :
    Calls Try.prog 6 #[v] w (LongIs w l) := by
  obtain ⟨A, c, rfl, hm1, hm2⟩ := h.len
  have H := Lib.hid h
  clear h
  go_enter Try.func6, Try.ntmps6
  go_wp2_with fail
  go_loopw [7] (fun i wr => ∃ (k : Nat), i = .int .i64 k ∧ k ≤ l.length ∧ Hid (LimT 48 160 (l.take k)) ∧ Hid (Below w.heap.size w wr)) (fun i _ => l.length - (intOf i).toNat)
  case atStart => exact ⟨0, rfl, by omega, fun p hp => by simp at hp, Below.refl _ _⟩
  case round =>
    obtain ⟨k, rfl, hk, hst, hb⟩ := hrel
    by_cases hlt : k < l.length
    · obtain ⟨p, hpk⟩ : ∃ p, l[k]? = some p := ⟨l[k], List.getElem?_eq_getElem hlt⟩
      obtain ⟨b2, off2, e2, hB2, d0, d1, d2⟩ := (H.out.below hb.out).at hpk
      subst e2
      have hmem := List.mem_of_getElem? hpk
      have htk : Hid (l.take (k + 1) = l.take k ++ [p]) := by
        obtain ⟨h1, h2⟩ := List.getElem?_eq_some_iff.1 hpk
        unfold Hid
        rw [List.take_succ_eq_append_getElem h1, h2]
      have hb2 : Hid (Below w.heap.size w (wr.alloc (.cells #[.string ⟨p.1.toArray⟩, .string ⟨p.2.1.toArray⟩, .bool p.2.2] 44))) := hb.out.trans (((Below.refl _ _).alloc (Nat.le_refl _) _).mono hb.out.size)
      have hno : Hid (¬ (p.1.length ≤ 48 ∧ p.2.1.length ≤ 160) → (true = false ↔ LimT 48 160 l)) := fun hn => ⟨(fun h => by cases h), fun h => absurd (h p hmem) hn⟩
      clear hpk hmem hb
      have hways : 48 < p.1.length ∨ (¬ 48 < p.1.length ∧ 160 < p.2.1.length) ∨ (¬ 48 < p.1.length ∧ ¬ 160 < p.2.1.length) := by omega
      rcases hways with h1 | ⟨h1, h2⟩ | ⟨h1, h2⟩
      · have h1' : (48 : Int) < p.1.length := by omega
        go_wp2_with fail
        go_ret
        exact ⟨true, rfl, hb2.out, hno.out (by omega)⟩
      · have h1' : ¬ (48 : Int) < p.1.length := by omega
        have h2' : (160 : Int) < p.2.1.length := by omega
        go_wp2_with fail
        go_ret
        exact ⟨true, rfl, hb2.out, hno.out (by omega)⟩
      · have h1' : ¬ (48 : Int) < p.1.length := by omega
        have h2' : ¬ (160 : Int) < p.2.1.length := by omega
        go_wp2_with fail
        go_roundw
        case rel => exact ⟨k + 1, by go_num, by omega, fun q hq => by
          rw [htk.out] at hq
          rcases List.mem_append.1 hq with hq | hq
          · exact hst.out q hq
          · rw [List.mem_singleton.1 hq]; omega, hb2.out⟩
        case measure => simp [intOf]; omega
    · go_wp2_with fail
      go_ret
      refine ⟨false, rfl, hb.out, fun _ => ?_, fun _ => rfl⟩
      have := hst.out
      rw [List.take_of_length_le (by omega)] at this
      exact this

end Go.Proofs.Ythgnchgehmakjaa.Cd

/-
  TableSaves: a table beside a disk, the law's walk. Conditions: none.
-/
namespace Go.Proofs.Ythgnchgehmakjaa.Cd
open Go.RowKit Go.Shelf

/-- The table X lies at t, in none of the blocks of S. -/
def TabFar (w : World) (S : Nat → Prop) (t : Nat) (X : List Wr) : Prop := ¬ S t ∧ ∃ b, t < w.heap.size ∧ w.cell? ⟨t, 0, none⟩ = some (.map (some b)) ∧ TabM w b X ∧ ¬ S b
section
variable {w w' : World} {S : Nat → Prop} {t g N M : Nat} {X : List Wr} {D : Dsk}
theorem TabFar.tab (h : TabFar w S t X) : TabV w (.pointer (some ⟨t, 0, none⟩)) X := by
  obtain ⟨_, b, h1, h2, h3, _⟩ := h
  exact .inr ⟨t, rfl, b, h1, h2, h3⟩
theorem TabFar.below (h : TabFar w S t X) (hb : Below w.heap.size w w') : TabFar w' S t X := by
  obtain ⟨h0, b, h1, h2, h3, h4⟩ := h
  exact ⟨h0, b, Nat.lt_of_lt_of_le h1 hb.size, (hb.cell (p := ⟨t, 0, none⟩) h1).trans h2, h3.below hb, h4⟩
theorem TabFar.apart (h : TabFar w S t X) (ha : Apart S w w') : TabFar w' (since S w w') t X := by
  obtain ⟨h0, b, h1, h2, h3, h4⟩ := h
  have hlt := h3.lt
  refine ⟨fun e => ?_, b, Nat.lt_of_lt_of_le h1 ha.size, (ha.cell (p := ⟨t, 0, none⟩) h1 h0).trans h2, ⟨h3.1.apart ha h4, h3.2⟩, fun e => ?_⟩
  · rcases e with e | e
    · exact h0 e
    · omega
  · rcases e with e | e
    · exact h4 e
    · omega

/-- Since w0: the disk D lies at g, the table X at t; nothing that lay before has turned. -/
def Held10 (w0 : World) (g N : Nat) (D : Dsk) (t : Nat) (X : List Wr) (w : World) : Prop := ∃ S : Nat → Prop, DkS w g N S D ∧ TabFar w S t X ∧ (∀ k, S k → w0.heap.size ≤ k) ∧ Below w0.heap.size w0 w
variable {w0 : World}
theorem Held10.below (h : Held10 w0 g N D t X w) (hb : Below w.heap.size w w') : Held10 w0 g N D t X w' := by
  obtain ⟨S, h1, h2, h3, h4⟩ := h
  exact ⟨S, h1.below hb, h2.below hb, h3, h4.trans (hb.mono h4.size)⟩
theorem Held10.go (h : Held10 w0 g N D t X w) : ∃ S : Nat → Prop, DkS w g N S D ∧ TabV w (.pointer (some ⟨t, 0, none⟩)) X ∧ ∀ (e : Ending) (v : Value) (M : Nat) (D' : Dsk) (w' : World), MakesD g M S D' v w e w' → Held10 w0 g M D' t X w' := by
  obtain ⟨S, h1, h2, h3, h4⟩ := h
  refine ⟨S, h1, h2.tab, fun e v M D' w' hm => ?_⟩
  obtain ⟨_, m2, m3⟩ := hm
  exact ⟨_, m2, h2.apart m3, fun k hk => hk.elim (h3 k) (fun hk => Nat.le_trans h4.size hk.1), h4.trans (m3.low h4.size h3)⟩
theorem Held10.since (h : Held10 w0 g N D t X w) : Below w0.heap.size w0 w := by obtain ⟨_, _, _, _, h⟩ := h; exact h
theorem Held10.tab (h : Held10 w0 g N D t X w) : TabV w (.pointer (some ⟨t, 0, none⟩)) X := by obtain ⟨_, _, h, _⟩ := h; exact h.tab
end

/-- What a Save on a new disk leaves: all is told. -/
structure Saved (D : Dsk) (b : List UInt8) (e : Nat) : Prop where
  ways : (e = 0 ∧ D.off = false ∧ Laid1 D [115] (pagesB b)) ∨ (e = 8 ∧ D.off = true ∧ Lone D [115])
  room : D.room ≤ 60

theorem saved_new (room : Nat) (n : Int) (keep : Nat) (b : List UInt8) (h0 : 0 < b.length) (hr : room ≤ 60) (hp : pagesOf b.length ≤ room) : Saved (saveD (armD (newD room) n keep) [115] b).1 b (saveD (armD (newD room) n keep) [115] b).2 := by
  have hroom : (newD room).room = room := (new_roomy (room := room) (by omega)).room
  rcases ((lone_new (room : Int) [115]).arm n keep).save (b := b) rfl rfl (by show pagesOf b.length ≤ (newD room).room; omega) h0 with ⟨a1, a2, a3, a4⟩ | ⟨a1, a2, a3, a4⟩
  · exact ⟨.inl ⟨a1, a2, a3⟩, by rw [a4]; show (newD room).room ≤ 60; omega⟩
  · exact ⟨.inr ⟨a1, a2, a3⟩, by rw [a4]; show (newD room).room ≤ 60; omega⟩

/-- The power is off, then on again. -/
theorem Saved.lose {D : Dsk} {b : List UInt8} {e : Nat} (h : Saved D b e) (k : Nat) : (lose D k).off = true ∧ Lone (lose D k) [115] ∧ (pagesF (lose D k).now [115]).length ≤ 60 ∧ (e = 0 → pagesF (lose D k).now [115] = pagesB b) := by
  have hrl : (Cd.lose D k).room = D.room := by
    by_cases h0 : D.off = true
    · rw [lose_again h0]
    · exact (lose_is (by simpa using h0) k).2.2.2.1
  rcases h.ways with ⟨h1, h2, h3⟩ | ⟨h1, h2, h3⟩
  · obtain ⟨q1, q2⟩ := h3.lose h2 k
    exact ⟨lose_off _ _, q1, by have := q1.len; have := h.room; omega, fun _ => q2⟩
  · have q1 := h3.lose k
    exact ⟨lose_off _ _, q1, by have := q1.len; have := h.room; omega, fun e => by omega⟩

theorem read_off {D : Dsk} (h : D.off = true) (n : List UInt8) (i : Int) : readD D n i = ([], 8) := by unfold readD; rw [if_pos h]
theorem read_none {D : Dsk} (h : D.off = false) {n : List UInt8} (h2 : pagesF D.now n = []) : readD D n 0 = ([], 5) := by unfold readD; rw [if_neg (by rw [h]; simp), if_pos (by rw [h2]; simp)]

/-- What Load answers of any file: a table, or an error. -/
theorem tload_any (g N : Nat) (n : List UInt8) (S : Nat → Prop) (D : Dsk) (w : World) (hd : DkS w g N S D) (ho : D.off = false) (hn : n.length ≤ 140737488355000) (hc : (pagesF D.now n).length ≤ 2000) :
    Calls Try.prog 14 #[.pointer (some ⟨g, 0, none⟩), .string ⟨n.toArray⟩] w (fun e w' => ∃ (p : Option Addr) (m : Nat), e = .returned (.tuple #[.pointer p, .int .i64 m]) ∧ Below w.heap.size w w' ∧
      ((m = 0 ∧ ∃ T t, p = some ⟨t, 0, none⟩ ∧ IsB (pagesF D.now n).flatten T ∧ TabV w' (.pointer p) T) ∨ (m ≠ 0 ∧ p = none ∧ ∀ T, pagesF D.now n ≠ [] → ¬ IsB (pagesF D.now n).flatten T))) := by
  by_cases h0 : 0 < (pagesF D.now n).length
  · refine (tload_some g N n S D w hd ho hn h0 hc).mono ?_
    rintro e w' ⟨v, m, rfl, hb, ⟨rfl, T, t, rfl, h1, h2⟩ | ⟨rfl, rfl, h1⟩⟩
    · exact ⟨_, 0, rfl, hb, .inl ⟨rfl, T, t, rfl, h1, h2⟩⟩
    · exact ⟨none, 4, rfl, hb, .inr ⟨by omega, rfl, fun T _ => h1 T⟩⟩
  · have he : pagesF D.now n = [] := List.eq_nil_of_length_eq_zero (by omega)
    refine (tload_no g N 5 n S D w hd hn (read_none ho he) (by omega)).mono ?_
    rintro e w' ⟨rfl, hb⟩
    exact ⟨none, 5, rfl, hb, .inr ⟨by omega, rfl, fun T h => absurd he h⟩⟩

set_option maxRecDepth 100000 in
set_option maxHeartbeats 12800000 in
theorem ts_main (va : Value) (l : List Wr) (room n : Int) (keep : Nat) (w : World) (ha : TbIn w w.heap.size va l) (Fl : FitW l) (hn : n ≤ 9223372036854775807) (hk : keep < 18446744073709551616) :
    Calls Try.prog 3 #[va, .int .i64 room, .int .i64 n, .int .u64 keep] w (Gives (.bool true) w) := by
  obtain ⟨A0, c0, rfl, hl1, hl2⟩ := ha.len
  have Ha := Lib.hid ha
  have HB : Hid (Below w.heap.size w w) := Below.refl _ _
  clear ha
  go_enter Try.func3, Try.ntmps3
  have CA := Lib.hid (alive10 w)
  go_wp2_with fail
  refine CA.out.mono ?_
  rintro e w1 ⟨rfl, hbw⟩
  clear CA
  replace Ha := Lib.hid (Ha.out.up hbw)
  replace HB := Lib.hid (HB.out.trans (hbw.mono HB.out.size))
  clear hbw
  have CG := Lib.hid (great10_any _ _ 8192 w1 Ha.out Fl (by omega))
  go_wp2_with fail
  refine CG.out.mono ?_
  rintro e w2 ⟨gr, rfl, hbw, hg⟩
  clear CG
  replace Ha := Lib.hid (Ha.out.up hbw)
  replace HB := Lib.hid (HB.out.trans (hbw.mono HB.out.size))
  clear hbw
  cases gr
  case true =>
    clear hg
    go_wp2_with fail
    go_ret
    exact ⟨rfl, HB.out⟩
  have hsl := hg rfl
  clear hg
  have CL := Lib.hid (rlong_any _ l w2 Ha.out)
  go_wp2_with fail
  refine CL.out.mono ?_
  rintro e w3 ⟨lg, rfl, hbw, hlg⟩
  clear CL
  replace Ha := Lib.hid (Ha.out.up hbw)
  replace HB := Lib.hid (HB.out.trans (hbw.mono HB.out.size))
  clear hbw
  cases lg
  case true =>
    clear hlg
    go_wp2_with fail
    go_ret
    exact ⟨rfl, HB.out⟩
  have hlim : LimT 48 160 l := hlg.1 rfl
  clear hlg
  have hways : room < 0 ∨ (¬ room < 0 ∧ 60 < room) ∨ (0 ≤ room ∧ room ≤ 60) := by omega
  rcases hways with h | ⟨h1, h2⟩ | ⟨h1, h2⟩
  case inl =>
    go_wp2_with fail
    go_ret
    exact ⟨rfl, HB.out⟩
  case inr.inl =>
    go_wp2_with fail
    go_ret
    exact ⟨rfl, HB.out⟩
  obtain ⟨r, rfl⟩ := Int.eq_ofNat_of_zero_le h1
  have h3 : ¬ (r : Int) < 0 := by omega
  have h4 : ¬ (60 : Int) < r := by omega
  have hr60 : r ≤ 60 := by omega
  clear h1 h2
  have CN := Lib.hid (new_dks (r : Int) w3 (by omega) (by omega))
  go_wp2_with fail
  refine CN.out.mono ?_
  rintro e w4 ⟨g, S, rfl, hd, hS, hb4⟩
  have hso := Nat.le_trans (sumW_of l) hsl
  have hll := Nat.le_trans (sumW_len l) hsl
  have CO := Lib.hid (tof_any _ l w4 ((Ha.out.up hb4)) Fl (by omega))
  have HD4 := Lib.hid hd
  have HS4 := Lib.hid hS
  have HB4 := Lib.hid (HB.out.trans (hb4.mono HB.out.size))
  have hlX := of_lim hlim
  have hXX := ofW_self (ofW_srt l) (ofW_flat l)
  have hz34 : w.heap.size ≤ w3.heap.size := HB.out.size
  obtain ⟨X, eX⟩ : ∃ res, ofW l = res := ⟨_, rfl⟩
  rw [eX] at CO hso hlX hXX
  clear hd hS hb4 CN Ha HB hsl hlim eX
  go_wp2_with fail
  refine CO.out.mono ?_
  rintro e w5 ⟨t, b, rfl, ht1, ht2, ht3, hb1, hb2, hb3, hb5⟩
  have hh5 : Held10 w g 0 (newD r) t X w5 := ⟨S, HD4.out.below hb5, ⟨fun e => by have := HD4.out.lt _ e; omega, b, ht2, ht3, hb3, fun e => by have := HD4.out.lt _ e; omega⟩, fun k hk => Nat.le_trans hz34 (HS4.out k hk), HB4.out.trans (hb5.mono HB4.out.size)⟩
  have HH5 := Lib.hid hh5
  clear hh5 hb5 hb3 ht3 CO HD4 HS4 HB4 ht1 ht2 hb1 hb2 hz34
  have hXl := sumW_len X
  have hB0 : 0 < (bytesW X).length := frm_pos _
  have hBl : (bytesW X).length ≤ 31457304 := by have := recW_len X (by omega); have := frm_le (recW X) (by omega); unfold bytesW; omega
  have hTB := isT_self hXX (by omega) hlX
  have hIB : ∀ m U, m ≤ 1048576 → (IsB (bytesW X ++ List.replicate m 0) U ↔ IsT (recW X) U) := fun m U hm => isB_of (by have : (frm (recW X)).length = (bytesW X).length := rfl; omega)
  have CB := Lib.hid (tbytes_any _ X w5 HH5.out.tab (by omega))
  obtain ⟨Bs, hBs⟩ : ∃ x, bytesW X = x := ⟨_, rfl⟩
  have HBS := Lib.hid hBs
  rw [hBs] at CB hB0 hBl hIB
  have HIB := Lib.hid hIB
  have HTB := Lib.hid hTB
  clear hIB hTB hBs hXX hlX
  go_wp2_with fail
  refine CB.out.mono ?_
  rintro e w6 ⟨vb6, rfl, ho6, hb6⟩
  obtain ⟨A6, c6, rfl, _, _⟩ := ho6.sl.len
  have HH6 := Lib.hid (HH5.out.below hb6)
  clear ho6 hb6 CB HH5
  obtain ⟨p, hp⟩ : ∃ x, pagesOf Bs.length = x := ⟨_, rfl⟩
  have hpq : ((Bs.length : Int) + 511) / 512 = (p : Int) := by rw [← hp]; unfold pagesOf; omega
  have hpq2 : ((Bs.length : Int) + 511).tdiv 512 = (p : Int) := by rw [← hpq]; exact Int.tdiv_eq_ediv_of_nonneg (by omega)
  have hpl : p ≤ 70000 := by rw [← hp]; unfold pagesOf; omega
  have HP := Lib.hid hp
  clear hp
  obtain ⟨S6, d6, t6, s6⟩ := HH6.out.go
  have CM := Lib.hid (arm_dks g 0 S6 (newD r) w6 n keep d6 hn hk)
  have HG6 := Lib.hid s6
  clear d6 t6 s6
  go_wp2_with fail
  refine CM.out.mono ?_
  intro e w7 hm
  have HH7 := Lib.hid (HG6.out _ _ _ _ _ hm)
  obtain rfl := hm.1
  clear hm CM HG6 HH6
  obtain ⟨S7, d7, t7, s7⟩ := HH7.out.go
  have CS := tsave_any t g 0 300000 X [115] S7 (armD (newD r) n keep) w7 t7 (by omega) d7 (by simp) (by rw [HBS.out, HP.out]; omega) (by omega)
  rw [HBS.out] at CS
  have CS := Lib.hid CS
  have HG7 := Lib.hid s7
  clear d7 t7 s7
  go_wp2_with fail
  refine CS.out.mono ?_
  intro e w8 hm
  have HH8 := HG7.out _ _ _ _ _ hm
  obtain rfl := hm.1
  clear hm CS HG7 HH7
  by_cases hpr : r < p
  · have hpr' : (r : Int) < p := by omega
    have hfull : saveD (armD (newD r) n keep) [115] Bs = (armD (newD r) n keep, 7) := by
      unfold saveD
      have hrm := (new_roomy (room := r) (by omega)).room
      rw [if_neg (by show ¬ false = true; simp), if_neg (by show ¬ (getF [] [115]).isSome = true; simp [getF]), if_pos]
      rw [HP.out]
      show ((newD r).room : Int) - (count [] : Int) < (p : Int)
      rw [hrm]
      simp [Cd.count]
      omega
    rw [hfull] at HH8 ⊢
    have HH8 := Lib.hid HH8
    obtain ⟨S8, d8, t8, s8⟩ := HH8.out.go
    have CH := has_dks g 300000 S8 (armD (newD r) n keep) [115] w8 d8 rfl (by simp)
    rw [show (getF (armD (newD r) n keep).now [115]).isSome = false from rfl] at CH
    have CH := Lib.hid CH
    clear d8 t8 s8 hfull
    go_wp2_with fail
    refine CH.out.mono ?_
    rintro e w9 ⟨rfl, h⟩
    obtain rfl := h.symm
    go_wp2_with fail
    go_ret
    exact ⟨rfl, HH8.out.since⟩
  have hpr' : ¬ (r : Int) < p := by omega
  have hsv := saved_new r n keep Bs hB0 hr60 (by rw [HP.out]; omega)
  have hfu : (saveD (armD (newD r) n keep) [115] Bs).2 = 0 → n.toNat = 0 ∨ p + 1 < n.toNat := fun h => by have := save_fuse h; rw [HP.out] at this; exact this
  obtain ⟨R, hR⟩ : ∃ x, saveD (armD (newD r) n keep) [115] Bs = x := ⟨_, rfl⟩
  rw [hR] at hsv hfu HH8 ⊢
  obtain ⟨D2, q⟩ := R
  dsimp only at hsv hfu HH8 ⊢
  have HSV := Lib.hid hsv
  have hq : q = 0 ∨ q = 8 := by
    rcases hsv.ways with h | h
    · exact .inl h.1
    · exact .inr h.1
  have HH8 := Lib.hid HH8
  have hnlo : 1 ≤ n → ¬ (n.toNat = 0) := fun h => by omega
  clear hR hsv
  rcases hq with rfl | rfl
  case' inl =>
    have hfu := hfu rfl
    have hsame : saveD D2 [115] (bytesW X) = (D2, 6) := by
      rcases HSV.out.ways with ⟨_, b1, b2⟩ | ⟨b0, _⟩
      · unfold saveD
        rw [if_neg (by rw [b1]; simp), if_pos b2.is]
      · cases b0
    obtain ⟨S8, d8, t8, s8⟩ := HH8.out.go
    have CS := tsave_any t g 300000 600000 X [115] S8 D2 w8 t8 (by omega) d8 (by simp) (by rw [HBS.out, HP.out]; omega) (by omega)
    rw [hsame] at CS
    have CS := Lib.hid CS
    have HG8 := Lib.hid s8
    clear d8 t8 s8 hsame
    go_wp2_with fail
    refine CS.out.mono ?_
    intro e w9 hm
    have HH9 := Lib.hid (HG8.out _ _ _ _ _ hm)
    obtain rfl := hm.1
    clear hm CS HG8 HH8
    have hcond : (n < 1) ∨ (1 ≤ n ∧ ¬ n ≤ (p : Int) + 1) := by omega
    have hcond : Hid (∃ x : Bool, decide (1 ≤ n) = x ∧ (x = true → decide (n ≤ (p : Int) + 1) = false)) := ⟨_, rfl, fun h => by have := of_decide_eq_true h; exact decide_eq_false (by omega)⟩
    obtain ⟨xb, hx1, hx2⟩ := hcond.out
    cases xb
    case' true => have hx2 := hx2 rfl
    all_goals go_wp2_with fail
  case' inr =>
    have HH9 : Hid (Held10 w g 600000 D2 t X w8) := by
      obtain ⟨S8, d8, t8, h3, h4⟩ := HH8.out
      exact ⟨S8, d8.mono (by omega) (by omega), t8, h3, h4⟩
    clear HH8
    go_wp2_with fail
  all_goals
    obtain ⟨S9, d9, t9, s9⟩ := HH9.out.go
    have CF := Lib.hid (off_dks g _ S9 D2 _ keep d9 hk)
    have HG9 := Lib.hid s9
    clear d9 t9 s9
    refine CF.out.mono ?_
    intro e w10 hm
    have HHa := Lib.hid (HG9.out _ _ _ _ _ hm)
    obtain rfl := hm.1
    clear hm CF HG9 HH9
    obtain ⟨o3, l3, c3, p3⟩ := HSV.out.lose keep
    obtain ⟨D3, hD3⟩ : ∃ x, lose D2 keep = x := ⟨_, rfl⟩
    rw [hD3] at o3 l3 c3 p3 HHa
    have L3 := Lib.hid l3
    have P3 := Lib.hid p3
    have O3 := Lib.hid o3
    clear hD3 HSV l3 p3 o3
    obtain ⟨Sa, da, ta, sa⟩ := HHa.out.go
    have CL := Lib.hid (tload_no g _ 8 [115] Sa D3 _ da (by simp) (read_off O3.out _ _) (by omega))
    clear da ta sa
    go_wp2_with fail
    refine CL.out.mono ?_
    rintro e w11 ⟨rfl, hb11⟩
    have HHb := Lib.hid (HHa.out.below hb11)
    clear hb11 CL HHa
    obtain ⟨Sb, db, tb, sb⟩ := HHb.out.go
    have CS := tsave_any t g 600000 900000 X [116] Sb D3 w11 tb (by omega) db (by simp) (by rw [HBS.out, HP.out]; omega) (by omega)
    rw [show saveD D3 [116] (bytesW X) = (D3, 8) from if_pos O3.out] at CS
    have CS := Lib.hid CS
    have HGb := Lib.hid sb
    clear db tb sb
    go_wp2_with fail
    refine CS.out.mono ?_
    intro e w12 hm
    have HHc := Lib.hid (HGb.out _ _ _ _ _ hm)
    obtain rfl := hm.1
    clear hm CS HGb HHb
    obtain ⟨Sc, dc, tc, sc⟩ := HHc.out.go
    have CO := Lib.hid (on_dks g _ Sc D3 _ dc)
    have HGc := Lib.hid sc
    clear dc tc sc
    go_wp2_with fail
    refine CO.out.mono ?_
    intro e w13 hm
    have HHd := Lib.hid (HGc.out _ _ _ _ _ hm)
    obtain rfl := hm.1
    clear hm CO HGc HHc
    obtain ⟨Sd, dd, td, sd⟩ := HHd.out.go
    have CL := Lib.hid (tload_any g _ [115] Sd (onD D3) _ dd rfl (by simp) (by show (pagesF D3.now [115]).length ≤ 2000; omega))
    clear dd td sd
    go_wp2_with fail
    refine CL.out.mono ?_
    rintro e w14 ⟨px, mx, rfl, hb14, hans⟩
    have HHe := Lib.hid (HHd.out.below hb14)
    have HAN := Lib.hid hans
    clear hb14 hans CL HHd
    obtain ⟨Se, de, te, se⟩ := HHe.out.go
    have CL := Lib.hid (tload_no g _ 5 [116] Se (onD D3) _ de (by simp) (read_none (D := onD D3) rfl (pages_of_none (L3.out.other (by decide)))) (by omega))
    clear de te se
    go_wp2_with fail
    refine CL.out.mono ?_
    rintro e w15 ⟨rfl, hb15⟩
    have HHf := Lib.hid (HHe.out.below hb15)
    have HB15 := Lib.hid hb15
    clear hb15 CL HHe
    have CL := Lib.hid (tload_nil [116] w15)
    go_wp2_with fail
    refine CL.out.mono ?_
    rintro e w16 ⟨rfl, hb16⟩
    have HHg := Lib.hid (HHf.out.below hb16)
    have HB16 := Lib.hid (HB15.out.trans (hb16.mono HB15.out.size))
    clear hb16 CL HHf HB15
    have CN := Lib.hid (tsave_nil (.pointer (some ⟨g, 0, none⟩)) ⟨_, rfl⟩ [116] w16)
    go_wp2_with fail
    refine CN.out.mono ?_
    rintro e w17 ⟨rfl, h⟩
    obtain rfl := h.symm
    clear CN h
    have CN := Lib.hid (tsave_nod t [116] w16)
    go_wp2_with fail
    refine CN.out.mono ?_
    rintro e w17 ⟨rfl, h⟩
    obtain rfl := h.symm
    clear CN h
  · go_wp2_with fail
    go_ret
    exact ⟨rfl, HHg.out.since⟩
  all_goals
    have hpg : pagesF (onD D3).now [115] = pagesB Bs := P3.out (by first | rfl | trivial)
    have hne : pagesF (onD D3).now [115] ≠ [] := fun e => by
      rw [hpg] at e
      have := congrArg List.length e
      rw [pagesB_len, HP.out] at this
      simp at this
      have := pagesOf_pos hB0
      rw [HP.out] at this
      omega
    have hfl : (pagesF (onD D3).now [115]).flatten = Bs ++ List.replicate (512 * p - Bs.length) 0 := by rw [hpg, pagesB_flat, HP.out]
    have hself : IsB (Bs ++ List.replicate (512 * p - Bs.length) 0) X := (HIB.out _ X (by omega)).2 HTB.out
    obtain ⟨T, x, rfl, rfl, hT, ht⟩ : ∃ T x, mx = 0 ∧ px = some ⟨x, 0, none⟩ ∧ T = X ∧ TabV w14 (.pointer px) T := by
      rcases HAN.out with ⟨h1, T, x, h2, h3, h4⟩ | ⟨_, _, h3⟩
      · rw [hfl] at h3
        exact ⟨T, x, h1, h2, isT_uniq ((HIB.out _ T (by omega)).1 h3) HTB.out, h4⟩
      · exact absurd (by rw [hfl]; exact hself) (h3 X hne)
    subst hT
    have HT := Lib.hid (ht.below HB16.out)
    clear hpg hne hfl hself ht HAN
    have CA := Lib.hid (tall_any _ T w16 HT.out (by omega))
    go_wp2_with fail
    refine CA.out.mono ?_
    rintro e w17 ⟨v17, rfl, hn17, hb17⟩
    have HHh := Lib.hid (HHg.out.below hb17)
    have HN17 := Lib.hid hn17.tbIn
    have CA2 := Lib.hid (tall_any _ T w17 (HHg.out.below hb17).tab (by omega))
    clear CA hn17 hb17 HHg HT
    go_wp2_with fail
    refine CA2.out.mono ?_
    rintro e w18 ⟨v18, rfl, hn18, hb18⟩
    have HHi := Lib.hid (HHh.out.below hb18)
    have CS2 := Lib.hid (same10_any v17 v18 T T w18 (HN17.out.up hb18) hn18.tbIn)
    clear CA2 hn18 hb18 HHh HN17
    go_wp2_with fail
    refine CS2.out.mono ?_
    rintro e w19 ⟨sm, rfl, hs, hbw⟩
    obtain rfl : sm = true := by simpa using hs
    have HHj := Lib.hid (HHi.out.below hbw)
    clear CS2 hbw hs HHi
    go_wp2_with fail
    go_ret
    exact ⟨rfl, HHj.out.since⟩

end Go.Proofs.Ythgnchgehmakjaa.Cd

namespace Go.Proofs.Ythgnchgehmakjaa.TableSaves
open Go.RowKit Go.Proofs.Ythgnchgehmakjaa.Cd

theorem walk (va : Value) (l : List Wr) (room n keep : Int) (w : World) (ha : Cd.TbIn w w.heap.size va l ∧ FitW l) (_ : (Lit.int .i64 room).wf = true) (hn : (Lit.int .i64 n).wf = true) (hk : (Lit.int .u64 keep).wf = true) :
    Calls Try.prog 3 #[va, .int .i64 room, .int .i64 n, .int .u64 keep] w (Gives (.bool true) w) := by
  obtain ⟨_, h2⟩ := bounds_i64 hn
  obtain ⟨h3, h4⟩ := bounds_u64 hk
  obtain ⟨j, rfl⟩ := Int.eq_ofNat_of_zero_le h3
  exact ts_main va l room n j w ha.1 ha.2 (by omega) (by omega)

end Go.Proofs.Ythgnchgehmakjaa.TableSaves
