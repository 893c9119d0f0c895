/-
  More than is played? Conditions: none.
-/
import Derived.Test.YtlchmkpnehbnlaaGreatDoorG11
import Derived.Test.YtlchmkpnehbnlaaGreatDoorG1
import Derived.Test.YtlchmkpnehbnlaaGreatDoorG3
import Derived.Test.YtlchmkpnehbnlaaGreatDoorG14
import Derived.Test.YtlchmkpnehbnlaaGreatDoorG13
import Derived.Test.YtlchmkpnehbnlaaGreatDoorG15
import Derived.Lib.Hide
/-
  A table read from bytes: in plain Lean; areNoughts, writesOf, Read. Conditions: not too many bytes.
-/
namespace Go.Proofs.YtlchmkpnehbnlaaGreatDoor.Cd

structure Ent where
  u : Nat
  k : List UInt8
  v : List UInt8

def rawE (e : Ent) : List UInt8 := (enc e.u ++ (enc e.k.length ++ e.k)) ++ (enc e.v.length ++ e.v)
def rawF (Q : List Ent) : List UInt8 := (Q.map rawE).flatten
def rawS (Q : List Ent) : List UInt8 := enc Q.length ++ rawF Q
def LimE (mk mv : Nat) (e : Ent) : Prop := e.u < 18446744073709551616 ∧ e.k.length ≤ mk ∧ e.v.length ≤ mv
def LimQ (mk mv : Nat) (Q : List Ent) : Prop := ∀ e ∈ Q, LimE mk mv e
def toW (e : Ent) : Wr := ⟨e.k, e.v, e.u == 1⟩
def ofE (p : Wr) : Ent := ⟨goneB p.2.2, p.1, p.2.1⟩
def LimT (mk mv : Nat) (T : List Wr) : Prop := ∀ p ∈ T, p.1.length ≤ mk ∧ p.2.1.length ≤ mv

theorem toW_ofE (p : Wr) : toW (ofE p) = p := by
  obtain ⟨k, v, g⟩ := p
  cases g <;> rfl
theorem rawF_cons (e : Ent) (Q : List Ent) : rawF (e :: Q) = rawE e ++ rawF Q := by simp [rawF]
theorem rawF_append (P Q : List Ent) : rawF (P ++ Q) = rawF P ++ rawF Q := by simp [rawF]
theorem rawF_nil : rawF [] = [] := rfl
theorem rawS_of (T : List Wr) : rawS (T.map ofE) = recW T := by
  unfold rawS rawF recW
  rw [List.length_map, List.map_map]
  rfl
theorem lim_of {mk mv : Nat} {T : List Wr} (h : LimT mk mv T) : LimQ mk mv (T.map ofE) := fun e he => by
  obtain ⟨p, hp, rfl⟩ := List.mem_map.1 he
  have h1 := h p hp
  have h2 := goneB_lt p.2.2
  exact ⟨by show goneB p.2.2 < _; omega, h1.1, h1.2⟩
theorem map_of (T : List Wr) : (T.map ofE).map toW = T := by
  rw [List.map_map]
  conv => rhs; rw [← List.map_id T]
  exact List.map_congr_left fun p _ => toW_ofE p

def stU (b : List UInt8) : Nat := nv b
def stK (mk : Nat) (b : List UInt8) : List UInt8 := txV mk (uB b)
def stV (mk mv : Nat) (b : List UInt8) : List UInt8 := txV mv (txB mk (uB b))
def stB (mk mv : Nat) (b : List UInt8) : List UInt8 := txB mv (txB mk (uB b))
def stX (mk mv : Nat) (b : List UInt8) : Bool := txX mv (txB mk (uB b))

theorem txX_nil (m : Int) : txX m [] = true := by
  unfold txX
  exact decide_eq_true (.inl bad_nil)
theorem st_good {mk mv : Nat} {b : List UInt8} (h : stX mk mv b = false) : uX b = false ∧ txX mk (uB b) = false := by
  unfold stX at h
  have h2 : txX mk (uB b) = false := by
    cases hx : txX mk (uB b) with
    | false => rfl
    | true =>
      have hb : txB mk (uB b) = [] := by
        unfold txX at hx
        unfold txB
        rw [if_pos (of_decide_eq_true hx)]
      rw [hb, txX_nil] at h
      cases h
  refine ⟨?_, h2⟩
  cases hx : uX b with
  | false => rfl
  | true =>
    have hb : uB b = [] := by
      unfold uX at hx
      unfold uB
      rw [if_pos (of_decide_eq_true hx)]
    rw [hb, txX_nil] at h2
    cases h2
theorem txV_most {m : Int} {b : List UInt8} (h : txX m b = false) : ((txV m b).length : Int) ≤ m := by
  unfold txX at h
  have h := of_decide_eq_false h
  unfold txV
  rw [if_neg h]
  have h2 : ¬ (m < (nv b : Nat)) := fun h2 => h (.inr (.inr (.inl h2)))
  have := List.length_take_le (nv b) (b.drop (ns b))
  omega
theorem st_read {mk mv : Nat} {b : List UInt8} (h : stX mk mv b = false) : b = rawE ⟨stU b, stK mk b, stV mk mv b⟩ ++ stB mk mv b ∧ (stK mk b).length ≤ mk ∧ (stV mk mv b).length ≤ mv := by
  obtain ⟨h1, h2⟩ := st_good h
  have h3 : txX mv (txB mk (uB b)) = false := h
  have e1 := one_u h1
  have e2 := one_tx h2
  have e3 := one_tx h3
  have m2 := txV_most h2
  have m3 := txV_most h3
  refine ⟨?_, by show (txV mk (uB b)).length ≤ mk; omega, by show (txV mv (txB mk (uB b))).length ≤ mv; omega⟩
  unfold rawE stU stK stV stB
  dsimp only
  rw [List.append_assoc, e3, List.append_assoc, e2, e1]
theorem st_of {mk mv : Nat} (hmk : mk < 18446744073709551616) (hmv : mv < 18446744073709551616) {e : Ent} (h : LimE mk mv e) (t : List UInt8) : stU (rawE e ++ t) = e.u ∧ stK mk (rawE e ++ t) = e.k ∧ stV mk mv (rawE e ++ t) = e.v ∧ stB mk mv (rawE e ++ t) = t ∧ stX mk mv (rawE e ++ t) = false := by
  obtain ⟨h1, h2, h3⟩ := h
  have e1 : rawE e ++ t = enc e.u ++ (enc e.k.length ++ (e.k ++ (enc e.v.length ++ (e.v ++ t)))) := by simp [rawE]
  have hu := uB_enc h1 (enc e.k.length ++ (e.k ++ (enc e.v.length ++ (e.v ++ t))))
  have hn := nv_enc h1 (enc e.k.length ++ (e.k ++ (enc e.v.length ++ (e.v ++ t))))
  have hk := tx_all (enc e.v.length ++ (e.v ++ t)) e.k (by omega) mk (by omega)
  have hv := tx_all t e.v (by omega) mv (by omega)
  unfold stU stK stV stB stX
  rw [e1, hu, hn, hk.1, hk.2.1, hv.1, hv.2.1, hv.2.2]
  exact ⟨rfl, rfl, rfl, rfl, rfl⟩

theorem raw_prefix {mk mv : Nat} (hmk : mk < 18446744073709551616) (hmv : mv < 18446744073709551616) : ∀ (P : List Ent) {Q : List Ent} {cur : List UInt8}, LimQ mk mv P → LimQ mk mv Q → P.length ≤ Q.length → rawF Q = rawF P ++ cur → ∃ R, Q = P ++ R ∧ cur = rawF R ∧ LimQ mk mv R
  | [], Q, cur, _, hq, _, h => ⟨Q, rfl, by rw [h]; rfl, hq⟩
  | e :: P, [], cur, _, _, hl, _ => by simp at hl
  | e :: P, q :: Q, cur, hp, hq, hl, h => by
    rw [rawF_cons, rawF_cons, List.append_assoc] at h
    have a := st_of hmk hmv (hp e (List.mem_cons_self ..)) (rawF P ++ cur)
    have b := st_of hmk hmv (hq q (List.mem_cons_self ..)) (rawF Q)
    rw [h] at b
    have hqe : q = e := by
      obtain ⟨qu, qk, qv⟩ := q
      obtain ⟨eu, ek, ev⟩ := e
      have h1 := b.1.symm.trans a.1
      have h2 := b.2.1.symm.trans a.2.1
      have h3 := b.2.2.1.symm.trans a.2.2.1
      dsimp only at h1 h2 h3
      rw [h1, h2, h3]
    subst hqe
    have hr : rawF Q = rawF P ++ cur := b.2.2.2.1.symm.trans a.2.2.2.1
    obtain ⟨R, rfl, h5, h6⟩ := raw_prefix hmk hmv P (fun x hx => hp x (List.mem_cons_of_mem _ hx)) (fun x hx => hq x (List.mem_cons_of_mem _ hx)) (by simpa using hl) hr
    exact ⟨R, rfl, h5, h6⟩
theorem raw_uniq {mk mv : Nat} (hmk : mk < 18446744073709551616) (hmv : mv < 18446744073709551616) {P Q : List Ent} (hp : LimQ mk mv P) (hq : LimQ mk mv Q) (lp : P.length < 18446744073709551616) (lq : Q.length < 18446744073709551616) (h : rawS P = rawS Q) : P = Q := by
  unfold rawS at h
  have h1 := nv_enc lp (rawF P)
  have h2 := nv_enc lq (rawF Q)
  have u1 := uB_enc lp (rawF P)
  have u2 := uB_enc lq (rawF Q)
  rw [h] at h1 u1
  have hl : P.length = Q.length := h1.symm.trans h2
  have hf : rawF Q = rawF P ++ [] := by rw [List.append_nil]; exact u2.symm.trans u1
  obtain ⟨R, hR, hr, _⟩ := raw_prefix hmk hmv P hp hq (by omega) hf
  have : R = [] := by
    have := congrArg List.length hR
    rw [List.length_append] at this
    exact List.length_eq_zero_iff.1 (by omega)
  rw [hR, this, List.append_nil]

def IsT (s : List UInt8) (T : List Wr) : Prop := s = recW T ∧ ofW T = T ∧ LimT 48 160 T ∧ T.length < 18446744073709551616
theorem isT_uniq {s : List UInt8} {T U : List Wr} (h : IsT s T) (k : IsT s U) : T = U := by
  have := raw_uniq (by omega) (by omega) (lim_of h.2.2.1) (lim_of k.2.2.1) (by rw [List.length_map]; exact h.2.2.2) (by rw [List.length_map]; exact k.2.2.2) (by rw [rawS_of, rawS_of, ← h.1, ← k.1])
  rw [← map_of T, this, map_of]
theorem ins_mem_lim {mk mv : Nat} {t : List Wr} (h : LimT mk mv t) {w : Wr} (hw : w.1.length ≤ mk ∧ w.2.1.length ≤ mv) : LimT mk mv (insW t w) := fun p hp => by
  rcases mem_ins hp with rfl | hp
  · exact hw
  · exact h p hp
theorem flat_lim {mk mv : Nat} {w : Wr} (hw : w.1.length ≤ mk ∧ w.2.1.length ≤ mv) : (flatG w).1.length ≤ mk ∧ (flatG w).2.1.length ≤ mv := by
  unfold flatG
  split
  · exact ⟨hw.1, by simp⟩
  · exact hw
theorem from_lim {mk mv : Nat} : ∀ (l : List Wr) (t : List Wr), LimT mk mv t → LimT mk mv l → LimT mk mv (ofFrom t l)
  | [], _, h, _ => h
  | w :: l, t, h, hl => from_lim l (insW t (flatG w)) (ins_mem_lim h (flat_lim (hl w (List.mem_cons_self ..)))) (fun p hp => hl p (List.mem_cons_of_mem _ hp))
theorem of_lim {mk mv : Nat} {l : List Wr} (h : LimT mk mv l) : LimT mk mv (ofW l) := from_lim l [] (fun _ h => by cases h) h
theorem tab_of {s : List UInt8} {Q : List Ent} (hq : LimQ 48 160 Q) (hl : Q.length < 18446744073709551616) (hs : s = rawS Q) : recW (ofW (Q.map toW)) = s ↔ IsT s (Q.map toW) := by
  constructor
  · intro h
    have hlt : LimT 48 160 (Q.map toW) := fun p hp => by
      obtain ⟨e, he, rfl⟩ := List.mem_map.1 hp
      exact (hq e he).2
    have hT := of_lim hlt
    have hTl : (ofW (Q.map toW)).length < 18446744073709551616 := Nat.lt_of_le_of_lt (ofW_len _) (by rw [List.length_map]; exact hl)
    have he := raw_uniq (by omega) (by omega) hq (lim_of hT) hl (by rw [List.length_map]; exact hTl) (by rw [← hs, rawS_of, h])
    have h2 : Q.map toW = ofW (Q.map toW) := by
      conv => lhs; rw [he]
      exact map_of _
    refine ⟨?_, h2.symm, hlt, by rw [List.length_map]; exact hl⟩
    rw [h2]
    exact h.symm
  · rintro ⟨h1, h2, _⟩
    rw [h2]
    exact h1.symm
theorem isT_raw {s : List UInt8} {T : List Wr} (h : IsT s T) : ∃ Q, LimQ 48 160 Q ∧ Q.length < 18446744073709551616 ∧ s = rawS Q ∧ Q.map toW = T := ⟨T.map ofE, lim_of h.2.2.1, by rw [List.length_map]; exact h.2.2.2, by rw [rawS_of]; exact h.1, map_of T⟩

def IsB (b : List UInt8) (T : List Wr) : Prop := ∃ s cur, Splits b [s] cur ∧ (∀ c ∈ cur, c = 0) ∧ IsT s T
theorem isB_uniq {b : List UInt8} (hb : b.length < 18446744073709551616) {T U : List Wr} (h : IsB b T) (k : IsB b U) : T = U := by
  obtain ⟨s, c, h1, _, h2⟩ := h
  obtain ⟨s', c', k1, _, k2⟩ := k
  have := (splits_uniq hb h1 k1).1
  injection this with this
  subst this
  exact isT_uniq h2 k2
theorem no_noughts (n : Nat) : ¬ HasRec (List.replicate n 0) := by
  rintro ⟨x, t, h⟩
  have hz : ∀ c ∈ frm x, c = 0 := fun c hc => List.eq_of_mem_replicate (h ▸ List.mem_append_left t hc)
  have hx : x = [] := by
    have hm : ∀ c ∈ enc x.length, c = 0 := fun c hc => hz c (by unfold frm; simp [hc])
    by_cases hl : x.length < 128
    · rw [enc_lo hl] at hm
      have h1 := congrArg UInt8.toNat (hm _ (List.mem_singleton.2 rfl))
      rw [lo8_nat hl] at h1
      exact List.length_eq_zero_iff.1 h1
    · rw [enc_hi (by omega)] at hm
      have h1 := congrArg UInt8.toNat (hm _ (List.mem_cons_self ..))
      have h2 := hi8_ge x.length
      rw [h1] at h2
      simp at h2
  subst hx
  have h3 : b8 (crc [0]) = 0 := hz _ (by
    unfold frm
    rw [show enc ([] : List UInt8).length = [0] by rw [List.length_nil, enc_lo (by omega)]; rfl]
    simp [le4])
  exact absurd h3 (by decide +kernel)
theorem isB_of {T U : List Wr} {n : Nat} (hn : (frm (recW T)).length + n < 18446744073709551616) : IsB (frm (recW T) ++ List.replicate n 0) U ↔ IsT (recW T) U := by
  have hs : Splits (frm (recW T) ++ List.replicate n 0) [recW T] (List.replicate n 0) := ⟨by rw [flat_one], no_noughts n⟩
  constructor
  · rintro ⟨s, cur, h1, _, h2⟩
    have := (splits_uniq (by rw [List.length_append, List.length_replicate]; exact hn) h1 hs).1
    injection this with this
    rw [← this]
    exact h2
  · intro h
    exact ⟨_, _, hs, fun c hc => List.eq_of_mem_replicate hc, h⟩
theorem isT_self {T : List Wr} (hT : ofW T = T) (hl : T.length < 18446744073709551616) (hm : LimT 48 160 T) : IsT (recW T) T := ⟨rfl, hT, hm, hl⟩
end Go.Proofs.YtlchmkpnehbnlaaGreatDoor.Cd

namespace Go.Proofs.YtlchmkpnehbnlaaGreatDoor.Cd
open Go.RowKit

def Zers (w : World) (bs : List UInt8) (e : Ending) (w' : World) : Prop := ∃ z : Bool, e = .returned (.bool z) ∧ w = w' ∧ (z = true ↔ ∀ c ∈ bs, c = 0)

set_option maxRecDepth 100000 in
set_option maxHeartbeats 800000 in
theorem noughts_any (v : Value) (bs : List UInt8) (w : World) (h : Sl w w.heap.size v bs) :
    Calls Tryz.prog 146 #[v] w (Zers w bs) := by
  obtain ⟨A, c, rfl, h2, h3⟩ := h.len
  have h3 : c ≤ 9223372036854775807 := h3
  have H := Lib.hid h
  clear h
  go_enter Tryz.func146, Tryz.ntmps146
  go_wp2_with fail
  go_loopw [7] (fun i wr => ∃ k : Nat, i = .int .i64 k ∧ k ≤ bs.length ∧ Hid (w = wr) ∧ Hid (∀ x ∈ bs.take k, x = 0)) (fun i _ => bs.length - (intOf i).toNat)
  case atStart => exact ⟨0, rfl, by omega, rfl, fun x hx => by simp at hx⟩
  case round =>
    obtain ⟨k, rfl, hk, hw, hz⟩ := hrel
    obtain rfl := hw.out
    by_cases hlt : k < bs.length
    · obtain ⟨b2, off2, c2, e2, _, _, hB2, hat⟩ := H.out.at (by omega)
      injection e2 with e2 _ _
      subst e2
      have d0 := hat k hlt
      have htk : bs.take (k + 1) = bs.take k ++ [bs[k]] := List.take_succ_eq_append_getElem hlt
      obtain ⟨y, hy⟩ : ∃ y, bs[k] = y := ⟨_, rfl⟩
      have hmem : y ∈ bs := hy ▸ List.getElem_mem hlt
      rw [hy] at d0 htk
      obtain ⟨m, hm⟩ : ∃ m, y.toNat = m := ⟨_, rfl⟩
      have HT := Lib.hid htk
      rw [hm] at d0
      clear hat htk
      by_cases h0 : m = 0
      · subst h0
        have hy0 : y = 0 := UInt8.toNat_inj.1 (by rw [hm]; rfl)
        have HZ : Hid (∀ x ∈ bs.take (k + 1), x = 0) := fun x hx => by
          rw [HT.out] at hx
          rcases List.mem_append.1 hx with hx | hx
          · exact hz.out x hx
          · rw [List.mem_singleton.1 hx]; exact hy0
        clear hy0 hm hy hmem HT hz
        go_wp2_with fail
        go_roundw
        case rel => exact ⟨k + 1, by go_num, by omega, True.intro, HZ⟩
        case measure => simp [intOf]; omega
      · have hq : ((m : Int) == 0) = false := by simpa using h0
        have hno : Hid (¬ ∀ x ∈ bs, x = 0) := fun h => h0 (by rw [← hm, h y hmem]; rfl)
        clear hm hy hmem HT hz
        go_wp2_with fail
        go_ret
        exact ⟨false, rfl, rfl, ⟨(fun h => by cases h), fun h => absurd h hno.out⟩⟩
    · have hall : Hid (∀ x ∈ bs, x = 0) := by
        have := hz.out
        rwa [List.take_of_length_le (by omega)] at this
      go_wp2_with fail
      go_ret
      exact ⟨true, rfl, rfl, ⟨fun _ => hall.out, fun _ => rfl⟩⟩

end Go.Proofs.YtlchmkpnehbnlaaGreatDoor.Cd

namespace Go.Proofs.YtlchmkpnehbnlaaGreatDoor.Cd
open Go.RowKit

def WritesIs (w : World) (s : List UInt8) (e : Ending) (w' : World) : Prop :=
  ∃ v ok, e = .returned (.tuple #[v, .bool ok]) ∧ Below w.heap.size w w' ∧
    ((ok = true ∧ ∃ Q, LimQ 48 160 Q ∧ Q.length < 18446744073709551616 ∧ s = rawS Q ∧ TbIn w' w'.heap.size v (Q.map toW)) ∨ (ok = false ∧ ∀ Q, LimQ 48 160 Q → Q.length < 18446744073709551616 → s ≠ rawS Q))

theorem rawE_pos (e : Ent) : 1 ≤ (rawE e).length := by
  have := enc_pos e.u
  unfold rawE
  simp only [List.length_append]
  omega
theorem rawF_len (Q : List Ent) : Q.length ≤ (rawF Q).length := by
  induction Q with
  | nil => simp
  | cons e Q ih => rw [rawF_cons, List.length_append, List.length_cons]; have := rawE_pos e; omega

structure MidQ (s : List UInt8) (Q : List Ent) (cur : List UInt8) : Prop where
  lim : LimQ 48 160 Q
  eq : uX s = false → s = enc (nv s) ++ (rawF Q ++ cur)
  bad : uX s = true → cur = [] ∧ Q = []

section
variable {s cur : List UInt8} {Q : List Ent}
theorem mid_start (s : List UInt8) : MidQ s [] (uB s) := ⟨(fun _ h => by cases h), fun h => (one_u h).symm, fun h => ⟨Sane.u s h, rfl⟩⟩
theorem MidQ.len (h : MidQ s Q cur) : Q.length ≤ s.length ∧ cur.length ≤ s.length := by
  cases hx : uX s with
  | true => obtain ⟨rfl, rfl⟩ := h.bad hx; simp
  | false =>
    have h1 := congrArg List.length (h.eq hx)
    have h2 := rawF_len Q
    simp only [List.length_append] at h1
    omega
theorem MidQ.step (h : MidQ s Q cur) (hx : uX s = false) (hg : stX 48 160 cur = false) : MidQ s (Q ++ [⟨stU cur, stK 48 cur, stV 48 160 cur⟩]) (stB 48 160 cur) := by
  obtain ⟨h1, h2, h3⟩ := st_read hg
  refine ⟨fun e he => ?_, fun hx => ?_, fun hb => by rw [hx] at hb; cases hb⟩
  · rcases List.mem_append.1 he with he | he
    · exact h.lim e he
    · rw [List.mem_singleton.1 he]
      exact ⟨nv_u64 _, h2, h3⟩
  · have := h.eq hx
    rw [rawF_append, rawF_cons, rawF_nil, List.append_nil, List.append_assoc, ← h1]
    exact this
theorem MidQ.rest (h : MidQ s Q cur) (hx : uX s = false) (hl : Q.length ≤ nv s) {Q' : List Ent} (hq : LimQ 48 160 Q') (lq : Q'.length < 18446744073709551616) (he : s = rawS Q') : ∃ R, Q' = Q ++ R ∧ cur = rawF R ∧ LimQ 48 160 R ∧ Q'.length = nv s := by
  have h1 := nv_enc lq (rawF Q')
  have h2 := uB_enc lq (rawF Q')
  have h3 := uB_enc (nv_u64 s) (rawF Q ++ cur)
  have hr : rawS Q' = enc Q'.length ++ rawF Q' := rfl
  rw [← hr, ← he] at h1 h2
  rw [← h.eq hx, h2] at h3
  obtain ⟨R, a, b, c⟩ := raw_prefix (by omega) (by omega) Q h.lim hq (by omega) h3
  exact ⟨R, a, b, c, h1.symm⟩
theorem MidQ.none_bad (h : MidQ s Q cur) (hx : uX s = false) (hl : Q.length < nv s) (hg : stX 48 160 cur = true) : ∀ Q', LimQ 48 160 Q' → Q'.length < 18446744073709551616 → s ≠ rawS Q' := fun Q' hq lq he => by
  obtain ⟨R, h1, h2, h3, h4⟩ := h.rest hx (by omega) hq lq he
  cases R with
  | nil => rw [h1, List.append_nil] at h4; omega
  | cons e R =>
    have := (st_of (by omega) (by omega) (h3 e (List.mem_cons_self ..)) (rawF R)).2.2.2.2
    rw [← rawF_cons, ← h2, hg] at this
    cases this
theorem MidQ.last (h : MidQ s Q []) (hx : uX s = false) (hl : Q.length = nv s) : s = rawS Q := by
  have := h.eq hx
  rw [List.append_nil, ← hl] at this
  exact this
theorem MidQ.none_more (h : MidQ s Q cur) (hx : uX s = false) (hl : Q.length = nv s) (hc : cur ≠ []) : ∀ Q', LimQ 48 160 Q' → Q'.length < 18446744073709551616 → s ≠ rawS Q' := fun Q' hq lq he => by
  obtain ⟨R, h1, h2, h3, h4⟩ := h.rest hx (by omega) hq lq he
  rw [h1, List.length_append] at h4
  have : R = [] := List.length_eq_zero_iff.1 (by omega)
  rw [this] at h2
  exact hc h2
theorem none_u (hx : uX s = true) : ∀ Q', LimQ 48 160 Q' → Q'.length < 18446744073709551616 → s ≠ rawS Q' := fun Q' _ lq he => by
  have := uX_enc lq (rawF Q')
  have hr : rawS Q' = enc Q'.length ++ rawF Q' := rfl
  rw [← hr, ← he, hx] at this
  cases this
theorem bad_zero (h : uX s = true) : nv s = 0 := by unfold nv; rw [if_pos (of_decide_eq_true h)]
end

theorem OwnTb.past {w w' : World} {B g : Nat} {v : Value} {l : List Wr} (h : OwnTb w B v l) (hg : w.grownBy w' (some g)) (hlt : g < B) : OwnTb w' B v l :=
  World.ownsRow.kept h hg (.inr fun e => by have := (World.ownsRow.lt h _ e).1; omega)

set_option maxRecDepth 100000 in
set_option maxHeartbeats 3200000 in
theorem writesOf_any (s : List UInt8) (w : World) (hs : s.length ≤ 1048576) :
    Calls Tryz.prog 147 #[.string ⟨s.toArray⟩] w (WritesIs w s) := by
  go_enter Tryz.func147, Tryz.ntmps147
  go_wp2_with (refine wp_bytes_of rfl _ rfl s rfl (by omega) ?_)
  intro g0 c0 w1 hrow hg0 hb1
  have CR := Lib.hid (read_any _ s w1 hrow.sl)
  have HB1 := Lib.hid hb1
  clear hrow hb1 hg0
  go_wp2_with fail
  refine CR.out.mono ?_
  rintro e w2 ⟨rfl, hrd, hb2⟩
  have HB2 := Lib.hid (HB1.out.trans (hb2.mono HB1.out.size))
  have hgw := HB1.out.size
  have hlt2 := hrd.lt
  generalize w1.heap.size = g at *
  have CU := Lib.hid (ruint_any g s false w2 hrd (Sane.start s) (by omega))
  clear CR hrd hb2 HB1
  go_wp2_with fail
  refine CU.out.mono ?_
  rintro e w3 ⟨rfl, hrd, hgr⟩
  have HR3 := Lib.hid hrd
  have HM3 := Lib.hid (mid_start s)
  have hsz3 : g + 1 ≤ w3.heap.size := Nat.le_trans hlt2 hgr.size
  have HB3 : Hid (Below w.heap.size w w3) := HB2.out.grown hgr (by have := HB2.out.size; omega) (fun k e => by injection e with e; omega)
  have hn := nv_u64 s
  have HN : Hid (uX s = true → nv s = 0) := bad_zero
  obtain ⟨bad, hbad⟩ : ∃ x, uX s = x := ⟨_, rfl⟩
  obtain ⟨n, hnv⟩ : ∃ x, nv s = x := ⟨_, rfl⟩
  have HBAD := Lib.hid hbad
  have HNV := Lib.hid hnv
  rw [hbad] at HR3 HN
  rw [hnv] at hn HN ⊢
  clear CU hrd hgr HB2 hbad hnv hlt2
  go_wp2_with fail
  go_loopw [5, 13] (fun a5 i wr => ∃ (k : Nat) (Q : List Ent) (cur : List UInt8), i = .int .u64 k ∧ k ≤ n ∧ Hid (Q.length = k) ∧ Hid (MidQ s Q cur) ∧ Hid (Rd wr g cur bad) ∧ Hid (OwnTb wr (g + 1) a5 (Q.map toW)) ∧ Hid (Below w.heap.size w wr) ∧ g + 1 ≤ wr.heap.size) (fun _ i _ => n - (intOf i).toNat)
  case atStart => exact ⟨0, [], uB s, rfl, by omega, rfl, HM3.out, HR3.out, OwnTb.nil _ _, HB3.out, hsz3⟩
  case round =>
    clear HM3 HR3 HB3 hsz3
    obtain ⟨k, Q, cur, rfl, hk, hQl, hM, hR, hO, hB, hsz⟩ := hrel
    have hml := hM.out.len
    have hql := hQl.out
    by_cases hlt : k < n
    case pos =>
      obtain rfl : bad = false := by
        cases bad with
        | false => rfl
        | true => have := HN.out rfl; omega
      have CU := Lib.hid (ruint_any g cur false wr hR.out (Sane.start cur) (by omega))
      go_wp2_with fail
      refine CU.out.mono ?_
      rintro e w4 ⟨rfl, hr4, hg4⟩
      have hz4 := Nat.le_trans hsz hg4.size
      have HO4 := Lib.hid (hO.out.past hg4 (by omega))
      have HB4 : Hid (Below w.heap.size w w4) := hB.out.grown hg4 hB.out.size (fun k e => by injection e with e; omega)
      have hl4 := uB_len cur
      obtain ⟨gb, hgb⟩ : ∃ x, (((nv cur : Nat) : Int) == 1) = x := ⟨_, rfl⟩
      have HGB : Hid ((stU cur == 1) = gb) := by
        rw [← hgb]
        unfold Hid stU
        cases h : (nv cur == 1) with
        | true => have := of_decide_eq_true h; rw [this]; rfl
        | false => have := of_decide_eq_false h; symm; simp; omega
      obtain ⟨u, hu⟩ : ∃ x, nv cur = x := ⟨_, rfl⟩
      rw [hu] at hgb ⊢
      have CT := Lib.hid (rtext_any g 48 (uB cur) (uX cur) w4 hr4 (Sane.u cur) (by omega) (by omega))
      clear CU hr4 hg4 hO hB hR hu
      go_wp2_with fail
      refine CT.out.mono ?_
      rintro e w5 ⟨rfl, hr5, hg5⟩
      have hz5 := Nat.le_trans hz4 hg5.size
      have HO5 := Lib.hid (HO4.out.past hg5 (by omega))
      have HB5 : Hid (Below w.heap.size w w5) := HB4.out.grown hg5 HB4.out.size (fun k e => by injection e with e; omega)
      have hl5 := txB_len 48 (uB cur)
      have CV := Lib.hid (rtext_any g 160 (txB 48 (uB cur)) (txX 48 (uB cur)) w5 hr5 (Sane.tx 48 (uB cur)) (by omega) (by omega))
      clear CT hr5 hg5 HO4 HB4
      go_wp2_with fail
      refine CV.out.mono ?_
      rintro e w6 ⟨rfl, hr6, hg6⟩
      have hz6 := Nat.le_trans hz5 hg6.size
      have HO6 := Lib.hid (HO5.out.past hg6 (by omega))
      have HB6 : Hid (Below w.heap.size w w6) := HB5.out.grown hg6 HB5.out.size (fun k e => by injection e with e; omega)
      have hr6 : Rd w6 g (stB 48 160 cur) (stX 48 160 cur) := hr6
      obtain ⟨pk, hpk⟩ : ∃ x, txV 48 (uB cur) = x := ⟨_, rfl⟩
      obtain ⟨pv, hpv⟩ : ∃ x, txV 160 (txB 48 (uB cur)) = x := ⟨_, rfl⟩
      have HP : Hid (toW ⟨stU cur, stK 48 cur, stV 48 160 cur⟩ = ⟨pk, pv, gb⟩) := by
        unfold Hid toW
        dsimp only
        rw [HGB.out, ← hpk, ← hpv]
        rfl
      rw [hpk, hpv]
      have hba : Below w6.heap.size w6 (w6.alloc (.cells #[.string ⟨pk.toArray⟩, .string ⟨pv.toArray⟩, .bool gb] 52)) := (Below.refl _ _).alloc (Nat.le_refl _) _
      have hr7 := hr6.below hba (by omega)
      have CG := Lib.hid (good_any g _ _ _ hr7)
      have HR7 := Lib.hid hr7
      have HO7 := Lib.hid (HO6.out.alloc (.cells #[.string ⟨pk.toArray⟩, .string ⟨pv.toArray⟩, .bool gb] 52))
      have HB7 := Lib.hid (HB6.out.trans (hba.mono HB6.out.size))
      have hz7 := Nat.le_trans hz6 hba.size
      have hrow := heap_alloc_new w6 (.cells #[.string ⟨pk.toArray⟩, .string ⟨pv.toArray⟩, .bool gb] 52)
      obtain ⟨gx, hgx⟩ : ∃ x, stX 48 160 cur = x := ⟨_, rfl⟩
      have HGX := Lib.hid hgx
      rw [hgx] at CG HR7
      have HROW := Lib.hid hrow
      clear CV hr6 hg6 HO5 HB5 HO6 HB6 hpk hpv hba hr7 hgx hrow HGB
      go_wp2_with fail
      generalize w6.alloc (.cells #[.string ⟨pk.toArray⟩, .string ⟨pv.toArray⟩, .bool gb] 52) = w7 at *
      obtain ⟨pb, hpb⟩ : ∃ x, w6.heap.size = x := ⟨_, rfl⟩
      rw [hpb] at HROW ⊢
      refine CG.out.mono ?_
      rintro e w8 ⟨rfl, rfl⟩
      clear CG
      cases gx
      case true =>
        have hno := hM.out.none_bad HBAD.out (by rw [HNV.out]; omega) HGX.out
        have HNO := Lib.hid hno
        clear hno
        go_wp2_with fail
        go_ret2
        exact ⟨_, false, rfl, HB7.out, .inr ⟨rfl, HNO.out⟩⟩
      case false =>
        have hM8 := Lib.hid (hM.out.step HBAD.out HGX.out)
        have hmap : Hid ((Q ++ [(⟨stU cur, stK 48 cur, stV 48 160 cur⟩ : Ent)]).map toW = Q.map toW ++ [⟨pk, pv, gb⟩]) := by
          unfold Hid
          rw [List.map_append, List.map_cons, List.map_nil, HP.out]
        have hmlen : (Q.map toW).length + 1 ≤ 1099511627776 := by rw [List.length_map]; omega
        have c0 := cell_of_row _ _ 0 _ _ _ HROW.out
        have c1 := cell_of_row _ _ 1 _ _ _ HROW.out
        have c2 := cell_of_row _ _ 2 _ _ _ HROW.out
        have hws : IntKind.u64.wrap ((k : Int) + 1) = (k : Int) + 1 := by simp [IntKind.wrap, IntKind.bits, IntKind.signed]; omega
        clear hM HP HROW HGX hml
        go_wp2_with (at_builtin; refine wp_append_new rfl _ _ rfl (⟨pk, pv, gb⟩ : Wr) rfl HO7.out hz7 rfl hmlen ?_
                     intro v9 w9 ho9 hb9 _ hz9
                     have HO9 := Lib.hid ho9
                     have HB9 := Lib.hid (HB7.out.trans (hb9.mono (by omega)))
                     have HR9 := Lib.hid (HR7.out.below hb9 (by omega))
                     clear ho9 hb9)
        go_roundw
        case rel => exact ⟨k + 1, Q ++ [(⟨stU cur, stK 48 cur, stV 48 160 cur⟩ : Ent)], stB 48 160 cur, by go_num, by omega, by unfold Hid; rw [List.length_append, hql]; rfl, hM8.out, HR9.out, by unfold Hid; rw [hmap.out]; exact HO9.out, HB9.out, by omega⟩
        case measure => simp [intOf]; omega
    case neg =>
      have hkn : k = n := by omega
      have CE := Lib.hid (end_any g cur bad wr hR.out)
      obtain ⟨A5, c5, e5, _, _⟩ := hO.out.tbIn.len
      have HT5 := Lib.hid hO.out.tbIn
      subst e5
      go_wp2_with fail
      refine CE.out.mono ?_
      rintro e w4 ⟨rfl, rfl⟩
      clear CE
      go_wp2_with fail
      go_ret2
      refine ⟨_, !bad && cur.isEmpty, rfl, hB.out, ?_⟩
      have hb := HBAD.out
      cases bad with
      | true => exact .inr ⟨rfl, none_u hb⟩
      | false =>
        have hqn : Q.length = nv s := by rw [HNV.out]; omega
        cases cur with
        | nil => exact .inl ⟨rfl, Q, hM.out.lim, by omega, hM.out.last hb hqn, by have := HT5.out; rw [List.length_map, show Q.length = n by omega] at this; exact this⟩
        | cons c r => exact .inr ⟨rfl, hM.out.none_more hb hqn (fun h => by cases h)⟩

end Go.Proofs.YtlchmkpnehbnlaaGreatDoor.Cd

namespace Go.Proofs.YtlchmkpnehbnlaaGreatDoor.Cd
open Go.RowKit

def ReadsT (w : World) (b : List UInt8) (e : Ending) (w' : World) : Prop :=
  ∃ v n, e = .returned (.tuple #[v, .int .i64 n]) ∧ Below w.heap.size w w' ∧
    ((n = 0 ∧ ∃ T g, v = .pointer (some ⟨g, 0, none⟩) ∧ IsB b T ∧ TabV w' v T) ∨ (n = 4 ∧ v = .pointer none ∧ ∀ T, ¬ IsB b T))

theorem sum_raw (Q : List Ent) : sumW (Q.map toW) ≤ (rawF Q).length := by
  induction Q with
  | nil => simp [sumW]
  | cons e Q ih =>
    rw [List.map_cons, sumW_cons, rawF_cons, List.length_append]
    have h1 := enc_pos e.u
    have h2 : (rawE e).length = (enc e.u).length + ((enc e.k.length).length + e.k.length) + ((enc e.v.length).length + e.v.length) := by
      unfold rawE
      simp only [List.length_append]
    have h3 : (toW e).1 = e.k := rfl
    have h4 : (toW e).2.1 = e.v := rfl
    rw [h3, h4]
    omega
theorem fit_raw {Q : List Ent} (h : LimQ 48 160 Q) : FitW (Q.map toW) := fun p hp => by
  obtain ⟨e, he, rfl⟩ := List.mem_map.1 hp
  have := h e he
  exact ⟨Nat.le_trans this.2.1 (by omega), Nat.le_trans this.2.2 (by omega)⟩
theorem no_many {b cur : List UInt8} {ds : List (List UInt8)} (hb : b.length < 18446744073709551616) (h : Splits b ds cur) (hn : ds.length ≠ 1) (T : List Wr) : ¬ IsB b T := by
  rintro ⟨s, c, h1, _, _⟩
  have := (splits_uniq hb h h1).1
  rw [this] at hn
  exact hn rfl
theorem no_rest {b cur s : List UInt8} (hb : b.length < 18446744073709551616) (h : Splits b [s] cur) (hn : ¬ ∀ c ∈ cur, c = 0) (T : List Wr) : ¬ IsB b T := by
  rintro ⟨s', c, h1, h2, _⟩
  rw [(splits_uniq hb h h1).2] at hn
  exact hn h2
theorem no_form {b cur s : List UInt8} (hb : b.length < 18446744073709551616) (h : Splits b [s] cur) (hn : ∀ T, ¬ IsT s T) (T : List Wr) : ¬ IsB b T := by
  rintro ⟨s', c, h1, _, h3⟩
  have := (splits_uniq hb h h1).1
  injection this with this
  rw [← this] at h3
  exact hn T h3
theorem no_raw {s : List UInt8} (h : ∀ Q, LimQ 48 160 Q → Q.length < 18446744073709551616 → s ≠ rawS Q) (T : List Wr) : ¬ IsT s T := fun hT => by
  obtain ⟨Q, h1, h2, h3, _⟩ := isT_raw hT
  exact h Q h1 h2 h3
theorem no_other {s : List UInt8} {Q : List Ent} (hq : LimQ 48 160 Q) (hl : Q.length < 18446744073709551616) (hs : s = rawS Q) (hn : recW (ofW (Q.map toW)) ≠ s) (T : List Wr) : ¬ IsT s T := fun hT => by
  obtain ⟨Q', h1, h2, h3, h4⟩ := isT_raw hT
  have := raw_uniq (by omega) (by omega) hq h1 hl h2 (hs.symm.trans h3)
  subst this
  rw [← h4] at hT
  exact hn ((tab_of hq hl hs).2 hT)

set_option maxRecDepth 100000 in
set_option maxHeartbeats 3200000 in
theorem tread_any (v : Value) (b : List UInt8) (w : World) (h : Sl w w.heap.size v b) (hb : b.length ≤ 1048576) :
    Calls Tryz.prog 100 #[v] w (ReadsT w b) := by
  obtain ⟨A, c, rfl, h2, h3⟩ := h.len
  have h3 : c ≤ 9223372036854775807 := h3
  have HS := Lib.hid h
  have CS := Lib.hid (split_any _ b w h hb)
  clear h
  go_enter Tryz.func100, Tryz.ntmps100
  go_wp2_with fail
  refine CS.out.mono ?_
  rintro e w1 ⟨u, ds, cur, hsp, rfl, ho, hb1⟩
  have hlen := congrArg List.length hsp.1
  rw [List.length_append] at hlen
  have HSP := Lib.hid hsp
  have HB1 := Lib.hid hb1
  obtain ⟨Au, cu, rfl, _, _⟩ := ho.strs.len
  have HO := Lib.hid ho.strs
  clear hsp hb1 ho CS
  by_cases h1 : ds.length = 1
  case neg =>
    have hq : ((ds.length : Int) == 1) = false := by rw [beq_eq_false_iff_ne]; omega
    have HNO := Lib.hid (no_many (by omega) HSP.out h1)
    go_wp2_with fail
    go_ret2
    exact ⟨_, _, rfl, HB1.out, .inr ⟨rfl, rfl, HNO.out⟩⟩
  case pos =>
    obtain ⟨s, rfl⟩ := List.length_eq_one_iff.1 h1
    have hdrop : Hid (b.drop (flat [s]).length = cur) := by unfold Hid; rw [HSP.out.1, List.drop_left]
    obtain ⟨n, hn⟩ : ∃ x, (flat [s]).length = x := ⟨_, rfl⟩
    rw [hn] at hlen hdrop ⊢
    have hsn : s.length + 5 ≤ n := by rw [← hn, flat_one]; exact frm_ge s
    have HN := Lib.hid hn
    have HLEN := Lib.hid hlen
    have hnb : n ≤ b.length := by omega
    have hnb2 : (n : Int) ≤ b.length := by omega
    clear hn h1 hlen
    by_cases hcn : c = n
    case pos =>
      have hsl := sl_rest (HS.out.below HB1.out) n (by omega) A (fun hq => absurd hcn hq) (fun _ => rfl)
      subst hcn
      rw [hdrop.out, Nat.sub_self, show b.length - c = 0 by omega] at hsl
      have hbc : b.length = c := by omega
      have CZ := Lib.hid (noughts_any _ cur w1 (hsl.more HB1.out.size))
      clear hsl
      go_wp2_with fail
      refine CZ.out.mono ?_
      rintro e w2 ⟨z, rfl, rfl, hz⟩
      clear CZ
      cases z
      case false =>
        have HNO := Lib.hid (no_rest (by omega) HSP.out (fun h => by have := hz.2 h; cases this))
        clear hz
        go_wp2_with fail
        go_ret2
        exact ⟨_, _, rfl, HB1.out, .inr ⟨rfl, rfl, HNO.out⟩⟩
      case true =>
        have HZ := Lib.hid (hz.1 rfl)
        clear hz
        obtain ⟨rb, ro, rc, re, _, _, hrb, hcell⟩ := HO.out.at (by simp)
        injection re with re _ _
        subst re
        have d0 : w1.cell? ⟨rb, ro, none⟩ = some (.string ⟨s.toArray⟩) := hcell 0 (by simp)
        have CW := Lib.hid (writesOf_any s w1 (by omega))
        clear hcell
        go_wp2_with fail
        refine CW.out.mono ?_
        rintro e w2 ⟨v2, ok, rfl, hb2, hans⟩
        have HB2 := Lib.hid (HB1.out.trans (hb2.mono HB1.out.size))
        have d1 := (hb2.cell (p := ⟨rb, ro, none⟩) hrb).trans d0
        have hz2 := hb2.size
        clear CW hb2 d0
        cases ok
        case false =>
          have HNO := Lib.hid (no_form (by omega) HSP.out (no_raw (hans.resolve_left (fun h => by cases h.1)).2))
          clear hans
          go_wp2_with fail
          go_ret2
          exact ⟨_, _, rfl, HB2.out, .inr ⟨rfl, rfl, HNO.out⟩⟩
        case true =>
          obtain ⟨_, Q, hq, hl, hs, hin⟩ := hans.resolve_right (fun h => by cases h.1)
          clear hans
          have hsum := sum_raw Q
          have hrl : (rawF Q).length ≤ s.length := by rw [hs]; unfold rawS; rw [List.length_append]; omega
          have hso := sumW_of (Q.map toW)
          have hml := sumW_len (Q.map toW)
          obtain ⟨A2, c2, rfl, _, _⟩ := hin.len
          have CO := Lib.hid (tof_any _ (Q.map toW) w2 hin (fit_raw hq) (by omega))
          have HQ := Lib.hid hq
          have HL := Lib.hid hl
          have HS2 := Lib.hid hs
          obtain ⟨L, hL⟩ : ∃ L, Q.map toW = L := ⟨_, rfl⟩
          have HQL := Lib.hid hL
          rw [hL] at CO hso hsum hml ⊢
          have hsT : sumW (ofW L) ≤ 1048576 := by omega
          clear hin hq hl hs hL hso hsum hml hrl
          go_wp2_with fail
          refine CO.out.mono ?_
          intro e w3 h1
          obtain ⟨v1, rfl, ⟨g, rfl⟩, ht, hb3⟩ := h1.tab
          have HB3 := Lib.hid (HB2.out.trans (hb3.mono HB2.out.size))
          have d2 := (hb3.cell (p := ⟨rb, ro, none⟩) (by show rb < w2.heap.size; omega)).trans d1
          have hz3 := hb3.size
          have CR := Lib.hid (trecord_any _ (ofW L) w3.drew (ht.below (Below.refl _ _).drew) hsT)
          have HT := Lib.hid ht
          clear CO h1 ht hb3 d1
          obtain ⟨r, hr⟩ : ∃ r, recW (ofW L) = r := ⟨_, rfl⟩
          rw [hr] at CR
          have HRR := Lib.hid hr
          clear hr
          by_cases heq : r = s
          case pos =>
            have hq : (r == s) = true := by simpa using heq
            have HI : Hid (IsB b L ∧ ofW L = L) := by
              have := (tab_of HQ.out HL.out HS2.out).1 (by rw [HQL.out, HRR.out]; exact heq)
              rw [HQL.out] at this
              exact ⟨⟨_, _, HSP.out, HZ.out, this⟩, this.2.1⟩
            clear heq
            go_wp2_with fail
            go_region_held3 (fun W => W.cell? ⟨rb, ro, none⟩ = some (.string ⟨s.toArray⟩)) (first | exact hS4 | exact d2 | assumption) (first
              | (go_at_call 111; (with_reducible refine CR.out.mono ?_); rintro e w4 ⟨rfl, hb4⟩; have hb4 : Below w3.heap.size w3 w4 := (Below.refl _ _).drew.trans hb4; have hS4 : w4.cell? ⟨rb, ro, none⟩ = some (.string ⟨s.toArray⟩) := (hb4.cell (p := ⟨rb, ro, none⟩) (by show rb < w3.heap.size; omega)).trans d2; have HB4 := Lib.hid (HB3.out.trans (hb4.mono HB3.out.size)); have HT4 := Lib.hid (HT.out.below hb4); clear hb4))
            go_wp2_with fail
            go_ret2
            exact ⟨_, _, rfl, HB4.out, .inl ⟨rfl, L, g, rfl, HI.out.1, by have := HT4.out; rw [HI.out.2] at this; exact this⟩⟩
          case neg =>
            have hq : (r == s) = false := by simpa using heq
            have HNO := Lib.hid (no_form (by omega) HSP.out (no_other HQ.out HL.out HS2.out (by rw [HQL.out, HRR.out]; exact heq)))
            clear heq
            go_wp2_with fail
            go_region_held3 (fun W => W.cell? ⟨rb, ro, none⟩ = some (.string ⟨s.toArray⟩)) (first | exact hS4 | exact d2 | assumption) (first
              | (go_at_call 111; (with_reducible refine CR.out.mono ?_); rintro e w4 ⟨rfl, hb4⟩; have hb4 : Below w3.heap.size w3 w4 := (Below.refl _ _).drew.trans hb4; have hS4 : w4.cell? ⟨rb, ro, none⟩ = some (.string ⟨s.toArray⟩) := (hb4.cell (p := ⟨rb, ro, none⟩) (by show rb < w3.heap.size; omega)).trans d2; have HB4 := Lib.hid (HB3.out.trans (hb4.mono HB3.out.size)); have HT4 := Lib.hid (HT.out.below hb4); clear hb4))
            go_wp2_with fail
            go_ret2
            exact ⟨_, _, rfl, HB4.out, .inr ⟨rfl, rfl, HNO.out⟩⟩
    case neg =>
      have hsl := sl_rest (HS.out.below HB1.out) n (by omega) (A.map (fun x => x.add n)) (fun _ => rfl) (fun hq => absurd hq hcn)
      rw [hdrop.out] at hsl
      have CZ := Lib.hid (noughts_any _ cur w1 (hsl.more HB1.out.size))
      clear hsl
      go_wp2_with fail
      refine CZ.out.mono ?_
      rintro e w2 ⟨z, rfl, rfl, hz⟩
      clear CZ
      cases z
      case false =>
        have HNO := Lib.hid (no_rest (by omega) HSP.out (fun h => by have := hz.2 h; cases this))
        clear hz
        go_wp2_with fail
        go_ret2
        exact ⟨_, _, rfl, HB1.out, .inr ⟨rfl, rfl, HNO.out⟩⟩
      case true =>
        have HZ := Lib.hid (hz.1 rfl)
        clear hz
        obtain ⟨rb, ro, rc, re, _, _, hrb, hcell⟩ := HO.out.at (by simp)
        injection re with re _ _
        subst re
        have d0 : w1.cell? ⟨rb, ro, none⟩ = some (.string ⟨s.toArray⟩) := hcell 0 (by simp)
        have CW := Lib.hid (writesOf_any s w1 (by omega))
        clear hcell
        go_wp2_with fail
        refine CW.out.mono ?_
        rintro e w2 ⟨v2, ok, rfl, hb2, hans⟩
        have HB2 := Lib.hid (HB1.out.trans (hb2.mono HB1.out.size))
        have d1 := (hb2.cell (p := ⟨rb, ro, none⟩) hrb).trans d0
        have hz2 := hb2.size
        clear CW hb2 d0
        cases ok
        case false =>
          have HNO := Lib.hid (no_form (by omega) HSP.out (no_raw (hans.resolve_left (fun h => by cases h.1)).2))
          clear hans
          go_wp2_with fail
          go_ret2
          exact ⟨_, _, rfl, HB2.out, .inr ⟨rfl, rfl, HNO.out⟩⟩
        case true =>
          obtain ⟨_, Q, hq, hl, hs, hin⟩ := hans.resolve_right (fun h => by cases h.1)
          clear hans
          have hsum := sum_raw Q
          have hrl : (rawF Q).length ≤ s.length := by rw [hs]; unfold rawS; rw [List.length_append]; omega
          have hso := sumW_of (Q.map toW)
          have hml := sumW_len (Q.map toW)
          obtain ⟨A2, c2, rfl, _, _⟩ := hin.len
          have CO := Lib.hid (tof_any _ (Q.map toW) w2 hin (fit_raw hq) (by omega))
          have HQ := Lib.hid hq
          have HL := Lib.hid hl
          have HS2 := Lib.hid hs
          obtain ⟨L, hL⟩ : ∃ L, Q.map toW = L := ⟨_, rfl⟩
          have HQL := Lib.hid hL
          rw [hL] at CO hso hsum hml ⊢
          have hsT : sumW (ofW L) ≤ 1048576 := by omega
          clear hin hq hl hs hL hso hsum hml hrl
          go_wp2_with fail
          refine CO.out.mono ?_
          intro e w3 h1
          obtain ⟨v1, rfl, ⟨g, rfl⟩, ht, hb3⟩ := h1.tab
          have HB3 := Lib.hid (HB2.out.trans (hb3.mono HB2.out.size))
          have d2 := (hb3.cell (p := ⟨rb, ro, none⟩) (by show rb < w2.heap.size; omega)).trans d1
          have hz3 := hb3.size
          have CR := Lib.hid (trecord_any _ (ofW L) w3.drew (ht.below (Below.refl _ _).drew) hsT)
          have HT := Lib.hid ht
          clear CO h1 ht hb3 d1
          obtain ⟨r, hr⟩ : ∃ r, recW (ofW L) = r := ⟨_, rfl⟩
          rw [hr] at CR
          have HRR := Lib.hid hr
          clear hr
          by_cases heq : r = s
          case pos =>
            have hq : (r == s) = true := by simpa using heq
            have HI : Hid (IsB b L ∧ ofW L = L) := by
              have := (tab_of HQ.out HL.out HS2.out).1 (by rw [HQL.out, HRR.out]; exact heq)
              rw [HQL.out] at this
              exact ⟨⟨_, _, HSP.out, HZ.out, this⟩, this.2.1⟩
            clear heq
            go_wp2_with fail
            go_region_held3 (fun W => W.cell? ⟨rb, ro, none⟩ = some (.string ⟨s.toArray⟩)) (first | exact hS4 | exact d2 | assumption) (first
              | (go_at_call 111; (with_reducible refine CR.out.mono ?_); rintro e w4 ⟨rfl, hb4⟩; have hb4 : Below w3.heap.size w3 w4 := (Below.refl _ _).drew.trans hb4; have hS4 : w4.cell? ⟨rb, ro, none⟩ = some (.string ⟨s.toArray⟩) := (hb4.cell (p := ⟨rb, ro, none⟩) (by show rb < w3.heap.size; omega)).trans d2; have HB4 := Lib.hid (HB3.out.trans (hb4.mono HB3.out.size)); have HT4 := Lib.hid (HT.out.below hb4); clear hb4))
            go_wp2_with fail
            go_ret2
            exact ⟨_, _, rfl, HB4.out, .inl ⟨rfl, L, g, rfl, HI.out.1, by have := HT4.out; rw [HI.out.2] at this; exact this⟩⟩
          case neg =>
            have hq : (r == s) = false := by simpa using heq
            have HNO := Lib.hid (no_form (by omega) HSP.out (no_other HQ.out HL.out HS2.out (by rw [HQL.out, HRR.out]; exact heq)))
            clear heq
            go_wp2_with fail
            go_region_held3 (fun W => W.cell? ⟨rb, ro, none⟩ = some (.string ⟨s.toArray⟩)) (first | exact hS4 | exact d2 | assumption) (first
              | (go_at_call 111; (with_reducible refine CR.out.mono ?_); rintro e w4 ⟨rfl, hb4⟩; have hb4 : Below w3.heap.size w3 w4 := (Below.refl _ _).drew.trans hb4; have hS4 : w4.cell? ⟨rb, ro, none⟩ = some (.string ⟨s.toArray⟩) := (hb4.cell (p := ⟨rb, ro, none⟩) (by show rb < w3.heap.size; omega)).trans d2; have HB4 := Lib.hid (HB3.out.trans (hb4.mono HB3.out.size)); have HT4 := Lib.hid (HT.out.below hb4); clear hb4))
            go_wp2_with fail
            go_ret2
            exact ⟨_, _, rfl, HB4.out, .inr ⟨rfl, rfl, HNO.out⟩⟩

end Go.Proofs.YtlchmkpnehbnlaaGreatDoor.Cd

/-
  A tree's files on a disk, in plain Lean: their names, what they tell; what an Append, a Clear, a Save and a Rename, and a removal leave of them. Conditions: none.
-/
namespace Go.Proofs.YtlchmkpnehbnlaaGreatDoor.Cd

def decB (i : Nat) : List UInt8 := if i < 10 then [UInt8.ofNat (48 + i)] else [UInt8.ofNat (48 + i / 10), UInt8.ofNat (48 + i % 10)]
def valB (b : List UInt8) : Nat := b.foldl (fun a c => a * 10 + (c.toNat - 48)) 0
theorem val_dec : ∀ i : Fin 100, valB (decB i.val) = i.val := by decide
theorem dec_inj {i j : Nat} (hi : i ≤ 99) (hj : j ≤ 99) (h : decB i = decB j) : i = j := by
  have h1 := val_dec ⟨i, by omega⟩
  have h2 := val_dec ⟨j, by omega⟩
  simp only at h1 h2
  rw [← h1, ← h2, h]
theorem dec_len (i : Nat) : 1 ≤ (decB i).length ∧ (decB i).length ≤ 2 := by unfold decB; split <;> simp
def partE : List UInt8 := [45, 112, 97, 114, 116]
def wholeE : List UInt8 := [45, 119, 104, 111, 108, 101]
def draftE : List UInt8 := [45, 100, 114, 97, 102, 116]
def fileF (n e : List UInt8) (i : Nat) : List UInt8 := n ++ e ++ decB i
abbrev partF (n : List UInt8) (i : Nat) : List UInt8 := fileF n partE i
abbrev wholeF (n : List UInt8) (i : Nat) : List UInt8 := fileF n wholeE i
def draftF (n : List UInt8) : List UInt8 := n ++ draftE
theorem fileF_inj {n e : List UInt8} {i j : Nat} (hi : i ≤ 99) (hj : j ≤ 99) (h : fileF n e i = fileF n e j) : i = j := dec_inj hi hj (List.append_cancel_left h)
theorem part_whole (n : List UInt8) (i j : Nat) : partF n i ≠ wholeF n j := fun h => by
  simp only [partF, wholeF, fileF, List.append_assoc] at h
  have := List.append_cancel_left h
  simp [partE, wholeE] at this
theorem part_draft (n : List UInt8) (i : Nat) : partF n i ≠ draftF n := fun h => by
  simp only [partF, fileF, draftF, List.append_assoc] at h
  have := List.append_cancel_left h
  simp [partE, draftE] at this
theorem whole_draft (n : List UInt8) (i : Nat) : wholeF n i ≠ draftF n := fun h => by
  simp only [wholeF, fileF, draftF, List.append_assoc] at h
  have := List.append_cancel_left h
  simp [wholeE, draftE] at this
theorem file_log (n e : List UInt8) (i : Nat) : fileF n e i ≠ n := fun h => by
  have h1 := congrArg List.length h
  have := dec_len i
  simp only [fileF, List.length_append] at h1
  omega
theorem draft_log (n : List UInt8) : draftF n ≠ n := fun h => by have := congrArg List.length h; simp [draftF, draftE] at this
theorem file_head {n : List UInt8} (hn : n ≠ []) (e : List UInt8) (i : Nat) : (fileF n e i).head? = n.head? := by
  cases n with
  | nil => exact absurd rfl hn
  | cons c r => rfl
theorem draft_head {n : List UInt8} (hn : n ≠ []) : (draftF n).head? = n.head? := by
  cases n with
  | nil => exact absurd rfl hn
  | cons c r => rfl

def numF (n e m : List UInt8) : Nat := ((List.range 100).find? fun i => decide (1 ≤ i ∧ m = fileF n e i)).getD 0
theorem numF_is {n e : List UInt8} {i : Nat} (h1 : 1 ≤ i) (h2 : i ≤ 99) : numF n e (fileF n e i) = i := by
  unfold numF
  cases h : (List.range 100).find? (fun j => decide (1 ≤ j ∧ fileF n e i = fileF n e j)) with
  | none =>
    have := List.find?_eq_none.1 h i (List.mem_range.2 (by omega))
    simp [h1] at this
  | some j =>
    have h3 := List.find?_some h
    have h4 := List.mem_range.1 (List.mem_of_find?_eq_some h)
    simp only [decide_eq_true_eq] at h3
    exact (fileF_inj h2 (by omega) h3.2).symm
theorem numF_no {n e m : List UInt8} (h : ∀ i, m ≠ fileF n e i) : numF n e m = 0 := by
  unfold numF
  rw [List.find?_eq_none.2 fun i _ => by simp [h i]]
  rfl
theorem numF_pos {n e m : List UInt8} (h : 0 < numF n e m) : m = fileF n e (numF n e m) ∧ numF n e m ≤ 99 := by
  unfold numF at h ⊢
  cases hf : (List.range 100).find? (fun j => decide (1 ≤ j ∧ m = fileF n e j)) with
  | none => rw [hf] at h; simp at h
  | some j =>
    have h3 := List.find?_some hf
    have h4 := List.mem_range.1 (List.mem_of_find?_eq_some hf)
    simp only [decide_eq_true_eq] at h3
    exact ⟨h3.2, by show j ≤ 99; omega⟩
theorem numF_le (n e m : List UInt8) : numF n e m ≤ 99 := by
  rcases Nat.eq_zero_or_pos (numF n e m) with h | h
  · omega
  · exact (numF_pos h).2

def Letter (m : List UInt8) : Prop := ∃ c r, m = c :: r ∧ 97 ≤ c.toNat ∧ c.toNat ≤ 122 ∧ r.length ≤ 16
def Nice (n e m : List UInt8) : Prop := Letter m ∧ (n ++ e <+: m → ∃ i, 1 ≤ i ∧ i ≤ 99 ∧ m = fileF n e i)

theorem getF_of {l l' : List Fil} {m : List UInt8} (h1 : (getF l m).isSome = (getF l' m).isSome) (h2 : pagesF l m = pagesF l' m) : getF l m = getF l' m := by
  cases h : getF l m with
  | none =>
    rw [h] at h1
    cases h' : getF l' m with
    | none => rfl
    | some f => rw [h'] at h1; cases h1
  | some f =>
    rw [h] at h1
    cases h' : getF l' m with
    | none => rw [h'] at h1; cases h1
    | some f' =>
      have e1 := getF_name h
      have e2 := getF_name h'
      unfold pagesF at h2
      rw [h, h'] at h2
      obtain ⟨a, b⟩ := f
      obtain ⟨c, d⟩ := f'
      simp only at e1 e2 h2
      rw [e1, e2, h2]

def filesOf (n : List UInt8) (whole last : Nat) : List (List UInt8) := (if whole = 0 then [] else [wholeF n whole]) ++ (List.range' (whole + 1) (last - whole)).map (partF n)
def Tells (D : Dsk) (fs : List (List UInt8)) (tabs : List (List Wr)) : Prop := fs.length = tabs.length ∧ ∀ (i : Nat) f T, fs[i]? = some f → tabs[i]? = some T → getF D.now f = some ⟨f, pagesB (bytesW T)⟩
theorem filesOf_len (n : List UInt8) (whole last : Nat) : (filesOf n whole last).length = (if whole = 0 then 0 else 1) + (last - whole) := by
  unfold filesOf
  rw [List.length_append, List.length_map, List.length_range']
  split <;> rfl
theorem filesOf_mem {n f : List UInt8} {whole last : Nat} (h : f ∈ filesOf n whole last) (hle : whole ≤ last) : (0 < whole ∧ f = wholeF n whole) ∨ ∃ i, whole < i ∧ i ≤ last ∧ f = partF n i := by
  unfold filesOf at h
  rcases List.mem_append.1 h with h | h
  · split at h
    · cases h
    · exact .inl ⟨by omega, List.mem_singleton.1 h⟩
  · obtain ⟨i, hi, rfl⟩ := List.mem_map.1 h
    obtain ⟨h1, h2⟩ := List.mem_range'_1.1 hi
    exact .inr ⟨i, by omega, by omega, rfl⟩
theorem filesOf_next {n : List UInt8} {whole last : Nat} (h : whole ≤ last) : filesOf n whole (last + 1) = filesOf n whole last ++ [partF n (last + 1)] := by
  unfold filesOf
  rw [show last + 1 - whole = (last - whole) + 1 by omega, List.range'_concat, List.map_append, List.append_assoc, show whole + 1 + 1 * (last - whole) = last + 1 by omega]
  rfl
theorem filesOf_whole {n : List UInt8} {last : Nat} (h : 0 < last) : filesOf n last last = [wholeF n last] := by
  unfold filesOf
  rw [if_neg (by omega), Nat.sub_self]
  rfl
theorem Tells.snoc {D : Dsk} {fs : List (List UInt8)} {tabs : List (List Wr)} {f : List UInt8} {T : List Wr} (h : Tells D fs tabs) (hf : getF D.now f = some ⟨f, pagesB (bytesW T)⟩) : Tells D (fs ++ [f]) (tabs ++ [T]) := by
  refine ⟨by rw [List.length_append, List.length_append, h.1]; rfl, fun i g U hg hU => ?_⟩
  by_cases hi : i < fs.length
  · rw [List.getElem?_append_left hi] at hg
    rw [List.getElem?_append_left (by rw [← h.1]; exact hi)] at hU
    exact h.2 i g U hg hU
  · have h1 := (List.getElem?_eq_some_iff.1 hg).1
    rw [List.length_append, List.length_singleton] at h1
    have hl := h.1
    rw [List.getElem?_append_right (by omega), show i - fs.length = 0 by omega] at hg
    rw [List.getElem?_append_right (by omega), show i - tabs.length = 0 by omega] at hU
    injection hg with hg
    injection hU with hU
    rw [← hg, ← hU]
    exact hf
theorem Tells.mono {D D' : Dsk} {fs : List (List UInt8)} {tabs : List (List Wr)} (h : Tells D fs tabs) (hs : ∀ f ∈ fs, getF D'.now f = getF D.now f) : Tells D' fs tabs :=
  ⟨h.1, fun i f T hf hT => (hs f (List.mem_of_getElem? hf)).trans (h.2 i f T hf hT)⟩
theorem tells_one {D : Dsk} {f : List UInt8} {T : List Wr} (h : getF D.now f = some ⟨f, pagesB (bytesW T)⟩) : Tells D [f] [T] := by
  have := Tells.snoc (D := D) (fs := []) (tabs := []) ⟨rfl, fun i f T hf => by cases hf⟩ h
  exact this

structure GoodT (T : List Wr) : Prop where
  srt : SrtW T
  flat : FlatW T
  lim : LimT 48 160 T
theorem GoodT.self {T : List Wr} (h : GoodT T) : ofW T = T := ofW_self h.srt h.flat
theorem GoodT.of {l : List Wr} (h : LimT 48 160 l) : GoodT (ofW l) := ⟨ofW_srt l, ofW_flat l, of_lim h⟩
theorem GoodT.keep {T : List Wr} (h : GoodT T) (b : Bool) : GoodT (keepW b T) := ⟨keep_srt h.srt b, keep_flat h.flat b, fun p hp => h.lim p (List.mem_filter.1 hp).1⟩
theorem LimT.fit {T : List Wr} (h : LimT 48 160 T) : FitW T := fun p hp => by have := h p hp; exact ⟨by omega, by omega⟩
theorem lim_flat {Ts : List (List Wr)} (h : ∀ T ∈ Ts, GoodT T) : LimT 48 160 Ts.flatten := fun p hp => by
  obtain ⟨T, hT, hp⟩ := List.mem_flatten.1 hp
  exact (h T hT).lim p hp
def sumB (l : List Wr) : Nat := sumW l + 29 * l.length
theorem sumW_append (a b : List Wr) : sumW (a ++ b) = sumW a + sumW b := by
  induction a with
  | nil => simp [sumW]
  | cons p r ih => rw [List.cons_append, sumW_cons, sumW_cons, ih]; omega
theorem sumB_append (a b : List Wr) : sumB (a ++ b) = sumB a + sumB b := by unfold sumB; rw [sumW_append, List.length_append]; omega
theorem sumB_of (l : List Wr) : sumB (ofW l) ≤ sumB l := by
  have h1 := sumW_of l
  have h2 := ofW_len l
  unfold sumB
  omega
theorem sumB_keep (b : Bool) (l : List Wr) : sumB (keepW b l) ≤ sumB l := by
  have h1 := sumW_filter l (fun w => !b || !w.2.2)
  have h2 := List.length_filter_le (fun w : Wr => !b || !w.2.2) l
  unfold sumB keepW
  omega
def sumBs (ls : List (List Wr)) : Nat := (ls.map sumB).sum
theorem sumBs_flat (ls : List (List Wr)) : sumB ls.flatten = sumBs ls := by
  induction ls with
  | nil => rfl
  | cons a r ih => rw [List.flatten_cons, sumB_append, ih]; simp [sumBs]
theorem sumBs_snoc (ls : List (List Wr)) (T : List Wr) : sumBs (ls ++ [T]) = sumBs ls + sumB T := by simp [sumBs]
theorem wrBs_len (T : List Wr) (h : LimT 48 160 T) : ((T.map wrB).flatten).length ≤ sumB T := by
  induction T with
  | nil => simp
  | cons p r ih =>
    have h1 := ih fun q hq => h q (by simp [hq])
    have hp := h p (by simp)
    have h2 := (wrB_len p (by omega) (by omega)).2
    have h3 : sumB (p :: r) = (30 + p.1.length + p.2.1.length) + sumB r := by unfold sumB; rw [sumW_cons, List.length_cons]; omega
    rw [List.map_cons, List.flatten_cons, List.length_append]
    omega
theorem bytesW_len {T : List Wr} (h : LimT 48 160 T) (hs : sumB T ≤ 1000000) : (bytesW T).length ≤ sumB T + 24 ∧ 5 ≤ (bytesW T).length := by
  have h1 := wrBs_len T h
  have h2 := enc_u64 T.length (by unfold sumB at hs; omega)
  have h3 : (recW T).length ≤ sumB T + 10 := by unfold recW; rw [List.length_append]; omega
  have h4 := frm_le (recW T) (by omega)
  have h5 := frm_ge (recW T)
  unfold bytesW
  omega

def recO (i : Nat) (X : List Wr) : List UInt8 := enc (zig i) ++ (enc (bytesW X).length ++ bytesW X)
def logO (last : Nat) (R : List (List Wr)) : List UInt8 := flat (R.map (recO (last + 1)))
theorem logO_snoc (last : Nat) (R : List (List Wr)) (X : List Wr) : logO last (R ++ [X]) = logO last R ++ frm (recO (last + 1) X) := by
  unfold logO
  rw [List.map_append, flat_append, List.map_singleton, flat_one]
theorem recO_len {i : Nat} {X : List Wr} (hi : i ≤ 1000000) (h : LimT 48 160 X) (hs : sumB X ≤ 1000000) : (recO i X).length ≤ sumB X + 44 := by
  have h1 := (bytesW_len h hs).1
  have h2 := enc_u64 (zig i) (by unfold zig; split <;> omega)
  have h3 := enc_u64 (bytesW X).length (by omega)
  unfold recO
  simp only [List.length_append]
  omega

end Go.Proofs.YtlchmkpnehbnlaaGreatDoor.Cd

/-
  A tree between two calls, in plain Lean: what its files tell of its tables, of the writes in its log; what an Append, a table laid down and tables put together leave of that; how many pages it takes. Conditions: few bytes, few writes.
-/
namespace Go.Proofs.YtlchmkpnehbnlaaGreatDoor.Cd

structure Ample (D : Dsk) (room : Nat) : Prop where
  roomy : Roomy D room (count D.now)
  fits : count D.now ≤ room
theorem ample_of {D : Dsk} {room k : Nat} (h : Roomy D room k) (hk : k ≤ room) : Ample D room := ⟨by rw [h.count]; exact h, by rw [h.count]; exact hk⟩
theorem Ample.off {D : Dsk} {room : Nat} (h : Ample D room) : D.off = false := h.roomy.off
theorem getF_is {l : List Fil} {m : List UInt8} {P : List (List UInt8)} (h1 : (getF l m).isSome = true) (h2 : pagesF l m = P) : getF l m = some ⟨m, P⟩ := by
  cases h : getF l m with
  | none => rw [h] at h1; cases h1
  | some f =>
    have e := getF_name h
    unfold pagesF at h2
    rw [h] at h2
    obtain ⟨a, q⟩ := f
    simp only at e h2
    rw [e, h2]
theorem laid_chunks (b : List UInt8) : laidP [] (chunks b) = pagesB b := by
  unfold pagesB chunks
  rw [List.range_eq_range', laid_range (chunk b) (pagesOf b.length) 0 [] (Nat.le_refl _) (Nat.zero_le _), List.map_map]
  rfl

theorem Ample.save {D : Dsk} {room : Nat} (h : Ample D room) {n b : List UInt8} (hn : (getF D.now n).isSome = false) (h0 : 0 < b.length) :
    (room < count D.now + pagesOf b.length ∧ saveD D n b = (D, 7)) ∨ (count D.now + pagesOf b.length ≤ room ∧ (saveD D n b).2 = 0 ∧ Ample (saveD D n b).1 room ∧ ∀ m, getF (saveD D n b).1.now m = if m = n then some ⟨n, pagesB b⟩ else getF D.now m) := by
  have hf := h.roomy.free
  have hfit := h.fits
  have hp0 : pagesF D.now n = [] := pages_of_none hn
  unfold saveD
  rw [if_neg (by rw [h.off]; simp), if_neg (by rw [hn]; simp)]
  by_cases hr : freeD D < (pagesOf b.length : Nat)
  · rw [if_pos hr]
    exact .inl ⟨by omega, rfl⟩
  · rw [if_neg hr]
    obtain ⟨a1, a2, a3, a4⟩ := h.roomy.writes (n := n) (chunks b) (f := pagesOf b.length) (by rw [hp0]; exact fresh_chunks b) (by omega) (chunks_short b)
    rw [if_neg (fun h => h a1)]
    have hw := a4 n
    rw [if_pos ⟨rfl, chunks_ne h0⟩] at hw
    obtain ⟨b1, b2, b3⟩ := a2.sync hw
    refine .inr ⟨by omega, b1, ample_of b2 (by omega), fun m => ?_⟩
    rw [b3]
    by_cases hm : m = n
    · subst hm
      rw [if_pos rfl]
      refine getF_is hw ?_
      rw [a3, if_pos rfl, hp0, laid_chunks]
    · rw [if_neg hm]
      refine getF_of ?_ ?_
      · rw [a4, if_neg (fun e => hm e.1)]
      · rw [a3, if_neg hm]
theorem Ample.saveAs {D : Dsk} {room : Nat} (h : Ample D room) {d f b : List UInt8} (hd : (getF D.now d).isSome = false) (hf : (getF D.now f).isSome = false) (hne : d ≠ f) (h0 : 0 < b.length) :
    (room < count D.now + pagesOf b.length ∧ saveD D d b = (D, 7)) ∨
      (count D.now + pagesOf b.length ≤ room ∧ (saveD D d b).2 = 0 ∧ (renameD (saveD D d b).1 d f).2 = 0 ∧ Ample (renameD (saveD D d b).1 d f).1 room ∧ ∀ m, getF (renameD (saveD D d b).1 d f).1.now m = if m = f then some ⟨f, pagesB b⟩ else getF D.now m) := by
  rcases h.save hd h0 with h1 | ⟨h1, h2, h3, h4⟩
  · exact .inl h1
  · have hdd := h4 d
    rw [if_pos rfl] at hdd
    have hff := h4 f
    rw [if_neg hne.symm] at hff
    obtain ⟨c1, c2, c3⟩ := h3.roomy.rename (a := d) (b := f) (by rw [hdd]; rfl) (by rw [hff]; exact hf) hne
    refine .inr ⟨h1, h2, c1, ample_of c2 h3.fits, fun m => ?_⟩
    rw [c3]
    by_cases hm : m = f
    · rw [if_pos hm, if_pos hm]
      unfold pagesF
      rw [hdd]
    · rw [if_neg hm, if_neg hm]
      by_cases hm2 : m = d
      · rw [if_pos hm2, hm2]
        cases hg : getF D.now d with
        | none => rfl
        | some x => rw [hg] at hd; cases hd
      · rw [if_neg hm2, h4, if_neg hm2]
theorem Ample.gone {D : Dsk} {room : Nat} (h : Ample D room) (n : List UInt8) : unless5 (removeD D n).2 = 0 ∧ Ample (removeD D n).1 room ∧ (∀ m, getF (removeD D n).1.now m = if m = n then none else getF D.now m) ∧ ((getF D.now n).isSome = true → (removeD D n).2 = 0) := by
  cases hg : (getF D.now n).isSome
  · have he : removeD D n = (D, 5) := by
      have hm : mayD D n = (D, 5) := by unfold mayD; rw [if_neg (by rw [h.off]; simp), if_pos hg]
      unfold removeD
      rw [hm, if_neg (by simp)]
    rw [he]
    refine ⟨rfl, h, fun m => ?_, fun h => by cases h⟩
    by_cases hm : m = n
    · rw [if_pos hm, hm]
      cases hx : getF D.now n with
      | none => rfl
      | some x => rw [hx] at hg; cases hg
    · rw [if_neg hm]
  · obtain ⟨a1, a2, a3, a4⟩ := h.roomy.removed hg
    exact ⟨by rw [a1]; rfl, ample_of a2 (by have := h.fits; omega), a4, fun _ => a1⟩
theorem Ample.append {D : Dsk} {room : Nat} (h : Ample D room) {n s : List UInt8} (hs : Lay (pagesF D.now n) s) (b : List UInt8) :
    (room < count D.now + (needP (s.length + b.length) - needP s.length) ∧ appendD D n s b = (D, 7)) ∨
      (count D.now + (needP (s.length + b.length) - needP s.length) ≤ room ∧ (appendD D n s b).2 = 0 ∧ Ample (appendD D n s b).1 room ∧ Lay (pagesF (appendD D n s b).1.now n) (s ++ b) ∧ ∀ m, m ≠ n → getF (appendD D n s b).1.now m = getF D.now m) := by
  rcases h.roomy.appendL hs h.fits b with h1 | ⟨h1, h2, h3, h4, h5⟩
  · exact .inl h1
  · refine .inr ⟨h1, h2, ample_of h3 h1, ?_, fun m hm => getF_of (h5 m hm) ?_⟩
    · rw [h4, if_pos rfl]
      exact lay_grows hs b
    · rw [h4, if_neg hm]

def overF (n : List UInt8) (whole : Nat) (m : List UInt8) : Bool := decide (m = draftF n) || (decide (0 < numF n partE m) && decide (numF n partE m ≤ whole)) || (decide (0 < numF n wholeE m) && decide (numF n wholeE m < whole))
theorem over_is {n m : List UInt8} {whole : Nat} (h : overF n whole m = true) : m = draftF n ∨ (∃ i, i ≤ whole ∧ m = partF n i) ∨ ∃ i, i < whole ∧ m = wholeF n i := by
  unfold overF at h
  simp only [Bool.or_eq_true, Bool.and_eq_true, decide_eq_true_eq] at h
  rcases h with (h | h) | h
  · exact .inl h
  · exact .inr (.inl ⟨_, h.2, (numF_pos h.1).1⟩)
  · exact .inr (.inr ⟨_, h.2, (numF_pos h.1).1⟩)
theorem over_part {n : List UInt8} {whole i : Nat} (h1 : 1 ≤ i) (h2 : i ≤ 99) (h : i ≤ whole) : overF n whole (partF n i) = true := by
  unfold overF
  rw [show numF n partE (partF n i) = i from numF_is h1 h2]
  simp [h, show 0 < i by omega]
theorem over_whole {n : List UInt8} {whole i : Nat} (h1 : 1 ≤ i) (h2 : i ≤ 99) (h : i < whole) : overF n whole (wholeF n i) = true := by
  unfold overF
  rw [show numF n wholeE (wholeF n i) = i from numF_is h1 h2]
  simp [h, show 0 < i by omega]
theorem over_head {n m : List UInt8} (hn : n ≠ []) {whole : Nat} (hm : m.head? ≠ n.head?) : overF n whole m = false := by
  cases h : overF n whole m with
  | false => rfl
  | true =>
    rcases over_is h with e | ⟨i, _, e⟩ | ⟨i, _, e⟩
    · rw [e] at hm; exact absurd (draft_head hn) hm
    · rw [e] at hm; exact absurd (file_head hn _ _) hm
    · rw [e] at hm; exact absurd (file_head hn _ _) hm

structure LsI (D : Dsk) (n : List UInt8) (whole last : Nat) (tabs R : List (List Wr)) (b c : Nat) : Prop where
  ne : Letter n
  short : n.length ≤ 5
  letters : ∀ m, (getF D.now m).isSome = true → Letter m
  own : ∀ m, (getF D.now m).isSome = true → m.head? = n.head? → m = n ∨ m ∈ filesOf n whole last
  files : Tells D (filesOf n whole last) tabs
  le : whole ≤ last
  lay : Lay (pagesF D.now n) (logO last R)
  good : ∀ T ∈ tabs, GoodT T
  goodr : ∀ X ∈ R, GoodT X ∧ X ≠ []
  bytes : sumBs tabs + sumBs R ≤ b
  few : 24 * last + R.flatten.length ≤ c
  tb : b ≤ 200000
  tc : c ≤ 2000

section
variable {D D' : Dsk} {n : List UInt8} {whole last b c : Nat} {tabs R : List (List Wr)}
theorem Letter.ne (h : Letter n) : n ≠ [] := by obtain ⟨c, r, rfl, _⟩ := h; exact List.cons_ne_nil _ _
theorem letter_file (h : Letter n) (hs : n.length ≤ 5) {e : List UInt8} (he : e.length ≤ 6) (i : Nat) : Letter (fileF n e i) := by
  obtain ⟨x, r, rfl, h1, h2, h3⟩ := h
  refine ⟨x, r ++ e ++ decB i, rfl, h1, h2, ?_⟩
  have := dec_len i
  simp only [List.length_append, List.length_cons] at hs ⊢
  omega
theorem LsI.top (h : LsI D n whole last tabs R b c) : last ≤ 84 := by have := h.few; have := h.tc; omega
theorem LsI.next_no (h : LsI D n whole last tabs R b c) : (getF D.now (partF n (last + 1))).isSome = false := by
  cases hg : (getF D.now (partF n (last + 1))).isSome with
  | false => rfl
  | true =>
    have ht := h.top
    rcases h.own _ hg (file_head h.ne.ne _ _) with e | e
    · exact absurd e (file_log _ _ _)
    · rcases filesOf_mem e h.le with ⟨_, e⟩ | ⟨i, h1, h2, e⟩
      · exact absurd e (part_whole _ _ _)
      · have := fileF_inj (by omega) (by omega) e; omega
theorem LsI.draft_no (h : LsI D n whole last tabs R b c) : (getF D.now (draftF n)).isSome = false := by
  cases hg : (getF D.now (draftF n)).isSome with
  | false => rfl
  | true =>
    rcases h.own _ hg (draft_head h.ne.ne) with e | e
    · exact absurd e (draft_log _)
    · rcases filesOf_mem e h.le with ⟨_, e⟩ | ⟨i, h1, h2, e⟩
      · exact absurd e.symm (whole_draft _ _)
      · exact absurd e.symm (part_draft _ _)
theorem LsI.whole_no (h : LsI D n whole last tabs R b c) (hl : whole < last) : (getF D.now (wholeF n last)).isSome = false := by
  cases hg : (getF D.now (wholeF n last)).isSome with
  | false => rfl
  | true =>
    have ht := h.top
    rcases h.own _ hg (file_head h.ne.ne _ _) with e | e
    · exact absurd e (file_log _ _ _)
    · rcases filesOf_mem e h.le with ⟨_, e⟩ | ⟨i, h1, h2, e⟩
      · have := fileF_inj (by omega) (by omega) e; omega
      · exact absurd e.symm (part_whole _ _ _)
theorem files_not_log {f : List UInt8} (h : f ∈ filesOf n whole last) (hle : whole ≤ last) : f ≠ n := by
  rcases filesOf_mem h hle with ⟨_, e⟩ | ⟨i, _, _, e⟩
  · rw [e]; exact file_log _ _ _
  · rw [e]; exact file_log _ _ _
theorem LsI.append (h : LsI D n whole last tabs R b c) {X : List Wr} (hX : GoodT X) (h0 : X ≠ []) (hb : b + sumB X ≤ 200000) (hc : c + X.length ≤ 2000) (hl : Lay (pagesF D'.now n) (logO last R ++ frm (recO (last + 1) X)))
    (hs : ∀ m, m ≠ n → getF D'.now m = getF D.now m) : LsI D' n whole last tabs (R ++ [X]) (b + sumB X) (c + X.length) where
  ne := h.ne
  short := h.short
  letters := fun m hm => by
    by_cases e : m = n
    · rw [e]; exact h.ne
    · exact h.letters m (by rw [← hs m e]; exact hm)
  own := fun m hm hh => by
    by_cases e : m = n
    · exact .inl e
    · exact h.own m (by rw [← hs m e]; exact hm) hh
  files := h.files.mono fun f hf => hs f (files_not_log hf h.le)
  le := h.le
  lay := by rw [logO_snoc]; exact hl
  good := h.good
  goodr := fun Y hY => by
    rcases List.mem_append.1 hY with hY | hY
    · exact h.goodr Y hY
    · rw [List.mem_singleton.1 hY]; exact ⟨hX, h0⟩
  bytes := by rw [sumBs_snoc]; have := h.bytes; omega
  few := by have := h.few; simp only [List.flatten_append, List.flatten_singleton, List.length_append]; omega
  tb := hb
  tc := hc
theorem LsI.goodm (h : LsI D n whole last tabs R b c) : GoodT (ofW R.flatten) := GoodT.of (lim_flat fun T hT => (h.goodr T hT).1)
theorem LsI.summ (h : LsI D n whole last tabs R b c) : sumB (ofW R.flatten) ≤ b := by
  have h1 := sumB_of R.flatten
  rw [sumBs_flat] at h1
  have := h.bytes
  omega
theorem LsI.laid (h : LsI D n whole last tabs R b c) (h24 : 24 ≤ R.flatten.length)
    (hs : ∀ m, getF D'.now m = if m = n then none else if m = partF n (last + 1) then some ⟨partF n (last + 1), pagesB (bytesW (ofW R.flatten))⟩ else getF D.now m) :
    LsI D' n whole (last + 1) (tabs ++ [ofW R.flatten]) [] b c where
  ne := h.ne
  short := h.short
  letters := fun m hm => by
    rw [hs] at hm
    by_cases e : m = n
    · rw [e]; exact h.ne
    · rw [if_neg e] at hm
      by_cases e2 : m = partF n (last + 1)
      · rw [e2]; exact letter_file h.ne h.short (by simp [partE]) _
      · rw [if_neg e2] at hm
        exact h.letters m hm
  own := fun m hm hh => by
    rw [hs] at hm
    by_cases e : m = n
    · exact .inl e
    · rw [if_neg e] at hm
      rw [filesOf_next h.le]
      by_cases e2 : m = partF n (last + 1)
      · exact .inr (by rw [e2]; simp)
      · rw [if_neg e2] at hm
        rcases h.own m hm hh with e3 | e3
        · exact .inl e3
        · exact .inr (List.mem_append_left _ e3)
  files := by
    rw [filesOf_next h.le]
    refine Tells.snoc (h.files.mono fun f hf => ?_) ?_
    · rw [hs, if_neg (files_not_log hf h.le), if_neg]
      intro e
      rw [e] at hf
      have ht := h.top
      rcases filesOf_mem hf h.le with ⟨_, e⟩ | ⟨i, h1, h2, e⟩
      · exact absurd e (part_whole _ _ _)
      · have := fileF_inj (by omega) (by omega) e; omega
    · rw [hs, if_neg (file_log _ _ _), if_pos rfl]
  le := by have := h.le; omega
  lay := by
    rw [show pagesF D'.now n = [] from pages_of_none (by rw [hs, if_pos rfl]; rfl)]
    exact lay_nil
  good := fun T hT => by
    rcases List.mem_append.1 hT with hT | hT
    · exact h.good T hT
    · rw [List.mem_singleton.1 hT]; exact h.goodm
  goodr := fun _ h => by cases h
  bytes := by
    rw [sumBs_snoc]
    have h1 := sumB_of R.flatten
    rw [sumBs_flat] at h1
    have := h.bytes
    show sumBs tabs + sumB (ofW R.flatten) + 0 ≤ b
    omega
  few := by have := h.few; show 24 * (last + 1) + 0 ≤ c; omega
  tb := h.tb
  tc := h.tc
def wholeT (tabs : List (List Wr)) : List Wr := keepW true (ofW tabs.flatten)
theorem LsI.goodw (h : LsI D n whole last tabs R b c) : GoodT (wholeT tabs) := (GoodT.of (lim_flat h.good)).keep true
theorem LsI.sumw (_ : LsI D n whole last tabs R b c) : sumB (wholeT tabs) ≤ sumBs tabs := by
  have h1 := sumB_of tabs.flatten
  have h2 := sumB_keep true (ofW tabs.flatten)
  rw [sumBs_flat] at h1
  unfold wholeT
  omega
theorem LsI.tabs_len (h : LsI D n whole last tabs R b c) : tabs.length = (if whole = 0 then 0 else 1) + (last - whole) := by rw [← h.files.1, filesOf_len]
theorem not_over_log (n : List UInt8) (whole : Nat) : overF n whole n = false := by
  cases h : overF n whole n with
  | false => rfl
  | true =>
    rcases over_is h with e | ⟨i, _, e⟩ | ⟨i, _, e⟩
    · exact absurd e.symm (draft_log _)
    · exact absurd e.symm (file_log _ _ _)
    · exact absurd e.symm (file_log _ _ _)
theorem LsI.joined (h : LsI D n whole last tabs R b c) (h4 : 4 ≤ tabs.length)
    (hs : ∀ m, getF D'.now m = if m = wholeF n last then some ⟨wholeF n last, pagesB (bytesW (wholeT tabs))⟩ else if overF n last m = true then none else getF D.now m) :
    LsI D' n last last [wholeT tabs] R b c := by
  have hlen := h.tabs_len
  have hl : whole < last := by split at hlen <;> omega
  have ht := h.top
  have hn := h.ne.ne
  refine ⟨h.ne, h.short, fun m hm => ?_, fun m hm hh => ?_, ?_, Nat.le_refl _, ?_, fun T hT => ?_, h.goodr, ?_, h.few, h.tb, h.tc⟩
  · rw [hs] at hm
    by_cases e : m = wholeF n last
    · rw [e]; exact letter_file h.ne h.short (by simp [wholeE]) _
    · rw [if_neg e] at hm
      by_cases e2 : overF n last m = true
      · rw [if_pos e2] at hm; cases hm
      · rw [if_neg e2] at hm
        exact h.letters m hm
  · rw [hs] at hm
    rw [filesOf_whole (by omega)]
    by_cases e : m = wholeF n last
    · exact .inr (by rw [e]; simp)
    · rw [if_neg e] at hm
      by_cases e2 : overF n last m = true
      · rw [if_pos e2] at hm; cases hm
      · rw [if_neg e2] at hm
        rcases h.own m hm hh with e3 | e3
        · exact .inl e3
        · refine absurd ?_ e2
          rcases filesOf_mem e3 h.le with ⟨h1, e⟩ | ⟨i, h1, h2, e⟩
          · rw [e]; exact over_whole (by omega) (by omega) hl
          · rw [e]; exact over_part (by omega) (by omega) h2
  · rw [filesOf_whole (by omega)]
    exact tells_one (by rw [hs, if_pos rfl])
  · have e : getF D'.now n = getF D.now n := by rw [hs, if_neg (fun e => file_log n wholeE last e.symm), not_over_log]; rfl
    rw [pagesF_get e]
    exact h.lay
  · rw [List.mem_singleton.1 hT]; exact h.goodw
  · have h1 := h.sumw
    have h2 := h.bytes
    show sumB (wholeT tabs) + 0 + sumBs R ≤ b
    omega
theorem LsI.beside (h : LsI D n whole last tabs R b c) (hl : ∀ m, (getF D'.now m).isSome = true → Letter m) (hs : ∀ m, m.head? = n.head? → getF D'.now m = getF D.now m) : LsI D' n whole last tabs R b c where
  ne := h.ne
  short := h.short
  letters := hl
  own := fun m hm hh => h.own m (by rw [← hs m hh]; exact hm) hh
  files := h.files.mono fun f hf => hs f (by
    rcases filesOf_mem hf h.le with ⟨_, e⟩ | ⟨i, _, _, e⟩
    · rw [e]; exact file_head h.ne.ne _ _
    · rw [e]; exact file_head h.ne.ne _ _)
  le := h.le
  lay := by rw [pagesF_get (hs n rfl)]; exact h.lay
  good := h.good
  goodr := h.goodr
  bytes := h.bytes
  few := h.few
  tb := h.tb
  tc := h.tc
theorem lsI_new {D : Dsk} {n : List UInt8} (hn : Letter n) (hs : n.length ≤ 5) (hl : ∀ m, (getF D.now m).isSome = true → Letter m ∧ m.head? ≠ n.head?) : LsI D n 0 0 [] [] 0 0 where
  ne := hn
  short := hs
  letters := fun m hm => (hl m hm).1
  own := fun m hm hh => absurd hh (hl m hm).2
  files := ⟨rfl, fun _ _ _ h => by cases h⟩
  le := Nat.le_refl _
  lay := by
    rw [show pagesF D.now n = [] from pages_of_none (by
      cases hg : (getF D.now n).isSome with
      | false => rfl
      | true => exact absurd rfl (hl n hg).2)]
    exact lay_nil
  good := fun _ h => by cases h
  goodr := fun _ h => by cases h
  bytes := Nat.le_refl _
  few := Nat.le_refl _
  tb := by omega
  tc := by omega
end

theorem count_sum : ∀ (L : List (List UInt8)) (l : List Fil), Once l → (∀ m, (getF l m).isSome = true → m ∈ L) → count l ≤ (L.map fun m => (pagesF l m).length).sum
  | [], l, _, h => by
    cases l with
    | nil => exact Nat.le_refl _
    | cons f r => exact absurd (h f.name (by rw [getF, if_pos rfl]; rfl)) (by simp)
  | x :: L, l, ho, h => by
    have h1 := count_sum L (without l x) (without_once ho x) fun m hm => by
      rw [getF_without] at hm
      by_cases e : m = x
      · rw [if_pos e] at hm; cases hm
      · rw [if_neg e] at hm
        rcases List.mem_cons.1 (h m hm) with e2 | e2
        · exact absurd e2 e
        · exact e2
    have h2 := count_without ho x
    have h3 : (L.map fun m => (pagesF (without l x) m).length).sum ≤ (L.map fun m => (pagesF l m).length).sum := by
      clear h1 h2 h
      induction L with
      | nil => exact Nat.le_refl _
      | cons y L ih =>
        have : (pagesF (without l x) y).length ≤ (pagesF l y).length := by
          unfold pagesF
          rw [getF_without]
          by_cases e : y = x
          · rw [if_pos e]; exact Nat.zero_le _
          · rw [if_neg e]; exact Nat.le_refl _
        simp only [List.map_cons, List.sum_cons]
        omega
    simp only [List.map_cons, List.sum_cons]
    omega
theorem logO_len {last : Nat} {R : List (List Wr)} (hl : last ≤ 1000) (h : ∀ X ∈ R, GoodT X ∧ X ≠ []) (hs : sumBs R ≤ 1000000) : (logO last R).length ≤ sumBs R + 60 * R.flatten.length ∧ R.length ≤ R.flatten.length := by
  induction R with
  | nil => exact ⟨Nat.zero_le _, Nat.le_refl _⟩
  | cons X r ih =>
    have e : sumBs (X :: r) = sumB X + sumBs r := by simp [sumBs]
    obtain ⟨i1, i2⟩ := ih (fun Y hY => h Y (by simp [hY])) (by omega)
    obtain ⟨g1, g2⟩ := h X (by simp)
    have h1 := recO_len (i := last + 1) (by omega) g1.lim (by omega)
    have h2 := frm_le (recO (last + 1) X) (by omega)
    have h3 : 1 ≤ X.length := List.length_pos_iff.2 g2
    have e2 : logO last (X :: r) = frm (recO (last + 1) X) ++ logO last r := by unfold logO; rw [List.map_cons, flat_cons]
    rw [e2, List.length_append, List.flatten_cons, List.length_append, List.length_cons]
    omega
theorem tells_pages {l : List Fil} : ∀ (fs : List (List UInt8)) (tabs : List (List Wr)), fs.length = tabs.length → (∀ (i : Nat) f T, fs[i]? = some f → tabs[i]? = some T → getF l f = some ⟨f, pagesB (bytesW T)⟩) → (∀ T ∈ tabs, GoodT T) → sumBs tabs ≤ 1000000 →
    512 * (fs.map fun f => (pagesF l f).length).sum ≤ sumBs tabs + 540 * tabs.length
  | [], [], _, _, _, _ => Nat.zero_le _
  | f :: fs, T :: tabs, hl, ht, hg, hs => by
    have e : sumBs (T :: tabs) = sumB T + sumBs tabs := by simp [sumBs]
    have ih := tells_pages fs tabs (by simpa using hl) (fun i g U h1 h2 => ht (i + 1) g U h1 h2) (fun U hU => hg U (by simp [hU])) (by omega)
    have h1 := ht 0 f T rfl rfl
    have h2 := (bytesW_len (hg T (by simp)).lim (by omega)).1
    have h3 : (pagesF l f).length = pagesOf (bytesW T).length := by unfold pagesF; rw [h1]; exact pagesB_len _
    simp only [List.map_cons, List.sum_cons, List.length_cons]
    rw [h3]
    unfold pagesOf
    omega
theorem LsI.loglen {D : Dsk} {n : List UInt8} {whole last b c : Nat} {tabs R : List (List Wr)} (h : LsI D n whole last tabs R b c) : (logO last R).length ≤ b + 60 * c ∧ R.length ≤ c ∧ needP (logO last R).length = (pagesF D.now n).length := by
  have h1 := h.bytes
  have h2 := h.few
  have h3 := h.tb
  obtain ⟨h4, h5⟩ := logO_len (last := last) (by have := h.top; omega) h.goodr (by omega)
  exact ⟨by omega, by omega, h.lay.2.symm⟩
theorem LsI.pages {D : Dsk} {n : List UInt8} {whole last b c : Nat} {tabs R : List (List Wr)} (h : LsI D n whole last tabs R b c) : 510 * (((n :: filesOf n whole last).map fun m => (pagesF D.now m).length).sum) ≤ 2 * b + 60 * c + 510 + 540 * tabs.length := by
  obtain ⟨h1, _, h2⟩ := h.loglen
  have h3 := h.bytes
  have h4 := h.tb
  have h5 := tells_pages (l := D.now) _ _ h.files.1 h.files.2 h.good (by omega)
  simp only [List.map_cons, List.sum_cons]
  unfold needP at h2
  omega

end Go.Proofs.YtlchmkpnehbnlaaGreatDoor.Cd

/-
  The law's steps: a slice of structs that reads; more than is played? Conditions: none.
-/
namespace Go.Proofs.YtlchmkpnehbnlaaGreatDoor.Cd
open Go.RowKit Go.ChangeShapes Go.WideShapes Go.Deep

structure St11 where
  ws : List Wr
  fro : List UInt8
  n : Int
  syn : Bool
  aga : Bool
  fuse : Int
  keep : Int
def St11.Ok (p : St11) : Prop := FitW p.ws ∧ p.fro.length ≤ 140737488351232 ∧ p.ws.length ≤ 140737488351232
def St11.cells (p : St11) (u : Value) : List Value := [u, .string ⟨p.fro.toArray⟩, .int .i64 p.n, .bool p.syn, .bool p.aga, .int .i64 p.fuse, .int .u64 p.keep]
def St11.Num (p : St11) : Prop := (Lit.int .i64 p.n).wf = true

def Stps (w : World) (B : Nat) (v : Value) (ps : List St11) : Prop :=
  ∃ A c, v = .slice A ps.length c ∧ ps.length ≤ c ∧ c ≤ maxLen ∧ (∀ p ∈ ps, p.Num) ∧
    (0 < ps.length → ∃ b off, A = some ⟨b, off, none⟩ ∧ b < B ∧ ∀ (i : Nat) p, ps[i]? = some p → ∃ u, TbIn w B u p.ws ∧ ∀ (j : Nat) x, (p.cells u)[j]? = some x → w.cell? ⟨b, off + i * 7 + j, none⟩ = some x)

theorem Stps.below {w w' : World} {B : Nat} {v : Value} {ps : List St11} (h : Stps w B v ps) (hb : Below B w w') : Stps w' B v ps := by
  obtain ⟨A, c, h1, h2, h3, h4, h5⟩ := h
  refine ⟨A, c, h1, h2, h3, h4, fun hp => ?_⟩
  obtain ⟨b, off, e, hB, hc⟩ := h5 hp
  refine ⟨b, off, e, hB, fun i p hi => ?_⟩
  obtain ⟨u, hs, hx⟩ := hc i p hi
  exact ⟨u, hs.below hb, fun j x hj => (hb.cell (p := ⟨b, off + i * 7 + j, none⟩) hB).trans (hx j x hj)⟩
theorem Stps.more {w : World} {B B' : Nat} {v : Value} {ps : List St11} (h : Stps w B v ps) (hB : B ≤ B') : Stps w B' v ps := by
  obtain ⟨A, c, h1, h2, h3, h4, h5⟩ := h
  refine ⟨A, c, h1, h2, h3, h4, fun hp => ?_⟩
  obtain ⟨b, off, e, hb, hc⟩ := h5 hp
  refine ⟨b, off, e, Nat.lt_of_lt_of_le hb hB, fun i p hi => ?_⟩
  obtain ⟨u, hs, hx⟩ := hc i p hi
  exact ⟨u, hs.more hB, hx⟩
theorem Stps.len {w : World} {B : Nat} {v : Value} {ps : List St11} (h : Stps w B v ps) : ∃ A c, v = .slice A ps.length c ∧ ps.length ≤ c ∧ c ≤ 9223372036854775807 := by
  obtain ⟨A, c, h1, h2, h3, _⟩ := h
  exact ⟨A, c, h1, h2, h3⟩
theorem Stps.at {w w' : World} {B : Nat} {A : Option Addr} {n c : Nat} {ps : List St11} (h : Stps w B (.slice A n c) ps) (hb : Below B w w') {k : Nat} {p : St11} (hk : ps[k]? = some p) :
    ∃ b off u, A = some ⟨b, off, none⟩ ∧ b < B ∧ TbIn w B u p.ws ∧ p.Num ∧ w'.cell? ⟨b, off + k * 7, none⟩ = some u ∧ w'.cell? ⟨b, off + k * 7 + 1, none⟩ = some (.string ⟨p.fro.toArray⟩) ∧ w'.cell? ⟨b, off + k * 7 + 2, none⟩ = some (.int .i64 p.n) ∧ w'.cell? ⟨b, off + k * 7 + 3, none⟩ = some (.bool p.syn) ∧ w'.cell? ⟨b, off + k * 7 + 4, none⟩ = some (.bool p.aga) ∧ w'.cell? ⟨b, off + k * 7 + 5, none⟩ = some (.int .i64 p.fuse) ∧ w'.cell? ⟨b, off + k * 7 + 6, none⟩ = some (.int .u64 p.keep) := by
  obtain ⟨A0, c0, e, _, _, hn, h5⟩ := h
  injection e with e1 e2 e3
  have hlt := (List.getElem?_eq_some_iff.1 hk).1
  obtain ⟨b, off, e, hB, hc⟩ := h5 (by omega)
  obtain ⟨u, h6, h7⟩ := hc k p hk
  have hx : ∀ (j : Nat) x, (p.cells u)[j]? = some x → w'.cell? ⟨b, off + k * 7 + j, none⟩ = some x := fun j x hj => (hb.cell (p := ⟨b, off + k * 7 + j, none⟩) hB).trans (h7 j x hj)
  exact ⟨b, off, u, e1.trans e, hB, h6, hn p (List.mem_of_getElem? hk), hx 0 _ rfl, hx 1 _ rfl, hx 2 _ rfl, hx 3 _ rfl, hx 4 _ rfl, hx 5 _ rfl, hx 6 _ rfl⟩

theorem bytes_wr11 : Tryz.prog.bytesOf 52 = 40 := by kernel_rfl
theorem wrs_len {H : Type} {enc : TypeId × Value → H} {w : World} {fuel : Nat} {cs : List Value} {x : DataW H × List MemPlace} (hf : DataW.trod enc Tryz.prog w 0 (fun _ => true) true fuel 32 cs = some x) (hw : ∀ m ∈ x.1.weights Tryz.prog 32, m ≤ reachBytes) {A : Option Addr} {n c : Nat} (hcs : cs = [.slice A n c]) : n ≤ 140737488351232 := by
  rcases open_slice Tryz.underlying32 hf with ⟨hcs2, _⟩ | ⟨a, n0, c0, m, k, D, Pl, hcs2, _, hl, hm, hmm, hx, hi⟩
  · rw [hcs] at hcs2
    simp at hcs2
    omega
  · rw [hcs] at hcs2
    simp at hcs2
    obtain ⟨_, rfl, rfl⟩ := hcs2
    have hd : x.1 = .slice ((List.range n).map D) ((List.range (m - n)).map fun j => D (n + j)) := by rw [hx]
    have h1 := hw ((n + (m - n)) * 40) (by
      rw [hd]
      simp only [DataW.weights, Tryz.underlying32, bytes_wr11, List.length_map, List.length_range]
      exact List.mem_cons_self)
    simp only [reachBytes] at h1
    omega

theorem cells_step11 : Tryz.prog.cellsOf 35 = 7 := by kernel_rfl
theorem cells_wrs11 : Tryz.prog.cellsOf 32 = 1 := by kernel_rfl
theorem cells_str11 : Tryz.prog.cellsOf 9 = 1 := by kernel_rfl
theorem cells_int11 : Tryz.prog.cellsOf 3 = 1 := by kernel_rfl
theorem cells_bool11 : Tryz.prog.cellsOf 4 = 1 := by kernel_rfl
theorem cells_u11 : Tryz.prog.cellsOf 33 = 1 := by kernel_rfl

def StAt {H : Type} (w : World) (a : Addr) (i : Nat) (d : DataW H) (p : St11) : Prop :=
  ((∀ n ∈ d.weights Tryz.prog 35, n ≤ reachBytes) → p.Ok) ∧ p.Num ∧ ∃ u, TbIn w w.heap.size u p.ws ∧ ∀ (j : Nat) v, (p.cells u)[j]? = some v → w.cell? (a.add (i * 7 + j)) = some v

set_option maxRecDepth 100000 in
theorem stq_of {H : Type} {enc : TypeId × Value → H} {w : World} {a : Addr} {i n : Nat} {cs : List Value} {x : DataW H × List MemPlace} (hc : w.cells? 0 (a.add (i * 7)) 7 = some cs)
    (ht : DataW.trod enc Tryz.prog w 0 (fun _ => true) true n 35 cs = some x) : ∃ p, StAt w a i x.1 p := by
  obtain ⟨_, hlen, hat⟩ := World.cells?_some hc
  obtain ⟨xs, m, _, hx, _, hxl, hfld⟩ := DataW.trod_struct Tryz.underlying35 ht
  match cs, hlen, xs, hxl with
  | [z0, z1, z2, z3, z4, z5, z6], _, [y0, y1, y2, y3, y4, y5, y6], _ =>
    have f0 : DataW.trod enc Tryz.prog w 0 (fun _ => true) true m 32 (([z0, z1, z2, z3, z4, z5, z6].drop 0).take (Tryz.prog.cellsOf 32)) = some y0 := hfld 0 _ rfl
    rw [cells_wrs11] at f0
    have f1 : DataW.trod enc Tryz.prog w 0 (fun _ => true) true m 9 (([z0, z1, z2, z3, z4, z5, z6].drop 1).take (Tryz.prog.cellsOf 9)) = some y1 := hfld 1 _ rfl
    rw [cells_str11] at f1
    have f2 : DataW.trod enc Tryz.prog w 0 (fun _ => true) true m 3 (([z0, z1, z2, z3, z4, z5, z6].drop 2).take (Tryz.prog.cellsOf 3)) = some y2 := hfld 2 _ rfl
    rw [cells_int11] at f2
    have f3 : DataW.trod enc Tryz.prog w 0 (fun _ => true) true m 4 (([z0, z1, z2, z3, z4, z5, z6].drop 3).take (Tryz.prog.cellsOf 4)) = some y3 := hfld 3 _ rfl
    have f4 : DataW.trod enc Tryz.prog w 0 (fun _ => true) true m 4 (([z0, z1, z2, z3, z4, z5, z6].drop 4).take (Tryz.prog.cellsOf 4)) = some y4 := hfld 4 _ rfl
    rw [cells_bool11] at f3 f4
    have f5 : DataW.trod enc Tryz.prog w 0 (fun _ => true) true m 3 (([z0, z1, z2, z3, z4, z5, z6].drop 5).take (Tryz.prog.cellsOf 3)) = some y5 := hfld 5 _ rfl
    rw [cells_int11] at f5
    have f6 : DataW.trod enc Tryz.prog w 0 (fun _ => true) true m 33 (([z0, z1, z2, z3, z4, z5, z6].drop 6).take (Tryz.prog.cellsOf 33)) = some y6 := hfld 6 _ rfl
    rw [cells_u11] at f6
    obtain ⟨A, n4, c4, ws, q0, hs, hsw⟩ := wrs_of_cells (cs := [z0]) f0
    obtain ⟨x1, q1, e1, _⟩ := DataW.trod_string (cs := [z1]) Tryz.underlying9 f1
    obtain ⟨x2, q2, e2, wf2⟩ := DataW.trod_int (cs := [z2]) Tryz.underlying3 f2
    obtain ⟨x3, q3, e3⟩ := DataW.trod_bool (cs := [z3]) Tryz.underlying4 f3
    obtain ⟨x4, q4, e4⟩ := DataW.trod_bool (cs := [z4]) Tryz.underlying4 f4
    obtain ⟨x5, q5, e5, _⟩ := DataW.trod_int (cs := [z5]) Tryz.underlying3 f5
    obtain ⟨x6, q6, e6, _⟩ := DataW.trod_int (cs := [z6]) Tryz.underlying33 f6
    simp only [List.cons.injEq, and_true] at q1 q2 q3 q4 q5 q6
    simp only [List.cons.injEq, and_true] at q0
    have hxd : x.1 = .agg [y0.1, y1.1, y2.1, y3.1, y4.1, y5.1, y6.1] := by rw [hx]; rfl
    refine ⟨⟨ws, x1.data.toList, x2, x3, x4, x5, x6⟩, fun hw => ?_, wf2, .slice A n4 c4, hs, fun j v hv => ?_⟩
    · have hw' : ∀ n ∈ DataW.weightsEach Tryz.prog [32, 9, 3, 4, 4, 3, 33] [y0.1, y1.1, y2.1, y3.1, y4.1, y5.1, y6.1], n ≤ reachBytes := by
        intro n hn
        refine hw n ?_
        rw [hxd]
        simpa [DataW.weights, Tryz.underlying35] using hn
      have w1 := fun n hn => hw' n (DataW.weights_mem_each (j := 1) (t := 9) (d := y1.1) rfl rfl n hn)
      have l1 := w1 x1.data.toList.length (by rw [e1]; simp [DataW.weights])
      simp only [reachBytes] at l1
      have h0 := fun n hn => hw' n (DataW.weights_mem_each (j := 0) (t := 32) (d := y0.1) rfl rfl n hn)
      refine ⟨hsw h0, (by show x1.data.toList.length ≤ _; omega), ?_⟩
      have h2 := wrs_len (cs := [z0]) f0 h0 (by rw [q0])
      obtain ⟨_, _, e9, _⟩ := hs
      injection e9 with _ e9 _
      show ws.length ≤ _
      omega
    · have hj : j < 7 := (List.getElem?_eq_some_iff.1 hv).1
      rw [← Go.Deep.add_add, hat j hj]
      rw [q0, q1, q2, q3, q4, q5, q6]
      exact hv

instance : Inhabited St11 := ⟨⟨[], [], 0, false, false, 0, 0⟩⟩

theorem stps_of_trod {H : Type} {enc : TypeId × Value → H} {w : World} {v : Value} {d : DataW H} {ps : List MemPlace} (hv : ∃ A n c, v = .slice A n c)
    (h : DataW.Trod enc Tryz.prog w 0 (fun _ => true) true 22 v d ps) (hw : ∀ n ∈ d.weights Tryz.prog 22, n ≤ reachBytes) :
    ∃ l, Stps w w.heap.size v l ∧ ∀ p ∈ l, p.Ok := by
  obtain ⟨A0, n0, c0, rfl⟩ := hv
  obtain ⟨fuel, hf⟩ := h
  rcases open_slice Tryz.underlying22 hf with ⟨hcs, _⟩ | ⟨a, len, cap, m, n, D, Pl, hcs, _, hl, hm, hmm, hx, hi⟩
  · simp [Value.cells] at hcs
    obtain ⟨rfl, rfl, rfl⟩ := hcs
    exact ⟨[], ⟨none, 0, rfl, by simp, by simp, (fun _ h => by cases h), fun h => by simp at h⟩, fun _ h => by cases h⟩
  · simp [Value.cells] at hcs
    obtain ⟨rfl, rfl, rfl⟩ := hcs
    have hone : ∀ i, i < n0 → ∃ p : St11, StAt w a i (D i) p := by
      intro i hin
      obtain ⟨cs', hcc, htt⟩ := hi i (by rw [hmm]; simp; omega)
      rw [cells_step11] at hcc
      exact stq_of hcc htt
    obtain ⟨f, hf⟩ := choose_lt hone
    have hget : ∀ (i : Nat) p, ((List.range n0).map f)[i]? = some p → i < n0 ∧ p = f i := by
      intro i p hip
      obtain ⟨hlt, rfl⟩ := List.getElem?_eq_some_iff.1 hip
      simp at hlt
      exact ⟨hlt, by simp⟩
    refine ⟨(List.range n0).map f, ⟨some a, c0, by simp, by simpa using hl, hm, ?_, fun hp => ?_⟩, ?_⟩
    · intro p hp
      obtain ⟨i, hi2, rfl⟩ := List.mem_map.1 hp
      exact (hf i (List.mem_range.1 hi2)).2.1
    · have hp0 : 0 < n0 := by simpa using hp
      obtain ⟨b, off, spot⟩ := a
      obtain ⟨u0, _, hc0⟩ := (hf 0 hp0).2.2
      have hc := hc0 0 _ rfl
      have hspot : spot = none := by simpa [Addr.add] using World.cell?_spot hc
      subst hspot
      refine ⟨b, off, rfl, ?_, ?_⟩
      · have := World.block_lt_of_cell? w _ hc
        rwa [block_of_add] at this
      · intro i p hip
        obtain ⟨hlt, rfl⟩ := hget i p hip
        obtain ⟨u, h1, h2⟩ := (hf i hlt).2.2
        refine ⟨u, h1, fun j x hj => ?_⟩
        have := h2 j x hj
        rwa [Addr.add_lit, ← Nat.add_assoc] at this
    · intro p hp
      obtain ⟨i, hi2, rfl⟩ := List.mem_map.1 hp
      have hlt := List.mem_range.1 hi2
      refine (hf i hlt).1 fun n hn => hw n ?_
      have hd : d = .slice ((List.range n0).map D) ((List.range (m - n0)).map fun j => D (n0 + j)) := by
        simp only [Prod.mk.injEq] at hx
        exact hx.1
      rw [hd]
      simp only [DataW.weights, Tryz.underlying22]
      exact List.mem_cons_of_mem _ (List.mem_append_left _ (weightsAll_mem (d := D i) (List.mem_map.2 ⟨i, hi2, rfl⟩) hn))

def q11 (p : Wr) : Nat := (p.1.length + p.2.1.length) / 64
def qs11 (ws : List Wr) : Nat := (ws.map q11).sum
def wt11 (p : St11) : Nat := p.ws.length + p.fro.length + qs11 p.ws
def wts (l : List St11) : Nat := (l.map wt11).sum
theorem qs11_snoc {ws : List Wr} {k : Nat} {p : Wr} (h : ws[k]? = some p) : qs11 (ws.take (k + 1)) = qs11 (ws.take k) + q11 p := by
  obtain ⟨hk, rfl⟩ := List.getElem?_eq_some_iff.1 h
  unfold qs11
  rw [List.take_succ_eq_append_getElem hk, List.map_append, List.sum_append]
  simp
theorem wts_snoc {l : List St11} {k : Nat} {p : St11} (h : l[k]? = some p) : wts (l.take (k + 1)) = wts (l.take k) + wt11 p := by
  obtain ⟨hk, rfl⟩ := List.getElem?_eq_some_iff.1 h
  unfold wts
  rw [List.take_succ_eq_append_getElem hk, List.map_append, List.sum_append]
  simp
theorem sumB_q (ws : List Wr) : sumB ws ≤ 93 * (ws.length + qs11 ws) := by
  induction ws with
  | nil => simp [sumB, sumW, qs11]
  | cons p r ih =>
    have h3 : sumB (p :: r) = (30 + p.1.length + p.2.1.length) + sumB r := by unfold sumB; rw [sumW_cons, List.length_cons]; omega
    have h4 : qs11 (p :: r) = q11 p + qs11 r := by simp [qs11]
    have h5 : p.1.length + p.2.1.length ≤ 64 * q11 p + 63 := by unfold q11; omega
    rw [h3, h4, List.length_cons]
    omega
def bOf (l : List St11) : Nat := (l.map fun p => sumB p.ws).sum
def cOf (l : List St11) : Nat := (l.map fun p => p.ws.length).sum
theorem bOf_snoc {l : List St11} {k : Nat} {p : St11} (h : l[k]? = some p) : bOf (l.take (k + 1)) = bOf (l.take k) + sumB p.ws ∧ cOf (l.take (k + 1)) = cOf (l.take k) + p.ws.length := by
  obtain ⟨hk, rfl⟩ := List.getElem?_eq_some_iff.1 h
  unfold bOf cOf
  rw [List.take_succ_eq_append_getElem hk, List.map_append, List.sum_append, List.map_append, List.sum_append]
  simp
theorem bOf_wts (l : List St11) : bOf l ≤ 93 * wts l ∧ cOf l ≤ wts l := by
  induction l with
  | nil => simp [bOf, cOf, wts]
  | cons p r ih =>
    have h1 := sumB_q p.ws
    have h2 : bOf (p :: r) = sumB p.ws + bOf r := by simp [bOf]
    have h3 : cOf (p :: r) = p.ws.length + cOf r := by simp [cOf]
    have h4 : wts (p :: r) = wt11 p + wts r := by simp [wts]
    have h5 : p.ws.length + qs11 p.ws ≤ wt11 p := by unfold wt11; omega
    omega
theorem wts_take (l : List St11) (k : Nat) : wts (l.take k) ≤ wts l := by
  have h := List.take_append_drop k l
  have h2 : wts l = wts (l.take k) + wts (l.drop k) := by
    conv => lhs; rw [← h]
    unfold wts
    rw [List.map_append, List.sum_append]
  omega
theorem small11 {l : List St11} (h : wts l ≤ 1000) (k : Nat) : bOf (l.take k) ≤ 93000 ∧ cOf (l.take k) ≤ 1000 := by
  have h1 := bOf_wts (l.take k)
  have h2 := wts_take l k
  omega

end Go.Proofs.YtlchmkpnehbnlaaGreatDoor.Cd

/-
  More than is played? Conditions: none.
-/
namespace Go.Proofs.YtlchmkpnehbnlaaGreatDoor.Cd
open Go.RowKit

def Played (l : List St11) : Prop := l.length ≤ 60 ∧ wts l ≤ 1000

set_option maxRecDepth 100000 in
set_option maxHeartbeats 3200000 in
theorem great11_any (v : Value) (l : List St11) (w : World) (h : Stps w w.heap.size v l) (hok : ∀ p ∈ l, p.Ok) :
    Calls Tryz.prog 8 #[v] w fun e w' => ∃ g : Bool, e = .returned (.bool g) ∧ Below w.heap.size w w' ∧ (g = false → Played l) := by
  obtain ⟨A, c, rfl, hm1, hm2⟩ := h.len
  have H := Lib.hid h
  have HO := Lib.hid hok
  clear h hok
  go_enter Tryz.func8, Tryz.ntmps8
  go_wp2
  go_loopw [3, 10] (fun n i wr => ∃ (k m : Nat), i = .int .i64 k ∧ k ≤ l.length ∧ n = .int .i64 m ∧ m ≤ 1000 ∧ Hid (m = wts (l.take k)) ∧ Hid (Below w.heap.size w wr)) (fun _ i _ => l.length - (intOf i).toNat)
  case atStart => exact ⟨0, 0, rfl, by omega, rfl, by omega, rfl, Below.refl _ _⟩
  case round =>
    obtain ⟨k, m, rfl, hk, rfl, hm, hst, hb⟩ := hrel
    by_cases hlt : k < l.length
    · obtain ⟨p, hpk⟩ : ∃ p, l[k]? = some p := ⟨l[k], List.getElem?_eq_getElem hlt⟩
      obtain ⟨b, off, u, rfl, hB, hin, _, c0, c1, c2, c3, c4, c5, c6⟩ := H.out.at hb.out hpk
      obtain ⟨Au, cu, rfl, hcu1, hcu2⟩ := hin.len
      have ok := HO.out p (List.mem_of_getElem? hpk)
      have HFW := Lib.hid ok.1
      have hfl := ok.2.1
      have hwl := ok.2.2
      have hsn := wts_snoc hpk
      rw [← hst.out] at hsn
      have HSN := Lib.hid hsn
      have HIN := Lib.hid hin
      have hz := hb.out.size
      clear hpk ok hsn hin hst
      have hb1 : Below w.heap.size w (wr.alloc (.cells #[.slice Au p.ws.length cu, .string ⟨p.fro.toArray⟩, .int .i64 p.n, .bool p.syn, .bool p.aga, .int .i64 p.fuse, .int .u64 p.keep] 35)) := hb.out.alloc hz _
      have HB1 := Lib.hid hb1
      clear hb1
      by_cases h8 : 1000 < m + p.ws.length + p.fro.length
      · have h8' : (1000 : Int) < m + (p.ws.length + p.fro.length) := by omega
        go_wp2_with fail
        go_ret
        exact ⟨true, rfl, HB1.out, fun h => by cases h⟩
      · have h8' : ¬ (1000 : Int) < m + (p.ws.length + p.fro.length) := by omega
        go_wp2_with fail
        obtain ⟨w1, hw1⟩ : ∃ x, wr.alloc (.cells #[.slice Au p.ws.length cu, .string ⟨p.fro.toArray⟩, .int .i64 p.n, .bool p.syn, .bool p.aga, .int .i64 p.fuse, .int .u64 p.keep] 35) = x := ⟨_, rfl⟩
        rw [hw1] at HB1 ⊢
        clear hw1
        obtain ⟨m1, hm1⟩ : ∃ x, m + p.ws.length + p.fro.length = x := ⟨_, rfl⟩
        have hmi : (m : Int) + (p.ws.length + p.fro.length) = (m1 : Int) := by omega
        have hm1b : m1 ≤ 1000 := by omega
        have HM1 := Lib.hid hm1
        first | rw [hmi] | skip
        clear hm1 hmi h8 h8'
        go_loopw [3, 28] (fun n i wr => ∃ (j t : Nat), i = .int .i64 j ∧ j ≤ p.ws.length ∧ n = .int .i64 t ∧ t ≤ 1000 ∧ Hid (t = m1 + qs11 (p.ws.take j)) ∧ Hid (Below w.heap.size w wr)) (fun _ i _ => p.ws.length - (intOf i).toNat)
        case atStart => exact ⟨0, m1, rfl, by omega, rfl, hm1b, (by simp [Hid, qs11]), HB1.out⟩
        case round =>
          obtain ⟨j, t, rfl, hj, rfl, ht, hbt, hb2⟩ := hrel
          by_cases hjl : j < p.ws.length
          · obtain ⟨q, hqk⟩ : ∃ q, p.ws[j]? = some q := ⟨p.ws[j], List.getElem?_eq_getElem hjl⟩
            obtain ⟨b2, off2, e2, hB2, d0, d1, d2⟩ := (HIN.out.below hb2.out).at hqk
            subst e2
            have hqf := HFW.out q (List.mem_of_getElem? hqk)
            have hf1 := hqf.1
            have hf2 := hqf.2
            have HQS := Lib.hid (qs11_snoc hqk)
            have hz2 := hb2.out.size
            have HB2 := Lib.hid (hb2.out.alloc hz2 (.cells #[.string ⟨q.1.toArray⟩, .string ⟨q.2.1.toArray⟩, .bool q.2.2] 52))
            obtain ⟨s, hs⟩ : ∃ s, q11 q = s := ⟨_, rfl⟩
            have hdv : ((q.1.length : Int) + q.2.1.length).tdiv 64 = (s : Int) := by
              rw [Int.tdiv_eq_ediv_of_nonneg (by omega), ← hs]
              unfold q11
              omega
            have hsb : s ≤ 281474976710656 := by rw [← hs]; unfold q11; omega
            rw [hs] at HQS
            clear hqk hqf hs hb2
            by_cases hov : 1000 < t + s
            · have hov' : (1000 : Int) < t + s := by omega
              go_wp2_with fail
              go_ret
              first | exact ⟨true, rfl, HB2.out, fun h => by cases h⟩ | exact .inr ⟨rfl, HB2.out⟩ | exact .inr ⟨true, rfl, HB2.out, fun h => by cases h⟩
            · have hov' : ¬ (1000 : Int) < t + s := by omega
              go_wp2_with fail
              go_roundw
              case rel => exact ⟨j + 1, t + s, by go_num, by omega, by go_num, by omega, by unfold Hid; rw [HQS.out, hbt.out]; omega, HB2.out⟩
              case measure => simp [intOf]; omega
          · have HT : Hid (t = wts (l.take (k + 1))) := by
              have h1 := hbt.out
              rw [List.take_of_length_le (by omega)] at h1
              unfold Hid
              rw [HSN.out, h1, ← HM1.out]
              unfold wt11
              omega
            clear hbt
            go_wp2_with fail
            go_roundw
            case rel => exact ⟨k + 1, t, by go_num, by omega, rfl, ht, HT.out, hb2.out⟩
            case measure => simp [intOf]; omega
    · have HT : Hid (wts l ≤ 1000) := by
        have h1 := hst.out
        rw [List.take_of_length_le (by omega)] at h1
        unfold Hid
        omega
      clear hst
      go_wp2_with fail
      go_ret
      refine ⟨_, rfl, hb.out, fun h => ⟨?_, HT.out⟩⟩
      have := of_decide_eq_false h
      omega

end Go.Proofs.YtlchmkpnehbnlaaGreatDoor.Cd
