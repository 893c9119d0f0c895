/-
  log.trim: a file is left no bytes of the log but the records'. Conditions: the power is on; names that can be.
-/
import Derived.Test.YtlchmkpnehbnlaaGreatDoorG27
import Derived.Test.YtlchmkpnehbnlaaGreatDoorG15
import Derived.BigQuiet
import Derived.Laws.BitsAllLaws
import Derived.IntWalk
/-
  A log's pages, as bytes: pageOf, partOf, ending, pagesOf, unlessNone; slices.Clone, Concat and Grow of bytes. Conditions: none.
-/
namespace Go.Proofs.YtlchmkpnehbnlaaGreatDoor.Cd
open Go.RowKit

theorem two_bytes (w : World) (x y : Int) (a b : UInt8) (hx : x = (a.toNat : Int)) (hy : y = (b.toNat : Int)) (B : Nat) (hB : B ≤ w.heap.size) : Own (w.alloc (.cells #[.int .u8 x, .int .u8 y] 5)) B (.slice (some ⟨w.heap.size, 0, none⟩) 2 2) [a, b] := by
  subst hx hy
  exact ⟨rfl, .inr ⟨w.heap.size, 2, _, rfl, hB, heap_alloc_new w _, Nat.le_refl _, by simp [maxLen], rfl, rfl⟩⟩
theorem ret_i64 {x y : Int} (h : x = y) : Ending.returned (.int .i64 x) = .returned (.int .i64 y) := by rw [h]

set_option maxHeartbeats 800000 in
theorem pageOf_any (v : Value) (bs : List UInt8) (w : World) (h : Sl w w.heap.size v bs) (hb : bs.length ≤ 510) :
    Calls Tryz.prog 89 #[v] w (Wrote w (pageB bs)) := by
  obtain ⟨A, c, rfl, h2, h3⟩ := h.len
  have h3 : c ≤ 9223372036854775807 := h3
  have H := Lib.hid h
  have e0 : Hid ((bs.length : Int) % 256 = ((b8 bs.length).toNat : Int)) := by unfold Hid; rw [b8_nat]; omega
  have e1 : Hid ((bs.length : Int) / 256 % 256 = ((b8 (bs.length / 256)).toNat : Int)) := by unfold Hid; rw [b8_nat]; omega
  clear h
  go_enter Tryz.func89, Tryz.ntmps89
  go_wp2_with (at_builtin; refine wp_append_sl rfl _ _ rfl w.heap.size _ [b8 bs.length, b8 (bs.length / 256)] rfl ?ho ?hB _ (w.heap.size + 1) bs rfl ?hn ?hm ?hK)
  case ho => exact two_bytes w _ _ _ _ (by have := e0.out; omega) (by have := e1.out; omega) _ (Nat.le_refl _)
  case hB => simp
  case hn => exact (H.out.below ((Below.refl _ _).alloc (Nat.le_refl _) _)).more (by omega)
  case hm => simp; omega
  case hK =>
    intro v' w' ho hb'
    go_wp2
    go_ret
    exact ⟨v', rfl, ho, ((Below.refl _ _).alloc (Nat.le_refl _) _).trans hb'⟩

theorem pagesOf_any (n : Nat) (w : World) (h : n ≤ 140737488355328) : Calls Tryz.prog 86 #[.int .i64 n] w (fun e w' => e = .returned (.int .i64 (needP n : Nat)) ∧ w = w') := by
  have hn : (n : Int) ≤ 140737488355328 := by omega
  go_enter Tryz.func86, Tryz.ntmps86
  go_wp2
  go_ret
  exact ⟨ret_i64 (by unfold needP; omega), rfl⟩

theorem unless_any (n : Nat) (w : World) (h : n ≤ 100) : Calls Tryz.prog 72 #[.int .i64 n] w (fun e w' => e = .returned (.int .i64 (unless5 n : Nat)) ∧ w = w') := by
  by_cases hn : n = 5
  · subst hn
    go_enter Tryz.func72, Tryz.ntmps72
    go_wp2
    go_ret
    exact ⟨rfl, rfl⟩
  · have hne : ((n : Int) == 5) = false := by rw [beq_eq_false_iff_ne]; omega
    have hu : Hid (unless5 n = n) := if_neg hn
    clear hn
    go_enter Tryz.func72, Tryz.ntmps72
    go_wp2
    go_ret
    exact ⟨by rw [hu.out]; rfl, rfl⟩

theorem ending_any (A : Option Addr) (c : Nat) (bs : List UInt8) (w : World) (h : Sl w w.heap.size (.slice A bs.length c) bs) (hb : bs.length ≤ 140737488355328) :
    Calls Tryz.prog 49 #[.slice A bs.length c] w (fun e w' => w = w' ∧ ∃ C c', e = .returned (.slice C (lastP bs).length c') ∧ Sl w w.heap.size (.slice C (lastP bs).length c') (lastP bs)) := by
  obtain ⟨k, hk⟩ : ∃ k, bs.length / 510 * 510 = k := ⟨_, rfl⟩
  have hkl : k ≤ bs.length := by omega
  have hlast : lastP bs = bs.drop k := by unfold lastP; rw [hk]
  have hr := sl_rest h k hkl
  obtain ⟨h2, h3⟩ : bs.length ≤ c ∧ c ≤ 9223372036854775807 := by
    obtain ⟨_, _, e0, h2, h3, _⟩ := h
    injection e0 with _ _ e0
    rw [e0]
    exact ⟨h2, h3⟩
  have HR := Lib.hid hr
  have HL := Lib.hid hlast
  have hkc : (k : Int) ≤ c := by omega
  have hbl : (bs.length : Int) ≤ 140737488355328 := by omega
  have HK : Hid (((bs.length : Int) / 510) * 510 = (k : Int)) := by unfold Hid; omega
  have hll : (lastP bs).length = bs.length - k := by rw [HL.out, List.length_drop]
  have HLL := Lib.hid hll
  clear hr hlast hll
  by_cases hc : c = k
  · have hcv : (c : Int) = (bs.length : Int) / 510 * 510 := by omega
    go_enter Tryz.func49, Tryz.ntmps49
    go_wp2
    go_ret
    have hS := HR.out A (fun h => absurd hc h) (fun _ => rfl)
    rw [← HL.out, ← HLL.out] at hS
    exact ⟨rfl, A, c - k, by rw [HLL.out, hk, hc]; rfl, hS⟩
  · go_enter Tryz.func49, Tryz.ntmps49
    go_wp2
    go_ret
    have hS := HR.out _ (fun _ => rfl) (fun h => absurd h hc)
    rw [← HL.out, ← HLL.out] at hS
    exact ⟨rfl, _, c - k, by rw [HLL.out, hk]; rfl, hS⟩

theorem nil_append_own (w : World) (B : Nat) : Own w B (.slice none 0 0) [] := World.ownsRow_nil _ _ _ _

set_option maxRecDepth 100000 in
theorem clone_any (v : Value) (bs : List UInt8) (w : World) (h : Sl w w.heap.size v bs) (hb : bs.length ≤ 140737488355328) :
    Calls Tryz.prog 48 #[v] w (Wrote w bs) := by
  have H := Lib.hid h
  obtain ⟨A, c, rfl, h2, h3, h4, _⟩ := h
  have h3 : c ≤ 9223372036854775807 := h3
  cases A with
  | none =>
    have hc := h4 rfl
    subst hc
    have hbn : bs.length = 0 := by omega
    have hbe : Hid (bs = []) := List.length_eq_zero_iff.1 hbn
    have hq := fun W => Lib.run_eql_slice_nil (P := Tryz.prog) W 88 5 none 0 0 0 0 Tryz.underlying88
    rw [hbn]
    clear hbn h2 h3 h4 hb
    go_enter Tryz.func48, Tryz.ntmps48
    go_wp2
    go_ret
    rw [hbe.out]
    exact ⟨_, rfl, nil_append_own _ _, Below.refl _ _⟩
  | some A =>
    have hq := fun W => Lib.run_eql_slice_nil (P := Tryz.prog) W 88 5 (some A) bs.length c 0 0 Tryz.underlying88
    clear h4
    go_enter Tryz.func48, Tryz.ntmps48
    go_wp2_with (at_builtin; refine wp_append_sl rfl _ _ rfl w.heap.size _ [] rfl ?ho ?hB _ (w.heap.size + 1) bs rfl ?hn ?hm ?hK)
    case ho => exact own_new w _ (Nat.le_refl _)
    case hB => simp
    case hn => exact (H.out.below ((Below.refl _ _).alloc (Nat.le_refl _) _)).more (by omega)
    case hm => simpa using hb
    case hK =>
      intro v' w' ho hb'
      go_wp2
      go_ret
      exact ⟨v', rfl, ho, ((Below.refl _ _).alloc (Nat.le_refl _) _).trans hb'⟩

end Go.Proofs.YtlchmkpnehbnlaaGreatDoor.Cd

/-
  partOf: what a page tells. Conditions: none.
-/
namespace Go.Proofs.YtlchmkpnehbnlaaGreatDoor.Cd
open Go.RowKit

theorem ofInt_i64 (a : Nat) (h : a < 9223372036854775808) : (BitVec.ofInt 64 (a : Int)).toNat = a := by
  rw [BitVec.ofInt_natCast, BitVec.toNat_ofNat]; omega
theorem or_told (a b : Nat) (ha : a < 256) (hb : b < 256) : bits BinOp.or IntKind.i64 (a : Int) ((b : Int) * 256) = ((a + 256 * b : Nat) : Int) := by
  have h4 : a ||| b * 256 = a + 256 * b := by
    have := Nat.two_pow_add_eq_or_of_lt (i := 8) (b := a) (by omega) b
    rw [Nat.or_comm, Nat.mul_comm b 256]
    rw [show (256 : Nat) = 2 ^ 8 from rfl, ← this]
    omega
  have e : ((b : Int) * 256) = ((b * 256 : Nat) : Int) := by omega
  rw [e]
  show IntKind.i64.wrap ((BitVec.ofInt 64 (a : Int) ||| BitVec.ofInt 64 ((b * 256 : Nat) : Int)).toNat : Int) = _
  rw [BitVec.toNat_or, ofInt_i64 a (by omega), ofInt_i64 (b * 256) (by omega), h4, IntKind.wrap_i64]
  omega

set_option maxHeartbeats 800000 in
theorem partOf_any (r : Nat) (q : List UInt8) (w : World) (hr : w.heap[r]? = some (.cells (vb q).toArray 124)) (hq : q.length = 512) :
    Calls Tryz.prog 83 #[.slice (some ⟨r, 0, none⟩) 512 512] w (fun e w' => e = .returned (.slice (some ⟨r, 2, none⟩) (toldP q) 510) ∧ ∃ n, w' = w.drewN n) := by
  have ht : toldP q = min ((q.getD 0 0).toNat + 256 * (q.getD 1 0).toNat) 510 := rfl
  have l0 := (q.getD 0 0).toNat_lt
  have l1 := (q.getD 1 0).toNat_lt
  have d0 : w.cell? ⟨r, 0, none⟩ = some (.int .u8 (q.getD 0 0).toNat) := by
    rw [cell_of_row _ _ 0 _ _ _ hr]
    simp [vb, hq]
  have d1 : w.cell? ⟨r, 1, none⟩ = some (.int .u8 (q.getD 1 0).toNat) := by
    rw [cell_of_row _ _ 1 _ _ _ hr]
    simp [vb, hq]
  generalize (q.getD 0 0).toNat = a at *
  generalize (q.getD 1 0).toNat = b at *
  generalize toldP q = t at *
  have hor := or_told a b (by omega) (by omega)
  have hm1 : min ((a + 256 * b : Nat) : Int) 510 = (t : Int) := by omega
  have hm2 : (t : Int) ≤ 510 := by omega
  have ha : (a : Int) ≤ 255 := by omega
  have hb : (b : Int) ≤ 255 := by omega
  generalize a + 256 * b = m at *
  clear ht l0 l1 hr hq
  go_enter Tryz.func83, Tryz.ntmps83
  go_wp2
  go_quiet (fail)
  go_wp2
  all_goals go_ret
  all_goals first
    | (have e : t = 510 := by omega
       rw [e]
       exact ⟨rfl, _, rfl⟩)
    | (have e : (2 + (m : Int)).toNat - 2 = t := by omega
       rw [← e]
       exact ⟨rfl, _, rfl⟩)
    | (have e : 2 + t - 2 = t := by omega
       rw [e]
       exact ⟨rfl, _, rfl⟩)

theorem sl_part {w : World} {r : Nat} {q : List UInt8} (hr : w.heap[r]? = some (.cells (vb q).toArray 124)) (hq : q.length = 512) : Sl w w.heap.size (.slice (some ⟨r, 2, none⟩) (toldP q) 510) (partP q) := by
  have hlt : r < w.heap.size := (Array.getElem?_eq_some_iff.1 hr).1
  have hl := partP_len hq
  have ht := toldP_le q
  refine ⟨some ⟨r, 2, none⟩, 510, by rw [hl], by rw [hl]; exact ht, by simp [maxLen], (fun h => by cases h), fun ad e _ => ?_, fun ad e j u hu => ?_⟩
  · injection e with e
    subst e
    exact hlt
  · injection e with e
    subst e
    have hj := (List.getElem?_eq_some_iff.1 hu).1
    rw [vb_length, hl] at hj
    rw [Addr.add_lit, cell_of_row _ _ (2 + j) _ _ _ hr, ← hu]
    simp only [vb, partP, List.map_take, List.map_drop, List.getElem?_toArray]
    rw [List.getElem?_take, if_pos hj, List.getElem?_drop]

end Go.Proofs.YtlchmkpnehbnlaaGreatDoor.Cd

/-
  slices.Grow and Concat of bytes. Conditions: none.
-/
namespace Go.Proofs.YtlchmkpnehbnlaaGreatDoor.Cd
open Go.RowKit

theorem own_cut {w : World} {B : Nat} {g n cap : Nat} {bs : List UInt8} (h : Own w B (.slice (some ⟨g, 0, none⟩) n cap) bs) : Own w B (.slice (some ⟨g, 0, none⟩) 0 cap) [] := by
  rcases h.2 with ⟨e, _⟩ | ⟨g', cap', cur, e, hb, hh, hn, hm, hc, ht⟩
  · cases e
  · injection e with e1 e2 e3
    injection e1 with e1
    injection e1 with e1
    subst e1 e3
    exact ⟨rfl, .inr ⟨g, cap, cur, rfl, hb, hh, Nat.zero_le _, hm, hc, by simp [vb]⟩⟩

set_option maxHeartbeats 800000 in
theorem grow_any (n : Nat) (w : World) (hn : n ≤ 140737488355328) : Calls Tryz.prog 176 #[.slice none 0 0, .int .i64 n] w (Wrote w []) := by
  have hn2 : (n : Int) ≤ 140737488355328 := by omega
  by_cases h0 : n = 0
  · subst h0
    go_enter Tryz.func176, Tryz.ntmps176
    go_wp2
    go_ret
    exact ⟨_, rfl, nil_append_own _ _, Below.refl _ _⟩
  · have h1 : 0 < (n : Int) := by omega
    go_enter Tryz.func176, Tryz.ntmps176
    go_wp2_with (at_builtin; refine wp_append_zeros rfl _ _ rfl w.heap.size _ [] rfl ?ho ?hB n (n : Int) rfl rfl h0 ?hm ?hK)
    case ho => exact nil_append_own _ _
    case hB => exact Nat.le_refl _
    case hm => simpa using hn
    case hK =>
      intro v' w' ho hb'
      have hl : (List.replicate n (0 : UInt8)).length = n := List.length_replicate
      obtain ⟨g, cap, cur, rfl, hg1, hg2, hg3, hg4, hg5, hg6⟩ := own_block ho (by rw [hl]; omega)
      have HO := Lib.hid (own_cut ho)
      have hg5 : cap ≤ 9223372036854775807 := hg5
      rw [hl] at hg4 ⊢
      have hg4' : (n : Int) ≤ cap := by omega
      clear ho hg6 hg3 hl
      go_wp2
      go_ret
      exact ⟨_, rfl, HO.out, hb'⟩

set_option maxRecDepth 100000 in
set_option maxHeartbeats 1600000 in
theorem concat_any (r : Nat) (x y : Value) (a b : List UInt8) (w : World) (hr : r < w.heap.size) (c0 : w.cell? ⟨r, 0, none⟩ = some x) (c1 : w.cell? ⟨r, 1, none⟩ = some y) (hx : Sl w w.heap.size x a) (hy : Sl w w.heap.size y b) (hl : a.length + b.length ≤ 140737488355328) :
    Calls Tryz.prog 150 #[.slice (some ⟨r, 0, none⟩) 2 2] w (Wrote w (a ++ b)) := by
  obtain ⟨A, ca, rfl, ha2, ha3⟩ := hx.len
  obtain ⟨C, cb, rfl, hb2, hb3⟩ := hy.len
  have ha3 : ca ≤ 9223372036854775807 := ha3
  have hb3 : cb ≤ 9223372036854775807 := hb3
  have HX := Lib.hid hx
  have HY := Lib.hid hy
  clear hx hy
  have hla : (a.length : Int) ≤ 140737488355328 := by omega
  have hlb : (b.length : Int) ≤ 140737488355328 := by omega
  have hlab : (a.length : Int) + b.length ≤ 140737488355328 := by omega
  go_enter Tryz.func150, Tryz.ntmps150
  go_wp2
  go_loop [3, 11] (fun s i => ∃ k : Nat, i = .int .i64 k ∧ ((k = 0 ∧ s = .int .i64 0) ∨ (k = 1 ∧ s = .int .i64 a.length) ∨ (k = 2 ∧ s = .int .i64 ((a.length : Int) + b.length)))) (fun _ i => 2 - (intOf i).toNat)
  case atStart => exact ⟨0, rfl, .inl ⟨rfl, rfl⟩⟩
  case round =>
    obtain ⟨k, rfl, h⟩ := hrel
    rcases h with ⟨rfl, rfl⟩ | ⟨rfl, rfl⟩ | ⟨rfl, rfl⟩
    · go_wp2
      go_round
      case rel => exact ⟨1, rfl, .inr (.inl ⟨rfl, rfl⟩)⟩
      case measure => simp [intOf]
    · go_wp2
      go_round
      case rel => exact ⟨2, rfl, .inr (.inr ⟨rfl, rfl⟩)⟩
      case measure => simp [intOf]
    · obtain ⟨n, hn⟩ : ∃ n : Nat, (a.length : Int) + b.length = n := ⟨a.length + b.length, by omega⟩
      rw [hn]
      have hn' : n ≤ 140737488355328 := by omega
      have HN := Lib.hid hn
      clear hn
      go_wp2_with (go_at_call 176; refine (grow_any n w hn').mono ?_; rintro e w1 ⟨v1, rfl, ho1, hb1⟩; have HO1 := Lib.hid ho1; have HB1 := Lib.hid hb1; clear ho1 hb1)
      go_loopw [6, 27] (fun s i wr => ∃ k : Nat, i = .int .i64 k ∧ Hid (Below w.heap.size w wr) ∧ ((k = 0 ∧ Hid (Own wr w.heap.size s [])) ∨ (k = 1 ∧ Hid (Own wr w.heap.size s a)) ∨ (k = 2 ∧ Hid (Own wr w.heap.size s (a ++ b))))) (fun _ i _ => 2 - (intOf i).toNat)
      case atStart => exact ⟨0, rfl, HB1, .inl ⟨rfl, HO1⟩⟩
      case round =>
        obtain ⟨k, rfl, hbl, h⟩ := hrel
        have d0 : wr.cell? ⟨r, 0, none⟩ = some (.slice A a.length ca) := (hbl.out.cell (p := ⟨r, 0, none⟩) hr).trans c0
        have d1 : wr.cell? ⟨r, 1, none⟩ = some (.slice C b.length cb) := (hbl.out.cell (p := ⟨r, 1, none⟩) hr).trans c1
        rcases h with ⟨rfl, ho⟩ | ⟨rfl, ho⟩ | ⟨rfl, ho⟩
        · go_wp2_with (at_builtin; refine wp_append_sl rfl _ _ rfl w.heap.size _ [] rfl ?ho ?hB _ w.heap.size a rfl ?hn ?hm ?hK)
          case ho => exact ho.out
          case hB => exact hbl.out.size
          case hn => exact HX.out.below hbl.out
          case hm => simp; omega
          case hK =>
            intro v' w' ho' hb'
            have HO := Lib.hid ho'
            have HB := Lib.hid (hbl.out.trans hb')
            clear ho' hb'
            go_wp2
            go_roundw
            case rel => exact ⟨1, rfl, HB, .inr (.inl ⟨rfl, HO⟩)⟩
            case measure => simp [intOf]
        · go_wp2_with (at_builtin; refine wp_append_sl rfl _ _ rfl w.heap.size _ a rfl ?ho ?hB _ w.heap.size b rfl ?hn ?hm ?hK)
          case ho => exact ho.out
          case hB => exact hbl.out.size
          case hn => exact HY.out.below hbl.out
          case hm => exact hl
          case hK =>
            intro v' w' ho' hb'
            have HO := Lib.hid ho'
            have HB := Lib.hid (hbl.out.trans hb')
            clear ho' hb'
            go_wp2
            go_roundw
            case rel => exact ⟨2, rfl, HB, .inr (.inr ⟨rfl, HO⟩)⟩
            case measure => simp [intOf]
        · go_wp2
          go_ret
          exact ⟨_, rfl, ho.out, hbl.out⟩

end Go.Proofs.YtlchmkpnehbnlaaGreatDoor.Cd

/-
  log.read: the log's bytes that a file's pages have. Conditions: the power is on.
-/
namespace Go.Proofs.YtlchmkpnehbnlaaGreatDoor.Cd
open Go.RowKit

theorem reads_in {D : Dsk} {n q : List UInt8} {k : Nat} {w w' : World} {e : Ending} (ho : D.off = false) (hk : (pagesF D.now n)[k]? = some q) (h : ReadsD D n (k : Int) w e w') :
    q.length = 512 ∧ e = .returned (.tuple #[.slice (some ⟨w.heap.size, 0, none⟩) 512 512, .int .i64 0]) ∧ w' = w.alloc (.cells (vb q).toArray 124) := by
  obtain ⟨hlt, hq⟩ := List.getElem?_eq_some_iff.1 hk
  have hr : readD D n (k : Int) = (q, 0) := by
    unfold readD
    rw [if_neg (by rw [ho]; simp), if_neg (by omega), Int.toNat_natCast, List.getD_eq_getElem?_getD, hk]
    rfl
  rcases h with ⟨p, h1, h2, h3, h4⟩ | ⟨m, h1, h2, _⟩
  · rw [hr] at h1
    injection h1 with h1
    subst h1
    exact ⟨h2, h3, h4⟩
  · rw [hr] at h2
    injection h2 with _ h2
    exact absurd h2.symm h1

set_option maxRecDepth 100000 in
set_option maxHeartbeats 1600000 in
theorem read_l (g N : Nat) (n : List UInt8) (S : Nat → Prop) (D : Dsk) (w : World) (hd : DkS w g N S D) (ho : D.off = false) (hn : n.length ≤ 140737488355000) (hc : (pagesF D.now n).length ≤ 100000) :
    Calls Tryz.prog 46 #[.pointer (some ⟨g, 0, none⟩), .string ⟨n.toArray⟩] w (fun e w' => ∃ v, e = .returned (.tuple #[v, .int .i64 0]) ∧ Own w' w.heap.size v (logB (pagesF D.now n)) ∧ Below w.heap.size w w') := by
  have HD := Lib.hid hd
  have HC := Lib.hid (count_dks g N S D n w hd ho (by omega))
  obtain ⟨P, hP⟩ : ∃ x, pagesF D.now n = x := ⟨_, rfl⟩
  rw [hP] at hc HC
  have HP := Lib.hid hP
  rw [hP]
  have hc' : (P.length : Int) ≤ 100000 := by omega
  clear hd hP
  go_enter Tryz.func46, Tryz.ntmps46
  go_wp2_with (go_at_call 81; refine HC.out.mono ?_; rintro e w1 ⟨rfl, rfl⟩)
  go_loopw [6, 14] (fun b i wr => ∃ k : Nat, i = .int .i64 k ∧ k ≤ P.length ∧ Hid (Own wr w1.heap.size b (logB (P.take k))) ∧ Hid ((logB (P.take k)).length = 510 * k) ∧ Hid (Below w1.heap.size w1 wr)) (fun _ i _ => P.length - (intOf i).toNat)
  case atStart => exact ⟨0, rfl, by omega, nil_append_own _ _, rfl, Below.refl _ _⟩
  case round =>
    obtain ⟨k, rfl, hk, hown, hlen, hbl⟩ := hrel
    by_cases hlt : k < P.length
    · obtain ⟨q, hq⟩ : ∃ q, P[k]? = some q := ⟨P[k], List.getElem?_eq_getElem hlt⟩
      have hwf : (Lit.int .i64 (k : Int)).wf = true := WalkArith.wf_i64 (by omega)
      have HR := Lib.hid (read_dks g N S D n wr (k : Int) (HD.out.below hbl.out) (by omega) hwf)
      have hq2 : (pagesF D.now n)[k]? = some q := by rw [HP.out]; exact hq
      have HQ2 := Lib.hid hq2
      have hap := logB_append (P.take k) [q] (by rw [hlen.out, List.length_take]; omega)
      have htk : P.take (k + 1) = P.take k ++ [q] := by
        obtain ⟨h1, h2⟩ := List.getElem?_eq_some_iff.1 hq
        rw [List.take_succ_eq_append_getElem h1, h2]
      rw [logB_single] at hap
      have hbrk : (partP q).length < 510 → logB P = logB (P.take k) ++ partP q := fun hs => by
        obtain ⟨h1, h2⟩ := List.getElem?_eq_some_iff.1 hq
        have e : P = P.take k ++ (q :: P.drop (k + 1)) := by rw [← h2, List.getElem_cons_drop, List.take_append_drop]
        have := logB_append (P.take k) (q :: P.drop (k + 1)) (by rw [hlen.out, List.length_take]; omega)
        rw [← e, logB_one _ _ hs] at this
        exact this
      have HBRK := Lib.hid hbrk
      have HTK := Lib.hid htk
      have HAP := Lib.hid hap
      obtain ⟨L, hL⟩ : ∃ x, logB (P.take k) = x := ⟨_, rfl⟩
      rw [hL] at hown hlen HAP HBRK
      have hzb := hbl.out.size
      clear hwf hq hq2 hap htk hbrk hL
      go_wp2_with (first
        | (go_at_call 82; refine HR.out.mono ?_; intro e w2 hr; obtain ⟨hql, rfl, rfl⟩ := reads_in ho HQ2.out hr; have HP2 := Lib.hid (partOf_any wr.heap.size q _ (heap_alloc_new wr _) hql); have HB2 := Lib.hid ((Below.refl wr.heap.size wr).alloc (Nat.le_refl _) (.cells (vb q).toArray 124)); have HS2 := Lib.hid (sl_part (heap_alloc_new wr _) hql); have HPL := Lib.hid (partP_len hql); have htl := toldP_le q; clear hr)
        | (go_at_call 83; refine HP2.out.mono ?_; rintro e w3 ⟨rfl, m, rfl⟩)
        | (at_builtin; refine wp_append_sl rfl _ _ rfl w1.heap.size _ L rfl ?ho ?hB _ (wr.heap.size + 1) (partP q) rfl ?hn ?hm ?hK))
      case ho => exact hown.out.keep (below_drewN HB2.out m)
      case hB => simp; omega
      case hn => have := HS2.out; rw [asz] at this; exact this.below (below_drewN (Below.refl _ _) m)
      case hm => rw [hlen.out, HPL.out]; omega
      case hK =>
        intro v' w' ho' hb'
        have HO := Lib.hid ho'
        have HB := Lib.hid (hbl.out.trans ((below_drewN (HB2.out.mono hzb) m).trans hb'))
        clear ho' hb'
        by_cases hfull : toldP q < 510
        · have hF : (toldP q : Int) < 510 := by omega
          have HF := Lib.hid hfull
          clear hfull
          go_wp2
          go_ret2
          exact ⟨_, rfl, by rw [HBRK.out (by rw [HPL.out]; exact HF.out)]; exact HO.out, HB.out⟩
        · have hF : (510 : Int) ≤ toldP q := by omega
          have HF := Lib.hid hfull
          clear hfull
          go_wp2
          go_roundw
          case rel =>
            refine ⟨k + 1, by go_num, by omega, ?_, ?_, HB⟩
            · unfold Hid
              rw [HTK.out, HAP.out]
              exact HO.out
            · unfold Hid
              rw [HTK.out, HAP.out, List.length_append, hlen.out, HPL.out]
              have := HF.out
              omega
          case measure => simp [intOf]; omega
    · have hkP : k = P.length := by omega
      have htk : Hid (P.take k = P) := by unfold Hid; rw [hkP, List.take_length]
      clear hkP
      go_wp2
      go_ret2
      exact ⟨_, rfl, by have := hown.out; rw [htk.out] at this; exact this, hbl.out⟩

end Go.Proofs.YtlchmkpnehbnlaaGreatDoor.Cd

/-
  A log as it lies: ready, Size, Sync, Clear. Conditions: names that can be.
-/
namespace Go.Proofs.YtlchmkpnehbnlaaGreatDoor.Cd
open Go.RowKit

def plus (S : Nat → Prop) (l : Nat) : Nat → Prop := fun k => S k ∨ k = l

def U8 (w : World) (v : Value) (n : Nat) : Prop := 0 < n → ∀ A m c, v = .slice (some A) m c → ∃ cs fr, w.heap[A.block]? = some (.cells cs 5 fr)
theorem u8_own {w : World} {B : Nat} {v : Value} {bs : List UInt8} (h : Own w B v bs) : U8 w v bs.length := by
  intro h0 A m c e
  obtain ⟨g, cap, cur, e2, _, _, h3, _⟩ := own_block h h0
  rw [e] at e2
  injection e2 with e2 _ _
  injection e2 with e2
  exact ⟨cur, (0, 0), by rw [e2]; exact h3⟩

def LogAt (w : World) (S : Nat → Prop) (l g : Nat) (n s : List UInt8) : Prop :=
  ¬ S l ∧ ∃ v, w.heap[l]? = some (.cells #[.pointer (some ⟨g, 0, none⟩), .string ⟨n.toArray⟩, .int .i64 s.length, v] 95) ∧ Far w (plus S l) v (lastP s) ∧ U8 w v (lastP s).length

section
variable {w w' : World} {S T : Nat → Prop} {l g : Nat} {n s : List UInt8}
theorem LogAt.lt (h : LogAt w S l g n s) : l < w.heap.size := by
  obtain ⟨_, v, h, _⟩ := h
  exact (Array.getElem?_eq_some_iff.1 h).1
theorem far_lt {v : Value} {bs : List UInt8} (h : Far w S v bs) (h0 : 0 < bs.length) {A : Addr} {m c : Nat} (e : v = .slice (some A) m c) : A.block < w.heap.size := by
  obtain ⟨⟨A', c', e1, _, _, _, e5, _⟩, _⟩ := h
  rw [e1] at e
  injection e with e _ _
  exact e5 A e h0
theorem LogAt.below (h : LogAt w S l g n s) (hb : Below w.heap.size w w') : LogAt w' S l g n s := by
  have hlt := h.lt
  obtain ⟨h1, v, h2, h3, h4⟩ := h
  refine ⟨h1, v, (hb.block l hlt).trans h2, h3.below hb, fun h0 A m c e => ?_⟩
  rw [hb.block _ (far_lt h3 h0 e)]
  exact h4 h0 A m c e
theorem LogAt.less (h : LogAt w S l g n s) (hst : ∀ k, k < w.heap.size → T k → S k) : LogAt w T l g n s := by
  have hlt := h.lt
  obtain ⟨h1, v, h2, h3, h4⟩ := h
  refine ⟨fun e => h1 (hst _ hlt e), v, h2, h3.less fun k hk e => ?_, h4⟩
  rcases e with e | e
  · exact .inl (hst k hk e)
  · exact .inr e
theorem LogAt.apart (h : LogAt w S l g n s) (ha : Apart S w w') : LogAt w' (since S w w') l g n s := by
  have hlt := h.lt
  obtain ⟨h1, v, h2, h3, h4⟩ := h
  refine ⟨fun e => ?_, v, (ha.block l hlt h1).trans h2, ?_, fun h0 A m c e => ?_⟩
  · rcases e with e | e
    · exact h1 e
    · omega
  · have := h3.apart (ha.mono (T := plus S l) fun k hk => .inl hk)
    refine this.less fun k hk e => ?_
    rcases e with (e | e) | e
    · exact .inl (.inl e)
    · exact .inr e
    · exact .inl (.inr e)
  · rw [ha.block _ (far_lt h3 h0 e) (fun e2 => h3.2 h0 A m c e (.inl e2))]
    exact h4 h0 A m c e
theorem LogAt.aside (h : LogAt w S l g n s) (ha : Apart T w w') (hl : ¬ T l) (hT : ∀ k, T k → k < w.heap.size → ∀ cs fr, w.heap[k]? ≠ some (.cells cs 5 fr)) : LogAt w' S l g n s := by
  have hlt := h.lt
  obtain ⟨h1, v, h2, h3, h4⟩ := h
  have hn : 0 < (lastP s).length → ∀ A m c, v = .slice (some A) m c → ¬ T A.block := fun h0 A m c e ht => by
    obtain ⟨cs, fr, hc⟩ := h4 h0 A m c e
    exact hT _ ht (far_lt h3 h0 e) cs fr hc
  refine ⟨h1, v, (ha.block l hlt hl).trans h2, ?_, fun h0 A m c e => ?_⟩
  · obtain ⟨⟨A, c, e1, e2, e3, e4, e5, e6⟩, h5⟩ := h3
    refine ⟨⟨A, c, e1, e2, e3, e4, fun ad e h0 => Nat.lt_of_lt_of_le (e5 ad e h0) ha.size, fun ad e j u hu => ?_⟩, h5⟩
    have hj : j < (lastP s).length := by have := (List.getElem?_eq_some_iff.1 hu).1; rwa [vb_length] at this
    rw [ha.cell (p := ad.add j) (by rw [block_of_add]; exact e5 ad e (by omega)) (by rw [block_of_add]; rw [e] at e1; exact hn (by omega) ad _ _ e1)]
    exact e6 ad e j u hu
  · rw [ha.block _ (far_lt h3 h0 e) (hn h0 A m c e)]
    exact h4 h0 A m c e
theorem LogAt.cells (h : LogAt w S l g n s) : w.cell? ⟨l, 0, none⟩ = some (.pointer (some ⟨g, 0, none⟩)) ∧ w.cell? ⟨l, 1, none⟩ = some (.string ⟨n.toArray⟩) ∧ w.cell? ⟨l, 2, none⟩ = some (.int .i64 s.length) ∧ ∃ v, w.cell? ⟨l, 3, none⟩ = some v ∧ Far w (plus S l) v (lastP s) := by
  obtain ⟨_, v, h2, h3, _⟩ := h
  exact ⟨cell_of_row _ _ 0 _ _ _ h2, cell_of_row _ _ 1 _ _ _ h2, cell_of_row _ _ 2 _ _ _ h2, v, cell_of_row _ _ 3 _ _ _ h2, h3⟩
theorem LogAt.frozen (h : LogAt w S l g n s) (o : Nat) : w.frozen? ⟨l, o, none⟩ = false := by
  obtain ⟨_, v, h2, _⟩ := h
  unfold World.frozen?
  simp only [h2]
  rfl
theorem log_new (g : Nat) (n s : List UInt8) (v : Value) (hS : ∀ k, S k → k < w.heap.size) (hv : Far w S v (lastP s)) (hu : U8 w v (lastP s).length) : LogAt (w.alloc (.cells #[.pointer (some ⟨g, 0, none⟩), .string ⟨n.toArray⟩, .int .i64 s.length, v] 95)) S w.heap.size g n s := by
  have hb : Below w.heap.size w (w.alloc (.cells #[.pointer (some ⟨g, 0, none⟩), .string ⟨n.toArray⟩, .int .i64 s.length, v] 95)) := (Below.refl _ _).alloc (Nat.le_refl _) _
  refine ⟨fun e => by have := hS _ e; omega, v, heap_alloc_new w _, ⟨(hv.below hb).1, fun h0 A m c e hk => ?_⟩, fun h0 A m c e => ?_⟩
  · rcases hk with hk | hk
    · exact hv.2 h0 A m c e hk
    · have := far_lt hv h0 e; omega
  · rw [hb.block _ (far_lt hv h0 e)]
    exact hu h0 A m c e
end

def errL (D : Dsk) : Nat := if D.off = true then 8 else 0

theorem ready_l (l g N : Nat) (n s : List UInt8) (S : Nat → Prop) (D : Dsk) (w : World) (h : LogAt w S l g n s) (hd : DkS w g N S D) :
    Calls Tryz.prog 71 #[.pointer (some ⟨l, 0, none⟩)] w (fun e w' => e = .returned (.int .i64 (errL D : Nat)) ∧ w' = w) := by
  obtain ⟨c0, _⟩ := h.cells
  have HD := Lib.hid (down_dks g N S D w hd)
  clear h hd
  unfold errL
  cases ho : D.off
  all_goals
    rw [ho] at HD
    go_enter Tryz.func71, Tryz.ntmps71
    go_wp2_with (go_at_call 45; refine HD.out.mono ?_; rintro e w' ⟨rfl, rfl⟩)
    go_ret
    exact ⟨rfl, rfl⟩

theorem mayD_le (D : Dsk) (n : List UInt8) : (mayD D n).2 ≤ 8 := by
  unfold mayD ends
  split
  · exact Nat.le_refl _
  · split
    · show 5 ≤ 8; omega
    · split
      · exact Nat.le_refl _
      · exact Nat.zero_le _
theorem syncD_le (D : Dsk) (n : List UInt8) : (syncD D n).2 ≤ 8 := by
  unfold syncD
  split
  · exact Nat.zero_le _
  · exact mayD_le D n
theorem removeD_le (D : Dsk) (n : List UInt8) : (removeD D n).2 ≤ 8 := by
  unfold removeD
  split
  · exact Nat.zero_le _
  · exact mayD_le D n

set_option maxHeartbeats 800000 in
theorem sync_l (l g N : Nat) (n s : List UInt8) (S : Nat → Prop) (D : Dsk) (w : World) (h : LogAt w S l g n s) (hd : DkS w g N S D) (hn : n.length ≤ 140737488355000) (hN : N + 4 ≤ 137438953472) :
    Calls Tryz.prog 38 #[.pointer (some ⟨l, 0, none⟩)] w (MakesD g (N + 4) S (syncD D n).1 (.int .i64 (unless5 (syncD D n).2 : Nat)) w) := by
  have HR := Lib.hid (ready_l l g N n s S D w h hd)
  obtain ⟨c0, c1, _⟩ := h.cells
  have hlt := h.lt
  have hnS := h.1
  have HD := Lib.hid hd
  by_cases ho : D.off = true
  · have he : syncD D n = (D, 8) := by unfold syncD mayD; rw [if_pos ho, if_neg (by simp)]
    have hr : errL D = 8 := if_pos ho
    rw [hr] at HR
    rw [he]
    clear he hr h hd
    go_enter Tryz.func38, Tryz.ntmps38
    go_wp2_with (go_at_call 71; refine HR.out.mono ?_; rintro e w' ⟨rfl, rfl⟩)
    go_ret
    exact makesD_same HD.out (Below.refl _ _) (by omega) hN
  · have hr : errL D = 0 := if_neg ho
    rw [hr] at HR
    have HS := Lib.hid (sync_dks g N S D n w.drew (hd.below (Below.refl _ _).drew) (by omega) hN)
    have hle := syncD_le D n
    obtain ⟨m, hm⟩ : ∃ m, (syncD D n).2 = m := ⟨_, rfl⟩
    rw [hm] at HS hle ⊢
    have HU := fun W => unless_any m W (by omega)
    have HU := Lib.hid HU
    clear hr h hd ho hm
    go_enter Tryz.func38, Tryz.ntmps38
    go_wp2_with (go_at_call 71; refine HR.out.mono ?_; rintro e w' ⟨rfl, rfl⟩)
    go_region_held3 (fun W => W.cell? ⟨l, 0, none⟩ = some (.pointer (some ⟨g, 0, none⟩)) ∧ W.cell? ⟨l, 1, none⟩ = some (.string ⟨n.toArray⟩)) (first | exact ⟨c0, c1⟩ | assumption) (first
      | (go_at_call 73; refine HS.out.mono ?_; rintro e w' hm; have hS3 : w'.cell? ⟨l, 0, none⟩ = some (.pointer (some ⟨g, 0, none⟩)) ∧ w'.cell? ⟨l, 1, none⟩ = some (.string ⟨n.toArray⟩) := ⟨(hm.2.2.cell (p := ⟨l, 0, none⟩) hlt hnS).trans c0, (hm.2.2.cell (p := ⟨l, 1, none⟩) hlt hnS).trans c1⟩; obtain rfl := hm.1; have hm := Lib.hid hm)
      | (go_at_call 72; refine (HU.out _).mono ?_; rintro e w'' ⟨rfl, rfl⟩))
    all_goals go_wp2_with fail
    all_goals go_ret
    all_goals exact ⟨rfl, hm.out.undrew.2⟩

end Go.Proofs.YtlchmkpnehbnlaaGreatDoor.Cd

/-
  A log's Clear; how its block is written. Conditions: names that can be.
-/
namespace Go.Proofs.YtlchmkpnehbnlaaGreatDoor.Cd
open Go.RowKit

section
variable {W : World} {l : Nat} {a b c d x : Value} {T : TypeId}
theorem four_two (h : W.heap[l]? = some (.cells #[a, b, c, d] T)) : (W.setCell ⟨l, 2, none⟩ x).heap[l]? = some (.cells #[a, b, x, d] T) := by
  unfold World.setCell
  simp [Array.getElem?_modify, h]
theorem four_three (h : W.heap[l]? = some (.cells #[a, b, c, d] T)) : (W.setCell ⟨l, 3, none⟩ x).heap[l]? = some (.cells #[a, b, c, x] T) := by
  unfold World.setCell
  simp [Array.getElem?_modify, h]
end
theorem apart_set (W : World) (l o : Nat) (x : Value) : Apart (fun k => k = l) W (W.setCell ⟨l, o, none⟩ x) := ⟨rfl, rfl, rfl, by simp, fun _ _ hk => heap_setCell_other _ _ _ _ hk⟩
theorem apart_set2 (W : World) (l : Nat) (x y : Value) : Apart (fun k => k = l) W ((W.setCell ⟨l, 2, none⟩ x).setCell ⟨l, 3, none⟩ y) :=
  ⟨rfl, rfl, rfl, by simp, fun _ _ hk => (heap_setCell_other _ _ _ _ hk).trans (heap_setCell_other _ _ _ _ hk)⟩

def MakesL (g N : Nat) (S : Nat → Prop) (D : Dsk) (v : Value) (l : Nat) (n s : List UInt8) (w : World) (e : Ending) (w' : World) : Prop :=
  e = .returned v ∧ ∃ T : Nat → Prop, DkS w' g N T D ∧ LogAt w' T l g n s ∧ (∀ k, T k → since S w w' k) ∧ Apart (plus S l) w w'

theorem MakesL.of {g N l : Nat} {S : Nat → Prop} {D : Dsk} {v : Value} {n s : List UInt8} {w w' : World} {e : Ending} (h : LogAt w S l g n s) (hm : MakesD g N S D v w e w') : MakesL g N S D v l n s w e w' :=
  ⟨hm.1, _, hm.2.1, h.apart hm.2.2, fun _ => id, hm.2.2.mono fun _ => .inl⟩

set_option maxHeartbeats 800000 in
theorem clear_l (l g N : Nat) (n s : List UInt8) (S : Nat → Prop) (D : Dsk) (w : World) (h : LogAt w S l g n s) (hd : DkS w g N S D) (hn : n.length ≤ 140737488355000) (hN : N + 4 ≤ 137438953472) :
    Calls Tryz.prog 56 #[.pointer (some ⟨l, 0, none⟩)] w (MakesL g (N + 4) S (removeD D n).1 (.int .i64 (unless5 (removeD D n).2 : Nat)) l n (if unless5 (removeD D n).2 = 0 then [] else s) w) := by
  have HR := Lib.hid (ready_l l g N n s S D w h hd)
  have HL := Lib.hid h
  obtain ⟨c0, c1, _⟩ := h.cells
  have hlt := h.lt
  have hnS := h.1
  have HD := Lib.hid hd
  by_cases ho : D.off = true
  · have he : removeD D n = (D, 8) := by unfold removeD mayD; rw [if_pos ho, if_neg (by simp)]
    have hr : errL D = 8 := if_pos ho
    rw [hr] at HR
    rw [he]
    clear he hr h hd
    go_enter Tryz.func56, Tryz.ntmps56
    go_wp2_with (go_at_call 71; refine HR.out.mono ?_; rintro e w' ⟨rfl, rfl⟩)
    go_ret
    exact MakesL.of HL.out (makesD_same HD.out (Below.refl _ _) (by omega) hN)
  · have hr : errL D = 0 := if_neg ho
    rw [hr] at HR
    have HS := Lib.hid (remove_dks g N S D n w.drew (hd.below (Below.refl _ _).drew) (by omega) hN)
    have hle := removeD_le D n
    obtain ⟨m, hm⟩ : ∃ m, (removeD D n).2 = m := ⟨_, rfl⟩
    rw [hm] at HS hle ⊢
    have HU := Lib.hid (fun W => unless_any m W (by omega))
    clear hr h hd ho hm
    by_cases hz : unless5 m = 0
    · rw [if_pos hz]
      rw [hz] at HU ⊢
      go_enter Tryz.func56, Tryz.ntmps56
      go_wp2_with (go_at_call 71; refine HR.out.mono ?_; rintro e w' ⟨rfl, rfl⟩)
      go_region_held3 (fun W => W.cell? ⟨l, 0, none⟩ = some (.pointer (some ⟨g, 0, none⟩)) ∧ W.cell? ⟨l, 1, none⟩ = some (.string ⟨n.toArray⟩)) (first | exact ⟨c0, c1⟩ | assumption) (first
        | (go_at_call 58; refine HS.out.mono ?_; rintro e w' hm; have hS3 : w'.cell? ⟨l, 0, none⟩ = some (.pointer (some ⟨g, 0, none⟩)) ∧ w'.cell? ⟨l, 1, none⟩ = some (.string ⟨n.toArray⟩) := ⟨(hm.2.2.cell (p := ⟨l, 0, none⟩) hlt hnS).trans c0, (hm.2.2.cell (p := ⟨l, 1, none⟩) hlt hnS).trans c1⟩; obtain rfl := hm.1; have hl2 := HL.out.apart hm.undrew.2.2; have f2 := hl2.frozen 2; have f3 := hl2.frozen 3; obtain ⟨_, _, x2, vv, x3, _⟩ := hl2.cells; have HL2 := Lib.hid hl2; have hm := Lib.hid hm; clear hl2)
        | (go_at_call 72; refine (HU.out _).mono ?_; rintro e w'' ⟨rfl, rfl⟩))
      all_goals go_wp2_with fail
      all_goals go_ret
      all_goals
        refine ⟨rfl, _, hm.out.undrew.2.1.apart (apart_set2 _ l _ _) (fun k hk e => HL2.out.1 (by rw [← e]; exact hk)), ?_, fun k hk => ?_, ?_⟩
        · obtain ⟨g1, v, g2, g3⟩ := HL2.out
          exact ⟨g1, _, four_three (four_two g2), ⟨Sl.nil _ _, fun h => by simp [lastP] at h⟩, fun h => by simp [lastP] at h⟩
        · rcases hk with hk | hk
          · exact .inl hk
          · exact .inr ⟨hk.1, by simpa using hk.2⟩
        · exact (hm.out.undrew.2.2.mono fun _ => .inl).trans ((apart_set2 _ l _ _).mono fun k hk => .inl (.inr hk))
    · rw [if_neg hz]
      obtain ⟨u, hu⟩ : ∃ u, unless5 m = u := ⟨_, rfl⟩
      rw [hu] at HU ⊢
      have hune : ((u : Int) == 0) = false := by rw [beq_eq_false_iff_ne]; omega
      clear hu hz
      go_enter Tryz.func56, Tryz.ntmps56
      go_wp2_with (go_at_call 71; refine HR.out.mono ?_; rintro e w' ⟨rfl, rfl⟩)
      go_region_held3 (fun W => W.cell? ⟨l, 0, none⟩ = some (.pointer (some ⟨g, 0, none⟩)) ∧ W.cell? ⟨l, 1, none⟩ = some (.string ⟨n.toArray⟩)) (first | exact ⟨c0, c1⟩ | assumption) (first
        | (go_at_call 58; refine HS.out.mono ?_; rintro e w' hm; have hS3 : w'.cell? ⟨l, 0, none⟩ = some (.pointer (some ⟨g, 0, none⟩)) ∧ w'.cell? ⟨l, 1, none⟩ = some (.string ⟨n.toArray⟩) := ⟨(hm.2.2.cell (p := ⟨l, 0, none⟩) hlt hnS).trans c0, (hm.2.2.cell (p := ⟨l, 1, none⟩) hlt hnS).trans c1⟩; obtain rfl := hm.1; have hm := Lib.hid hm)
        | (go_at_call 72; refine (HU.out _).mono ?_; rintro e w'' ⟨rfl, rfl⟩))
      all_goals go_wp2_with fail
      all_goals go_ret
      all_goals exact MakesL.of HL.out ⟨rfl, hm.out.undrew.2⟩

end Go.Proofs.YtlchmkpnehbnlaaGreatDoor.Cd

/-
  log.trim: a file is left no bytes of the log but the records'. Conditions: the power is on; names that can be.
-/
namespace Go.Proofs.YtlchmkpnehbnlaaGreatDoor.Cd
open Go.RowKit

def trimW (D1 : Dsk) (n s : List UInt8) (found : Nat) : Dsk × Nat :=
  if min found (needP s.length * 510) = s.length then (D1, 0) else
  if (writeD D1 n ((needP s.length : Nat) - 1) (pageB (lastP s))).2 ≠ 0 then writeD D1 n ((needP s.length : Nat) - 1) (pageB (lastP s)) else
  syncD (writeD D1 n ((needP s.length : Nat) - 1) (pageB (lastP s))).1 n
def trimC (D : Dsk) (n s : List UInt8) : Dsk × Nat := if needP s.length < (pagesF D.now n).length then cutD D n (needP s.length : Nat) else (D, 0)
theorem trim_eq (D : Dsk) (n s : List UInt8) (found : Nat) : trimD D n s found = if (trimC D n s).2 ≠ 0 then trimC D n s else trimW (trimC D n s).1 n s found := rfl

theorem MakesD.over {w w1 w2 : World} {g N : Nat} {S : Nat → Prop} {D : Dsk} {v : Value} {e : Ending} (hb : Below w.heap.size w w1) (h : MakesD g N S D v w1 e w2) : MakesD g N S D v w e w2 := by
  obtain ⟨h1, h2, h3⟩ := h
  refine ⟨h1, h2.more (fun k hk => ?_) (fun k hk => ?_), ⟨h3.os.trans hb.os, h3.tape.trans hb.tape, h3.output.trans hb.output, Nat.le_trans hb.size h3.size, fun k hk hn => (h3.block k (Nat.lt_of_lt_of_le hk hb.size) hn).trans (hb.block k hk)⟩⟩
  · rcases hk with hk | hk
    · exact .inl hk
    · exact .inr ⟨Nat.le_trans hb.size hk.1, hk.2⟩
  · rcases hk with hk | hk
    · exact h2.lt k (.inl hk)
    · exact hk.2

set_option maxRecDepth 100000 in
set_option maxHeartbeats 6400000 in
theorem trim_l (l g N : Nat) (n s : List UInt8) (S : Nat → Prop) (D : Dsk) (w : World) (found : Nat) (h : LogAt w S l g n s) (hd : DkS w g N S D) (ho : D.off = false) (hn : n.length ≤ 140737488355000) (hN : N + 12 ≤ 137438953472)
    (hsl : s.length ≤ 1000000000) (hf : found ≤ 1000000000) (hpc : (pagesF D.now n).length ≤ 1000000000) :
    Calls Tryz.prog 50 #[.pointer (some ⟨l, 0, none⟩), .int .i64 found] w (MakesD g (N + 12) S (trimD D n s found).1 (.int .i64 ((trimD D n s found).2 : Nat)) w) := by
  have HL := Lib.hid h
  have HD := Lib.hid hd
  obtain ⟨c0, c1, c2, _⟩ := h.cells
  have hlt := h.lt
  have hnS := h.1
  have HG := Lib.hid (pagesOf_any s.length w (by omega))
  have HC := Lib.hid (count_dks g N S D n w.drew (hd.below (Below.refl _ _).drew) ho (by omega))
  obtain ⟨nd, hnd⟩ : ∃ x, needP s.length = x := ⟨_, rfl⟩
  have hndl : nd ≤ 1000000000 := by rw [← hnd]; unfold needP; omega
  have hnd2 : nd * 510 ≤ s.length + 509 := by rw [← hnd]; unfold needP; omega
  obtain ⟨pc, hpc2⟩ : ∃ x, (pagesF D.now n).length = x := ⟨_, rfl⟩
  have hte := trim_eq D n s found
  have htc : trimC D n s = if nd < pc then cutD D n (nd : Nat) else (D, 0) := by unfold trimC; rw [hnd, hpc2]
  rw [hnd] at HG
  rw [hpc2] at HC hpc
  have HND := Lib.hid hnd
  have HTE := Lib.hid hte
  have HTC := Lib.hid htc
  have hndi : (nd : Int) ≤ 1000000000 := by omega
  have hpci : (pc : Int) ≤ 1000000000 := by omega
  have hfi : (found : Int) ≤ 1000000000 := by omega
  clear h hd hnd hpc2 hte htc
  have hcase : (((found : Int) ≤ (nd : Int) * 510) ∧ ((found : Int) == (s.length : Int)) = true ∧ (found == s.length) = true ∧ decide (found = s.length) = true ∧ Hid (min found (nd * 510) = s.length)) ∨ (((nd : Int) * 510 < (found : Int)) ∧ ((nd : Int) * 510 == (s.length : Int)) = true ∧ (nd * 510 == s.length) = true ∧ decide (nd * 510 = s.length) = true ∧ Hid (min found (nd * 510) = s.length)) ∨
      (((found : Int) ≤ (nd : Int) * 510) ∧ ((found : Int) == (s.length : Int)) = false ∧ (found == s.length) = false ∧ decide (found = s.length) = false ∧ Hid (¬ min found (nd * 510) = s.length)) ∨ (((nd : Int) * 510 < (found : Int)) ∧ ((nd : Int) * 510 == (s.length : Int)) = false ∧ (nd * 510 == s.length) = false ∧ decide (nd * 510 = s.length) = false ∧ Hid (¬ min found (nd * 510) = s.length)) := by
    simp only [Hid, beq_iff_eq, beq_eq_false_iff_ne, decide_eq_true_eq, decide_eq_false_iff_not, ne_eq]
    omega
  have HCASE := Lib.hid hcase
  clear hcase
  by_cases hcut : nd < pc
  · have hcuti : (nd : Int) < pc := by omega
    rw [if_pos hcut] at HTC
    have HK := Lib.hid (cut_dks g N S D n w.drew.drew (nd : Int) (HD.out.below ((Below.refl _ _).drew.trans (Below.refl _ _).drew)) (by omega) (by omega) (by omega))
    obtain ⟨R, hR⟩ : ∃ R, cutD D n (nd : Int) = R := ⟨_, rfl⟩
    rw [hR] at HTC HK
    obtain ⟨D1, ec⟩ := R
    clear hR hcut
    by_cases hz : ec = 0
    · subst hz
      go_enter Tryz.func50, Tryz.ntmps50
      go_wp2_with (go_at_call 86; refine HG.out.mono ?_; rintro e w' ⟨rfl, rfl⟩)
      go_region_held3 (fun W => W.cell? ⟨l, 0, none⟩ = some (.pointer (some ⟨g, 0, none⟩)) ∧ W.cell? ⟨l, 1, none⟩ = some (.string ⟨n.toArray⟩)) (first | exact ⟨c0, c1⟩ | assumption) (first
        | (go_at_call 81; refine HC.out.mono ?_; rintro e w' ⟨rfl, rfl⟩))
      all_goals go_wp2_with fail
      all_goals go_region_held3 (fun W => W.cell? ⟨l, 0, none⟩ = some (.pointer (some ⟨g, 0, none⟩)) ∧ W.cell? ⟨l, 1, none⟩ = some (.string ⟨n.toArray⟩)) (first | exact ⟨c0, c1⟩ | assumption) (first
        | (go_at_call 87; refine HK.out.mono ?_; rintro e W1 hm; have hS3 : W1.cell? ⟨l, 0, none⟩ = some (.pointer (some ⟨g, 0, none⟩)) ∧ W1.cell? ⟨l, 1, none⟩ = some (.string ⟨n.toArray⟩) := ⟨(hm.2.2.cell (p := ⟨l, 0, none⟩) hlt hnS).trans c0, (hm.2.2.cell (p := ⟨l, 1, none⟩) hlt hnS).trans c1⟩; obtain rfl := hm.1; have HD1 := Lib.hid hm.undrew.undrew.2.1; have HA1 := Lib.hid hm.undrew.undrew.2.2; have HL1 := Lib.hid (HL.out.apart HA1.out); clear hm))
      all_goals clear hS3 c0 c1 c2 HK HC HG
      all_goals
        have HT := Lib.hid (show trimD D n s found = trimW D1 n s found by rw [HTE.out, HTC.out]; exact if_neg (fun e => e rfl))
        have hlt1 := HL1.out.lt
        have hnS1 := HL1.out.1
        obtain ⟨x0, x1, x2, lv, x3, hfar⟩ := HL1.out.cells
        obtain ⟨LA, Lc, rfl, hLc1, hLc2⟩ := hfar.1.len
        have HFAR := Lib.hid hfar
        clear hfar
        have hLc2 : Lc ≤ 9223372036854775807 := hLc2
        rcases HCASE.out with ⟨hle, heq1, heq2, heq3, HEQ⟩ | ⟨hle, heq1, heq2, heq3, HEQ⟩ | ⟨hle, hne1, hne2, hne3, HNE⟩ | ⟨hle, hne1, hne2, hne3, HNE⟩
        · go_wp2_with fail
          go_ret
          rw [HT.out]
          unfold trimW
          rw [HND.out, if_pos HEQ.out]
          exact ((makesD_same HD1.out (Below.refl _ _) (M := N + 12) (by omega) hN).up HA1.out)
        · go_wp2_with fail
          go_ret
          rw [HT.out]
          unfold trimW
          rw [HND.out, if_pos HEQ.out]
          exact ((makesD_same HD1.out (Below.refl _ _) (M := N + 12) (by omega) hN).up HA1.out)
        all_goals
          have HPB := Lib.hid (pageOf_any (.slice LA (lastP s).length Lc) (lastP s) W1.drew (HFAR.out.1.below (Below.refl _ _).drew) (by rw [lastP_len]; omega))
          have hndp : 1 ≤ (nd : Int) := by have := HNE.out; have h2 := HND.out; unfold needP at h2; omega
          have hwr : IntKind.i64.wrap ((nd : Int) - 1) = (nd : Int) - 1 := IntWalk.i64_in _ (by omega)
          obtain ⟨RW, hRW⟩ : ∃ R, writeD D1 n ((nd : Nat) - 1) (pageB (lastP s)) = R := ⟨_, rfl⟩
          have HRW := Lib.hid hRW
          obtain ⟨D2, ew⟩ := RW
          clear hRW
          by_cases hw : ew = 0
          · subst hw
            go_wp2_with fail
            go_region_held3 (fun W => W.cell? ⟨l, 0, none⟩ = some (.pointer (some ⟨g, 0, none⟩)) ∧ W.cell? ⟨l, 1, none⟩ = some (.string ⟨n.toArray⟩) ∧ W.cell? ⟨l, 3, none⟩ = some (.slice LA (lastP s).length Lc)) (first | exact ⟨x0, x1, x3⟩ | assumption) (first
              | (go_at_call 89; refine HPB.out.mono ?_; rintro e w2 ⟨pv, rfl, hpo, hpb⟩; have hS4 : w2.cell? ⟨l, 0, none⟩ = some (.pointer (some ⟨g, 0, none⟩)) ∧ w2.cell? ⟨l, 1, none⟩ = some (.string ⟨n.toArray⟩) ∧ w2.cell? ⟨l, 3, none⟩ = some (.slice LA (lastP s).length Lc) := ⟨(hpb.cell (p := ⟨l, 0, none⟩) hlt1).trans x0, (hpb.cell (p := ⟨l, 1, none⟩) hlt1).trans x1, (hpb.cell (p := ⟨l, 3, none⟩) hlt1).trans x3⟩; have HW2 := Lib.hid (write_dks g (N + 4) (since S w W1) D1 n w2 (pageB (lastP s)) ((nd : Int) - 1) pv (HD1.out.below ((Below.refl _ _).drew.trans hpb)) hpo.sl (fun h0 A m c e ht => by have h1 := (hpo.lt A.block (by rw [e]; rfl)).1; have h2 := HD1.out.lt _ ht; have h3 : W1.heap.size ≤ A.block := h1; omega) (by omega) (by omega) (by omega)); rw [HRW.out] at HW2; have HB2 := Lib.hid ((Below.refl W1.heap.size W1).drew.trans hpb); clear hpo hpb)
              | (go_at_call 88; refine HW2.out.mono ?_; rintro e w3 hm3; have hap := hm3.2.2; have hS5 : w3.cell? ⟨l, 0, none⟩ = some (.pointer (some ⟨g, 0, none⟩)) ∧ w3.cell? ⟨l, 1, none⟩ = some (.string ⟨n.toArray⟩) ∧ w3.cell? ⟨l, 3, none⟩ = some (.slice LA (lastP s).length Lc) := ⟨(hap.cell (p := ⟨l, 0, none⟩) (Nat.lt_of_lt_of_le hlt1 HB2.out.size) hnS1).trans hS4.1, (hap.cell (p := ⟨l, 1, none⟩) (Nat.lt_of_lt_of_le hlt1 HB2.out.size) hnS1).trans hS4.2.1, (hap.cell (p := ⟨l, 3, none⟩) (Nat.lt_of_lt_of_le hlt1 HB2.out.size) hnS1).trans hS4.2.2⟩; obtain rfl := hm3.1; have HM3 := Lib.hid hm3; clear hm3 hap))
            all_goals
              have HM4 := Lib.hid (MakesD.over HB2.out HM3.out)
              have HS4 := Lib.hid (sync_dks g (N + 4 + 4) (since (since S w W1) W1 w3) D2 n w3.drew (HM4.out.2.1.below (Below.refl _ _).drew) (by omega) (by omega))
              have hnS4 : ¬ since (since S w W1) W1 w3 l := fun e => by
                rcases e with e | e
                · exact hnS1 e
                · omega
              have hlt4 : l < w3.heap.size := Nat.lt_of_lt_of_le hlt1 HM4.out.2.2.size
              obtain ⟨y0, y1, _⟩ := hS5
            all_goals go_wp2_with fail
            all_goals go_region_held3 (fun W => W.cell? ⟨l, 0, none⟩ = some (.pointer (some ⟨g, 0, none⟩)) ∧ W.cell? ⟨l, 1, none⟩ = some (.string ⟨n.toArray⟩)) (first | exact ⟨y0, y1⟩ | assumption) (first
              | (go_at_call 73; refine HS4.out.mono ?_; rintro e w5 hm5; have hS6 : w5.cell? ⟨l, 0, none⟩ = some (.pointer (some ⟨g, 0, none⟩)) ∧ w5.cell? ⟨l, 1, none⟩ = some (.string ⟨n.toArray⟩) := ⟨(hm5.2.2.cell (p := ⟨l, 0, none⟩) hlt4 hnS4).trans y0, (hm5.2.2.cell (p := ⟨l, 1, none⟩) hlt4 hnS4).trans y1⟩; obtain rfl := hm5.1; have HM5 := Lib.hid hm5; clear hm5))
            all_goals go_wp2_with fail
            all_goals go_ret
            all_goals
              rw [HT.out]
              unfold trimW
              rw [HND.out, if_neg HNE.out, HRW.out, if_neg (fun e => e rfl)]
              exact (MakesD.up HA1.out (MakesD.up HM4.out.2.2 HM5.out.undrew)).grow (by omega) hN
          · have hwi : (ew : Int) ≠ 0 := by omega
            go_wp2_with fail
            go_region_held3 (fun W => W.cell? ⟨l, 0, none⟩ = some (.pointer (some ⟨g, 0, none⟩)) ∧ W.cell? ⟨l, 1, none⟩ = some (.string ⟨n.toArray⟩) ∧ W.cell? ⟨l, 3, none⟩ = some (.slice LA (lastP s).length Lc)) (first | exact ⟨x0, x1, x3⟩ | assumption) (first
              | (go_at_call 89; refine HPB.out.mono ?_; rintro e w2 ⟨pv, rfl, hpo, hpb⟩; have hS4 : w2.cell? ⟨l, 0, none⟩ = some (.pointer (some ⟨g, 0, none⟩)) ∧ w2.cell? ⟨l, 1, none⟩ = some (.string ⟨n.toArray⟩) ∧ w2.cell? ⟨l, 3, none⟩ = some (.slice LA (lastP s).length Lc) := ⟨(hpb.cell (p := ⟨l, 0, none⟩) hlt1).trans x0, (hpb.cell (p := ⟨l, 1, none⟩) hlt1).trans x1, (hpb.cell (p := ⟨l, 3, none⟩) hlt1).trans x3⟩; have HW2 := Lib.hid (write_dks g (N + 4) (since S w W1) D1 n w2 (pageB (lastP s)) ((nd : Int) - 1) pv (HD1.out.below ((Below.refl _ _).drew.trans hpb)) hpo.sl (fun h0 A m c e ht => by have h1 := (hpo.lt A.block (by rw [e]; rfl)).1; have h2 := HD1.out.lt _ ht; have h3 : W1.heap.size ≤ A.block := h1; omega) (by omega) (by omega) (by omega)); rw [HRW.out] at HW2; have HB2 := Lib.hid ((Below.refl W1.heap.size W1).drew.trans hpb); clear hpo hpb)
              | (go_at_call 88; refine HW2.out.mono ?_; rintro e w3 hm3; have hap := hm3.2.2; have hS5 : w3.cell? ⟨l, 0, none⟩ = some (.pointer (some ⟨g, 0, none⟩)) ∧ w3.cell? ⟨l, 1, none⟩ = some (.string ⟨n.toArray⟩) ∧ w3.cell? ⟨l, 3, none⟩ = some (.slice LA (lastP s).length Lc) := ⟨(hap.cell (p := ⟨l, 0, none⟩) (Nat.lt_of_lt_of_le hlt1 HB2.out.size) hnS1).trans hS4.1, (hap.cell (p := ⟨l, 1, none⟩) (Nat.lt_of_lt_of_le hlt1 HB2.out.size) hnS1).trans hS4.2.1, (hap.cell (p := ⟨l, 3, none⟩) (Nat.lt_of_lt_of_le hlt1 HB2.out.size) hnS1).trans hS4.2.2⟩; obtain rfl := hm3.1; have HM3 := Lib.hid hm3; clear hm3 hap))
            all_goals go_wp2_with fail
            all_goals go_ret
            all_goals
              rw [HT.out]
              unfold trimW
              rw [HND.out, if_neg HNE.out, HRW.out, if_pos (show (D2, ew).2 ≠ 0 from hw)]
              exact (MakesD.up HA1.out (MakesD.over HB2.out HM3.out)).grow (by omega) hN

    · have hzi : (ec : Int) ≠ 0 := by omega
      go_enter Tryz.func50, Tryz.ntmps50
      go_wp2_with (go_at_call 86; refine HG.out.mono ?_; rintro e w' ⟨rfl, rfl⟩)
      go_region_held3 (fun W => W.cell? ⟨l, 0, none⟩ = some (.pointer (some ⟨g, 0, none⟩)) ∧ W.cell? ⟨l, 1, none⟩ = some (.string ⟨n.toArray⟩)) (first | exact ⟨c0, c1⟩ | assumption) (first
        | (go_at_call 81; refine HC.out.mono ?_; rintro e w' ⟨rfl, rfl⟩))
      all_goals go_wp2_with fail
      all_goals go_region_held3 (fun W => W.cell? ⟨l, 0, none⟩ = some (.pointer (some ⟨g, 0, none⟩)) ∧ W.cell? ⟨l, 1, none⟩ = some (.string ⟨n.toArray⟩)) (first | exact ⟨c0, c1⟩ | assumption) (first
        | (go_at_call 87; refine HK.out.mono ?_; rintro e w' hm; have hS3 : w'.cell? ⟨l, 0, none⟩ = some (.pointer (some ⟨g, 0, none⟩)) ∧ w'.cell? ⟨l, 1, none⟩ = some (.string ⟨n.toArray⟩) := ⟨(hm.2.2.cell (p := ⟨l, 0, none⟩) hlt hnS).trans c0, (hm.2.2.cell (p := ⟨l, 1, none⟩) hlt hnS).trans c1⟩; obtain rfl := hm.1; have hm := Lib.hid hm))
      all_goals go_wp2_with fail
      all_goals go_ret
      all_goals
        rw [HTE.out, HTC.out, if_pos (show (D1, ec).2 ≠ 0 from hz)]
        exact ((hm.out.undrew.undrew).grow (by omega) hN)
  · have hcuti : (pc : Int) ≤ nd := by omega
    rw [if_neg hcut] at HTC
    clear hcut
    have HD1 := Lib.hid ((HD.out.mono (M := N + 4) (by omega) (by omega)).into ((Below.refl w.heap.size w).drew))
    have HA1 := Lib.hid (Apart.below (S := S) ((Below.refl w.heap.size w).drew))
    have HL1 := Lib.hid (HL.out.apart HA1.out)
    go_enter Tryz.func50, Tryz.ntmps50
    go_wp2_with (go_at_call 86; refine HG.out.mono ?_; rintro e w' ⟨rfl, rfl⟩)
    go_region_held3 (fun W => W.cell? ⟨l, 0, none⟩ = some (.pointer (some ⟨g, 0, none⟩)) ∧ W.cell? ⟨l, 1, none⟩ = some (.string ⟨n.toArray⟩)) (first | exact ⟨c0, c1⟩ | assumption) (first
      | (go_at_call 81; refine HC.out.mono ?_; rintro e w' ⟨rfl, rfl⟩))
    all_goals obtain ⟨D1, hD1⟩ : ∃ x, D = x := ⟨_, rfl⟩
    all_goals obtain ⟨W1, hW1⟩ : ∃ x, w.drew = x := ⟨_, rfl⟩
    all_goals rw [hW1] at HD1 HA1 HL1 ⊢
    all_goals have HTC2 : Hid (trimC D n s = (D1, 0)) := (by unfold Hid; rw [HTC.out, ← hD1])
    all_goals clear HTC
    all_goals have HTC := HTC2
    all_goals clear HTC2
    all_goals rw [hD1] at HD1
    all_goals clear hD1 hW1 c0 c1 c2 HC HG
    all_goals
      have HT := Lib.hid (show trimD D n s found = trimW D1 n s found by rw [HTE.out, HTC.out]; exact if_neg (fun e => e rfl))
      have hlt1 := HL1.out.lt
      have hnS1 := HL1.out.1
      obtain ⟨x0, x1, x2, lv, x3, hfar⟩ := HL1.out.cells
      obtain ⟨LA, Lc, rfl, hLc1, hLc2⟩ := hfar.1.len
      have HFAR := Lib.hid hfar
      clear hfar
      have hLc2 : Lc ≤ 9223372036854775807 := hLc2
      rcases HCASE.out with ⟨hle, heq1, heq2, heq3, HEQ⟩ | ⟨hle, heq1, heq2, heq3, HEQ⟩ | ⟨hle, hne1, hne2, hne3, HNE⟩ | ⟨hle, hne1, hne2, hne3, HNE⟩
      · go_wp2_with fail
        go_ret
        rw [HT.out]
        unfold trimW
        rw [HND.out, if_pos HEQ.out]
        exact ((makesD_same HD1.out (Below.refl _ _) (M := N + 12) (by omega) hN).up HA1.out)
      · go_wp2_with fail
        go_ret
        rw [HT.out]
        unfold trimW
        rw [HND.out, if_pos HEQ.out]
        exact ((makesD_same HD1.out (Below.refl _ _) (M := N + 12) (by omega) hN).up HA1.out)
      all_goals
        have HPB := Lib.hid (pageOf_any (.slice LA (lastP s).length Lc) (lastP s) W1.drew (HFAR.out.1.below (Below.refl _ _).drew) (by rw [lastP_len]; omega))
        have hndp : 1 ≤ (nd : Int) := by have := HNE.out; have h2 := HND.out; unfold needP at h2; omega
        have hwr : IntKind.i64.wrap ((nd : Int) - 1) = (nd : Int) - 1 := IntWalk.i64_in _ (by omega)
        obtain ⟨RW, hRW⟩ : ∃ R, writeD D1 n ((nd : Nat) - 1) (pageB (lastP s)) = R := ⟨_, rfl⟩
        have HRW := Lib.hid hRW
        obtain ⟨D2, ew⟩ := RW
        clear hRW
        by_cases hw : ew = 0
        · subst hw
          go_wp2_with fail
          go_region_held3 (fun W => W.cell? ⟨l, 0, none⟩ = some (.pointer (some ⟨g, 0, none⟩)) ∧ W.cell? ⟨l, 1, none⟩ = some (.string ⟨n.toArray⟩) ∧ W.cell? ⟨l, 3, none⟩ = some (.slice LA (lastP s).length Lc)) (first | exact ⟨x0, x1, x3⟩ | assumption) (first
            | (go_at_call 89; refine HPB.out.mono ?_; rintro e w2 ⟨pv, rfl, hpo, hpb⟩; have hS4 : w2.cell? ⟨l, 0, none⟩ = some (.pointer (some ⟨g, 0, none⟩)) ∧ w2.cell? ⟨l, 1, none⟩ = some (.string ⟨n.toArray⟩) ∧ w2.cell? ⟨l, 3, none⟩ = some (.slice LA (lastP s).length Lc) := ⟨(hpb.cell (p := ⟨l, 0, none⟩) hlt1).trans x0, (hpb.cell (p := ⟨l, 1, none⟩) hlt1).trans x1, (hpb.cell (p := ⟨l, 3, none⟩) hlt1).trans x3⟩; have HW2 := Lib.hid (write_dks g (N + 4) (since S w W1) D1 n w2 (pageB (lastP s)) ((nd : Int) - 1) pv (HD1.out.below ((Below.refl _ _).drew.trans hpb)) hpo.sl (fun h0 A m c e ht => by have h1 := (hpo.lt A.block (by rw [e]; rfl)).1; have h2 := HD1.out.lt _ ht; have h3 : W1.heap.size ≤ A.block := h1; omega) (by omega) (by omega) (by omega)); rw [HRW.out] at HW2; have HB2 := Lib.hid ((Below.refl W1.heap.size W1).drew.trans hpb); clear hpo hpb)
            | (go_at_call 88; refine HW2.out.mono ?_; rintro e w3 hm3; have hap := hm3.2.2; have hS5 : w3.cell? ⟨l, 0, none⟩ = some (.pointer (some ⟨g, 0, none⟩)) ∧ w3.cell? ⟨l, 1, none⟩ = some (.string ⟨n.toArray⟩) ∧ w3.cell? ⟨l, 3, none⟩ = some (.slice LA (lastP s).length Lc) := ⟨(hap.cell (p := ⟨l, 0, none⟩) (Nat.lt_of_lt_of_le hlt1 HB2.out.size) hnS1).trans hS4.1, (hap.cell (p := ⟨l, 1, none⟩) (Nat.lt_of_lt_of_le hlt1 HB2.out.size) hnS1).trans hS4.2.1, (hap.cell (p := ⟨l, 3, none⟩) (Nat.lt_of_lt_of_le hlt1 HB2.out.size) hnS1).trans hS4.2.2⟩; obtain rfl := hm3.1; have HM3 := Lib.hid hm3; clear hm3 hap))
          all_goals
            have HM4 := Lib.hid (MakesD.over HB2.out HM3.out)
            have HS4 := Lib.hid (sync_dks g (N + 4 + 4) (since (since S w W1) W1 w3) D2 n w3.drew (HM4.out.2.1.below (Below.refl _ _).drew) (by omega) (by omega))
            have hnS4 : ¬ since (since S w W1) W1 w3 l := fun e => by
              rcases e with e | e
              · exact hnS1 e
              · omega
            have hlt4 : l < w3.heap.size := Nat.lt_of_lt_of_le hlt1 HM4.out.2.2.size
            obtain ⟨y0, y1, _⟩ := hS5
          all_goals go_wp2_with fail
          all_goals go_region_held3 (fun W => W.cell? ⟨l, 0, none⟩ = some (.pointer (some ⟨g, 0, none⟩)) ∧ W.cell? ⟨l, 1, none⟩ = some (.string ⟨n.toArray⟩)) (first | exact ⟨y0, y1⟩ | assumption) (first
            | (go_at_call 73; refine HS4.out.mono ?_; rintro e w5 hm5; have hS6 : w5.cell? ⟨l, 0, none⟩ = some (.pointer (some ⟨g, 0, none⟩)) ∧ w5.cell? ⟨l, 1, none⟩ = some (.string ⟨n.toArray⟩) := ⟨(hm5.2.2.cell (p := ⟨l, 0, none⟩) hlt4 hnS4).trans y0, (hm5.2.2.cell (p := ⟨l, 1, none⟩) hlt4 hnS4).trans y1⟩; obtain rfl := hm5.1; have HM5 := Lib.hid hm5; clear hm5))
          all_goals go_wp2_with fail
          all_goals go_ret
          all_goals
            rw [HT.out]
            unfold trimW
            rw [HND.out, if_neg HNE.out, HRW.out, if_neg (fun e => e rfl)]
            exact (MakesD.up HA1.out (MakesD.up HM4.out.2.2 HM5.out.undrew)).grow (by omega) hN
        · have hwi : (ew : Int) ≠ 0 := by omega
          go_wp2_with fail
          go_region_held3 (fun W => W.cell? ⟨l, 0, none⟩ = some (.pointer (some ⟨g, 0, none⟩)) ∧ W.cell? ⟨l, 1, none⟩ = some (.string ⟨n.toArray⟩) ∧ W.cell? ⟨l, 3, none⟩ = some (.slice LA (lastP s).length Lc)) (first | exact ⟨x0, x1, x3⟩ | assumption) (first
            | (go_at_call 89; refine HPB.out.mono ?_; rintro e w2 ⟨pv, rfl, hpo, hpb⟩; have hS4 : w2.cell? ⟨l, 0, none⟩ = some (.pointer (some ⟨g, 0, none⟩)) ∧ w2.cell? ⟨l, 1, none⟩ = some (.string ⟨n.toArray⟩) ∧ w2.cell? ⟨l, 3, none⟩ = some (.slice LA (lastP s).length Lc) := ⟨(hpb.cell (p := ⟨l, 0, none⟩) hlt1).trans x0, (hpb.cell (p := ⟨l, 1, none⟩) hlt1).trans x1, (hpb.cell (p := ⟨l, 3, none⟩) hlt1).trans x3⟩; have HW2 := Lib.hid (write_dks g (N + 4) (since S w W1) D1 n w2 (pageB (lastP s)) ((nd : Int) - 1) pv (HD1.out.below ((Below.refl _ _).drew.trans hpb)) hpo.sl (fun h0 A m c e ht => by have h1 := (hpo.lt A.block (by rw [e]; rfl)).1; have h2 := HD1.out.lt _ ht; have h3 : W1.heap.size ≤ A.block := h1; omega) (by omega) (by omega) (by omega)); rw [HRW.out] at HW2; have HB2 := Lib.hid ((Below.refl W1.heap.size W1).drew.trans hpb); clear hpo hpb)
            | (go_at_call 88; refine HW2.out.mono ?_; rintro e w3 hm3; have hap := hm3.2.2; have hS5 : w3.cell? ⟨l, 0, none⟩ = some (.pointer (some ⟨g, 0, none⟩)) ∧ w3.cell? ⟨l, 1, none⟩ = some (.string ⟨n.toArray⟩) ∧ w3.cell? ⟨l, 3, none⟩ = some (.slice LA (lastP s).length Lc) := ⟨(hap.cell (p := ⟨l, 0, none⟩) (Nat.lt_of_lt_of_le hlt1 HB2.out.size) hnS1).trans hS4.1, (hap.cell (p := ⟨l, 1, none⟩) (Nat.lt_of_lt_of_le hlt1 HB2.out.size) hnS1).trans hS4.2.1, (hap.cell (p := ⟨l, 3, none⟩) (Nat.lt_of_lt_of_le hlt1 HB2.out.size) hnS1).trans hS4.2.2⟩; obtain rfl := hm3.1; have HM3 := Lib.hid hm3; clear hm3 hap))
          all_goals go_wp2_with fail
          all_goals go_ret
          all_goals
            rw [HT.out]
            unfold trimW
            rw [HND.out, if_neg HNE.out, HRW.out, if_pos (show (D2, ew).2 ≠ 0 from hw)]
            exact (MakesD.up HA1.out (MakesD.over HB2.out HM3.out)).grow (by omega) hN

end Go.Proofs.YtlchmkpnehbnlaaGreatDoor.Cd
