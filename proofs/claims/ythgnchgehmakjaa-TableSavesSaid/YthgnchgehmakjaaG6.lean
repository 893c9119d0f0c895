/-
  frame.Put, and the document's record. Conditions: none.
-/
import Derived.Test.YthgnchgehmakjaaG5
import Derived.Test.YthgnchgehmakjaaG1
import Derived.LoopTactic
import Derived.IntWalk
import Derived.Laws.BitsAllLaws
import Derived.Deep.RegionWith
import Derived.Deep.DeepFit
/-
  A disk whose blocks are those of a set: Cut, Remove, Rename, and what is asked of it. Conditions: none.
-/
namespace Go.Proofs.Ythgnchgehmakjaa.Cd
open Go.RowKit

/-- The disk D lies at g, its blocks are those of S. -/
def DkS (w : World) (g N : Nat) (S : Nat → Prop) (D : Dsk) : Prop := ∃ P, Rep w g S P N ∧ Abs P D

/-- What a call leaves that makes the disk another one and answers v. -/
def MakesD (g N : Nat) (S : Nat → Prop) (D : Dsk) (v : Value) (w : World) (e : Ending) (w' : World) : Prop := e = .returned v ∧ DkS w' g N (since S w w') D ∧ Apart S w w'

section
variable {w w' : World} {g N M : Nat} {S : Nat → Prop} {D : Dsk}

theorem DkS.below (h : DkS w g N S D) (hb : Below w.heap.size w w') : DkS w' g N S D := by
  obtain ⟨P, h1, h2⟩ := h
  exact ⟨P, h1.below hb h1.lt, h2⟩

theorem DkS.lt (h : DkS w g N S D) : ∀ k, S k → k < w.heap.size := by
  obtain ⟨P, h1, _⟩ := h
  exact h1.lt

theorem DkS.mono (h : DkS w g N S D) (hN : N ≤ M) (hM : M ≤ 137438953472) : DkS w g M S D := by
  obtain ⟨P, h1, h2⟩ := h
  exact ⟨P, h1.mono hN hM, h2⟩

/-- What turns nothing of the set's blocks leaves the disk as it was. -/
theorem DkS.apart {T : Nat → Prop} (h : DkS w g N S D) (ha : Apart T w w') (hd : ∀ k, S k → ¬ T k) : DkS w' g N S D := by
  obtain ⟨P, h1, h2⟩ := h
  exact ⟨P, h1.apart ha hd, h2⟩

theorem makesD_of {P : Pd} {v : Value} {e : Ending} (ha : Abs P D) (h : Makes g S P N v w e w') : MakesD g N S D v w e w' := ⟨h.1, ⟨P, h.2.1, ha⟩, h.2.2⟩

end

theorem new_dks (room : Int) (w : World) (h1 : -9223372036854775808 ≤ room) (h2 : room ≤ 9223372036854775807) :
    Calls Try.prog 7 #[.int .i64 room] w (fun e w' => ∃ g S, e = .returned (.pointer (some ⟨g, 0, none⟩)) ∧ DkS w' g 0 S (newD room) ∧ (∀ k, S k → w.heap.size ≤ k) ∧ Below w.heap.size w w') := by
  refine (new_disk room w h1 h2).mono ?_
  rintro e w' ⟨g, S, rfl, hr, hS, hb⟩
  exact ⟨g, S, rfl, ⟨_, hr, fresh_abs room⟩, hS, hb⟩

section
variable (g N : Nat) (S : Nat → Prop) (D : Dsk) (s : List UInt8) (w : World)

theorem write_dks (bs : List UInt8) (i : Int) (b : Value) (h : DkS w g N S D) (hb : Sl w w.heap.size b bs) (hbS : 0 < bs.length → ∀ A n c, b = .slice (some A) n c → ¬ S A.block) (hs : s.length ≤ 140737488355328) (hi2 : i ≤ 9223372036854775807) (hN : N + 4 ≤ 137438953472) :
    Calls Try.prog 26 #[.pointer (some ⟨g, 0, none⟩), .string ⟨s.toArray⟩, .int .i64 i, b] w (MakesD g (N + 4) S (writeD D s i bs).1 (.int .i64 ((writeD D s i bs).2 : Nat)) w) := by
  obtain ⟨P, hR, h2⟩ := h
  obtain ⟨a1, a2⟩ := write_abs h2 hR.fits s bs i
  rw [← a2]
  have hcn : countR P s ≤ P.nn := by
    cases hoff : P.off
    · exact h2.counted hoff s
    · unfold countR; rw [if_pos hoff]; exact Nat.zero_le _
  exact (write_any g N S P s bs i b w hR hs hb hbS hi2 hN hcn (fun _ ho hi hf x => write_room h2 hR.fits s i ho hi hf x)).mono fun e w' h => makesD_of a1 h

theorem sync_dks (h : DkS w g N S D) (hs : s.length ≤ 140737488355328) (hN : N + 4 ≤ 137438953472) :
    Calls Try.prog 27 #[.pointer (some ⟨g, 0, none⟩), .string ⟨s.toArray⟩] w (MakesD g (N + 4) S (syncD D s).1 (.int .i64 ((syncD D s).2 : Nat)) w) := by
  obtain ⟨P, hR, h2⟩ := h
  obtain ⟨a1, a2⟩ := act_abs h2 s (fun k => settleP (ticP P) k) (fun D => syncs D s) (fun k hk => h2.tic.settle hk)
  have a2 : _ = (syncD D s).2 := a2
  rw [← a2]
  exact (sync_any g N S P s w hR hs hN (fun _ _ => h2.room_ok hR.fits.nns _)).mono fun e w' h => makesD_of a1 h

theorem off_dks (keep : Nat) (h : DkS w g N S D) (hk : keep < 18446744073709551616) :
    Calls Try.prog 13 #[.pointer (some ⟨g, 0, none⟩), .int .u64 keep] w (MakesD g N S (lose D keep) (.tuple #[]) w) := by
  obtain ⟨P, h1, h2⟩ := h
  have a1 : Abs (offP P keep) (lose D keep) := by
    unfold offP
    by_cases ho : P.off = true
    · rw [if_pos ho, lose_again (by rw [h2.off]; exact ho)]; exact h2
    · rw [if_neg ho]; exact h2.lose (by simpa using ho) keep
  exact (off_any g N keep S P w h1 hk (fun _ => h2.room_ok h1.fits.nns _)).mono fun e w' h => makesD_of a1 h

theorem on_dks (h : DkS w g N S D) : Calls Try.prog 15 #[.pointer (some ⟨g, 0, none⟩)] w (MakesD g N S (onD D) (.tuple #[]) w) := by
  obtain ⟨P, h1, h2⟩ := h
  exact (on_any g N S P w h1).mono fun e w' h => makesD_of (P := { P with off := false }) (D := onD D) ⟨h2.room, rfl, h2.acts, h2.fuse, h2.keep, h2.inj, h2.now, h2.safe, h2.names, h2.waits, h2.runs⟩ h

theorem arm_dks (n : Int) (k : Nat) (h : DkS w g N S D) (hn : n ≤ 9223372036854775807) (hk : k < 18446744073709551616) :
    Calls Try.prog 10 #[.pointer (some ⟨g, 0, none⟩), .int .i64 n, .int .u64 k] w (MakesD g N S (armD D n k) (.tuple #[]) w) := by
  obtain ⟨P, h1, h2⟩ := h
  exact (arm_any g N S P n k w h1 hn hk).mono fun e w' h => makesD_of (P := { P with fuse := n.toNat, keep := k }) (D := armD D n k) ⟨h2.room, h2.off, h2.acts, rfl, rfl, h2.inj, h2.now, h2.safe, h2.names, h2.waits, h2.runs⟩ h

/-- What Read leaves, as the document tells it. -/
def ReadsD (D : Dsk) (s : List UInt8) (i : Int) (w : World) (e : Ending) (w' : World) : Prop :=
  (∃ p, readD D s i = (p, 0) ∧ p.length = 512 ∧ e = .returned (.tuple #[.slice (some ⟨w.heap.size, 0, none⟩) 512 512, .int .i64 0]) ∧ w' = w.alloc (.cells (vb p).toArray 98)) ∨
    ∃ n : Nat, n ≠ 0 ∧ readD D s i = ([], n) ∧ e = .returned (.tuple #[.slice none 0 0, .int .i64 n]) ∧ Below w.heap.size w w'

theorem readR_abs {P : Pd} {D : Dsk} (h : Abs P D) (s : List UInt8) (i : Int) : readR P s i = readD D s i := by
  unfold readR readD
  rw [h.off]
  by_cases ho : P.off = true
  · rw [if_pos ho, if_pos ho]
  · rw [if_neg ho, if_neg ho]
    cases hq : P.files s with
    | none =>
      have := h.is s
      rw [hq] at this
      rw [pages_of_none this.symm, if_pos (by simp only [List.length_nil]; omega)]
    | some k =>
      have e : P.now k = pagesF D.now s := h.now.pages s k hq
      simp only
      unfold lst
      by_cases h0 : 0 ≤ i
      · rw [if_pos h0]
        show (match (P.now k)[i.toNat]? with | none => _ | some p => _) = _
        rw [e]
        by_cases hl : ((pagesF D.now s).length : Int) ≤ i
        · rw [if_pos (.inr hl), List.getElem?_eq_none (by omega)]
        · rw [if_neg (by omega), List.getElem?_eq_getElem (by omega), List.getD_eq_getElem?_getD, List.getElem?_eq_getElem (by omega)]
          rfl
      · rw [if_neg h0, if_pos (by omega)]

theorem read_dks (i : Int) (h : DkS w g N S D) (hs : s.length ≤ 140737488355328) (hi : (Lit.int .i64 i).wf = true) :
    Calls Try.prog 31 #[.pointer (some ⟨g, 0, none⟩), .string ⟨s.toArray⟩, .int .i64 i] w (ReadsD D s i w) := by
  obtain ⟨P, h1, h2⟩ := h
  refine (read_disk g N S P s i w h1 hs hi).mono ?_
  intro e w' hr
  unfold ReadIs at hr
  rw [readR_abs h2] at hr
  exact hr

end

end Go.Proofs.Ythgnchgehmakjaa.Cd

namespace Go.Proofs.Ythgnchgehmakjaa.Cd
open Go.RowKit

section
variable (g N : Nat) (S : Nat → Prop) (D : Dsk) (s : List UInt8) (w : World)

theorem free_dks (h : DkS w g N S D) : Calls Try.prog 25 #[.pointer (some ⟨g, 0, none⟩)] w (Says (.int .i64 (freeD D)) w) := by
  obtain ⟨P, h1, h2⟩ := h
  rw [← h2.free]
  exact free_any g N S P w h1

theorem count_dks (h : DkS w g N S D) (ho : D.off = false) (hs : s.length ≤ 140737488355328) :
    Calls Try.prog 32 #[.pointer (some ⟨g, 0, none⟩), .string ⟨s.toArray⟩] w (fun e w' => e = .returned (.int .i64 ((pagesF D.now s).length : Nat)) ∧ w' = w) := by
  obtain ⟨P, h1, h2⟩ := h
  rw [← h2.count (by rw [← h2.off]; exact ho)]
  exact count_any g N S P s w h1 hs

theorem has_dks (h : DkS w g N S D) (ho : D.off = false) (hs : s.length ≤ 140737488355328) :
    Calls Try.prog 12 #[.pointer (some ⟨g, 0, none⟩), .string ⟨s.toArray⟩] w (fun e w' => e = .returned (.bool (getF D.now s).isSome) ∧ w' = w) := by
  obtain ⟨P, hR, h2⟩ := h
  have he : hasR P s = (getF D.now s).isSome := by unfold hasR; rw [← h2.is s, ← h2.off, ho]; rfl
  rw [← he]
  exact has_any g N S P s w hR hs

/-- With the power off there is no file. -/
theorem count_dks_off (h : DkS w g N S D) (ho : D.off = true) (hs : s.length ≤ 140737488355328) :
    Calls Try.prog 32 #[.pointer (some ⟨g, 0, none⟩), .string ⟨s.toArray⟩] w (fun e w' => e = .returned (.int .i64 0) ∧ w' = w) := by
  obtain ⟨P, h1, h2⟩ := h
  have hc : countR P s = 0 := by unfold countR; rw [if_pos (by rw [← h2.off]; exact ho)]
  have h := count_any g N S P s w h1 hs
  rw [hc] at h
  exact h

theorem has_dks_off (h : DkS w g N S D) (ho : D.off = true) (hs : s.length ≤ 140737488355328) :
    Calls Try.prog 12 #[.pointer (some ⟨g, 0, none⟩), .string ⟨s.toArray⟩] w (fun e w' => e = .returned (.bool false) ∧ w' = w) := by
  obtain ⟨P, hR, h2⟩ := h
  have he : hasR P s = false := by unfold hasR; rw [← h2.off, ho]; rfl
  have h := has_any g N S P s w hR hs
  rw [he] at h
  exact h

theorem down_dks (h : DkS w g N S D) : Calls Try.prog 22 #[.pointer (some ⟨g, 0, none⟩)] w (fun e w' => e = .returned (.bool D.off) ∧ w' = w) := by
  obtain ⟨P, h1, h2⟩ := h
  rw [h2.off]
  exact down_any g N S P w h1

end

end Go.Proofs.Ythgnchgehmakjaa.Cd

/-
  code.Uint: a number's bytes behind bytes. Conditions: none.
-/
namespace Go.Proofs.Ythgnchgehmakjaa.Cd
open Go.RowKit

theorem hi_byte (n : Nat) (hn : n < 18446744073709551616) : bits BinOp.or IntKind.u64 (bits BinOp.and IntKind.u64 (n : Int) 127) 128 % 256 = ((hi8 n).toNat : Int) := by
  have h1 := u64_and_nat n 127 hn (by omega)
  have h2 : n &&& 127 = n % 128 := Nat.and_two_pow_sub_one_eq_mod n 7
  have h3 := u64_or_nat (n % 128) 128 (by omega) (by omega)
  have h4 : n % 128 ||| 128 = 128 + n % 128 := by
    have := Nat.two_pow_add_eq_or_of_lt (i := 7) (b := n % 128) (by omega) 1
    rw [Nat.or_comm]
    simpa using this.symm
  rw [h2] at h1
  rw [h4] at h3
  rw [show (127 : Int) = ((127 : Nat) : Int) from rfl, h1, show (128 : Int) = ((128 : Nat) : Int) from rfl, h3, hi8_nat]
  omega

/-- One new cell that is a byte. -/
theorem one_byte (w : World) (x : Int) (b : UInt8) (hx : x = (b.toNat : Int)) : ∀ j u, (vb [b])[j]? = some u → (w.alloc (.cells #[.int .u8 x] 5)).cell? (({ block := w.heap.size, off := 0 } : Addr).add j) = some u := by
  subst hx
  intro j u hu
  have hj := (List.getElem?_eq_some_iff.1 hu).1
  simp [vb] at hj
  subst hj
  simp [vb] at hu
  subst hu
  exact cell_one_new _ _ _ 0 _ rfl

set_option maxHeartbeats 400000 in
theorem uint_any (v : Value) (bs : List UInt8) (k : Nat) (w : World) (hs : Sl w w.heap.size v bs) (hk : k < 18446744073709551616) (hb : bs.length + 10 ≤ 140737488355328) :
    Calls Try.prog 44 #[v, .int .u64 k] w (Wrote w (bs ++ enc k)) := by
  have hl := enc_u64 k hk
  obtain ⟨A, c, rfl, h2, h3, h4, h5, h6⟩ := hs
  have H4 := Lib.hid h4
  have H6 := Lib.hid h6
  have H5 := Lib.hid h5
  clear h4 h6 h5
  go_enter Try.func44, Try.ntmps44
  go_wp2
  go_loopw [1, 5] (fun m o wr => ∃ (n : Nat) (ds : List UInt8), m = .int .u64 n ∧ n < 18446744073709551616 ∧ ds.length + (enc n).length ≤ 10 ∧ Hid (enc k = ds ++ enc n) ∧ Out wr w.heap.size o (bs ++ ds) ∧ Below w.heap.size w wr) (fun m _ _ => (intOf m).toNat)
  case atStart => exact ⟨k, [], rfl, hk, by simpa using hl, rfl, .inr ⟨A, by simp, fun hA => by have := H4.out hA; simpa using List.eq_nil_of_length_eq_zero (by omega : bs.length = 0), by simpa using H6.out⟩, Below.refl _ _⟩
  case round =>
    obtain ⟨n, ds, rfl, hn, hd, hh, ho, hbel⟩ := hrel
    have hB := hbel.size
    by_cases hc : 127 < n
    · have hx := hi_byte n hn
      have HX := Lib.hid hx
      have HE : Hid (enc n = hi8 n :: enc (n / 128)) := enc_hi (by omega)
      have HL : ds.length + 1 + (enc (n / 128)).length ≤ 10 := by have := HE.out; rw [this] at hd; simp at hd; omega
      clear hx
      go_wp2_with (at_builtin; refine wp_append_out rfl _ _ rfl w.heap.size _ (bs ++ ds) rfl ?ho ?hB ⟨wr.heap.size, 0, none⟩ 1 [hi8 n] rfl ?h1 ?hn ?hm ?hK)
      case ho => exact ho.alloc _
      case hB => simp; omega
      case h1 => simp
      case hn => exact one_byte _ _ _ HX.out
      case hm => simp; omega
      case hK =>
        intro v' w' hown hb'
        go_wp2
        go_roundw
        case rel =>
          refine ⟨n / 128, ds ++ [hi8 n], by go_num, by omega, by simp; omega, ?_, .inl (by simpa using hown), (hbel.alloc hB _).trans hb'⟩
          have := hh.out
          unfold Hid
          rw [this, HE.out]
          simp
        case measure => simp [intOf]; omega
    · have HX : Hid ((n : Int) % 256 = ((lo8 n).toNat : Int)) := by unfold Hid; rw [lo8_nat (by omega)]; omega
      have HE : Hid (enc n = [lo8 n]) := enc_lo (by omega)
      have HL : ds.length + 1 ≤ 10 := by have := HE.out; rw [this] at hd; simpa using hd
      go_wp2_with (at_builtin; refine wp_append_out rfl _ _ rfl w.heap.size _ (bs ++ ds) rfl ?ho ?hB ⟨wr.heap.size, 0, none⟩ 1 [lo8 n] rfl ?h1 ?hn ?hm ?hK)
      case ho => exact ho.alloc _
      case hB => simp; omega
      case h1 => simp
      case hn => exact one_byte _ _ _ (by have := HX.out; omega)
      case hm => simp; omega
      case hK =>
        intro v' w' hown hb'
        go_wp2
        go_ret
        refine ⟨v', rfl, ?_, (hbel.alloc hB _).trans hb'⟩
        have := hh.out
        rw [this, HE.out]
        simpa using hown

end Go.Proofs.Ythgnchgehmakjaa.Cd

/-
  code.Int, code.Text, and the reference's Uint, Int, Text. Conditions: none.
-/
namespace Go.Proofs.Ythgnchgehmakjaa.Cd
open Go.RowKit

theorem uint_int (v : Value) (bs : List UInt8) (x : Int) (w : World) (hs : Sl w w.heap.size v bs) (h0 : 0 ≤ x) (hk : x < 18446744073709551616) (hb : bs.length + 10 ≤ 140737488355328) :
    Calls Try.prog 44 #[v, .int .u64 x] w (Wrote w (bs ++ enc x.toNat)) := by
  have := uint_any v bs x.toNat w hs (by omega) hb
  rwa [Int.toNat_of_nonneg h0] at this

set_option maxHeartbeats 400000 in
theorem text_any (v : Value) (bs : List UInt8) (s : ByteArray) (w : World) (hs : Sl w w.heap.size v bs) (hb : bs.length + 10 + s.size ≤ 140737488355328) :
    Calls Try.prog 42 #[v, .string s] w (Wrote w (bs ++ (enc s.size ++ s.data.toList))) := by
  have hl := enc_u64 s.size (by omega)
  go_enter Try.func42, Try.ntmps42
  go_wp2_with fail
  refine (uint_int v bs _ w hs (by omega) (by omega) (by omega)).mono ?_
  rintro e w' ⟨v', rfl, hown, hbel⟩
  have hsz := hbel.size
  go_wp2_with (at_builtin; refine wp_append_text rfl _ _ rfl w.heap.size _ (bs ++ enc s.size) rfl ?ho ?hB s rfl ?hm ?hK)
  case ho => rw [Int.toNat_natCast] at hown; exact hown
  case hB => omega
  case hm => simp; omega
  case hK =>
    intro v2 w2 hown2 hbel2
    go_wp2_with fail
    go_ret
    exact ⟨v2, rfl, by simpa using hown2, hbel.trans hbel2⟩

end Go.Proofs.Ythgnchgehmakjaa.Cd

/-
  The reference's Uint, Int, Text. Conditions: none.
-/
namespace Go.Proofs.Ythgnchgehmakjaa.Cd
open Go.RowKit

/-- What the reference's writers leave. -/
def Said (w : World) (bs : List UInt8) (e : Ending) (w' : World) : Prop := e = .returned (.string ⟨bs.toArray⟩) ∧ Below w.heap.size w w'

theorem add_text (W : World) (a b : List UInt8) (h : a.length + b.length ≤ 9223372036854775807) :
    (Op.stringOp .add ⟨a.toArray⟩ ⟨b.toArray⟩).run Try.prog W = .ok (.string ⟨(a ++ b).toArray⟩) W := by
  rw [run_string_add_sum _ _ _ (by simpa [ByteArray.size] using h)]
  rw [ByteArray.mk_append_mk]

end Go.Proofs.Ythgnchgehmakjaa.Cd

/-
  More plain facts on numbers as bytes: no Go in sight. Conditions: none.
-/
namespace Go.Proofs.Ythgnchgehmakjaa.Cd

/-! ### A number and its opposite less one -/

theorem enc_pair (m : Nat) : ∃ c d r, enc (2 * m) = c :: r ∧ enc (2 * m + 1) = d :: r ∧ c.toNat ^^^ d.toNat = 1 := by
  have hx : ∀ j : Nat, (2 * j) ^^^ (2 * j + 1) = 1 := fun j => by
    apply Nat.eq_of_testBit_eq
    intro i
    cases i with
    | zero => simp [Nat.testBit_zero]
    | succ i =>
      simp only [Nat.testBit_succ, Nat.xor_div_two]
      rw [show 2 * j / 2 = j by omega, show (2 * j + 1) / 2 = j by omega]
      simp
  by_cases h : 2 * m < 128
  · exact ⟨_, _, [], enc_lo h, enc_lo (by omega), by rw [lo8_nat h, lo8_nat (by omega)]; exact hx m⟩
  · refine ⟨hi8 (2 * m), hi8 (2 * m + 1), enc (2 * m / 128), enc_hi (by omega), ?_, ?_⟩
    · rw [enc_hi (by omega), show (2 * m + 1) / 128 = 2 * m / 128 by omega]
    · rw [hi8_nat, hi8_nat]
      have := hx (64 + m % 64)
      rwa [show 2 * (64 + m % 64) = 128 + 2 * m % 128 by omega, show 128 + 2 * m % 128 + 1 = 128 + (2 * m + 1) % 128 by omega] at this

theorem zig_pair (n : Int) : ∃ c d r, enc (zig n) = c :: r ∧ enc (zig (-n - 1)) = d :: r ∧ c.toNat ^^^ d.toNat = 1 := by
  by_cases h : 0 ≤ n
  · obtain ⟨c, d, r, h1, h2, h3⟩ := enc_pair n.toNat
    refine ⟨c, d, r, ?_, ?_, h3⟩
    · rw [← h1]; unfold zig; rw [if_pos h]; congr 1; omega
    · rw [← h2]; unfold zig; rw [if_neg (by omega)]; congr 1; omega
  · obtain ⟨c, d, r, h1, h2, h3⟩ := enc_pair (-n - 1).toNat
    refine ⟨d, c, r, ?_, ?_, by rw [Nat.xor_comm]; exact h3⟩
    · rw [← h2]; unfold zig; rw [if_neg h]; congr 1; omega
    · rw [← h1]; unfold zig; rw [if_pos (by omega)]; congr 1; omega

end Go.Proofs.Ythgnchgehmakjaa.Cd

/-
  What a number is written as is read back, and only that: no Go in sight. Conditions: none.
-/
namespace Go.Proofs.Ythgnchgehmakjaa.Cd

theorem at8_zero (c : UInt8) (r : List UInt8) : at8 (c :: r) 0 = c.toNat := by simp [at8]
theorem at8_succ (c : UInt8) (r : List UInt8) (k : Nat) : at8 (c :: r) (k + 1) = at8 r k := by simp [at8]

theorem val_cons (c : UInt8) (r : List UInt8) (k : Nat) : val (c :: r) (k + 1) = c.toNat % 128 + 128 * val r k := by
  induction k with
  | zero => simp [val, at8_zero]
  | succ k ih =>
    have e : at8 r k % 128 * (128 ^ k * 128) = 128 * (at8 r k % 128 * 128 ^ k) := by rw [← Nat.mul_assoc, Nat.mul_comm]
    rw [val, ih, val, at8_succ, Nat.pow_succ, e, Nat.mul_add, Nat.add_assoc]

theorem stop_lo_cons {c : UInt8} (h : c.toNat < 128) (r : List UInt8) : stop (c :: r) = 0 := by rw [stop, if_pos h]
theorem stop_hi_cons {c : UInt8} (h : 128 ≤ c.toNat) (r : List UInt8) : stop (c :: r) = stop r + 1 := by rw [stop, if_neg (by omega)]

theorem hi8_ge (n : Nat) : 128 ≤ (hi8 n).toNat := by rw [hi8_nat]; omega

theorem stop_enc (n : Nat) (t : List UInt8) : stop (enc n ++ t) + 1 = (enc n).length := by
  induction n using Nat.strongRecOn with
  | _ n ih =>
    by_cases h : n < 128
    · rw [enc_lo h, List.singleton_append, stop_lo_cons (by rw [lo8_nat h]; exact h)]; rfl
    · rw [enc_hi (by omega), List.cons_append, stop_hi_cons (hi8_ge n), List.length_cons, ih (n / 128) (by omega)]

theorem stop_cut (n k : Nat) (h : k < (enc n).length) : stop ((enc n).take k) = k := by
  induction n using Nat.strongRecOn generalizing k with
  | _ n ih =>
    cases k with
    | zero => simp [stop]
    | succ k =>
      by_cases hn : n < 128
      · rw [enc_lo hn] at h; simp at h
      · rw [enc_hi (by omega)] at h ⊢
        rw [List.take_succ_cons, stop_hi_cons (hi8_ge n), ih (n / 128) (by omega) k (by simpa using h)]

theorem last_enc (n : Nat) (t : List UInt8) : at8 (enc n ++ t) (stop (enc n ++ t)) = n / 128 ^ stop (enc n ++ t) := by
  induction n using Nat.strongRecOn with
  | _ n ih =>
    by_cases h : n < 128
    · rw [enc_lo h, List.singleton_append, stop_lo_cons (by rw [lo8_nat h]; exact h), at8_zero, lo8_nat h]; simp
    · rw [enc_hi (by omega), List.cons_append, stop_hi_cons (hi8_ge n), at8_succ, ih (n / 128) (by omega), Nat.div_div_eq_div_mul, Nat.pow_succ, Nat.mul_comm]

theorem last_pos (n : Nat) (hn : 1 ≤ n) (t : List UInt8) : 1 ≤ at8 (enc n ++ t) (stop (enc n ++ t)) := by
  induction n using Nat.strongRecOn with
  | _ n ih =>
    by_cases h : n < 128
    · rw [enc_lo h, List.singleton_append, stop_lo_cons (by rw [lo8_nat h]; exact h), at8_zero, lo8_nat h]; exact hn
    · rw [enc_hi (by omega), List.cons_append, stop_hi_cons (hi8_ge n), at8_succ]
      exact ih (n / 128) (by omega) (by omega)

theorem val_enc (n : Nat) (t : List UInt8) : val (enc n ++ t) (stop (enc n ++ t) + 1) = n := by
  induction n using Nat.strongRecOn with
  | _ n ih =>
    by_cases h : n < 128
    · rw [enc_lo h, List.singleton_append, stop_lo_cons (by rw [lo8_nat h]; exact h), val_cons, lo8_nat h]
      simp [val]; omega
    · rw [enc_hi (by omega), List.cons_append, stop_hi_cons (hi8_ge n), val_cons, ih (n / 128) (by omega), hi8_nat]
      omega

theorem enc_good {n : Nat} (hn : n < 18446744073709551616) (t : List UInt8) : ¬ Bad (enc n ++ t) := by
  have h1 := stop_enc n t
  have h2 := enc_u64 n hn
  have h3 := last_enc n t
  unfold Bad
  rintro (h | h | ⟨h, h0⟩ | ⟨h, h0⟩)
  · rw [List.length_append] at h; omega
  · omega
  · have hn1 : 1 ≤ n := by
      rcases Nat.eq_zero_or_pos n with rfl | h4
      · rw [enc_lo (by omega)] at h1; simp at h1; rw [enc_lo (by omega)] at h; simp at h; omega
      · exact h4
    have := last_pos n hn1 t
    omega
  · rw [h] at h3
    have h9 : (128 : Nat) ^ 9 = 9223372036854775808 := by decide
    rw [h9] at h3
    omega

theorem nv_enc {n : Nat} (hn : n < 18446744073709551616) (t : List UInt8) : nv (enc n ++ t) = n := by rw [nv_good (enc_good hn t), val_enc]
theorem ns_enc {n : Nat} (hn : n < 18446744073709551616) (t : List UInt8) : ns (enc n ++ t) = (enc n).length := by rw [ns_good (enc_good hn t), stop_enc]

theorem cut_bad {n k : Nat} (h : k < (enc n).length) : Bad ((enc n).take k) := by
  refine .inl ?_
  rw [stop_cut n k h, List.length_take]
  omega

theorem uB_enc {n : Nat} (hn : n < 18446744073709551616) (t : List UInt8) : uB (enc n ++ t) = t := by
  unfold uB; rw [if_neg (enc_good hn t), ns_enc hn, List.drop_left]
theorem uX_enc {n : Nat} (hn : n < 18446744073709551616) (t : List UInt8) : uX (enc n ++ t) = false := decide_eq_false (enc_good hn t)

theorem zag_zig (n : Int) : zag (zig n) = n := by
  unfold zag zig
  split <;> split <;> omega

theorem zig_lt {n : Int} (h0 : -9223372036854775808 ≤ n) (h1 : n ≤ 9223372036854775807) : zig n < 18446744073709551616 := by
  unfold zig; split <;> omega

/-! ### One way -/

theorem enc_val (l : List UInt8) (h : stop l < l.length) (hz : at8 l (stop l) ≠ 0) : 1 ≤ val l (stop l + 1) ∧ enc (val l (stop l + 1)) = l.take (stop l + 1) := by
  induction l with
  | nil => simp at h
  | cons c r ih =>
    by_cases hc : c.toNat < 128
    · rw [stop_lo_cons hc] at hz ⊢
      rw [at8_zero] at hz
      have hv : val (c :: r) (0 + 1) = c.toNat := by rw [val_cons]; simp [val]; omega
      rw [hv]
      refine ⟨by omega, ?_⟩
      rw [enc_lo hc]
      simp only [Nat.zero_add, List.take_succ_cons, List.take_zero]
      congr 1
      apply UInt8.toNat_inj.1
      rw [lo8_nat hc]
    · rw [stop_hi_cons (by omega)] at h hz ⊢
      rw [at8_succ] at hz
      obtain ⟨h1, h2⟩ := ih (by simpa using h) hz
      rw [val_cons]
      refine ⟨by omega, ?_⟩
      rw [enc_hi (by omega), List.take_succ_cons, ← h2]
      congr 1
      · apply UInt8.toNat_inj.1
        rw [hi8_nat]
        have := c.toNat_lt
        omega
      · congr 1
        omega

theorem enc_nv {l : List UInt8} (h : ¬ Bad l) : enc (nv l) = l.take (ns l) := by
  rw [nv_good h, ns_good h]
  unfold Bad at h
  by_cases h0 : at8 l (stop l) = 0
  · have hs : stop l = 0 := by omega
    cases l with
    | nil => simp [stop] at h
    | cons c r =>
      rw [hs] at h0 ⊢
      rw [at8_zero] at h0
      have hv : val (c :: r) (0 + 1) = 0 := by rw [val_cons]; simp [val]; omega
      rw [hv, enc_lo (by omega)]
      simp only [Nat.zero_add, List.take_succ_cons, List.take_zero]
      congr 1
      apply UInt8.toNat_inj.1
      rw [lo8_nat (by omega)]
      omega
  · exact (enc_val l (by omega) h0).2

theorem enc_uB {l : List UInt8} (h : ¬ Bad l) : enc (nv l) ++ uB l = l := by
  unfold uB
  rw [if_neg h, enc_nv h, List.take_append_drop]

theorem zig_zag (n : Nat) : zig (zag n) = n := by
  unfold zag zig
  split <;> split <;> omega

end Go.Proofs.Ythgnchgehmakjaa.Cd

/-
  A part that is written is read by the same call: no Go in sight. Conditions: none.
-/
namespace Go.Proofs.Ythgnchgehmakjaa.Cd

section
variable {n : Nat} (t : List UInt8)

theorem in_enc {z : Int} (h0 : -9223372036854775808 ≤ z) (h1 : z ≤ 9223372036854775807) : ¬ InBad z z (enc (zig z) ++ t) := by
  have h := zig_lt h0 h1
  unfold InBad
  rw [nv_enc h, zag_zig]
  rintro (h2 | h2 | h2)
  · exact enc_good h t h2
  · omega
  · omega
theorem inV_enc {z : Int} (h0 : -9223372036854775808 ≤ z) (h1 : z ≤ 9223372036854775807) : inV z z (enc (zig z) ++ t) = z := by
  unfold inV; rw [if_neg (in_enc t h0 h1), nv_enc (zig_lt h0 h1), zag_zig]
theorem inB_enc {z : Int} (h0 : -9223372036854775808 ≤ z) (h1 : z ≤ 9223372036854775807) : inB z z (enc (zig z) ++ t) = t := by
  unfold inB; rw [if_neg (in_enc t h0 h1), ns_enc (zig_lt h0 h1), List.drop_left]
theorem inX_enc {z : Int} (h0 : -9223372036854775808 ≤ z) (h1 : z ≤ 9223372036854775807) : inX z z (enc (zig z) ++ t) = false := decide_eq_false (in_enc t h0 h1)

theorem tx_enc (s : List UInt8) (hs : s.length < 18446744073709551616) : ¬ TxBad s.length (enc s.length ++ (s ++ t)) := by
  unfold TxBad
  rw [nv_enc hs, ns_enc hs, List.drop_left, List.length_append]
  rintro (h | h | h | h)
  · exact enc_good hs _ h
  · omega
  · omega
  · omega
theorem txV_enc (s : List UInt8) (hs : s.length < 18446744073709551616) : txV s.length (enc s.length ++ (s ++ t)) = s := by
  unfold txV; rw [if_neg (tx_enc t s hs), nv_enc hs, ns_enc hs, List.drop_left, List.take_left]
theorem txB_enc (s : List UInt8) (hs : s.length < 18446744073709551616) : txB s.length (enc s.length ++ (s ++ t)) = t := by
  unfold txB; rw [if_neg (tx_enc t s hs), nv_enc hs, ns_enc hs, List.drop_left, List.drop_left]
theorem txX_enc (s : List UInt8) (hs : s.length < 18446744073709551616) : txX s.length (enc s.length ++ (s ++ t)) = false := decide_eq_false (tx_enc t s hs)

theorem tk_enc (s : List UInt8) : ¬ TkBad false s.length (s ++ t) := by
  unfold TkBad
  rw [List.length_append]
  rintro (h | h | h)
  · cases h
  · omega
  · omega
theorem tkV_enc (s : List UInt8) : tkV false s.length (s ++ t) = s := by
  unfold tkV; rw [if_neg (tk_enc t s), Int.toNat_natCast, List.take_left]
theorem tkB_enc (s : List UInt8) : tkB false s.length (s ++ t) = t := by
  unfold tkB; rw [if_neg (tk_enc t s), Int.toNat_natCast, List.drop_left]
theorem tkX_enc (s : List UInt8) : tkX false s.length (s ++ t) = false := decide_eq_false (tk_enc t s)
end

end Go.Proofs.Ythgnchgehmakjaa.Cd

/-
  What was read is written as the bytes that were read: no Go in sight. Conditions: none.
-/
namespace Go.Proofs.Ythgnchgehmakjaa.Cd

theorem one_u {bs : List UInt8} (h : uX bs = false) : enc (nv bs) ++ uB bs = bs := enc_uB (of_decide_eq_false h)

theorem one_int {bs : List UInt8} (h : uX bs = false) : enc (zig (zag (nv bs))) ++ uB bs = bs := by rw [zig_zag]; exact one_u h

theorem one_in {lo hi : Int} {bs : List UInt8} (h : inX lo hi bs = false) : enc (zig (inV lo hi bs)) ++ inB lo hi bs = bs := by
  have hn : ¬ InBad lo hi bs := of_decide_eq_false h
  have hb : ¬ Bad bs := fun h => hn (.inl h)
  unfold inV inB
  rw [if_neg hn, if_neg hn, zig_zag, enc_nv hb, List.take_append_drop]

theorem one_tk {bad : Bool} {n : Int} {bs : List UInt8} (h : tkX bad n bs = false) : tkV bad n bs ++ tkB bad n bs = bs := by
  have hn : ¬ TkBad bad n bs := of_decide_eq_false h
  unfold tkV tkB
  rw [if_neg hn, if_neg hn, List.take_append_drop]

theorem one_tx {most : Int} {bs : List UInt8} (h : txX most bs = false) : (enc (txV most bs).length ++ txV most bs) ++ txB most bs = bs := by
  have hn : ¬ TxBad most bs := of_decide_eq_false h
  have hb : ¬ Bad bs := fun h => hn (.inl h)
  have hl : nv bs ≤ (bs.drop (ns bs)).length := Nat.le_of_not_lt (fun h => hn (.inr (.inr (.inr h))))
  unfold txV txB
  rw [if_neg hn, if_neg hn, List.length_take, Nat.min_eq_left hl, enc_nv hb, List.append_assoc, List.take_append_drop, List.take_append_drop]

theorem tkV_len (bad : Bool) (n : Int) (bs : List UInt8) : (tkV bad n bs).length ≤ bs.length := by
  unfold tkV; split <;> simp; omega
theorem txV_len (most : Int) (bs : List UInt8) : (txV most bs).length ≤ bs.length := by
  unfold txV
  split
  · simp
  · rw [List.length_take, List.length_drop]; omega

theorem zag_lt {n : Nat} (h : n < 18446744073709551616) : -9223372036854775808 ≤ zag n ∧ zag n ≤ 9223372036854775807 := by
  unfold zag; split <;> omega

theorem inV_lt {lo hi : Int} {bs : List UInt8} : -9223372036854775808 ≤ inV lo hi bs ∧ inV lo hi bs ≤ 9223372036854775807 := by
  unfold inV
  split
  · omega
  · exact zag_lt (nv_u64 bs)

end Go.Proofs.Ythgnchgehmakjaa.Cd

/-
  Plain facts on CRC-32C and on records: no Go in sight. Conditions: none.
-/
namespace Go.Proofs.Ythgnchgehmakjaa.Cd

/-- What is taken in, by the bit that fell out. -/
def fell (b : Nat) : Nat := if b % 2 = 1 then 2197175160 else 0
/-- One bit taken in. -/
def bit1 (s : Nat) : Nat := (s / 2) ^^^ fell s
def bitsN : Nat → Nat → Nat
  | 0, s => s
  | k + 1, s => bit1 (bitsN k s)
def crcB (s : Nat) (c : UInt8) : Nat := bitsN 8 (s ^^^ c.toNat)
def crcOn (s : Nat) : List UInt8 → Nat
  | [] => s
  | c :: r => crcOn (crcB s c) r
/-- The check. -/
def crc (bs : List UInt8) : Nat := 4294967295 - crcOn 4294967295 bs

theorem fell_lt (b : Nat) : fell b < 4294967296 := by unfold fell; split <;> omega
theorem bit1_lt {s : Nat} (h : s < 4294967296) : bit1 s < 4294967296 := Nat.xor_lt_two_pow (n := 32) (by omega) (fell_lt s)
theorem bitsN_lt {s : Nat} (h : s < 4294967296) (k : Nat) : bitsN k s < 4294967296 := by
  induction k with
  | zero => exact h
  | succ k ih => exact bit1_lt ih
theorem xor_byte_lt {s : Nat} (h : s < 4294967296) (c : UInt8) : s ^^^ c.toNat < 4294967296 := Nat.xor_lt_two_pow (n := 32) h (by have := c.toNat_lt; omega)
theorem crcB_lt {s : Nat} (h : s < 4294967296) (c : UInt8) : crcB s c < 4294967296 := bitsN_lt (xor_byte_lt h c) 8
theorem crcOn_lt {s : Nat} (h : s < 4294967296) (l : List UInt8) : crcOn s l < 4294967296 := by
  induction l generalizing s with
  | nil => exact h
  | cons c r ih => exact ih (crcB_lt h c)
theorem crc_lt (l : List UInt8) : crc l < 4294967296 := by unfold crc; omega
theorem crcOn_append (s : Nat) (a b : List UInt8) : crcOn s (a ++ b) = crcOn (crcOn s a) b := by
  induction a generalizing s with
  | nil => rfl
  | cons c r ih => exact ih _
theorem crcOn_snoc (s : Nat) (l : List UInt8) (k : Nat) (h : k < l.length) : crcOn s (l.take (k + 1)) = crcB (crcOn s (l.take k)) l[k] := by
  rw [List.take_succ_eq_append_getElem h, crcOn_append]
  rfl

/-- The document's way: bit by bit of the byte. -/
def refN (s c : Nat) : Nat → Nat
  | 0 => s
  | k + 1 => (refN s c k / 2) ^^^ fell (refN s c k ^^^ (c / 2 ^ k))
theorem bits_ref (s c k : Nat) : bitsN k (s ^^^ c) = refN s c k ^^^ (c / 2 ^ k) := by
  induction k with
  | zero => simp [bitsN, refN]
  | succ k ih =>
    rw [bitsN, refN, ih, bit1, Nat.xor_div_two, Nat.div_div_eq_div_mul, ← Nat.pow_succ]
    rw [Nat.xor_assoc, Nat.xor_comm (c / 2 ^ (k + 1)), ← Nat.xor_assoc]
theorem crcB_ref (s : Nat) (c : UInt8) : crcB s c = refN s c.toNat 8 := by
  have h := bits_ref s c.toNat 8
  have := c.toNat_lt
  rw [show c.toNat / 2 ^ 8 = 0 by omega, Nat.xor_zero] at h
  exact h
theorem refN_lt {s : Nat} (h : s < 4294967296) (c k : Nat) : refN s c k < 4294967296 := by
  induction k with
  | zero => exact h
  | succ k ih => exact Nat.xor_lt_two_pow (n := 32) (by omega) (fell_lt _)
theorem odd_xor (a b : Nat) : fell (a ^^^ b) = if (a % 2 = 1) ↔ (b % 2 = 1) then 0 else 2197175160 := by
  unfold fell
  have h : (a ^^^ b) % 2 = 1 ↔ ¬ ((a % 2 = 1) ↔ (b % 2 = 1)) := by
    have h2 : (a ^^^ b) % 2 = (a % 2 ^^^ b % 2) := by
      rw [show (2 : Nat) = 2 ^ 1 from rfl, Nat.xor_mod_two_pow]
    rw [h2]
    rcases (by omega : a % 2 = 0 ∨ a % 2 = 1) with h3 | h3 <;> rcases (by omega : b % 2 = 0 ∨ b % 2 = 1) with h4 | h4 <;> simp [h3, h4]
  by_cases hq : (a % 2 = 1) ↔ (b % 2 = 1)
  · rw [if_pos hq, if_neg (fun hx => (h.1 hx) hq)]
  · rw [if_neg hq, if_pos (h.2 hq)]

/-- A byte. -/
def b8 (n : Nat) : UInt8 := UInt8.ofNat n
theorem b8_nat (n : Nat) : (b8 n).toNat = n % 256 := by unfold b8; rw [UInt8.toNat_ofNat']
/-- Four bytes, the lowest first. -/
def le4 (n : Nat) : List UInt8 := [b8 n, b8 (n / 256), b8 (n / 65536), b8 (n / 16777216)]
theorem le4_len (n : Nat) : (le4 n).length = 4 := rfl

/-- A record's bytes. -/
def frm (x : List UInt8) : List UInt8 := (enc x.length ++ x) ++ le4 (crc (enc x.length ++ x))
theorem frm_len (x : List UInt8) : (frm x).length = (enc x.length).length + x.length + 4 := by simp [frm, le4_len]; omega
theorem frm_ge (x : List UInt8) : x.length + 5 ≤ (frm x).length := by have := enc_pos x.length; rw [frm_len]; omega
theorem frm_le (x : List UInt8) (h : x.length < 18446744073709551616) : (frm x).length ≤ x.length + 14 := by have := enc_u64 x.length h; rw [frm_len]; omega

theorem tx_most (t s : List UInt8) (hs : s.length < 18446744073709551616) (most : Int) (hm : (s.length : Int) ≤ most) : ¬ TxBad most (enc s.length ++ (s ++ t)) := by
  unfold TxBad
  rw [nv_enc hs, ns_enc hs, List.drop_left, List.length_append]
  rintro (h | h | h | h)
  · exact enc_good hs _ h
  · omega
  · omega
  · omega
theorem tx_all (t s : List UInt8) (hs : s.length < 18446744073709551616) (most : Int) (hm : (s.length : Int) ≤ most) :
    txV most (enc s.length ++ (s ++ t)) = s ∧ txB most (enc s.length ++ (s ++ t)) = t ∧ txX most (enc s.length ++ (s ++ t)) = false := by
  have h := tx_most t s hs most hm
  unfold txV txB txX
  rw [if_neg h, if_neg h, nv_enc hs, ns_enc hs, List.drop_left, List.take_left, List.drop_left]
  exact ⟨rfl, rfl, decide_eq_false h⟩

theorem frm_split (x t : List UInt8) : frm x ++ t = enc x.length ++ (x ++ (le4 (crc (enc x.length ++ x)) ++ t)) := by simp [frm]

/-- A record stands there. -/
def HasRec (c : List UInt8) : Prop := ∃ x, frm x <+: c

theorem pre_tx {x c : List UInt8} (h : frm x <+: c) (hc : c.length < 18446744073709551616) :
    txX c.length c = false ∧ txV c.length c = x ∧ txB c.length c = le4 (crc (enc x.length ++ x)) ++ c.drop (frm x).length := by
  obtain ⟨t, rfl⟩ := h
  have hg := frm_ge x
  rw [List.length_append] at hc ⊢
  have h2 := tx_all (le4 (crc (enc x.length ++ x)) ++ t) x (by omega) (((frm x).length + t.length : Nat) : Int) (by omega)
  rw [← frm_split] at h2
  rw [List.drop_left]
  exact ⟨h2.2.2, h2.1, h2.2.1⟩

theorem pre_uniq {x y c : List UInt8} (h : frm x <+: c) (k : frm y <+: c) (hc : c.length < 18446744073709551616) : x = y := by
  rw [← (pre_tx h hc).2.1, (pre_tx k hc).2.1]

/-- What is read as a text, and its check behind it: a record. -/
theorem rec_of {c : List UInt8} (h : txX c.length c = false) (hk : (txB c.length c).take 4 = le4 (crc (enc (txV c.length c).length ++ txV c.length c))) : frm (txV c.length c) <+: c := by
  have h1 := one_tx h
  refine ⟨(txB c.length c).drop 4, ?_⟩
  unfold frm
  rw [List.append_assoc, ← hk, List.take_append_drop]
  exact h1

theorem no_rec {c : List UInt8} (hc : c.length < 18446744073709551616) (h : txX c.length c = true ∨ (txB c.length c).length < 4 ∨ (txB c.length c).take 4 ≠ le4 (crc (enc (txV c.length c).length ++ txV c.length c))) : ¬ HasRec c := by
  rintro ⟨x, hx⟩
  obtain ⟨h1, h2, h3⟩ := pre_tx hx hc
  rw [h1, h2, h3] at h
  rcases h with h | h | h
  · cases h
  · rw [List.length_append, le4_len] at h; omega
  · exact h (by rw [show (4 : Nat) = (le4 (crc (enc x.length ++ x))).length from rfl, List.take_left])

theorem no_nil : ¬ HasRec [] := by
  rintro ⟨x, hx⟩
  have h1 := hx.length_le
  have h2 := frm_ge x
  rw [List.length_nil] at h1
  omega

/-- Records, one behind the other. -/
def flat (l : List (List UInt8)) : List UInt8 := (l.map frm).flatten
theorem flat_nil : flat [] = [] := rfl
theorem flat_cons (x : List UInt8) (l : List (List UInt8)) : flat (x :: l) = frm x ++ flat l := by simp [flat]
theorem flat_append (a b : List (List UInt8)) : flat (a ++ b) = flat a ++ flat b := by simp [flat]
theorem flat_one (x : List UInt8) : flat [x] = frm x := by simp [flat]
theorem flat_take (l : List (List UInt8)) (k : Nat) (h : k < l.length) : flat (l.take (k + 1)) = flat (l.take k) ++ frm l[k] := by
  rw [List.take_succ_eq_append_getElem h, flat_append, flat_one]
theorem flat_ge (l : List (List UInt8)) : 5 * l.length ≤ (flat l).length := by
  induction l with
  | nil => simp [flat]
  | cons x l ih => have := frm_ge x; rw [flat_cons, List.length_append, List.length_cons]; omega

/-- The records of bytes, and what is left. -/
def Splits (bs : List UInt8) (ds : List (List UInt8)) (cur : List UInt8) : Prop := bs = flat ds ++ cur ∧ ¬ HasRec cur

theorem splits_uniq {ds es : List (List UInt8)} {bs cur cur' : List UInt8} (hb : bs.length < 18446744073709551616) (h : Splits bs ds cur) (k : Splits bs es cur') : ds = es ∧ cur = cur' := by
  induction ds generalizing es bs with
  | nil =>
    cases es with
    | nil =>
      have h1 := h.1
      have k1 := k.1
      rw [flat_nil, List.nil_append] at h1 k1
      exact ⟨rfl, by rw [← h1, ← k1]⟩
    | cons e es =>
      refine absurd ?_ h.2
      have h1 := h.1
      rw [flat_nil, List.nil_append] at h1
      exact ⟨e, by rw [← h1, k.1, flat_cons, List.append_assoc]; exact List.prefix_append _ _⟩
  | cons d ds ih =>
    cases es with
    | nil =>
      refine absurd ?_ k.2
      have k1 := k.1
      rw [flat_nil, List.nil_append] at k1
      exact ⟨d, by rw [← k1, h.1, flat_cons, List.append_assoc]; exact List.prefix_append _ _⟩
    | cons e es =>
      have hd : frm d <+: bs := by rw [h.1, flat_cons, List.append_assoc]; exact List.prefix_append _ _
      have he : frm e <+: bs := by rw [k.1, flat_cons, List.append_assoc]; exact List.prefix_append _ _
      obtain rfl := pre_uniq hd he hb
      have e1 := h.1
      have e2 := k.1
      rw [flat_cons, List.append_assoc] at e1 e2
      have e3 := List.append_cancel_left (e1.symm.trans e2)
      have hl : (flat ds ++ cur).length < 18446744073709551616 := by rw [e1, List.length_append] at hb; omega
      obtain ⟨r1, r2⟩ := ih hl ⟨rfl, h.2⟩ ⟨e3, k.2⟩
      exact ⟨by rw [r1], r2⟩

theorem splits_all (l : List (List UInt8)) : Splits (flat l) l [] := ⟨by simp, no_nil⟩

theorem splits_join {b cur : List UInt8} {ds : List (List UInt8)} (a : List (List UInt8)) (h : Splits b ds cur) : Splits (flat a ++ b) (a ++ ds) cur :=
  ⟨by rw [h.1, flat_append, List.append_assoc], h.2⟩

/-- A record that is cut is none. -/
theorem cut_none (x : List UInt8) (m : Nat) (hm : m < (frm x).length) (hx : (frm x).length < 18446744073709551616) : ¬ HasRec ((frm x).take m) := by
  rintro ⟨y, hy⟩
  have h1 := pre_uniq (hy.trans (List.take_prefix _ _)) (List.prefix_refl (frm x)) hx
  subst h1
  have h2 := hy.length_le
  rw [List.length_take] at h2
  omega

theorem splits_cut (l : List (List UInt8)) (k n : Nat) (hk : k ≤ l.length) (h1 : (flat (l.take k)).length ≤ n) (h2 : k < l.length → n < (flat (l.take (k + 1))).length)
    (hb : (flat l).length < 18446744073709551616) : ∃ cur, Splits ((flat l).take n) (l.take k) cur := by
  by_cases hlt : k < l.length
  · have e := flat_take l k hlt
    have h3 := h2 hlt
    have hpre : flat l = flat (l.take (k + 1)) ++ flat (l.drop (k + 1)) := by rw [← flat_append, List.take_append_drop]
    have e2 : (flat l).take n = flat (l.take k) ++ (frm l[k]).take (n - (flat (l.take k)).length) := by
      rw [hpre, List.take_append_of_le_length (by omega), e, List.take_append, List.take_of_length_le h1]
    rw [e, List.length_append] at h3
    refine ⟨_, e2, cut_none _ _ (by omega) ?_⟩
    rw [hpre, e, List.length_append, List.length_append] at hb
    omega
  · have hkl : k = l.length := by omega
    subst hkl
    rw [List.take_length] at h1 ⊢
    rw [List.take_of_length_le (by omega)]
    exact ⟨[], splits_all l⟩

theorem flat_mono (l : List (List UInt8)) (j k : Nat) (h : j ≤ k) : (flat (l.take j)).length ≤ (flat (l.take k)).length := by
  have e : l.take j = (l.take k).take j := by rw [List.take_take, Nat.min_eq_left h]
  rw [e]
  have h2 : flat (l.take k) = flat ((l.take k).take j) ++ flat ((l.take k).drop j) := by rw [← flat_append, List.take_append_drop]
  rw [h2, List.length_append]
  omega

/-- One record and no more. -/
theorem one_rec {c : List UInt8} {ds : List (List UInt8)} {cur : List UInt8} (h : Splits c ds cur) (hc : c.length < 18446744073709551616) : (∃ x, ds = [x] ∧ cur = []) ↔ ∃ x, frm x = c := by
  constructor
  · rintro ⟨x, rfl, rfl⟩
    have := h.1
    rw [flat_one, List.append_nil] at this
    exact ⟨x, this.symm⟩
  · rintro ⟨x, rfl⟩
    have h2 := splits_all [x]
    rw [flat_one] at h2
    obtain ⟨h3, h4⟩ := splits_uniq hc h h2
    exact ⟨x, h3, h4⟩

end Go.Proofs.Ythgnchgehmakjaa.Cd

/-
  frame.Sum: the check of bytes. Conditions: none.
-/
namespace Go.Proofs.Ythgnchgehmakjaa.Cd
open Go.RowKit

theorem ret_u32 {a b : Int} (h : a = b) : Ending.returned (.int .u32 a) = .returned (.int .u32 b) := by rw [h]

theorem wrap_byte32 (c : UInt8) : IntKind.u32.wrap (c.toNat : Int) = (c.toNat : Int) := by
  have := c.toNat_lt
  rw [IntKind.wrap_u32']
  omega

theorem and_one32 (s : Nat) (h : s < 4294967296) : bits BinOp.and IntKind.u32 (s : Int) 1 = ((s % 2 : Nat) : Int) := by
  have := u32_and_nat s 1 h (by omega)
  rw [nat_mask1] at this
  exact this

theorem bit1_xor (s : Nat) (h : s < 4294967296) (hs : s % 2 = 1) : bits BinOp.xor IntKind.u32 ((s : Int) / 2) 2197175160 = (bit1 s : Nat) := by
  have h2 := u32_xor_nat (s / 2) 2197175160 (by omega) (by omega)
  unfold bit1 fell
  rw [if_pos hs, ← h2]
  rfl
theorem bit1_none (s : Nat) (h : s < 4294967296) (hs : s % 2 = 0) : bits BinOp.xor IntKind.u32 ((s : Int) / 2) 0 = (bit1 s : Nat) := by
  have h2 := u32_xor_nat (s / 2) 0 (by omega) (by omega)
  unfold bit1 fell
  rw [if_neg (by omega), ← h2]
  rfl
theorem poly_all : bits BinOp.and IntKind.u32 2197175160 4294967295 = 2197175160 := by
  have := u32_and_nat 2197175160 4294967295 (by omega) (by omega)
  exact this.trans (by decide)
theorem poly_none : bits BinOp.and IntKind.u32 2197175160 0 = 0 := by
  have := u32_and_nat 2197175160 0 (by omega) (by omega)
  exact this.trans (by decide)

theorem xor_ones (s : Nat) (h : s < 4294967296) : 4294967295 ^^^ s = 4294967295 - s := by
  have e := congrArg BitVec.toNat (BitVec.allOnes_xor (x := BitVec.ofNat 32 s))
  rw [BitVec.toNat_xor, BitVec.toNat_not, BitVec.toNat_allOnes, BitVec.toNat_ofNat, Nat.mod_eq_of_lt (by omega)] at e
  exact e
theorem not32 (s : Nat) (h : s < 4294967296) : bits BinOp.xor IntKind.u32 IntKind.u32.max (s : Int) = ((4294967295 - s : Nat) : Int) := by
  rw [← xor_ones s h]
  exact u32_xor_nat 4294967295 s (by omega) h

set_option maxRecDepth 100000 in
set_option maxHeartbeats 1600000 in
theorem fsum_any (v : Value) (bs : List UInt8) (w : World) {B : Nat} (h : Sl w B v bs) :
    Calls Try.prog 62 #[v] w fun e w' => e = .returned (.int .u32 (crc bs : Nat)) ∧ w = w' := by
  have hat := fun h0 => h.at h0
  obtain ⟨A, c, rfl, h2, h3⟩ := h.len
  clear h
  have HAT := Lib.hid hat
  clear hat
  have hm2 : bs.length ≤ 9223372036854775807 := by unfold maxLen at h3; omega
  clear h3
  go_enter Try.func62, Try.ntmps62
  go_wp2
  go_loop [3, 9] (fun s1 i => ∃ k : Nat, k ≤ bs.length ∧ i = .int .i64 k ∧ s1 = .int .u32 (crcOn 4294967295 (bs.take k) : Nat)) (fun _ i => bs.length - (intOf i).toNat)
  case atStart => exact ⟨0, Nat.zero_le _, rfl, rfl⟩
  case round =>
    obtain ⟨k, hk, rfl, rfl⟩ := hrel
    by_cases hlt : k < bs.length
    · obtain ⟨b, off, c', he, _, _, _, hc⟩ := HAT.out (by omega)
      have hcell := hc k hlt
      have hsn := crcOn_snoc 4294967295 bs k hlt
      injection he with e1 _ e3
      subst e1 e3
      clear hc
      have hlt32 := crcOn_lt (s := 4294967295) (by omega) (bs.take k)
      generalize hx : bs[k] = x at hcell hsn
      generalize hm : crcOn 4294967295 (bs.take k) = m at hsn hlt32 ⊢
      have E1 := wrap_byte32 x
      have E2 := u32_xor_nat m x.toNat hlt32 (by have := x.toNat_lt; omega)
      have HX := Lib.hid (xor_byte_lt hlt32 x)
      have HSN := Lib.hid hsn
      clear hx hm hsn hlt32
      go_wp2
      go_loop [3, 17] (fun s1 i => ∃ j : Nat, j ≤ 8 ∧ i = .int .i64 j ∧ s1 = .int .u32 (bitsN j (m ^^^ x.toNat) : Nat)) (fun _ i => 8 - (intOf i).toNat)
      case atStart => exact ⟨0, Nat.zero_le _, rfl, rfl⟩
      case round =>
        obtain ⟨j, hj, rfl, rfl⟩ := hrel
        by_cases hjl : j < 8
        · have hl := bitsN_lt HX.out j
          have hnx : Hid (bitsN (j + 1) (m ^^^ x.toNat) = bit1 (bitsN j (m ^^^ x.toNat))) := rfl
          generalize bitsN j (m ^^^ x.toNat) = s at hl hnx ⊢
          have F1 := and_one32 s hl
          rcases (by omega : s % 2 = 0 ∨ s % 2 = 1) with h0 | h0
          · have F2 := bit1_none s hl h0
            have F3 := poly_none
            rw [h0] at F1
            clear h0
            go_wp2
            go_round
            case rel => exact ⟨j + 1, by omega, by go_num, by rw [hnx.out]⟩
            case measure => simp [intOf]; omega
          · have F2 := bit1_xor s hl h0
            have F3 := poly_all
            rw [h0] at F1
            clear h0
            go_wp2
            go_round
            case rel => exact ⟨j + 1, by omega, by go_num, by rw [hnx.out]⟩
            case measure => simp [intOf]; omega
        · have hj8 : j = 8 := by omega
          have hcb : Hid (bitsN j (m ^^^ x.toNat) = crcB m x) := by unfold Hid; rw [hj8]; rfl
          clear hj8
          go_wp2
          go_round
          case rel => exact ⟨k + 1, by omega, by go_num, by rw [HSN.out, hcb.out]⟩
          case measure => simp [intOf]; omega
    · have hkl : k = bs.length := by omega
      have htk : Hid (bs.take k = bs) := by unfold Hid; rw [hkl, List.take_of_length_le (Nat.le_refl _)]
      have hl := crcOn_lt (s := 4294967295) (by omega) (bs.take k)
      clear hkl
      go_wp2
      go_ret
      refine ⟨ret_u32 ?_, rfl⟩
      rw [htk.out] at hl ⊢
      exact not32 _ hl

end Go.Proofs.Ythgnchgehmakjaa.Cd

/-
  The document's check: bit by bit. Conditions: none.
-/
namespace Go.Proofs.Ythgnchgehmakjaa.Cd
open Go.RowKit

/-- The bit of a byte that stands at k. -/
theorem bit_at (n k : Nat) : (((n : Int) / 2 ^ k).tmod 2 == 1) = decide (n / 2 ^ k % 2 = 1) := by
  have e : ((n : Int) / 2 ^ k) = ((n / 2 ^ k : Nat) : Int) := by rw [Int.natCast_ediv, Int.natCast_pow]; rfl
  rw [e]
  generalize n / 2 ^ k = b
  rw [Int.tmod_eq_emod_of_nonneg (by omega), Bool.eq_iff_iff]
  simp
  omega

theorem half_xor (s : Nat) (h : s < 4294967296) : bits BinOp.xor IntKind.u32 ((s : Int) / 2) 2197175160 = ((s / 2 ^^^ 2197175160 : Nat) : Int) := by
  have h2 := u32_xor_nat (s / 2) 2197175160 (by omega) (by omega)
  rw [← h2]
  rfl

theorem ref_same {s b : Nat} (h : (s % 2 = 1) ↔ (b % 2 = 1)) : (s / 2) ^^^ fell (s ^^^ b) = s / 2 := by rw [odd_xor, if_pos h, Nat.xor_zero]
theorem ref_other {s b : Nat} (h : ¬ ((s % 2 = 1) ↔ (b % 2 = 1))) : (s / 2) ^^^ fell (s ^^^ b) = s / 2 ^^^ 2197175160 := by rw [odd_xor, if_neg h]

end Go.Proofs.Ythgnchgehmakjaa.Cd

/-
  frame.tail, the document's record. Conditions: none.
-/
namespace Go.Proofs.Ythgnchgehmakjaa.Cd
open Go.RowKit

theorem le4_at (n k : Nat) (h : k < 4) : (le4 n).take (k + 1) = (le4 n).take k ++ [b8 (n / 256 ^ k)] := by
  rcases (by omega : k = 0 ∨ k = 1 ∨ k = 2 ∨ k = 3) with rfl | rfl | rfl | rfl <;> simp [le4]

/-- One new cell that is a byte. -/
theorem one_byte8 (w : World) (x : Int) (b : UInt8) (hx : x = (b.toNat : Int)) : Sl (w.alloc (.cells #[.int .u8 x] 5)) (w.heap.size + 1) (.slice (some ⟨w.heap.size, 0, none⟩) 1 1) [b] :=
  sl_new w [b] #[.int .u8 x] (by rw [hx]; rfl) (by simp [maxLen]) 1 rfl

set_option maxRecDepth 100000 in
set_option maxHeartbeats 1600000 in
theorem tail_any (v : Value) (bs : List UInt8) (w : World) {B : Nat} (h : Sl w B v bs) :
    Calls Try.prog 43 #[v] w (Wrote w (le4 (crc bs))) := by
  have H := Lib.hid h
  clear h
  go_enter Try.func43, Try.ntmps43
  go_wp2_with fail
  refine (fsum_any v bs w H.out).mono ?_
  rintro e w1 ⟨rfl, rfl⟩
  have hcl := crc_lt bs
  have HCL := Lib.hid hcl
  generalize crc bs = n at *
  clear hcl
  go_wp2
  go_loopw [3, 4, 7] (fun s o i wr => ∃ k : Nat, k ≤ 4 ∧ i = .int .i64 k ∧ s = .int .u32 (n / 256 ^ k : Nat) ∧ Own wr w.heap.size o ((le4 n).take k) ∧ Below w.heap.size w wr) (fun _ _ i _ => 4 - (intOf i).toNat)
  case atStart => exact ⟨0, Nat.zero_le _, rfl, by rw [Nat.pow_zero, Nat.div_one], World.ownsRow_nil _ _ _ _, Below.refl _ _⟩
  case round =>
    obtain ⟨k, hk, rfl, rfl, ho, hbel⟩ := hrel
    have hB := hbel.size
    by_cases hlt : k < 4
    · have hat := le4_at n k hlt
      have hlen : ((le4 n).take k).length = k := by rw [List.length_take, le4_len]; omega
      have hdn : n / 256 ^ (k + 1) = n / 256 ^ k / 256 := by rw [Nat.pow_succ, Nat.div_div_eq_div_mul]
      have hsm : n / 256 ^ k < 4294967296 := Nat.lt_of_le_of_lt (Nat.div_le_self _ _) HCL.out
      generalize n / 256 ^ (k + 1) = m2 at hdn
      have HDN : Hid (n / 256 ^ (k + 1) = n / 256 ^ k / 256) := by unfold Hid; rw [Nat.pow_succ, Nat.div_div_eq_div_mul]
      generalize n / 256 ^ k = m at *
      have HX : Hid ((m : Int) % 256 = ((b8 m).toNat : Int)) := by unfold Hid; rw [b8_nat]; omega
      have HAT := Lib.hid hat
      have HL := Lib.hid hlen
      clear hat hdn hlen
      go_wp2_with (at_builtin; refine wp_append_sl rfl _ _ rfl w.heap.size _ ((le4 n).take k) rfl ?ho ?hB _ (wr.heap.size + 1) [b8 m] rfl ?hn ?hm ?hK)
      case ho => exact ho.alloc _
      case hB => simp; omega
      case hn => exact one_byte8 _ _ _ (by have := HX.out; omega)
      case hm => rw [HL.out]; simp; omega
      case hK =>
        intro v' w' hown hb'
        go_wp2
        go_roundw
        case rel => exact ⟨k + 1, by omega, by go_num, by rw [HDN.out]; go_num, by rw [HAT.out]; exact hown, (hbel.alloc hB _).trans hb'⟩
        case measure => simp [intOf]; omega
    · have hk4 : k = 4 := by omega
      have htk : Hid ((le4 n).take k = le4 n) := by unfold Hid; rw [hk4]; rfl
      clear hk4
      go_wp2
      go_ret
      exact ⟨_, rfl, by rw [← htk.out]; exact ho, hbel⟩

end Go.Proofs.Ythgnchgehmakjaa.Cd

/-
  frame.Put, and the document's record. Conditions: none.
-/
namespace Go.Proofs.Ythgnchgehmakjaa.Cd
open Go.RowKit

theorem text_of (v : Value) (bs s : List UInt8) (w : World) (hs : Sl w w.heap.size v bs) (hb : bs.length + 10 + s.length ≤ 140737488355328) :
    Calls Try.prog 42 #[v, .string ⟨s.toArray⟩] w (Wrote w (bs ++ (enc s.length ++ s))) := text_any v bs ⟨s.toArray⟩ w hs hb

theorem le4_text (W : World) (n : Nat) (hn : n < 4294967296) :
    (convert 31 9 (.slice (some ⟨W.heap.size, 0, none⟩) 4 4)).run Try.prog (W.alloc (.cells #[.int .u8 ((n : Int) % 256), .int .u8 ((n : Int) / 256 % 256), .int .u8 ((n : Int) / 65536 % 256), .int .u8 ((n : Int) / 16777216)] 5))
      = .ok (.string ⟨(le4 n).toArray⟩) (W.alloc (.cells #[.int .u8 ((n : Int) % 256), .int .u8 ((n : Int) / 256 % 256), .int .u8 ((n : Int) / 65536 % 256), .int .u8 ((n : Int) / 16777216)] 5)) := by
  refine run_text_of _ (W.heap.size + 1) _ (le4 n) (sl_new W (le4 n) _ ?_ (by simp [maxLen, le4_len]) 4 rfl)
  simp only [le4, vb, List.map_cons, List.map_nil, b8_nat]
  rw [Nat.mod_eq_of_lt (by omega : n / 16777216 < 256)]
  simp

/-- A slice's rest. -/
theorem sl_drop {w : World} {B : Nat} {g off L cap : Nat} {bs : List UInt8} (h : Sl w B (.slice (some ⟨g, off, none⟩) L cap) bs) (k : Nat) (hk : k ≤ bs.length) (a : Nat) (ha : 0 < bs.length - k → a = off + k) (hB : g < B) :
    Sl w B (.slice (some ⟨g, a, none⟩) (L - k) (cap - k)) (bs.drop k) := by
  obtain ⟨A, c, e, h2, h3, h4, h5, h6⟩ := h
  injection e with e1 e2 e3
  subst e1 e2 e3
  refine ⟨some ⟨g, a, none⟩, cap - k, by rw [List.length_drop], by rw [List.length_drop]; omega, by omega, (fun hn => by cases hn), fun ad e h0 => ?_, fun ad e j u hu => ?_⟩
  · injection e with e
    subst e
    exact hB
  · have hj := (List.getElem?_eq_some_iff.1 hu).1
    rw [vb_length, List.length_drop] at hj
    have hu2 : (vb bs)[k + j]? = some u := by
      rw [← hu]
      simp only [vb, List.map_drop, List.getElem?_drop]
    have h7 := h6 _ rfl (k + j) u hu2
    injection e with e
    subst e
    rw [Addr.add_lit] at h7 ⊢
    rw [ha (by omega), Nat.add_assoc]
    exact h7

set_option maxRecDepth 100000 in
set_option maxHeartbeats 800000 in
theorem put_any (v : Value) (bs s : List UInt8) (w : World) (hs : Sl w w.heap.size v bs) (hb : bs.length + s.length + 14 ≤ 140737488355328) :
    Calls Try.prog 20 #[v, .string ⟨s.toArray⟩] w (Wrote w (bs ++ frm s)) := by
  have hl := enc_u64 s.length (by omega)
  have hp := enc_pos s.length
  obtain ⟨c, hc⟩ : ∃ c, bs ++ (enc s.length ++ s) = c := ⟨_, rfl⟩
  have hcl : bs.length + 1 ≤ c.length ∧ c.length ≤ bs.length + 10 + s.length := by rw [← hc, List.length_append, List.length_append]; omega
  have hcd : Hid (c.drop bs.length = enc s.length ++ s) := by unfold Hid; rw [← hc, List.drop_left]
  have HC := Lib.hid hc
  clear hc hl hp
  have HS := Lib.hid hs
  obtain ⟨A, k, rfl, h2, h3⟩ := hs.len
  have h3 : k ≤ 9223372036854775807 := h3
  clear hs
  go_enter Try.func20, Try.ntmps20
  go_wp2_with fail
  refine (text_of _ bs s w HS.out (by omega)).mono ?_
  rintro e w1 ⟨v1, rfl, ho1, hb1⟩
  rw [HC.out] at ho1
  obtain ⟨g, cap, cur, rfl, hg1, hg2, hg3, hg4, hg5, hg6⟩ := own_block ho1 (by omega)
  have hg5 : cap ≤ 9223372036854775807 := hg5
  have HO := Lib.hid ho1
  clear ho1 hg6 hg3
  go_wp2_with fail
  refine (tail_any _ (enc s.length ++ s) w1 (by have := sl_drop HO.out.sl bs.length (by omega) bs.length (fun _ => by omega) hg2; rw [hcd.out] at this; exact this)).mono ?_
  rintro e w2 ⟨v2, rfl, ho2, hb2⟩
  have hs1 := hb1.size
  have hs2 := hb2.size
  go_wp2_with (at_builtin; refine wp_append_sl rfl _ _ rfl w.heap.size _ c rfl ?ho ?hB _ w2.heap.size (le4 (crc (enc s.length ++ s))) rfl ?hn ?hm ?hK)
  case ho => exact HO.out.keep hb2
  case hB => omega
  case hn => exact ho2.sl
  case hm => rw [le4_len]; omega
  case hK =>
    intro v3 w3 ho3 hb3
    go_wp2_with fail
    go_ret
    refine ⟨v3, rfl, ?_, (hb1.trans (hb2.mono hs1)).trans hb3⟩
    have e : bs ++ frm s = c ++ le4 (crc (enc s.length ++ s)) := by rw [← HC.out]; simp [frm]
    rw [e]
    exact ho3

end Go.Proofs.Ythgnchgehmakjaa.Cd
