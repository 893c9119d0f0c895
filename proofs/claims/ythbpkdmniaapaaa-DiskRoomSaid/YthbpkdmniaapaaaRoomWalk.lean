/-
  DiskRoom answers true. Conditions: none.
-/
import Derived.Test.YthbpkdmniaapaaaDk
import Derived.Test.YthbpkdmniaapaaaDskCuts
import Derived.Test.YthbpkdmniaapaaaAliveD
import Derived.Test.YthbpkdmniaapaaaStrs
import Derived.OpenShut
namespace Go.Proofs.Ythbpkdmniaapaaa.DiskRoom
open Go.RowKit Go.Proofs.Ythbpkdmniaapaaa.Cd

theorem kept_by_write {D : Dsk} {s b : List UInt8} {i : Int} {m : List UInt8} (hf : D.fuse ≠ 1) (h : (getF (writeD D s i b).1.now m).isSome = true) : m = s ∨ (getF D.now m).isSome = true := by
  unfold writeD at h
  split at h
  · exact .inr h
  · split at h
    · exact .inr h
    · split at h
      · exact .inr h
      · split at h
        · exact .inr h
        · rw [ends_calm hf, wrote_is] at h
          by_cases e : m = s
          · exact .inl e
          · rw [if_neg e] at h
            exact .inr h
theorem kept_by_both {D : Dsk} {s : List UInt8} {j : Nat} {m : List UInt8} {room k : Nat} (hr : Cd.Roomy D room k) (h2 : (getF D.now s).isSome = true) (hj : j ≤ (pagesF D.now s).length) (h : (getF (removeD (cutD D s j).1 s).1.now m).isSome = true) : m ≠ s ∧ (getF D.now m).isSome = true := by
  obtain ⟨_, c2, _, c4, _⟩ := hr.cut h2 j hj
  rw [remove_calm c4.off c2 (by rw [c4.fuse]; omega)] at h
  have h : (getF (without (cutD D s j).1.now s) m).isSome = true := h
  rw [getF_without] at h
  by_cases e : m = s
  · rw [if_pos e] at h; cases h
  · rw [if_neg e, cut_calm hr.off h2 (by rw [hr.fuse]; omega)] at h
    have h : (getF (putF D.now ⟨s, _⟩) m).isSome = true := h
    rw [getF_put, if_neg (by exact e)] at h
    exact ⟨e, h⟩
theorem _root_.Go.Proofs.Ythbpkdmniaapaaa.Cd.Dk.counts {w : World} {B g N room k : Nat} {D : Dsk} (h : Dk w B g N D) (hk : count D.now = k) (hr : D.room = room) : k ≤ room := by
  obtain ⟨P, h1, h2⟩ := h
  have := h1.fits.nns
  have := h2.now.num
  have e : P.nn = count D.now := this
  have := h2.room
  omega
theorem none_left {D : Dsk} {room k : Nat} (hr : Cd.Roomy D room k) (h : ∀ m, (getF D.now m).isSome = true → m ∈ ([] : List (List UInt8))) : k = 0 := by
  have hc := hr.count
  cases hn : D.now with
  | nil => rw [hn] at hc; exact hc.symm
  | cons f r =>
    have := h f.name (by rw [hn, getF, if_pos rfl]; rfl)
    cases this

theorem str_at {w : World} {B n c : Nat} {A : Option Addr} {l : List (List UInt8)} (h : Strs w B (.slice A n c) l) {k : Nat} (hk : k < l.length) :
    ∃ b off, A = some ⟨b, off, none⟩ ∧ b < B ∧ w.cell? ⟨b, off + k, none⟩ = some (.string ⟨(l[k]).toArray⟩) := by
  obtain ⟨A', c', e, _, _, _, h5⟩ := h
  injection e with e1 e2 e3
  obtain ⟨b, off, e, hB, hc⟩ := h5 (by omega)
  exact ⟨b, off, e1.trans e, hB, hc k _ (vs_at l k hk)⟩

set_option maxRecDepth 100000 in
set_option maxHeartbeats 800000 in
theorem much (a0 : Int) (v : Value) (l : List (List UInt8)) (w : World) (h : Strs w w.heap.size v l) (hb : a0 < 0 ∨ (¬ a0 < 0 ∧ 40 < a0) ∨ (¬ a0 < 0 ∧ ¬ 40 < a0 ∧ 60 < l.length)) :
    Calls Try.prog 6 #[.int .i64 a0, v] w (Gives (.bool true) w) := by
  obtain ⟨A, c, rfl, h2, h3⟩ := h.len
  have h3 : c ≤ 9223372036854775807 := h3
  clear h
  rcases hb with h | ⟨h, h'⟩ | ⟨h, h', h2⟩
  all_goals
    go_enter Try.func6, Try.ntmps6
    go_wp2_with fail
    refine (alive_any w).mono ?_
    rintro e w1 ⟨rfl, hb1⟩
    go_wp2_with fail
    go_ret
    exact ⟨rfl, hb1⟩

set_option maxRecDepth 100000 in
set_option maxHeartbeats 4000000 in
theorem main (room : Nat) (v : Value) (l : List (List UInt8)) (w : World) (h : Strs w w.heap.size v l) (hS : ∀ p ∈ l, p.length ≤ 140737488351232) (hr : room ≤ 40) (hl : l.length ≤ 60) :
    Calls Try.prog 6 #[.int .i64 room, v] w (Gives (.bool true) w) := by
  obtain ⟨A, c, rfl, h2, h3⟩ := h.len
  have h3 : c ≤ 9223372036854775807 := h3
  have H := Lib.hid h
  have hr' : (room : Int) ≤ 40 := by omega
  have hl' : (l.length : Int) ≤ 60 := by omega
  clear h
  go_enter Try.func6, Try.ntmps6
  go_wp2_with fail
  refine (alive_any w).mono ?_
  rintro e w1 ⟨rfl, hb1⟩
  have HB0 := Lib.hid hb1
  clear hb1
  go_wp2_with fail
  refine (new_dk room w1 (by omega) (by omega)).mono ?_
  rintro e w2 ⟨g, rfl, hd2, hb2⟩
  have HD2 : Hid (Dk w2 w1.heap.size g (4 * 0) (newD room)) := Lib.hid hd2
  have HB2 := Lib.hid hb2
  clear hd2 hb2
  have kc := bytes_const
  go_wp2_with fail
  go_loopw [31] (fun v wr => ∃ (i : Nat) (D : Dsk), v = .int .i64 i ∧ i ≤ l.length ∧ Hid (Dk wr w1.heap.size g (4 * i) D) ∧ Hid (Cd.Roomy D room (min i room)) ∧ Hid (∀ m, (getF D.now m).isSome = true → m ∈ l.take i) ∧ Hid (Below w1.heap.size w1 wr)) (fun v _ => l.length - (intOf v).toNat)
  case atStart => exact ⟨0, newD room, rfl, by omega, HD2, new_roomy (by omega), (fun m hm => by cases hm), HB2⟩
  case round =>
    obtain ⟨i, D, rfl, hi, hdk, hro, hnm, hbel⟩ := hrel
    by_cases hlt : i < l.length
    · have hlt' : (i : Int) < l.length := by omega
      obtain ⟨sb, off, hA, hsb, hcell⟩ := str_at ((H.out.below HB0.out).below (hbel.out.mono HB0.out.size)) hlt
      obtain ⟨s, hs⟩ : ∃ s, l[i] = s := ⟨_, rfl⟩
      have hsS : s.length ≤ 140737488351232 := hS s (hs ▸ List.getElem_mem hlt)
      rw [hs] at hcell
      have hssz : (ByteArray.mk s.toArray).size = s.length := rfl
      subst hA
      by_cases hlong : 256 < s.length
      · go_wp2_with fail
        go_ret
        exact ⟨rfl, HB0.out.trans (hbel.out.mono HB0.out.size)⟩
      · have hoff := hro.out.off
        have hl2 : (s.length : Int) ≤ 256 := by omega
        have C1 := count_dk w1.heap.size g (4 * i) D s wr hdk.out hoff (by omega)
        obtain ⟨n, hn⟩ : ∃ n, (pagesF D.now s).length = n := ⟨_, rfl⟩
        rw [hn] at C1
        have hn2 : n ≤ 40 := by
          have := count_without hro.out.once s
          have := hro.out.count
          omega
        have W1 := write_dk w1.heap.size g (4 * i) D s wr [120] n 1 #[.int .u8 120] (1, 2) hdk.out rfl rfl (by omega) (by simp) (by omega) (by omega)
        have C1 := Lib.hid C1
        have hz := Lib.hid hbel.out.size
        by_cases hroom : i < room
        · have hroom' : (i : Int) < room := by omega
          have hmin : min i room = i := by omega
          have R1 : (writeD D s ((pagesF D.now s).length : Nat) [120]).2 = 0 ∧ Cd.Roomy (writeD D s ((pagesF D.now s).length : Nat) [120]).1 room (i + 1) := (by have := hro.out; rw [hmin] at this; exact this : Cd.Roomy D room i).write hroom (by simp)
          have hk := fun m h => kept_by_write (D := D) (s := s) (b := [120]) (i := n) (m := m) (by rw [hro.out.fuse]; omega) h
          rw [hn] at R1
          generalize writeD D s (n : Int) [120] = R at R1 W1 hk
          obtain ⟨r1, R1⟩ := R1
          rw [r1] at W1
          have W1 := Lib.hid W1
          have R1 := Lib.hid R1
          have hk := Lib.hid hk
          clear hdk hro hn hmin hoff
          go_wp2_with fail
          refine C1.out.mono ?_
          rintro e w3 ⟨rfl, rfl⟩
          clear C1
          go_wp2_with fail
          refine W1.out.mono ?_
          rintro e w4 ⟨rfl, hd4, hb4⟩
          have hB4 := Lib.hid (hbel.out.trans hb4)
          have F4 := free_dk _ _ _ _ w4 hd4
          rw [R1.out.free] at F4
          have F4 := Lib.hid F4
          have hd4 := Lib.hid hd4
          clear W1 hb4 hbel
          have hmx : (room : Int) - ((i + 1 : Nat) : Int) = max ((room : Int) - i - 1) 0 := by omega
          go_wp2_with fail
          refine F4.out.mono ?_
          rintro e w5 ⟨rfl, hb5⟩
          have hd5 : Hid (Dk w5 w1.heap.size g (4 * (i + 1)) R.1) := hd4.out.below hb5
          have hB5 := Lib.hid (hB4.out.trans (hb5.mono hB4.out.size))
          clear hb5 hd4 F4
          go_wp2_with fail
          go_roundw
          case rel =>
            refine ⟨i + 1, R.1, by go_num, by omega, hd5, (by unfold Hid; rw [show min (i + 1) room = i + 1 by omega]; exact R1.out), fun m hm => ?_, hB5⟩
            rw [List.take_succ_eq_append_getElem hlt, hs]
            rcases hk.out m hm with h | h
            · rw [h]; simp
            · exact List.mem_append_left _ (hnm.out m h)
          case measure => simp [intOf]; omega
        · have hroom' : (room : Int) ≤ i := by omega
          have hmin : min i room = room := by omega
          have hro2 : Cd.Roomy D room room := by have := hro.out; rw [hmin] at this; exact this
          have R1 : writeD D s ((pagesF D.now s).length : Nat) [120] = (D, 7) := hro2.full (by simp)
          rw [hn] at R1
          rw [R1] at W1
          have W1 := Lib.hid W1
          have HR2 := Lib.hid hro2
          clear hdk hro hro2 hn hmin hoff R1
          go_wp2_with fail
          refine C1.out.mono ?_
          rintro e w3 ⟨rfl, rfl⟩
          clear C1
          go_wp2_with fail
          refine W1.out.mono ?_
          rintro e w4 ⟨rfl, hd4, hb4⟩
          have hB4 := Lib.hid (hbel.out.trans hb4)
          have F4 := free_dk _ _ _ _ w4 hd4
          rw [HR2.out.free] at F4
          have F4 := Lib.hid F4
          have hd4 := Lib.hid hd4
          clear W1 hb4 hbel
          have hmx : (room : Int) - (room : Int) = max ((room : Int) - i - 1) 0 := by omega
          go_wp2_with fail
          refine F4.out.mono ?_
          rintro e w5 ⟨rfl, hb5⟩
          have hd5 : Hid (Dk w5 w1.heap.size g (4 * (i + 1)) D) := hd4.out.below hb5
          have hB5 := Lib.hid (hB4.out.trans (hb5.mono hB4.out.size))
          clear hb5 hd4 F4
          go_wp2_with fail
          go_roundw
          case rel =>
            refine ⟨i + 1, D, by go_num, by omega, hd5, (by unfold Hid; rw [show min (i + 1) room = room by omega]; exact HR2.out), fun m hm => ?_, hB5⟩
            rw [List.take_succ_eq_append_getElem hlt]
            exact List.mem_append_left _ (hnm.out m hm)
          case measure => simp [intOf]; omega
    · have hlt' : (l.length : Int) ≤ i := by omega
      obtain rfl : i = l.length := by omega
      obtain ⟨w3, hw3⟩ : ∃ x, x = wr := ⟨_, rfl⟩
      subst hw3
      have hnm0 : Hid (∀ m, (getF D.now m).isSome = true → m ∈ l.drop 0) := fun m hm => by
        have := hnm.out m hm
        rw [List.take_length] at this
        exact this
      go_wp2_with fail
      go_loopw [66] (fun v wr => ∃ (j N k : Nat) (D : Dsk), v = .int .i64 j ∧ j ≤ l.length ∧ N ≤ 240 + 8 * j ∧ Hid (Dk wr w1.heap.size g N D) ∧ Hid (Cd.Roomy D room k) ∧ Hid (∀ m, (getF D.now m).isSome = true → m ∈ l.drop j) ∧ Hid (Below w1.heap.size w1 wr)) (fun v _ => l.length - (intOf v).toNat)
      case atStart => exact ⟨0, 4 * l.length, min l.length room, D, rfl, by omega, by omega, hdk, hro, hnm0, hbel⟩
      case round =>
        clear hdk hro hnm hnm0 hbel
        obtain ⟨j, N, k, D, rfl, hj, hN, hdk, hro, hnm, hbel⟩ := hrel
        by_cases hlt : j < l.length
        · have hlt2 : (j : Int) < l.length := by omega
          obtain ⟨sb, off, hA, hsb, hcell⟩ := str_at ((H.out.below HB0.out).below (hbel.out.mono HB0.out.size)) hlt
          obtain ⟨s, hs⟩ : ∃ s, l[j] = s := ⟨_, rfl⟩
          have hsS : s.length ≤ 140737488355328 := by have := hS s (hs ▸ List.getElem_mem hlt); omega
          rw [hs] at hcell
          subst hA
          have hoff := hro.out.off
          have C1 := count_dk w1.heap.size g N D s wr hdk.out hoff hsS
          obtain ⟨n, hn⟩ : ∃ n, (pagesF D.now s).length = n := ⟨_, rfl⟩
          rw [hn] at C1
          have C1 := Lib.hid C1
          have hn2 : n ≤ k := by
            have := count_without hro.out.once s
            have := hro.out.count
            omega
          have hk2 : k ≤ room := hdk.out.counts hro.out.count hro.out.room
          have F1 := free_dk w1.heap.size g N D wr hdk.out
          rw [hro.out.free] at F1
          have F1 := Lib.hid F1
          go_wp2_with fail
          refine C1.out.mono ?_
          rintro e w4 ⟨rfl, rfl⟩
          clear C1
          go_wp2_with fail
          refine F1.out.mono ?_
          rintro e w5 ⟨rfl, hb5⟩
          have hd5 := Lib.hid (hdk.out.below hb5)
          have hB5 := Lib.hid (hbel.out.trans (hb5.mono hbel.out.size))
          have A5 := Lib.hid (has_dk w1.heap.size g N D s w5 hd5.out hoff hsS)
          clear F1 hdk hbel hb5
          cases hhas : (getF D.now s).isSome
          · rw [hhas] at A5
            go_wp2_with fail
            refine A5.out.mono ?_
            rintro e w6 ⟨rfl, rfl⟩
            go_wp2_with fail
            go_roundw
            case rel =>
              refine ⟨j + 1, N, k, D, by go_num, by omega, by omega, hd5, hro, fun m hm => ?_, hB5⟩
              have := hnm.out m hm
              rw [List.drop_eq_getElem_cons hlt, hs] at this
              rcases List.mem_cons.1 this with h | h
              · rw [h, hhas] at hm; cases hm
              · exact h
            case measure => simp [intOf]; omega
          · rw [hhas] at A5
            obtain ⟨h, hh⟩ : ∃ h, n / 2 = h := ⟨_, rfl⟩
            obtain ⟨q1, q2, q3, q4, _⟩ := hro.out.cut hhas h (by omega)
            obtain ⟨q5, q6, _⟩ := q4.remove q2
            have hkb := fun m hm => kept_by_both (m := m) hro.out hhas (j := h) (by omega) hm
            have K1 := cut_dk w1.heap.size g N D s w5 h hd5.out hsS (by omega) (by omega)
            rw [q1] at K1
            rw [q3, hn] at q6
            rw [hn] at q4
            generalize (cutD D s (h : Int)).1 = D1 at *
            have f1 := q4.free
            have f2 := q6.free
            generalize hD2 : removeD D1 s = R2 at *
            have K1 := Lib.hid K1
            have HQ6 := Lib.hid q6
            have HKB := Lib.hid hkb
            have HHN := Lib.hid hhas
            have hdv : (n : Int).tdiv 2 = h := by rw [Int.tdiv_eq_ediv_of_nonneg (by omega)]; omega
            have hdv2 : (n : Int) / 2 = h := by omega
            have e1 : (room : Int) - ((k - (n - h) : Nat) : Int) = (room : Int) - k + n - h := by omega
            have e2 : (room : Int) - ((k - (n - h) - h : Nat) : Int) = (room : Int) - k + n := by omega
            rw [e1] at f1
            rw [e2] at f2
            clear q1 q2 q3 q4 q6 hkb hro hd5 hhas e1 e2
            go_wp2_with fail
            refine A5.out.mono ?_
            rintro e w6 ⟨rfl, rfl⟩
            go_wp2_with fail
            refine K1.out.mono ?_
            rintro e w7 ⟨rfl, hd7, hb7⟩
            have hB7 := Lib.hid (hB5.out.trans hb7)
            have F7 := free_dk w1.heap.size g _ D1 w7 hd7
            rw [f1] at F7
            have F7 := Lib.hid F7
            have hd7 := Lib.hid hd7
            clear K1 hb7 hB5
            go_wp2_with fail
            refine F7.out.mono ?_
            rintro e w8 ⟨rfl, hb8⟩
            have hB8 := Lib.hid (hB7.out.trans (hb8.mono hB7.out.size))
            have M8 := remove_dk w1.heap.size g _ D1 s w8 (hd7.out.below hb8) hsS (by omega)
            rw [hD2, q5] at M8
            have M8 := Lib.hid M8
            clear F7 hb8 hd7 hB7
            go_wp2_with fail
            refine M8.out.mono ?_
            rintro e w9 ⟨rfl, hd9, hb9⟩
            have hB9 := Lib.hid (hB8.out.trans hb9)
            have F9 := free_dk w1.heap.size g _ R2.1 w9 hd9
            rw [f2] at F9
            have F9 := Lib.hid F9
            have hd9 := Lib.hid hd9
            clear M8 hb9 hB8
            go_wp2_with fail
            refine F9.out.mono ?_
            rintro e w10 ⟨rfl, hb10⟩
            have hd10 := Lib.hid (hd9.out.below hb10)
            have hB10 := Lib.hid (hB9.out.trans (hb10.mono hB9.out.size))
            clear F9 hb10 hB9
            go_wp2_with fail
            go_roundw
            case rel =>
              refine ⟨j + 1, _, _, R2.1, by go_num, by omega, ?hn8, hd10, HQ6, fun m hm => ?_, hB10⟩
              · omega
              · obtain ⟨h1, h2⟩ := HKB.out m hm
                have := hnm.out m h2
                rw [List.drop_eq_getElem_cons hlt, hs] at this
                rcases List.mem_cons.1 this with h | h
                · exact absurd h h1
                · exact h
            case measure => simp [intOf]; omega
        · have hlt2 : (l.length : Int) ≤ j := by omega
          have hk0 : k = 0 := none_left hro.out (fun m hm => by
            have := hnm.out m hm
            rw [List.drop_of_length_le (by omega)] at this
            exact this)
          have F1 := free_dk w1.heap.size g N D wr hdk.out
          rw [hro.out.free, hk0] at F1
          have F1 := Lib.hid F1
          go_wp2_with fail
          refine F1.out.mono ?_
          rintro e w5 ⟨rfl, hb5⟩
          have hB5 := Lib.hid (HB0.out.trans ((hbel.out.trans (hb5.mono hbel.out.size)).mono HB0.out.size))
          clear hb5
          go_wp2_with fail
          go_ret
          exact ⟨rfl, hB5.out⟩

theorem walk (a0 : Int) (v : Value) (l : List (List UInt8)) (w : World) (w0 : (Lit.int .i64 a0).wf = true) (h : Strs w w.heap.size v l ∧ ∀ p ∈ l, p.length ≤ 140737488351232) :
    Calls Try.prog 6 #[.int .i64 a0, v] w (Gives (.bool true) w) := by
  have b0 := bounds_i64 w0
  by_cases hb : a0 < 0 ∨ (¬ a0 < 0 ∧ 40 < a0) ∨ (¬ a0 < 0 ∧ ¬ 40 < a0 ∧ 60 < l.length)
  · exact much a0 v l w h.1 hb
  · obtain ⟨p, rfl⟩ := Int.eq_ofNat_of_zero_le (a := a0) (by omega)
    exact main p v l w h.1 h.2 (by omega) (by omega)

end Go.Proofs.Ythbpkdmniaapaaa.DiskRoom
