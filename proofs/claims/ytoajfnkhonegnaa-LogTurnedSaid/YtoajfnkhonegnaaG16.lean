/-
  LogTurned answers true. Conditions: none.
-/
import Derived.Test.YtoajfnkhonegnaaG10
import Derived.Test.YtoajfnkhonegnaaG8
import Derived.Test.YtoajfnkhonegnaaG6
import Derived.Test.YtoajfnkhonegnaaG7
import Derived.Test.YtoajfnkhonegnaaG13
/-
  A page of a log that was turned: what the pages tell. Conditions: none.
-/
namespace Go.Proofs.Ytoajfnkhonegnaa.Cd

/-- A byte of a page, behind the two that tell how many follow. -/
theorem turn_told {q : List UInt8} {o : Nat} (y : UInt8) (_hq : q.length = 512) : toldP (q.set (2 + o) y) = toldP q := by
  unfold toldP
  have h : ∀ i, i < 2 → (q.set (2 + o) y).getD i 0 = q.getD i 0 := fun i hi => by
    rw [List.getD_eq_getElem?_getD, List.getD_eq_getElem?_getD, List.getElem?_set_ne (by omega)]
  rw [h 0 (by omega), h 1 (by omega)]
theorem turn_part {q : List UInt8} {o : Nat} (y : UInt8) (hq : q.length = 512) : partP (q.set (2 + o) y) = (partP q).set o y := by
  unfold partP
  rw [turn_told y hq, List.drop_set, if_neg (by omega), List.take_set, show 2 + o - 2 = o by omega]

theorem part_set (s : List UInt8) (a i : Nat) (y : UInt8) : part (s.set a y) i = if i = a / 510 then (part s i).set (a % 510) y else part s i := by
  unfold part
  rw [List.drop_set]
  split
  · rename_i h
    rw [if_neg (by omega)]
  · rename_i h
    rw [List.take_set]
    split
    · rename_i e
      rw [show a - 510 * i = a % 510 by omega]
    · rename_i e
      exact List.set_eq_of_length_le (by rw [List.length_take]; omega)

/-- The pages of s, with the byte at a turned. -/
def turnL (s : List UInt8) (a : Nat) (y : UInt8) : List (List UInt8) := (pagesL s).set (a / 510) (((pagesL s).getD (a / 510) []).set (2 + a % 510) y)
theorem turnL_len (s : List UInt8) (a : Nat) (y : UInt8) : (turnL s a y).length = needP s.length := by unfold turnL; rw [List.length_set, pagesL_len]
theorem pagesL_at {s : List UInt8} {i : Nat} {p : List UInt8} (h : (pagesL s)[i]? = some p) : p.length = 512 ∧ partP p = part s i := by
  unfold pagesL at h
  rw [List.getElem?_map] at h
  obtain ⟨k, hk, rfl⟩ := Option.map_eq_some_iff.1 h
  obtain ⟨h1, h2⟩ := List.getElem?_eq_some_iff.1 hk
  rw [List.getElem_range] at h2
  subst h2
  exact ⟨pad_len (by rw [pageB_len]; exact Nat.add_le_add_right (part_le _ _) 2), part_pad (part_le _ _)⟩
theorem turnL_at {s : List UInt8} {a i : Nat} {y : UInt8} {p : List UInt8} (h : (turnL s a y)[i]? = some p) : p.length = 512 ∧ partP p = part (s.set a y) i := by
  unfold turnL at h
  rw [part_set]
  by_cases e : i = a / 510
  · subst e
    have hl := (List.getElem?_eq_some_iff.1 h).1
    rw [List.length_set] at hl
    rw [List.getElem?_set_self hl] at h
    injection h with h
    subst h
    have hq := List.getElem?_eq_getElem hl
    have hg : (pagesL s).getD (a / 510) [] = (pagesL s)[a / 510] := by rw [List.getD_eq_getElem?_getD, hq]; rfl
    rw [hg]
    obtain ⟨h1, h2⟩ := pagesL_at hq
    rw [if_pos rfl, turn_part y h1, h2]
    exact ⟨by rw [List.length_set]; exact h1, rfl⟩
  · rw [List.getElem?_set_ne (by omega)] at h
    obtain ⟨h1, h2⟩ := pagesL_at h
    rw [if_neg e]
    exact ⟨h1, h2⟩
/-- What they tell. -/
theorem logB_turn (s : List UInt8) (a : Nat) (y : UInt8) : logB (turnL s a y) = s.set a y := by
  have := logB_of (s.set a y) (turnL s a y) 0 (fun i p hp => by rw [Nat.zero_add]; exact (turnL_at hp).2) (by rw [turnL_len, List.length_set]; unfold needP; omega) (by omega)
  simpa using this
/-- Part by part. -/
theorem part_next (s : List UInt8) (i : Nat) : s.take (510 * i) ++ part s i = s.take (510 * (i + 1)) := by
  unfold part
  rw [show 510 * (i + 1) = 510 * i + 510 by omega, List.take_add]

/-- The page is written: nothing else turns. -/
theorem Roomy.turned {D : Dsk} {room k : Nat} (h : Roomy D room k) {n s : List UInt8} {a : Nat} {y : UInt8} (hp : pagesF D.now n = pagesL s) (_ha : a < s.length) {q : List UInt8} (hq : (pagesL s)[a / 510]? = some q) :
    (writeD D n ((a / 510 : Nat) : Int) (q.set (2 + a % 510) y)).2 = 0 ∧ Roomy (writeD D n ((a / 510 : Nat) : Int) (q.set (2 + a % 510) y)).1 room k ∧ pagesF (writeD D n ((a / 510 : Nat) : Int) (q.set (2 + a % 510) y)).1.now n = turnL s a y := by
  have hl := (List.getElem?_eq_some_iff.1 hq).1
  have hql := (pagesL_at hq).1
  have hlp : a / 510 < (pagesF D.now n).length := by rw [hp]; exact hl
  have hsl : (q.set (2 + a % 510) y).length = 512 := by rw [List.length_set]; exact hql
  have hpd : pad (q.set (2 + a % 510) y) = q.set (2 + a % 510) y := by unfold pad; rw [hsl]; simp
  obtain ⟨h1, h2, h3, _⟩ := h.put (n := n) (b := q.set (2 + a % 510) y) (i := a / 510) (by omega) (by omega) (by omega)
  rw [if_neg (by omega), Nat.add_zero] at h2
  refine ⟨h1, h2, ?_⟩
  rw [h3 n, if_pos rfl, setP_in hlp, hp, hpd]
  unfold turnL
  rw [List.getD_eq_getElem?_getD, hq]
  rfl

/-- The records that end ahead of the byte are ahead of it as they were. -/
theorem turn_front {l : List (List UInt8)} {k a : Nat} {y : UInt8} (hk : (flat (l.take k)).length ≤ a) : ∃ rest, (flat l).set a y = flat (l.take k) ++ rest := by
  have e : flat l = flat (l.take k) ++ flat (l.drop k) := by rw [← flat_append, List.take_append_drop]
  rw [e, List.set_append, if_neg (by omega)]
  exact ⟨_, rfl⟩

end Go.Proofs.Ytoajfnkhonegnaa.Cd

/-
  The reference's Reader: Fail, Good, End, Uint, Int, In, Take, Text. Conditions: none.
-/
namespace Go.Proofs.Ytoajfnkhonegnaa.Cd
open Go.RowKit

/-- Block g is the reference's reader that has the bytes 'bs' left. -/
def Rf (w : World) (g : Nat) (bs : List UInt8) (bad : Bool) : Prop := w.heap[g]? = some (.cells #[.string ⟨bs.toArray⟩, .bool bad] 88 (0, 0))

section
variable {w w' : World} {g : Nat} {bs : List UInt8} {bad : Bool}
theorem Rf.lt (h : Rf w g bs bad) : g < w.heap.size := by
  rcases Nat.lt_or_ge g w.heap.size with hlt | hge
  · exact hlt
  · unfold Rf at h; rw [Array.getElem?_eq_none hge] at h; cases h
theorem Rf.cell0 (h : Rf w g bs bad) : w.cell? ⟨g, 0, none⟩ = some (.string ⟨bs.toArray⟩) := cell_of_row w g 0 _ _ (0, 0) h
theorem Rf.cell1 (h : Rf w g bs bad) : w.cell? ⟨g, 1, none⟩ = some (.bool bad) := cell_of_row w g 1 _ _ (0, 0) h
theorem Rf.frozen (h : Rf w g bs bad) (i : Nat) : w.frozen? ⟨g, i, none⟩ = false := by
  unfold Rf at h
  simp [World.frozen?, h]
theorem Rf.drew (h : Rf w g bs bad) : Rf w.drew g bs bad := h
theorem Rf.set0 (h : Rf w g bs bad) {v : Value} (cs : List UInt8) (hv : v = .string ⟨cs.toArray⟩) : Rf (w.setCell ⟨g, 0, none⟩ v) g cs bad := by
  subst hv
  unfold Rf at h ⊢
  simp [World.setCell, Array.getElem?_modify, h]
theorem Rf.set1 (h : Rf w g bs bad) (b : Bool) : Rf (w.setCell ⟨g, 1, none⟩ (.bool b)) g bs b := by
  unfold Rf at h ⊢
  simp [World.setCell, Array.getElem?_modify, h]
theorem Rf.below {B : Nat} (h : Rf w g bs bad) (hb : Below B w w') (hg : g < B) : Rf w' g bs bad := (hb.block g hg).trans h
theorem Rf.new (h : Rf w g bs bad) (o : Obj) : Rf (w.alloc o) g bs bad :=
  h.below ((Below.refl w.heap.size w).alloc (Nat.le_refl _) o) h.lt
/-- Another block's writes leave it. -/
theorem Rf.far {g' : Nat} (h : Rf w g bs bad) (hg : w.grownBy w' (some g')) (hne : g ≠ g') : Rf w' g bs bad := (hg.block g h.lt (fun e => hne (by injection e))).trans h
theorem Rd.far {g' : Nat} (h : Rd w g bs bad) (hg : w.grownBy w' (some g')) (hne : g ≠ g') : Rd w' g bs bad := (hg.block g h.lt (fun e => hne (by injection e))).trans h
end

def LeftF (w : World) (g : Nat) (bs : List UInt8) (bad : Bool) (w' : World) : Prop := Rf w' g bs bad ∧ w.grownBy w' (some g)
def AnsF (v : Value) (w : World) (g : Nat) (bs : List UInt8) (bad : Bool) (e : Ending) (w' : World) : Prop := e = .returned v ∧ LeftF w g bs bad w'
theorem leftF_trans {w w1 w2 : World} {g : Nat} {a b : List UInt8} {x y : Bool} (h : LeftF w g a x w1) (k : LeftF w1 g b y w2) : LeftF w g b y w2 := ⟨k.1, grown_trans h.2 k.2⟩

set_option maxHeartbeats 400000 in
theorem ffail_any (g : Nat) (bs : List UInt8) (bad : Bool) (w : World) (hr : Rf w g bs bad) :
    Calls Try.prog 67 #[.pointer (some ⟨g, 0, none⟩)] w fun e w' => e = .returned (.tuple #[]) ∧ LeftF w g [] true w' := by
  have hc0 := hr.cell0
  have hc1 := hr.cell1
  have hf0 := hr.frozen 0
  have hf1 := hr.frozen 1
  go_enter Try.func67, Try.ntmps67
  go_wp2_with fail
  go_end0
  exact ⟨rfl, (hr.set1 true).set0 [] rfl, grown_trans (grown_set _ _ _ _) (grown_set _ _ _ _)⟩

set_option maxHeartbeats 400000 in
theorem fgood_any (g : Nat) (bs : List UInt8) (bad : Bool) (w : World) (hr : Rf w g bs bad) :
    Calls Try.prog 48 #[.pointer (some ⟨g, 0, none⟩)] w fun e w' => e = .returned (.bool !bad) ∧ w = w' := by
  have hc := hr.cell1
  go_enter Try.func48, Try.ntmps48
  go_wp2_with fail
  go_ret
  exact ⟨rfl, rfl⟩

theorem at8_list (l : List UInt8) (k : Nat) (h : k < (ByteArray.mk l.toArray).size) : (ByteArray.mk l.toArray)[k].toNat = at8 l k := at8_of ⟨l.toArray⟩ k h

theorem stop_at (l : List UInt8) (k : Nat) (h : k < stop l) : 128 ≤ at8 l k := stop_lo l k h

/-- What the bytes from j on say, shifted down. -/
theorem val_split (l : List UInt8) (j m e : Nat) (h : val l (e + 1) = val l (j + 1) + m * 128 ^ (j + 1)) : val l (e + 1) = val l j + (m * 128 + at8 l j % 128) * 128 ^ j := by
  rw [h, val, Nat.pow_succ, Nat.add_mul, Nat.mul_assoc m 128, Nat.mul_comm 128 (128 ^ j)]
  omega

theorem part_lt (l : List UInt8) (j x e : Nat) (hb : val l (e + 1) < 18446744073709551616) (h : val l (e + 1) = val l j + x * 128 ^ j) : x < 18446744073709551616 := by
  have h1 : x * 1 ≤ x * 128 ^ j := Nat.mul_le_mul_left _ (Nat.pow_pos (by omega))
  omega

set_option maxRecDepth 100000 in
set_option maxHeartbeats 1000000 in
theorem fuint_any (g : Nat) (bs : List UInt8) (bad : Bool) (w : World) (hr : Rf w g bs bad) (hbb : Sane bad bs) (hs : bs.length ≤ 140737488355328) :
    Calls Try.prog 66 #[.pointer (some ⟨g, 0, none⟩)] w (AnsF (.int .u64 (nv bs : Nat)) w g (uB bs) (uX bs)) := by
  have HR := Lib.hid hr
  have HBB := Lib.hid hbb
  have hc0 := hr.cell0
  have hf0 := hr.frozen 0
  have hsl := stop_le bs
  clear hr hbb
  go_enter Try.func66, Try.ntmps66
  go_wp2
  go_loop [3] (fun i => ∃ k : Nat, i = .int .i64 k ∧ k ≤ stop bs) (fun i => stop bs - (intOf i).toNat)
  case atStart => exact ⟨0, rfl, by omega⟩
  case round =>
    obtain ⟨k, rfl, hk⟩ := hrel
    by_cases hlt : k < stop bs
    · have hkl : k < bs.length := by omega
      have h8 := stop_at bs k hlt
      rw [← at8_list bs k hkl] at h8
      obtain ⟨c, hc⟩ : ∃ c, (ByteArray.mk bs.toArray)[k]'hkl = c := ⟨_, rfl⟩
      rw [hc] at h8
      go_wp2_with fail
      go_round
      case rel => exact ⟨k + 1, by go_num, by omega⟩
      case measure => simp [intOf]; omega
    · have hkk : k = stop bs := by omega
      subst hkk
      clear hlt hk
      have HSL := Lib.hid hsl
      by_cases hend : bs.length ≤ stop bs
      · have hbad : Hid (Bad bs) := .inl hend
        have hnl : ¬ stop bs < bs.length := by omega
        go_wp2_with (go_at_call 67; refine (ffail_any g bs bad _ HR.out).mono ?_; rintro e w1 ⟨rfl, hl⟩)
        go_ret
        rw [show uB bs = [] from if_pos hbad.out, show uX bs = true from decide_eq_true hbad.out, nv_bad hbad.out]
        exact ⟨rfl, hl⟩
      · have hkl : stop bs < bs.length := by omega
        have h8 := stop_hi bs hkl
        rw [← at8_list bs _ hkl] at h8
        obtain ⟨c, hc⟩ : ∃ c, (ByteArray.mk bs.toArray)[stop bs]'hkl = c := ⟨_, rfl⟩
        have hat : Hid (c.toNat = at8 bs (stop bs)) := by unfold Hid; rw [← at8_list bs _ hkl, hc]
        rw [hc] at h8
        have hbadc : bad = false := by
          cases bad with
          | false => rfl
          | true => have := HBB.out rfl; rw [this] at hkl; simp at hkl
        subst hbadc
        by_cases h9 : 9 < stop bs
        · have hbad : Hid (Bad bs) := .inr (.inl h9)
          go_wp2_with (go_at_call 67; refine (ffail_any g bs _ _ HR.out).mono ?_; rintro e w1 ⟨rfl, hl⟩)
          go_ret
          rw [show uB bs = [] from if_pos hbad.out, show uX bs = true from decide_eq_true hbad.out, nv_bad hbad.out]
          exact ⟨rfl, hl⟩
        · by_cases hz : 0 < stop bs ∧ c.toNat = 0
          · have hbad : Hid (Bad bs) := .inr (.inr (.inl ⟨hz.1, by rw [← hat.out]; exact hz.2⟩))
            have h0 := hz.1
            have hq : ((c.toNat : Int) == 0) = true := by simp; omega
            clear hz
            go_wp2_with (go_at_call 67; refine (ffail_any g bs _ _ HR.out).mono ?_; rintro e w1 ⟨rfl, hl⟩)
            go_ret
            rw [show uB bs = [] from if_pos hbad.out, show uX bs = true from decide_eq_true hbad.out, nv_bad hbad.out]
            exact ⟨rfl, hl⟩
          · by_cases hn9 : stop bs = 9 ∧ 1 < c.toNat
            · obtain ⟨e9, hc1⟩ := hn9
              have hbad : Hid (Bad bs) := .inr (.inr (.inr ⟨e9, by have := hat.out; rw [e9] at this; omega⟩))
              have hq : ((c.toNat : Int) == 0) = false := by simp; omega
              have hE : ((stop bs : Int) == 9) = true := by simp; omega
              have h0 : 0 < stop bs := by omega
              have h9l : 9 < bs.length := by omega
              have hc9 : (ByteArray.mk bs.toArray)[9]'h9l = c := by rw [← hc]; congr 1; exact e9.symm
              clear e9 hz
              go_wp2_with (go_at_call 67; refine (ffail_any g bs _ _ HR.out).mono ?_; rintro e w1 ⟨rfl, hl⟩)
              go_ret
              rw [show uB bs = [] from if_pos hbad.out, show uX bs = true from decide_eq_true hbad.out, nv_bad hbad.out]
              exact ⟨rfl, hl⟩
            · have hgood : ¬ Bad bs := by
                have := hat.out
                unfold Bad
                rintro (h | h | ⟨h, h'⟩ | ⟨h, h'⟩)
                · omega
                · omega
                · exact hz ⟨h, by omega⟩
                · exact hn9 ⟨h, by rw [← h] at h'; omega⟩
              have hval := val_u64 hgood
              have HV := Lib.hid hval
              have hx : Hid (uB bs = bs.drop (stop bs + 1) ∧ uX bs = false ∧ nv bs = val bs (stop bs + 1)) := ⟨by unfold uB; rw [if_neg hgood, ns_good hgood], decide_eq_false hgood, nv_good hgood⟩
              clear hgood hval
              have HAT := Lib.hid hat.out
              have HC := Lib.hid hc
              have hlen : (ByteArray.mk bs.toArray).size = bs.length := rfl
              have hways : (¬ 0 < stop bs ∧ ((stop bs : Int) == 9) = false) ∨ (0 < stop bs ∧ ((c.toNat : Int) == 0) = false ∧ ((stop bs : Int) == 9) = false) ∨
                  (0 < stop bs ∧ ((c.toNat : Int) == 0) = false ∧ ((stop bs : Int) == 9) = true ∧ ¬ 1 < c.toNat ∧ ∃ h9l : 9 < bs.length, (ByteArray.mk bs.toArray)[9]'h9l = c) := by
                by_cases a0 : 0 < stop bs
                · have hcz : ((c.toNat : Int) == 0) = false := by simp; omega
                  by_cases a9 : stop bs = 9
                  · exact .inr (.inr ⟨a0, hcz, by simp; omega, by omega, by omega, by rw [← hc]; congr 1; exact a9.symm⟩)
                  · exact .inr (.inl ⟨a0, hcz, by simp; omega⟩)
                · exact .inl ⟨a0, by simp; omega⟩
              rcases hways with ⟨hs0, hE⟩ | ⟨hs0, hq, hE⟩ | ⟨hs0, hq, hE, hc1, h9l, hc9⟩
              all_goals
                clear hz hn9
                go_wp2_with fail
                go_loop [4, 5] (fun n i => ∃ (j m : Nat), i = .int .i64 ((j : Int) - 1) ∧ n = .int .u64 m ∧ j ≤ stop bs + 1 ∧ Hid (val bs (stop bs + 1) = val bs j + m * 128 ^ j)) (fun _ i => (intOf i + 1).toNat)
                case atStart => exact ⟨stop bs + 1, 0, congrArg (Value.int .i64) (by omega), rfl, by omega, by unfold Hid; omega⟩
                case round =>
                  obtain ⟨j, m, rfl, rfl, hj, hv⟩ := hrel
                  cases j with
                  | succ j =>
                    have hjl : j < bs.length := by omega
                    obtain ⟨d, hd⟩ : ∃ d, (ByteArray.mk bs.toArray)[j]'hjl = d := ⟨_, rfl⟩
                    have hdat : Hid (d.toNat = at8 bs j) := by unfold Hid; rw [← at8_list bs _ hjl, hd]
                    have hnew : Hid (val bs (stop bs + 1) = val bs j + (m * 128 + d.toNat % 128) * 128 ^ j) := by
                      unfold Hid
                      rw [hdat.out]
                      exact val_split bs j m (stop bs) hv.out
                    have hlt64 : m * 128 + d.toNat % 128 < 18446744073709551616 := part_lt bs j _ (stop bs) HV.out hnew.out
                    have hd8 := d.toNat_lt
                    rw [show ((j + 1 : Nat) : Int) - 1 = (j : Int) by omega]
                    clear hv
                    go_wp2_with fail
                    go_round
                    case rel => exact ⟨j, m * 128 + d.toNat % 128, rfl, by go_num, by omega, hnew⟩
                    case measure => simp [intOf]
                  | zero =>
                    have hm0 : Hid (nv bs = m) := by
                      have h1 := hv.out
                      have h2 := hx.out.2.2
                      rw [val, Nat.pow_zero, Nat.mul_one, Nat.zero_add] at h1
                      rw [← h2] at h1
                      exact h1
                    go_wp2_with fail
                    go_ret
                    obtain ⟨x1, x2, x3⟩ := hx.out
                    rw [x1, x2, hm0.out]
                    refine ⟨rfl, HR.out.set0 _ ?_, grown_set _ _ _ _⟩
                    rw [extract_tail _ _ _ rfl]

end Go.Proofs.Ytoajfnkhonegnaa.Cd

/-
  The reference's Reader: Int, In, Take, Text. Conditions: none.
-/
namespace Go.Proofs.Ytoajfnkhonegnaa.Cd
open Go.RowKit

set_option maxHeartbeats 400000 in
theorem ftake_any (g : Nat) (n : Int) (bs : List UInt8) (bad : Bool) (w : World) (hr : Rf w g bs bad) (_hs : bs.length ≤ 140737488355328) :
    Calls Try.prog 68 #[.pointer (some ⟨g, 0, none⟩), .int .i64 n] w (AnsF (.string ⟨(tkV bad n bs).toArray⟩) w g (tkB bad n bs) (tkX bad n bs)) := by
  have HR := Lib.hid hr
  have hc0 := hr.cell0
  have hc1 := hr.cell1
  have hf0 := hr.frozen 0
  have hsz : (ByteArray.mk bs.toArray).size = bs.length := rfl
  clear hr
  by_cases hbad : TkBad bad n bs
  · have hx : Hid (tkB bad n bs = [] ∧ tkX bad n bs = true ∧ tkV bad n bs = []) := ⟨if_pos hbad, decide_eq_true hbad, if_pos hbad⟩
    rcases (by rcases hbad with h | h | h; (by_cases h0 : n < 0; exact .inl h0; by_cases h1 : (bs.length : Int) < n; exact .inr (.inl ⟨h0, h1⟩); exact .inr (.inr ⟨h0, h1, h⟩)); exact .inl h; (by_cases h0 : n < 0; exact .inl h0; exact .inr (.inl ⟨h0, h⟩)) : n < 0 ∨ (¬ n < 0 ∧ (bs.length : Int) < n) ∨ (¬ n < 0 ∧ ¬ (bs.length : Int) < n ∧ bad = true)) with h0 | ⟨h0, h1⟩ | ⟨h0, h1, rfl⟩
    all_goals
      clear hbad
      go_enter Try.func68, Try.ntmps68
      go_wp2_with (go_at_call 67; refine (ffail_any g bs _ _ HR.out).mono ?_; rintro e w1 ⟨rfl, hl⟩)
      go_ret
      obtain ⟨h1, h2, h3⟩ := hx.out
      rw [h1, h2, h3]
      exact ⟨rfl, hl⟩
  · have hx : Hid (tkB bad n bs = bs.drop n.toNat ∧ tkX bad n bs = false ∧ tkV bad n bs = bs.take n.toNat) := ⟨if_neg hbad, decide_eq_false hbad, if_neg hbad⟩
    have h0 : ¬ n < 0 := fun h => hbad (.inr (.inl h))
    have h1 : ¬ (bs.length : Int) < n := fun h => hbad (.inr (.inr h))
    have hbf : bad = false := by
      cases bad with
      | false => rfl
      | true => exact absurd (.inl rfl) hbad
    clear hbad
    subst hbf
    obtain ⟨k, rfl⟩ := Int.eq_ofNat_of_zero_le (by omega : 0 ≤ n)
    have h2 : k ≤ bs.length := by omega
    go_enter Try.func68, Try.ntmps68
    go_wp2_with fail
    go_ret
    obtain ⟨h1, h2, h3⟩ := hx.out
    rw [h1, h2, h3, Int.toNat_natCast]
    refine ⟨?_, HR.out.set0 _ ?_, grown_set _ _ _ _⟩
    · rw [← extract_head]; rfl
    · rw [extract_tail _ _ _ rfl]

theorem tx_is_tk {most : Int} {bs : List UInt8} (hb : ¬ Bad bs) (h0 : ¬ most < 0) (h1 : ¬ most < (nv bs : Nat)) :
    txB most bs = tkB false (nv bs : Nat) (uB bs) ∧ txX most bs = tkX false (nv bs : Nat) (uB bs) ∧ txV most bs = tkV false (nv bs : Nat) (uB bs) := by
  have e : uB bs = bs.drop (ns bs) := if_neg hb
  have hiff : TxBad most bs ↔ TkBad false (nv bs : Nat) (uB bs) := by
    unfold TxBad TkBad
    rw [e]
    simp only [Bool.false_eq_true, false_or]
    constructor
    · rintro (h | h | h | h)
      · exact absurd h hb
      · exact absurd h h0
      · exact absurd h h1
      · exact .inr (by omega)
    · rintro (h | h)
      · omega
      · exact .inr (.inr (.inr (by omega)))
  unfold txB txX txV tkB tkX tkV
  by_cases hk : TkBad false (nv bs : Nat) (uB bs)
  · rw [if_pos hk, if_pos hk, if_pos (hiff.2 hk), if_pos (hiff.2 hk), decide_eq_true hk, decide_eq_true (hiff.2 hk)]
    exact ⟨rfl, rfl, rfl⟩
  · have hk2 := fun h => hk (hiff.1 h)
    rw [if_neg hk, if_neg hk, if_neg hk2, if_neg hk2, decide_eq_false hk, decide_eq_false hk2, e, Int.toNat_natCast]
    exact ⟨rfl, rfl, rfl⟩

set_option maxRecDepth 100000 in
set_option maxHeartbeats 400000 in
theorem ftext_any (g : Nat) (most : Int) (bs : List UInt8) (bad : Bool) (w : World) (hr : Rf w g bs bad) (hbb : Sane bad bs) (hs : bs.length ≤ 140737488355328) (hm : most ≤ 9223372036854775807) :
    Calls Try.prog 47 #[.pointer (some ⟨g, 0, none⟩), .int .i64 most] w (AnsF (.string ⟨(txV most bs).toArray⟩) w g (txB most bs) (txX most bs)) := by
  have hu := Lib.hid (fuint_any g bs bad w hr hbb hs)
  clear hr hbb
  have hlen := uB_len bs
  have hn := nv_u64 bs
  by_cases ho : Bad bs ∨ most < 0 ∨ most < (nv bs : Nat)
  · have ht : TxBad most bs := by
      rcases ho with h | h | h
      · exact .inl h
      · exact .inr (.inl h)
      · exact .inr (.inr (.inl h))
    have hx : Hid (txB most bs = [] ∧ txX most bs = true ∧ txV most bs = []) := ⟨if_pos ht, decide_eq_true ht, if_pos ht⟩
    have hways : uX bs = true ∨ (uX bs = false ∧ most < 0) ∨ (uX bs = false ∧ ¬ most < 0 ∧ most < (nv bs : Nat)) := by
      by_cases hb : Bad bs
      · exact .inl (decide_eq_true hb)
      · have hx2 : uX bs = false := decide_eq_false hb
        by_cases h0 : most < 0
        · exact .inr (.inl ⟨hx2, h0⟩)
        · refine .inr (.inr ⟨hx2, h0, ?_⟩)
          rcases ho with h | h | h
          · exact absurd h hb
          · exact absurd h h0
          · exact h
    clear ht ho
    generalize nv bs = n at hu hn hways
    generalize uX bs = x at hu hways
    generalize uB bs = c at hu hlen
    rcases hways with hw | ⟨hw, h0⟩ | ⟨hw, h0, h1⟩
    all_goals
      subst hw
      go_enter Try.func47, Try.ntmps47
      go_wp2_with (first | (go_at_call 66; refine hu.out.mono ?_; rintro e w1 ⟨rfl, hl⟩; have hc1 := hl.1.cell1) | (go_at_call 67; refine (ffail_any g _ _ _ hl.1).mono ?_; rintro e w2 ⟨rfl, hl2⟩))
      go_ret
      obtain ⟨h1, h2, h3⟩ := hx.out
      rw [h1, h2, h3]
      exact ⟨rfl, leftF_trans hl hl2⟩
  · have hb : ¬ Bad bs := fun h => ho (.inl h)
    have h0 : ¬ most < 0 := fun h => ho (.inr (.inl h))
    have h1 : ¬ most < (nv bs : Nat) := fun h => ho (.inr (.inr h))
    have hx2 : uX bs = false := decide_eq_false hb
    have hx : Hid (txB most bs = tkB false (nv bs : Nat) (uB bs) ∧ txX most bs = tkX false (nv bs : Nat) (uB bs) ∧ txV most bs = tkV false (nv bs : Nat) (uB bs)) := tx_is_tk hb h0 h1
    rw [hx2] at hu
    clear hb ho hx2
    generalize nv bs = n at hu h1 hn hx
    go_enter Try.func47, Try.ntmps47
    go_wp2_with (first | (go_at_call 66; refine hu.out.mono ?_; rintro e w1 ⟨rfl, hl⟩; have hc1 := hl.1.cell1) | (go_at_call 68; refine (ftake_any g _ _ _ _ hl.1 (by omega)).mono ?_; rintro e w2 ⟨rfl, hl2⟩))
    go_ret
    obtain ⟨h1, h2, h3⟩ := hx.out
    rw [h1, h2, h3]
    exact ⟨rfl, leftF_trans hl hl2⟩

end Go.Proofs.Ytoajfnkhonegnaa.Cd

/-
  The document's Split. Conditions: none.
-/
namespace Go.Proofs.Ytoajfnkhonegnaa.Cd
open Go.RowKit

/-- What the document's Split answers. -/
def RSplitIs (w : World) (bs : List UInt8) (e : Ending) (w' : World) : Prop :=
  ∃ u ds cur, Splits bs ds cur ∧ e = .returned (.tuple #[u, .string ⟨cur.toArray⟩]) ∧ OwnS w' w.heap.size u ds ∧ Below w.heap.size w w'

/-- A row stays while a block is written that is younger. -/
theorem OwnS.past {w w' : World} {B : Nat} {v : Value} {l : List (List UInt8)} (h : OwnS w B v l) (o : Obj) (hg : (w.alloc o).grownBy w' (some w.heap.size)) : OwnS w' B v l :=
  World.ownsRow.kept (World.ownsRow.alloc h o) hg (.inr fun e => by have := (World.ownsRow.lt h _ e).2; omega)

def textLen : Value → Nat
  | .string s => s.size
  | _ => 0

theorem rec_tx {c : List UInt8} (hc : c.length < 18446744073709551616) (h : ¬ frm (txV c.length c) <+: c) : ¬ HasRec c := by
  rintro ⟨x, hx⟩
  have := (pre_tx hx hc).2.1
  rw [this] at h
  exact h hx

theorem pre_take {f c : List UInt8} : f <+: c ↔ c.take f.length = f := by
  rw [List.prefix_iff_eq_take]
  exact ⟨fun h => h.symm, fun h => h.symm⟩

set_option maxRecDepth 100000 in
set_option maxHeartbeats 1600000 in
theorem rsplit_any (bs : List UInt8) (w : World) (hb : bs.length ≤ 1048576) :
    Calls Try.prog 24 #[.string ⟨bs.toArray⟩] w (RSplitIs w bs) := by
  go_enter Try.func24, Try.ntmps24
  go_wp2_with fail
  go_loopw [0, 4] (fun s o wr => ∃ ds cur, Hid (bs = flat ds ++ cur) ∧ s = .string ⟨cur.toArray⟩ ∧ Hid (OwnS wr w.heap.size o ds) ∧ Below w.heap.size w wr) (fun s _ _ => textLen s)
  case atStart => exact ⟨[], bs, rfl, rfl, OwnS.nil _ _, Below.refl _ _⟩
  case round =>
    obtain ⟨ds, cur, he, rfl, ho, hbel⟩ := hrel
    have hsz := hbel.size
    have hlen : (flat ds).length + cur.length = bs.length := by have := congrArg List.length he.out; rw [List.length_append] at this; omega
    have hds := flat_ge ds
    have hcsz : (ByteArray.mk cur.toArray).size = cur.length := rfl
    generalize hn : (flat ds).length = n at *
    clear hn
    have HRF : Hid (Rf (wr.alloc (.cells #[.string ⟨cur.toArray⟩, .bool false] 88)) wr.heap.size cur false) := heap_alloc_new wr _
    have hft := Lib.hid (ftext_any wr.heap.size cur.length cur false _ HRF.out (Sane.start _) (by omega) (by omega))
    have h64 : cur.length < 18446744073709551616 := by omega
    have HB0 := Lib.hid (hbel.alloc hsz (.cells #[.string ⟨cur.toArray⟩, .bool false] 88))
    have htl := txV_len (cur.length : Int) cur
    clear HRF
    cases hX : txX cur.length cur
    · have hrec := Lib.hid (fun h => rec_tx h64 h)
      have hTl := frm_len (txV (cur.length : Int) cur)
      rw [hX] at hft
      generalize hT : txV (cur.length : Int) cur = T at *
      have HFR := Lib.hid (fun W => rframe_any T W (by omega))
      have hge := frm_ge T
      obtain ⟨f, hf⟩ : ∃ f, frm T = f := ⟨_, rfl⟩
      have hle := frm_le T (by omega)
      rw [hf] at hge hle
      have HF := Lib.hid hf
      have hfsz : (ByteArray.mk f.toArray).size = f.length := rfl
      clear hX hT hTl hf
      by_cases hlt : cur.length < f.length
      · have hno : Hid (¬ HasRec cur) := hrec.out (fun h => by rw [HF.out] at h; have := h.length_le; omega)
        clear hrec
        go_wp2_with (first | (go_at_call 47; refine hft.out.mono ?_; rintro e w1 ⟨rfl, hl1⟩) | (go_at_call 48; refine (fgood_any _ _ _ _ hl1.1).mono ?_; rintro e w2 ⟨rfl, rfl⟩) | (go_at_call 22; refine (HFR.out w1).mono ?_; rintro e w3 ⟨rfl, hb3⟩; rw [HF.out]))
        go_ret2
        have HB := below_grown HB0.out hl1.2 (by simp; omega) (by omega)
        exact ⟨_, ds, cur, ⟨he.out, hno.out⟩, rfl, (ho.out.past _ hl1.2).keep hb3, HB.trans (hb3.mono HB.size)⟩
      · have hx1 := extract_head cur f.length
        have hx2 := extract_tail cur f.length cur.length rfl
        by_cases hq : cur.take f.length = f
        · have hpre : Hid (f <+: cur) := pre_take.2 hq
          have hq2 : (f == f) = true := by simp
          rw [hq] at hx1
          have HE : Hid (bs = flat (ds ++ [T]) ++ cur.drop f.length) := by
            unfold Hid
            obtain ⟨t, ht⟩ := hpre.out
            rw [flat_append, flat_one, List.append_assoc, HF.out, ← ht, List.drop_left, ht]
            exact he.out
          have hdl : (cur.drop f.length).length = cur.length - f.length := List.length_drop
          clear hrec hq
          go_wp2_with (first | (go_at_call 47; refine hft.out.mono ?_; rintro e w1 ⟨rfl, hl1⟩) | (go_at_call 48; refine (fgood_any _ _ _ _ hl1.1).mono ?_; rintro e w2 ⟨rfl, rfl⟩) | (go_at_call 22; refine (HFR.out w1).mono ?_; rintro e w3 ⟨rfl, hb3⟩; rw [HF.out]) | (at_builtin; refine wp_append_strs rfl _ _ rfl w.heap.size _ ds rfl ?ho ?hB _ (w3.heap.size + 1) [T] rfl ?hn ?hm ?hK))
          case ho => exact ((ho.out.past _ hl1.2).keep hb3).alloc _
          case hB => have := hl1.2.size; have := hb3.size; simp at *; omega
          case hn => exact strs_one _ _ _
          case hm => simp; omega
          case hK =>
            intro v4 w4 ho4 hb4
            go_wp2_with fail
            have HB := below_grown HB0.out hl1.2 (by simp; omega) (by omega)
            have HB3 := HB.trans (hb3.mono HB.size)
            go_roundw
            case rel => exact ⟨ds ++ [T], cur.drop f.length, HE.out, rfl, ho4, (HB3.alloc HB3.size _).trans hb4⟩
            case measure =>
              have hdz : (ByteArray.mk (cur.drop f.length).toArray).size = cur.length - f.length := hdl
              simp [textLen]
              omega
        · have hno : Hid (¬ HasRec cur) := hrec.out (fun h => hq (pre_take.1 (by rw [HF.out] at h; exact h)))
          generalize cur.take f.length = q at *
          have hq2 : (q == f) = false := by simpa using hq
          clear hrec hq
          go_wp2_with (first | (go_at_call 47; refine hft.out.mono ?_; rintro e w1 ⟨rfl, hl1⟩) | (go_at_call 48; refine (fgood_any _ _ _ _ hl1.1).mono ?_; rintro e w2 ⟨rfl, rfl⟩) | (go_at_call 22; refine (HFR.out w1).mono ?_; rintro e w3 ⟨rfl, hb3⟩; rw [HF.out]))
          go_ret2
          have HB := below_grown HB0.out hl1.2 (by simp; omega) (by omega)
          exact ⟨_, ds, cur, ⟨he.out, hno.out⟩, rfl, (ho.out.past _ hl1.2).keep hb3, HB.trans (hb3.mono HB.size)⟩
    · have hno := Lib.hid (no_rec h64 (.inl hX))
      rw [hX] at hft
      clear hX
      go_wp2_with (first | (go_at_call 47; refine hft.out.mono ?_; rintro e w1 ⟨rfl, hl1⟩) | (go_at_call 48; refine (fgood_any _ _ _ _ hl1.1).mono ?_; rintro e w2 ⟨rfl, rfl⟩))
      go_ret2
      exact ⟨_, ds, cur, ⟨he.out, hno.out⟩, rfl, ho.out.past _ hl1.2, below_grown HB0.out hl1.2 (by simp; omega) (by omega)⟩

end Go.Proofs.Ytoajfnkhonegnaa.Cd

/-
  LogTurned answers true. Conditions: none.
-/
namespace Go.Proofs.Ytoajfnkhonegnaa.Cd
open Go.RowKit

set_option maxRecDepth 100000 in
set_option maxHeartbeats 6400000 in
theorem lt_main (v : Value) (l : List (List UInt8)) (at_ : Int) (y : UInt8) (w : World) (hv : Strs w w.heap.size v l) (hok : ∀ p ∈ l, p.length ≤ 140737488351232) (ha1 : -9223372036854775808 ≤ at_) (ha2 : at_ ≤ 9223372036854775807) :
    Calls Try.prog 6 #[v, .int .i64 at_, .int .u8 (y.toNat : Int)] w (Gives (.bool true) w) := by
  obtain ⟨A, c, rfl, hv2, hv3⟩ := hv.len
  have hv3 : c ≤ 9223372036854775807 := hv3
  have HV := Lib.hid hv
  have HOK := Lib.hid hok
  clear hv hok
  go_enter Try.func6, Try.ntmps6
  go_wp2_with fail
  refine (lalive_any w).mono ?_
  rintro e w1 ⟨rfl, hb1⟩
  have HB1 := Lib.hid hb1
  clear hb1
  go_wp2_with fail
  obtain ⟨w2, hw2⟩ : ∃ x, w1.alloc (.cells #[.int .i64 0, .slice A l.length c, .int .i64 0, .int .u64 0, .slice none 0 0] 29) = x := ⟨_, rfl⟩
  have hcal := one_cal w1 A c l ((HV.out.below HB1.out).more HB1.out.size)
  rw [hw2] at hcal ⊢
  have hb2 : Below w1.heap.size w1 w2 := by rw [← hw2]; exact (Below.refl _ _).alloc (Nat.le_refl _) _
  have hz2 : w2.heap.size = w1.heap.size + 1 := by rw [← hw2]; simp
  rw [← hz2] at hcal
  refine (great9_any _ _ w2 hcal (fun p hp => by rw [List.mem_singleton] at hp; subst hp; exact ⟨HOK.out, by simp⟩)).mono ?_
  rintro e w3 ⟨gr, rfl, hb3, hsm⟩
  have HB3 := Lib.hid (HB1.out.trans ((hb2.mono HB1.out.size).trans (hb3.mono (by have := HB1.out.size; omega))))
  clear hcal hw2 hb2 hb3 hz2
  by_cases hgo : gr = true ∨ (y.toNat : Int) = 0
  · by_cases hy0 : (y.toNat : Int) = 0
    all_goals cases gr
    all_goals first
      | (go_wp2_with fail; go_ret; exact ⟨rfl, HB3.out⟩)
      | (exfalso; rcases hgo with h | h; cases h; exact hy0 h)
  · obtain rfl : gr = false := by cases gr; rfl; exact absurd (.inl rfl) hgo
    have hy0 : ¬ (y.toNat : Int) = 0 := fun h => hgo (.inr h)
    have hy1 : ((y.toNat : Int) == 0) = false := by simpa using hy0
    obtain ⟨hl20, hlb⟩ := small_one (hsm rfl)
    have hfl := flat_bytes l (by omega)
    obtain ⟨f, hf⟩ : ∃ x, flat l = x := ⟨_, rfl⟩
    rw [hf] at hfl
    have hf10 : f.length ≤ 10000 := by omega
    have HF := Lib.hid hf
    clear hsm hfl hf hgo
    go_wp2_with fail
    refine (new_dks 200 w3 (by omega) (by omega)).mono ?_
    rintro e w4 ⟨g, S, rfl, hd, hS, hb4⟩
    have HD := Lib.hid hd
    have HS := Lib.hid (show ∀ j, S j → w.heap.size ≤ j from fun j hj => Nat.le_trans HB3.out.size (hS j hj))
    have HB4 := Lib.hid (HB3.out.trans (hb4.mono HB3.out.size))
    clear hd hS hb4
    go_wp2_with fail
    refine (open_lay g 0 [108] [] S (newD 200) w4 HD.out rfl (by simp) (by simp [newD, pagesF, getF]) (by omega) lay_nil).mono ?_
    intro e w5 ho5
    obtain ⟨lg, v5, T5, rfl, _, hc5, _, _, _, _⟩ := ho5.calm (k := 0) (room := 200) HS.out HB4.out lay_nil (new_roomy (room := 200) (by omega)) (by omega)
    have HC5 := Lib.hid hc5
    clear ho5 hc5 HD HS HB4
    have HAP := Lib.hid (append_ok (s := flat []) 20000 HC5.out _ l ((HV.out.below HC5.out.below).more HC5.out.below.size) (by simp) (by omega) (by rw [HF.out]; simp [flat]; omega) (by omega) (by omega) (by rw [HF.out]; simp only [flat_nil, List.length_nil]; unfold needP; omega))
    rw [HF.out] at HAP
    go_wp2_with fail
    refine HAP.out.mono ?_
    rintro e w6 ⟨rfl, _, hp6, _, T6, hc6, _, _⟩
    rw [flat_nil] at hp6 hc6
    have hpa := hp6 [108]
    rw [if_pos rfl] at hpa
    rw [List.nil_append] at hc6
    obtain ⟨D6, hD6⟩ : ∃ x, (appendD (newD 200) [108] [] f).1 = x := ⟨_, rfl⟩
    obtain ⟨k6, hk6⟩ : ∃ x, 0 + (needP (([] : List UInt8).length + f.length) - needP ([] : List UInt8).length) = x := ⟨_, rfl⟩
    rw [hD6, hk6] at hc6
    rw [hD6] at hpa
    have hgp : pagesF D6.now [108] = pagesL f := hpa.trans (by have := pages_grows [] f; rwa [List.nil_append] at this)
    have HC6 := Lib.hid hc6
    clear hp6 hc6 hpa hD6 hk6 HAP HC5
    go_wp2_with fail
    refine (lsync_ok HC6.out (by simp) (by omega)).mono ?_
    rintro e w7 ⟨rfl, _, hn7, hc7, _⟩
    obtain ⟨T7, hT7⟩ : ∃ y, since T6 w6 w7 = y := ⟨_, rfl⟩
    obtain ⟨D7, hD7⟩ : ∃ y, (syncD D6 [108]).1 = y := ⟨_, rfl⟩
    rw [hT7, hD7] at hc7
    rw [hD7] at hn7
    have hpg : pagesF D7.now [108] = pagesL f := by rw [hn7]; exact hgp
    have HC7 := Lib.hid hc7
    have HPG := Lib.hid hpg
    clear hn7 hc7 hT7 hD7 hpg hgp HC6
    by_cases hneg : at_ < 0
    · go_wp2_with fail
      go_ret
      exact ⟨rfl, HC7.out.below⟩
    · obtain ⟨a, rfl⟩ := Int.eq_ofNat_of_zero_le (show 0 ≤ at_ by omega)
      have HSZ := Lib.hid (size_l lg g [108] f T7 w7 HC7.out.log)
      by_cases hout : f.length ≤ a
      · have hji : (f.length : Int) ≤ a := by omega
        go_wp2_with fail
        refine HSZ.out.mono ?_
        rintro e w' ⟨rfl, hw'⟩
        obtain rfl := hw'.symm
        go_wp2_with fail
        go_ret
        exact ⟨rfl, HC7.out.below⟩
      · have hji : (a : Int) < f.length := by omega
        go_wp2_with fail
        refine HSZ.out.mono ?_
        rintro e w' ⟨rfl, hw'⟩
        obtain rfl := hw'.symm
        obtain ⟨j, hj⟩ : ∃ j, a / 510 = j := ⟨_, rfl⟩
        obtain ⟨o, ho⟩ : ∃ o, a % 510 = o := ⟨_, rfl⟩
        have hdv : (a : Int) / 510 = (j : Int) := by omega
        have hmd : (a : Int) % 510 = (o : Int) := by omega
        have ho2 : o < 510 := by omega
        have hjn : j < needP f.length := by unfold needP; omega
        obtain ⟨q, hq⟩ : ∃ q, (pagesL f)[j]? = some q := ⟨(pagesL f)[j]'(by rw [pagesL_len]; exact hjn), List.getElem?_eq_getElem _⟩
        have hoff := HC7.out.roomy.off
        have HRA := Lib.hid (read_dks g (20000 + 4) T7 D7 [108] w7 (j : Int) HC7.out.disk (by simp) (WalkArith.wf_i64 (by omega)))
        have hjo : 510 * j + o = a := by omega
        have HJO := Lib.hid hjo
        have HJ := Lib.hid hj
        have HO := Lib.hid ho
        clear hj ho hjo
        go_wp2_with fail
        refine HRA.out.mono ?_
        intro e w8 hr
        obtain ⟨hql, rfl, hw8⟩ := reads_in hoff (by rw [HPG.out]; exact hq) hr
        have hb8 : Below w7.heap.size w7 w8 := by rw [hw8]; exact (Below.refl _ _).alloc (Nat.le_refl _) _
        have hg8 : w8.heap[w7.heap.size]? = some (.cells (vb q).toArray 79) := by rw [hw8]; exact heap_alloc_new w7 _
        obtain ⟨x, hx⟩ : ∃ x, q[2 + o]'(by omega) = x := ⟨_, rfl⟩
        have d0 : w8.cell? ⟨w7.heap.size, 2 + o, none⟩ = some (.int .u8 (x.toNat : Int)) := by
          rw [cell_of_row _ _ _ _ _ _ hg8, List.getElem?_toArray, vb_at q (2 + o) (by omega), hx]
        obtain ⟨z, hz⟩ : ∃ z, x ^^^ y = z := ⟨_, rfl⟩
        have hxor : bits BinOp.xor IntKind.u8 (x.toNat : Int) (y.toNat : Int) = (z.toNat : Int) := by rw [u8_xor_nat _ _ x.toNat_lt y.toNat_lt, ← hz, UInt8.toNat_xor]
        have hfz : w8.frozen? ⟨w7.heap.size, 2 + o, none⟩ = false := by
          unfold World.frozen?
          simp only [hg8]
          rfl
        have HG8 := Lib.hid hg8
        have HB8 := Lib.hid hb8
        have HQ := Lib.hid hq
        clear hr hg8 hx hw8 hb8 hq hz HRA
        go_wp2_with fail
        obtain ⟨w9, hw9⟩ : ∃ u, w8.setCell ⟨w7.heap.size, 2 + o, none⟩ (.int .u8 (z.toNat : Int)) = u := ⟨_, rfl⟩
        have hb9 : Below w7.heap.size w7 w9 := by rw [← hw9]; exact HB8.out.setCell (p := ⟨w7.heap.size, 2 + o, none⟩) (Nat.le_refl _) _
        have hg9 : w9.heap[w7.heap.size]? = some (.cells (vb (q.set (2 + o) z)).toArray 79) := by
          rw [← hw9, heap_setCell_same _ _ _ _ _ _ HG8.out]
          simp [vb, List.map_set]
        have hql2 : (q.set (2 + o) z).length = 512 := by rw [List.length_set]; exact hql
        have hs9 := sl_pg hql2 79 hg9
        have hc9 := HC7.out.over hb9
        have hwr := write_dks g (20000 + 4) T7 D7 [108] w9 (q.set (2 + o) z) (j : Int) (.slice (some ⟨w7.heap.size, 0, none⟩) 512 512) hc9.disk hs9 (fun _ A n c e => by injection e with e _ _; injection e with e; subst e; intro ht; have := HC7.out.disk.lt _ ht; simp at this) (by simp) (by omega) (by omega)
        rw [hw9]
        refine hwr.mono ?_
        rintro e w10 hm10
        obtain rfl := hm10.1
        have hja := HJ.out
        have hoa := HO.out
        obtain ⟨_, hro, hpt⟩ := HC7.out.roomy.turned (n := [108]) (s := f) (a := a) (y := z) HPG.out (by omega) (q := q) (by rw [hja]; exact HQ.out)
        rw [hja, hoa] at hro hpt
        have HY10 := Lib.hid (hc9.dry.made hm10)
        obtain ⟨T10, hT10⟩ : ∃ u, since T7 w9 w10 = u := ⟨_, rfl⟩
        obtain ⟨D10, hD10⟩ : ∃ u, (writeD D7 [108] (j : Int) (q.set (2 + o) z)).1 = u := ⟨_, rfl⟩
        obtain ⟨er, her⟩ : ∃ u, (writeD D7 [108] (j : Int) (q.set (2 + o) z)).2 = u := ⟨_, rfl⟩
        rw [hT10, hD10] at HY10
        rw [hD10] at hro hpt
        rw [her]
        have HRO := Lib.hid hro
        have HPT := Lib.hid hpt
        clear hm10 hwr hc9 hs9 hql2 hg9 hb9 hw9 hT10 hD10 her hro hpt hja hoa HC7 HPG HG8 HB8 HQ hfz d0 hxor
        go_wp2_with fail
        go_loopw [13, 14] (fun wv sv wr => ∃ (k n1 : Nat), wv = .int .i64 k ∧ sv = .int .i64 n1 ∧ k ≤ l.length ∧ Hid (n1 = (flat (l.take k)).length) ∧ n1 ≤ a ∧ Hid (Dry w g (20000 + 8) D10 T10 wr)) (fun wv _ _ => l.length - (intOf wv).toNat)
        case atStart => exact ⟨0, 0, rfl, rfl, by omega, rfl, by omega, HY10.out⟩
        case round =>
          obtain ⟨k, n1, rfl, rfl, hk, hn1, hna, hdr⟩ := hrel
          clear HY10
          have hlt : k < l.length := by
            rcases Nat.lt_or_ge k l.length with h | h
            · exact h
            · have h1 := hn1.out
              rw [List.take_of_length_le (by omega), HF.out] at h1
              omega
          obtain ⟨b2, off2, c2', e2, _, _, hB2, hat⟩ := (HV.out.below hdr.out.below).at (by omega)
          injection e2 with e2 _ e3
          subst e2 e3
          have d0 := hat k hlt
          obtain ⟨x2, hx2⟩ : ∃ x, l[k] = x := ⟨_, rfl⟩
          have hft := flat_take l k hlt
          have hfm := flat_mono l (k + 1) l.length (by omega)
          rw [List.take_length, HF.out, hft, List.length_append] at hfm
          rw [hx2] at d0 hft hfm
          have d00 := (hdr.out.below.cell (p := ⟨b2, off2 + k, none⟩) hB2).symm.trans d0
          rw [← hn1.out] at hfm
          have HN1 := Lib.hid (show n1 + (frm x2).length = (flat (l.take (k + 1))).length by rw [hft, List.length_append, ← hn1.out])
          have hfr := frm_ge x2
          have HFR := Lib.hid (rframe_any x2 wr (by omega))
          clear hat hx2 hft
          by_cases hbr : a < n1 + (frm x2).length
          · have hbri : (a : Int) < (n1 : Int) + ((frm x2).length : Int) := by omega
            go_wp2_with fail
            refine HFR.out.mono ?_
            rintro e w11 ⟨rfl, hb11⟩
            have HD11 := Lib.hid (hdr.out.over hb11)
            clear hb11 HFR hdr
            obtain ⟨P, hP⟩ : ∃ u, turnL f a z = u := ⟨_, rfl⟩
            obtain ⟨t, ht⟩ : ∃ u, f.set a z = u := ⟨_, rfl⟩
            have htl : t.length = f.length := by rw [← ht, List.length_set]
            have hpl : P.length = needP t.length := by rw [← hP, turnL_len, htl]
            have HLB := Lib.hid (show logB P = t by rw [← hP, ← ht]; exact logB_turn f a z)
            have HAT := Lib.hid (show ∀ i p, P[i]? = some p → p.length = 512 ∧ partP p = part t i from fun i p hp => by rw [← ht]; exact turnL_at (by rw [hP]; exact hp))
            have HT := Lib.hid ht
            rw [hP] at HPT
            obtain ⟨m, hm⟩ : ∃ u, needP t.length = u := ⟨_, rfl⟩
            rw [hm] at hpl
            have hm2 : m ≤ 100 ∧ t.length ≤ 510 * m := by unfold needP at hm; omega
            have ht10 : t.length ≤ 10000 := by omega
            obtain ⟨hm3, hm4⟩ := hm2
            have HPL := Lib.hid hpl
            clear hP ht htl hpl hm hjn
            go_wp2_with fail
            go_loopw [15, 16] (fun sv iv wr => ∃ i : Nat, sv = .string ⟨(t.take (510 * i)).toArray⟩ ∧ iv = .int .i64 i ∧ i ≤ m ∧ Hid (Dry w g (20000 + 8) D10 T10 wr)) (fun _ iv _ => m - (intOf iv).toNat)
            case atStart => exact ⟨0, by simp, rfl, by omega, HD11.out⟩
            case round =>
              obtain ⟨i, rfl, rfl, him, hdq⟩ := hrel
              clear HD11
              have HCN := Lib.hid (count_dks g (20000 + 8) T10 D10 [108] wr hdq.out.disk HRO.out.off (by simp))
              rw [HPT.out, HPL.out] at HCN
              by_cases hlt2 : i < m
              · obtain ⟨p, hp⟩ : ∃ p, P[i]? = some p := ⟨P[i]'(by rw [HPL.out]; exact hlt2), List.getElem?_eq_getElem _⟩
                obtain ⟨hp1, hp2⟩ := HAT.out i p hp
                have HRD := Lib.hid (read_dks g (20000 + 8) T10 D10 [108] wr (i : Int) hdq.out.disk (by simp) (WalkArith.wf_i64 (by omega)))
                have HP := Lib.hid hp
                have HP2 := Lib.hid hp2
                clear hp hp2
                go_wp2_with fail
                refine HCN.out.mono ?_
                rintro e w' ⟨rfl, hw'⟩
                obtain rfl := hw'.symm
                go_wp2_with fail
                refine HRD.out.mono ?_
                intro e w12 hr
                obtain ⟨hql2, rfl, hw12⟩ := reads_in HRO.out.off (by rw [HPT.out]; exact HP.out) hr
                have hb12 : Below wr.heap.size wr w12 := by rw [hw12]; exact (Below.refl _ _).alloc (Nat.le_refl _) _
                have hg12 : w12.heap[wr.heap.size]? = some (.cells (vb p).toArray 79) := by rw [hw12]; exact heap_alloc_new wr _
                have hz12 : wr.heap.size < w12.heap.size := (Array.getElem?_eq_some_iff.1 hg12).1
                have hs12 := sl_pg hql2 79 hg12
                obtain ⟨x0, hx0⟩ : ∃ x, p[0]'(by omega) = x := ⟨_, rfl⟩
                obtain ⟨x1, hx1⟩ : ∃ x, p[1]'(by omega) = x := ⟨_, rfl⟩
                have e0 : w12.cell? ⟨wr.heap.size, 0, none⟩ = some (.int .u8 (x0.toNat : Int)) := by rw [cell_of_row _ _ _ _ _ _ hg12, List.getElem?_toArray, vb_at p 0 (by omega), hx0]
                have e1 : w12.cell? ⟨wr.heap.size, 1, none⟩ = some (.int .u8 (x1.toNat : Int)) := by rw [cell_of_row _ _ _ _ _ _ hg12, List.getElem?_toArray, vb_at p 1 (by omega), hx1]
                have hx0b := x0.toNat_lt
                have hx1b := x1.toNat_lt
                obtain ⟨n, hn⟩ : ∃ n, toldP p = n := ⟨_, rfl⟩
                have hn2 : n ≤ 510 := by rw [← hn]; exact toldP_le p
                have hnm : min (x0.toNat + 256 * x1.toNat) 510 = n := by
                  rw [← hn, ← hx0, ← hx1]
                  unfold toldP
                  rw [List.getD_eq_getElem?_getD, List.getD_eq_getElem?_getD, List.getElem?_eq_getElem (show 0 < p.length by omega), List.getElem?_eq_getElem (show 1 < p.length by omega)]
                  rfl
                have hmin : (if (510 : Int) < (x0.toNat : Int) + 256 * (x1.toNat : Int) then (510 : Int) else (x0.toNat : Int) + 256 * (x1.toNat : Int)) = (n : Int) := by split <;> omega
                have hcut : Sl w12 w12.heap.size (.slice (some ⟨wr.heap.size, 2, none⟩) n 510) (part t i) := by
                  have h1 := sl_take (sl_drop hs12 2 (by omega) 2 (fun _ => by omega) hz12) n (by rw [List.length_drop]; omega)
                  rw [← HP2.out]
                  unfold partP
                  rw [hn]
                  exact h1
                obtain ⟨n2, hn3⟩ : ∃ u, n + 2 = u := ⟨_, rfl⟩
                have hn4 : n = n2 - 2 := by omega
                rw [hn4] at hcut
                have hcv := fun d => run_text_of (w12.drewN d) _ _ _ (show Sl (w12.drewN d) w12.heap.size _ _ from hcut)
                have hadd := fun W => add_text W (t.take (510 * i)) (part t i) (by have := part_le t i; rw [List.length_take]; omega)
                rw [part_next] at hadd
                have hw2 : IntKind.i64.wrap (2 + (n : Int)) = (n2 : Int) := by rw [IntWalk.i64_in _ (by omega)]; omega
                have hw3 : 2 + (n : Int) = (n2 : Int) := by omega
                have hn5 : (n2 : Int) ≤ 512 := by omega
                have hn6 : (2 : Int) ≤ (n2 : Int) := by omega
                have hn7 : n2 ≤ 512 := by omega
                have hn8 : 2 ≤ n2 := by omega
                clear hn4 hn3
                have HD12 := Lib.hid (hdq.out.over hb12)
                clear hr hw12 hg12 hs12 hb12 hx0 hx1 hn hnm hcut HCN HRD hdq HP HP2
                go_wp2_with fail
                go_quiet (fail)
                go_wp2_with fail
                go_roundw
                case rel => exact ⟨i + 1, rfl, by go_num, by omega, HD12.out.over (below_drewN (Below.refl _ _) _)⟩
                case measure => simp [intOf]; omega
              · have hji2 : (m : Int) ≤ i := by omega
                have hwh : t.take (510 * i) = t := List.take_of_length_le (by omega)
                rw [hwh]
                have hcnt : (pagesF D10.now [108]).length ≤ 2000 := by rw [HPT.out, HPL.out]; omega
                have hlb2 : logB (pagesF D10.now [108]) = t := by rw [HPT.out]; exact HLB.out
                have HLB2 := Lib.hid hlb2
                have HCT := Lib.hid hcnt
                clear hwh hlb2 hcnt
                go_wp2_with fail
                refine HCN.out.mono ?_
                rintro e w' ⟨rfl, hw'⟩
                obtain rfl := hw'.symm
                go_wp2_with fail
                refine (rsplit_any t wr (by omega)).mono ?_
                rintro e w13 ⟨uw, ds, cur, hspl, rfl, hst, hb13⟩
                obtain ⟨Aw, cw, rfl, hw1, hw2⟩ := hst.strs.len
                have hw2 : cw ≤ 9223372036854775807 := hw2
                have HD13 := Lib.hid (hdq.out.over hb13)
                have hTl := hdq.out.disk.lt
                have HAW := Lib.hid (show ∀ b, (Value.slice Aw ds.length cw).ownBlock = some b → ¬ T10 b from fun b hb ht => by have := (hst.lt b hb).1; have := hTl b ht; omega)
                clear hTl
                have HST := Lib.hid hst
                have hds : ∃ es, ds = l.take k ++ es := by
                  obtain ⟨rest, hre⟩ := turn_front (l := l) (k := k) (a := a) (y := z) (by rw [← hn1.out]; exact hna)
                  rw [HF.out, HT.out] at hre
                  obtain ⟨es, h1, _⟩ := splits_front (l.take k) ds (by omega) hre hspl
                  exact ⟨es, h1⟩
                have hkd : k ≤ ds.length ∧ ds.take k = l.take k := by
                  obtain ⟨es, h1⟩ := hds
                  have h2 : (l.take k).length = k := by rw [List.length_take]; omega
                  refine ⟨by rw [h1, List.length_append]; omega, ?_⟩
                  rw [h1, List.take_append_of_le_length (by omega), List.take_of_length_le (by omega)]
                obtain ⟨hkd1, hkd2⟩ := hkd
                have HKD := Lib.hid hkd2
                have HSPL := Lib.hid hspl
                have HOP := Lib.hid (open_l g (20000 + 8) [108] T10 D10 w13 HD13.out.disk HRO.out.off (by simp) HCT.out (by omega))
                clear hds hkd2 hspl hst hb13 HCN hdq
                go_wp2_with fail
                refine HOP.out.mono ?_
                rintro e w14 ⟨ds2, cur2, hs2, hcase⟩
                rw [HLB2.out] at hs2
                obtain ⟨rfl, rfl⟩ := splits_uniq (by omega) hs2 HSPL.out
                have htr := (HRO.out.trimL (n := [108]) (s := flat ds2) (cur := cur2) (by rw [HLB2.out]; exact hs2.1)).1
                rcases hcase with ⟨_, lb, v14, T14, rfl, hv14, _, _, _, hap14, _, _⟩ | ⟨hbad, _⟩
                · have hb14 := HD13.out.below.trans (hap14.low HD13.out.below.size HD13.out.low)
                  have hst14 := HST.out.aside hap14 HAW.out
                  have hv14s := hv14.strs
                  obtain ⟨A14, c14, rfl, h141, h142⟩ := hv14s.len
                  have h142 : c14 ≤ 9223372036854775807 := h142
                  have hg1 := hv14s.take k hkd1
                  rw [HKD.out] at hg1
                  have hg2 := ((HV.out.below hb14).more hb14.size).take k hk
                  have hdw : Below w14.heap.size w14 w14.drew := (Below.refl _ _).drew
                  have HS1 := Lib.hid (same_any _ _ (l.take k) (l.take k) w14.drew (hg1.below hdw) (hg2.below hdw))
                  have HG := Lib.hid hv14s
                  have HST14 := Lib.hid hst14.strs
                  have HB14 := Lib.hid hb14
                  have hkc : k ≤ c := by omega
                  have hkc2 : k ≤ c14 := by omega
                  have hki : (k : Int) ≤ (ds2.length : Int) := by omega
                  have hdt : decide (l.take k = l.take k) = true := by simp
                  have hdd : decide (ds2 = ds2) = true := by simp
                  clear hst14 hv14s hg1 hg2 hb14 hap14 hv14 htr hs2 HST HOP HKD HD13 HAW HSPL
                  have hkg : decide ((ds2.length : Int) < (k : Int)) = false := decide_eq_false (by omega)
                  have d14 : w14.cell? ⟨b2, off2 + k, none⟩ = some (.string ⟨x2.toArray⟩) := (HB14.out.cell (p := ⟨b2, off2 + k, none⟩) hB2).trans d00
                  go_wp2_with fail
                  go_region_held3 (fun W => W.cell? ⟨b2, off2 + k, none⟩ = some (.string ⟨x2.toArray⟩)) (first | exact d14 | assumption) (first
                    | (go_at_call 16; (with_reducible refine HS1.out.mono ?_); rintro e w15 ⟨rfl, hb15⟩; have hb15 := hdw.trans (hb15.mono hdw.size); have HS2 := Lib.hid (same_any _ _ ds2 ds2 w15 ((HG.out.below hb15).more hb15.size) ((HST14.out.below hb15).more hb15.size)); have HB15 := Lib.hid (HB14.out.trans (hb15.mono HB14.out.size)); have hS3 : w15.cell? ⟨b2, off2 + k, none⟩ = some (.string ⟨x2.toArray⟩) := (HB15.out.cell (p := ⟨b2, off2 + k, none⟩) hB2).trans d00; clear hb15)
                    | (go_at_call 16; (with_reducible refine HS2.out.mono ?_); rintro e w16 ⟨rfl, hb16⟩; have HB16 := Lib.hid (HB15.out.trans (hb16.mono HB15.out.size)); have hS4 : w16.cell? ⟨b2, off2 + k, none⟩ = some (.string ⟨x2.toArray⟩) := (HB16.out.cell (p := ⟨b2, off2 + k, none⟩) hB2).trans d00; clear hb16))
                  all_goals go_wp2_with fail
                  all_goals go_ret
                  all_goals exact ⟨by simp, HB16.out⟩
                · exact absurd htr hbad
          · have hbri : (n1 : Int) + ((frm x2).length : Int) ≤ (a : Int) := by omega
            go_wp2_with fail
            refine HFR.out.mono ?_
            rintro e w11 ⟨rfl, hb11⟩
            have HD11 := Lib.hid (hdr.out.over hb11)
            clear hb11 HFR hdr
            go_wp2_with fail
            go_roundw
            case rel => exact ⟨k + 1, n1 + (frm x2).length, by go_num, by go_num, by omega, HN1, by omega, HD11.out⟩
            case measure => simp [intOf]; omega

theorem lt_walk (v : Value) (l : List (List UInt8)) (i : Int) (c : Int) (w : World) (h : Strs w w.heap.size v l ∧ ∀ p ∈ l, p.length ≤ 140737488351232) (hi : (Lit.int .i64 i).wf = true) (hc : (Lit.int .u8 c).wf = true) :
    Calls Try.prog 6 #[v, .int .i64 i, .int .u8 c] w (Gives (.bool true) w) := by
  obtain ⟨h1, h2⟩ := bounds_i64 hi
  obtain ⟨h3, h4⟩ : 0 ≤ c ∧ c ≤ 255 := bounds_u8 hc
  have e : c = ((UInt8.ofNat c.toNat).toNat : Int) := by rw [UInt8.toNat_ofNat']; omega
  rw [e]
  exact lt_main v l i (UInt8.ofNat c.toNat) w h.1 h.2 h1 h2

end Go.Proofs.Ytoajfnkhonegnaa.Cd

namespace Go.Proofs.Ytoajfnkhonegnaa.LogTurned
open Go.RowKit Go.Proofs.Ytoajfnkhonegnaa.Cd

theorem walk (v : Value) (l : List (List UInt8)) (i : Int) (c : Int) (w : World) (h : Cd.Strs w w.heap.size v l ∧ ∀ p ∈ l, p.length ≤ 140737488351232) (hi : (Lit.int .i64 i).wf = true) (hc : (Lit.int .u8 c).wf = true) :
    Calls Try.prog 6 #[v, .int .i64 i, .int .u8 c] w (Gives (.bool true) w) := lt_walk v l i c w h hi hc

end Go.Proofs.Ytoajfnkhonegnaa.LogTurned
