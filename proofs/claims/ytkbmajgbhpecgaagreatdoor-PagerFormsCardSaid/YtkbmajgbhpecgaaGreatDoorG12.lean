/-
  frame.Split. Conditions: none.
-/
import Derived.Test.YtkbmajgbhpecgaaGreatDoorG1
import Derived.Deep.RegionWith
import Derived.LoopTactic
import Derived.IntWalk
import Derived.Laws.BitsAllLaws
import Derived.Test.YtkbmajgbhpecgaaGreatDoorG8
import Derived.Test.YtkbmajgbhpecgaaGreatDoorG9
import Derived.Shelf.Abstract
import Derived.Shelf.RegionOpen
import Derived.WalkKit
import Derived.OwnWalkIn
import Derived.TacticsInMore
import Derived.LoopNIn
import Derived.LoopIn
import Derived.BigRegionIn
import Derived.Maps.OwnIn
import Derived.Test.YtkbmajgbhpecgaaGreatDoorG10
import Derived.Deep.RegionHeld3
import Derived.Test.YtkbmajgbhpecgaaGreatDoorRows
import Derived.WalkSpells
import Derived.WalkLawsBesides
import Derived.Outline
import Derived.Lib.Hide
import Derived.Test.YtkbmajgbhpecgaaGreatDoorG7
import Derived.Test.YtkbmajgbhpecgaaGreatDoorG11
/-
  code.Reader: Read, Good, fail, End. Conditions: none.
-/
namespace Go.Proofs.YtkbmajgbhpecgaaGreatDoor.Cd
open Go.RowKit

/-- Block g is a reader that has the bytes 'bs' left. -/
def Rd (w : World) (g : Nat) (bs : List UInt8) (bad : Bool) : Prop := w.heap[g]? = some (.cells #[.string ⟨bs.toArray⟩, .bool bad] 154 (0, 0))

section
variable {w w' : World} {g : Nat} {bs : List UInt8} {bad : Bool}
theorem Rd.lt (h : Rd w g bs bad) : g < w.heap.size := by
  rcases Nat.lt_or_ge g w.heap.size with hlt | hge
  · exact hlt
  · unfold Rd at h; rw [Array.getElem?_eq_none hge] at h; cases h
theorem Rd.cell0 (h : Rd w g bs bad) : w.cell? ⟨g, 0, none⟩ = some (.string ⟨bs.toArray⟩) := cell_of_row w g 0 _ _ (0, 0) h
theorem Rd.cell1 (h : Rd w g bs bad) : w.cell? ⟨g, 1, none⟩ = some (.bool bad) := cell_of_row w g 1 _ _ (0, 0) h
theorem Rd.frozen (h : Rd w g bs bad) (i : Nat) : w.frozen? ⟨g, i, none⟩ = false := by
  unfold Rd at h
  simp [World.frozen?, h]
theorem Rd.drew (h : Rd w g bs bad) : Rd w.drew g bs bad := h
theorem Rd.set0 (h : Rd w g bs bad) (cs : List UInt8) : Rd (w.setCell ⟨g, 0, none⟩ (.string ⟨cs.toArray⟩)) g cs bad := by
  unfold Rd at h ⊢
  simp [World.setCell, Array.getElem?_modify, h]
theorem Rd.set1 (h : Rd w g bs bad) (b : Bool) : Rd (w.setCell ⟨g, 1, none⟩ (.bool b)) g bs b := by
  unfold Rd at h ⊢
  simp [World.setCell, Array.getElem?_modify, h]
theorem Rd.below {B : Nat} (h : Rd w g bs bad) (hb : Below B w w') (hg : g < B) : Rd w' g bs bad := (hb.block g hg).trans h
end

/-- What a reader's call leaves: the reader as it is said, and else nothing of what was there has turned. -/
def Left (w : World) (g : Nat) (bs : List UInt8) (bad : Bool) (w' : World) : Prop := Rd w' g bs bad ∧ w.grownBy w' (some g)

theorem grown_refl (w : World) (r : Option Nat) : w.grownBy w r := ⟨rfl, rfl, rfl, Nat.le_refl _, fun _ _ _ => rfl⟩
theorem grown_trans {a b c : World} {g : Nat} (h : a.grownBy b (some g)) (k : b.grownBy c (some g)) : a.grownBy c (some g) :=
  ⟨k.os.trans h.os, k.tape.trans h.tape, k.output.trans h.output, Nat.le_trans h.size k.size, fun i hi hn => (k.block i (Nat.lt_of_lt_of_le hi h.size) hn).trans (h.block i hi hn)⟩
theorem grown_set (w : World) (g i : Nat) (v : Value) : w.grownBy (w.setCell ⟨g, i, none⟩ v) (some g) :=
  ⟨rfl, rfl, rfl, by simp [World.setCell], fun k _ hk => Below.heap_setCell w _ v k (fun e => hk (by rw [e]))⟩

set_option maxHeartbeats 400000 in
theorem read_any (v : Value) (bs : List UInt8) (w : World) (hs : Sl w w.heap.size v bs) :
    Calls Tryz.prog 80 #[v] w fun e w' => e = .returned (.pointer (some ⟨w.heap.size, 0, none⟩)) ∧ Rd w' w.heap.size bs false ∧ Below w.heap.size w w' := by
  have hcv := run_text_of w _ v bs hs
  go_enter Tryz.func80, Tryz.ntmps80
  go_wp2_with fail
  go_ret
  exact ⟨rfl, heap_alloc_new w _, (Below.refl _ _).alloc (Nat.le_refl _) _⟩

set_option maxHeartbeats 400000 in
theorem good_any (g : Nat) (bs : List UInt8) (bad : Bool) (w : World) (hr : Rd w g bs bad) :
    Calls Tryz.prog 110 #[.pointer (some ⟨g, 0, none⟩)] w fun e w' => e = .returned (.bool !bad) ∧ w = w' := by
  have hc := hr.cell1
  go_enter Tryz.func110, Tryz.ntmps110
  go_wp2_with fail
  go_ret
  exact ⟨rfl, rfl⟩

set_option maxHeartbeats 400000 in
theorem good_nil (w : World) :
    Calls Tryz.prog 110 #[.pointer none] w fun e w' => e = .returned (.bool false) ∧ w = w' := by
  go_enter Tryz.func110, Tryz.ntmps110
  go_wp2_with fail
  go_ret
  exact ⟨rfl, rfl⟩

set_option maxHeartbeats 400000 in
theorem fail_any (g : Nat) (bs : List UInt8) (bad : Bool) (w : World) (hr : Rd w g bs bad) :
    Calls Tryz.prog 137 #[.pointer (some ⟨g, 0, none⟩)] w fun e w' => e = .returned (.tuple #[]) ∧ Left w g [] true w' := by
  have hc0 := hr.cell0
  have hc1 := hr.cell1
  have hf0 := hr.frozen 0
  have hf1 := hr.frozen 1
  go_enter Tryz.func137, Tryz.ntmps137
  go_wp2_with fail
  go_end0
  exact ⟨rfl, (hr.set0 []).set1 true, grown_trans (grown_set _ _ _ _) (grown_set _ _ _ _)⟩

set_option maxHeartbeats 400000 in
theorem end_any (g : Nat) (bs : List UInt8) (bad : Bool) (w : World) (hr : Rd w g bs bad) :
    Calls Tryz.prog 82 #[.pointer (some ⟨g, 0, none⟩)] w fun e w' => e = .returned (.bool (!bad && bs.isEmpty)) ∧ w = w' := by
  have hc0 := hr.cell0
  cases bad
  · go_enter Tryz.func82, Tryz.ntmps82
    go_wp2_with (go_at_call 110; refine (good_any g bs _ _ hr).mono ?_; rintro e w1 ⟨rfl, rfl⟩)
    go_ret
    exact ⟨by simp, rfl⟩
  · go_enter Tryz.func82, Tryz.ntmps82
    go_wp2_with (go_at_call 110; refine (good_any g bs _ _ hr).mono ?_; rintro e w1 ⟨rfl, rfl⟩)
    go_ret
    exact ⟨rfl, rfl⟩

set_option maxHeartbeats 400000 in
theorem end_nil (w : World) :
    Calls Tryz.prog 82 #[.pointer none] w fun e w' => e = .returned (.bool false) ∧ w = w' := by
  go_enter Tryz.func82, Tryz.ntmps82
  go_wp2_with (go_at_call 110; refine (good_nil _).mono ?_; rintro e w1 ⟨rfl, rfl⟩)
  go_ret
  exact ⟨rfl, rfl⟩

end Go.Proofs.YtkbmajgbhpecgaaGreatDoor.Cd

/-
  code.number: the number that a text begins with. Conditions: none.
-/
namespace Go.Proofs.YtkbmajgbhpecgaaGreatDoor.Cd
open Go.RowKit

/-- What number answers. -/
def NumIs (l : List UInt8) (w : World) (e : Ending) (w' : World) : Prop := e = .returned (.tuple #[.int .u64 (nv l : Nat), .int .i64 (ns l : Nat)]) ∧ w = w'

theorem NumIs.bad {l : List UInt8} {w : World} {e : Ending} (h : Bad l) (he : e = .returned (.tuple #[.int .u64 0, .int .i64 0])) : NumIs l w e w :=
  ⟨by rw [he, nv_bad h, ns_bad h]; rfl, rfl⟩

theorem NumIs.good {l : List UInt8} {w : World} {e : Ending} {k x : Nat} (h : ¬ Bad l ∧ stop l = k ∧ x = val l (k + 1)) (he : e = .returned (.tuple #[.int .u64 (x : Nat), .int .i64 ((k : Int) + 1)])) : NumIs l w e w := by
  obtain ⟨h1, rfl, rfl⟩ := h
  refine ⟨?_, rfl⟩
  rw [he, nv_good h1, ns_good h1]
  rfl

theorem part_byte (c : UInt8) : IntKind.u64.wrap (bits BinOp.and IntKind.u8 (c.toNat : Int) 127) = ((c.toNat % 128 : Nat) : Int) := by
  have h := u8_and_nat c.toNat 127 c.toNat_lt (by omega)
  have h2 : c.toNat &&& 127 = c.toNat % 128 := Nat.and_two_pow_sub_one_eq_mod _ 7
  rw [show (127 : Int) = ((127 : Nat) : Int) from rfl, h, h2, IntKind.wrap_u64]
  omega

theorem shl_part (p k : Nat) : Op.shift .shl .u64 (p : Int) .i64 (7 * (k : Int)) = pure (.int .u64 (up p k : Nat)) := by
  have h : ¬ (7 * (k : Int) < 0) := by omega
  have h2 : (7 * (k : Int)).toNat = 7 * k := by omega
  simp only [Op.shift, if_neg h, h2, IntKind.bits, IntKind.wrap_u64]
  congr 2

theorem shr_part (y k : Nat) : Op.shift .shr .u64 (y : Int) .i64 (7 * (k : Int)) = pure (.int .u64 (down y k : Nat)) := by
  have h : ¬ (7 * (k : Int) < 0) := by omega
  have h2 : (7 * (k : Int)).toNat = 7 * k := by omega
  simp only [Op.shift, if_neg h, h2, IntKind.bits]
  congr 2
  unfold down
  rw [Int.natCast_ediv, Int.natCast_pow, Int.fdiv_eq_ediv_of_nonneg _ (Int.pow_nonneg (by omega))]
  rfl

theorem at8_of (s : ByteArray) (k : Nat) (h : k < s.size) : s[k].toNat = at8 s.data.toList k := by
  have h2 : k < s.data.toList.length := h
  unfold at8
  rw [List.getD_eq_getElem?_getD, List.getElem?_eq_getElem h2]
  rfl

set_option maxRecDepth 100000 in
set_option maxHeartbeats 800000 in
theorem number_any (s : ByteArray) (w : World) (hs : s.size ≤ 140737488355328) :
    Calls Tryz.prog 151 #[.string s] w (NumIs s.data.toList w) := by
  go_enter Tryz.func151, Tryz.ntmps151
  go_wp2
  go_loop [4, 5] (fun n i => ∃ (m k : Nat), n = .int .u64 m ∧ i = .int .i64 k ∧ k ≤ s.size ∧ m < 18446744073709551616 ∧ Hid (More s.data.toList k) ∧ Hid (k ≤ 9 → m = val s.data.toList k)) (fun _ i => s.size - (intOf i).toNat)
  case atStart => exact ⟨0, 0, rfl, rfl, by omega, by omega, More.zero _, fun _ => rfl⟩
  case round =>
    obtain ⟨m, k, rfl, rfl, hk, hm, hb, hv⟩ := hrel
    by_cases hlt : k < s.size
    · obtain ⟨c, hc⟩ : ∃ c, c = s[k] := ⟨_, rfl⟩
      have hat : c.toNat = at8 s.data.toList k := by rw [hc]; exact at8_of s k hlt
      have hc2 : s[k] = c := hc.symm
      have HAT := Lib.hid hat
      have HC := Lib.hid hc
      clear hat hc
      have E1 := part_byte c
      have E2 := shl_part (c.toNat % 128) k
      have E3 := shr_part (up (c.toNat % 128) k) k
      have E4 := u64_or_nat m (up (c.toNat % 128) k) hm (up_lt _ _)
      generalize hp : c.toNat % 128 = p at E1 E2 E3 E4
      generalize hy : up p k = y at E2 E3 E4
      generalize hz : down y k = z at E3
      have HP := Lib.hid hp
      have HY := Lib.hid hy
      have HZ := Lib.hid hz
      clear hp hy hz
      have hlen : Hid (k < s.data.toList.length) := hlt
      by_cases ha : 0 < k ∧ c.toNat = 0
      · obtain ⟨h0, hcz⟩ := ha
        have hbad : Hid (Bad s.data.toList) := num_zero hb.out hlen.out h0 (by rw [← HAT.out]; exact hcz)
        have hq : ((c.toNat : Int) == 0) = true := by simp; omega
        clear hcz hb hv E2 E3 E4 E1
        go_wp2
        go_ret2
        exact NumIs.bad hbad.out rfl
      · by_cases hzp : z = p
        · have hq : ((z : Int) != (p : Int)) = false := by simp; omega
          by_cases h8 : c.toNat < 128
          · have hdone := num_done hb.out hlen.out (by rw [← HAT.out]; exact h8) (by rw [← HAT.out]; omega) (by rw [← HAT.out, HP.out, HY.out, HZ.out]; exact hzp) hv.out
            rw [← HAT.out, HP.out, HY.out] at hdone
            have HD := Lib.hid hdone
            clear hdone hzp hb hv
            by_cases h0 : 0 < k
            · have hq2 : ((c.toNat : Int) == 0) = false := by simp; omega
              clear ha
              go_wp2
              go_ret2
              exact NumIs.good HD.out rfl
            · have hk0 : decide (0 < k) = false := by simpa using h0
              clear ha h0
              go_wp2
              go_ret2
              exact NumIs.good HD.out rfl
          · have hstep : Hid (k + 1 ≤ 9 → m ||| y = val s.data.toList (k + 1)) := fun h9 => by
              have := num_step hv.out (by omega)
              rw [← HAT.out, HP.out, HY.out] at this
              exact this
            have hmore : Hid (More s.data.toList (k + 1)) := hb.out.succ (by rw [← HAT.out]; omega)
            have hor : m ||| y < 18446744073709551616 := Nat.or_lt_two_pow (n := 64) hm (by rw [← HY.out]; exact up_lt _ _)
            have hq2 : ((c.toNat : Int) == 0) = false := by simp; omega
            clear hzp hb hv ha
            by_cases h0 : 0 < k
            · go_wp2
              go_round
              case rel => exact ⟨m ||| y, k + 1, by go_num, by go_num, by omega, hor, hmore, hstep⟩
              case measure => simp [intOf]; omega
            · have hk0 : decide (0 < k) = false := by simpa using h0
              clear h0
              go_wp2
              go_round
              case rel => exact ⟨m ||| y, k + 1, by go_num, by go_num, by omega, hor, hmore, hstep⟩
              case measure => simp [intOf]; omega
        · have hq : ((z : Int) != (p : Int)) = true := by simp; omega
          have hbad : Hid (Bad s.data.toList) := num_over hb.out hlen.out (by rw [← HAT.out, HP.out, HY.out, HZ.out]; exact hzp)
          clear hzp hb hv
          by_cases h0 : 0 < k
          · have hq2 : ((c.toNat : Int) == 0) = false := by simp; omega
            clear ha
            go_wp2
            go_ret2
            exact NumIs.bad hbad.out rfl
          · have hk0 : decide (0 < k) = false := by simpa using h0
            clear ha h0
            go_wp2
            go_ret2
            exact NumIs.bad hbad.out rfl
    · have : k = s.size := by omega
      have hbad : Hid (Bad s.data.toList) := num_end (by have := hb.out; subst k; exact this)
      clear this hb hv
      go_wp2
      go_ret2
      exact NumIs.bad hbad.out rfl

end Go.Proofs.YtkbmajgbhpecgaaGreatDoor.Cd

/-
  code.Reader: Uint, Int, In, Take, Text. Conditions: none.
-/
namespace Go.Proofs.YtkbmajgbhpecgaaGreatDoor.Cd
open Go.RowKit

theorem number_list (bs : List UInt8) (w : World) (hs : bs.length ≤ 140737488355328) : Calls Tryz.prog 151 #[.string ⟨bs.toArray⟩] w (NumIs bs w) :=
  number_any ⟨bs.toArray⟩ w hs

theorem extract_tail (bs : List UInt8) (k n : Nat) (hn : n = bs.length) : (ByteArray.mk bs.toArray).extract k n = ⟨(bs.drop k).toArray⟩ := by
  subst hn
  apply ByteArray.ext
  simp [ByteArray.data_extract, List.take_of_length_le]

theorem extract_head (bs : List UInt8) (k : Nat) : (ByteArray.mk bs.toArray).extract 0 k = ⟨(bs.take k).toArray⟩ := by
  apply ByteArray.ext
  simp [ByteArray.data_extract, List.extract_eq_take_drop]

theorem Rd.set0' {w : World} {g : Nat} {bs : List UInt8} {bad : Bool} (h : Rd w g bs bad) {v : Value} (cs : List UInt8) (hv : v = .string ⟨cs.toArray⟩) : Rd (w.setCell ⟨g, 0, none⟩ v) g cs bad := by
  subst hv
  exact h.set0 cs

/-- What a reader's method leaves: its answer, and the reader. -/
def Ans (v : Value) (w : World) (g : Nat) (bs : List UInt8) (bad : Bool) (e : Ending) (w' : World) : Prop := e = .returned v ∧ Left w g bs bad w'

set_option maxRecDepth 100000 in
set_option maxHeartbeats 400000 in
theorem ruint_any (g : Nat) (bs : List UInt8) (bad : Bool) (w : World) (hr : Rd w g bs bad) (hbb : Sane bad bs) (hs : bs.length ≤ 140737488355328) :
    Calls Tryz.prog 138 #[.pointer (some ⟨g, 0, none⟩)] w (Ans (.int .u64 (nv bs : Nat)) w g (uB bs) (uX bs)) := by
  have HS := Lib.hid hbb
  have HR := Lib.hid hr
  have hc0 := hr.cell0
  have hf0 := hr.frozen 0
  clear hbb hr
  cases bad
  · by_cases hbad : Bad bs
    · have hx : Hid (uB bs = [] ∧ uX bs = true ∧ nv bs = 0) := ⟨if_pos hbad, decide_eq_true hbad, nv_bad hbad⟩
      have hn : ((ns bs : Int) == 0) = true := by rw [ns_bad hbad]; rfl
      clear hbad
      go_enter Tryz.func138, Tryz.ntmps138
      go_wp2_with (first | (go_at_call 110; refine (good_any g bs _ _ HR.out).mono ?_; rintro e w1 ⟨rfl, rfl⟩) | (go_at_call 151; refine (number_list bs _ hs).mono ?_; rintro e w1 ⟨rfl, rfl⟩) | (go_at_call 137; refine (fail_any g bs _ _ HR.out).mono ?_; rintro e w1 ⟨rfl, hl⟩))
      go_ret
      obtain ⟨h1, h2, h3⟩ := hx.out
      rw [h1, h2, h3]
      exact ⟨rfl, hl⟩
    · have hx : Hid (uB bs = bs.drop (ns bs) ∧ uX bs = false) := ⟨if_neg hbad, decide_eq_false hbad⟩
      have hn : ((ns bs : Int) == 0) = false := by have := fun h => hbad (ns_zero.1 h); simp; omega
      have hle := ns_le bs
      have hsz : (ByteArray.mk bs.toArray).size = bs.length := rfl
      clear hbad
      go_enter Tryz.func138, Tryz.ntmps138
      go_wp2_with (first | (go_at_call 110; refine (good_any g bs _ _ HR.out).mono ?_; rintro e w1 ⟨rfl, rfl⟩) | (go_at_call 151; refine (number_list bs _ hs).mono ?_; rintro e w1 ⟨rfl, rfl⟩))
      go_ret
      obtain ⟨h1, h2⟩ := hx.out
      rw [h1, h2]
      refine ⟨rfl, HR.out.set0' _ ?_, grown_set _ _ _ _⟩
      rw [extract_tail _ _ _ rfl]
  · have hx : Hid (bs = []) := HS.out rfl
    go_enter Tryz.func138, Tryz.ntmps138
    go_wp2_with (first | (go_at_call 110; refine (good_any g bs _ _ HR.out).mono ?_; rintro e w1 ⟨rfl, rfl⟩))
    go_ret
    have h0 := hx.out
    have hr := HR.out
    subst h0
    exact ⟨rfl, hr, grown_refl _ _⟩

set_option maxHeartbeats 400000 in
theorem rint_any (g : Nat) (bs : List UInt8) (bad : Bool) (w : World) (hr : Rd w g bs bad) (hbb : Sane bad bs) (hs : bs.length ≤ 140737488355328) :
    Calls Tryz.prog 136 #[.pointer (some ⟨g, 0, none⟩)] w (Ans (.int .i64 (zag (nv bs))) w g (uB bs) (uX bs)) := by
  have hu := Lib.hid (ruint_any g bs bad w hr hbb hs)
  have hn := nv_u64 bs
  have hz : Hid (zag (nv bs) = if nv bs % 2 = 1 then -((nv bs / 2 : Nat) : Int) - 1 else ((nv bs / 2 : Nat) : Int)) := rfl
  generalize nv bs = n at hu hn hz ⊢
  have hb := and_one_u64 n (by omega) (by omega)
  by_cases h2 : n % 2 = 1
  · have hb1 : bits BinOp.and IntKind.u64 (n : Int) 1 = 1 := by rw [hb]; omega
    have hz2 : Hid (zag n = -((n / 2 : Nat) : Int) - 1) := by have := hz.out; rw [if_pos h2] at this; exact this
    clear hb h2 hz hr hbb
    go_enter Tryz.func136, Tryz.ntmps136
    go_wp2_with (go_at_call 138; refine hu.out.mono ?_; rintro e w1 ⟨rfl, hl⟩)
    go_ret
    exact ⟨by rw [hz2.out]; rfl, hl⟩
  · have hb1 : bits BinOp.and IntKind.u64 (n : Int) 1 = 0 := by rw [hb]; omega
    have hz2 : Hid (zag n = ((n / 2 : Nat) : Int)) := by have := hz.out; rw [if_neg h2] at this; exact this
    clear hb h2 hz hr hbb
    go_enter Tryz.func136, Tryz.ntmps136
    go_wp2_with (go_at_call 138; refine hu.out.mono ?_; rintro e w1 ⟨rfl, hl⟩)
    go_ret
    exact ⟨by rw [hz2.out]; rfl, hl⟩

theorem left_trans {w w1 w2 : World} {g : Nat} {a b : List UInt8} {x y : Bool} (h : Left w g a x w1) (k : Left w1 g b y w2) : Left w g b y w2 := ⟨k.1, grown_trans h.2 k.2⟩

theorem uX_eq (bs : List UInt8) : (uX bs = true) ↔ Bad bs := decide_eq_true_iff

set_option maxHeartbeats 400000 in
theorem rin_any (g : Nat) (lo hi : Int) (bs : List UInt8) (bad : Bool) (w : World) (hr : Rd w g bs bad) (hbb : Sane bad bs) (hs : bs.length ≤ 140737488355328) :
    Calls Tryz.prog 108 #[.pointer (some ⟨g, 0, none⟩), .int .i64 lo, .int .i64 hi] w (Ans (.int .i64 (inV lo hi bs)) w g (inB lo hi bs) (inX lo hi bs)) := by
  have hu := Lib.hid (rint_any g bs bad w hr hbb hs)
  clear hr hbb
  by_cases hb : Bad bs
  · have hx : Hid (inB lo hi bs = uB bs ∧ inX lo hi bs = uX bs ∧ inV lo hi bs = zag (nv bs)) :=
      ⟨by unfold inB uB; rw [if_pos (.inl hb), if_pos hb], by unfold inX uX; rw [decide_eq_true hb, decide_eq_true (.inl hb)], by unfold inV; rw [if_pos (.inl hb), nv_bad hb]; rfl⟩
    have hx2 : uX bs = true := (uX_eq bs).2 hb
    have HX := Lib.hid hx2
    clear hb
    go_enter Tryz.func108, Tryz.ntmps108
    go_wp2_with (first | (go_at_call 136; refine hu.out.mono ?_; rintro e w1 ⟨rfl, hl⟩) | (go_at_call 110; refine (good_any g _ _ _ hl.1).mono ?_; rintro e w2 ⟨rfl, rfl⟩))
    go_ret
    obtain ⟨h1, h2, h3⟩ := hx.out
    rw [h1, h2, h3]
    exact ⟨rfl, hl⟩
  · have hx2 : uX bs = false := decide_eq_false hb
    by_cases ho : zag (nv bs) < lo ∨ hi < zag (nv bs)
    · have hx : Hid (inB lo hi bs = [] ∧ inX lo hi bs = true ∧ inV lo hi bs = 0) :=
        ⟨by unfold inB; rw [if_pos (.inr ho)], decide_eq_true (.inr ho), by unfold inV; rw [if_pos (.inr ho)]⟩
      clear hb
      generalize zag (nv bs) = z at hu ho
      rcases (by omega : z < lo ∨ (¬ z < lo ∧ hi < z)) with h1 | ⟨h1, h2⟩
      all_goals
        clear ho
        go_enter Tryz.func108, Tryz.ntmps108
        go_wp2_with (first | (go_at_call 136; refine hu.out.mono ?_; rintro e w1 ⟨rfl, hl⟩) | (go_at_call 110; refine (good_any g _ _ _ hl.1).mono ?_; rintro e w2 ⟨rfl, rfl⟩) | (go_at_call 137; refine (fail_any g _ _ _ hl.1).mono ?_; rintro e w2 ⟨rfl, hl2⟩))
        go_ret
        obtain ⟨h1, h2, h3⟩ := hx.out
        rw [h1, h2, h3]
        exact ⟨rfl, left_trans hl hl2⟩
    · have hin : ¬ InBad lo hi bs := fun h => h.elim hb ho
      have hx : Hid (inB lo hi bs = uB bs ∧ inX lo hi bs = false ∧ inV lo hi bs = zag (nv bs)) :=
        ⟨by unfold inB uB; rw [if_neg hin, if_neg hb], decide_eq_false hin, by unfold inV; rw [if_neg hin]⟩
      have h1 : ¬ zag (nv bs) < lo := fun h => ho (.inl h)
      have h2 : ¬ hi < zag (nv bs) := fun h => ho (.inr h)
      clear hb ho hin
      generalize zag (nv bs) = z at hu hx h1 h2
      go_enter Tryz.func108, Tryz.ntmps108
      go_wp2_with (first | (go_at_call 136; refine hu.out.mono ?_; rintro e w1 ⟨rfl, hl⟩) | (go_at_call 110; refine (good_any g _ _ _ hl.1).mono ?_; rintro e w2 ⟨rfl, rfl⟩))
      go_ret
      obtain ⟨h1, h2, h3⟩ := hx.out
      rw [h1, h2, h3]
      exact ⟨rfl, by rw [← hx2]; exact hl⟩

set_option maxHeartbeats 400000 in
theorem rtake_any (g : Nat) (n : Int) (bs : List UInt8) (bad : Bool) (w : World) (hr : Rd w g bs bad) (hbb : Sane bad bs) (hs : bs.length ≤ 140737488355328) :
    Calls Tryz.prog 130 #[.pointer (some ⟨g, 0, none⟩), .int .i64 n] w (Ans (.string ⟨(tkV bad n bs).toArray⟩) w g (tkB bad n bs) (tkX bad n bs)) := by
  have HS := Lib.hid hbb
  have HR := Lib.hid hr
  have hc0 := hr.cell0
  have hf0 := hr.frozen 0
  have hsz : (ByteArray.mk bs.toArray).size = bs.length := rfl
  clear hbb hr
  cases bad
  · by_cases hbad : TkBad false n bs
    · have hx : Hid (tkB false n bs = [] ∧ tkX false n bs = true ∧ tkV false n bs = []) := ⟨if_pos hbad, decide_eq_true hbad, if_pos hbad⟩
      have ho : n < 0 ∨ (bs.length : Int) < n := by
        rcases hbad with h | h
        · cases h
        · exact h
      clear hbad
      rcases (by omega : n < 0 ∨ (¬ n < 0 ∧ (bs.length : Int) < n)) with h0 | ⟨h0, h1⟩
      all_goals
        clear ho
        go_enter Tryz.func130, Tryz.ntmps130
        go_wp2_with (first | (go_at_call 110; refine (good_any g bs _ _ HR.out).mono ?_; rintro e w1 ⟨rfl, rfl⟩) | (go_at_call 137; refine (fail_any g bs _ _ HR.out).mono ?_; rintro e w1 ⟨rfl, hl⟩))
        go_ret
        obtain ⟨h1, h2, h3⟩ := hx.out
        rw [h1, h2, h3]
        exact ⟨rfl, hl⟩
    · have hx : Hid (tkB false n bs = bs.drop n.toNat ∧ tkX false n bs = false ∧ tkV false n bs = bs.take n.toNat) := ⟨if_neg hbad, decide_eq_false hbad, if_neg hbad⟩
      have h0 : ¬ n < 0 := fun h => hbad (.inr (.inl h))
      have h1 : ¬ (bs.length : Int) < n := fun h => hbad (.inr (.inr h))
      clear hbad
      obtain ⟨k, rfl⟩ := Int.eq_ofNat_of_zero_le (by omega : 0 ≤ n)
      have h2 : k ≤ bs.length := by omega
      go_enter Tryz.func130, Tryz.ntmps130
      go_wp2_with (first | (go_at_call 110; refine (good_any g bs _ _ HR.out).mono ?_; rintro e w1 ⟨rfl, rfl⟩))
      go_ret
      obtain ⟨h1, h2, h3⟩ := hx.out
      rw [h1, h2, h3, Int.toNat_natCast]
      refine ⟨?_, HR.out.set0' _ ?_, grown_set _ _ _ _⟩
      · rw [← extract_head]; rfl
      · rw [extract_tail _ _ _ rfl]
  · have hx : Hid (bs = []) := HS.out rfl
    go_enter Tryz.func130, Tryz.ntmps130
    go_wp2_with (first | (go_at_call 110; refine (good_any g bs _ _ HR.out).mono ?_; rintro e w1 ⟨rfl, rfl⟩))
    go_ret
    have h0 := hx.out
    have hr := HR.out
    subst h0
    have hb : TkBad true n [] := .inl rfl
    refine ⟨by unfold tkV; rw [if_pos hb]; rfl, ?_, grown_refl _ _⟩
    unfold tkB tkX
    rw [if_pos hb, decide_eq_true hb]
    exact hr

theorem tk_nil_bad (n : Int) : tkV true n [] = [] ∧ tkB true n [] = [] ∧ tkX true n [] = true := by
  have hb : TkBad true n [] := .inl rfl
  exact ⟨if_pos hb, if_pos hb, decide_eq_true hb⟩

set_option maxRecDepth 100000 in
set_option maxHeartbeats 400000 in
theorem rtext_any (g : Nat) (most : Int) (bs : List UInt8) (bad : Bool) (w : World) (hr : Rd w g bs bad) (hbb : Sane bad bs) (hs : bs.length ≤ 140737488355328) (hm : most ≤ 9223372036854775807) :
    Calls Tryz.prog 109 #[.pointer (some ⟨g, 0, none⟩), .int .i64 most] w (Ans (.string ⟨(txV most bs).toArray⟩) w g (txB most bs) (txX most bs)) := by
  have hu := Lib.hid (ruint_any g bs bad w hr hbb hs)
  clear hr hbb
  have hlen := uB_len bs
  have hsane := Lib.hid (Sane.u bs)
  have hn := nv_u64 bs
  by_cases hb : Bad bs
  · have ht : TxBad most bs := .inl hb
    have hx : Hid (txB most bs = [] ∧ txX most bs = true ∧ txV most bs = []) := ⟨if_pos ht, decide_eq_true ht, if_pos ht⟩
    have hx0 : Hid (uB bs = []) := if_pos hb
    have hx2 : uX bs = true := (uX_eq bs).2 hb
    have hn0 := nv_bad hb
    clear hb ht
    rw [hx2] at hu hsane
    rw [hn0] at hu
    clear hn0
    go_enter Tryz.func109, Tryz.ntmps109
    go_wp2_with (first | (go_at_call 138; refine hu.out.mono ?_; rintro e w1 ⟨rfl, hl⟩) | (go_at_call 110; refine (good_any g _ _ _ hl.1).mono ?_; rintro e w2 ⟨rfl, rfl⟩) | (go_at_call 130; refine (rtake_any g _ _ _ _ hl.1 hsane.out (by omega)).mono ?_; rintro e w2 ⟨rfl, hl2⟩))
    go_ret
    obtain ⟨h1, h2, h3⟩ := hx.out
    rw [h1, h2, h3]
    rw [hx0.out] at hl2
    obtain ⟨k1, k2, k3⟩ := tk_nil_bad 0
    refine ⟨?_, ?_⟩
    · show Ending.returned (.string ⟨(tkV true 0 (uB bs)).toArray⟩) = _
      rw [hx0.out, k1]
    · have := left_trans hl hl2
      rw [k2, k3] at this
      exact this
  · have hx2 : uX bs = false := decide_eq_false hb
    have hx0 : Hid (uB bs = bs.drop (ns bs)) := if_neg hb
    rw [hx2] at hu hsane
    by_cases ho : most < 0 ∨ most < (nv bs : Nat)
    · have ht : TxBad most bs := .inr (by rcases ho with h | h; exact .inl h; exact .inr (.inl h))
      have hx : Hid (txB most bs = [] ∧ txX most bs = true ∧ txV most bs = []) := ⟨if_pos ht, decide_eq_true ht, if_pos ht⟩
      clear hb ht
      generalize nv bs = n at hu ho hn
      rcases (by omega : most < 0 ∨ (¬ most < 0 ∧ most < (n : Int))) with h0 | ⟨h0, h1⟩
      all_goals
        clear ho
        go_enter Tryz.func109, Tryz.ntmps109
        go_wp2_with (first | (go_at_call 138; refine hu.out.mono ?_; rintro e w1 ⟨rfl, hl⟩) | (go_at_call 110; refine (good_any g _ _ _ hl.1).mono ?_; rintro e w2 ⟨rfl, rfl⟩) | (go_at_call 137; refine (fail_any g _ _ _ hl.1).mono ?_; rintro e w2 ⟨rfl, hl2⟩))
        go_ret
        obtain ⟨h1, h2, h3⟩ := hx.out
        rw [h1, h2, h3]
        exact ⟨rfl, left_trans hl hl2⟩
    · have h0 : ¬ most < 0 := fun h => ho (.inl h)
      have h1 : ¬ most < (nv bs : Nat) := fun h => ho (.inr h)
      have hx : Hid (txB most bs = tkB false (nv bs : Nat) (uB bs) ∧ txX most bs = tkX false (nv bs : Nat) (uB bs) ∧ txV most bs = tkV false (nv bs : Nat) (uB bs)) := by
        have e := hx0.out
        have hiff : TxBad most bs ↔ TkBad false (nv bs : Nat) (uB bs) := by
          unfold TxBad TkBad
          rw [e]
          simp only [Bool.false_eq_true, false_or]
          constructor
          · rintro (h | h | h | h)
            · exact absurd h hb
            · exact absurd h h0
            · exact absurd h h1
            · exact .inr (by omega)
          · rintro (h | h)
            · omega
            · exact .inr (.inr (.inr (by omega)))
        unfold Hid txB txX txV tkB tkX tkV
        by_cases hk : TkBad false (nv bs : Nat) (uB bs)
        · rw [if_pos hk, if_pos hk, if_pos (hiff.2 hk), if_pos (hiff.2 hk), decide_eq_true hk, decide_eq_true (hiff.2 hk)]
          exact ⟨rfl, rfl, rfl⟩
        · have hk2 := fun h => hk (hiff.1 h)
          rw [if_neg hk, if_neg hk, if_neg hk2, if_neg hk2, decide_eq_false hk, decide_eq_false hk2, e, Int.toNat_natCast]
          exact ⟨rfl, rfl, rfl⟩
      clear hb ho hx0
      generalize nv bs = n at hu h1 hn hx
      go_enter Tryz.func109, Tryz.ntmps109
      go_wp2_with (first | (go_at_call 138; refine hu.out.mono ?_; rintro e w1 ⟨rfl, hl⟩) | (go_at_call 110; refine (good_any g _ _ _ hl.1).mono ?_; rintro e w2 ⟨rfl, rfl⟩) | (go_at_call 130; refine (rtake_any g _ _ _ _ hl.1 hsane.out (by omega)).mono ?_; rintro e w2 ⟨rfl, hl2⟩))
      go_ret
      obtain ⟨h1, h2, h3⟩ := hx.out
      rw [h1, h2, h3]
      exact ⟨rfl, left_trans hl hl2⟩

/-! ### A nil reader -/

/-- A nil reader's answer: nothing turns. -/
def Still (v : Value) (w : World) (e : Ending) (w' : World) : Prop := e = .returned v ∧ w = w'

set_option maxHeartbeats 400000 in
theorem ruint_nil (w : World) : Calls Tryz.prog 138 #[.pointer none] w (Still (.int .u64 0) w) := by
  go_enter Tryz.func138, Tryz.ntmps138
  go_wp2_with (first | (go_at_call 110; refine (good_nil _).mono ?_; rintro e w1 ⟨rfl, rfl⟩))
  go_ret
  exact ⟨rfl, rfl⟩

set_option maxHeartbeats 400000 in
theorem rint_nil (w : World) : Calls Tryz.prog 136 #[.pointer none] w (Still (.int .i64 0) w) := by
  have hb : bits BinOp.and IntKind.u64 0 1 = 0 := by rw [and_one_u64 0 (by omega) (by omega)]; rfl
  go_enter Tryz.func136, Tryz.ntmps136
  go_wp2_with (go_at_call 138; refine (ruint_nil _).mono ?_; rintro e w1 ⟨rfl, rfl⟩)
  go_ret
  exact ⟨rfl, rfl⟩

set_option maxHeartbeats 400000 in
theorem rin_nil (lo hi : Int) (w : World) : Calls Tryz.prog 108 #[.pointer none, .int .i64 lo, .int .i64 hi] w (Still (.int .i64 0) w) := by
  go_enter Tryz.func108, Tryz.ntmps108
  go_wp2_with (first | (go_at_call 136; refine (rint_nil _).mono ?_; rintro e w1 ⟨rfl, rfl⟩) | (go_at_call 110; refine (good_nil _).mono ?_; rintro e w1 ⟨rfl, rfl⟩))
  go_ret
  exact ⟨rfl, rfl⟩

set_option maxHeartbeats 400000 in
theorem rtake_nil (n : Int) (w : World) : Calls Tryz.prog 130 #[.pointer none, .int .i64 n] w (Still (.string ⟨#[]⟩) w) := by
  go_enter Tryz.func130, Tryz.ntmps130
  go_wp2_with (first | (go_at_call 110; refine (good_nil _).mono ?_; rintro e w1 ⟨rfl, rfl⟩))
  go_ret
  exact ⟨rfl, rfl⟩

set_option maxHeartbeats 400000 in
theorem rtext_nil (most : Int) (w : World) : Calls Tryz.prog 109 #[.pointer none, .int .i64 most] w (Still (.string ⟨#[]⟩) w) := by
  go_enter Tryz.func109, Tryz.ntmps109
  go_wp2_with (first | (go_at_call 138; refine (ruint_nil _).mono ?_; rintro e w1 ⟨rfl, rfl⟩) | (go_at_call 110; refine (good_nil _).mono ?_; rintro e w1 ⟨rfl, rfl⟩) | (go_at_call 130; refine (rtake_nil _ _).mono ?_; rintro e w1 ⟨rfl, rfl⟩))
  go_ret
  exact ⟨rfl, rfl⟩

end Go.Proofs.YtkbmajgbhpecgaaGreatDoor.Cd

/-
  A range over a function whose iterator turns a block of its own between two items, without an early end: the invariant is told of what stays where that block turns, the iterator's state apart. Conditions: the loop stands in no other one.
-/
namespace Go.Proofs.YtkbmajgbhpecgaaGreatDoor.Cd
open Go.RowKit

/-- How a round is left. -/
def roundG (b : Nat) (J : World → Prop) (W : World) : Exit → Act → World → Prop
  | .normal, _, W' => Two b W W' ∧ J W'
  | _, _, _ => False
/-- What such an iterator is asked: it hands all items over; behind each its state is the next one. -/
def HandsG {α : Type} (F : Fence) (n : Nat) (P : Program) (gf : Nat) (lb : Array Value) (encs : α → Array Value) (xs : List α) (r : Nat) (Start : World → Prop) (St : Nat → World → Prop) : Prop :=
  ∀ (l : Nat) (J : Nat → World → Prop) (W : World),
    (∀ k A B, J k A → A.grownBy B (some r) → J k B) →
    (∀ k x A, xs[k]? = some x → J k A → St (k + 1) A → YieldAt F (n - 1) P l (encs x) A fun e A' => e = .returned (.bool true) ∧ J (k + 1) A' ∧ St (k + 1) A') →
    J 0 W → Start W → CallsIn F n P gf (#[.func (.yield l) #[] #[]] ++ lb) W fun e W' => (∃ v, e = .returned v) ∧ J xs.length W' ∧ St xs.length W'

variable {F : Fence} {n : Nat} {P : Program}

theorem wpIn_range_g {α : Type} {gq : Operand} {ps : Array Tmp} {assign body : Code} {Q : Exit → Act → World → Prop} {a : Act} {w : World} (hro : F.round = none) (h1 : 1 ≤ n) {gf : Nat} {lb : Array Value} (hg : a.eval gq = .func (.func gf) #[] lb) (hFg : F.fn gf)
    (eg : ∀ args w, (callFunc gf args).run P w = .ok (.enter gf args) w) {encs : α → Array Value} (hps : ∀ x, (encs x).size = ps.size) (xs : List α) (r : Nat) (hr : r < w.heap.size) (Start : World → Prop) (St : Nat → World → Prop) (hseq : HandsG F (n - 1) P gf lb encs xs r Start St)
    (I : Nat → World → Prop) (hI : ∀ k, (∀ A B, I k A → A.grownBy B (some r) → I k B) ∧ ∀ A o, I k A → I k (A.putObj (w.heap.size + 1) o)) (hSt : ∀ k A o, St k A → St k (A.putObj (w.heap.size + 1) o))
    (h0 : ∀ o, I 0 ((w.alloc (.deferred (some []))).alloc o)) (hS0 : ∀ o, Start ((w.alloc (.deferred (some []))).alloc o)) (a₁ : α → Act)
    (hassign : ∀ (l : Nat) (x : α) (W : World) (K : Act → World → Prop), K (a₁ x) W → assign.wpIn (F.inRound l) (n - 1 - 1) P (Exit.then K (fun _ _ _ => False)) { tmps := (ps.zip (encs x)).foldl (fun t (p, v) => t.setIfInBounds p v) a.tmps, defers := [] } W)
    (hbody : ∀ (k : Nat) (x : α) (W : World), xs[k]? = some x → I k W → St (k + 1) W → w.heap.size + 1 < W.heap.size → body.wpIn (F.inRound (w.heap.size + 1)) (n - 1 - 1) P (roundG w.heap.size (fun W' => I (k + 1) W' ∧ St (k + 1) W') W) (a₁ x) W)
    (hdone : ∀ W, I xs.length W → St xs.length W → W.heap[w.heap.size]? = some (.deferred (some [])) → Q .normal { a with defers := { target := .collected w.heap.size, args := #[] } :: a.defers } W) :
    (Code.rangeFunc gq ps assign body).wpIn F n P Q a w := by
  refine wpIn_rangeFunc ?_
  intro fn hfn
  rw [hro]
  obtain ⟨b, hb⟩ : ∃ b, w.heap.size = b := ⟨_, rfl⟩
  let rec_ : LoopState → Option Code → Obj := fun st pe => .loop { state := st, pending := pe, fn, tmps := a.tmps, params := ps, assign, body, defers := b }
  have hW : ∀ o, (((w.alloc (.deferred (some []))).alloc o).heap[b + 1]? = some o) ∧ (((w.alloc (.deferred (some []))).alloc o).heap[b]? = some (.deferred (some []))) := by
    intro o
    have e1 := World.alloc_heap_new (w.alloc (.deferred (some []))) o
    rw [World.size_alloc, hb] at e1
    have e2 := World.alloc_heap_new w (.deferred (some []))
    rw [hb] at e2
    exact ⟨e1, (Below.heap_alloc _ _ _ (by simp; omega)).trans e2⟩
  refine ⟨b + 1, [{ target := .collected b, args := #[] }], (w.alloc (.deferred (some []))).alloc (rec_ .ready none), { target := .fn (.func gf) lb, args := #[.func (.yield (b + 1)) #[] #[]] }, (w.alloc (.deferred (some []))).alloc (rec_ .ready none), gf, #[.func (.yield (b + 1)) #[] #[]] ++ lb, (w.alloc (.deferred (some []))).alloc (rec_ .ready none), ?_, ?_, fun f' hf' => ?_, ?_, fun _ => h1, ?_⟩
  · rw [← hb]
    have := run_enterLoop_outer (P := P) (w := w) fn a.tmps ps assign body
    rw [this]
    simp only [rec_, hb]
  · simp only [resolve, hg]
    simp [go_sem]
  · have hf' : some gf = some f' := by simpa [Target.leads] using hf'
    injection hf' with hf'
    rw [← hf']
    exact hFg
  · simp [invoke, go_sem, eg]
  simp only [hb] at hI hSt hbody hdone hr ⊢
  refine (hseq (b + 1) (fun k W => I k W ∧ W.heap[b + 1]? = some (rec_ .ready none) ∧ W.heap[b]? = some (.deferred (some []))) _ ?_ ?_ ⟨h0 _, (hW _).1, (hW _).2⟩ (hS0 _)).mono ?_
  · rintro k A B ⟨h1, h2, h3⟩ hAB
    exact ⟨(hI k).1 A B h1 hAB, (hAB.block _ (Array.getElem?_eq_some_iff.1 h2).1 (fun e => by injection e with e; omega)).trans h2, (hAB.block _ (Array.getElem?_eq_some_iff.1 h3).1 (fun e => by injection e with e; omega)).trans h3⟩
  · rintro k x W hx ⟨hi, hl, hk⟩ hst
    have hlt : b + 1 < W.heap.size := (Array.getElem?_eq_some_iff.1 hl).1
    have hy := run_yield (P := P) (args := encs x) hl (hps x)
    refine ⟨fn, _, assign, body, hy, roundIn_of_wpIn hfn (hassign _ x W _ ⟨_, run_beginRound hl rfl, ?_⟩)⟩
    have hl2 : (W.putObj (b + 1) (rec_ .busy none)).heap[b + 1]? = some (rec_ .busy none) := World.putObj_heap_same hlt
    have hk2 : (W.putObj (b + 1) (rec_ .busy none)).heap[b]? = some (.deferred (some [])) := (two_put W _ (by omega)).trans hk
    refine wpIn_mono (hbody k x _ hx ((hI k).2 _ _ hi) (hSt _ _ _ hst) (by rw [World.putObj_size]; exact hlt)) ?_
    rintro e a3 W3 hp
    cases e with
    | normal =>
      obtain ⟨⟨t1, t2⟩, hi3, hs3⟩ := hp
      have h3 : W3.heap[b + 1]? = some (rec_ .busy none) := t2.trans hl2
      exact ⟨_, _, run_endRound none h3, rfl, ⟨(hI _).2 _ _ hi3, World.putObj_heap_same (Array.getElem?_eq_some_iff.1 h3).1, (two_put W3 _ (by omega)).trans (t1.trans hk2)⟩, hSt _ _ _ hs3⟩
    | ret => exact hp.elim
    | exit i => exact hp.elim
    | goto t => exact hp.elim
    | panic ch => exact hp.elim
    | outgrown => exact hp.elim
  · rintro e W2 ⟨⟨v, rfl⟩, ⟨hi, hl, hk⟩, hs⟩
    exact ⟨none, _, run_endLoop hl (by simp), hdone _ ((hI _).2 _ _ hi) (hSt _ _ _ hs) ((two_put W2 _ (by omega)).trans hk)⟩

end Go.Proofs.YtkbmajgbhpecgaaGreatDoor.Cd

/-
  told, decode: the pages that a record tells which encode wrote. Conditions: rising numbers from 0 to 4095, pages of at most 512 bytes, at most 4096 of them.
-/
namespace Go.Proofs.YtkbmajgbhpecgaaGreatDoor.Cd
open Go.RowKit Go.Shelf Go.Maps
attribute [local go_sem] Oper.semAt_some
set_option linter.unusedVariables false

/-- What a record tells from its k-th page on. -/
def restP (ws : Pgs) (k : Nat) : List UInt8 := ((ws.drop k).map recP).flatten
theorem recT_rest (ws : Pgs) : recT ws = enc (zig ws.length) ++ restP ws 0 := by unfold recT restP; rw [List.drop_zero]
theorem restP_succ {ws : Pgs} {k : Nat} {x : Int × List UInt8} (h : ws[k]? = some x) : restP ws k = enc (zig x.1) ++ (enc x.2.length ++ (x.2 ++ restP ws (k + 1))) := by
  obtain ⟨hk, rfl⟩ := List.getElem?_eq_some_iff.1 h
  unfold restP
  rw [List.drop_eq_getElem_cons hk, List.map_cons, List.flatten_cons]
  simp only [recP, List.append_assoc]
theorem restP_end (ws : Pgs) : restP ws ws.length = [] := by unfold restP; rw [List.drop_length]; rfl
theorem restP_le (ws : Pgs) (k : Nat) : (restP ws k).length ≤ (recT ws).length := by
  have h : ∀ (l : Pgs) (j : Nat), ((l.drop j).map recP).flatten.length ≤ ((l.map recP).flatten).length := by
    intro l
    induction l with
    | nil => intro j; simp
    | cons p r ih =>
      intro j
      cases j with
      | zero => simp
      | succ j =>
        have := ih j
        simp only [List.drop_succ_cons, List.map_cons, List.flatten_cons, List.length_append]
        omega
  have := h ws k
  unfold restP recT
  rw [List.length_append]
  omega

theorem in_all {z lo hi : Int} (t : List UInt8) (h0 : -9223372036854775808 ≤ z) (h1 : z ≤ 9223372036854775807) (h2 : lo ≤ z) (h3 : z ≤ hi) :
    inV lo hi (enc (zig z) ++ t) = z ∧ inB lo hi (enc (zig z) ++ t) = t ∧ inX lo hi (enc (zig z) ++ t) = false := by
  have h : ¬ InBad lo hi (enc (zig z) ++ t) := by
    have h4 := in_enc t h0 h1
    rintro (h | h | h)
    · exact h4 (.inl h)
    · rw [nv_enc (zig_lt h0 h1), zag_zig] at h; omega
    · rw [nv_enc (zig_lt h0 h1), zag_zig] at h; omega
  refine ⟨?_, ?_, decide_eq_false h⟩
  · unfold inV; rw [if_neg h, nv_enc (zig_lt h0 h1), zag_zig]
  · unfold inB; rw [if_neg h, ns_enc (zig_lt h0 h1), List.drop_left]

/-- Pages as a journal may tell them. -/
structure Good6 (ws : Pgs) : Prop where
  rising : Rising ws
  few : ws.length ≤ 4096
  lim : ∀ p ∈ ws, 0 ≤ p.1 ∧ p.1 ≤ 4095 ∧ p.2.length ≤ 512

/-- The least number that the k-th page may have. -/
def leastP (ws : Pgs) : Nat → Int
  | 0 => 0
  | k + 1 => (ws.getD k (0, [])).1 + 1
theorem leastP_succ {ws : Pgs} {k : Nat} {x : Int × List UInt8} (h : ws[k]? = some x) : leastP ws (k + 1) = x.1 + 1 := by
  show (ws.getD k (0, [])).1 + 1 = _
  rw [List.getD_eq_getElem?_getD, h]
  rfl
theorem Good6.least {ws : Pgs} (h : Good6 ws) {k : Nat} {x : Int × List UInt8} (hx : ws[k]? = some x) : 0 ≤ leastP ws k ∧ leastP ws k ≤ x.1 := by
  cases k with
  | zero => exact ⟨Int.le_refl _, (h.lim x (List.mem_of_getElem? hx)).1⟩
  | succ k =>
    obtain ⟨hk, e⟩ := List.getElem?_eq_some_iff.1 hx
    have hy : ws[k]? = some (ws[k]'(by omega)) := List.getElem?_eq_getElem (by omega)
    rw [leastP_succ hy]
    have h0 := (h.lim _ (List.mem_of_getElem? hy)).1
    have h1 := (List.pairwise_iff_getElem.1 h.rising.up) k (k + 1) (by omega) hk (by omega)
    rw [e] at h1
    omega

/-- The reader stands ahead of the k-th page. -/
def StP (bs g : Nat) (ws : Pgs) (k : Nat) (W : World) : Prop := W.cell? ⟨bs, 0, none⟩ = some (.pointer (some ⟨g, 0, none⟩)) ∧ bs < W.heap.size ∧ Rd W g (restP ws k) false
def StartP (bs g : Nat) (ws : Pgs) (W : World) : Prop := W.cell? ⟨bs, 0, none⟩ = some (.pointer (some ⟨g, 0, none⟩)) ∧ bs < W.heap.size ∧ Rd W g (recT ws) false

theorem cell_off {W W' : World} {g bs : Nat} {v : Value} (hne : bs ≠ g) (hlt : bs < W.heap.size) (h : W.cell? ⟨bs, 0, none⟩ = some v) (hg : W.grownBy W' (some g)) : W'.cell? ⟨bs, 0, none⟩ = some v :=
  (World.cell?_of_block (hg.block bs hlt (fun e => by injection e with e; exact hne e))).trans h

set_option maxRecDepth 100000 in
set_option maxHeartbeats 3200000 in
theorem told_hands (m bs g : Nat) (hne : bs ≠ g) (ws : Pgs) (hw : Good6 ws) (hl : (recT ws).length ≤ 140737488355328) :
    HandsG Fence.wide m Tryz.prog 107 #[.pointer (some ⟨bs, 0, none⟩)] (fun x : Int × List UInt8 => #[.int .i64 x.1, .string ⟨x.2.toArray⟩]) ws g (StartP bs g ws) (StP bs g ws) := by
  intro l J W hJ hY h0 hS
  have HJ := Lib.hid hJ
  have HY := Lib.hid hY
  have H0 := Lib.hid h0
  have HW := Lib.hid hw
  obtain ⟨s1, s2, s3⟩ := hS
  have hfew := hw.few
  have hfi : (ws.length : Int) ≤ 4096 := by omega
  have CI := rin_any g 0 4096 (recT ws) false W s3 (fun h => by cases h) hl
  obtain ⟨i1, i2, i3⟩ := in_all (z := (ws.length : Int)) (lo := 0) (hi := 4096) (restP ws 0) (by omega) (by omega) (by omega) hfi
  rw [← recT_rest] at i1 i2 i3
  rw [i1, i2, i3] at CI
  have CI := Lib.hid CI
  clear hJ hY h0 hw s3 i1 i2 i3
  refine callsIn_of_wp Tryz.func107 rfl trivial ?_ rfl
  simp only [Tryz.ntmps107, List.size_toArray, List.length_cons, List.length_nil, Nat.reduceAdd, Nat.reduceSub, Array.replicate_succ, Array.replicate_zero, List.push_toArray, List.append_toArray, List.nil_append, List.cons_append]
  gi_wp2_with fail
  refine ⟨trivial, (fun h => by cases h), (callsIn_wide.2 CI.out).mono ?_⟩
  rintro e W1 ⟨rfl, hrd, hg1⟩
  have HST : Hid (StP bs g ws 0 W1) := ⟨cell_off hne s2 s1 hg1, Nat.lt_of_lt_of_le s2 hg1.size, hrd⟩
  have HJ1 := Lib.hid (HJ.out 0 W W1 H0.out hg1)
  clear hrd hg1 CI H0 s1 s2
  gi_wp2_with fail
  gi_loopw [3, 8] (fun lv p wr => ∃ k : Nat, p = .int .i64 k ∧ k ≤ ws.length ∧ lv = .int .i64 (leastP ws k) ∧ Hid (J k wr) ∧ Hid (StP bs g ws k wr)) (fun _ p _ => ws.length - (intOf p).toNat)
  case atStart => exact ⟨0, rfl, Nat.zero_le _, rfl, HJ1, HST⟩
  case round =>
    obtain ⟨k, rfl, hk, rfl, hJk, hst⟩ := hrel
    clear HJ1 HST
    by_cases hlt : k < ws.length
    · have hlt' : (k : Int) < ws.length := by omega
      obtain ⟨x, hx⟩ : ∃ x, ws[k]? = some x := ⟨ws[k], List.getElem?_eq_getElem hlt⟩
      obtain ⟨l1, l2⟩ := HW.out.least hx
      obtain ⟨l3, l4, l5⟩ := HW.out.lim x (List.mem_of_getElem? hx)
      obtain ⟨c1, c2, c3⟩ := hst.out
      have hrl := restP_le ws k
      have hrs := restP_succ hx
      have CI := rin_any g (leastP ws k) 4095 (restP ws k) false wr c3 (fun h => by cases h) (by omega)
      obtain ⟨i1, i2, i3⟩ := in_all (z := x.1) (lo := leastP ws k) (hi := 4095) (enc x.2.length ++ (x.2 ++ restP ws (k + 1))) (by omega) (by omega) l2 l4
      rw [← hrs] at i1 i2 i3
      rw [i1, i2, i3] at CI
      have CI := Lib.hid CI
      have hls := leastP_succ hx
      have hle2 : (enc x.2.length ++ (x.2 ++ restP ws (k + 1))).length ≤ 140737488355328 := by
        rw [hrs, List.length_append] at hrl
        omega
      obtain ⟨lp, hlp⟩ : ∃ y, leastP ws k = y := ⟨_, rfl⟩
      rw [hlp] at CI l1 l2 ⊢
      have HX := Lib.hid hx
      have HLS := Lib.hid hls
      have hlim : lp ≤ 4095 := by omega
      clear c3 i1 i2 i3 hlp hrs hrl hx hls
      obtain ⟨i, b⟩ := x
      dsimp only at l2 l3 l4 l5 hle2 CI
      gi_wp2_with fail
      refine ⟨trivial, (fun h => by cases h), (callsIn_wide.2 CI.out).mono ?_⟩
      rintro e W2 ⟨rfl, hrd2, hg2⟩
      have d1 := cell_off hne c2 c1 hg2
      have d2 : bs < W2.heap.size := Nat.lt_of_lt_of_le c2 hg2.size
      have CT := rtext_any g 512 _ false W2 hrd2 (fun h => by cases h) hle2 (by omega)
      obtain ⟨t1, t2, t3⟩ := tx_all (restP ws (k + 1)) b (by omega) 512 (by omega)
      rw [t1, t2, t3] at CT
      have CT := Lib.hid CT
      have HG2 := Lib.hid hg2
      clear hrd2 hg2 CI t1 t2 t3 c1 c2
      gi_wp2_with fail
      refine ⟨trivial, (fun h => by cases h), (callsIn_wide.2 CT.out).mono ?_⟩
      rintro e W3 ⟨rfl, hrd3, hg3⟩
      have e1 := cell_off hne d2 d1 hg3
      have e2 : bs < W3.heap.size := Nat.lt_of_lt_of_le d2 hg3.size
      have HST3 : Hid (StP bs g ws (k + 1) W3) := ⟨e1, e2, hrd3⟩
      have HJ3 := Lib.hid (HJ.out k wr W3 hJk.out (grown_trans HG2.out hg3))
      have CG := Lib.hid (good_any g (restP ws (k + 1)) false W3 hrd3)
      obtain ⟨fn, tmps, assign, body, hy, hR⟩ := HY.out k (i, b) W3 HX.out HJ3.out HST3.out
      have HR := Lib.hid hR
      clear hrd3 hg3 CT d1 d2 HG2 hR
      gi_wp2_with fail
      refine ⟨trivial, (fun h => by cases h), (callsIn_wide.2 CG.out).mono ?_⟩
      rintro e W4 ⟨rfl, h4⟩
      obtain rfl := h4
      gi_wp2_with fail
      refine ⟨(fun h => by cases h), HR.out.mono ?_⟩
      rintro e W5 ⟨rfl, hJ5, hs5⟩
      have HJ5 := Lib.hid hJ5
      have HS5 := Lib.hid hs5
      have hli : leastP ws (k + 1) = i + 1 := HLS.out
      clear hJ5 hs5 HR CG
      gi_wp2_with fail
      go_roundw
      case rel => exact ⟨k + 1, by go_num, by omega, by rw [hli], HJ5, HS5⟩
      case measure => simp [intOf]; omega
    · have hke : k = ws.length := by omega
      subst hke
      have hlt' : ¬ ((ws.length : Nat) : Int) < ws.length := by omega
      gi_wp2
      go_end0
      exact ⟨⟨_, rfl⟩, hJk.out, hst.out⟩

end Go.Proofs.YtkbmajgbhpecgaaGreatDoor.Cd

/-
  decode: the pages that a record tells which encode wrote, as a map. Conditions: rising numbers from 0 to 4095, pages of at most 512 bytes, at most 4096 of them.
-/
namespace Go.Proofs.YtkbmajgbhpecgaaGreatDoor.Cd
open Go.RowKit Go.Shelf Go.Maps
attribute [local go_sem] Oper.semAt_some
set_option linter.unusedVariables false

section
variable {F : Fence} {n : Nat} {w : World} {ops : Array Oper} {rest : List Oper} {o : Oper} {a : Act} {Q : Exit → Act → World → Prop}
/-- []byte(s), for the walk in a fence. -/
theorem wpListIn_bytes_of (hgd : o.guard = none) (x : Operand) (hop : o.op = .convert 9 49 x) (s : List UInt8) (hx : a.eval x = .string ⟨s.toArray⟩) (hs : s.length ≤ 140737488355328)
    (hK : ∀ g c w', Row w' g c s → w.heap.size ≤ g → Below w.heap.size w w' → wpListIn F n Tryz.prog ops Q rest (a.put o.dst (.slice (some ⟨g, 0, none⟩) s.length c)) w') : wpListIn F n Tryz.prog ops Q (o :: rest) a w := by
  refine wpListIn_plain hgd fun K hK' => ?_
  have hrun := Lib.run_convert_string_bytes (P := Tryz.prog) w 9 49 5 ⟨s.toArray⟩ Tryz.underlying9 Tryz.underlying49 Tryz.underlying5
  have hsz : (ByteArray.mk s.toArray).size = s.length := rfl
  rw [hsz] at hrun
  unfold Oper.wpIn
  refine ⟨by simp [Oper.about, hop], ?_⟩
  rw [Oper.semAt_plain F _ _ (by rw [hop]; intro c hc'; cases hc')]
  simp [execOp, hop, hx, hrun, Result.andThen]
  refine hK' _ _ (hK _ _ _ ⟨grownCap_ge w s.length 0 5, grownCap_le_maxLen w s.length 0 5 (by simp only [maxLen]; omega), by rw [Lib.bytesWorld_size]; omega, fun j u hu => ?_⟩ (Nat.le_refl _) ⟨rfl, rfl, rfl, by rw [Lib.bytesWorld_size]; omega, fun k hk => Lib.bytesWorld_at_old w _ _ k hk⟩)
  have hj := (List.getElem?_eq_some_iff.1 hu).1
  rw [vb_length] at hj
  rw [Lib.bytesWorld_cell w 5 ⟨s.toArray⟩ j hj]
  rw [vb_at s j hj] at hu
  rw [← hu]
  simp [List.getD, hj]

theorem wpListIn_put (hgd : o.guard = none) (m x v : Operand) (hop : o.op = Op.mapUpdate 37 m x v) (b : Nat) (ws : Pgs) (S : Nat → Prop) (hm : a.eval m = .map (some b)) (h : PgMap w S b ws) (hn : ws.length < maxLen)
    (k : Int) (hx : a.eval x = .int .i64 k) (hk : (Lit.int .i64 k).wf = true) (s : SlV) (hv : a.eval v = s.val) (bs : List UInt8) (hs : Far w S s.val bs)
    (hK : ∀ w', PgMap w' S b (insP ws k bs) → w.grownBy w' (some b) → wpListIn F n Tryz.prog ops Q rest (a.put o.dst undef) w') : wpListIn F n Tryz.prog ops Q (o :: rest) a w := by
  obtain ⟨w', hrun, r1, r2⟩ := h.put hn hk s hs
  refine wpListIn_plain hgd fun K' hK' => ?_
  unfold Oper.wpIn
  refine ⟨by simp [Oper.about, hop], ?_⟩
  rw [Oper.semAt_plain F _ _ (by rw [hop]; intro c hc'; cases hc')]
  simp [execOp, hop, hm, hx, hv, hrun, Result.andThen]
  exact hK' _ _ (hK w' r1 r2.grown)
end

theorem ins_snoc {x : Int} {b : List UInt8} : ∀ (l : Pgs), (∀ p ∈ l, p.1 < x) → insP l x b = l ++ [(x, b)]
  | [], _ => rfl
  | p :: r, h => by
    have h1 := h p (by simp)
    unfold insP
    rw [if_neg (by omega), if_neg (by omega), ins_snoc r fun q hq => h q (by simp [hq])]
    rfl
theorem Good6.snoc {ws : Pgs} (h : Good6 ws) {k : Nat} {x : Int × List UInt8} (hx : ws[k]? = some x) : insP (ws.take k) x.1 x.2 = ws.take (k + 1) := by
  obtain ⟨hk, e⟩ := List.getElem?_eq_some_iff.1 hx
  rw [ins_snoc _ fun p hp => ?_, List.take_succ_eq_append_getElem hk, e]
  obtain ⟨j, hj, e2⟩ := List.getElem_of_mem hp
  rw [List.length_take] at hj
  rw [List.getElem_take] at e2
  have := (List.pairwise_iff_getElem.1 h.rising.up) j k (by omega) hk (by omega)
  rw [e2, e] at this
  exact this

theorem far_rowS {w' : World} {g c : Nat} {bs : List UInt8} {S : Nat → Prop} (h : Row w' g c bs) (hg : ¬ S g) : Far w' S (SlV.val ⟨some (g, 0), bs.length, c⟩) bs := by
  refine ⟨h.sl, fun _ A n c' e hs => ?_⟩
  have e : Value.slice (some ⟨g, 0, none⟩) bs.length c = Value.slice (some A) n c' := e
  injection e with e
  injection e with e
  rw [← e] at hs
  exact hg hs
theorem PgMap.stays {w w' : World} {S : Nat → Prop} {b r : Nat} {ws : Pgs} (h : PgMap w S b ws) (hg : w.grownBy w' (some r)) (hr : S r) : PgMap w' S b ws := (h.apart (Apart.grown hg hr)).less fun k _ hk => .inl hk

theorem told_any (g : Nat) (w : World) : Calls Tryz.prog 81 #[.pointer (some ⟨g, 0, none⟩)] w (fun e w' => e = .returned (.func (.func 107) #[] #[.pointer (some ⟨w.heap.size, 0, none⟩)]) ∧ w' = w.alloc (.cells #[.pointer (some ⟨g, 0, none⟩)] 122)) := by
  go_enter Tryz.func81, Tryz.ntmps81
  go_wp2_with fail
  go_ret
  exact ⟨rfl, rfl⟩

/-- What decode answers of such a record. -/
def Decoded (w : World) (ws : Pgs) (e : Ending) (w' : World) : Prop := ∃ mb, e = .returned (.tuple #[.map (some mb), .bool true]) ∧ PgMap w' (fun k => k < w.heap.size) mb ws ∧ Below w.heap.size w w'

set_option maxRecDepth 100000 in
set_option maxHeartbeats 6400000 in
theorem decode_any (ws : Pgs) (hw : Good6 ws) (hl : (recT ws).length ≤ 140737488355328) (w : World) : Calls Tryz.prog 56 #[.string ⟨(recT ws).toArray⟩] w (Decoded w ws) := by
  have HW := Lib.hid hw
  have HH := fun m bs g hne => told_hands m bs g hne ws hw hl
  obtain ⟨rt, hrt⟩ : ∃ x, recT ws = x := ⟨_, rfl⟩
  have HRT := Lib.hid hrt
  rw [hrt] at hl ⊢
  have HH := Lib.hid HH
  have hmm := @run_makeMap Tryz.prog
  clear hw hrt
  refine (callsIn_wide (n := 6)).1 ?_
  refine callsIn_of_wp_marks Tryz.func56 rfl trivial ?_ rfl
  simp only [Tryz.ntmps56, List.size_toArray, List.length_cons, List.length_nil, Nat.reduceAdd, Nat.reduceSub, Array.replicate_succ, Array.replicate_zero, List.push_toArray, List.append_toArray, List.nil_append, List.cons_append]
  gi_wp2_with (refine wpListIn_bytes_of rfl _ rfl rt rfl hl ?_; intro gb cb w1 hrow hgb hb1)
  have CR := Lib.hid (read_any _ rt w1 hrow.sl)
  have HB1 := Lib.hid hb1
  clear hrow hb1
  gi_wp2_with fail
  refine ⟨trivial, (callsIn_wide.2 CR.out).mono ?_⟩
  rintro e w2 ⟨rfl, hrd, hb2⟩
  obtain ⟨g, hg⟩ : ∃ x, w1.heap.size = x := ⟨_, rfl⟩
  rw [hg] at hrd ⊢
  have hz1 := HB1.out.size
  have hz2 := hb2.size
  have hgl : g < w2.heap.size := (Array.getElem?_eq_some_iff.1 hrd).1
  have HB2 := Lib.hid (HB1.out.trans (hb2.mono hz1))
  have HRD := Lib.hid hrd
  clear hrd hb2 CR
  gi_wp2_with fail
  obtain ⟨mb, hmb⟩ : ∃ x, w2.heap.size = x := ⟨_, rfl⟩
  obtain ⟨W0, hW0⟩ : ∃ x, (w2.alloc (.map #[] 0)).alloc (.cells #[.map (some mb)] 37) = x := ⟨_, rfl⟩
  have hm0 : PgMap W0 (fun k => k < w.heap.size ∨ k = g ∨ (mb + 3 ≤ k ∧ k ≤ mb + 4)) mb [] := by
    have h := PgMap.made w2 (fun k => k < w.heap.size ∨ k = g ∨ (mb + 3 ≤ k ∧ k ≤ mb + 4)) (by rintro (h | h | h) <;> omega)
    rw [hmb] at h
    rw [← hW0]
    exact h.below ((Below.refl _ _).alloc (Nat.le_refl _) _)
  have hbx0 : BoxAt W0 (mb + 1) (.map (some mb)) 37 := by
    rw [← hW0]
    have := BoxAt.new (w2.alloc (.map #[] 0)) (.map (some mb)) 37
    rwa [World.size_alloc, hmb] at this
  have hb0 : Below w2.heap.size w2 W0 := by rw [← hW0]; exact ((Below.refl _ _).alloc (Nat.le_refl _) _).alloc (by simp) _
  have hz0 : W0.heap.size = mb + 2 := by rw [← hW0]; simp [hmb]
  rw [hmb, hW0]
  have hgm : g < mb := by omega
  have hwg : w.heap.size ≤ g := by omega
  have HB0 := Lib.hid (HB2.out.trans (hb0.mono (Nat.le_trans hz1 hz2)))
  have HRD0 : Hid (Rd W0 g rt false) := HRD.out.below hb0 hgl
  have HM0 := Lib.hid hm0
  have HX0 := Lib.hid hbx0
  clear hm0 hbx0 hb0 hW0 HRD
  refine ⟨trivial, (callsIn_wide.2 (told_any g W0)).mono ?_⟩
  rintro e W3 ⟨rfl, hw3⟩
  obtain ⟨bs, hbs⟩ : ∃ x, W0.heap.size = x := ⟨_, rfl⟩
  have hb3 : Below W0.heap.size W0 W3 := by rw [hw3]; exact (Below.refl _ _).alloc (Nat.le_refl _) _
  have hz3 : W3.heap.size = mb + 3 := by rw [hw3]; simp; omega
  have hc3 : W3.cell? ⟨bs, 0, none⟩ = some (.pointer (some ⟨g, 0, none⟩)) := by rw [hw3, ← hbs]; exact cell_of_row _ _ 0 _ _ _ (heap_alloc_new _ _)
  have hbs2 : bs = mb + 2 := by omega
  subst hbs2
  have HS3 : Hid (StartP (mb + 2) g ws W3) := ⟨hc3, by omega, by rw [HRT.out]; exact HRD0.out.below hb3 (by omega)⟩
  have HM3 := Lib.hid (HM0.out.below hb3)
  have HX3 := Lib.hid (HX0.out.on (hb3.block _ HX0.out.lt))
  have HB3 := Lib.hid (HB0.out.trans (hb3.mono HB0.out.size))
  rw [hbs]
  clear hb3 hw3 hc3 HRD0 HM0 HX0 HB0 hbs
  gi_wp2
  obtain ⟨I, hI⟩ : ∃ I : Nat → World → Prop, ∀ k W, I k W ↔ (PgMap W (fun k => k < w.heap.size ∨ k = g ∨ (mb + 3 ≤ k ∧ k ≤ mb + 4)) mb (ws.take k) ∧ BoxAt W (mb + 1) (.map (some mb)) 37 ∧ Below w.heap.size w W) := ⟨_, fun _ _ => Iff.rfl⟩
  have HI := Lib.hid hI
  clear hI
  refine wpIn_range_g rfl (by omega) (gf := 107) (lb := #[.pointer (some ⟨mb + 2, 0, none⟩)]) rfl trivial (enters_of Tryz.func107 (by kernel_rfl) rfl) (encs := fun x : Int × List UInt8 => #[.int .i64 x.1, .string ⟨x.2.toArray⟩]) (fun _ => rfl)
    ws g (by omega) (StartP (mb + 2) g ws) (StP (mb + 2) g ws) (HH.out _ (mb + 2) g (by omega)) I ?hI ?hSt ?h0 ?hS0
    (fun x => { tmps := #[.string ⟨rt.toArray⟩, undef, .map none, .bool false, .pointer (some ⟨g, 0, none⟩), .pointer (some ⟨mb + 1, 0, none⟩), .int .i64 x.1, .string ⟨x.2.toArray⟩, .string ⟨rt.toArray⟩, .slice (some ⟨gb, 0, none⟩) rt.length cb, .pointer (some ⟨g, 0, none⟩), .map (some mb), .pointer (some ⟨g, 0, none⟩), .func (.func 107) #[] #[.pointer (some ⟨mb + 2, 0, none⟩)], .int .i64 x.1, .string ⟨x.2.toArray⟩, undef, undef, undef, undef, undef, undef, undef], defers := [] }) ?assign ?body ?done
  case hI =>
    intro k
    refine ⟨fun A B hA hg => ?_, fun A o hA => ?_⟩
    · obtain ⟨a1, a2, a3⟩ := (HI.out _ _).1 hA
      exact (HI.out _ _).2 ⟨a1.stays hg (.inr (.inl rfl)), a2.on (hg.block _ a2.lt (fun e => by injection e with e; omega)), a3.grown hg a3.size (fun k e => by injection e with e; omega)⟩
    · obtain ⟨a1, a2, a3⟩ := (HI.out _ _).1 hA
      have hgp : A.grownBy (A.putObj (W3.heap.size + 1) o) (some (W3.heap.size + 1)) := ⟨rfl, rfl, rfl, by rw [World.putObj_size]; exact Nat.le_refl _, fun j _ hj => World.putObj_heap_other (fun e => hj (by rw [e]))⟩
      refine (HI.out _ _).2 ⟨a1.stays hgp (.inr (.inr (by omega))), a2.on (World.putObj_heap_other (by omega)), a3.os, a3.tape, a3.output, by rw [World.putObj_size]; exact a3.size, fun j hj => (World.putObj_heap_other (by omega)).trans (a3.block j hj)⟩
  case hSt =>
    intro k A o hA
    obtain ⟨s1, s2, s3⟩ := hA
    have e1 : (A.putObj (W3.heap.size + 1) o).heap[(mb + 2)]? = A.heap[(mb + 2)]? := World.putObj_heap_other (by omega)
    exact ⟨(World.cell?_of_block e1).trans s1, by rw [World.putObj_size]; exact s2, (World.putObj_heap_other (by omega)).trans s3⟩
  case h0 =>
    intro o
    have hb : Below W3.heap.size W3 ((W3.alloc (.deferred (some []))).alloc o) := ((Below.refl _ _).alloc (Nat.le_refl _) _).alloc (by simp) _
    exact (HI.out _ _).2 ⟨HM3.out.below hb, HX3.out.on (hb.block _ HX3.out.lt), HB3.out.trans (hb.mono HB3.out.size)⟩
  case hS0 =>
    intro o
    have hb : Below W3.heap.size W3 ((W3.alloc (.deferred (some []))).alloc o) := ((Below.refl _ _).alloc (Nat.le_refl _) _).alloc (by simp) _
    obtain ⟨s1, s2, s3⟩ := HS3.out
    exact ⟨(hb.cell (p := ⟨mb + 2, 0, none⟩) s2).trans s1, Nat.lt_of_lt_of_le s2 hb.size, s3.below hb (by omega)⟩
  case assign =>
    intro l x W K hK
    gi_wp2
    exact hK
  case body =>
    intro k x W hx hIk hst hlt
    obtain ⟨a1, a2, a3⟩ := (HI.out _ _).1 hIk
    obtain ⟨s1, s2, s3⟩ := hst
    obtain ⟨l3, l4, l5⟩ := HW.out.lim x (List.mem_of_getElem? hx)
    have hxw := HW.out.rising.wf x (List.mem_of_getElem? hx)
    have hsn := HW.out.snoc hx
    have hnl : (ws.take k).length < maxLen := by have := HW.out.few; simp only [maxLen]; rw [List.length_take]; omega
    have x0 := a2.cell
    have A1 := Lib.hid a1
    have A2 := Lib.hid a2
    have A3 := Lib.hid a3
    have S1 := Lib.hid s1
    have S3 := Lib.hid s3
    have HSN := Lib.hid hsn
    have hwz : mb + 4 < W.heap.size := by omega
    clear a1 a2 a3 s1 s3 hsn hx hIk
    obtain ⟨i, b⟩ := x
    dsimp only at l3 l4 l5 hxw HSN
    gi_wp2_with (first
      | (gi_at_mapUpdate; refine wpListIn_put rfl _ _ _ rfl mb _ _ rfl HM4.out hnl i rfl hxw ⟨some (g2, 0), b.length, c2⟩ rfl b HF4.out ?_; intro w5 hm5 hg5; have HM5 := Lib.hid hm5; have HG5 := Lib.hid hg5; have hz5 := hg5.size; clear hm5 hg5)
      | (refine wpListIn_bytes_of rfl _ rfl b rfl (by omega) ?_; intro g2 c2 w4 hrow4 hg4 hb4; have HM4 := Lib.hid (A1.out.below hb4); have HF4 := Lib.hid (far_rowS (S := fun k => k < w.heap.size ∨ k = g ∨ (mb + 3 ≤ k ∧ k ≤ mb + 4)) hrow4 (by rintro (h | h | h) <;> omega)); have HB4 := Lib.hid hb4; have hz4 := hb4.size; clear hrow4 hb4))
    have hold : ∀ j, j < W.heap.size → j ≠ mb → w5.heap[j]? = W.heap[j]? := fun j hj hne => (HG5.out.block j (by omega) (fun e => by injection e with e; exact hne e)).trans (HB4.out.block j hj)
    refine ⟨⟨hold _ (by omega) (by omega), hold _ (by omega) (by omega)⟩, (HI.out _ _).2 ⟨by have hm5 := HM5.out; rw [HSN.out] at hm5; exact hm5, A2.out.on (hold _ (by omega) (by omega)), (A3.out.trans (HB4.out.mono A3.out.size)).grown HG5.out (by have := A3.out.size; omega) (fun k e => by injection e with e; omega)⟩, ?_, by omega, (hold _ (by omega) (by omega)).trans S3.out⟩
    exact (World.cell?_of_block (hold (mb + 2) s2 (by omega))).trans S1.out
  case done =>
    intro W hIk hst hK
    obtain ⟨a1, a2, a3⟩ := (HI.out _ _).1 hIk
    obtain ⟨s1, s2, s3⟩ := hst
    rw [List.take_length] at a1
    rw [restP_end] at s3
    have A1 := Lib.hid a1
    have A3 := Lib.hid a3
    have HDEF := Lib.hid hK
    obtain ⟨W4, hW4⟩ : ∃ x, W.drew = x := ⟨_, rfl⟩
    have hb4 : Below W.heap.size W W4 := by rw [← hW4]; exact (Below.refl _ _).drew
    have CE := Lib.hid (end_any g [] false W4 (s3.below hb4 (by have := (Array.getElem?_eq_some_iff.1 s3).1; omega)))
    have e0 := (a2.on (hb4.block _ a2.lt)).cell
    have A4 := Lib.hid (a1.below hb4)
    have B4 := Lib.hid (a3.trans (hb4.mono a3.size))
    have HK4 : Hid (W4.heap[W3.heap.size]? = some (.deferred (some []))) := by
      unfold Hid
      rw [← hW4]
      exact hK
    clear hK hIk s1 s3 a1 a3
    gi_wp2
    refine wpIn_wide.2 (wp_region_noPanic (region_begin (S := fun X => X.cell? ⟨mb + 1, 0, none⟩ = some (.map (some mb))) hW4 (by kernel_rfl) e0 (fun hHeld => ?_)))
    refine take_at (i := 0) (.map (some mb)) (some 20) (by decide) (by rfl) (by kernel_rfl) (by kernel_rfl) (by kernel_rfl) (fun _ _ _ h => h) (by rfl) (fun X hX => by go_simp) (by assumption) ?_
    simp only [Act.put, List.setIfInBounds_toArray, List.set_cons_zero, List.set_cons_succ]
    refine take_at (i := 1) (.pointer (some ⟨g, 0, none⟩)) (some 21) (by decide) (by rfl) (by kernel_rfl) (by kernel_rfl) (by kernel_rfl) (fun _ _ _ h => h) (by rfl) (fun X hX => by go_simp) (by assumption) ?_
    simp only [Act.put, List.setIfInBounds_toArray, List.set_cons_zero, List.set_cons_succ]
    refine wpAnyH_ready (rs := [2]) (by kernel_rfl) (by simp) ?_
    refine AllReadyH.cons rfl (fun K' hK' => ?_) AllReadyH.nil
    go_simp
    refine CE.out.mono ?_
    rintro e5 W5 ⟨rfl, h5⟩
    obtain rfl := h5
    refine hK'.out _ _ hHeld (fun _ => ?_)
    clear hK' K'
    refine wpAnyH_ready (rs := [3]) (by kernel_rfl) (by simp) ?_
    refine AllReadyH.cons rfl (fun K' hK' => ?_) AllReadyH.nil
    go_simp
    refine hK'.out _ _ hHeld (fun _ => ?_)
    clear hK' K'
    refine wpAnyH_ready (rs := [4]) (by kernel_rfl) (by simp) ?_
    refine AllReadyH.cons rfl (fun K' hK' => ?_) AllReadyH.nil
    go_simp
    refine hK'.out _ _ hHeld (fun _ => ?_)
    clear hK' K'
    refine ⟨by kernel_rfl, NoPanic.normal ?_⟩
    gi_wp2
    refine ⟨by simp, .inl ⟨W3.heap.size, _, (by rw [hz3]), run_takeDeferred HK4.out, ?_⟩⟩
    have hpo : ∀ o, W4.grownBy (W4.putObj W3.heap.size o) (some W3.heap.size) := fun o => ⟨rfl, rfl, rfl, by rw [World.putObj_size]; exact Nat.le_refl _, fun j _ hj => World.putObj_heap_other (fun e => hj (by rw [e]))⟩
    exact ⟨_, results_tmp2 rfl _ _ _, mb, rfl, (A4.out.stays (hpo _) (.inr (.inr (by omega)))).less (fun k _ h => .inl h), B4.out.grown (hpo _) B4.out.size (fun k e => by injection e with e; omega)⟩

end Go.Proofs.YtkbmajgbhpecgaaGreatDoor.Cd

/-
  bytes.Trim of noughts: nothing is left. Conditions: none.
-/
namespace Go.Proofs.YtkbmajgbhpecgaaGreatDoor.Cd
open Go.RowKit

set_option maxRecDepth 100000 in
set_option maxHeartbeats 1600000 in
theorem trimR_any (b off n c : Nat) (w : World) (hz : ∀ j, j < n → w.cell? ⟨b, off + j, none⟩ = some (.int .u8 0)) (hn : n ≤ c) (hc : c ≤ 9223372036854775807) :
    Calls Tryz.prog 101 #[.slice (some ⟨b, off, none⟩) n c, .int .u8 0] w (fun e w' => e = .returned (.slice (some ⟨b, off, none⟩) 0 c) ∧ w' = w) := by
  have HZ := Lib.hid hz
  clear hz
  go_enter Tryz.func101, Tryz.ntmps101
  go_wp2_with fail
  go_loopw [0] (fun v wr => ∃ k : Nat, v = .slice (some ⟨b, off, none⟩) k c ∧ k ≤ n ∧ wr = w) (fun v _ => match v with | .slice _ k _ => k | _ => 0)
  case atStart => exact ⟨n, rfl, Nat.le_refl _, rfl⟩
  case round =>
    obtain ⟨k, rfl, hk, h⟩ := hrel
    obtain rfl := h.symm
    by_cases h0 : 0 < k
    · have h0' : (0 : Int) < k := by omega
      obtain ⟨j, rfl⟩ : ∃ j, k = j + 1 := ⟨k - 1, by omega⟩
      have hj1 : ((j + 1 : Nat) : Int) - 1 = (j : Int) := by omega
      have hj2 : j ≤ c := by omega
      have hcz := HZ.out j (by omega)
      go_wp2_with fail
      go_roundw
      case rel => exact ⟨j, rfl, by omega, by trivial⟩
      case measure => exact Nat.lt_succ_self j
    · have hk0 : k = 0 := by omega
      subst hk0
      go_wp2_with fail
      go_ret
      exact ⟨rfl, rfl⟩

theorem trimL_none (A : Option Addr) (c : Nat) (w : World) : Calls Tryz.prog 100 #[.slice A 0 c, .int .u8 0] w (fun e w' => e = .returned (.slice none 0 0) ∧ w' = w) := by
  go_enter Tryz.func100, Tryz.ntmps100
  go_wp2_with fail
  go_loopw [0] (fun v wr => v = .slice A 0 c ∧ wr = w) (fun _ _ => 0)
  case atStart => exact ⟨rfl, rfl⟩
  case round =>
    obtain ⟨rfl, h⟩ := hrel
    obtain rfl := h.symm
    go_wp2_with fail
    go_ret
    exact ⟨rfl, rfl⟩

set_option maxRecDepth 100000 in
set_option maxHeartbeats 1600000 in
/-- Trim of noughts. -/
theorem trim_zeros (A : Option Addr) (n c : Nat) (w : World) (h : Sl w w.heap.size (.slice A n c) (List.replicate n 0)) (hA : 0 < n → ∃ b off, A = some ⟨b, off, none⟩) :
    Calls Tryz.prog 79 #[.slice A n c, .string ⟨#[0]⟩] w (fun e w' => e = .returned (.slice none 0 0) ∧ Below w.heap.size w w') := by
  by_cases h0 : n = 0
  · subst h0
    clear h hA
    go_enter Tryz.func79, Tryz.ntmps79
    go_wp2_with fail
    go_ret
    exact ⟨rfl, Below.refl _ _⟩
  obtain ⟨b, off, rfl⟩ := hA (by omega)
  obtain ⟨A', c', e, h2, h3, h4, h5, h6⟩ := h
  injection e with e1 e2 e3
  clear e2
  subst e1 e3
  rw [List.length_replicate] at h2
  have h3 : c ≤ 9223372036854775807 := h3
  have hz : ∀ j, j < n → w.cell? ⟨b, off + j, none⟩ = some (.int .u8 0) := fun j hj => by
    have := h6 _ rfl j (.int .u8 0) (by rw [vb_at _ j (by rw [List.length_replicate]; exact hj)]; simp)
    rwa [Addr.add_lit] at this
  have CR := Lib.hid (trimR_any b off n c w.drew hz h2 h3)
  have CL := Lib.hid (trimL_none (some ⟨b, off, none⟩) c w.drew)
  have c0 := hz 0 (by omega)
  have hn0 : ¬ (n : Int) = 0 := by omega
  rw [Nat.add_zero] at c0
  have H2 := Lib.hid h2
  clear hz h6 h2 hA h4 h5
  go_enter Tryz.func79, Tryz.ntmps79
  go_wp2_with fail
  go_region_held3 (fun W => W.cell? ⟨b, off, none⟩ = some (.int .u8 0)) (first | exact c0 | assumption) (first
    | (go_at_call 101; refine CR.out.mono ?_; rintro e w' ⟨rfl, rfl⟩)
    | (go_at_call 100; refine CL.out.mono ?_; rintro e w' ⟨rfl, rfl⟩))
  all_goals go_wp2_with fail
  all_goals go_ret
  all_goals exact ⟨rfl, (Below.refl _ _).drew⟩

end Go.Proofs.YtkbmajgbhpecgaaGreatDoor.Cd

/-
  code.Size: how many bytes a number has. Conditions: none.
-/
namespace Go.Proofs.YtkbmajgbhpecgaaGreatDoor.Cd
open Go.RowKit

theorem ret_int {k : IntKind} {a b : Int} (h : a = b) : Ending.returned (.int k b) = .returned (.int k a) := by rw [h]

set_option maxHeartbeats 400000 in
theorem size_any (n : Nat) (hn : n < 18446744073709551616) (w : World) :
    Calls Tryz.prog 131 #[.int .u64 n] w fun e w' => e = .returned (.int .i64 ((enc n).length : Nat)) ∧ w = w' := by
  have hl := enc_u64 n hn
  go_enter Tryz.func131, Tryz.ntmps131
  go_wp2
  go_loop [0, 3] (fun v s => ∃ (m k : Nat), v = .int .u64 m ∧ s = .int .i64 k ∧ 1 ≤ k ∧ m < 18446744073709551616 ∧ k + (enc m).length ≤ 11 ∧ Hid ((enc n).length + 1 = (enc m).length + k)) (fun v _ => (intOf v).toNat)
  case atStart => exact ⟨n, 1, rfl, rfl, by omega, hn, by omega, rfl⟩
  case round =>
    obtain ⟨m, k, rfl, rfl, h1, hm, hk, hh⟩ := hrel
    by_cases hc : 127 < m
    · have h2 := enc_hi (n := m) (by omega)
      have h3 : (enc m).length = (enc (m / 128)).length + 1 := by rw [h2]; rfl
      have h4 : Hid ((enc m).length = (enc (m / 128)).length + 1) := h3
      clear h2 h3
      go_wp2
      go_round
      case rel => exact ⟨m / 128, k + 1, by go_num, by go_num, by omega, by omega, by have := h4.out; omega, by have := h4.out; have := hh.out; unfold Hid; omega⟩
      case measure => simp [intOf]; omega
    · have h2 : Hid ((enc m).length = 1) := by unfold Hid; rw [enc_lo (by omega)]; rfl
      go_wp2
      go_ret
      have := h2.out
      have := hh.out
      exact ⟨ret_int (by omega), rfl⟩

end Go.Proofs.YtkbmajgbhpecgaaGreatDoor.Cd

/-
  frame.first, frame.One: the record that bytes begin with. Conditions: none.
-/
namespace Go.Proofs.YtkbmajgbhpecgaaGreatDoor.Cd
open Go.RowKit

/-- What first leaves. -/
def FirstIs (w : World) (g : Nat) (bs : List UInt8) (e : Ending) (w' : World) : Prop :=
  ((∃ x, frm x <+: bs ∧ e = .returned (.tuple #[.string ⟨x.toArray⟩, .int .i64 ((frm x).length : Nat)]) ∧ Rd w' g (bs.drop (frm x).length) false) ∨
    (¬ HasRec bs ∧ e = .returned (.tuple #[.string ⟨#[]⟩, .int .i64 0]))) ∧ w.grownBy w' (some g)

theorem grown_below {a b c : World} {g : Nat} (h : a.grownBy b (some g)) (k : Below b.heap.size b c) : a.grownBy c (some g) :=
  ⟨k.os.trans h.os, k.tape.trans h.tape, k.output.trans h.output, Nat.le_trans h.size k.size, fun i hi hn => (k.block i (Nat.lt_of_lt_of_le hi h.size)).trans (h.block i hi hn)⟩

/-- A slice's beginning. -/
theorem sl_take {w : World} {B : Nat} {A : Option Addr} {L cap : Nat} {bs : List UInt8} (h : Sl w B (.slice A L cap) bs) (k : Nat) (hk : k ≤ bs.length) :
    Sl w B (.slice A k cap) (bs.take k) := by
  obtain ⟨A', c, e, h2, h3, h4, h5, h6⟩ := h
  injection e with e1 e2 e3
  subst e1 e2 e3
  have hl : (bs.take k).length = k := by rw [List.length_take]; omega
  refine ⟨A, cap, by rw [hl], by rw [hl]; omega, h3, h4, (fun ad e h0 => h5 ad e (by omega)), fun ad e j u hu => ?_⟩
  have hj := (List.getElem?_eq_some_iff.1 hu).1
  rw [vb_length, hl] at hj
  refine h6 ad e j u ?_
  rw [← hu]
  simp only [vb, List.map_take]
  rw [List.getElem?_take, if_pos hj]

theorem ret_pair {a : Value} {k : IntKind} {x y : Int} (h : x = y) : Ending.returned (.tuple #[a, .int k x]) = .returned (.tuple #[a, .int k y]) := by rw [h]

set_option maxRecDepth 100000 in
set_option maxHeartbeats 1600000 in
theorem first_any (g : Nat) (v : Value) (bs : List UInt8) (w : World) (hr : Rd w g bs false) (h : Sl w w.heap.size v bs) (hg : g < w.heap.size) (hs : ∀ W : World, w.grownBy W (some g) → Sl W W.heap.size v bs) (hb : bs.length ≤ 140737488355328) :
    Calls Tryz.prog 99 #[.pointer (some ⟨g, 0, none⟩), v] w (FirstIs w g bs) := by
  obtain ⟨A, c, rfl, h2, h3⟩ := h.len
  have h3 : c ≤ 9223372036854775807 := h3
  have htx := Lib.hid (rtext_any g bs.length bs false w hr (Sane.start _) hb (by omega))
  have HS := Lib.hid hs
  have HTL := Lib.hid (txV_len (bs.length : Int) bs)
  have HBL := Lib.hid (txB_len (bs.length : Int) bs)
  clear hr hs h
  have h64 : bs.length < 18446744073709551616 := by omega
  cases hX : txX bs.length bs
  · by_cases h4 : (txB (bs.length : Int) bs).length < 4
    · have hno : Hid (¬ HasRec bs) := no_rec h64 (.inr (.inl h4))
      generalize hR : txB (bs.length : Int) bs = R at *
      generalize txV (bs.length : Int) bs = T at *
      rw [hX] at htx
      have htk : Hid (tkX false 4 R = true) := decide_eq_true (.inr (.inr (by omega)))
      clear hR hX h4
      go_enter Tryz.func99, Tryz.ntmps99
      go_wp2_with (first | (go_at_call 109; refine htx.out.mono ?_; rintro e w1 ⟨rfl, hl1⟩) | (go_at_call 130; refine (rtake_any g 4 R false w1 hl1.1 (Sane.start _) (by have := HBL.out; omega)).mono ?_; rintro e w2 ⟨rfl, hl2⟩; rw [htk.out] at hl2) | (go_at_call 110; refine (good_any g _ _ _ hl2.1).mono ?_; rintro e w3 ⟨rfl, rfl⟩))
      go_ret2
      exact ⟨.inr ⟨hno.out, rfl⟩, (left_trans hl1 hl2).2⟩
    · have h4' : 4 ≤ (txB (bs.length : Int) bs).length := by omega
      have h1 := one_tx hX
      have hrec := Lib.hid (fun hk => rec_of hX hk)
      have hno := Lib.hid (fun hk => no_rec h64 (.inr (.inr hk)))
      generalize hR : txB (bs.length : Int) bs = R at *
      generalize hT : txV (bs.length : Int) bs = T at *
      rw [hX] at htx
      have htk : Hid (tkX false 4 R = false ∧ tkV false 4 R = R.take 4 ∧ tkB false 4 R = R.drop 4) := by
        have hn : ¬ TkBad false 4 R := by
          rintro (h | h | h)
          · cases h
          · omega
          · omega
        exact ⟨decide_eq_false hn, if_neg hn, if_neg hn⟩
      obtain ⟨n, hn⟩ : ∃ n, (enc T.length).length = n := ⟨_, rfl⟩
      have hsz : n + T.length + R.length = bs.length := by
        have := congrArg List.length h1
        rw [List.length_append, List.length_append] at this
        omega
      have htake : Hid (bs.take (n + T.length) = enc T.length ++ T) := by
        unfold Hid
        rw [← h1, List.take_append_of_le_length (by rw [List.length_append]; omega), List.take_of_length_le (by rw [List.length_append]; omega)]
      have hdrop : Hid (bs.drop (n + T.length + 4) = R.drop 4) := by
        unfold Hid
        have e : (enc T.length ++ T).length = n + T.length := by rw [List.length_append, hn]
        rw [← h1, ← e, List.drop_append]
        simp
      have hfl : Hid ((frm T).length = n + T.length + 4) := by unfold Hid; rw [frm_len, hn]
      have hszT := size_any T.length (by omega)
      rw [hn] at hszT
      have HN := Lib.hid hn
      have HSZ := Lib.hid hszT
      clear hR hT hX h4 h1 hn hszT
      by_cases hk : R.take 4 = le4 (crc (enc T.length ++ T))
      · have hpre := Lib.hid (hrec.out hk)
        have HK := Lib.hid hk
        clear hrec hno hk
        go_enter Tryz.func99, Tryz.ntmps99
        go_wp2_with (first | (go_at_call 109; refine htx.out.mono ?_; rintro e w1 ⟨rfl, hl1⟩) | (go_at_call 130; refine (rtake_any g 4 R false w1 hl1.1 (Sane.start _) (by have := HBL.out; omega)).mono ?_; rintro e w2 ⟨rfl, hl2⟩; rw [htk.out.1, htk.out.2.2] at hl2; rw [htk.out.2.1]) | (go_at_call 110; refine (good_any g _ _ _ hl2.1).mono ?_; rintro e w3 ⟨rfl, rfl⟩) | (go_at_call 131; refine (HSZ.out _).mono ?_; rintro e w4 ⟨rfl, rfl⟩))
        have hl3 := left_trans hl1 hl2
        refine (tail_any _ (enc T.length ++ T) w2 (by have := sl_take (HS.out w2 hl3.2) (n + T.length) (by omega); rw [htake.out] at this; exact this)).mono ?_
        rintro e w3 ⟨v3, rfl, ho3, hb3⟩
        have hcv := run_text_of w3 _ v3 _ ho3.sl
        generalize le4 (crc (enc T.length ++ T)) = P at *
        rw [HK.out]
        have hq : (P == P) = true := by simp
        go_wp2_with fail
        go_ret2
        exact ⟨.inl ⟨T, hpre.out, (by rw [hfl.out]; exact ret_pair rfl), by rw [hfl.out, hdrop.out]; exact hl3.1.below hb3 (by have := hl3.2.size; omega)⟩, grown_below hl3.2 hb3⟩
      · have hno2 := Lib.hid (hno.out hk)
        clear hrec hno
        go_enter Tryz.func99, Tryz.ntmps99
        go_wp2_with (first | (go_at_call 109; refine htx.out.mono ?_; rintro e w1 ⟨rfl, hl1⟩) | (go_at_call 130; refine (rtake_any g 4 R false w1 hl1.1 (Sane.start _) (by have := HBL.out; omega)).mono ?_; rintro e w2 ⟨rfl, hl2⟩; rw [htk.out.1, htk.out.2.2] at hl2; rw [htk.out.2.1]) | (go_at_call 110; refine (good_any g _ _ _ hl2.1).mono ?_; rintro e w3 ⟨rfl, rfl⟩) | (go_at_call 131; refine (HSZ.out _).mono ?_; rintro e w4 ⟨rfl, rfl⟩))
        have hl3 := left_trans hl1 hl2
        refine (tail_any _ (enc T.length ++ T) w2 (by have := sl_take (HS.out w2 hl3.2) (n + T.length) (by omega); rw [htake.out] at this; exact this)).mono ?_
        rintro e w3 ⟨v3, rfl, ho3, hb3⟩
        have hcv := run_text_of w3 _ v3 _ ho3.sl
        generalize le4 (crc (enc T.length ++ T)) = P at *
        generalize R.take 4 = Q at *
        have hq : (Q == P) = false := by simpa using hk
        clear hk
        go_wp2_with fail
        go_ret2
        exact ⟨.inr ⟨hno2.out, rfl⟩, grown_below hl3.2 hb3⟩
  · have hno : Hid (¬ HasRec bs) := no_rec h64 (.inl hX)
    have hR : txB (bs.length : Int) bs = [] := by unfold txB; rw [if_pos (of_decide_eq_true hX)]
    rw [hX, hR] at htx
    generalize txV (bs.length : Int) bs = T at *
    obtain ⟨k1, k2, k3⟩ := tk_nil_bad 4
    have K3 := Lib.hid k3
    clear hR hX k1 k2 k3 HBL
    go_enter Tryz.func99, Tryz.ntmps99
    go_wp2_with (first | (go_at_call 109; refine htx.out.mono ?_; rintro e w1 ⟨rfl, hl1⟩) | (go_at_call 130; refine (rtake_any g 4 [] true w1 hl1.1 (fun _ => rfl) (by simp)).mono ?_; rintro e w2 ⟨rfl, hl2⟩; rw [K3.out] at hl2) | (go_at_call 110; refine (good_any g _ _ _ hl2.1).mono ?_; rintro e w3 ⟨rfl, rfl⟩))
    go_ret2
    exact ⟨.inr ⟨hno.out, rfl⟩, (left_trans hl1 hl2).2⟩

theorem first_at (v : Value) (bs : List UInt8) (w : World) (g : Nat) (hr : Rd w g bs false) (h : Sl w g v bs) (hb : bs.length ≤ 140737488355328) :
    Calls Tryz.prog 99 #[.pointer (some ⟨g, 0, none⟩), v] w (FirstIs w g bs) := by
  have hg := hr.lt
  refine first_any g v bs w hr (h.more (by omega)) hg (fun W hW => ?_) hb
  have hk : ∀ p : Addr, p.block < g → W.cell? p = w.cell? p := fun p hp => World.cell?_of_block (hW.block p.block (by omega) (fun e => by injection e with e; omega))
  exact (h.keep hk).more (by have := hW.size; omega)

/-- What One answers. -/
def OneIs (w : World) (bs : List UInt8) (e : Ending) (w' : World) : Prop :=
  ((∃ x, frm x = bs ∧ e = .returned (.tuple #[.string ⟨x.toArray⟩, .bool true])) ∨ ((¬ ∃ x, frm x = bs) ∧ e = .returned (.tuple #[.string ⟨#[]⟩, .bool false]))) ∧ Below w.heap.size w w'

theorem below_grown {w0 w w' : World} {g B : Nat} (h : Below B w0 w) (hg : w.grownBy w' (some g)) (hB : B ≤ w.heap.size) (hr : B ≤ g) : Below B w0 w' :=
  h.grown hg hB (fun k hk => by injection hk with hk; omega)

end Go.Proofs.YtkbmajgbhpecgaaGreatDoor.Cd

/-
  frame.Split. Conditions: none.
-/
namespace Go.Proofs.YtkbmajgbhpecgaaGreatDoor.Cd
open Go.RowKit

/-- What Split answers. -/
def SplitIs (w : World) (bs : List UInt8) (e : Ending) (w' : World) : Prop :=
  ∃ u ds cur, Splits bs ds cur ∧ e = .returned (.tuple #[u, .int .i64 ((flat ds).length : Nat)]) ∧ OwnS w' w.heap.size u ds ∧ Below w.heap.size w w'

/-- What is left of a slice reads as what is left of the bytes. -/
theorem sl_rest {w : World} {B : Nat} {A : Option Addr} {c : Nat} {bs : List UInt8} (h : Sl w B (.slice A bs.length c) bs) (n : Nat) (hn : n ≤ bs.length) (C : Option Addr) (hC : c ≠ n → C = A.map (·.add n)) (hC2 : c = n → C = A) :
    Sl w B (.slice C (bs.length - n) (c - n)) (bs.drop n) := by
  obtain ⟨A', c', e, h2, h3, h4, h5, h6⟩ := h
  injection e with e1 _ e3
  subst e1 e3
  refine ⟨C, c - n, by rw [List.length_drop], by rw [List.length_drop]; omega, by omega, fun hnone => ?_, fun ad e h0 => ?_, fun ad e j u hu => ?_⟩
  · by_cases hcn : c = n
    · omega
    · have := hC hcn
      rw [hnone] at this
      have hA : A = none := by cases A with
        | none => rfl
        | some _ => cases this
      have := h4 hA
      omega
  · rw [List.length_drop] at h0
    have hcn : c ≠ n := by omega
    have := hC hcn
    rw [e] at this
    cases A with
    | none => cases this
    | some a =>
      injection this with this
      rw [this, block_of_add]
      exact h5 a rfl (by omega)
  · have hj := (List.getElem?_eq_some_iff.1 hu).1
    rw [vb_length, List.length_drop] at hj
    have hcn : c ≠ n := by omega
    have := hC hcn
    rw [e] at this
    cases A with
    | none => cases this
    | some a =>
      injection this with this
      have hu2 : (vb bs)[n + j]? = some u := by
        rw [← hu]
        simp only [vb, List.map_drop, List.getElem?_drop]
      have h7 := h6 a rfl (n + j) u hu2
      rw [this, Go.Deep.add_add]
      exact h7

set_option maxRecDepth 100000 in
set_option maxHeartbeats 1600000 in
theorem split_any (v : Value) (bs : List UInt8) (w : World) (h : Sl w w.heap.size v bs) (hb : bs.length ≤ 1048576) :
    Calls Tryz.prog 78 #[v] w (SplitIs w bs) := by
  obtain ⟨A, c, rfl, h2, h3⟩ := h.len
  have h3 : c ≤ 9223372036854775807 := h3
  have H := Lib.hid h
  clear h
  go_enter Tryz.func78, Tryz.ntmps78
  go_wp2_with fail
  refine (read_any _ bs w H.out).mono ?_
  rintro e w1 ⟨rfl, hr1, hb1⟩
  have HR1 := Lib.hid hr1
  have hlt1 := hr1.lt
  clear hr1
  go_wp2_with fail
  go_loopw [4, 5] (fun o t wr => ∃ ds cur, Hid (bs = flat ds ++ cur) ∧ t = .int .i64 ((flat ds).length : Nat) ∧ Hid (OwnS wr (w.heap.size + 1) o ds) ∧ Hid (Rd wr w.heap.size cur false) ∧ Below w.heap.size w wr) (fun _ t _ => bs.length - (intOf t).toNat)
  case atStart => exact ⟨[], bs, rfl, rfl, OwnS.nil _ _, HR1.out, hb1⟩
  case round =>
    obtain ⟨ds, cur, he, rfl, ho, hr, hbel⟩ := hrel
    have hsz := hbel.size
    have hlen : (flat ds).length + cur.length = bs.length := by have := congrArg List.length he.out; rw [List.length_append] at this; omega
    have hdrop : Hid (bs.drop (flat ds).length = cur) := by unfold Hid; rw [he.out, List.drop_left]
    have hds := flat_ge ds
    generalize hn : (flat ds).length = n at *
    have HN := Lib.hid hn
    clear hn
    by_cases hcn : c = n
    · have hsl := sl_rest (H.out.below hbel) n (by omega) A (fun hq => absurd hcn hq) (fun _ => rfl)
      subst hcn
      rw [hdrop.out, Nat.sub_self, show bs.length - c = 0 by omega] at hsl
      have hf := Lib.hid (first_at _ cur wr w.heap.size hr.out hsl (by omega))
      clear hsl
      go_wp2_with fail
      refine hf.out.mono ?_
      rintro e w2 ⟨⟨x, hx, rfl, hr2⟩ | ⟨hno, rfl⟩, hg⟩
      · exfalso
        have := hx.length_le
        have := frm_ge x
        omega
      · have HB := Lib.hid (below_grown hbel hg hsz (Nat.le_refl _))
        have HNO := Lib.hid hno
        have HO := Lib.hid ((OwnS.far ho.out hg (Nat.lt_succ_self _)).lower (Nat.le_succ _))
        clear hno hg
        go_wp2_with fail
        go_ret2
        exact ⟨_, ds, cur, ⟨he.out, HNO.out⟩, by rw [HN.out]; rfl, HO.out, HB.out⟩
    · have hsl := sl_rest (H.out.below hbel) n (by omega) (A.map (fun x => x.add n)) (fun _ => rfl) (fun hq => absurd hq hcn)
      rw [hdrop.out] at hsl
      have hf := Lib.hid (first_at _ cur wr w.heap.size hr.out hsl (by omega))
      clear hsl
      go_wp2_with fail
      refine hf.out.mono ?_
      rintro e w2 ⟨⟨x, hx, rfl, hr2⟩ | ⟨hno, rfl⟩, hg⟩
      · have hxl := hx.length_le
        have hge := frm_ge x
        have HO := Lib.hid (OwnS.far ho.out hg (Nat.lt_succ_self _))
        have hs2 := hg.size
        have HB := Lib.hid (below_grown hbel hg hsz (Nat.le_refl _))
        have HR2 := Lib.hid hr2
        have hz : (((frm x).length : Int) == 0) = false := by rw [beq_eq_false_iff_ne]; omega
        have HF : Hid ((flat (ds ++ [x])).length = n + (frm x).length) := by unfold Hid; rw [flat_append, flat_one, List.length_append, HN.out]
        have HE : Hid (bs = flat (ds ++ [x]) ++ cur.drop (frm x).length) := by
          unfold Hid
          obtain ⟨t, ht⟩ := hx
          rw [flat_append, flat_one, List.append_assoc, ← ht, List.drop_left, ht]
          exact he.out
        clear hx hr2 hg
        generalize (frm x).length = m at *
        go_wp2_with (at_builtin; refine wp_append_strs rfl _ _ rfl (w.heap.size + 1) _ ds rfl ?ho ?hB _ (w2.heap.size + 1) [x] rfl ?hn ?hm ?hK)
        case ho => exact HO.out.alloc _
        case hB => simp; omega
        case hn => exact strs_one _ _ _
        case hm => simp; omega
        case hK =>
          intro v3 w3 ho3 hb3
          go_wp2_with fail
          go_roundw
          case rel => exact ⟨ds ++ [x], cur.drop m, HE.out, by rw [HF.out]; go_num, ho3, (HR2.out.below ((Below.refl _ _).alloc (Nat.le_refl _) _) HR2.out.lt).below hb3 (Nat.lt_succ_self _), (HB.out.alloc (by omega) _).trans (hb3.mono (by omega))⟩
          case measure => simp [intOf]; omega
      · have HB := Lib.hid (below_grown hbel hg hsz (Nat.le_refl _))
        have HNO := Lib.hid hno
        have HO := Lib.hid ((OwnS.far ho.out hg (Nat.lt_succ_self _)).lower (Nat.le_succ _))
        clear hno hg
        go_wp2_with fail
        go_ret2
        exact ⟨_, ds, cur, ⟨he.out, HNO.out⟩, by rw [HN.out]; rfl, HO.out, HB.out⟩

end Go.Proofs.YtkbmajgbhpecgaaGreatDoor.Cd
