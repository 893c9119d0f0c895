/-
  alive answers true. Conditions: none.
-/
import Derived.Test.YtbepanhndpkdhaaMine
import Derived.BigQuiet
namespace Go.Proofs.Ytbepanhndpkdhaa.Cd
open Go.RowKit

def al1 : Pd := (writeR (freshP 5) [97] 0 [120]).1
def al2 : Pd := (writeR al1 [97] 1 [121]).1
def al3 : Pd := offP al2 2
def al4 : Pd := { al3 with off := false }
theorem al_1 : writeR (freshP 5) [97] 0 [120] = (al1, 0) := Prod.ext rfl (by decide +kernel)
theorem al_2 : writeR al1 [97] 1 [121] = (al2, 0) := Prod.ext rfl (by decide +kernel)
theorem al_c0 : countR (freshP 5) [97] ≤ (freshP 5).nn := by decide +kernel
theorem al_c1 : countR al1 [97] ≤ al1.nn := by decide +kernel
theorem al_f1 : ¬ al1.fuse = 1 := by decide +kernel
theorem al_lose : (playS (keepSel 2) 0 al2.late (al2.safe, al2.ns)).2 ≤ al2.room := by decide +kernel
theorem al_free : (al4.room : Int) - al4.nn = 3 := by decide +kernel
theorem al_r0 : (readR al4 [97] 0).2 = 0 ∧ (readR al4 [97] 0).1.head? = some 0 := by decide +kernel
theorem al_r1 : (readR al4 [97] 1).2 = 0 ∧ (readR al4 [97] 1).1.head? = some 121 := by decide +kernel

/-- What a read of a page that is there leaves. -/
theorem read_there {P : Pd} {s : List UInt8} {i : Int} {x : UInt8} {w w' : World} {e : Ending} (hr : (readR P s i).2 = 0 ∧ (readR P s i).1.head? = some x) (h : ReadIs P s i w e w') :
    ∃ b, e = .returned (.tuple #[.slice (some ⟨b, 0, none⟩) 512 512, .int .i64 0]) ∧ Below w.heap.size w w' ∧ b < w'.heap.size ∧ w.heap.size ≤ b ∧ w'.cell? ⟨b, 0, none⟩ = some (.int .u8 x.toNat) := by
  rcases h with ⟨p, hp, hl, he, hw⟩ | ⟨n, hn, hp, _⟩
  · rw [hp] at hr
    subst hw
    refine ⟨w.heap.size, he, (Below.refl _ _).alloc (Nat.le_refl _) _, by simp, Nat.le_refl _, ?_⟩
    obtain ⟨_, h2⟩ := hr
    cases p with
    | nil => simp at h2
    | cons y r =>
      injection h2 with h2
      rw [cell_of_row _ _ _ _ _ _ (heap_alloc_new _ _)]
      simp [vb, h2]
  · rw [hp] at hr
    exact absurd hr.1 hn

set_option maxRecDepth 100000 in
set_option maxHeartbeats 1600000 in
theorem alive_any (w : World) : Calls Try.prog 10 #[] w (Gives (.bool true) w) := by
  go_enter Try.func10, Try.ntmps10
  go_wp2_with fail
  refine (new_mine 5 w (by omega) (by omega)).mono ?_
  rintro e w1 ⟨g, rfl, hm, hb⟩
  have HM := Lib.hid hm
  have HB := Lib.hid hb
  clear hm hb
  have kc := bytes_const
  go_wp2_with fail
  refine (write_mine w.heap.size g 0 (freshP 5) [97] [120] 0 1 _ _ w1 HM.out rfl rfl (by simp) (by simp) (by omega) (by omega) al_c0 (fun h => absurd h (by decide +kernel))).mono ?_
  rintro e w2 ⟨rfl, hm2, hb2⟩
  rw [al_1] at hm2
  have HM2 := Lib.hid hm2
  have HB2 := Lib.hid (HB.out.trans hb2)
  rw [al_1]
  clear hm2 hb2 HM HB
  go_wp2_with fail
  refine (write_mine w.heap.size g 4 al1 [97] [121] 1 1 _ _ w2 HM2.out rfl rfl (by simp) (by simp) (by omega) (by omega) al_c1 (fun h => absurd h al_f1)).mono ?_
  rintro e w3 ⟨rfl, hm3, hb3⟩
  rw [al_2] at hm3
  have HM3 := Lib.hid hm3
  have HB3 := Lib.hid (HB2.out.trans hb3)
  rw [al_2]
  clear hm3 hb3 HM2 HB2
  go_wp2_with fail
  refine (off_mine w.heap.size g 8 2 al2 w3 HM3.out (by omega) (fun _ => al_lose)).mono ?_
  rintro e w4 ⟨rfl, hm4, hb4⟩
  have HM4 := Lib.hid hm4
  have HB4 := Lib.hid (HB3.out.trans hb4)
  clear hm4 hb4 HM3 HB3
  go_wp2_with fail
  refine (on_mine w.heap.size g 8 al3 w4 HM4.out).mono ?_
  rintro e w5 ⟨rfl, hm5, hb5⟩
  have HM5 : Hid (Mine w5 w.heap.size g 8 al4) := Lib.hid hm5
  have HB5 := Lib.hid (HB4.out.trans hb5)
  clear hm5 hb5 HM4 HB4
  go_wp2_with fail
  refine (read_mine w.heap.size g 8 al4 [97] 0 w5 HM5.out (by simp) rfl).mono ?_
  intro e w6 hr6
  obtain ⟨b6, rfl, hb6, hz6, hy6, hc6⟩ := read_there al_r0 hr6
  have HM6 := Lib.hid (HM5.out.below hb6)
  have HB6 := Lib.hid (HB5.out.trans (hb6.mono HM5.out.1))
  clear hr6 hb6 HM5 HB5
  go_wp2_with fail
  refine (read_mine w.heap.size g 8 al4 [97] 1 w6 HM6.out (by simp) rfl).mono ?_
  intro e w7 hr7
  obtain ⟨b7, rfl, hb7, hz7, hy7, hc7⟩ := read_there al_r1 hr7
  have hc67 : w7.cell? ⟨b6, 0, none⟩ = some (.int .u8 0) := (hb7.cell (p := ⟨b6, 0, none⟩) (by exact hz6)).trans hc6
  have hc77 : w7.cell? ⟨b7, 0, none⟩ = some (.int .u8 121) := hc7
  have HM7 := Lib.hid (HM6.out.below hb7)
  have HB7 := Lib.hid (HB6.out.trans (hb7.mono HM6.out.1))
  clear hr7 hb7 hc6 hc7 HM6 HB6
  go_wp2_with fail
  refine (free_mine w.heap.size g 8 al4 w7 HM7.out).mono ?_
  rintro e w8 ⟨rfl, hb8⟩
  have HB8 := Lib.hid (HB7.out.trans (hb8.mono HM7.out.1))
  rw [al_free]
  clear hb8
  go_wp2_with fail
  go_ret
  exact ⟨rfl, HB8.out⟩

end Go.Proofs.Ytbepanhndpkdhaa.Cd
