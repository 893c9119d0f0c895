/-
  New. Conditions: none.
-/
import Derived.Test.YtlchmkpnehbnlaaGreatDoorG4
import Derived.Shelf.SlMaps.Clone
/-
  A side that is new; maps.Clone. Conditions: none.
-/
namespace Go.Proofs.YtlchmkpnehbnlaaGreatDoor.Cd
open Go.RowKit

def Blank (w : World) (e : Ending) (w' : World) : Prop :=
  ∃ bc bp, e = .returned (.agg #[.map (some bc), .map (some bp)]) ∧ Side w' bc bp (fun _ => []) 0 0 ∧ w.heap.size ≤ bc ∧ w.heap.size ≤ bp ∧ Below w.heap.size w w'

theorem lst_nil : lst (fun _ => []) = fun _ => none := by
  funext x
  unfold lst
  split <;> simp

set_option maxRecDepth 100000 in
set_option maxHeartbeats 800000 in
theorem blank_any (w : World) : Calls Tryz.prog 29 #[] w (Blank w) := by
  have hmm := @run_makeMap Tryz.prog
  go_enter Tryz.func29, Tryz.ntmps29
  go_wp2_with fail
  have hA := asz w (.cells #[.map (some (w.heap.size + 1)), .map (some (w.heap.size + 1 + 1))] 69)
  have h1 := MapF.made cntK (w.alloc (.cells #[.map (some (w.heap.size + 1)), .map (some (w.heap.size + 1 + 1))] 69))
  have h2 := MapF.made pgK ((w.alloc (.cells #[.map (some (w.heap.size + 1)), .map (some (w.heap.size + 1 + 1))] 69)).alloc (.map #[] 0))
  rw [hA] at h1
  rw [asz, hA] at h2
  have hB : Below w.heap.size w (((w.alloc (.cells #[.map (some (w.heap.size + 1)), .map (some (w.heap.size + 1 + 1))] 69)).alloc (.map #[] 0)).alloc (.map #[] 0)) :=
    (((Below.refl _ _).alloc (Nat.le_refl _) _).alloc (by simp) _).alloc (by simp; omega) _
  exact bodyPost_ret (v := .agg #[.map (some (w.heap.size + 1)), .map (some (w.heap.size + 1 + 1))]) (by simp [results, Tryz.results29, go_sem]) rfl
    ⟨_, _, rfl, ⟨⟨_, 0, h1.alloc _, Nat.le_refl _, fun _ _ => rfl⟩, by rw [lst_nil]; exact h2, by omega⟩, by omega, by omega, hB⟩

set_option maxRecDepth 100000 in
set_option maxHeartbeats 2000000 in
theorem clone_cnt (b n : Nat) (q : Nat → Option Nat) (w : World) (h : MapF cntK w b n q) :
    Calls Tryz.prog 126 #[.map (some b)] w fun e w' => e = .returned (.map (some w.heap.size)) ∧ MapF cntK w' w.heap.size n q ∧ Below w.heap.size w w' := by
  obtain ⟨D, ⟨es, clock, hb, hF⟩, hD⟩ := h
  have hq := fun w => run_eql_map_nil_sl (P := Tryz.prog) w 66 _ _ (some b) Tryz.underlying66
  go_enter Tryz.func126, Tryz.ntmps126
  go_wp2_with fail
  rw [run_callFunc_extern Tryz.func161 (by kernel_rfl) (by kernel_rfl) (by kernel_rfl) (e := Extern.MapsClone.clone) (by kernel_rfl), run_maps_clone_sl w 66 hb]
  simp only [Result.andThen]
  rw [Oper.upon_value]
  go_wp2_with fail
  rw [run_typeAssert_map_sl _ 66 20 _ _ _ Tryz.underlying66]
  simp only [Result.andThen]
  rw [Oper.upon_value]
  go_wp2_with fail
  go_ret
  exact ⟨rfl, ⟨D, ⟨es, clock, heap_alloc_new _ _, hF⟩, hD⟩, (Below.refl _ w).alloc (Nat.le_refl _) _⟩

set_option maxRecDepth 100000 in
set_option maxHeartbeats 2000000 in
theorem clone_pgs (b n : Nat) (q : Nat × Int → Option (List UInt8)) (w : World) (h : MapF pgK w b n q) :
    Calls Tryz.prog 127 #[.map (some b)] w fun e w' => e = .returned (.map (some w.heap.size)) ∧ MapF pgK w' w.heap.size n q ∧ Below w.heap.size w w' := by
  obtain ⟨D, ⟨es, clock, hb, hF⟩, hD⟩ := h
  have hq := fun w => run_eql_map_nil_sl (P := Tryz.prog) w 67 _ _ (some b) Tryz.underlying67
  go_enter Tryz.func127, Tryz.ntmps127
  go_wp2_with fail
  rw [run_callFunc_extern Tryz.func161 (by kernel_rfl) (by kernel_rfl) (by kernel_rfl) (e := Extern.MapsClone.clone) (by kernel_rfl), run_maps_clone_sl w 67 hb]
  simp only [Result.andThen]
  rw [Oper.upon_value]
  go_wp2_with fail
  rw [run_typeAssert_map_sl _ 67 20 _ _ _ Tryz.underlying67]
  simp only [Result.andThen]
  rw [Oper.upon_value]
  go_wp2_with fail
  go_ret
  exact ⟨rfl, ⟨D, ⟨es, clock, heap_alloc_new _ _, hF⟩, hD⟩, (Below.refl _ w).alloc (Nat.le_refl _) _⟩

end Go.Proofs.YtlchmkpnehbnlaaGreatDoor.Cd

/-
  New. Conditions: none.
-/
namespace Go.Proofs.YtlchmkpnehbnlaaGreatDoor.Cd
open Go.RowKit

def freshP (room : Int) : Pd := ⟨(if room < 0 then 0 else if 4096 < room then 4096 else room.toNat), fun _ => none, 0, fun _ => [], 0, fun _ => [], 0, [], false, 0, 0, 0⟩
theorem freshP_fits (room : Int) : Fits (freshP room) 0 := by
  refine ⟨by omega, ?_, Nat.le_refl _, Nat.le_refl _, Nat.zero_le _, by show 0 < 18446744073709551616; omega, fun x hx => by simp [freshP] at hx, fun f => Nat.zero_le _, fun f => Nat.zero_le _, Nat.zero_le _, Nat.le_refl _, fun s k h => by simp [freshP] at h, fun f _ => ⟨rfl, rfl⟩⟩
  show (if room < 0 then 0 else if 4096 < room then 4096 else room.toNat) ≤ 4096
  split
  · omega
  · split <;> omega

def NewIs (room : Int) (w : World) (e : Ending) (w' : World) : Prop :=
  ∃ g S, e = .returned (.pointer (some ⟨g, 0, none⟩)) ∧ Rep w' g S (freshP room) 0 ∧ (∀ k, S k → w.heap.size ≤ k) ∧ Below w.heap.size w w'

theorem new_end {room X : Int} {w w1 w2 : World} {c1 p1 c2 p2 : Nat} (hX : ((if room < 0 then 0 else if 4096 < room then 4096 else room.toNat : Nat) : Int) = X) (hf : MapF filK w1 w.heap.size 0 (fun _ => none)) (h1 : Side w1 c1 p1 (fun _ => []) 0 0) (h2 : Side w2 c2 p2 (fun _ => []) 0 0)
    (q1 : w.heap.size + 1 ≤ c1) (q2 : w.heap.size + 1 ≤ p1) (q3 : w1.heap.size ≤ c2) (q4 : w1.heap.size ≤ p2) (b1 : Below (w.alloc (.map #[] 0)).heap.size (w.alloc (.map #[] 0)) w1) (b2 : Below w1.heap.size w1 w2) (hza : (w.alloc (.map #[] 0)).heap.size = w.heap.size + 1) :
    NewIs room w (.returned (.pointer (some ⟨w2.heap.size, 0, none⟩)))
      (w2.alloc (.cells #[.int .i64 X, .map (some w.heap.size), .int .i64 0, .map (some c1), .map (some p1), .map (some c2), .map (some p2), .slice none 0 0, .bool false, .int .i64 0, .int .i64 0, .int .u64 0] 73)) := by
  subst hX
  have s1 := b1.size
  have s2 := b2.size
  have l1 := h1.lt
  have l2 := h2.lt
  have hB : Below w.heap.size w w2 := (((Below.refl _ _).alloc (Nat.le_refl _) _).trans (b1.mono (by omega))).trans (b2.mono (by omega))
  refine ⟨w2.heap.size, fun k => w.heap.size ≤ k ∧ k < w2.heap.size + 1, rfl, ⟨w.heap.size, c1, p1, c2, p2, .slice none 0 0, freshP_fits room, heap_alloc_new _ _, ⟨0, (hf.below b2 hf.lt).alloc _, Nat.le_refl _⟩, ?_, ⟨0, ?_, Nat.le_refl _⟩, World.ownsRow_nil _ _ _ _, ⟨by omega, by omega, by omega, by omega, by omega⟩, ⟨by omega, by omega, by omega, by omega⟩, ⟨by omega, by omega, by omega, by omega⟩, (fun b hb => by cases hb), ⟨⟨by omega, by omega⟩, ⟨by omega, by omega⟩, ⟨by omega, by omega⟩, ⟨by omega, by omega⟩, ⟨by omega, by omega⟩, ⟨by omega, by omega⟩⟩, (fun b hb => by cases hb), fun k hk => by simp; omega⟩, fun k hk => hk.1, hB.alloc (by omega) _⟩
  · exact (h1.below b2 l1.1 l1.2).heap (Below.heap_alloc _ _ _ (by omega)) (Below.heap_alloc _ _ _ (by omega))
  · exact h2.heap (Below.heap_alloc _ _ _ (by omega)) (Below.heap_alloc _ _ _ (by omega))

set_option maxRecDepth 100000 in
set_option maxHeartbeats 1600000 in
theorem new_disk (room : Int) (w : World) (h1 : -9223372036854775808 ≤ room) (h2 : room ≤ 9223372036854775807) : Calls Tryz.prog 10 #[.int .i64 room] w (NewIs room w) := by
  have hmm := @run_makeMap Tryz.prog
  go_enter Tryz.func10, Tryz.ntmps10
  go_wp2_with fail
  all_goals
    refine (blank_any _).mono ?_
    rintro e w1 ⟨c1, p1, rfl, hs1, hc1, hp1, hb1⟩
    have HS1 := Lib.hid hs1
    have HB1 := Lib.hid hb1
    have hz1 := hb1.size
    have hza : (w.alloc (.map #[] 0)).heap.size = w.heap.size + 1 := by simp
    have HF := Lib.hid ((MapF.made filK w).below hb1 (by omega))
    clear hs1 hb1
    go_wp2_with fail
    refine (blank_any _).mono ?_
    rintro e w2 ⟨c2, p2, rfl, hs2, hc2, hp2, hb2⟩
    have HS2 := Lib.hid hs2
    have HB2 := Lib.hid hb2
    have hz2 := hb2.size
    clear hs2 hb2
    go_wp2_with fail
    go_ret
    first
      | exact new_end (X := 0) (by split <;> (try split) <;> omega) HF.out HS1.out HS2.out (by omega) (by omega) (by omega) (by omega) HB1.out HB2.out hza
      | exact new_end (X := 4096) (by split <;> (try split) <;> omega) HF.out HS1.out HS2.out (by omega) (by omega) (by omega) (by omega) HB1.out HB2.out hza
      | exact new_end (X := room) (by split <;> (try split) <;> omega) HF.out HS1.out HS2.out (by omega) (by omega) (by omega) (by omega) HB1.out HB2.out hza

end Go.Proofs.YtlchmkpnehbnlaaGreatDoor.Cd
