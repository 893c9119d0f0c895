/-
  Acts: Sync, Cut, Remove; what an act does unless the power goes in it. Conditions: none.
-/
import Derived.Test.YtbepanhndpkdhaaBurn
namespace Go.Proofs.Ytbepanhndpkdhaa.Cd
open Go.RowKit

/-- What an act leaves. -/
def Acted (g N M : Nat) (S : Nat → Prop) (P Q : Pd) (w : World) (e : Ending) (w' : World) : Prop :=
  (P.fuse = 1 → Makes g S (loseP (ticP P) P.keep) (N + 1) (.int .i64 8) w e w') ∧ (P.fuse ≠ 1 → Makes g S Q M (.int .i64 0) w e w')

/-- What a closure does to a disk, behind a tick. -/
def Does (fn : Nat) (caps : Array Value) (g N M : Nat) (S : Nat → Prop) (P Q : Pd) (w : World) : Prop :=
  ∀ w1, Apart S w w1 → Rep w1 g (since S w w1) (ticP P) (N + 1) → Calls Try.prog fn caps w1 (Makes g (since S w w1) Q M (.tuple #[]) w1)

set_option maxRecDepth 100000 in
set_option maxHeartbeats 800000 in
theorem act_sync (g N M : Nat) (S : Nat → Prop) (P Q : Pd) (a1 a2 : Addr) (w : World) (h : Rep w g S P N) (hr : P.fuse = 1 → (playS (keepSel P.keep) 0 P.late (P.safe, P.ns)).2 ≤ P.room) (hN : N < 137438953472)
    (hd : P.fuse ≠ 1 → Does 49 #[.pointer (some a1), .pointer (some a2)] g N M S P Q w) :
    Calls Try.prog 48 #[.pointer (some ⟨g, 0, none⟩), .func (.func 49) #[] #[.pointer (some a1), .pointer (some a2)]] w (Acted g N M S P Q w) := by
  have hb := burn_any g N S P w h hr hN
  have HB := Lib.hid hb
  have HD := Lib.hid hd
  clear hb h hd hr
  by_cases h1 : P.fuse = 1
  · have he : burnP P = loseP (ticP P) P.keep := by unfold burnP; rw [if_pos h1]
    rw [he, decide_eq_true h1] at HB
    go_enter Try.func48, Try.ntmps48
    go_wp2_with fail
    refine HB.out.mono ?_
    intro e w2 hmk
    have HMK := Lib.hid hmk
    obtain rfl := hmk.1
    clear hmk
    go_wp2_with fail
    go_ret
    exact ⟨fun _ => ⟨rfl, HMK.out.2⟩, fun h => absurd h1 h⟩
  · have he : burnP P = ticP P := by unfold burnP; rw [if_neg h1]
    rw [he, decide_eq_false h1] at HB
    have HD2 := Lib.hid (HD.out h1)
    clear HD
    go_enter Try.func48, Try.ntmps48
    go_wp2_with fail
    refine HB.out.mono ?_
    intro e w2 hmk
    have HMK := Lib.hid hmk
    have hdo := Lib.hid (HD2.out w2 hmk.2.2 hmk.2.1)
    obtain rfl := hmk.1
    clear hmk HD2
    go_wp2_with fail
    refine hdo.out.mono ?_
    intro e w3 hmk3
    have HM3 := Lib.hid (HMK.out.trans hmk3)
    obtain rfl := hmk3.1
    clear hmk3 hdo
    go_wp2_with fail
    go_ret
    exact ⟨fun h => absurd h h1, fun _ => ⟨rfl, HM3.out.2⟩⟩

set_option maxRecDepth 100000 in
set_option maxHeartbeats 800000 in
theorem act_cut (g N M : Nat) (S : Nat → Prop) (P Q : Pd) (a1 a2 a3 : Addr) (w : World) (h : Rep w g S P N) (hr : P.fuse = 1 → (playS (keepSel P.keep) 0 P.late (P.safe, P.ns)).2 ≤ P.room) (hN : N < 137438953472)
    (hd : P.fuse ≠ 1 → Does 51 #[.pointer (some a1), .pointer (some a2), .pointer (some a3)] g N M S P Q w) :
    Calls Try.prog 48 #[.pointer (some ⟨g, 0, none⟩), .func (.func 51) #[] #[.pointer (some a1), .pointer (some a2), .pointer (some a3)]] w (Acted g N M S P Q w) := by
  have hb := burn_any g N S P w h hr hN
  have HB := Lib.hid hb
  have HD := Lib.hid hd
  clear hb h hd hr
  by_cases h1 : P.fuse = 1
  · have he : burnP P = loseP (ticP P) P.keep := by unfold burnP; rw [if_pos h1]
    rw [he, decide_eq_true h1] at HB
    go_enter Try.func48, Try.ntmps48
    go_wp2_with fail
    refine HB.out.mono ?_
    intro e w2 hmk
    have HMK := Lib.hid hmk
    obtain rfl := hmk.1
    clear hmk
    go_wp2_with fail
    go_ret
    exact ⟨fun _ => ⟨rfl, HMK.out.2⟩, fun h => absurd h1 h⟩
  · have he : burnP P = ticP P := by unfold burnP; rw [if_neg h1]
    rw [he, decide_eq_false h1] at HB
    have HD2 := Lib.hid (HD.out h1)
    clear HD
    go_enter Try.func48, Try.ntmps48
    go_wp2_with fail
    refine HB.out.mono ?_
    intro e w2 hmk
    have HMK := Lib.hid hmk
    have hdo := Lib.hid (HD2.out w2 hmk.2.2 hmk.2.1)
    obtain rfl := hmk.1
    clear hmk HD2
    go_wp2_with fail
    refine hdo.out.mono ?_
    intro e w3 hmk3
    have HM3 := Lib.hid (HMK.out.trans hmk3)
    obtain rfl := hmk3.1
    clear hmk3 hdo
    go_wp2_with fail
    go_ret
    exact ⟨fun h => absurd h h1, fun _ => ⟨rfl, HM3.out.2⟩⟩

set_option maxRecDepth 100000 in
set_option maxHeartbeats 800000 in
theorem act_remove (g N M : Nat) (S : Nat → Prop) (P Q : Pd) (a1 a2 : Addr) (w : World) (h : Rep w g S P N) (hr : P.fuse = 1 → (playS (keepSel P.keep) 0 P.late (P.safe, P.ns)).2 ≤ P.room) (hN : N < 137438953472)
    (hd : P.fuse ≠ 1 → Does 55 #[.pointer (some a1), .pointer (some a2)] g N M S P Q w) :
    Calls Try.prog 48 #[.pointer (some ⟨g, 0, none⟩), .func (.func 55) #[] #[.pointer (some a1), .pointer (some a2)]] w (Acted g N M S P Q w) := by
  have hb := burn_any g N S P w h hr hN
  have HB := Lib.hid hb
  have HD := Lib.hid hd
  clear hb h hd hr
  by_cases h1 : P.fuse = 1
  · have he : burnP P = loseP (ticP P) P.keep := by unfold burnP; rw [if_pos h1]
    rw [he, decide_eq_true h1] at HB
    go_enter Try.func48, Try.ntmps48
    go_wp2_with fail
    refine HB.out.mono ?_
    intro e w2 hmk
    have HMK := Lib.hid hmk
    obtain rfl := hmk.1
    clear hmk
    go_wp2_with fail
    go_ret
    exact ⟨fun _ => ⟨rfl, HMK.out.2⟩, fun h => absurd h1 h⟩
  · have he : burnP P = ticP P := by unfold burnP; rw [if_neg h1]
    rw [he, decide_eq_false h1] at HB
    have HD2 := Lib.hid (HD.out h1)
    clear HD
    go_enter Try.func48, Try.ntmps48
    go_wp2_with fail
    refine HB.out.mono ?_
    intro e w2 hmk
    have HMK := Lib.hid hmk
    have hdo := Lib.hid (HD2.out w2 hmk.2.2 hmk.2.1)
    obtain rfl := hmk.1
    clear hmk HD2
    go_wp2_with fail
    refine hdo.out.mono ?_
    intro e w3 hmk3
    have HM3 := Lib.hid (HMK.out.trans hmk3)
    obtain rfl := hmk3.1
    clear hmk3 hdo
    go_wp2_with fail
    go_ret
    exact ⟨fun h => absurd h h1, fun _ => ⟨rfl, HM3.out.2⟩⟩

set_option maxRecDepth 100000 in
set_option maxHeartbeats 800000 in
theorem act_rename (g N M : Nat) (S : Nat → Prop) (P Q : Pd) (a1 a2 a3 a4 : Addr) (w : World) (h : Rep w g S P N) (hr : P.fuse = 1 → (playS (keepSel P.keep) 0 P.late (P.safe, P.ns)).2 ≤ P.room) (hN : N < 137438953472)
    (hd : P.fuse ≠ 1 → Does 53 #[.pointer (some a1), .pointer (some a2), .pointer (some a3), .pointer (some a4)] g N M S P Q w) :
    Calls Try.prog 48 #[.pointer (some ⟨g, 0, none⟩), .func (.func 53) #[] #[.pointer (some a1), .pointer (some a2), .pointer (some a3), .pointer (some a4)]] w (Acted g N M S P Q w) := by
  have hb := burn_any g N S P w h hr hN
  have HB := Lib.hid hb
  have HD := Lib.hid hd
  clear hb h hd hr
  by_cases h1 : P.fuse = 1
  · have he : burnP P = loseP (ticP P) P.keep := by unfold burnP; rw [if_pos h1]
    rw [he, decide_eq_true h1] at HB
    go_enter Try.func48, Try.ntmps48
    go_wp2_with fail
    refine HB.out.mono ?_
    intro e w2 hmk
    have HMK := Lib.hid hmk
    obtain rfl := hmk.1
    clear hmk
    go_wp2_with fail
    go_ret
    exact ⟨fun _ => ⟨rfl, HMK.out.2⟩, fun h => absurd h1 h⟩
  · have he : burnP P = ticP P := by unfold burnP; rw [if_neg h1]
    rw [he, decide_eq_false h1] at HB
    have HD2 := Lib.hid (HD.out h1)
    clear HD
    go_enter Try.func48, Try.ntmps48
    go_wp2_with fail
    refine HB.out.mono ?_
    intro e w2 hmk
    have HMK := Lib.hid hmk
    have hdo := Lib.hid (HD2.out w2 hmk.2.2 hmk.2.1)
    obtain rfl := hmk.1
    clear hmk HD2
    go_wp2_with fail
    refine hdo.out.mono ?_
    intro e w3 hmk3
    have HM3 := Lib.hid (HMK.out.trans hmk3)
    obtain rfl := hmk3.1
    clear hmk3 hdo
    go_wp2_with fail
    go_ret
    exact ⟨fun h => absurd h h1, fun _ => ⟨rfl, HM3.out.2⟩⟩

/-- A cell that leads to the disk. -/
def CaptD (w : World) (a : Addr) (g : Nat) : Prop := w.cell? a = some (.pointer (some ⟨g, 0, none⟩))
def CaptS (w : World) (a : Addr) (s : List UInt8) : Prop := w.cell? a = some (.string ⟨s.toArray⟩)
def CaptN (w : World) (a : Addr) (n : Nat) : Prop := w.cell? a = some (.int .i64 n)
theorem cell_far {w w1 : World} {S : Nat → Prop} (ha : Apart S w w1) {a : Addr} {v : Value} (h : w.cell? a = some v) (hs : ¬ S a.block) : w1.cell? a = some v := (ha.cell (World.block_lt_of_cell? w a h) hs).trans h

theorem does_sync (g N k : Nat) (S : Nat → Prop) (P : Pd) (a1 a2 : Addr) (w : World) (hk : k ≤ P.made) (h1 : CaptD w a1 g) (h2 : CaptN w a2 k) (hs1 : ¬ S a1.block) (hs2 : ¬ S a2.block) :
    Does 49 #[.pointer (some a1), .pointer (some a2)] g N (N + 1) S P (settleP (ticP P) k) w := by
  intro w1 ha hrep
  have e1 : w1.cell? a1 = some (.pointer (some ⟨g, 0, none⟩)) := cell_far ha h1 hs1
  have e2 : w1.cell? a2 = some (.int .i64 k) := cell_far ha h2 hs2
  have hse := settle_any g (N + 1) k (since S w w1) (ticP P) w1 hrep hk
  have HSE := Lib.hid hse
  clear hse hrep ha h1 h2
  go_enter Try.func49, Try.ntmps49
  go_wp2_with fail
  refine HSE.out.mono ?_
  intro e w2 hmk
  have HM := Lib.hid hmk
  obtain rfl := hmk.1
  clear hmk
  go_wp2_with fail
  go_end0
  exact HM.out
theorem does_cut (g N k m : Nat) (S : Nat → Prop) (P : Pd) (a1 a2 a3 : Addr) (w : World) (hk : k ≤ P.made) (hm : m ≤ 9223372036854775807) (hN : N + 1 < 137438953472) (h1 : CaptD w a1 g) (h2 : CaptN w a2 k) (h3 : CaptN w a3 m) (hs1 : ¬ S a1.block) (hs2 : ¬ S a2.block) (hs3 : ¬ S a3.block) :
    Does 51 #[.pointer (some a1), .pointer (some a2), .pointer (some a3)] g N (N + 2) S P (shortenP (ticP P) k m) w := by
  intro w1 ha hrep
  have e1 : w1.cell? a1 = some (.pointer (some ⟨g, 0, none⟩)) := cell_far ha h1 hs1
  have e2 : w1.cell? a2 = some (.int .i64 k) := cell_far ha h2 hs2
  have e3 : w1.cell? a3 = some (.int .i64 m) := cell_far ha h3 hs3
  have hse := shorten_any g (N + 1) k m (since S w w1) (ticP P) w1 hrep hk hm hN
  have HSE := Lib.hid hse
  clear hse hrep ha h1 h2 h3
  go_enter Try.func51, Try.ntmps51
  go_wp2_with fail
  refine HSE.out.mono ?_
  intro e w2 hmk
  have HM := Lib.hid hmk
  obtain rfl := hmk.1
  clear hmk
  go_wp2_with fail
  go_end0
  exact HM.out
theorem does_remove (g N : Nat) (s : List UInt8) (S : Nat → Prop) (P : Pd) (a1 a2 : Addr) (w : World) (hs : s.length ≤ 140737488355328) (hN : N + 1 < 137438953472) (h1 : CaptD w a1 g) (h2 : CaptS w a2 s) (hs1 : ¬ S a1.block) (hs2 : ¬ S a2.block) :
    Does 55 #[.pointer (some a1), .pointer (some a2)] g N (N + 2) S P (dropP (ticP P) s) w := by
  intro w1 ha hrep
  have e1 : w1.cell? a1 = some (.pointer (some ⟨g, 0, none⟩)) := cell_far ha h1 hs1
  have e2 : w1.cell? a2 = some (.string ⟨s.toArray⟩) := cell_far ha h2 hs2
  have hse := dropd_any g (N + 1) (since S w w1) (ticP P) s w1 hrep hs hN
  have HSE := Lib.hid hse
  clear hse hrep ha h1 h2
  go_enter Try.func55, Try.ntmps55
  go_wp2_with fail
  refine HSE.out.mono ?_
  intro e w2 hmk
  have HM := Lib.hid hmk
  obtain rfl := hmk.1
  clear hmk
  go_wp2_with fail
  go_end0
  exact HM.out

/-- What an act on a file answers, and leaves. -/
def actR (P : Pd) (s : List UInt8) (Q : Nat → Pd) : Pd × Nat := if P.off = true then (P, 8) else match P.files s with
  | none => (P, 5)
  | some k => if P.fuse = 1 then (loseP (ticP P) P.keep, 8) else (Q k, 0)
/-- What a call leaves that answers an error. -/
def Ans (g N : Nat) (S : Nat → Prop) (r : Pd × Nat) (w : World) (e : Ending) (w' : World) : Prop := Makes g S r.1 N (.int .i64 (r.2 : Nat)) w e w'

theorem actR_find {P : Pd} {s : List UInt8} {Q : Nat → Pd} : (P.off = true ∧ findR P s = (0, 8) ∧ actR P s Q = (P, 8)) ∨ (P.off = false ∧ P.files s = none ∧ findR P s = (0, 5) ∧ actR P s Q = (P, 5)) ∨
    ∃ k, P.off = false ∧ P.files s = some k ∧ findR P s = (k, 0) ∧ actR P s Q = if P.fuse = 1 then (loseP (ticP P) P.keep, 8) else (Q k, 0) := by
  unfold findR actR
  cases hoff : P.off
  · right
    cases hf : P.files s with
    | none => left; simp
    | some k => right; exact ⟨k, by simp⟩
  · left; simp

theorem same_makes {g N M : Nat} {S : Nat → Prop} {P : Pd} {v : Value} {w w' : World} (h : Rep w g S P N) (hb : Below w.heap.size w w') (hN : N ≤ M) (hM : M ≤ 137438953472) : Makes g S P M v w (.returned v) w' :=
  ⟨rfl, ((h.mono hN hM).below hb h.lt).more (fun _ => .inl) (since_lt h.lt hb.size), .below hb⟩
theorem acted_ans {g N M L : Nat} {S : Nat → Prop} {P Q : Pd} {w0 w w' : World} {e : Ending} (ha : Apart S w0 w) (h : Acted g N M S P Q w e w') (h1 : N + 1 ≤ L) (h2 : M ≤ L) (hL : L ≤ 137438953472) : Ans g L S (if P.fuse = 1 then (loseP (ticP P) P.keep, 8) else (Q, 0)) w0 e w' := by
  by_cases hf : P.fuse = 1
  · rw [if_pos hf]
    have := makes_up ha (h.1 hf)
    exact ⟨this.1, this.2.1.mono h1 hL, this.2.2⟩
  · rw [if_neg hf]
    have := makes_up ha (h.2 hf)
    exact ⟨this.1, this.2.1.mono h2 hL, this.2.2⟩
theorem acted_val {g N M : Nat} {S : Nat → Prop} {P Q : Pd} {w w' : World} {e : Ending} (h : Acted g N M S P Q w e w') : ∃ n : Nat, e = .returned (.int .i64 n) := by
  by_cases hf : P.fuse = 1
  · exact ⟨8, (h.1 hf).1⟩
  · exact ⟨0, (h.2 hf).1⟩

/-- A box that was laid a moment ago. -/
theorem cell_new2 (w : World) (o1 o2 : Obj) {v : Value} {T : TypeId} (h : o1 = .cells #[v] T) : ((w.alloc o1).alloc o2).cell? ⟨w.heap.size, 0, none⟩ = some v := by
  subst h
  exact cell_of_row _ _ _ _ _ _ (heap_alloc2_old w _ _)
theorem cell_new_at (w w' : World) {v : Value} {T : TypeId} (b : Nat) (hb : b = w.heap.size) (h : w'.heap[w.heap.size]? = (w.alloc (.cells #[v] T)).heap[w.heap.size]?) : w'.cell? ⟨b, 0, none⟩ = some v := by
  subst hb
  exact cell_of_row _ _ _ _ _ _ (h.trans (heap_alloc_new w _))

set_option maxRecDepth 100000 in
set_option maxHeartbeats 1600000 in
theorem sync_any (g N : Nat) (S : Nat → Prop) (P : Pd) (s : List UInt8) (w : World) (h : Rep w g S P N) (hs : s.length ≤ 140737488355328) (hN : N + 4 ≤ 137438953472) (hr : P.fuse = 1 → P.off = false → (playS (keepSel P.keep) 0 P.late (P.safe, P.ns)).2 ≤ P.room) :
    Calls Try.prog 21 #[.pointer (some ⟨g, 0, none⟩), .string ⟨s.toArray⟩] w (Ans g (N + 4) S (actR P s (fun k => settleP (ticP P) k)) w) := by
  have hB : Below w.heap.size w (w.alloc (.cells #[.pointer (some ⟨g, 0, none⟩)] 25)) := ((Below.refl _ _).alloc (Nat.le_refl _) _)
  have hrep1 := h.below hB h.lt
  have hfi := find_any g N S P s _ hrep1 hs
  have hfit := h.fits
  have hnS : ∀ b, w.heap.size ≤ b → ¬ S b := fun b hb e => by have := h.lt _ e; omega
  rcases actR_find (P := P) (s := s) (Q := fun k => settleP (ticP P) k) with ⟨hoff, hf, ha⟩ | ⟨hoff, hq, hf, ha⟩ | ⟨k, hoff, hq, hf, ha⟩
  · rw [hf] at hfi
    rw [ha]
    have HF := Lib.hid hfi
    have H := Lib.hid h
    clear hfi h hB hrep1 hfit hf ha
    go_enter Try.func21, Try.ntmps21
    go_wp2_with fail
    refine HF.out.mono ?_
    rintro e w1 ⟨rfl, rfl⟩
    go_wp2_with fail
    go_ret
    exact same_makes H.out (((Below.refl _ _).alloc (Nat.le_refl _) _).alloc (by simp) _) (by omega) hN
  · rw [hf] at hfi
    rw [ha]
    have HF := Lib.hid hfi
    have H := Lib.hid h
    clear hfi h hB hrep1 hfit hf ha
    go_enter Try.func21, Try.ntmps21
    go_wp2_with fail
    refine HF.out.mono ?_
    rintro e w1 ⟨rfl, rfl⟩
    go_wp2_with fail
    go_ret
    exact same_makes H.out (((Below.refl _ _).alloc (Nat.le_refl _) _).alloc (by simp) _) (by omega) hN
  · rw [hf] at hfi
    rw [ha]
    show Calls _ _ _ _ (Ans g (N + 4) S (if P.fuse = 1 then (loseP (ticP P) P.keep, 8) else (settleP (ticP P) k, 0)) w)
    have hW2 : Below w.heap.size w ((w.alloc (.cells #[.pointer (some ⟨g, 0, none⟩)] 25)).alloc (.cells #[.int .i64 k] 3)) := (((Below.refl _ _).alloc (Nat.le_refl _) _).alloc (by simp) _)
    have hrep2 := h.below hW2 h.lt
    have hap : Apart S w ((w.alloc (.cells #[.pointer (some ⟨g, 0, none⟩)] 25)).alloc (.cells #[.int .i64 k] 3)) := (((Apart.refl _ _).alloc _).alloc _)
    have hcell0 : ((w.alloc (.cells #[.pointer (some ⟨g, 0, none⟩)] 25)).alloc (.cells #[.int .i64 k] 3)).heap[w.heap.size]? = (w.alloc (.cells #[.pointer (some ⟨g, 0, none⟩)] 25)).heap[w.heap.size]? := by
      rw [Below.heap_alloc _ _ _ (by simp; try omega)]
    have hcell1 : ((w.alloc (.cells #[.pointer (some ⟨g, 0, none⟩)] 25)).alloc (.cells #[.int .i64 k] 3)).heap[(w.alloc (.cells #[.pointer (some ⟨g, 0, none⟩)] 25)).heap.size]? = ((w.alloc (.cells #[.pointer (some ⟨g, 0, none⟩)] 25)).alloc (.cells #[.int .i64 k] 3)).heap[(w.alloc (.cells #[.pointer (some ⟨g, 0, none⟩)] 25)).heap.size]? := by
      rfl
    have hact := act_sync g N (N + 1) S P (settleP (ticP P) k) ⟨w.heap.size, 0, none⟩ ⟨w.heap.size + 1, 0, none⟩ _ hrep2 (fun h1 => hr h1 hoff) (by omega)
      (fun _ => does_sync g N k S P _ _ _ (hfit.files s k hq) (cell_new_at w _ _ (by simp) hcell0) (cell_new_at (w.alloc (.cells #[.pointer (some ⟨g, 0, none⟩)] 25)) _ _ (by simp) hcell1) (hnS _ (by show w.heap.size ≤ w.heap.size; omega)) (hnS _ (by show w.heap.size ≤ w.heap.size + 1; omega)))
    obtain ⟨R, hR⟩ : ∃ R, (if P.fuse = 1 then (loseP (ticP P) P.keep, 8) else (settleP (ticP P) k, 0)) = R := ⟨_, rfl⟩
    rw [hR]
    have HRR := Lib.hid hR
    have HF := Lib.hid hfi
    have HACT := Lib.hid hact
    have HAP := Lib.hid hap
    clear hfi h hB hrep1 hrep2 hfit hf ha hact hap hr hR hW2
    go_enter Try.func21, Try.ntmps21
    go_wp2_with fail
    refine HF.out.mono ?_
    rintro e w1 ⟨rfl, rfl⟩
    go_wp2_with fail
    refine HACT.out.mono ?_
    intro e w2 hac
    have HA2 := Lib.hid (acted_ans (L := N + 4) HAP.out hac (by omega) (by omega) hN)
    obtain ⟨n, rfl⟩ := acted_val hac
    clear hac
    go_wp2_with fail
    go_ret
    rw [← HRR.out]
    exact HA2.out

set_option maxRecDepth 100000 in
set_option maxHeartbeats 1600000 in
theorem remove_any (g N : Nat) (S : Nat → Prop) (P : Pd) (s : List UInt8) (w : World) (h : Rep w g S P N) (hs : s.length ≤ 140737488355328) (hN : N + 4 ≤ 137438953472) (hr : P.fuse = 1 → P.off = false → (playS (keepSel P.keep) 0 P.late (P.safe, P.ns)).2 ≤ P.room) :
    Calls Try.prog 24 #[.pointer (some ⟨g, 0, none⟩), .string ⟨s.toArray⟩] w (Ans g (N + 4) S (actR P s (fun _ => dropP (ticP P) s)) w) := by
  have hB : Below w.heap.size w ((w.alloc (.cells #[.pointer (some ⟨g, 0, none⟩)] 25)).alloc (.cells #[.string ⟨s.toArray⟩] 9)) := (((Below.refl _ _).alloc (Nat.le_refl _) _).alloc (by simp) _)
  have hrep1 := h.below hB h.lt
  have hfi := find_any g N S P s _ hrep1 hs
  have hfit := h.fits
  have hnS : ∀ b, w.heap.size ≤ b → ¬ S b := fun b hb e => by have := h.lt _ e; omega
  rcases actR_find (P := P) (s := s) (Q := fun k => dropP (ticP P) s) with ⟨hoff, hf, ha⟩ | ⟨hoff, hq, hf, ha⟩ | ⟨k, hoff, hq, hf, ha⟩
  · rw [hf] at hfi
    rw [ha]
    have HF := Lib.hid hfi
    have H := Lib.hid h
    clear hfi h hB hrep1 hfit hf ha
    go_enter Try.func24, Try.ntmps24
    go_wp2_with fail
    refine HF.out.mono ?_
    rintro e w1 ⟨rfl, rfl⟩
    go_wp2_with fail
    go_ret
    exact same_makes H.out (((Below.refl _ _).alloc (Nat.le_refl _) _).alloc (by simp) _) (by omega) hN
  · rw [hf] at hfi
    rw [ha]
    have HF := Lib.hid hfi
    have H := Lib.hid h
    clear hfi h hB hrep1 hfit hf ha
    go_enter Try.func24, Try.ntmps24
    go_wp2_with fail
    refine HF.out.mono ?_
    rintro e w1 ⟨rfl, rfl⟩
    go_wp2_with fail
    go_ret
    exact same_makes H.out (((Below.refl _ _).alloc (Nat.le_refl _) _).alloc (by simp) _) (by omega) hN
  · rw [hf] at hfi
    rw [ha]
    show Calls _ _ _ _ (Ans g (N + 4) S (if P.fuse = 1 then (loseP (ticP P) P.keep, 8) else (dropP (ticP P) s, 0)) w)
    have hW2 : Below w.heap.size w ((w.alloc (.cells #[.pointer (some ⟨g, 0, none⟩)] 25)).alloc (.cells #[.string ⟨s.toArray⟩] 9)) := (((Below.refl _ _).alloc (Nat.le_refl _) _).alloc (by simp) _)
    have hrep2 := h.below hW2 h.lt
    have hap : Apart S w ((w.alloc (.cells #[.pointer (some ⟨g, 0, none⟩)] 25)).alloc (.cells #[.string ⟨s.toArray⟩] 9)) := (((Apart.refl _ _).alloc _).alloc _)
    have hcell0 : ((w.alloc (.cells #[.pointer (some ⟨g, 0, none⟩)] 25)).alloc (.cells #[.string ⟨s.toArray⟩] 9)).heap[w.heap.size]? = (w.alloc (.cells #[.pointer (some ⟨g, 0, none⟩)] 25)).heap[w.heap.size]? := by
      rw [Below.heap_alloc _ _ _ (by simp; try omega)]
    have hcell1 : ((w.alloc (.cells #[.pointer (some ⟨g, 0, none⟩)] 25)).alloc (.cells #[.string ⟨s.toArray⟩] 9)).heap[(w.alloc (.cells #[.pointer (some ⟨g, 0, none⟩)] 25)).heap.size]? = ((w.alloc (.cells #[.pointer (some ⟨g, 0, none⟩)] 25)).alloc (.cells #[.string ⟨s.toArray⟩] 9)).heap[(w.alloc (.cells #[.pointer (some ⟨g, 0, none⟩)] 25)).heap.size]? := by
      rfl
    have hact := act_remove g N (N + 2) S P (dropP (ticP P) s) ⟨w.heap.size, 0, none⟩ ⟨w.heap.size + 1, 0, none⟩ _ hrep2 (fun h1 => hr h1 hoff) (by omega)
      (fun _ => does_remove g N s S P _ _ _ hs (by omega) (cell_new_at w _ _ (by simp) hcell0) (cell_new_at (w.alloc (.cells #[.pointer (some ⟨g, 0, none⟩)] 25)) _ _ (by simp) hcell1) (hnS _ (by show w.heap.size ≤ w.heap.size; omega)) (hnS _ (by show w.heap.size ≤ w.heap.size + 1; omega)))
    obtain ⟨R, hR⟩ : ∃ R, (if P.fuse = 1 then (loseP (ticP P) P.keep, 8) else (dropP (ticP P) s, 0)) = R := ⟨_, rfl⟩
    rw [hR]
    have HRR := Lib.hid hR
    have HF := Lib.hid hfi
    have HACT := Lib.hid hact
    have HAP := Lib.hid hap
    clear hfi h hB hrep1 hrep2 hfit hf ha hact hap hr hR hW2
    go_enter Try.func24, Try.ntmps24
    go_wp2_with fail
    refine HF.out.mono ?_
    rintro e w1 ⟨rfl, rfl⟩
    go_wp2_with fail
    refine HACT.out.mono ?_
    intro e w2 hac
    have HA2 := Lib.hid (acted_ans (L := N + 4) HAP.out hac (by omega) (by omega) hN)
    obtain ⟨n, rfl⟩ := acted_val hac
    clear hac
    go_wp2_with fail
    go_ret
    rw [← HRR.out]
    exact HA2.out

end Go.Proofs.Ytbepanhndpkdhaa.Cd
