/-
  PagerLoses answers true. Conditions: none.
-/
import Derived.Test.YtkbmajgbhpecgaaGreatDoorG2
import Derived.Test.YtkbmajgbhpecgaaGreatDoorG11
import Derived.Test.YtkbmajgbhpecgaaGreatDoorG13
import Derived.Test.YtkbmajgbhpecgaaGreatDoorG6
import Derived.Deep.RegionHeld3
import Derived.BigRegion
import Derived.Test.YtkbmajgbhpecgaaGreatDoorG7
import Derived.BigQuiet
/-
  Names: what the files' names are, at most one where there is only one file. Conditions: none.
-/
namespace Go.Proofs.YtkbmajgbhpecgaaGreatDoor.Cd
open Go.RowKit Go.Maps Go.Sort Go.Shelf

/-- The keys of a map of strings: no key twice, each one that the map has. -/
theorem keys_of {w : World} {b n : Nat} {D : DataW Unit} (hown : w.ownsMap Tryz.prog filK.K filK.R b n D) : (strKeys D).Nodup ∧ (∀ x, x ∈ strKeys D ↔ has D (.string x) = true) ∧ ∀ x ∈ strKeys D, x.length ≤ maxLen := by
  have hle := strKeys_le hown Tryz.underlying9
  obtain ⟨es, hD, hpw, _⟩ := hown.entries filK.law
  obtain ⟨es', hD', hko⟩ := hown.keysOf
  obtain rfl : es = es' := by rw [hD] at hD'; simpa using hD'
  subst hD
  have hk : ∀ p ∈ es, ∃ x, p.1 = .string x := fun p hp => by obtain ⟨v, hv⟩ := hko p hp; obtain ⟨x, _, hx, _⟩ := Maps.keyOf_str Tryz.underlying9 hv; exact ⟨x, hx⟩
  refine ⟨?_, fun x => ?_, hle⟩
  · show (es.map fun p => strOf p.1).Nodup
    refine List.pairwise_map.2 (hpw.imp_of_mem fun {p q} hp' hq' hne e => hne ?_)
    obtain ⟨a, ha⟩ := hk p hp'
    obtain ⟨b, hb⟩ := hk q hq'
    rw [ha, hb] at e ⊢
    exact congrArg _ e
  · rw [has_eq, List.any_eq_true]
    show x ∈ (es.map fun p => strOf p.1) ↔ _
    rw [List.mem_map]
    constructor
    · rintro ⟨p, hp', rfl⟩
      obtain ⟨a, ha⟩ := hk p hp'
      exact ⟨p, hp', by rw [ha]; simp [Lit.sameKey, strOf]⟩
    · rintro ⟨p, hp', hs⟩
      obtain ⟨a, ha⟩ := hk p hp'
      rw [ha] at hs
      exact ⟨p, hp', by rw [ha]; simpa [Lit.sameKey, strOf] using hs⟩

/-- What Names leaves: the files' names, rising, in a new row. -/
def NamesIs (P : Pd) (w : World) (e : Ending) (w' : World) : Prop :=
  Below w.heap.size w w' ∧ ((P.off = true ∧ e = .returned (.slice none 0 0)) ∨ P.off = false ∧
    ∃ (v : Value) (l : List (List UInt8)), e = .returned v ∧ OwnS w' w.heap.size v l ∧ l.Nodup ∧ l.Pairwise (fun x y => x ≤ y) ∧ (∀ x, x ∈ l ↔ x.length ≤ maxLen ∧ (P.files x).isSome = true))

theorem names_row {w : World} {B : Nat} {v : Value} {ss : List (List UInt8)} (h : w.ownsRow B 9 1 v ss.length ((ss.mergeSort (fun x y => decide (x ≤ y))).map encStr)) : OwnS w B v (ss.mergeSort (fun x y => decide (x ≤ y))) := by
  unfold OwnS
  rw [List.length_mergeSort]
  exact h
theorem names_list {w : World} {b n : Nat} {D : DataW Unit} {P : Pd} {ss : List (List UInt8)} (hown : w.ownsMap Tryz.prog filK.K filK.R b n D) (hat : ∀ x, filK.ok x → ∀ z, D.atKey (filK.lit x) z = ((P.files x).map filK.dat).getD z) (hS : ss.Perm (strKeys D)) :
    (ss.mergeSort (fun x y => decide (x ≤ y))).Nodup ∧ (ss.mergeSort (fun x y => decide (x ≤ y))).Pairwise (fun x y => x ≤ y) ∧ ∀ x, x ∈ ss.mergeSort (fun x y => decide (x ≤ y)) ↔ x.length ≤ maxLen ∧ (P.files x).isSome = true := by
  obtain ⟨k1, k2, k3⟩ := keys_of hown
  have hp := (List.mergeSort_perm ss (fun x y => decide (x ≤ y))).trans hS
  have tr : ∀ a b c : List UInt8, decide (a ≤ b) = true → decide (b ≤ c) = true → decide (a ≤ c) = true := fun a b c h1 h2 => by simp only [decide_eq_true_eq] at *; exact List.le_trans h1 h2
  have tot : ∀ a b : List UInt8, (decide (a ≤ b) || decide (b ≤ a)) = true := fun a b => by simp only [Bool.or_eq_true, decide_eq_true_eq]; exact List.le_total a b
  refine ⟨hp.nodup_iff.2 k1, (List.pairwise_mergeSort tr tot ss).imp (fun h => by simpa using h), fun x => ?_⟩
  rw [hp.mem_iff, k2]
  constructor
  · intro h
    have hl := k3 x ((k2 x).2 h)
    have := MapF.has (M := filK) (hat x hl)
    exact ⟨hl, by rw [← this]; exact h⟩
  · rintro ⟨hl, h⟩
    have := MapF.has (M := filK) (hat x hl)
    rw [h] at this
    exact this

set_option maxRecDepth 100000 in
set_option maxHeartbeats 1600000 in
theorem names_any (g N : Nat) (S : Nat → Prop) (P : Pd) (w : World) (h : Rep w g S P N) :
    Calls Tryz.prog 21 #[.pointer (some ⟨g, 0, none⟩)] w (NamesIs P w) := by
  have hre := ready_any g N S P w h
  obtain ⟨bf, c1, p1, c2, p2, lv, h⟩ := h
  have d1 : w.cell? ⟨g, 1, none⟩ = some (.map (some bf)) := cell_of_row _ _ _ _ _ _ h.row
  obtain ⟨n, hf, hn⟩ := h.fil
  have hN := h.fits.top
  obtain ⟨D, hown, hsz, hat⟩ := hf
  have hmax : Maps.size D ≤ maxLen := by simp only [maxLen]; omega
  have hbytes : Maps.size D * 16 ≤ 140737488355328 := by omega
  clear h
  cases hoff : P.off
  · have he : errR P = 0 := by unfold errR; rw [hoff]; rfl
    rw [he] at hre
    have HR := Lib.hid ((callsIn_wide (n := 5)).2 hre)
    have hsorted := Tryz.slices_Sorted_keys_42_43 bf n D filK.R w hown hmax hbytes
    have HSO := Lib.hid hsorted
    have HOWN := Lib.hid hown
    clear hsorted
    have HAT := Lib.hid hat
    clear hre hat
    have hfR : Fence.wide.fn 40 := trivial
    have hfK : Fence.wide.fn 43 := trivial
    have hfS : Fence.wide.fn 42 := trivial
    refine (callsIn_wide (n := 6)).1 ?_
    refine callsIn_of_wp Tryz.func21 rfl trivial ?_ rfl
    simp only [Tryz.ntmps21, List.size_toArray, List.length_cons, List.length_nil, Nat.reduceAdd, Nat.reduceSub, Array.replicate_succ, Array.replicate_zero, List.push_toArray, List.append_toArray, List.nil_append, List.cons_append]
    gi_wp2_with (first
      | (gi_at_call 40; refine HR.out.mono ?_; rintro e w' ⟨rfl, rfl⟩)
      | (gi_at_call 43; refine (Tryz.maps_Keys_43 _ _).mono ?_; rintro e w' ⟨rfl, rfl⟩)
      | (gi_at_call 42; refine HSO.out.mono ?_; rintro e w' ⟨v, ss, rfl, hS, hrow, hnil, hb⟩))
    go_ret
    exact ⟨((Below.refl _ _).alloc (Nat.le_refl _) _).trans (hb.mono (by simp)), .inr ⟨hoff, v, _, rfl, names_row (ownsRow_base_a hrow (by simp)), names_list HOWN.out HAT.out hS⟩⟩
  · have he : errR P = 8 := by unfold errR; rw [hoff]; rfl
    rw [he] at hre
    have HR := Lib.hid hre
    clear hre
    go_enter Tryz.func21, Tryz.ntmps21
    go_wp2_with (go_at_call 40; refine HR.out.mono ?_; rintro e w' ⟨rfl, rfl⟩)
    go_ret
    exact ⟨Below.refl _ _, .inl ⟨hoff, rfl⟩⟩

theorem names_few (g N : Nat) (S : Nat → Prop) (D : Dsk) (n : List UInt8) (w : World) (h : DkS w g N S D) (ho : D.off = false) (hs : ∀ m, (getF D.now m).isSome = true → m = n) :
    Calls Tryz.prog 21 #[.pointer (some ⟨g, 0, none⟩)] w (fun e w' => ∃ v l, e = .returned v ∧ Below w.heap.size w w' ∧ OwnS w' w.heap.size v l ∧ l.length ≤ 1) := by
  obtain ⟨P, hR, h2⟩ := h
  refine (names_any g N S P w hR).mono ?_
  rintro e w' ⟨hb, ⟨ho2, rfl⟩ | ⟨ho2, v, l, rfl, hown, hnd, hup, hmem⟩⟩
  · rw [h2.off, ho2] at ho; cases ho
  · refine ⟨v, l, rfl, hb, hown, ?_⟩
    have hall : ∀ x ∈ l, x = n := fun x hx => hs x (by rw [← h2.is]; exact ((hmem x).1 hx).2)
    match l, hnd, hall with
    | [], _, _ => exact Nat.zero_le _
    | [_], _, _ => exact Nat.le_refl _
    | a :: b :: r, hnd, hall =>
      have e : a = b := (hall a (by simp)).trans (hall b (by simp)).symm
      exact absurd (by rw [e]; simp) (List.nodup_cons.1 hnd).1

end Go.Proofs.YtkbmajgbhpecgaaGreatDoor.Cd

/-
  Open behind a commit in which the power went; what is kept beside it. Conditions: the power is on.
-/
namespace Go.Proofs.YtkbmajgbhpecgaaGreatDoor.Cd
open Go.RowKit
set_option linter.unusedVariables false

/-- What Open answers there. -/
def OpensG (g M : Nat) (P : List (List UInt8)) (ws : Pgs) (f : Nat) (S : Nat → Prop) (D : Dsk) (w : World) (e : Ending) (w' : World) : Prop :=
  ∃ (v : Value) (c : Nat) (T : Nat → Prop) (E : Dsk), e = .returned (.tuple #[v, .int .i64 (c : Nat)]) ∧ DkS w' g M T E ∧ (∀ j, T j → S j ∨ w.heap.size ≤ j) ∧ Apart S w w' ∧
    ((c = 0 ∧ E.off = false ∧ (∃ p, v = .pointer (some ⟨p, 0, none⟩) ∧ PgrAt w' T p g [102]) ∧ ∃ Q, Fine E [102] Q ∧ (Q = P ∨ Q = laidP P ws) ∧ E.room = 200) ∨ (c = 8 ∧ D.fuse ≠ 0 ∧ v = .pointer none ∧ Gap E [102] P ws f))

theorem open_gap (g N M f : Nat) (P : List (List UInt8)) (ws : Pgs) (S : Nat → Prop) (D : Dsk) (w : World) (hd : DkS w g N S D) (h0 : D.off = false) (hg : Gap D [102] P ws f) (hw : Good6 ws) (hf : freshN P.length ws = some f)
    (hr : ws ≠ [] → P.length + f + pagesOf (recF ws).length ≤ 200) (h8 : ws.length ≤ 8) (hN : N + 50 ≤ M) (hM : M ≤ 137438953472) :
    Calls Tryz.prog 9 #[.pointer (some ⟨g, 0, none⟩), .string ⟨[102].toArray⟩] w (OpensG g M P ws f S D w) := by
  have hn : ([102] : List UInt8).length ≤ 140737488355000 := by simp
  have hl : ∀ p ∈ ws, p.2.length ≤ 512 := fun p hp => (hw.lim p hp).2.2
  rcases hg.kj with hk | ⟨hws, hj⟩
  · rcases hg.kept hk h0 with ⟨a, b, c1, c2⟩ | ⟨a, b, c⟩
    · refine (open_gen g N (N + 4) (N + 4) [102] S D ((discardD D [102]).1, 0) w hd h0 hn (Nat.le_refl _) (by omega) a (fun W T p hp hdk => replay_none p g (N + 4) [102] T _ W hp hdk b hn c1.nojournal (by omega))).mono ?_
      rintro e w' ⟨v, T, rfl, k1, k2, k3, ⟨_, p, rfl, _, k4⟩ | ⟨k4, _⟩⟩
      · exact ⟨_, 0, T, _, rfl, k1.mono (by omega) hM, k2, k3, .inl ⟨rfl, b, ⟨p, rfl, k4⟩, P, c1, .inl rfl, c2⟩⟩
      · exact absurd rfl k4
    · have hfz : D.fuse ≠ 0 := fun e => by
        have := (calm_closed.discard (n := [102]) (D := D) ⟨h0, e⟩).1
        rw [b] at this
        cases this
      refine (open_dark g N (N + 4) [102] S D w hd h0 hn (Nat.le_refl _) (by omega) (by omega)).mono ?_
      rintro e w' ⟨v, T, rfl, k1, k2, k3, ⟨k4, _⟩ | ⟨_, rfl⟩⟩
      · omega
      · exact ⟨_, (discardD D [102]).2, T, _, rfl, k1.mono (by omega) hM, k2, k3, .inr ⟨a, hfz, rfl, c⟩⟩
  · obtain ⟨j1, j2, j3, ⟨f2, j4, j5⟩, j6⟩ := hg.jour hws hj h0 hf hl (hr hws)
    have hrec : (recF ws).length ≤ 1000000 := by have := hr hws; unfold pagesOf at this; omega
    refine (open_gen g N (N + 4) M [102] S D (settleD D [102] ws) w hd h0 hn (Nat.le_refl _) (by omega) (by rw [j1]) (fun W T p hp hdk => by
      rw [j1] at hdk
      exact replay_good p g (N + 4) M f2 [102] ws T D W hp hdk h0 hn j2 j3 hw hrec j4 j5 (by omega) hM)).mono ?_
    rcases j6 with ⟨a, b, c1, c2⟩ | ⟨a, b, c⟩
    · rintro e w' ⟨v, T, rfl, k1, k2, k3, ⟨_, p, rfl, _, k4⟩ | ⟨k4, _⟩⟩
      · exact ⟨_, (settleD D [102] ws).2, T, _, rfl, k1, k2, k3, .inl ⟨a, b, ⟨p, rfl, k4⟩, _, c1, .inr rfl, c2⟩⟩
      · exact absurd a k4
    · have hfz : D.fuse ≠ 0 := fun e => by
        have := (calm_closed.settle (n := [102]) (ws := ws) (D := D) ⟨h0, e⟩).1
        rw [b] at this
        cases this
      rintro e w' ⟨v, T, rfl, k1, k2, k3, ⟨k4, _⟩ | ⟨_, rfl⟩⟩
      · omega
      · exact ⟨_, (settleD D [102] ws).2, T, _, rfl, k1, k2, k3, .inr ⟨a, hfz, rfl, c⟩⟩

/-- Between two steps: the pager, its disk, the pages as they must be. -/
structure Los (w : World) (g p N : Nat) (D : Dsk) (v : Value) (P : List (List UInt8)) (wr : World) (T : Nat → Prop) : Prop where
  disk : DkS wr g N T D
  pager : PgrAt wr T p g [102]
  low : ∀ j, T j → w.heap.size ≤ j
  own : OwnS wr w.heap.size v P
  apart : ∀ b, v.ownBlock = some b → ¬ T b
  fine : Fine D [102] P
  off : D.off = false
  fuse : D.fuse = 0
  room : D.room = 200
  fits : P.length ≤ 200
  below : Below w.heap.size w wr
/-- Within one: the disk, the pages as they were and as they may be, the step's own row. -/
structure Ins (w : World) (g sb : Nat) (kp : Nat) (N : Nat) (D : Dsk) (v v2 : Value) (P P2 : List (List UInt8)) (wr : World) (T : Nat → Prop) : Prop where
  disk : DkS wr g N T D
  low : ∀ j, T j → w.heap.size ≤ j
  own : OwnS wr w.heap.size v P
  apart : ∀ b, v.ownBlock = some b → ¬ T b
  own2 : OwnS wr w.heap.size v2 P2
  apart2 : ∀ b, v2.ownBlock = some b → ¬ T b
  step : wr.cell? ⟨sb, 2, none⟩ = some (.int .u64 kp)
  lt : sb < wr.heap.size
  sbT : ¬ T sb
  below : Below w.heap.size w wr

section
variable {w wr w' : World} {g p sb kp N M : Nat} {D E : Dsk} {v v2 val : Value} {P P2 : List (List UInt8)} {T T' : Nat → Prop} {e : Ending}
theorem Los.over (h : Los w g p N D v P wr T) (hb : Below wr.heap.size wr w') : Los w g p N D v P w' T :=
  ⟨h.disk.below hb, h.pager.below hb, h.low, h.own.keep hb, h.apart, h.fine, h.off, h.fuse, h.room, h.fits, h.below.trans (hb.mono h.below.size)⟩
theorem Los.grow (h : Los w g p N D v P wr T) (hN : N ≤ M) (hM : M ≤ 137438953472) : Los w g p M D v P wr T :=
  ⟨h.disk.mono hN hM, h.pager, h.low, h.own, h.apart, h.fine, h.off, h.fuse, h.room, h.fits, h.below⟩
theorem Los.roomy (h : Los w g p N D v P wr T) : Roomy D 200 P.length := h.fine.roomy h.off h.fuse h.room
theorem Ins.over (h : Ins w g sb kp N D v v2 P P2 wr T) (hb : Below wr.heap.size wr w') : Ins w g sb kp N D v v2 P P2 w' T :=
  ⟨h.disk.below hb, h.low, h.own.keep hb, h.apart, h.own2.keep hb, h.apart2, (hb.cell (p := ⟨sb, 2, none⟩) h.lt).trans h.step, Nat.lt_of_lt_of_le h.lt hb.size, h.sbT, h.below.trans (hb.mono h.below.size)⟩
theorem Ins.move (h : Ins w g sb kp N D v v2 P P2 wr T) (hd : DkS w' g M T' E) (hT : ∀ j, T' j → T j ∨ wr.heap.size ≤ j) (ha : Apart T wr w') : Ins w g sb kp M E v v2 P P2 w' T' := by
  have hz := h.below.size
  refine ⟨hd, fun j hj => (hT j hj).elim (h.low j) (fun h => by omega), OwnS.off h.own ha h.apart, fun b hb ht => ?_, OwnS.off h.own2 ha h.apart2, fun b hb ht => ?_, (ha.cell (p := ⟨sb, 2, none⟩) h.lt h.sbT).trans h.step, Nat.lt_of_lt_of_le h.lt ha.size, fun ht => ?_, h.below.trans (ha.low hz h.low)⟩
  · rcases hT b ht with h1 | h1
    · exact h.apart b hb h1
    · have := (h.own.lt b hb).2; omega
  · rcases hT b ht with h1 | h1
    · exact h.apart2 b hb h1
    · have := (h.own2.lt b hb).2; omega
  · rcases hT sb ht with h1 | h1
    · exact h.sbT h1
    · have := h.lt; omega
theorem since_new (j : Nat) (h : since T wr w' j) : T j ∨ wr.heap.size ≤ j := h.imp id fun h => h.1
theorem Ins.makes (h : Ins w g sb kp N D v v2 P P2 wr T) (hm : MakesD g M T E val wr e w') : Ins w g sb kp M E v v2 P P2 w' (since T wr w') := h.move hm.2.1 (fun j hj => since_new j hj) hm.2.2
end

end Go.Proofs.YtkbmajgbhpecgaaGreatDoor.Cd

/-
  PagerLoses answers true. Conditions: none.
-/
namespace Go.Proofs.YtkbmajgbhpecgaaGreatDoor.Cd
open Go.RowKit
set_option linter.unusedVariables false

/-- The disk, and the pages as they must be. -/
structure Oth (w : World) (g N : Nat) (D : Dsk) (v : Value) (P : List (List UInt8)) (wr : World) (T : Nat → Prop) : Prop where
  disk : DkS wr g N T D
  low : ∀ j, T j → w.heap.size ≤ j
  own : OwnS wr w.heap.size v P
  apart : ∀ b, v.ownBlock = some b → ¬ T b
  below : Below w.heap.size w wr
section
variable {w wr w' : World} {g p sb kp N M : Nat} {D E : Dsk} {v v2 val : Value} {P P2 : List (List UInt8)} {T T' : Nat → Prop} {e : Ending}
theorem Los.oth (h : Los w g p N D v P wr T) : Oth w g N D v P wr T := ⟨h.disk, h.low, h.own, h.apart, h.below⟩
theorem Oth.over (h : Oth w g N D v P wr T) (hb : Below wr.heap.size wr w') : Oth w g N D v P w' T :=
  ⟨h.disk.below hb, h.low, h.own.keep hb, h.apart, h.below.trans (hb.mono h.below.size)⟩
theorem Oth.move (h : Oth w g N D v P wr T) (hd : DkS w' g M T' E) (hT : ∀ j, T' j → T j ∨ wr.heap.size ≤ j) (ha : Apart T wr w') : Oth w g M E v P w' T' := by
  have hz := h.below.size
  refine ⟨hd, fun j hj => (hT j hj).elim (h.low j) (fun h => by omega), OwnS.off h.own ha h.apart, fun b hb ht => ?_, h.below.trans (ha.low hz h.low)⟩
  rcases hT b ht with h1 | h1
  · exact h.apart b hb h1
  · have := (h.own.lt b hb).2; omega
theorem Oth.makes (h : Oth w g N D v P wr T) (hm : MakesD g M T E val wr e w') : Oth w g M E v P w' (since T wr w') := h.move hm.2.1 (fun j hj => since_new j hj) hm.2.2
/-- Inside a step: with the pages as they may be, and the step's row. -/
theorem Oth.ins (h : Oth w g N D v P wr T) (ho : OwnS wr w.heap.size v2 P2) (ha : ∀ b, v2.ownBlock = some b → ¬ T b) (hs : wr.cell? ⟨sb, 2, none⟩ = some (.int .u64 kp)) (hl : sb < wr.heap.size) (hn : ¬ T sb) : Ins w g sb kp N D v v2 P P2 wr T :=
  ⟨h.disk, h.low, h.own, h.apart, ho, ha, hs, hl, hn, h.below⟩
theorem Ins.los (h : Ins w g sb kp N D v v2 P P2 wr T) (hp : PgrAt wr T p g [102]) (hf : Fine D [102] P) (ho : D.off = false) (hz : D.fuse = 0) (hr : D.room = 200) (hl : P.length ≤ 200) : Los w g p N D v P wr T :=
  ⟨h.disk, hp, h.low, h.own, h.apart, hf, ho, hz, hr, hl, h.below⟩
theorem Ins.los2 (h : Ins w g sb kp N D v v2 P P2 wr T) (hp : PgrAt wr T p g [102]) (hf : Fine D [102] P2) (ho : D.off = false) (hz : D.fuse = 0) (hr : D.room = 200) (hl : P2.length ≤ 200) : Los w g p N D v2 P2 wr T :=
  ⟨h.disk, hp, h.low, h.own2, h.apart2, hf, ho, hz, hr, hl, h.below⟩
theorem Ins.some {f : Nat} {ws : Pgs} {q : Prop} (h : Ins w g sb kp N D v v2 P P2 wr T) (hg : Gap D [102] P ws f) (ho : D.off = false) (hc : D.fuse ≠ 0 → q) :
    ∃ D T, Hid (Ins w g sb kp N D v v2 P P2 wr T) ∧ Hid (Gap D [102] P ws f) ∧ Hid (D.off = false) ∧ Hid (D.fuse ≠ 0 → q) := ⟨D, T, h, hg, ho, hc⟩
end

theorem wants_zero {c : Nat} {free : Int} {ws : Pgs} (h : wantsD c free ws = 0) : hasLong ws = false ∧ ∃ f, freshN c ws = some f ∧ (ws ≠ [] → ¬ free < (pagesOf (recF ws).length + f : Nat)) := by
  unfold wantsD at h
  split at h
  · cases h
  · rename_i h1
    refine ⟨by simpa using h1, ?_⟩
    split at h
    · cases h
    · rename_i f hf
      refine ⟨f, hf, fun hne => ?_⟩
      rw [if_neg hne] at h
      split at h
      · cases h
      · assumption
theorem good_of {ws : Pgs} {c f : Nat} (hu : ws.Pairwise fun a b => a.1 < b.1) (hw : wfP ws) (h8 : ws.length ≤ 8) (hf : freshN c ws = some f) (hc : c + f ≤ 4096) (hl : ∀ p ∈ ws, p.2.length ≤ 512) : Good6 ws :=
  ⟨⟨hu, hw⟩, by omega, fun p hp => by have := fresh_lt ws hf p hp; exact ⟨this.1, by omega, hl p hp⟩⟩

set_option maxRecDepth 100000 in
set_option maxHeartbeats 25600000 in
theorem pl_main (l : List Stp) (ag : List Int) (v va : Value) (w : World) (h : Steps w w.heap.size v l) (hok : ∀ p ∈ l, p.Ok) (ha : Flat (fun n => Value.int .i64 n) w w.heap.size va ag) (hwf : ∀ n ∈ ag, (Lit.int .i64 n).wf = true) :
    Calls Tryz.prog 3 #[v, va] w (Gives (.bool true) w) := by
  obtain ⟨A, c, rfl, hm1, hm, hnum, hp⟩ := id h
  obtain ⟨Aa, ca, rfl, ha1, ha2⟩ := ha.len
  have hm : c ≤ 9223372036854775807 := hm
  have H := Lib.hid h
  have HOK := Lib.hid hok
  have HP := Lib.hid hp
  have HNUM := Lib.hid hnum
  have HA := Lib.hid ha
  have HWFA := Lib.hid hwf
  clear h hok hp hnum ha hwf
  go_enter Tryz.func3, Tryz.ntmps3
  go_wp2_with fail
  refine (palive_any w).mono ?_
  rintro e w1 ⟨rfl, hb1⟩
  have HB1 := Lib.hid hb1
  have HG := Lib.hid (great6_any _ l w1 (by obtain ⟨A', c', h1, h2, h3, h4, h5⟩ := H.out.below hb1; exact ⟨A', c', h1, h2, h3, h4, fun h0 => by obtain ⟨b, off, e, hB, hc⟩ := h5 h0; exact ⟨b, off, e, Nat.lt_of_lt_of_le hB hb1.size, fun i q hi => by obtain ⟨u, hu, hx⟩ := hc i q hi; exact ⟨u, hu.more hb1.size, hx⟩⟩⟩) HOK.out)
  clear hb1
  go_wp2_with fail
  refine HG.out.mono ?_
  rintro e w2 ⟨gr, rfl, hb2, hsm⟩
  have HB2 := Lib.hid (HB1.out.trans (hb2.mono HB1.out.size))
  clear hb2
  cases gr
  case true =>
    go_wp2_with fail
    go_ret
    exact ⟨rfl, HB2.out⟩
  have HSM := Lib.hid (hsm rfl)
  clear hsm HG HB1
  by_cases hal : 20 < ag.length
  · have hal' : (20 : Int) < ag.length := by omega
    go_wp2_with fail
    go_ret
    exact ⟨rfl, HB2.out⟩
  have hal' : ¬ (20 : Int) < ag.length := by omega
  have hal2 : ag.length ≤ 20 := by omega
  clear hal
  go_wp2_with fail
  refine (new_dks 200 w2 (by omega) (by omega)).mono ?_
  rintro e w3 ⟨g, S, rfl, hd, hS, hb3⟩
  have HD := Lib.hid hd
  have HS := Lib.hid hS
  have HB3 := Lib.hid (HB2.out.trans (hb3.mono HB2.out.size))
  have hz3 := hb3.size
  clear hd hS hb3
  go_wp2_with fail
  refine (open_bare g 0 [102] S (newD 200) w3 HD.out rfl (by simp) (bare_new _ _)).mono ?_
  rintro e w4 ⟨rfl, hpg, hb4⟩
  obtain ⟨p0, hp0⟩ : ∃ x, w3.heap.size = x := ⟨_, rfl⟩
  rw [hp0] at hpg ⊢
  have hz2 := HB2.out.size
  have HMID : Hid (Los w g p0 0 (newD 200) (.slice none 0 0) [] w4 S) :=
    Lib.hid ⟨HD.out.below hb4, hpg, fun j hj => by have := HS.out j hj; omega, OwnS.nil _ _, fun b hb => (by cases hb), fine_new _, rfl, rfl, (new_roomy (room := 200) (by omega)).room, Nat.zero_le _, HB3.out.trans (hb4.mono HB3.out.size)⟩
  clear hpg hb4 HD HB3 HS
  go_wp2_with fail
  go_loopw [6, 8, 9, 35] (fun pv ov kv i wr => ∃ (k kk : Nat) (D : Dsk) (T : Nat → Prop) (p : Nat) (P : List (List UInt8)), pv = .pointer (some ⟨p, 0, none⟩) ∧ kv = .int .i64 kk ∧ i = .int .i64 k ∧ k ≤ l.length ∧ kk ≤ 20 + k ∧ Hid (Los w g p (2200 * k + 100 * kk) D ov P wr T)) (fun _ _ _ i _ => l.length - (intOf i).toNat)
  case atStart => exact ⟨0, 0, newD 200, S, p0, [], rfl, rfl, rfl, by omega, by omega, HMID.out⟩
  case round =>
    obtain ⟨k, kk, D, T, p, P, rfl, rfl, rfl, hk, hkk, hmid⟩ := hrel
    clear HMID
    have hl12 : l.length ≤ 12 := HSM.out.1
    obtain ⟨A8, c8, rfl, hc81, hc82⟩ := hmid.out.own.strs.len
    have hc82 : c8 ≤ 9223372036854775807 := hc82
    by_cases hlt : k < l.length
    · obtain ⟨b, off, rfl, hB, hc⟩ := HP.out (by omega)
      obtain ⟨s, hsk⟩ : ∃ s, l[k]? = some s := ⟨l[k], List.getElem?_eq_getElem hlt⟩
      obtain ⟨u, hsl, hcu⟩ := hc k s hsk
      obtain ⟨hnf, hnk⟩ := HNUM.out s (List.mem_of_getElem? hsk)
      obtain ⟨hnf1, hnf2⟩ := bounds_i64 hnf
      have hbl := hmid.out.below
      have hbz := hbl.size
      have hpg := hsl.below hbl
      obtain ⟨Au, cu, rfl, hcu1, hcu2⟩ := hsl.len
      have hcell : ∀ (j : Nat) x, (s.cells (.slice Au s.pages.length cu))[j]? = some x → wr.cell? ⟨b, off + k * 3 + j, none⟩ = some x := fun j x hx => (hbl.cell (p := ⟨b, off + k * 3 + j, none⟩) hB).trans (hcu j x hx)
      have c0 : wr.cell? ⟨b, off + k * 3, none⟩ = some (.slice Au s.pages.length cu) := hcell 0 _ rfl
      have c1 := hcell 1 _ rfl
      have c2 := hcell 2 _ rfl
      have hsmall := HSM.out.2 s (List.mem_of_getElem? hsk)
      have hwfp : wfP s.pages := by obtain ⟨_, _, _, _, _, h4, _⟩ := hsl; exact h4
      obtain ⟨w5, hw5⟩ : ∃ x, wr.alloc (.cells #[.slice Au s.pages.length cu, .int .i64 s.fuse, .int .u64 s.keep] 36) = x := ⟨_, rfl⟩
      have hb5 : Below wr.heap.size wr w5 := by rw [← hw5]; exact (Below.refl _ _).alloc (Nat.le_refl _) _
      have hz5 : w5.heap.size = wr.heap.size + 1 := by rw [← hw5]; simp
      have hrow5 : w5.heap[wr.heap.size]? = some (.cells #[.slice Au s.pages.length cu, .int .i64 s.fuse, .int .u64 s.keep] 36) := by rw [← hw5]; exact heap_alloc_new _ _
      have f0 : w5.cell? ⟨wr.heap.size, 0, none⟩ = some (.slice Au s.pages.length cu) := cell_of_row _ _ 0 _ _ _ hrow5
      have f1 : w5.cell? ⟨wr.heap.size, 1, none⟩ = some (.int .i64 s.fuse) := cell_of_row _ _ 1 _ _ _ hrow5
      have f2 : w5.cell? ⟨wr.heap.size, 2, none⟩ = some (.int .u64 s.keep) := cell_of_row _ _ 2 _ _ _ hrow5
      clear hrow5
      obtain ⟨sb, hsb⟩ : ∃ x, wr.heap.size = x := ⟨_, rfl⟩
      have hsT : ¬ T sb := fun ht => by have := hmid.out.disk.lt sb ht; omega
      have HM5 := Lib.hid (hmid.out.over hb5)
      have HW := Lib.hid (writes_any s (.slice Au s.pages.length cu) w5 (by obtain ⟨A', c', h1, h2, h3, h4, h5⟩ := hpg.below (hb5.mono hbz); exact ⟨A', c', h1, h2, h3, h4, fun h0 => by obtain ⟨b', off', e, hB', hc'⟩ := h5 h0; exact ⟨b', off', e, Nat.lt_of_lt_of_le hB' (Nat.le_trans hbz hb5.size), hc'⟩⟩) hsmall)
      have HUP : Hid ((wsOf s.pages).Pairwise fun a b => a.1 < b.1) := wsOf_up _
      obtain ⟨ws, hws⟩ : ∃ x, wsOf s.pages = x := ⟨_, rfl⟩
      have hwl : ws.length ≤ 8 := by rw [← hws]; exact Nat.le_trans (wsOf_len _) hsmall.1
      have HWF : Hid (wfP ws) := by rw [← hws]; exact wsOf_wf hwfp
      have HWB : Hid (∀ q ∈ ws, q.2.length ≤ 32768) := by rw [← hws]; exact fun q hq => Nat.le_trans (bytesP_mem (wsOf_sub q hq)) hsmall.2
      rw [hws] at HW HUP
      have hrec := Lib.hid (recT_le HWF.out HWB.out hwl)
      have hfit := hmid.out.fits
      have hfree := hmid.out.roomy.free
      obtain ⟨fr, hfr⟩ : ∃ x, freeD D = x := ⟨_, rfl⟩
      rw [hfr] at hfree
      have HFR := Lib.hid hfr
      have hf1 : -1000000 ≤ fr := by omega
      have hf2 : fr ≤ 1000000 := by omega
      have HFE := Lib.hid hfree
      obtain ⟨wa, hwa⟩ : ∃ x, wantsD P.length fr ws = x := ⟨_, rfl⟩
      have HWA := Lib.hid hwa
      rw [hsb] at f0 f1 f2
      have hsb5 : sb < w5.heap.size := by omega
      clear hc hcell hcu hsl hpg hwfp hsk hfr hfree hb5 hbl hmid hwa hws hz5
      have hkl : k ≤ 12 := by omega
      by_cases hwz : wa = 0
      case neg =>
        have hw0 : ((wa : Int) == 0) = false := by rw [beq_eq_false_iff_ne]; omega
        clear hwz
        go_wp2_with fail
        refine HW.out.mono ?_
        rintro e w6 ⟨mb, mv, rfl, hmp, hop, hb6⟩
        have HOP := Lib.hid hop
        have HM6 := Lib.hid (HM5.out.over hb6)
        have HFD := free_dks g _ T D w6 HM6.out.disk
        rw [HFR.out] at HFD
        have HFD := Lib.hid HFD
        clear hmp hop hb6
        go_wp2_with fail
        refine HFD.out.mono ?_
        rintro e w7 ⟨rfl, hb7⟩
        have HM7 := Lib.hid (HM6.out.over hb7)
        have HOP7 := Lib.hid (HOP.out.keep hb7)
        have HWN := pwants_any mv ws P.length fr w7 HOP7.out.pgs hwl (by omega) ⟨hf1, hf2⟩ HWB.out
        rw [HWA.out] at HWN
        have HWN := Lib.hid HWN
        clear hb7
        go_wp2_with fail
        refine HWN.out.mono ?_
        rintro e w8 ⟨rfl, hb8⟩
        have HM8 := Lib.hid ((HM7.out.over hb8).grow (M := 2200 * (k + 1) + 100 * kk) (by omega) (by omega))
        clear hb8
        go_wp2_with fail
        go_roundw
        case rel => exact ⟨k + 1, kk, D, T, p, P, rfl, rfl, by go_num, by omega, by omega, HM8.out⟩
        case measure => simp [intOf]; omega
      case pos =>
        have hw0 : ((wa : Int) == 0) = true := by rw [hwz]; rfl
        obtain ⟨q1, f, q2, q3⟩ := wants_zero (HWA.out.trans hwz)
        have hsh := hasLong_none q1
        have hfits2 : P.length + f ≤ 200 := by
          by_cases hne : ws = []
          · rw [hne] at q2
            injection q2 with q2
            omega
          · have := q3 hne
            have := HFE.out
            omega
        have hroom3 : ws ≠ [] → P.length + f + pagesOf (recF ws).length ≤ 200 := fun hne => by have := q3 hne; have := HFE.out; omega
        have HGD := Lib.hid (good_of HUP.out HWF.out hwl q2 (by omega) hsh)
        have HQ1 := Lib.hid q1
        have HQ2 := Lib.hid q2
        have HQ3 := Lib.hid q3
        have HSH := Lib.hid hsh
        have HR3 := Lib.hid hroom3
        have hlaid := fresh_len ws P f q2
        clear hwz q1 q2 q3 hsh hroom3
        go_wp2_with fail
        refine HW.out.mono ?_
        rintro e w6 ⟨mb, mv, rfl, hmp, hop, hb6⟩
        have HMP := Lib.hid hmp
        have HOP := Lib.hid hop
        have HX6 := Lib.hid hb6
        have HM6 := Lib.hid (HM5.out.over hb6)
        have HFD := free_dks g _ T D w6 HM6.out.disk
        rw [HFR.out] at HFD
        have HFD := Lib.hid HFD
        clear hmp hop hb6
        go_wp2_with fail
        refine HFD.out.mono ?_
        rintro e w7 ⟨rfl, hb7⟩
        have HX7 := Lib.hid (HX6.out.trans (hb7.mono HX6.out.size))
        have HM7 := Lib.hid (HM6.out.over hb7)
        have HOP7 := Lib.hid (HOP.out.keep hb7)
        have HMP7 := Lib.hid (HMP.out.below hb7)
        have HWN := pwants_any mv ws P.length fr w7 HOP7.out.pgs hwl (by omega) ⟨hf1, hf2⟩ HWB.out
        rw [HWA.out] at HWN
        have HWN := Lib.hid HWN
        clear hb7
        go_wp2_with fail
        refine HWN.out.mono ?_
        rintro e w8 ⟨rfl, hb8⟩
        have HX8 := Lib.hid (HX7.out.trans (hb8.mono HX7.out.size))
        have HM8 := Lib.hid (HM7.out.over hb8)
        have HOP8 := Lib.hid (HOP7.out.keep hb8)
        have HMP8 := Lib.hid ((HMP7.out.below hb8).less (T := T) (fun j _ ht => HM5.out.disk.lt j ht))
        have g1 : w8.cell? ⟨sb, 1, none⟩ = some (.int .i64 s.fuse) := (HX8.out.cell (p := ⟨sb, 1, none⟩) hsb5).trans f1
        have g2 : w8.cell? ⟨sb, 2, none⟩ = some (.int .u64 s.keep) := (HX8.out.cell (p := ⟨sb, 2, none⟩) hsb5).trans f2
        have hsb8 : sb < w8.heap.size := Nat.lt_of_lt_of_le hsb5 HX8.out.size
        have hTlt : Hid (∀ j, T j → j < w5.heap.size) := fun j ht => HM5.out.disk.lt j ht
        have CA := Lib.hid (arm_dks g _ T D w8 s.fuse s.keep HM8.out.disk (by omega) hnk)
        clear hb8 HW HFD HWN HM5 HM6 HM7 HOP HOP7 HMP HMP7 HX6 HX7 HX8 f0 f1 f2 c0 c1 c2
        go_wp2_with fail
        refine CA.out.mono ?_
        intro e w9 hm
        obtain rfl := hm.1
        have HO9 := Lib.hid (HM8.out.oth.makes hm)
        have HP9 := Lib.hid (HM8.out.pager.apart hm.2.2)
        have HMP9 := Lib.hid (HMP8.out.apart hm.2.2)
        have HOP9 := Lib.hid (HOP8.out.off hm.2.2 hTlt.out)
        have HF9 := Lib.hid (HM8.out.fine.arm s.fuse s.keep)
        have g9 : w9.cell? ⟨sb, 2, none⟩ = some (.int .u64 s.keep) := (hm.2.2.cell (p := ⟨sb, 2, none⟩) hsb8 hsT).trans g2
        have hsb9 : sb < w9.heap.size := Nat.lt_of_lt_of_le hsb8 hm.2.2.size
        have hsT9 : ¬ since T w8 w9 sb := fun ht => by
          rcases ht with ht | ht
          · exact hsT ht
          · omega
        have HS9 := Lib.hid hsT9
        have HG9 := Lib.hid g9
        have hoff9 : (armD D s.fuse s.keep).off = false := HM8.out.off
        have hroom9 : (armD D s.fuse s.keep).room = 200 := HM8.out.room
        have hfree9 : freeD (armD D s.fuse s.keep) = fr := HFR.out
        obtain ⟨P2, hP2⟩ : ∃ x, laidP P ws = x := ⟨_, rfl⟩
        have HP2 := Lib.hid hP2
        rw [hP2] at hlaid
        have hP2l : P2.length ≤ 200 := by omega
        clear hlaid
        have HC := HF9.out.commit_gap hoff9 hroom9 HQ1.out HQ2.out (fun hne => by rw [hfree9]; exact Int.not_lt.2 (HQ3.out hne))
        have HLD := plaid_any (.slice A8 P.length c8) mv P ws f w9 HO9.out.own.strs HOP9.out.pgs HQ2.out HSH.out hwl (by omega)
        rw [hP2] at HC HLD
        have HC := Lib.hid HC
        have HLD := Lib.hid HLD
        obtain ⟨T9, hT9⟩ : ∃ x, since T w8 w9 = x := ⟨_, rfl⟩
        obtain ⟨D9, hD9⟩ : ∃ x, armD D s.fuse s.keep = x := ⟨_, rfl⟩
        rw [hT9, hD9] at HO9
        rw [hT9] at HP9 HMP9 HS9
        rw [hD9] at HC
        clear hm CA HM8 HF9 HOP8 HMP8 HOP9 hT9 hD9 hoff9 hroom9 hfree9 g9 hsT9 hP2 hTlt g1 g2 hsb8
        go_wp2_with fail
        refine HLD.out.mono ?_
        rintro e w10 ⟨v2, rfl, ho10, hb10⟩
        obtain ⟨A9, c9, rfl, h91, h92⟩ := ho10.strs.len
        have h92 : c9 ≤ 9223372036854775807 := h92
        have HI10 : Hid (Ins w g sb s.keep (2200 * k + 100 * kk) D9 (.slice A8 P.length c8) (.slice A9 P2.length c9) P P2 w10 T9) :=
          (HO9.out.over hb10).ins (ho10.lower HO9.out.below.size) (fun b hb ht => by have h1 := (ho10.lt b hb).1; have h2 := HO9.out.disk.lt b ht; omega) ((hb10.cell (p := ⟨sb, 2, none⟩) hsb9).trans HG9.out) (Nat.lt_of_lt_of_le hsb9 hb10.size) HS9.out
        have HP10 := Lib.hid (HP9.out.below hb10)
        have CM := commit_p p g (2200 * k + 100 * kk) (2200 * (k + 1) + 100 * kk) mb [102] ws T9 D9 w10 HP10.out HI10.out.disk (by simp) (HMP9.out.below hb10) (by omega) (by have := hrec.out; omega) (by omega)
        obtain ⟨R, hR⟩ : ∃ x, commitD D9 [102] ws = x := ⟨_, rfl⟩
        rw [hR] at HC CM
        obtain ⟨E, cc⟩ := R
        dsimp only at CM
        clear ho10 hb10 HLD HO9 HP9 HMP9 HG9 HS9 hR hsb9
        rcases HC.out with ⟨a, hoff11, c1, c2⟩ | ⟨a, hoff11, hgap11⟩
        · obtain rfl : cc = 0 := a
          have CM := Lib.hid CM
          have HF11 := Lib.hid c1
          clear HC
          go_wp2_with fail
          refine CM.out.mono ?_
          intro e w11 hm
          obtain rfl := hm.1
          have HI11 := Lib.hid (HI10.out.makes hm)
          have HP11 := Lib.hid (HP10.out.apart hm.2.2)
          have CA := Lib.hid (arm_dks g _ _ E w11 0 0 HI11.out.disk (by omega) (by omega))
          clear hm CM HI10 HP10
          go_wp2_with fail
          refine CA.out.mono ?_
          intro e w12 hm
          obtain rfl := hm.1
          have HL12 : Hid (Los w g p (2200 * (k + 1) + 100 * kk) (armD E 0 0) (.slice A9 P2.length c9) P2 w12 _) := (HI11.out.makes hm).los2 (HP11.out.apart hm.2.2) (HF11.out.arm 0 0) hoff11 rfl c2 hP2l
          clear hm CA HI11 HP11
          go_wp2_with fail
          go_roundw
          case rel => exact ⟨k + 1, kk, armD E 0 0, _, p, P2, rfl, rfl, by go_num, by omega, by omega, HL12.out⟩
          case measure => simp [intOf]; omega
        · obtain rfl : cc = 8 := a
          have hoff11 : E.off = true := hoff11
          have CM := Lib.hid CM
          have HGAP := Lib.hid hgap11
          clear HC hgap11
          go_wp2_with fail
          refine CM.out.mono ?_
          intro e w11 hm
          obtain rfl := hm.1
          have HI11 := Lib.hid (HI10.out.makes hm)
          have CDn := down_dks g _ _ E w11 HI11.out.disk
          rw [hoff11] at CDn
          have CDn := Lib.hid CDn
          clear hm CM HI10 HP10 hoff11
          go_wp2_with fail
          refine CDn.out.mono ?_
          rintro e w' ⟨rfl, h⟩
          obtain rfl := h.symm
          clear h CDn
          go_wp2_with fail
          go_loopw [6, 9, 15] (fun pv kv ev wz => ∃ (k2 : Nat) (E : Dsk) (T : Nat → Prop) (o : Option Addr), pv = .pointer o ∧ kv = .int .i64 k2 ∧ ev = .int .i64 8 ∧ k2 ≤ 20 + k ∧ Hid (Ins w g sb s.keep (2200 * (k + 1) + 100 * k2) E (.slice A8 P.length c8) (.slice A9 P2.length c9) P P2 wz T) ∧ Hid (Gap E [102] P ws f)) (fun _ kv _ _ => ag.length - (intOf kv).toNat)
          case atStart => exact ⟨kk, E, _, _, rfl, rfl, rfl, hkk, HI11.out, HGAP.out⟩
          case round =>
            obtain ⟨k2, E2, T2, o, rfl, rfl, rfl, hk2, hi, hg⟩ := hrel
            clear HI11 HGAP
            have CO := Lib.hid (on_dks g _ T2 E2 wr hi.out.disk)
            go_wp2_with fail
            refine CO.out.mono ?_
            intro e w13 hm
            obtain rfl := hm.1
            have HI13 := Lib.hid (hi.out.makes hm)
            have HG13 := Lib.hid hg.out.on
            have CA := Lib.hid (arm_dks g _ _ (onD E2) w13 0 0 HI13.out.disk (by omega) (by omega))
            clear hm CO hi hg
            go_wp2_with fail
            refine CA.out.mono ?_
            intro e w14 hm
            obtain rfl := hm.1
            have HI14 := Lib.hid (HI13.out.makes hm)
            have HG14 := Lib.hid (HG13.out.arm 0 0)
            clear hm CA HI13 HG13
            by_cases hk3 : k2 < ag.length
            case' pos =>
              have hk3' : (k2 : Int) < ag.length := by omega
              obtain ⟨ba, oa, rfl, hBa, hca⟩ := HA.out.at hk3
              obtain ⟨n2, hn2⟩ : ∃ x, ag[k2] = x := ⟨_, rfl⟩
              have hwn : (Lit.int .i64 n2).wf = true := by rw [← hn2]; exact HWFA.out _ (List.getElem_mem hk3)
              obtain ⟨hn3, hn4⟩ := bounds_i64 hwn
              rw [hn2] at hca
              have d0 : w14.cell? ⟨ba, oa + k2, none⟩ = some (.int .i64 n2) := (HI14.out.below.cell (p := ⟨ba, oa + k2, none⟩) hBa).trans hca
              have d1 := HI14.out.step
              have HBA := Lib.hid hBa
              have HCA := Lib.hid hca
              have CA := Lib.hid (arm_dks g _ _ (armD (onD E2) 0 0) w14.drew n2 s.keep (HI14.out.disk.below (Below.refl _ _).drew) (by omega) hnk)
              clear hn2 hwn hBa hca
              go_wp2_with fail
              go_region_held3 (fun W => W.cell? ⟨ba, oa + k2, none⟩ = some (.int .i64 n2) ∧ W.cell? ⟨sb, 2, none⟩ = some (.int .u64 s.keep)) (first | exact ⟨d0, d1⟩ | assumption) (first
                | (go_at_call 13; refine CA.out.mono ?_; intro e w15 hm; obtain rfl := hm.1; have HI15 := Lib.hid (HI14.out.makes hm.undrew); have hS3 : w15.cell? ⟨ba, oa + k2, none⟩ = some (.int .i64 n2) ∧ w15.cell? ⟨sb, 2, none⟩ = some (.int .u64 s.keep) := ⟨(HI15.out.below.cell (p := ⟨ba, oa + k2, none⟩) HBA.out).trans HCA.out, HI15.out.step⟩; clear hm))
              obtain ⟨D3, T3, HI3, HG3, HO3, HC3⟩ := Ins.some (q := k2 < ag.length) HI15.out (HG14.out.arm n2 s.keep) rfl (fun _ => hk3)
              clear HI14 HG14 HI15 CA d0 d1 hS3 HBA HCA
              go_wp2_with fail
            case' neg =>
              have hk3' : ¬ (k2 : Int) < ag.length := by omega
              obtain ⟨D3, T3, HI3, HG3, HO3, HC3⟩ := Ins.some (q := k2 < ag.length) HI14.out HG14.out rfl (fun h => absurd rfl h)
              clear HI14 HG14
              go_wp2_with fail
            all_goals
              have CO2 := Lib.hid (open_gap g _ (2200 * (k + 1) + 100 * (k2 + 1)) f P ws T3 D3 _ HI3.out.disk HO3.out HG3.out HGD.out HQ2.out HR3.out hwl (by omega) (by omega))
              refine CO2.out.mono ?_
              rintro e w16 ⟨vv, cc, T4, E4, rfl, k1, k22, k3, ⟨rfl, hoff, ⟨p2, rfl, hpg⟩, Q, hfine, hq, hr4⟩ | ⟨rfl, hfz, rfl, hgap⟩⟩
              case inr =>
                have hk4 := HC3.out hfz
                first
                  | (exfalso; omega)
                  | (
                    have hk4' : ¬ (ag.length : Int) < (k2 : Int) + 1 := by omega
                    have HI16 := Lib.hid (HI3.out.move k1 k22 k3)
                    have HG16 := Lib.hid hgap
                    clear k1 k22 k3 hgap CO2 HI3 HG3 HO3 HC3 hfz
                    go_wp2_with fail
                    go_roundw
                    case rel => exact ⟨k2 + 1, E4, T4, none, rfl, by go_num, rfl, by omega, HI16.out, HG16.out⟩
                    case measure => (simp [intOf] <;> omega))
              case inl =>
                have HI16 := Lib.hid (HI3.out.move k1 k22 k3)
                have HP16 := Lib.hid hpg
                have CA := Lib.hid (arm_dks g _ T4 E4 w16 0 0 HI16.out.disk (by omega) (by omega))
                have HF16 := Lib.hid hfine
                have HQ := Lib.hid hq
                have HO16 := Lib.hid hoff
                have HR16 := Lib.hid hr4
                clear k1 k22 k3 CO2 HI3 HG3 HO3 HC3 hpg hfine hq hoff hr4
                go_wp2_with fail
                refine CA.out.mono ?_
                intro e w17 hm
                obtain rfl := hm.1
                have HI17 := Lib.hid (HI16.out.makes hm)
                have HP17 := Lib.hid (HP16.out.apart hm.2.2)
                have HF17 := Lib.hid (HF16.out.arm 0 0)
                have CC := count_p p2 g _ [102] _ (armD E4 0 0) w17 HP17.out HI17.out.disk HO16.out (by simp)
                rw [HF17.out.kept.pages] at CC
                have CC := Lib.hid CC
                clear hm CA HI16 HP16 HF16
                go_wp2_with fail
                refine CC.out.mono ?_
                rintro e w18 ⟨rfl, hb18⟩
                have HI18 := Lib.hid (HI17.out.over hb18)
                have HP18 := Lib.hid (HP17.out.below hb18)
                clear hb18 HI17 HP17 CC
                by_cases hq2 : Q = P2
                case pos =>
                  subst hq2
                  have CH := phas_any p2 g _ [102] (.slice A9 Q.length c9) Q _ (armD E4 0 0) w18 HP18.out HI18.out.disk HO16.out (by simp) HI18.out.own2.strs
                  rw [HF17.out.kept.pages, decide_eq_true rfl] at CH
                  have CH := Lib.hid CH
                  go_wp2_with fail
                  refine CH.out.mono ?_
                  rintro e w19 ⟨rfl, hb19⟩
                  have HI19 := Lib.hid (HI18.out.over hb19)
                  have HP19 := Lib.hid (HP18.out.below hb19)
                  have CH2 := phas_any p2 g _ [102] (.slice A9 Q.length c9) Q _ (armD E4 0 0) w19 HP19.out HI19.out.disk HO16.out (by simp) HI19.out.own2.strs
                  rw [HF17.out.kept.pages, decide_eq_true rfl] at CH2
                  have CH2 := Lib.hid CH2
                  clear hb19 HI18 HP18 CH
                  go_wp2_with fail
                  refine CH2.out.mono ?_
                  rintro e w20 ⟨rfl, hb20⟩
                  have HL20 : Hid (Los w g p2 (2200 * (k + 1) + 100 * (k2 + 1)) (armD E4 0 0) (.slice A9 Q.length c9) Q w20 _) := (HI19.out.over hb20).los2 (HP19.out.below hb20) HF17.out HO16.out rfl HR16.out hP2l
                  clear hb20 HI19 HP19 CH2
                  go_wp2_with fail
                  go_roundw
                  case rel => exact ⟨k + 1, k2 + 1, armD E4 0 0, _, p2, Q, rfl, by go_num, by go_num, by omega, by omega, HL20.out⟩
                  case measure => (simp [intOf] <;> omega)
                case neg =>
                  have hqP : Q = P := HQ.out.resolve_right (fun e => hq2 (e.trans HP2.out))
                  subst hqP
                  have hrest : ∀ w19, Below w18.heap.size w18 w19 → Hid (Ins w g sb s.keep (2200 * (k + 1) + 100 * (k2 + 1)) (armD E4 0 0) (.slice A8 Q.length c8) (.slice A9 P2.length c9) Q P2 w19 (since T4 w16 w17)) ∧ Hid (PgrAt w19 (since T4 w16 w17) p2 g [102]) ∧
                      Hid (Calls Tryz.prog 19 #[.pointer (some ⟨p2, 0, none⟩), .slice A8 Q.length c8] w19 (Gives (.bool true) w19)) := fun w19 hb19 => by
                    have h1 := HI18.out.over hb19
                    have h2 := HP18.out.below hb19
                    have h3 := phas_any p2 g _ [102] (.slice A8 Q.length c8) Q _ (armD E4 0 0) w19 h2 h1.disk HO16.out (by simp) h1.own.strs
                    rw [HF17.out.kept.pages, decide_eq_true rfl] at h3
                    exact ⟨h1, h2, h3⟩
                  have HRS := Lib.hid hrest
                  clear hrest
                  by_cases hlen : Q.length = P2.length
                  case' pos =>
                    have CH := phas_any p2 g _ [102] (.slice A9 P2.length c9) P2 _ (armD E4 0 0) w18 HP18.out HI18.out.disk HO16.out (by simp) HI18.out.own2.strs
                    rw [HF17.out.kept.pages, decide_eq_false hq2] at CH
                    have CH := Lib.hid CH
                    have hli : ((Q.length : Int) == (P2.length : Int)) = true := by rw [beq_iff_eq]; omega
                    have HLN := Lib.hid hlen
                    clear hlen
                    go_wp2_with fail
                    refine CH.out.mono ?_
                    rintro e w19 ⟨rfl, hb19⟩
                    obtain ⟨HI19, HP19, CH2⟩ := HRS.out w19 hb19
                    clear hb19 CH
                    go_wp2_with fail
                  case' neg =>
                    have hli : ((Q.length : Int) == (P2.length : Int)) = false := by rw [beq_eq_false_iff_ne]; omega
                    obtain ⟨HI19, HP19, CH2⟩ := HRS.out w18 (Below.refl _ _)
                    have HLN := Lib.hid hlen
                    clear hlen
                    go_wp2_with fail
                  all_goals
                    refine CH2.out.mono ?_
                    rintro e w20 ⟨rfl, hb20⟩
                    have HL20 : Hid (Los w g p2 (2200 * (k + 1) + 100 * (k2 + 1)) (armD E4 0 0) (.slice A8 Q.length c8) Q w20 _) := (HI19.out.over hb20).los (HP19.out.below hb20) HF17.out HO16.out rfl HR16.out hfit
                    clear hb20 HI19 HP19 CH2
                    go_wp2_with fail
                    go_roundw
                    case rel => exact ⟨k + 1, k2 + 1, armD E4 0 0, _, p2, Q, rfl, by go_num, by go_num, by omega, by omega, HL20.out⟩
                    case measure => (simp [intOf] <;> omega)
    · have hkl : k = l.length := by omega
      have hlt' : ¬ (k : Int) < l.length := by omega
      have hl12' : k ≤ 12 := by omega
      have CF := Lib.hid (off_dks g _ T D wr 0 hmid.out.disk (by omega))
      obtain ⟨hgp, hgf⟩ := hmid.out.fine.lost hmid.out.off hmid.out.room 0
      have HGP := Lib.hid hgp.on
      have hgf : (onD (lose D 0)).fuse = 0 := hgf
      clear hgp
      go_wp2_with fail
      refine CF.out.mono ?_
      intro e w5 hm
      obtain rfl := hm.1
      have HO5 := Lib.hid (hmid.out.oth.makes hm)
      have CO := Lib.hid (on_dks g _ _ (lose D 0) w5 HO5.out.disk)
      clear hm CF
      go_wp2_with fail
      refine CO.out.mono ?_
      intro e w6 hm
      obtain rfl := hm.1
      have HO6 := Lib.hid (HO5.out.makes hm)
      have CP := Lib.hid (open_gap g _ (2200 * k + 100 * kk + 50) 0 P [] _ (onD (lose D 0)) w6 HO6.out.disk rfl HGP.out ⟨⟨List.Pairwise.nil, fun p hp => (by cases hp)⟩, by simp, fun p hp => (by cases hp)⟩ rfl (fun h => absurd rfl h) (by simp) (Nat.le_refl _) (by omega))
      clear hm CO HO5
      go_wp2_with fail
      refine CP.out.mono ?_
      rintro e w7 ⟨vv, cc, T4, E4, rfl, k1, k22, k3, ⟨rfl, hoff, ⟨p2, rfl, hpg⟩, Q, hfine, hq, hr4⟩ | ⟨_, hfz, _⟩⟩
      case inr => exact absurd hgf hfz
      have hqP : Q = P := hq.elim id (fun h => h)
      subst hqP
      have HO7 := Lib.hid (HO6.out.move k1 k22 k3)
      have HP7 := Lib.hid hpg
      have HFW := Lib.hid hfine.few
      have HOF := Lib.hid hoff
      have CH := phas_any p2 g _ [102] (.slice A8 Q.length c8) Q T4 E4 w7 hpg HO7.out.disk hoff (by simp) HO7.out.own.strs
      rw [hfine.kept.pages, decide_eq_true rfl] at CH
      have CH := Lib.hid CH
      clear k1 k22 k3 CP HO6 hpg hfine hq hoff hr4
      go_wp2_with fail
      refine CH.out.mono ?_
      rintro e w8 ⟨rfl, hb8⟩
      have HO8 := Lib.hid (HO7.out.over hb8)
      have CN := Lib.hid (names_few g _ T4 E4 [102] w8 HO8.out.disk HOF.out HFW.out)
      clear hb8 CH HO7
      go_wp2_with fail
      refine CN.out.mono ?_
      rintro e w9 ⟨v9, ns, rfl, hb9, hns, hnl⟩
      obtain ⟨A10, c10, rfl, _, _⟩ := hns.strs.len
      have hnl' : (ns.length : Int) ≤ 1 := by omega
      have HB9 := Lib.hid (HO8.out.over hb9).below
      clear hns hb9 CN HO8
      go_wp2_with fail
      go_ret
      exact ⟨by simp, HB9.out⟩

end Go.Proofs.YtkbmajgbhpecgaaGreatDoor.Cd

namespace Go.Proofs.YtkbmajgbhpecgaaGreatDoor.PagerLoses
open Go.RowKit Go.Proofs.YtkbmajgbhpecgaaGreatDoor.Cd

theorem walk (v : Value) (l : List Stp) (va : Value) (ag : List Int) (w : World) (h : Cd.Steps w w.heap.size v l ∧ ∀ p ∈ l, p.Ok) (ha : Cd.Flat (fun n => Value.int .i64 n) w w.heap.size va ag ∧ ∀ n ∈ ag, (Lit.int .i64 n).wf = true) : Calls Tryz.prog 3 #[v, va] w (Gives (.bool true) w) :=
  pl_main l ag v va w h.1 h.2 ha.1 ha.2

end Go.Proofs.YtkbmajgbhpecgaaGreatDoor.PagerLoses
