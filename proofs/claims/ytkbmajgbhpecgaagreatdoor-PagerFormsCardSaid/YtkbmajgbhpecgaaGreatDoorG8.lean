/-
  The library's contracts on sorting what the keys of a map of ints are, at this seat. Conditions: none. Laid by program (tools/iteri.py).
-/
import Derived.Test.YtkbmajgbhpecgaaGreatDoorG6
import Derived.RangeFuncIn
import Derived.RangeFuncRecord
import Derived.RangeFuncSeq
import Derived.RangeFuncBound
import Derived.RangeFuncCalls
import Derived.Test.YtkbmajgbhpecgaaGreatDoorG1
import Derived.Test.YtkbmajgbhpecgaaGreatDoorG7
import Derived.Lib.SlKeysI
import Derived.ChangeSame
import Derived.OpenShut
import Derived.Laws.Rows
import Derived.SizedLaws
import Derived.LoopTactic
import Derived.Deep.RegionHeld3
import Derived.Shelf.SlIterI.Nil
import Derived.Shelf.SortM.Plain
import Derived.Shelf.SortM.SortNone
import Derived.Ground.GgzProg
import Derived.Ground.SlgmProg
import Derived.Test.YtkbmajgbhpecgaaGreatDoorRows
/-
  A file's pages that are written all or none, as the document tells of it, over a disk as the document tells of it: what a commit does. No Go in sight. Conditions: none.
-/
namespace Go.Proofs.YtkbmajgbhpecgaaGreatDoor.Cd

/-- Pages, each with its number. -/
abbrev Pgs := List (Int × List UInt8)

def jnl (n : List UInt8) : List UInt8 := n ++ [45, 106]
def drf (n : List UInt8) : List UInt8 := n ++ [45, 116]
theorem jnl_ne (n : List UInt8) : jnl n ≠ n := fun h => by have := congrArg List.length h; simp [jnl] at this
theorem drf_ne (n : List UInt8) : drf n ≠ n := fun h => by have := congrArg List.length h; simp [drf] at this
theorem jnl_drf (n : List UInt8) : jnl n ≠ drf n := fun h => by simp [drf, jnl] at h

/-- One page of a record; the record's text; its bytes. -/
def recP (p : Int × List UInt8) : List UInt8 := enc (zig p.1) ++ (enc p.2.length ++ p.2)
def recT (ws : Pgs) : List UInt8 := enc (zig ws.length) ++ (ws.map recP).flatten
def recF (ws : Pgs) : List UInt8 := frm (recT ws)

/-- How many pages bytes take; the k-th of them; all. -/
def pagesOf (n : Nat) : Nat := (n + 511) / 512
def chunk (b : List UInt8) (k : Nat) : List UInt8 := (b.drop (512 * k)).take 512
def chunks (b : List UInt8) : Pgs := (List.range (pagesOf b.length)).map fun (k : Nat) => ((k : Int), chunk b k)
theorem chunk_len (b : List UInt8) (k : Nat) : (chunk b k).length ≤ 512 := by simp [chunk]; omega
theorem chunks_len (b : List UInt8) : (chunks b).length = pagesOf b.length := by simp [chunks]

/-- Writes, one behind the other, up to one that is refused. -/
def writes (D : Dsk) (n : List UInt8) : Pgs → Dsk × Nat
  | [] => (D, 0)
  | p :: r => if (writeD D n p.1 p.2).2 = 0 then writes (writeD D n p.1 p.2).1 n r else writeD D n p.1 p.2

theorem writes_cons {D : Dsk} {n : List UInt8} {p : Int × List UInt8} {r : Pgs} (h : (writeD D n p.1 p.2).2 = 0) : writes D n (p :: r) = writes (writeD D n p.1 p.2).1 n r := by rw [writes, if_pos h]
theorem writes_bad {D : Dsk} {n : List UInt8} {p : Int × List UInt8} {r : Pgs} (h : (writeD D n p.1 p.2).2 ≠ 0) : writes D n (p :: r) = writeD D n p.1 p.2 := by rw [writes, if_neg h]
theorem writes_append (n : List UInt8) (a b : Pgs) : ∀ (D : Dsk), writes D n (a ++ b) = if (writes D n a).2 = 0 then writes (writes D n a).1 n b else writes D n a := by
  induction a with
  | nil => intro D; simp [writes]
  | cons p r ih =>
    intro D
    by_cases h : (writeD D n p.1 p.2).2 = 0
    · rw [List.cons_append, writes_cons h, writes_cons h]; exact ih _
    · rw [List.cons_append, writes_bad h, writes_bad h, if_neg h]
theorem writes_one (D : Dsk) (n : List UInt8) (p : Int × List UInt8) : writes D n [p] = writeD D n p.1 p.2 := by
  simp only [writes]
  split
  · rename_i h; rw [← h]
  · rfl
theorem writes_take (n : List UInt8) (l : Pgs) (D : Dsk) {k : Nat} (hk : k < l.length) (h : (writes D n (l.take k)).2 = 0) : writes D n (l.take (k + 1)) = writeD (writes D n (l.take k)).1 n l[k].1 l[k].2 := by
  rw [List.take_succ_eq_append_getElem hk, writes_append, if_pos h, writes_one]
theorem writes_stop (n : List UInt8) (l : Pgs) (D : Dsk) {k : Nat} (h : (writes D n (l.take k)).2 ≠ 0) : writes D n l = writes D n (l.take k) := by
  conv => lhs; rw [← List.take_append_drop k l, writes_append]
  rw [if_neg h]

def discardD (D : Dsk) (n : List UInt8) : Dsk × Nat := if (getF D.now (drf n)).isSome = true then removeD D (drf n) else (D, 0)
def postD (D : Dsk) (n b : List UInt8) : Dsk × Nat :=
  if (discardD D n).2 ≠ 0 then discardD D n else
  if (writes (discardD D n).1 (drf n) (chunks b)).2 ≠ 0 then writes (discardD D n).1 (drf n) (chunks b) else
  if (syncD (writes (discardD D n).1 (drf n) (chunks b)).1 (drf n)).2 ≠ 0 then syncD (writes (discardD D n).1 (drf n) (chunks b)).1 (drf n) else
  renameD (syncD (writes (discardD D n).1 (drf n) (chunks b)).1 (drf n)).1 (drf n) (jnl n)
/-- Sync, if the file is there. -/
def syncIf (D : Dsk) (n : List UInt8) : Dsk × Nat := if (getF D.now n).isSome = true then syncD D n else (D, 0)
def settleD (D : Dsk) (n : List UInt8) (ws : Pgs) : Dsk × Nat :=
  if (writes D n ws).2 ≠ 0 then writes D n ws else
  if (syncIf (writes D n ws).1 n).2 ≠ 0 then syncIf (writes D n ws).1 n else
  removeD (syncIf (writes D n ws).1 n).1 (jnl n)
/-- How many of the pages are new ones; none: the file can't have them. -/
def freshN : Nat → Pgs → Option Nat
  | _, [] => some 0
  | c, p :: r => if p.1 < 0 ∨ (c : Int) < p.1 then none else if p.1 = c then (freshN (c + 1) r).map (· + 1) else freshN c r
def hasLong (ws : Pgs) : Bool := ws.any fun p => decide (512 < p.2.length)
/-- What a commit leaves and answers, with the power on. -/
def commitD (D : Dsk) (n : List UInt8) (ws : Pgs) : Dsk × Nat :=
  if D.off = true then (D, 8) else
  if hasLong ws = true then (D, 3) else
  match freshN (pagesF D.now n).length ws with
  | none => (D, 1)
  | some f =>
    if ws = [] then (D, 0) else
    if freeD D < (pagesOf (recF ws).length + f : Nat) then (D, 7) else
    if (postD D n (recF ws)).2 ≠ 0 then postD D n (recF ws) else settleD (postD D n (recF ws)).1 n ws

/-! ### With the power on, and no end of it in sight -/

/-- Pages, with some written. -/
def laidP (P : List (List UInt8)) (ws : Pgs) : List (List UInt8) := ws.foldl (fun P p => setP P p.1.toNat (pad p.2)) P

theorem free_pos {D : Dsk} {room k : Nat} (h : Roomy D room k) (hk : k < room) : freeD D ≠ 0 := by rw [h.free]; omega

/-- One write, in the file's pages or at their end. -/
theorem Roomy.put {D : Dsk} {room k : Nat} (h : Roomy D room k) {n b : List UInt8} {i : Nat} (hi : i ≤ (pagesF D.now n).length) (hb : b.length ≤ 512) (hk : i = (pagesF D.now n).length → k < room) :
    (writeD D n i b).2 = 0 ∧ Roomy (writeD D n i b).1 room (k + if i = (pagesF D.now n).length then 1 else 0) ∧
      (∀ m, pagesF (writeD D n i b).1.now m = if m = n then setP (pagesF D.now n) i (pad b) else pagesF D.now m) ∧
      (∀ m, (getF (writeD D n i b).1.now m).isSome = if m = n then true else (getF D.now m).isSome) := by
  have hw : writeD D n i b = (wrote D n i b, 0) := by
    unfold writeD
    rw [if_neg (by rw [h.off]; simp), if_neg (by omega), if_neg (by omega), if_neg (fun h2 => free_pos h (hk (by omega)) h2.2), Int.toNat_natCast]
    exact ends_calm (by rw [h.fuse]; omega)
  rw [hw]
  have hc := count_put h.once ⟨n, setP (pagesF D.now n) i (pad b)⟩
  simp only [setP_len] at hc
  have hkc := h.count
  refine ⟨rfl, ⟨h.off, by show D.fuse - 1 = 0; rw [h.fuse], put_once h.once _, h.room, ?_⟩, fun m => ?_, fun m => wrote_is D n b i m⟩
  · show Cd.count (putF D.now ⟨n, setP (pagesF D.now n) i (pad b)⟩) = _
    split <;> omega
  · show pagesF (putF D.now ⟨n, _⟩) m = _
    rw [pagesF_put]

theorem Roomy.writes {n : List UInt8} {room : Nat} (ws : Pgs) : ∀ {D : Dsk} {k f : Nat}, Roomy D room k → freshN (pagesF D.now n).length ws = some f → k + f ≤ room → (∀ p ∈ ws, p.2.length ≤ 512) →
    (Cd.writes D n ws).2 = 0 ∧ Roomy (Cd.writes D n ws).1 room (k + f) ∧
      (∀ m, pagesF (Cd.writes D n ws).1.now m = if m = n then laidP (pagesF D.now n) ws else pagesF D.now m) ∧
      (∀ m, (getF (Cd.writes D n ws).1.now m).isSome = if m = n ∧ ws ≠ [] then true else (getF D.now m).isSome) := by
  induction ws with
  | nil =>
    intro D k f h hf _ _
    injection hf with hf
    subst hf
    refine ⟨rfl, h, fun m => ?_, fun m => ?_⟩
    · show pagesF D.now m = if m = n then pagesF D.now n else _
      split
      · rename_i e; rw [e]
      · rfl
    · simp [Cd.writes]
  | cons p r ih =>
    intro D k f h hf hk hl
    obtain ⟨i, b⟩ := p
    rw [freshN] at hf
    by_cases hbad : i < 0 ∨ ((pagesF D.now n).length : Int) < i
    · rw [if_pos hbad] at hf; cases hf
    · rw [if_neg hbad] at hf
      obtain ⟨j, rfl⟩ := Int.eq_ofNat_of_zero_le (a := i) (by omega)
      have hb : b.length ≤ 512 := hl (↑j, b) (by simp)
      have hr : ∀ p ∈ r, p.2.length ≤ 512 := fun p hp => hl p (by simp [hp])
      have key : ∀ f', freshN (setP (pagesF D.now n) j (pad b)).length r = some f' → k + (if j = (pagesF D.now n).length then 1 else 0) + f' ≤ room → (j = (pagesF D.now n).length → k < room) → (k + if j = (pagesF D.now n).length then 1 else 0) + f' = k + f →
          (Cd.writes D n ((↑j, b) :: r)).2 = 0 ∧ Roomy (Cd.writes D n ((↑j, b) :: r)).1 room (k + f) ∧
            (∀ m, pagesF (Cd.writes D n ((↑j, b) :: r)).1.now m = if m = n then laidP (pagesF D.now n) ((↑j, b) :: r) else pagesF D.now m) ∧
            (∀ m, (getF (Cd.writes D n ((↑j, b) :: r)).1.now m).isSome = if m = n ∧ ((↑j, b) :: r : Pgs) ≠ [] then true else (getF D.now m).isSome) := by
        intro f' h1 h2 h3 h4
        obtain ⟨q1, q2, q3, q4⟩ := h.put (n := n) (b := b) (i := j) (by omega) hb h3
        have e : Cd.writes D n ((↑j, b) :: r) = Cd.writes (writeD D n j b).1 n r := by rw [Cd.writes, if_pos q1]
        rw [e]
        have hp := q3 n
        rw [if_pos rfl] at hp
        obtain ⟨s1, s2, s3, s4⟩ := ih q2 (f := f') (by rw [hp]; exact h1) h2 hr
        refine ⟨s1, by rw [← h4]; exact s2, fun m => ?_, fun m => ?_⟩
        · rw [s3 m, hp, q3 m]
          by_cases em : m = n
          · rw [if_pos em, if_pos em]; rfl
          · rw [if_neg em, if_neg em, if_neg em]
        · rw [s4 m, q4 m]
          by_cases em : m = n
          · simp [em]
          · simp [em]
      by_cases he : (j : Int) = ((pagesF D.now n).length : Int)
      · rw [if_pos he] at hf
        have he' : j = (pagesF D.now n).length := by omega
        cases hf2 : freshN ((pagesF D.now n).length + 1) r with
        | none => rw [hf2] at hf; cases hf
        | some f' =>
          rw [hf2] at hf
          injection hf with hf
          have hf : f' + 1 = f := hf
          refine key f' ?_ ?_ (fun _ => by omega) ?_
          · rw [setP_len, ← hf2]; congr 1; omega
          · rw [if_pos he']; omega
          · rw [if_pos he']; omega
      · rw [if_neg he] at hf
        refine key f ?_ ?_ (fun e => absurd (by omega) he) ?_
        · rw [setP_len, ← hf]; congr 1; omega
        · rw [if_neg (by omega)]; omega
        · rw [if_neg (by omega), Nat.add_zero]

theorem fresh_chunks_aux (g : Nat → List UInt8) (m : Nat) : ∀ c, freshN c ((List.range' c m).map fun (k : Nat) => ((k : Int), g k)) = some m := by
  induction m with
  | zero => intro c; rfl
  | succ m ih =>
    intro c
    rw [List.range'_succ, List.map_cons, freshN, if_neg (by omega), if_pos rfl, ih]
    rfl
theorem fresh_chunks (b : List UInt8) : freshN 0 (chunks b) = some (pagesOf b.length) := by
  unfold chunks
  rw [List.range_eq_range']
  exact fresh_chunks_aux _ _ 0
theorem chunks_short (b : List UInt8) : ∀ p ∈ chunks b, p.2.length ≤ 512 := by
  intro p hp
  obtain ⟨k, _, rfl⟩ := List.mem_map.1 hp
  exact chunk_len b k

theorem Roomy.sync {D : Dsk} {room k : Nat} (h : Roomy D room k) {n : List UInt8} (h2 : (getF D.now n).isSome = true) : (syncD D n).2 = 0 ∧ Roomy (syncD D n).1 room k ∧ (syncD D n).1.now = D.now := by
  rw [sync_calm h.off h2 (by rw [h.fuse]; omega)]
  exact ⟨rfl, ⟨h.off, by show D.fuse - 1 = 0; rw [h.fuse], h.once, h.room, h.count⟩, rfl⟩
theorem Roomy.removed {D : Dsk} {room k : Nat} (h : Roomy D room k) {n : List UInt8} (h2 : (getF D.now n).isSome = true) :
    (removeD D n).2 = 0 ∧ Roomy (removeD D n).1 room (k - (pagesF D.now n).length) ∧ (pagesF D.now n).length ≤ k ∧ (∀ m, getF (removeD D n).1.now m = if m = n then none else getF D.now m) := by
  obtain ⟨a, b, c⟩ := h.remove h2
  refine ⟨a, b, c, fun m => ?_⟩
  rw [remove_calm h.off h2 (by rw [h.fuse]; omega)]
  exact getF_without D.now n m
theorem pagesF_get {l l' : List Fil} {m : List UInt8} (h : getF l m = getF l' m) : pagesF l m = pagesF l' m := by unfold pagesF; rw [h]
theorem Roomy.rename {D : Dsk} {room k : Nat} (h : Roomy D room k) {a b : List UInt8} (h2 : (getF D.now a).isSome = true) (h3 : (getF D.now b).isSome = false) (hne : a ≠ b) :
    (renameD D a b).2 = 0 ∧ Roomy (renameD D a b).1 room k ∧ (∀ m, getF (renameD D a b).1.now m = if m = b then some ⟨b, pagesF D.now a⟩ else if m = a then none else getF D.now m) := by
  have e : renameD D a b = (renames (actD D) a b, 0) := by
    unfold renameD
    rw [may_ok h.off h2, ends_calm (by rw [h.fuse]; omega), if_pos ⟨rfl, hne⟩]
  rw [e]
  have h1 := count_without h.once a
  have h4 := count_put (without_once h.once a) ⟨b, pagesF D.now a⟩
  have h5 : pagesF (without D.now a) b = [] := pages_of_none (by rw [getF_without, if_neg hne.symm]; exact h3)
  simp only [h5, List.length_nil] at h4
  have hkc := h.count
  refine ⟨rfl, ⟨h.off, by show D.fuse - 1 = 0; rw [h.fuse], put_once (without_once h.once a) _, h.room, ?_⟩, fun m => ?_⟩
  · show Cd.count (putF (without D.now a) ⟨b, pagesF D.now a⟩) = k
    omega
  · show getF (putF (without D.now a) ⟨b, pagesF D.now a⟩) m = _
    rw [getF_put, getF_without]

/-- Neither a draft nor a journal is there. -/
structure Bare (D : Dsk) (n : List UInt8) : Prop where
  draft : (getF D.now (drf n)).isSome = false
  journal : (getF D.now (jnl n)).isSome = false

theorem hasLong_none {ws : Pgs} (h : hasLong ws = false) : ∀ p ∈ ws, p.2.length ≤ 512 := by
  intro p hp
  unfold hasLong at h
  have := List.any_eq_false.1 h p hp
  simpa using this
theorem pagesOf_pos {n : Nat} (h : 0 < n) : 0 < pagesOf n := by unfold pagesOf; omega
theorem chunks_ne {b : List UInt8} (h : 0 < b.length) : chunks b ≠ [] := fun e => by
  have := chunks_len b
  rw [e] at this
  have := pagesOf_pos h
  simp at *
  omega
theorem frm_pos (x : List UInt8) : 0 < (frm x).length := by have := frm_ge x; omega

/-- The record is the journal; nothing else turns. -/
theorem Roomy.post {D : Dsk} {room k : Nat} (h : Roomy D room k) {n b : List UInt8} (hb : Bare D n) (h0 : 0 < b.length) (hk : k + pagesOf b.length ≤ room) :
    (postD D n b).2 = 0 ∧ Roomy (postD D n b).1 room (k + pagesOf b.length) ∧ (∀ m, m ≠ jnl n → m ≠ drf n → pagesF (postD D n b).1.now m = pagesF D.now m ∧ (getF (postD D n b).1.now m).isSome = (getF D.now m).isSome) ∧
      (getF (postD D n b).1.now (drf n)).isSome = false ∧ (getF (postD D n b).1.now (jnl n)).isSome = true ∧ (pagesF (postD D n b).1.now (jnl n)).length = pagesOf b.length := by
  have hd : discardD D n = (D, 0) := by unfold discardD; rw [if_neg (by rw [hb.draft]; simp)]
  have hp0 : pagesF D.now (drf n) = [] := pages_of_none hb.draft
  obtain ⟨a1, a2, a3, a4⟩ := h.writes (n := drf n) (chunks b) (f := pagesOf b.length) (by rw [hp0]; exact fresh_chunks b) hk (chunks_short b)
  have hw1 := a4 (drf n)
  rw [if_pos ⟨rfl, chunks_ne h0⟩] at hw1
  obtain ⟨b1, b2, b3⟩ := a2.sync hw1
  have hj : (getF (syncD (Cd.writes D (drf n) (chunks b)).1 (drf n)).1.now (jnl n)).isSome = false := by
    rw [b3, a4, if_neg (fun h2 => jnl_drf n h2.1)]; exact hb.journal
  obtain ⟨c1, c2, c3⟩ := b2.rename (a := drf n) (b := jnl n) (by rw [b3]; exact hw1) hj (fun e => jnl_drf n e.symm)
  have e : postD D n b = renameD (syncD (Cd.writes D (drf n) (chunks b)).1 (drf n)).1 (drf n) (jnl n) := by
    unfold postD
    rw [hd]
    simp only [ne_eq, not_true_eq_false, if_false, a1, b1]
  rw [e]
  refine ⟨c1, c2, fun m m1 m2 => ?_, ?_, ?_, ?_⟩
  · have := c3 m
    rw [if_neg m1, if_neg m2, b3] at this
    refine ⟨?_, ?_⟩
    · rw [pagesF_get this, a3, if_neg m2]
    · rw [this, a4, if_neg (fun h2 => m2 h2.1)]
  · rw [c3, if_neg (fun e => jnl_drf n e.symm), if_pos rfl]; rfl
  · rw [c3, if_pos rfl]; rfl
  · have : pagesF (renameD (syncD (Cd.writes D (drf n) (chunks b)).1 (drf n)).1 (drf n) (jnl n)).1.now (jnl n) = pagesF (Cd.writes D (drf n) (chunks b)).1.now (drf n) := by
      unfold pagesF
      rw [c3, if_pos rfl, b3]
      rfl
    rw [this, a3, if_pos rfl, hp0]
    have hl : ∀ (ws : Pgs) (P : List (List UInt8)) (f : Nat), freshN P.length ws = some f → (laidP P ws).length = P.length + f := by
      intro ws
      induction ws with
      | nil => intro P f hf; injection hf with hf; subst hf; rfl
      | cons p r ih =>
        intro P f hf
        obtain ⟨i, c⟩ := p
        rw [freshN] at hf
        show (laidP (setP P i.toNat (pad c)) r).length = _
        split at hf
        · cases hf
        · split at hf
          · cases hf2 : freshN (P.length + 1) r with
            | none => rw [hf2] at hf; cases hf
            | some f' =>
              rw [hf2] at hf
              injection hf with hf
              have hf : f' + 1 = f := hf
              rw [ih _ f' (by rw [setP_len, ← hf2]; congr 1; omega), setP_len]
              omega
          · rw [ih _ f (by rw [setP_len, ← hf]; congr 1; omega), setP_len]
            omega
    have := hl (chunks b) [] _ (fresh_chunks b)
    simpa using this

/-- The pages are written, the journal is gone. -/
theorem Roomy.settle {D : Dsk} {room k f : Nat} (h : Roomy D room k) {n : List UInt8} {ws : Pgs} (hj : (getF D.now (jnl n)).isSome = true) (hd : (getF D.now (drf n)).isSome = false) (hf : freshN (pagesF D.now n).length ws = some f) (hk : k + f ≤ room) (hl : ∀ p ∈ ws, p.2.length ≤ 512) :
    (settleD D n ws).2 = 0 ∧ Roomy (settleD D n ws).1 room (k + f - (pagesF D.now (jnl n)).length) ∧ (pagesF D.now (jnl n)).length ≤ k + f ∧ Bare (settleD D n ws).1 n ∧
      (∀ m, m ≠ jnl n → pagesF (settleD D n ws).1.now m = (if m = n then laidP (pagesF D.now n) ws else pagesF D.now m) ∧ (getF (settleD D n ws).1.now m).isSome = if m = n ∧ ws ≠ [] then true else (getF D.now m).isSome) := by
  obtain ⟨a1, a2, a3, a4⟩ := h.writes (n := n) ws hf hk hl
  have hs : (syncIf (Cd.writes D n ws).1 n).2 = 0 ∧ Roomy (syncIf (Cd.writes D n ws).1 n).1 room (k + f) ∧ (syncIf (Cd.writes D n ws).1 n).1.now = (Cd.writes D n ws).1.now := by
    unfold syncIf
    by_cases hh : (getF (Cd.writes D n ws).1.now n).isSome = true
    · rw [if_pos hh]; exact a2.sync hh
    · rw [if_neg hh]; exact ⟨rfl, a2, rfl⟩
  obtain ⟨b1, b2, b3⟩ := hs
  have e : settleD D n ws = removeD (syncIf (Cd.writes D n ws).1 n).1 (jnl n) := by
    unfold settleD
    simp only [ne_eq, a1, b1, not_true_eq_false, if_false]
  rw [e]
  have hjj : (getF (syncIf (Cd.writes D n ws).1 n).1.now (jnl n)).isSome = true := by rw [b3, a4, if_neg (fun h2 => jnl_ne n h2.1)]; exact hj
  obtain ⟨c1, c2, c3, c4⟩ := b2.removed hjj
  have hjp : pagesF (syncIf (Cd.writes D n ws).1 n).1.now (jnl n) = pagesF D.now (jnl n) := by rw [b3, a3, if_neg (jnl_ne n)]
  rw [hjp] at c2 c3
  refine ⟨c1, c2, c3, ⟨?_, ?_⟩, fun m hm => ?_⟩
  · rw [c4, if_neg (fun e => jnl_drf n e.symm), b3, a4, if_neg (fun h2 => drf_ne n h2.1)]; exact hd
  · rw [c4, if_pos rfl]; rfl
  · have := c4 m
    rw [if_neg hm, b3] at this
    exact ⟨by rw [pagesF_get this, a3], by rw [this, a4]⟩

/-- A commit: what it answers, and what it leaves. -/
theorem Roomy.commit {D : Dsk} {room k : Nat} (h : Roomy D room k) {n : List UInt8} (hb : Bare D n) (ws : Pgs) :
    ((commitD D n ws).2 ≠ 0 ∧ (commitD D n ws).1 = D) ∨ ∃ f, hasLong ws = false ∧ freshN (pagesF D.now n).length ws = some f ∧ (ws ≠ [] → k + pagesOf (recF ws).length + f ≤ room) ∧ (commitD D n ws).2 = 0 ∧ Roomy (commitD D n ws).1 room (k + f) ∧ Bare (commitD D n ws).1 n ∧
      (∀ m, m ≠ jnl n → m ≠ drf n → pagesF (commitD D n ws).1.now m = (if m = n then laidP (pagesF D.now n) ws else pagesF D.now m) ∧ (getF (commitD D n ws).1.now m).isSome = if m = n ∧ ws ≠ [] then true else (getF D.now m).isSome) := by
  unfold commitD
  rw [if_neg (by rw [h.off]; simp)]
  cases hl : hasLong ws
  · rw [if_neg (by simp)]
    cases hf : freshN (pagesF D.now n).length ws with
    | none => exact .inl ⟨by simp, rfl⟩
    | some f =>
      simp only
      by_cases hws : ws = []
      · subst hws
        injection hf with hf
        subst hf
        rw [if_pos rfl]
        refine .inr ⟨0, by first | rfl | trivial, rfl, fun h => absurd rfl h, rfl, h, hb, fun m _ _ => ⟨?_, by simp⟩⟩
        show pagesF D.now m = if m = n then pagesF D.now n else _
        split
        · rename_i e; rw [e]
        · rfl
      · rw [if_neg hws]
        by_cases hroom : freeD D < (pagesOf (recF ws).length + f : Nat)
        · rw [if_pos hroom]
          exact .inl ⟨by simp, rfl⟩
        · rw [if_neg hroom]
          have hfr := h.free
          have hle : k + pagesOf (recF ws).length + f ≤ room := by
            rw [hfr] at hroom
            omega
          obtain ⟨a1, a2, a3, a4, a5, a6⟩ := h.post hb (b := recF ws) (frm_pos _) (by omega)
          rw [if_neg (by rw [a1]; simp)]
          have hn := a3 n (fun e => jnl_ne n e.symm) (fun e => drf_ne n e.symm)
          obtain ⟨b1, b2, b3, b4, b5⟩ := a2.settle (n := n) (ws := ws) a5 a4 (by rw [hn.1]; exact hf) hle (hasLong_none hl)
          rw [a6] at b2 b3
          refine .inr ⟨f, by first | rfl | trivial, rfl, fun _ => hle, b1, ?_, b4, fun m m1 m2 => ?_⟩
          · rw [show k + f = k + pagesOf (recF ws).length + f - pagesOf (recF ws).length by omega]
            exact b2
          · obtain ⟨c1, c2⟩ := b5 m m1
            have hm := a3 m m1 m2
            rw [c1, c2, hn.1, hm.1, hm.2]
            exact ⟨rfl, rfl⟩
  · rw [if_pos rfl]
    exact .inl ⟨by simp, rfl⟩

end Go.Proofs.YtkbmajgbhpecgaaGreatDoor.Cd

/-
  A range over a function whose body calls what writes maps: the invariant is told of the loop's own two blocks, and the body keeps these. Conditions: the loop stands in no other one.
-/
namespace Go.Proofs.YtkbmajgbhpecgaaGreatDoor.Cd
open Go.RowKit

/-- The loop's two blocks lie as they lay. -/
def Two (b : Nat) (W W' : World) : Prop := W'.heap[b]? = W.heap[b]? ∧ W'.heap[b + 1]? = W.heap[b + 1]?
/-- How a round may be left. -/
def roundEnds (b : Nat) (J : World → Prop) (Jx : Code → World → Prop) (W : World) : Exit → Act → World → Prop
  | .normal, _, W' => Two b W W' ∧ J W'
  | .ret, _, W' => Two b W W' ∧ Jx .ret W'
  | .exit i, _, W' => Two b W W' ∧ Jx (.exit i) W'
  | .goto t, _, W' => Two b W W' ∧ Jx (.goto t) W'
  | .panic _, _, _ => False
  | .outgrown, _, _ => False
/-- What stays behind steps that turn nothing that lay, and behind a turn of block r. -/
def Stays (r : Nat) (J : World → Prop) : Prop := (∀ A B, J A → Below A.heap.size A B → J B) ∧ ∀ A o, J A → J (A.putObj r o)
/-- What an iterator is asked: it hands the items over, one behind the other, up to a round that says no. -/
def Hands {α : Type} (F : Fence) (n : Nat) (P : Program) (gf : Nat) (lb : Array Value) (encs : α → Array Value) (xs : List α) (Box : World → Prop) : Prop :=
  ∀ (l : Nat) (J Jx : Nat → World → Prop) (W : World),
    (∀ k A B, J k A → Below A.heap.size A B → J k B) → (∀ k A B, Jx k A → Below A.heap.size A B → Jx k B) → (∀ k A, J k A → Box A) →
    (∀ k x A, xs[k]? = some x → J k A → YieldAt F (n - 1) P l (encs x) A fun e A' => (e = .returned (.bool true) ∧ J (k + 1) A') ∨ (e = .returned (.bool false) ∧ Jx (k + 1) A')) →
    J 0 W → CallsIn F n P gf (#[.func (.yield l) #[] #[]] ++ lb) W fun e W' => (∃ v, e = .returned v) ∧ (J xs.length W' ∨ ∃ k, k ≤ xs.length ∧ Jx k W')

variable {F : Fence} {n : Nat} {P : Program}

theorem two_put {b : Nat} (W : World) {r : Nat} (o : Obj) (h : b ≠ r) : (W.putObj r o).heap[b]? = W.heap[b]? := World.putObj_heap_other h

theorem wpIn_range {α : Type} {g : Operand} {ps : Array Tmp} {assign body : Code} {Q : Exit → Act → World → Prop} {a : Act} {w : World} (hro : F.round = none) (h1 : 1 ≤ n) {gf : Nat} {lb : Array Value} (hg : a.eval g = .func (.func gf) #[] lb) (hFg : F.fn gf)
    (eg : ∀ args w, (callFunc gf args).run P w = .ok (.enter gf args) w) {encs : α → Array Value} (hps : ∀ x, (encs x).size = ps.size) (xs : List α) (Box : World → Prop) (hseq : Hands F (n - 1) P gf lb encs xs Box)
    (I : Nat → World → Prop) (Ix : Code → Nat → World → Prop) (hI : ∀ k, Stays (w.heap.size + 1) (I k)) (hIx : ∀ c k, Stays (w.heap.size + 1) (Ix c k)) (hBox : ∀ k A, I k A → Box A)
    (h0 : ∀ o, I 0 ((w.alloc (.deferred (some []))).alloc o)) (a₁ : α → Act)
    (hassign : ∀ (l : Nat) (x : α) (W : World) (K : Act → World → Prop), K (a₁ x) W → assign.wpIn (F.inRound l) (n - 1 - 1) P (Exit.then K (fun _ _ _ => False)) { tmps := (ps.zip (encs x)).foldl (fun t (p, v) => t.setIfInBounds p v) a.tmps, defers := [] } W)
    (hbody : ∀ (k : Nat) (x : α) (W : World), xs[k]? = some x → I k W → w.heap.size + 1 < W.heap.size → body.wpIn (F.inRound (w.heap.size + 1)) (n - 1 - 1) P (roundEnds w.heap.size (I (k + 1)) (fun c => Ix c (k + 1)) W) (a₁ x) W)
    (hdone : ∀ W, I xs.length W → W.heap[w.heap.size]? = some (.deferred (some [])) → Q .normal { a with defers := { target := .collected w.heap.size, args := #[] } :: a.defers } W)
    (hstop : ∀ (c : Code) (k : Nat) (W : World), k ≤ xs.length → Ix c k W → W.heap[w.heap.size]? = some (.deferred (some [])) → c.wpIn F n P Q { a with defers := { target := .collected w.heap.size, args := #[] } :: a.defers } W) :
    (Code.rangeFunc g ps assign body).wpIn F n P Q a w := by
  refine wpIn_rangeFunc ?_
  intro fn hfn
  rw [hro]
  obtain ⟨b, hb⟩ : ∃ b, w.heap.size = b := ⟨_, rfl⟩
  let rec_ : LoopState → Option Code → Obj := fun st pe => .loop { state := st, pending := pe, fn, tmps := a.tmps, params := ps, assign, body, defers := b }
  have hW : ∀ o, (((w.alloc (.deferred (some []))).alloc o).heap[b + 1]? = some o) ∧ (((w.alloc (.deferred (some []))).alloc o).heap[b]? = some (.deferred (some []))) := by
    intro o
    have e1 := World.alloc_heap_new (w.alloc (.deferred (some []))) o
    rw [World.size_alloc, hb] at e1
    have e2 := World.alloc_heap_new w (.deferred (some []))
    rw [hb] at e2
    exact ⟨e1, (Below.heap_alloc _ _ _ (by simp; omega)).trans e2⟩
  refine ⟨b + 1, [{ target := .collected b, args := #[] }], (w.alloc (.deferred (some []))).alloc (rec_ .ready none), { target := .fn (.func gf) lb, args := #[.func (.yield (b + 1)) #[] #[]] }, (w.alloc (.deferred (some []))).alloc (rec_ .ready none), gf, #[.func (.yield (b + 1)) #[] #[]] ++ lb, (w.alloc (.deferred (some []))).alloc (rec_ .ready none), ?_, ?_, fun f' hf' => ?_, ?_, fun _ => h1, ?_⟩
  · rw [← hb]
    have := run_enterLoop_outer (P := P) (w := w) fn a.tmps ps assign body
    rw [this]
    simp only [rec_, hb]
  · simp only [resolve, hg]
    simp [go_sem]
  · have hf' : some gf = some f' := by simpa [Target.leads] using hf'
    injection hf' with hf'
    rw [← hf']
    exact hFg
  · simp [invoke, go_sem, eg]
  simp only [hb] at hI hIx hbody hdone hstop ⊢
  refine (hseq (b + 1) (fun k W => I k W ∧ W.heap[b + 1]? = some (rec_ .ready none) ∧ W.heap[b]? = some (.deferred (some [])))
    (fun k W => ∃ c, Ix c k W ∧ W.heap[b + 1]? = some (rec_ .done (some c)) ∧ W.heap[b]? = some (.deferred (some []))) _ ?_ ?_ ?_ ?_ ⟨h0 _, (hW _).1, (hW _).2⟩).mono ?_
  · rintro k A B ⟨h1, h2, h3⟩ hAB
    exact ⟨(hI k).1 A B h1 hAB, (hAB.block _ (Array.getElem?_eq_some_iff.1 h2).1).trans h2, (hAB.block _ (Array.getElem?_eq_some_iff.1 h3).1).trans h3⟩
  · rintro k A B ⟨c, h1, h2, h3⟩ hAB
    exact ⟨c, (hIx c k).1 A B h1 hAB, (hAB.block _ (Array.getElem?_eq_some_iff.1 h2).1).trans h2, (hAB.block _ (Array.getElem?_eq_some_iff.1 h3).1).trans h3⟩
  · rintro k A ⟨h1, _⟩
    exact hBox k A h1
  · rintro k x W hx ⟨hi, hl, hk⟩
    have hlt : b + 1 < W.heap.size := (Array.getElem?_eq_some_iff.1 hl).1
    have hy := run_yield (P := P) (args := encs x) hl (hps x)
    refine ⟨fn, _, assign, body, hy, roundIn_of_wpIn hfn (hassign _ x W _ ⟨_, run_beginRound hl rfl, ?_⟩)⟩
    have hl2 : (W.putObj (b + 1) (rec_ .busy none)).heap[b + 1]? = some (rec_ .busy none) := World.putObj_heap_same hlt
    have hk2 : (W.putObj (b + 1) (rec_ .busy none)).heap[b]? = some (.deferred (some [])) := (two_put W _ (by omega)).trans hk
    refine wpIn_mono (hbody k x _ hx ((hI k).2 _ _ hi) (by rw [World.putObj_size]; exact hlt)) ?_
    have fin : ∀ (jump : Option Code) (W3 : World), Two b (W.putObj (b + 1) (rec_ .busy none)) W3 →
        (Instr.endRound (b + 1) jump).run P W3 = .ok (.bool jump.isNone) (W3.putObj (b + 1) (rec_ (if jump.isNone then .ready else .done) jump)) ∧
          (W3.putObj (b + 1) (rec_ (if jump.isNone then .ready else .done) jump)).heap[b + 1]? = some (rec_ (if jump.isNone then .ready else .done) jump) ∧
          (W3.putObj (b + 1) (rec_ (if jump.isNone then .ready else .done) jump)).heap[b]? = some (.deferred (some [])) := by
      rintro jump W3 ⟨t1, t2⟩
      have h3 : W3.heap[b + 1]? = some (rec_ .busy none) := t2.trans hl2
      exact ⟨run_endRound jump h3, World.putObj_heap_same (Array.getElem?_eq_some_iff.1 h3).1, (two_put W3 _ (by omega)).trans (t1.trans hk2)⟩
    rintro e a3 W3 hp
    cases e with
    | normal =>
      obtain ⟨r1, r2, r3⟩ := fin none W3 hp.1
      exact ⟨_, _, r1, .inl ⟨rfl, (hI _).2 _ _ hp.2, r2, r3⟩⟩
    | ret =>
      obtain ⟨r1, r2, r3⟩ := fin (some .ret) W3 hp.1
      exact ⟨_, _, r1, .inr ⟨rfl, _, (hIx _ _).2 _ _ hp.2, r2, r3⟩⟩
    | exit i =>
      obtain ⟨r1, r2, r3⟩ := fin (some (.exit i)) W3 hp.1
      exact ⟨_, _, r1, .inr ⟨rfl, _, (hIx _ _).2 _ _ hp.2, r2, r3⟩⟩
    | goto t =>
      obtain ⟨r1, r2, r3⟩ := fin (some (.goto t)) W3 hp.1
      exact ⟨_, _, r1, .inr ⟨rfl, _, (hIx _ _).2 _ _ hp.2, r2, r3⟩⟩
    | panic ch => exact hp.elim
    | outgrown => exact hp.elim
  · rintro e W2 ⟨⟨v, rfl⟩, (⟨hi, hl, hk⟩ | ⟨k, hk', c, hi, hl, hk⟩)⟩
    · exact ⟨none, _, run_endLoop hl (by simp), hdone _ ((hI _).2 _ _ hi) ((two_put W2 _ (by omega)).trans hk)⟩
    · exact ⟨some c, _, run_endLoop hl (by simp), hstop c k _ hk' ((hIx c k).2 _ _ hi) ((two_put W2 _ (by omega)).trans hk)⟩

end Go.Proofs.YtkbmajgbhpecgaaGreatDoor.Cd

/-
  A disk in the midst of a call that has blocks of its own: which of these are none of the disk's; bytes that lie in no block of the disk's. Conditions: none.
-/
namespace Go.Proofs.YtkbmajgbhpecgaaGreatDoor.Cd
open Go.RowKit

/-- A slice of bytes that lies in no block of S. -/
def Far (w : World) (S : Nat → Prop) (v : Value) (bs : List UInt8) : Prop := Sl w w.heap.size v bs ∧ (0 < bs.length → ∀ A n c, v = .slice (some A) n c → ¬ S A.block)

theorem Far.apart {w w' : World} {S : Nat → Prop} {v : Value} {bs : List UInt8} (h : Far w S v bs) (ha : Apart S w w') : Far w' (since S w w') v bs := by
  obtain ⟨⟨A, c, h1, h2, h3, h4, h5, h6⟩, h7⟩ := h
  refine ⟨⟨A, c, h1, h2, h3, h4, fun ad e h0 => by have := h5 ad e h0; have := ha.size; omega, fun ad e j u hu => ?_⟩, fun h0 A' n c' e hs => ?_⟩
  · have hj : j < bs.length := by have := (List.getElem?_eq_some_iff.1 hu).1; rwa [vb_length] at this
    rw [ha.cell (p := ad.add j) (by rw [block_of_add]; exact h5 ad e (by omega)) (by rw [block_of_add]; rw [e] at h1; exact h7 (by omega) ad _ _ h1)]
    exact h6 ad e j u hu
  · rw [h1] at e
    injection e with e _ _
    rcases hs with hs | hs
    · rw [e] at h1; exact h7 h0 A' _ _ h1 hs
    · have := h5 A' e h0; omega
theorem Far.below {w w' : World} {S : Nat → Prop} {v : Value} {bs : List UInt8} (h : Far w S v bs) (hb : Below w.heap.size w w') : Far w' S v bs := ⟨(h.1.below hb).more hb.size, h.2⟩
theorem Far.less {w : World} {S T : Nat → Prop} {v : Value} {bs : List UInt8} (h : Far w S v bs) (hst : ∀ k, k < w.heap.size → T k → S k) : Far w T v bs := by
  refine ⟨h.1, fun h0 A n c e ht => h.2 h0 A n c e (hst _ ?_ ht)⟩
  obtain ⟨⟨A', c', h1, _, _, _, h5, _⟩, _⟩ := h
  rw [h1] at e
  injection e with e _ _
  exact h5 A e h0

section
variable {w w1 w2 : World} {g N M : Nat} {S : Nat → Prop} {D : Dsk} {v : Value} {e : Ending}
theorem DkS.more {T : Nat → Prop} (h : DkS w g N S D) (hs : ∀ k, S k → T k) (ht : ∀ k, T k → k < w.heap.size) : DkS w g N T D := by
  obtain ⟨P, h1, h2⟩ := h
  exact ⟨P, h1.more hs ht, h2⟩
theorem since_iff {k : Nat} (h1 : w.heap.size ≤ w1.heap.size) (h2 : w1.heap.size ≤ w2.heap.size) : since (since S w w1) w1 w2 k ↔ since S w w2 k := since_trans h1 h2 k
theorem DkS.since (h : DkS w2 g N (since (since S w w1) w1 w2) D) (h1 : w.heap.size ≤ w1.heap.size) (h2 : w1.heap.size ≤ w2.heap.size) : DkS w2 g N (Cd.since S w w2) D :=
  h.more (fun _ hk => (since_iff h1 h2).1 hk) (fun k hk => h.lt k ((since_iff h1 h2).2 hk))
theorem MakesD.up (h1 : Apart S w w1) (h : MakesD g N (Cd.since S w w1) D v w1 e w2) : MakesD g N S D v w e w2 := ⟨h.1, h.2.1.since h1.size h.2.2.size, h1.trans h.2.2⟩
theorem MakesD.grow (h : MakesD g N S D v w e w1) (hN : N ≤ M) (hM : M ≤ 137438953472) : MakesD g M S D v w e w1 := ⟨h.1, h.2.1.mono hN hM, h.2.2⟩
theorem MakesD.undrew (h : MakesD g N S D v w.drew e w1) : MakesD g N S D v w e w1 := ⟨h.1, h.2.1, ⟨h.2.2.os, h.2.2.tape, h.2.2.output, h.2.2.size, h.2.2.block⟩⟩
/-- Nothing was done to the disk. -/
theorem makesD_same (h : DkS w g N S D) (hb : Below w.heap.size w w1) (hN : N ≤ M) (hM : M ≤ 137438953472) : MakesD g M S D v w (.returned v) w1 := by
  have h2 := (h.mono hN hM).below hb
  refine ⟨rfl, h2.more (fun _ => .inl) (fun k hk => ?_), Apart.below hb⟩
  rcases hk with hk | hk
  · exact h2.lt k hk
  · exact hk.2
theorem DkS.into (h : DkS w g N S D) (hb : Below w.heap.size w w1) : DkS w1 g N (Cd.since S w w1) D := (makesD_same (v := .bool true) (M := N) h hb (Nat.le_refl _) (by obtain ⟨P, h1, _⟩ := h; exact h1.fits.top)).2.1
end

/-- A box. -/
def BoxAt (W : World) (r : Nat) (v : Value) (T : TypeId) : Prop := W.heap[r]? = some (.cells #[v] T)
section
variable {W W' : World} {r : Nat} {v u : Value} {T : TypeId}
theorem BoxAt.cell (h : BoxAt W r v T) : W.cell? ⟨r, 0, none⟩ = some v := cell_of_row _ _ 0 _ _ _ h
theorem BoxAt.frozen (h : BoxAt W r v T) : W.frozen? ⟨r, 0, none⟩ = false := by
  have h : W.heap[r]? = _ := h
  unfold World.frozen?
  simp only [h]
  rfl
theorem BoxAt.lt (h : BoxAt W r v T) : r < W.heap.size := (Array.getElem?_eq_some_iff.1 h).1
theorem BoxAt.new (W : World) (v : Value) (T : TypeId) : BoxAt (W.alloc (.cells #[v] T)) W.heap.size v T := heap_alloc_new W _
theorem BoxAt.alloc (h : BoxAt W r v T) (o : Obj) : BoxAt (W.alloc o) r v T := (Below.heap_alloc _ _ _ h.lt).trans h
theorem BoxAt.on (h : BoxAt W r v T) (he : W'.heap[r]? = W.heap[r]?) : BoxAt W' r v T := he.trans h
theorem BoxAt.set (h : BoxAt W r v T) (u : Value) : BoxAt (W.setCell ⟨r, 0, none⟩ u) r u T := by
  have h : W.heap[r]? = _ := h
  unfold BoxAt World.setCell
  simp [Array.getElem?_modify, h]
end

/-- Since w: the disk at g is D; its blocks are those of S and newer ones; the blocks of keep are none of them. -/
def InP (w : World) (S : Nat → Prop) (g : Nat) (keep : List Nat) (M : Nat) (D : Dsk) (W : World) : Prop :=
  ∃ T : Nat → Prop, DkS W g M T D ∧ (∀ j, T j → S j ∨ w.heap.size ≤ j) ∧ (∀ r ∈ keep, ¬ T r ∧ r < W.heap.size) ∧ Apart S w W

section
variable {w W W' : World} {S : Nat → Prop} {p g M N : Nat} {n bs : List UInt8} {keep : List Nat} {D D' : Dsk} {v u : Value} {e : Ending}

theorem inP_start (hd : DkS w g M S D) : InP w S g [] M D w := ⟨S, hd, fun _ => .inl, by simp, Apart.refl _ _⟩
theorem InP.size (h : InP w S g keep M D W) : w.heap.size ≤ W.heap.size := by obtain ⟨T, _, _, _, h4⟩ := h; exact h4.size
theorem InP.apartS (h : InP w S g keep M D W) : Apart S w W := by obtain ⟨T, _, _, _, h4⟩ := h; exact h4
theorem InP.below (h : InP w S g keep M D W) (hb : Below W.heap.size W W') : InP w S g keep M D W' := by
  obtain ⟨T, h1, h2, h3, h4⟩ := h
  exact ⟨T, h1.below hb, h2, fun r hr => ⟨(h3 r hr).1, Nat.lt_of_lt_of_le (h3 r hr).2 hb.size⟩, h4.trans (Apart.below hb)⟩
/-- A block that was laid a moment ago. -/
theorem InP.lay (h : InP w S g keep M D W) (o : Obj) : InP w S g (W.heap.size :: keep) M D (W.alloc o) := by
  have hb : Below W.heap.size W (W.alloc o) := (Below.refl _ _).alloc (Nat.le_refl _) _
  obtain ⟨T, h1, h2, h3, h4⟩ := h.below hb
  obtain ⟨T0, k1, k2, k3, k4⟩ := h
  refine ⟨T0, k1.below hb, k2, fun r hr => ?_, h4⟩
  rcases List.mem_cons.1 hr with rfl | hr
  · exact ⟨fun e => by have := k1.lt _ e; omega, by simp⟩
  · exact ⟨(k3 r hr).1, Nat.lt_of_lt_of_le (k3 r hr).2 hb.size⟩
theorem InP.fewer {keep' : List Nat} (h : InP w S g keep M D W) (hk : ∀ r ∈ keep', r ∈ keep) : InP w S g keep' M D W := by
  obtain ⟨T, h1, h2, h3, h4⟩ := h
  exact ⟨T, h1, h2, fun r hr => h3 r (hk r hr), h4⟩
theorem InP.grow (h : InP w S g keep M D W) (hN : M ≤ N) (hM : N ≤ 137438953472) : InP w S g keep N D W := by
  obtain ⟨T, h1, h2, h3, h4⟩ := h
  exact ⟨T, h1.mono hN hM, h2, h3, h4⟩
/-- A block of the call's own is written. -/
theorem InP.set (h : InP w S g keep M D W) {r o : Nat} (hr : r ∈ keep) (hw : w.heap.size ≤ r) (u : Value) : InP w S g keep M D (W.setCell ⟨r, o, none⟩ u) := by
  obtain ⟨T, h1, h2, h3, h4⟩ := h
  have ha : Apart (fun j => j = r) W (W.setCell ⟨r, o, none⟩ u) := ⟨rfl, rfl, rfl, by simp, fun j _ hj => heap_setCell_other _ _ _ _ hj⟩
  refine ⟨T, h1.apart ha (fun j hj e => (h3 r hr).1 (by rw [← e]; exact hj)), h2, fun q hq => ⟨(h3 q hq).1, by simpa using (h3 q hq).2⟩, ⟨h4.os, h4.tape, h4.output, by simpa using h4.size, fun j hj hn => ?_⟩⟩
  exact (heap_setCell_other _ _ _ _ (fun e => by have e : j = r := e; omega)).trans (h4.block j hj hn)
theorem InP.put (h : InP w S g keep M D W) {r : Nat} (hr : r ∈ keep) (hw : w.heap.size ≤ r) (o : Obj) : InP w S g keep M D (W.putObj r o) := by
  obtain ⟨T, h1, h2, h3, h4⟩ := h
  have ha : Apart (fun j => j = r) W (W.putObj r o) := ⟨rfl, rfl, rfl, by simp, fun j _ hj => World.putObj_heap_other hj⟩
  refine ⟨T, h1.apart ha (fun j hj e => (h3 r hr).1 (by rw [← e]; exact hj)), h2, fun q hq => ⟨(h3 q hq).1, by simpa using (h3 q hq).2⟩, ⟨h4.os, h4.tape, h4.output, by simpa using h4.size, fun j hj hn => ?_⟩⟩
  exact (World.putObj_heap_other (fun e => by omega)).trans (h4.block j hj hn)
/-- What a call leaves that did all this. -/
theorem InP.makes (h : InP w S g keep M D W) (hS : ∀ k, S k → k < w.heap.size) (v : Value) : MakesD g M S D v w (.returned v) W := by
  obtain ⟨T, h1, h2, h3, h4⟩ := h
  refine ⟨rfl, h1.more (fun k hk => ?_) (fun k hk => ?_), h4⟩
  · rcases h2 k hk with h | h
    · exact .inl h
    · exact .inr ⟨h, h1.lt k hk⟩
  · rcases hk with hk | hk
    · exact Nat.lt_of_lt_of_le (hS k hk) h4.size
    · exact hk.2
end

section
variable {w W : World} {S : Nat → Prop} {g M : Nat} {keep : List Nat} {D : Dsk}
/-- What was handed in is as it was, and what a call on the disk leaves. -/
theorem InP.go (h : InP w S g keep M D W) : ∃ T, DkS W g M T D ∧ (∀ v bs, Far w S v bs → Far W T v bs) ∧ (∀ k, k < w.heap.size → ¬ S k → W.heap[k]? = w.heap[k]? ∧ ¬ T k) ∧ (∀ j, T j → S j ∨ w.heap.size ≤ j) ∧
    ∀ e v N D' W', MakesD g N T D' v W e W' → InP w S g keep N D' W' ∧ (∀ r ∈ keep, W'.heap[r]? = W.heap[r]?) ∧ W.heap.size ≤ W'.heap.size ∧ Apart T W W' := by
  obtain ⟨T, h1, h2, h3, h4⟩ := h
  have hless : ∀ k, k < W.heap.size → T k → since S w W k := fun k hk ht => by
    rcases h2 k ht with h | h
    · exact .inl h
    · exact .inr ⟨h, hk⟩
  refine ⟨T, h1, fun v bs hf => (hf.apart h4).less hless, fun k hk hn => ⟨h4.block k hk hn, fun ht => ?_⟩, h2, fun e v N D' W' hm => ?_⟩
  · rcases h2 k ht with h | h
    · exact hn h
    · omega
  obtain ⟨_, m2, m3⟩ := hm
  refine ⟨⟨since T W W', m2, fun j hj => ?_, fun r hr => ⟨fun e => ?_, Nat.lt_of_lt_of_le (h3 r hr).2 m3.size⟩, ?_⟩, fun r hr => m3.block r (h3 r hr).2 (h3 r hr).1, m3.size, m3⟩
  · rcases hj with hj | hj
    · exact h2 j hj
    · exact .inr (by have := h4.size; omega)
  · rcases e with e | e
    · exact (h3 r hr).1 e
    · have := (h3 r hr).2; omega
  · refine ⟨m3.os.trans h4.os, m3.tape.trans h4.tape, m3.output.trans h4.output, Nat.le_trans h4.size m3.size, fun j hj hn => ?_⟩
    exact (m3.block j (Nat.lt_of_lt_of_le hj h4.size) (fun ht => by rcases h2 j ht with h | h; exact hn h; omega)).trans (h4.block j hj hn)
end

end Go.Proofs.YtkbmajgbhpecgaaGreatDoor.Cd

/-
  A map of byte slices by number: as a function, and as a list of pages by rising numbers. Conditions: none.
-/
namespace Go.Proofs.YtkbmajgbhpecgaaGreatDoor.Cd
open Go.RowKit Go.Maps

/-- A slice's value. -/
structure SlV where
  A : Option (Nat × Nat)
  n : Nat
  c : Nat

def SlV.val (s : SlV) : Value := .slice (s.A.map fun p => ⟨p.1, p.2, none⟩) s.n s.c
def SlV.dat (s : SlV) : DataW Unit := .agg [(match s.A with | none => .nil | some p => .agg [.lit (.int .i64 p.1), .lit (.int .i64 p.2)]), .lit (.int .i64 s.n), .lit (.int .i64 s.c)]
theorem SlV.dat_inj {s t : SlV} (h : s.dat = t.dat) : s = t := by
  obtain ⟨A, n, c⟩ := s
  obtain ⟨B, m, d⟩ := t
  simp only [SlV.dat, DataW.agg.injEq, List.cons.injEq, DataW.lit.injEq, Lit.int.injEq, true_and, and_true] at h
  obtain ⟨h1, h2, h3⟩ := h
  have h2 : n = m := by omega
  have h3 : c = d := by omega
  subst h2 h3
  cases A with
  | none =>
    cases B with
    | none => rfl
    | some q => cases h1
  | some p =>
    cases B with
    | none => cases h1
    | some q =>
      obtain ⟨a, b⟩ := p
      obtain ⟨a', b'⟩ := q
      simp only [DataW.agg.injEq, List.cons.injEq, DataW.lit.injEq, Lit.int.injEq, true_and, and_true] at h1
      have e1 : a = a' := by omega
      have e2 : b = b' := by omega
      rw [e1, e2]
def slR (v : Value) : Option (DataW Unit × List MemPlace) := match v with
  | .slice none n c => some ((⟨none, n, c⟩ : SlV).dat, [])
  | .slice (some ⟨b, o, none⟩) n c => some ((⟨some (b, o), n, c⟩ : SlV).dat, [])
  | _ => none
theorem slR_val (s : SlV) : slR s.val = some (s.dat, []) := by
  obtain ⟨A, n, c⟩ := s
  cases A with
  | none => rfl
  | some p => rfl
theorem slR_inv {u : Value} {x : DataW Unit × List MemPlace} (h : slR u = some x) : ∃ s : SlV, u = s.val ∧ x = (s.dat, []) := by
  unfold slR at h
  split at h
  · injection h with h
    exact ⟨⟨none, _, _⟩, rfl, h.symm⟩
  · injection h with h
    exact ⟨⟨some (_, _), _, _⟩, rfl, h.symm⟩
  · cases h

/-- map[int][]byte. -/
def bytK : MKind Int SlV where
  T := 37
  K := 3
  E := 49
  R := slR
  key := fun x => .int .i64 x
  ok := fun x => (Lit.int .i64 x).wf = true
  lit := fun x => .int .i64 x
  val := SlV.val
  okv := fun _ => True
  dat := SlV.dat
  z0 := ⟨none, 0, 0⟩
  law := int_keyed Tryz.underlying3
  under := Tryz.underlying37
  keyed := fun h => keyOf_int_mk Tryz.underlying3 h
  one := fun h => by injection h
  read := fun {v} _ => slR_val v
  inv := fun {u v ps} h => by
    obtain ⟨s, rfl, e⟩ := slR_inv h
    injection e with e1 e2
    rw [SlV.dat_inj e1]
    exact ⟨rfl, trivial⟩
  okz := trivial
  zero := fun w => Tryz.zeroValue49 w

theorem byt_look {w : World} {b n : Nat} {x : Int} {q : Int → Option SlV} {v : Value} (h : MapF bytK w b n q) (hx : (Lit.int .i64 x).wf = true) (hv : ((q x).getD ⟨none, 0, 0⟩).val = v) :
    (Instr.lookup 37 (.map (some b)) (.int .i64 x) false).run Tryz.prog w = .ok v w := by
  rw [← hv]
  exact h.look (x := x) hx

/-- Rising numbers, as they can be. -/
structure Rising (ws : Pgs) : Prop where
  up : ws.Pairwise fun a b => a.1 < b.1
  wf : ∀ p ∈ ws, (Lit.int .i64 p.1).wf = true
theorem Rising.nodup {ws : Pgs} (h : Rising ws) : (ws.map Prod.fst).Nodup := List.pairwise_map.2 (h.up.imp fun h e => by rw [e] at h; omega)
theorem Rising.sorted {ws : Pgs} (h : Rising ws) : (ws.map Prod.fst).Pairwise (fun a b => a ≤ b) := List.pairwise_map.2 (h.up.imp fun h => by omega)

/-- Block b is a map of these pages; neither it nor their bytes lie in S. -/
def PgMap (w : World) (S : Nat → Prop) (b : Nat) (ws : Pgs) : Prop :=
  ¬ S b ∧ Rising ws ∧ ∃ q, MapF bytK w b ws.length q ∧ (∀ x, bytK.ok x → (q x).isSome = true → ∃ p ∈ ws, p.1 = x) ∧ ∀ p ∈ ws, ∃ s : SlV, q p.1 = some s ∧ Far w S s.val p.2

section
variable {w w' : World} {S T : Nat → Prop} {b : Nat} {ws : Pgs}
theorem PgMap.rising (h : PgMap w S b ws) : Rising ws := h.2.1
theorem PgMap.lt (h : PgMap w S b ws) : b < w.heap.size := by obtain ⟨_, _, q, h1, _⟩ := h; exact h1.lt
theorem PgMap.apart (h : PgMap w S b ws) (ha : Apart S w w') : PgMap w' (since S w w') b ws := by
  have hlt := h.lt
  obtain ⟨h1, h2, q, h3, h4, h5⟩ := h
  refine ⟨fun e => e.elim h1 (fun e => by omega), h2, q, h3.apart ha h1, h4, fun p hp => ?_⟩
  obtain ⟨s, hs, hf⟩ := h5 p hp
  exact ⟨s, hs, hf.apart ha⟩
theorem PgMap.below (h : PgMap w S b ws) (hb : Below w.heap.size w w') : PgMap w' S b ws := by
  have hlt := h.lt
  obtain ⟨h1, h2, q, h3, h4, h5⟩ := h
  refine ⟨h1, h2, q, h3.below hb hlt, h4, fun p hp => ?_⟩
  obtain ⟨s, hs, hf⟩ := h5 p hp
  exact ⟨s, hs, hf.below hb⟩
theorem PgMap.less (h : PgMap w S b ws) (hst : ∀ k, k < w.heap.size → T k → S k) : PgMap w T b ws := by
  have hlt := h.lt
  obtain ⟨h1, h2, q, h3, h4, h5⟩ := h
  refine ⟨fun e => h1 (hst _ hlt e), h2, q, h3, h4, fun p hp => ?_⟩
  obtain ⟨s, hs, hf⟩ := h5 p hp
  exact ⟨s, hs, hf.less hst⟩
/-- The page of a number. -/
theorem PgMap.look (h : PgMap w S b ws) {k : Nat} (hk : k < ws.length) : ∃ v, (Instr.lookup 37 (.map (some b)) (.int .i64 ws[k].1) false).run Tryz.prog w = .ok v w ∧ Far w S v ws[k].2 := by
  obtain ⟨_, h2, q, h3, _, h5⟩ := h
  obtain ⟨s, hs, hf⟩ := h5 ws[k] (List.getElem_mem hk)
  exact ⟨s.val, byt_look h3 (h2.wf _ (List.getElem_mem hk)) (by rw [hs]; rfl), hf⟩
theorem PgMap.len (h : PgMap w S b ws) (ty : TypeId) : (Builtin.len_ #[37] ty #[.map (some b)]).run Tryz.prog w = .ok (.int .i64 ws.length) w := by
  obtain ⟨_, _, q, h3, _⟩ := h
  exact MapF.len h3 ty
/-- An empty map that was made a moment ago. -/
theorem PgMap.made (w : World) (S : Nat → Prop) (hS : ¬ S w.heap.size) : PgMap (w.alloc (.map #[] 0)) S w.heap.size [] :=
  ⟨hS, ⟨List.Pairwise.nil, by simp⟩, _, MapF.made bytK w, (fun x _ h => by cases h), by simp⟩
end

/-- The keys of a map of numbers: no key twice, each one that the map has. -/
theorem intKeys_of {w : World} {b n : Nat} {D : DataW Unit} (hown : w.ownsMap Tryz.prog bytK.K bytK.R b n D) : (intKeys D).Nodup ∧ (∀ x, (Lit.int .i64 x).wf = true → (x ∈ intKeys D ↔ has D (.int .i64 x) = true)) ∧ ∀ x ∈ intKeys D, (Lit.int .i64 x).wf = true := by
  obtain ⟨es, hD, hpw, _⟩ := hown.entries bytK.law
  obtain ⟨es', hD', hko⟩ := hown.keysOf
  obtain rfl : es = es' := by rw [hD] at hD'; simpa using hD'
  subst hD
  have hk : ∀ p ∈ es, ∃ x, p.1 = .int .i64 x ∧ (Lit.int .i64 x).wf = true := fun p hp => by
    obtain ⟨v, hv⟩ := hko p hp
    obtain ⟨x, _, hx, hw⟩ := Maps.keyOf_int_inv Tryz.underlying3 hv
    exact ⟨x, hx, hw⟩
  refine ⟨?_, fun x hx => ?_, fun x hx => ?_⟩
  · show (es.map fun p => Go.intOf p.1).Nodup
    refine List.pairwise_map.2 (hpw.imp_of_mem fun {p q} hp' hq' hne e => hne ?_)
    obtain ⟨a, ha, _⟩ := hk p hp'
    obtain ⟨b, hb, _⟩ := hk q hq'
    rw [ha, hb] at e ⊢
    exact congrArg _ e
  · rw [has_eq, List.any_eq_true]
    show x ∈ (es.map fun p => Go.intOf p.1) ↔ _
    rw [List.mem_map]
    constructor
    · rintro ⟨p, hp', rfl⟩
      obtain ⟨a, ha, _⟩ := hk p hp'
      exact ⟨p, hp', by rw [ha]; simp [Lit.sameKey, Go.intOf]⟩
    · rintro ⟨p, hp', hs⟩
      obtain ⟨a, ha, _⟩ := hk p hp'
      rw [ha] at hs
      exact ⟨p, hp', by rw [ha]; simpa [Lit.sameKey, Go.intOf] using hs⟩
  · obtain ⟨p, hp', rfl⟩ := List.mem_map.1 (show x ∈ es.map fun p => Go.intOf p.1 from hx)
    obtain ⟨a, ha, hw⟩ := hk p hp'
    rw [ha]
    exact hw

/-- What the keys are, sorted. -/
theorem PgMap.keys {w : World} {S : Nat → Prop} {b : Nat} {ws : Pgs} (h : PgMap w S b ws) :
    ∃ D : DataW Unit, w.ownsMap Tryz.prog bytK.K bytK.R b ws.length D ∧ Maps.size D = ws.length ∧ ∀ ss : List Int, ss.Perm (intKeys D) → ss.mergeSort (fun x y => decide (x ≤ y)) = ws.map Prod.fst ∧ ss.length = ws.length := by
  obtain ⟨_, h2, q, ⟨D, h3, hsz, hat⟩, h4, h5⟩ := h
  obtain ⟨k1, k2, k3⟩ := intKeys_of h3
  refine ⟨D, h3, hsz, fun ss hS => ?_⟩
  have hp : (ws.map Prod.fst).Perm (intKeys D) := by
    refine (List.perm_ext_iff_of_nodup h2.nodup k1).2 fun x => ?_
    constructor
    · intro hx
      obtain ⟨p, hp, rfl⟩ := List.mem_map.1 hx
      obtain ⟨s, hs, _⟩ := h5 p hp
      have hwf := h2.wf p hp
      rw [k2 _ hwf]
      have := MapF.has (M := bytK) (hat p.1 hwf)
      rw [hs] at this
      exact this
    · intro hx
      have hwf := k3 x hx
      have hh := (k2 x hwf).1 hx
      have := MapF.has (M := bytK) (hat x hwf)
      obtain ⟨p, hp, rfl⟩ := h4 x hwf (by rw [← this]; exact hh)
      exact List.mem_map.2 ⟨p, hp, rfl⟩
  have hss := (List.mergeSort_perm ss (fun x y => decide (x ≤ y))).trans (hS.trans hp.symm)
  have tr : ∀ a b c : Int, decide (a ≤ b) = true → decide (b ≤ c) = true → decide (a ≤ c) = true := fun a b c h1 h2 => by simp only [decide_eq_true_eq] at *; omega
  have tot : ∀ a b : Int, (decide (a ≤ b) || decide (b ≤ a)) = true := fun a b => by simp only [Bool.or_eq_true, decide_eq_true_eq]; omega
  refine ⟨List.Perm.eq_of_pairwise (le := fun a b => a ≤ b) (fun a b _ _ h1 h2 => by omega) ((List.pairwise_mergeSort tr tot ss).imp (fun h => by simpa using h)) h2.sorted hss, ?_⟩
  have := hss.length_eq
  rw [List.length_mergeSort, List.length_map] at this
  exact this

end Go.Proofs.YtkbmajgbhpecgaaGreatDoor.Cd

/-
  PgsIn and steps, as the law's text has them: slices of structs that read. Conditions: none.
-/
namespace Go.Proofs.YtkbmajgbhpecgaaGreatDoor.Cd
open Go.RowKit Go.ChangeShapes Go.WideShapes Go.Deep

/-- A page's cells. -/
def pgC (p : Int × List UInt8) : List Value := [.int .i64 p.1, .string ⟨p.2.toArray⟩]
def wfP (ps : Pgs) : Prop := ∀ p ∈ ps, (Lit.int .i64 p.1).wf = true
def fitP (ps : Pgs) : Prop := ∀ p ∈ ps, p.2.length ≤ 140737488351232

/-- A slice value that reads as the pages 'ps'. -/
def PgsIn (w : World) (B : Nat) (v : Value) (ps : Pgs) : Prop :=
  ∃ A c, v = .slice A ps.length c ∧ ps.length ≤ c ∧ c ≤ maxLen ∧ wfP ps ∧
    (0 < ps.length → ∃ b off, A = some ⟨b, off, none⟩ ∧ b < B ∧ ∀ (i : Nat) p, ps[i]? = some p → ∀ (j : Nat) x, (pgC p)[j]? = some x → w.cell? ⟨b, off + i * 2 + j, none⟩ = some x)

theorem PgsIn.below {w w' : World} {B : Nat} {v : Value} {ps : Pgs} (h : PgsIn w B v ps) (hb : Below B w w') : PgsIn w' B v ps := by
  obtain ⟨A, c, h1, h2, h3, h4, h5⟩ := h
  refine ⟨A, c, h1, h2, h3, h4, fun hp => ?_⟩
  obtain ⟨b, off, e, hB, hc⟩ := h5 hp
  exact ⟨b, off, e, hB, fun i p hi j x hj => (hb.cell (p := ⟨b, off + i * 2 + j, none⟩) hB).trans (hc i p hi j x hj)⟩
theorem PgsIn.more {w : World} {B B' : Nat} {v : Value} {ps : Pgs} (h : PgsIn w B v ps) (hB : B ≤ B') : PgsIn w B' v ps := by
  obtain ⟨A, c, h1, h2, h3, h4, h5⟩ := h
  refine ⟨A, c, h1, h2, h3, h4, fun hp => ?_⟩
  obtain ⟨b, off, e, hb, hc⟩ := h5 hp
  exact ⟨b, off, e, Nat.lt_of_lt_of_le hb hB, hc⟩
theorem PgsIn.nil (w : World) (B : Nat) : PgsIn w B (.slice none 0 0) [] := ⟨none, 0, rfl, Nat.le_refl _, Nat.zero_le _, (fun _ h => by cases h), fun h => by simp at h⟩

theorem cells_page : Tryz.prog.cellsOf 51 = 2 := by kernel_rfl
theorem cells_int6 : Tryz.prog.cellsOf 3 = 1 := by kernel_rfl
theorem cells_string6 : Tryz.prog.cellsOf 9 = 1 := by kernel_rfl
theorem cells_uint6 : Tryz.prog.cellsOf 34 = 1 := by kernel_rfl

def PageAt {H : Type} (w : World) (a : Addr) (i : Nat) (d : DataW H) (p : Int × List UInt8) : Prop :=
  ((∀ n ∈ d.weights Tryz.prog 51, n ≤ reachBytes) → p.2.length ≤ 140737488351232) ∧ (Lit.int .i64 p.1).wf = true ∧ ∀ (j : Nat) v, (pgC p)[j]? = some v → w.cell? (a.add (i * 2 + j)) = some v

set_option maxRecDepth 100000 in
theorem page_of {H : Type} {enc : TypeId × Value → H} {w : World} {a : Addr} {i n : Nat} {cs : List Value} {x : DataW H × List MemPlace} (hc : w.cells? 0 (a.add (i * 2)) 2 = some cs)
    (ht : DataW.trod enc Tryz.prog w 0 (fun _ => true) true n 51 cs = some x) : ∃ p, PageAt w a i x.1 p := by
  obtain ⟨_, hlen, hat⟩ := World.cells?_some hc
  obtain ⟨xs, m, _, hx, _, hxl, hfld⟩ := DataW.trod_struct Tryz.underlying51 ht
  match cs, hlen, xs, hxl with
  | [z0, z1], _, [y0, y1], _ =>
    have f0 : DataW.trod enc Tryz.prog w 0 (fun _ => true) true m 3 (([z0, z1].drop 0).take (Tryz.prog.cellsOf 3)) = some y0 := hfld 0 _ rfl
    rw [cells_int6] at f0
    have f1 : DataW.trod enc Tryz.prog w 0 (fun _ => true) true m 9 (([z0, z1].drop 1).take (Tryz.prog.cellsOf 9)) = some y1 := hfld 1 _ rfl
    rw [cells_string6] at f1
    obtain ⟨x0, q0, e0, wf0⟩ := DataW.trod_int (cs := [z0]) Tryz.underlying3 f0
    obtain ⟨x1, q1, e1, wf1⟩ := DataW.trod_string (cs := [z1]) Tryz.underlying9 f1
    simp only [List.cons.injEq, and_true] at q0 q1
    have hxd : x.1 = .agg [y0.1, y1.1] := by rw [hx]; rfl
    refine ⟨⟨x0, x1.data.toList⟩, fun hw => ?_, wf0, fun j v hv => ?_⟩
    · have hw' : ∀ n ∈ DataW.weightsEach Tryz.prog [3, 9] [y0.1, y1.1], n ≤ reachBytes := by
        intro n hn
        refine hw n ?_
        rw [hxd]
        simpa [DataW.weights, Tryz.underlying51] using hn
      have w1 := fun n hn => hw' n (DataW.weights_mem_each (j := 1) (t := 9) (d := y1.1) rfl rfl n hn)
      have l1 := w1 x1.data.toList.length (by rw [e1]; simp [DataW.weights])
      simp only [reachBytes] at l1
      show x1.data.toList.length ≤ _
      omega
    · have hj : j < 2 := (List.getElem?_eq_some_iff.1 hv).1
      rw [← Go.Deep.add_add, hat j hj]
      rw [q0, q1]
      exact hv

instance : Inhabited (Int × List UInt8) := ⟨(0, [])⟩

/-- Cells that are read as a slice of pages. -/
theorem pgs_of_cells {H : Type} {enc : TypeId × Value → H} {w : World} {fuel : Nat} {cs : List Value} {x : DataW H × List MemPlace} (hf : DataW.trod enc Tryz.prog w 0 (fun _ => true) true fuel 33 cs = some x) :
    ∃ A n c ps, cs = [.slice A n c] ∧ PgsIn w w.heap.size (.slice A n c) ps ∧ ((∀ m ∈ x.1.weights Tryz.prog 33, m ≤ reachBytes) → fitP ps) := by
  rcases open_slice Tryz.underlying33 hf with ⟨hcs, _⟩ | ⟨a, n0, c0, m, n, D, Pl, hcs, _, hl, hm, hmm, hx, hi⟩
  · exact ⟨none, 0, 0, [], hcs, PgsIn.nil _ _, fun _ p hp => by cases hp⟩
  · have hone : ∀ i, i < n0 → ∃ p : Int × List UInt8, PageAt w a i (D i) p := by
      intro i hin
      obtain ⟨cs', hcc, htt⟩ := hi i (by rw [hmm]; simp; omega)
      rw [cells_page] at hcc
      exact page_of hcc htt
    obtain ⟨f, hf2⟩ := choose_lt hone
    have hget : ∀ (i : Nat) p, ((List.range n0).map f)[i]? = some p → i < n0 ∧ p = f i := by
      intro i p hip
      obtain ⟨hlt, rfl⟩ := List.getElem?_eq_some_iff.1 hip
      simp at hlt
      exact ⟨hlt, by simp⟩
    refine ⟨some a, n0, c0, (List.range n0).map f, hcs, ⟨some a, c0, by simp, by simpa using hl, hm, ?_, fun hp => ?_⟩, fun hw => ?_⟩
    · intro p hp
      obtain ⟨i, hi2, rfl⟩ := List.mem_map.1 hp
      exact (hf2 i (List.mem_range.1 hi2)).2.1
    · have hp0 : 0 < n0 := by simpa using hp
      obtain ⟨b, off, spot⟩ := a
      have hc := (hf2 0 hp0).2.2 0 _ rfl
      have hspot : spot = none := by simpa [Addr.add] using World.cell?_spot hc
      subst hspot
      refine ⟨b, off, rfl, ?_, ?_⟩
      · have := World.block_lt_of_cell? w _ hc
        rwa [block_of_add] at this
      · intro i p hip j x hj
        obtain ⟨hlt, rfl⟩ := hget i p hip
        have := (hf2 i hlt).2.2 j x hj
        rwa [Addr.add_lit, ← Nat.add_assoc] at this
    · intro p hp
      obtain ⟨i, hi2, rfl⟩ := List.mem_map.1 hp
      have hlt := List.mem_range.1 hi2
      refine (hf2 i hlt).1 fun n hn => hw n ?_
      have hd : x.1 = .slice ((List.range n0).map D) ((List.range (m - n0)).map fun j => D (n0 + j)) := by rw [hx]
      rw [hd]
      simp only [DataW.weights, Tryz.underlying33]
      exact List.mem_cons_of_mem _ (List.mem_append_left _ (weightsAll_mem (d := D i) (List.mem_map.2 ⟨i, hi2, rfl⟩) hn))

theorem pgs_of_trod {H : Type} {enc : TypeId × Value → H} {w : World} {v : Value} {d : DataW H} {ps : List MemPlace} (hv : ∃ A n c, v = .slice A n c)
    (h : DataW.Trod enc Tryz.prog w 0 (fun _ => true) true 33 v d ps) (hw : ∀ n ∈ d.weights Tryz.prog 33, n ≤ reachBytes) : ∃ l, PgsIn w w.heap.size v l ∧ fitP l := by
  obtain ⟨A0, n0, c0, rfl⟩ := hv
  obtain ⟨fuel, hf⟩ := h
  obtain ⟨A, n, c, l, e, h1, h2⟩ := pgs_of_cells hf
  simp [Value.cells] at e
  obtain ⟨rfl, rfl, rfl⟩ := e
  exact ⟨l, h1, h2 hw⟩

/-! ### Steps -/

structure Stp where
  pages : Pgs
  fuse : Int
  keep : Nat
def Stp.Ok (p : Stp) : Prop := fitP p.pages
def Stp.cells (p : Stp) (u : Value) : List Value := [u, .int .i64 p.fuse, .int .u64 p.keep]
def Stp.Num (p : Stp) : Prop := (Lit.int .i64 p.fuse).wf = true ∧ p.keep < 18446744073709551616

/-- A slice value that reads as the steps 'ps'. -/
def Steps (w : World) (B : Nat) (v : Value) (ps : List Stp) : Prop :=
  ∃ A c, v = .slice A ps.length c ∧ ps.length ≤ c ∧ c ≤ maxLen ∧ (∀ p ∈ ps, p.Num) ∧
    (0 < ps.length → ∃ b off, A = some ⟨b, off, none⟩ ∧ b < B ∧ ∀ (i : Nat) p, ps[i]? = some p → ∃ u, PgsIn w B u p.pages ∧ ∀ (j : Nat) x, (p.cells u)[j]? = some x → w.cell? ⟨b, off + i * 3 + j, none⟩ = some x)

theorem Steps.below {w w' : World} {B : Nat} {v : Value} {ps : List Stp} (h : Steps w B v ps) (hb : Below B w w') : Steps w' B v ps := by
  obtain ⟨A, c, h1, h2, h3, h4, h5⟩ := h
  refine ⟨A, c, h1, h2, h3, h4, fun hp => ?_⟩
  obtain ⟨b, off, e, hB, hc⟩ := h5 hp
  refine ⟨b, off, e, hB, fun i p hi => ?_⟩
  obtain ⟨u, hs, hx⟩ := hc i p hi
  exact ⟨u, hs.below hb, fun j x hj => (hb.cell (p := ⟨b, off + i * 3 + j, none⟩) hB).trans (hx j x hj)⟩

theorem cells_step : Tryz.prog.cellsOf 36 = 3 := by kernel_rfl
theorem cells_pages : Tryz.prog.cellsOf 33 = 1 := by kernel_rfl

def StepAt {H : Type} (w : World) (a : Addr) (i : Nat) (d : DataW H) (p : Stp) : Prop :=
  ((∀ n ∈ d.weights Tryz.prog 36, n ≤ reachBytes) → p.Ok) ∧ p.Num ∧ ∃ u, PgsIn w w.heap.size u p.pages ∧ ∀ (j : Nat) v, (p.cells u)[j]? = some v → w.cell? (a.add (i * 3 + j)) = some v

set_option maxRecDepth 100000 in
theorem step_of {H : Type} {enc : TypeId × Value → H} {w : World} {a : Addr} {i n : Nat} {cs : List Value} {x : DataW H × List MemPlace} (hc : w.cells? 0 (a.add (i * 3)) 3 = some cs)
    (ht : DataW.trod enc Tryz.prog w 0 (fun _ => true) true n 36 cs = some x) : ∃ p, StepAt w a i x.1 p := by
  obtain ⟨_, hlen, hat⟩ := World.cells?_some hc
  obtain ⟨xs, m, _, hx, _, hxl, hfld⟩ := DataW.trod_struct Tryz.underlying36 ht
  match cs, hlen, xs, hxl with
  | [z0, z1, z2], _, [y0, y1, y2], _ =>
    have f0 : DataW.trod enc Tryz.prog w 0 (fun _ => true) true m 33 (([z0, z1, z2].drop 0).take (Tryz.prog.cellsOf 33)) = some y0 := hfld 0 _ rfl
    rw [cells_pages] at f0
    have f1 : DataW.trod enc Tryz.prog w 0 (fun _ => true) true m 3 (([z0, z1, z2].drop 1).take (Tryz.prog.cellsOf 3)) = some y1 := hfld 1 _ rfl
    rw [cells_int6] at f1
    have f2 : DataW.trod enc Tryz.prog w 0 (fun _ => true) true m 34 (([z0, z1, z2].drop 2).take (Tryz.prog.cellsOf 34)) = some y2 := hfld 2 _ rfl
    rw [cells_uint6] at f2
    obtain ⟨A, n4, c4, pg, q0, hs, hsw⟩ := pgs_of_cells (cs := [z0]) f0
    obtain ⟨x1, q1, e1, wf1⟩ := DataW.trod_int (cs := [z1]) Tryz.underlying3 f1
    obtain ⟨x2, q2, e2, wf2⟩ := DataW.trod_int (cs := [z2]) Tryz.underlying34 f2
    simp only [List.cons.injEq, and_true] at q0 q1 q2
    have b2 := bounds_u64 wf2
    obtain ⟨u, rfl⟩ := Int.eq_ofNat_of_zero_le b2.1
    have hxd : x.1 = .agg [y0.1, y1.1, y2.1] := by rw [hx]; rfl
    refine ⟨⟨pg, x1, u⟩, fun hw => ?_, ⟨wf1, by have := b2.2; show u < 18446744073709551616; omega⟩, .slice A n4 c4, hs, fun j v hv => ?_⟩
    · have hw' : ∀ n ∈ DataW.weightsEach Tryz.prog [33, 3, 34] [y0.1, y1.1, y2.1], n ≤ reachBytes := by
        intro n hn
        refine hw n ?_
        rw [hxd]
        simpa [DataW.weights, Tryz.underlying36] using hn
      exact hsw fun n hn => hw' n (DataW.weights_mem_each (j := 0) (t := 33) (d := y0.1) rfl rfl n hn)
    · have hj : j < 3 := (List.getElem?_eq_some_iff.1 hv).1
      rw [← Go.Deep.add_add, hat j hj]
      rw [q0, q1, q2]
      exact hv

instance : Inhabited Stp := ⟨⟨[], 0, 0⟩⟩

theorem steps_of_trod {H : Type} {enc : TypeId × Value → H} {w : World} {v : Value} {d : DataW H} {ps : List MemPlace} (hv : ∃ A n c, v = .slice A n c)
    (h : DataW.Trod enc Tryz.prog w 0 (fun _ => true) true 22 v d ps) (hw : ∀ n ∈ d.weights Tryz.prog 22, n ≤ reachBytes) :
    ∃ l, Steps w w.heap.size v l ∧ ∀ p ∈ l, p.Ok := by
  obtain ⟨A0, n0, c0, rfl⟩ := hv
  obtain ⟨fuel, hf⟩ := h
  rcases open_slice Tryz.underlying22 hf with ⟨hcs, _⟩ | ⟨a, len, cap, m, n, D, Pl, hcs, _, hl, hm, hmm, hx, hi⟩
  · simp [Value.cells] at hcs
    obtain ⟨rfl, rfl, rfl⟩ := hcs
    exact ⟨[], ⟨none, 0, rfl, by simp, by simp, (fun _ h => by cases h), fun h => by simp at h⟩, fun _ h => by cases h⟩
  · simp [Value.cells] at hcs
    obtain ⟨rfl, rfl, rfl⟩ := hcs
    have hone : ∀ i, i < n0 → ∃ p : Stp, StepAt w a i (D i) p := by
      intro i hin
      obtain ⟨cs', hcc, htt⟩ := hi i (by rw [hmm]; simp; omega)
      rw [cells_step] at hcc
      exact step_of hcc htt
    obtain ⟨f, hf⟩ := choose_lt hone
    have hget : ∀ (i : Nat) p, ((List.range n0).map f)[i]? = some p → i < n0 ∧ p = f i := by
      intro i p hip
      obtain ⟨hlt, rfl⟩ := List.getElem?_eq_some_iff.1 hip
      simp at hlt
      exact ⟨hlt, by simp⟩
    refine ⟨(List.range n0).map f, ⟨some a, c0, by simp, by simpa using hl, hm, ?_, fun hp => ?_⟩, ?_⟩
    · intro p hp
      obtain ⟨i, hi2, rfl⟩ := List.mem_map.1 hp
      exact (hf i (List.mem_range.1 hi2)).2.1
    · have hp0 : 0 < n0 := by simpa using hp
      obtain ⟨b, off, spot⟩ := a
      obtain ⟨u0, _, hc0⟩ := (hf 0 hp0).2.2
      have hc := hc0 0 _ rfl
      have hspot : spot = none := by simpa [Addr.add] using World.cell?_spot hc
      subst hspot
      refine ⟨b, off, rfl, ?_, ?_⟩
      · have := World.block_lt_of_cell? w _ hc
        rwa [block_of_add] at this
      · intro i p hip
        obtain ⟨hlt, rfl⟩ := hget i p hip
        obtain ⟨u, h1, h2⟩ := (hf i hlt).2.2
        refine ⟨u, h1, fun j x hj => ?_⟩
        have := h2 j x hj
        rwa [Addr.add_lit, ← Nat.add_assoc] at this
    · intro p hp
      obtain ⟨i, hi2, rfl⟩ := List.mem_map.1 hp
      have hlt := List.mem_range.1 hi2
      refine (hf i hlt).1 fun n hn => hw n ?_
      have hd : d = .slice ((List.range n0).map D) ((List.range (m - n0)).map fun j => D (n0 + j)) := by
        simp only [Prod.mk.injEq] at hx
        exact hx.1
      rw [hd]
      simp only [DataW.weights, Tryz.underlying22]
      exact List.mem_cons_of_mem _ (List.mem_append_left _ (weightsAll_mem (d := D i) (List.mem_map.2 ⟨i, hi2, rfl⟩) hn))

end Go.Proofs.YtkbmajgbhpecgaaGreatDoor.Cd

/-
  A pager: where it lies; what is asked of it. Conditions: none.
-/
namespace Go.Proofs.YtkbmajgbhpecgaaGreatDoor.Cd
open Go.RowKit

/-- The pager of the file n, on the disk at g, lies at p, in no block of S. -/
def PgrAt (w : World) (S : Nat → Prop) (p g : Nat) (n : List UInt8) : Prop :=
  ¬ S p ∧ p < w.heap.size ∧ w.cell? ⟨p, 0, none⟩ = some (.pointer (some ⟨g, 0, none⟩)) ∧ w.cell? ⟨p, 1, none⟩ = some (.string ⟨n.toArray⟩)

section
variable {w w' : World} {S T : Nat → Prop} {p g : Nat} {n : List UInt8}
theorem PgrAt.apart (h : PgrAt w S p g n) (ha : Apart S w w') : PgrAt w' (since S w w') p g n :=
  ⟨fun e => e.elim h.1 (fun e => by have := h.2.1; omega), Nat.lt_of_lt_of_le h.2.1 ha.size, (ha.cell (p := ⟨p, 0, none⟩) h.2.1 h.1).trans h.2.2.1, (ha.cell (p := ⟨p, 1, none⟩) h.2.1 h.1).trans h.2.2.2⟩
theorem PgrAt.below (h : PgrAt w S p g n) (hb : Below w.heap.size w w') : PgrAt w' S p g n :=
  ⟨h.1, Nat.lt_of_lt_of_le h.2.1 hb.size, (hb.cell (p := ⟨p, 0, none⟩) h.2.1).trans h.2.2.1, (hb.cell (p := ⟨p, 1, none⟩) h.2.1).trans h.2.2.2⟩
theorem PgrAt.less (h : PgrAt w S p g n) (hst : ∀ k, k < w.heap.size → T k → S k) : PgrAt w T p g n := ⟨fun e => h.1 (hst _ h.2.1 e), h.2.1, h.2.2.1, h.2.2.2⟩
end

/-- A name with something short behind it. -/
def Named (n : List UInt8) : Prop := n.length ≤ 140737488355000

theorem draft_any (p g : Nat) (n : List UInt8) (S : Nat → Prop) (w : World) (h : PgrAt w S p g n) (hn : n.length ≤ 140737488355000) :
    Calls Tryz.prog 52 #[.pointer (some ⟨p, 0, none⟩)] w (fun e w' => e = .returned (.string ⟨(drf n).toArray⟩) ∧ w' = w) := by
  obtain ⟨_, _, c0, c1⟩ := h
  have ha := add_text w n [45, 116] (by simp; omega)
  go_enter Tryz.func52, Tryz.ntmps52
  go_wp2_with fail
  go_ret
  exact ⟨rfl, rfl⟩
theorem journal_any (p g : Nat) (n : List UInt8) (S : Nat → Prop) (w : World) (h : PgrAt w S p g n) (hn : n.length ≤ 140737488355000) :
    Calls Tryz.prog 54 #[.pointer (some ⟨p, 0, none⟩)] w (fun e w' => e = .returned (.string ⟨(jnl n).toArray⟩) ∧ w' = w) := by
  obtain ⟨_, _, c0, c1⟩ := h
  have ha := add_text w n [45, 106] (by simp; omega)
  go_enter Tryz.func54, Tryz.ntmps54
  go_wp2_with fail
  go_ret
  exact ⟨rfl, rfl⟩

/-- Why nothing can be done, if so. -/
def errD (D : Dsk) : Nat := if D.off = true then 8 else 0
theorem ready_p (p g N : Nat) (n : List UInt8) (S : Nat → Prop) (D : Dsk) (w : World) (h : PgrAt w S p g n) (hd : DkS w g N S D) :
    Calls Tryz.prog 29 #[.pointer (some ⟨p, 0, none⟩)] w (fun e w' => e = .returned (.int .i64 (errD D)) ∧ w' = w) := by
  obtain ⟨_, _, c0, c1⟩ := h
  have HD := Lib.hid (down_dks g N S D w hd)
  clear hd
  cases ho : D.off
  · have he : errD D = 0 := by unfold errD; rw [ho]; rfl
    rw [ho] at HD
    rw [he]
    go_enter Tryz.func29, Tryz.ntmps29
    go_wp2_with (go_at_call 16; refine HD.out.mono ?_; rintro e w' ⟨rfl, rfl⟩)
    go_ret
    exact ⟨rfl, rfl⟩
  · have he : errD D = 8 := by unfold errD; rw [ho]; rfl
    rw [ho] at HD
    rw [he]
    go_enter Tryz.func29, Tryz.ntmps29
    go_wp2_with (go_at_call 16; refine HD.out.mono ?_; rintro e w' ⟨rfl, rfl⟩)
    go_ret
    exact ⟨rfl, rfl⟩

set_option maxHeartbeats 800000 in
theorem count_p (p g N : Nat) (n : List UInt8) (S : Nat → Prop) (D : Dsk) (w : World) (h : PgrAt w S p g n) (hd : DkS w g N S D) (ho : D.off = false) (hn : n.length ≤ 140737488355000) :
    Calls Tryz.prog 18 #[.pointer (some ⟨p, 0, none⟩)] w (Says (.int .i64 ((pagesF D.now n).length : Nat)) w) := by
  obtain ⟨_, _, c0, c1⟩ := h
  have HD := Lib.hid (hd.below (w' := w.drew) (Below.refl _ _).drew)
  clear hd
  go_enter Tryz.func18, Tryz.ntmps18
  go_wp2_with fail
  go_region_held3 (fun W => W.cell? ⟨p, 0, none⟩ = some (.pointer (some ⟨g, 0, none⟩)) ∧ W.cell? ⟨p, 1, none⟩ = some (.string ⟨n.toArray⟩)) (first | exact ⟨c0, c1⟩ | (constructor <;> assumption)) (first
    | (go_at_call 38; refine (count_dks g N S D n _ HD.out ho (by omega)).mono ?_; rintro e w' ⟨rfl, rfl⟩))
  all_goals go_wp2_with fail
  all_goals go_ret
  all_goals exact ⟨rfl, (Below.refl _ _).drew⟩

end Go.Proofs.YtkbmajgbhpecgaaGreatDoor.Cd

/-
  A pager: Read; a draft that is thrown away; how calls on its disk go on, one behind the other. Conditions: none.
-/
namespace Go.Proofs.YtkbmajgbhpecgaaGreatDoor.Cd
open Go.RowKit

theorem pgr_since {w w1 w2 : World} {S : Nat → Prop} {p g : Nat} {n : List UInt8} (h : PgrAt w2 (since (since S w w1) w1 w2) p g n) (h1 : w.heap.size ≤ w1.heap.size) (h2 : w1.heap.size ≤ w2.heap.size) : PgrAt w2 (since S w w2) p g n :=
  h.less fun _ _ hk => (since_iff h1 h2).2 hk
theorem pgm_since {w w1 w2 : World} {S : Nat → Prop} {b : Nat} {ws : Pgs} (h : PgMap w2 (since (since S w w1) w1 w2) b ws) (h1 : w.heap.size ≤ w1.heap.size) (h2 : w1.heap.size ≤ w2.heap.size) : PgMap w2 (since S w w2) b ws :=
  h.less fun _ _ hk => (since_iff h1 h2).2 hk

/-- What Read leaves. -/
def ReadsP (D : Dsk) (n : List UInt8) (i : Int) (w : World) (e : Ending) (w' : World) : Prop :=
  Below w.heap.size w w' ∧ ((∃ q, readD D n i = (q, 0) ∧ q.length = 512 ∧ e = .returned (.tuple #[.slice (some ⟨w.heap.size, 0, none⟩) 512 512, .int .i64 0]) ∧ w'.heap.size = w.heap.size + 1 ∧ w'.heap[w.heap.size]? = some (.cells (vb q).toArray 110)) ∨
    ∃ m : Nat, m ≠ 0 ∧ readD D n i = ([], m) ∧ e = .returned (.tuple #[.slice none 0 0, .int .i64 m]))

set_option maxHeartbeats 800000 in
theorem read_p (p g N : Nat) (n : List UInt8) (i : Int) (S : Nat → Prop) (D : Dsk) (w : World) (h : PgrAt w S p g n) (hd : DkS w g N S D) (hn : n.length ≤ 140737488355000) (hi : (Lit.int .i64 i).wf = true) :
    Calls Tryz.prog 39 #[.pointer (some ⟨p, 0, none⟩), .int .i64 i] w (ReadsP D n i w) := by
  obtain ⟨_, h2, c0, c1⟩ := h
  have HD := Lib.hid (hd.below (w' := w.drew) (Below.refl _ _).drew)
  have hr := read_dks g N S D n w.drew i HD.out (by omega) hi
  clear hd
  obtain ⟨⟨q, m⟩, hq⟩ : ∃ r, readD D n i = r := ⟨_, rfl⟩
  by_cases hm : m = 0
  · subst hm
    have hr2 := hr.mono (R' := fun e w' => q.length = 512 ∧ e = .returned (.tuple #[.slice (some ⟨w.heap.size, 0, none⟩) 512 512, .int .i64 0]) ∧ Below w.heap.size w w' ∧ w'.heap.size = w.heap.size + 1 ∧ w'.heap[w.heap.size]? = some (.cells (vb q).toArray 110)) (by
      rintro e w' (⟨p', h1, h2, h3, h4⟩ | ⟨m', h1, h2, _⟩)
      · rw [hq] at h1
        injection h1 with h1
        subst h1
        subst h4
        exact ⟨h2, h3, (Below.refl _ _).drew.alloc (Nat.le_refl _) _, by simp, heap_alloc_new w.drew _⟩
      · rw [hq] at h2
        injection h2 with _ h2
        exact absurd h2.symm h1)
    have HR := Lib.hid hr2
    have HQ := Lib.hid hq
    clear hr hr2 hq
    go_enter Tryz.func39, Tryz.ntmps39
    go_wp2_with fail
    go_region_held3 (fun W => W.cell? ⟨p, 0, none⟩ = some (.pointer (some ⟨g, 0, none⟩)) ∧ W.cell? ⟨p, 1, none⟩ = some (.string ⟨n.toArray⟩)) (first | exact ⟨c0, c1⟩ | assumption) (first
      | (go_at_call 65; refine HR.out.mono ?_; rintro e w' ⟨hql, rfl, hb, hsz, hhp⟩; have hS3 : w'.cell? ⟨p, 0, none⟩ = some (.pointer (some ⟨g, 0, none⟩)) ∧ w'.cell? ⟨p, 1, none⟩ = some (.string ⟨n.toArray⟩) := ⟨(hb.cell (p := ⟨p, 0, none⟩) h2).trans c0, (hb.cell (p := ⟨p, 1, none⟩) h2).trans c1⟩; have hb := Lib.hid hb; have hsz := Lib.hid hsz; have hhp := Lib.hid hhp))
    all_goals go_wp2_with fail
    all_goals go_ret2
    all_goals exact ⟨hb.out, .inl ⟨q, HQ.out, hql, rfl, hsz.out, hhp.out⟩⟩
  · have hr2 := hr.mono (R' := fun e w' => q = [] ∧ e = .returned (.tuple #[.slice none 0 0, .int .i64 m]) ∧ Below w.heap.size w.drew w') (by
      rintro e w' (⟨p', h1, h2, h3, h4⟩ | ⟨m', h1, h2, h3, h4⟩)
      · rw [hq] at h1
        injection h1 with _ h1
        exact absurd h1 hm
      · rw [hq] at h2
        injection h2 with h2 h5
        subst h2 h5
        exact ⟨rfl, h3, h4⟩)
    have HR := Lib.hid hr2
    have HQ := Lib.hid hq
    clear hr hr2 hq
    go_enter Tryz.func39, Tryz.ntmps39
    go_wp2_with fail
    go_region_held3 (fun W => W.cell? ⟨p, 0, none⟩ = some (.pointer (some ⟨g, 0, none⟩)) ∧ W.cell? ⟨p, 1, none⟩ = some (.string ⟨n.toArray⟩)) (first | exact ⟨c0, c1⟩ | assumption) (first
      | (go_at_call 65; refine HR.out.mono ?_; rintro e w' ⟨hqn, rfl, hb⟩; have hS3 : w'.cell? ⟨p, 0, none⟩ = some (.pointer (some ⟨g, 0, none⟩)) ∧ w'.cell? ⟨p, 1, none⟩ = some (.string ⟨n.toArray⟩) := ⟨(hb.cell (p := ⟨p, 0, none⟩) h2).trans c0, (hb.cell (p := ⟨p, 1, none⟩) h2).trans c1⟩))
    all_goals go_wp2_with fail
    all_goals go_ret2
    all_goals exact ⟨(Below.refl _ _).drew.trans hb, .inr ⟨m, hm, by rw [HQ.out, hqn], rfl⟩⟩

/-- A draft that is there is removed. -/
theorem discard_p (p g N M : Nat) (n : List UInt8) (S : Nat → Prop) (D : Dsk) (w : World) (h : PgrAt w S p g n) (hd : DkS w g N S D) (ho : D.off = false) (hn : n.length ≤ 140737488355000) (hN : N + 4 ≤ M) (hM : M ≤ 137438953472) :
    Calls Tryz.prog 30 #[.pointer (some ⟨p, 0, none⟩)] w (MakesD g M S (discardD D n).1 (.int .i64 ((discardD D n).2 : Nat)) w) := by
  have hdl : (drf n).length ≤ 140737488355328 := by simp [drf]; omega
  have hp1 := h.below (w' := w.drew) (Below.refl _ _).drew
  have hd1 := hd.below (w' := w.drew) (Below.refl _ _).drew
  have HP1 := Lib.hid (draft_any p g n S w.drew hp1 hn)
  have HA1 := Lib.hid (has_dks g N S D (drf n) w.drew hd1 ho hdl)
  have HP2 := Lib.hid (draft_any p g n S w.drew.drew (hp1.below (Below.refl _ _).drew) hn)
  have HM2 := Lib.hid (remove_dks g N S D (drf n) w.drew.drew (hd1.below (Below.refl _ _).drew) hdl (by omega))
  have HD := Lib.hid hd
  obtain ⟨hnS, hlt, c0, c1⟩ := h
  clear hp1 hd1 hd
  cases hh : (getF D.now (drf n)).isSome
  · have he : discardD D n = (D, 0) := by unfold discardD; rw [if_neg (by rw [hh]; simp)]
    rw [hh] at HA1
    rw [he]
    clear he HM2 HP2
    go_enter Tryz.func30, Tryz.ntmps30
    go_wp2_with fail
    go_region_held3 (fun W => W.cell? ⟨p, 0, none⟩ = some (.pointer (some ⟨g, 0, none⟩))) (first | exact c0 | assumption) (first
      | (go_at_call 52; refine HP1.out.mono ?_; rintro e w' ⟨rfl, rfl⟩)
      | (go_at_call 51; refine HA1.out.mono ?_; rintro e w' ⟨rfl, rfl⟩))
    all_goals go_wp2_with fail
    all_goals go_ret
    all_goals exact makesD_same HD.out (Below.refl _ _).drew (by omega) hM
  · have he : discardD D n = removeD D (drf n) := by unfold discardD; rw [if_pos hh]
    rw [hh] at HA1
    rw [he]
    clear he
    go_enter Tryz.func30, Tryz.ntmps30
    go_wp2_with fail
    go_region_held3 (fun W => W.cell? ⟨p, 0, none⟩ = some (.pointer (some ⟨g, 0, none⟩))) (first | exact c0 | assumption) (first
      | (go_at_call 52; refine HP1.out.mono ?_; rintro e w' ⟨rfl, rfl⟩)
      | (go_at_call 51; refine HA1.out.mono ?_; rintro e w' ⟨rfl, rfl⟩))
    all_goals go_wp2_with fail
    go_region_held3 (fun W => W.cell? ⟨p, 0, none⟩ = some (.pointer (some ⟨g, 0, none⟩))) (first | exact c0 | assumption) (first
      | (go_at_call 52; refine HP2.out.mono ?_; rintro e w' ⟨rfl, rfl⟩)
      | (go_at_call 53; refine HM2.out.mono ?_; rintro e w' hm; have hS3 : w'.cell? ⟨p, 0, none⟩ = some (.pointer (some ⟨g, 0, none⟩)) := (hm.2.2.cell (p := ⟨p, 0, none⟩) hlt hnS).trans c0; obtain rfl := hm.1; have hm := Lib.hid hm))
    all_goals go_wp2_with fail
    all_goals go_ret
    all_goals exact (hm.out.grow hN hM).undrew.undrew

end Go.Proofs.YtkbmajgbhpecgaaGreatDoor.Cd

/-
  The library's contracts on sorting what the keys of a map of ints are, at this seat. Conditions: none. Laid by program (tools/iteri.py).
-/
namespace Go.Proofs
open Go.RowKit Go.Maps Go.Sort Go.Shelf
def Tryz.keys84_ren : Go.Shelf.Ren := ⟨fun | 7 => 84 | 10 => 113 | n => n, fun | 23 => 37 | 26 => 3 | 3 => 49 | 28 => 129 | 0 => 0 | 27 => 128 | 33 => 158 | 4 => 4 | n => n, fun | n => n⟩
theorem Tryz.keys84 : Go.Proofs.SlLaysZI.n7 Tryz.prog Tryz.keys84_ren := {
  mixed := by kernel_rfl
  f7 := ⟨Tryz.f84.name, by decide, Tryz.func84.trans (congrArg some (by kernel_rfl))⟩
  f10 := ⟨Tryz.f113.name, by decide, Tryz.func113.trans (congrArg some (by kernel_rfl))⟩
  t0 := Tryz.underlying0
  a0 := Tryz.isAgg0
  z0 := Tryz.sizeOf0
  v0 := Tryz.zeroValue0
  t4 := Tryz.underlying4
  a4 := Tryz.isAgg4
  z4 := Tryz.sizeOf4
  v4 := Tryz.zeroValue4
  t23 := Tryz.underlying37
  a23 := Tryz.isAgg37
  z23 := Tryz.sizeOf37
  v23 := Tryz.zeroValue37
  t26 := Tryz.underlying3
  a26 := Tryz.isAgg3
  z26 := Tryz.sizeOf3
  v26 := Tryz.zeroValue3
  t27 := Tryz.underlying128
  a27 := Tryz.isAgg128
  z27 := Tryz.sizeOf128
  v27 := Tryz.zeroValue128
  t28 := Tryz.underlying129
  a28 := Tryz.isAgg129
  z28 := Tryz.sizeOf129
  v28 := Tryz.zeroValue129
  t33 := Tryz.underlying158
  a33 := Tryz.isAgg158
  z33 := Tryz.sizeOf158
  v33 := Tryz.zeroValue158 }
def Tryz.sorted83_ren : Go.Shelf.Ren := ⟨fun | 6 => 83 | 8 => 111 | 9 => 112 | 11 => 139 | 13 => 95 | 12 => 140 | 23 => 126 | 24 => 127 | 14 => 152 | 15 => 153 | 16 => 154 | 17 => 155 | 18 => 156 | 19 => 157 | 20 => 158 | 21 => 159 | 22 => 160 | 25 => 163 | 26 => 144 | 27 => 145 | 28 => 164 | 29 => 165 | 30 => 166 | 31 => 167 | n => n, fun | 26 => 3 | 28 => 129 | 24 => 23 | 0 => 0 | 3 => 3 | 37 => 116 | 48 => 83 | 50 => 34 | 4 => 4 | 40 => 163 | 39 => 162 | 45 => 71 | 5 => 5 | 9 => 9 | 51 => 179 | 55 => 182 | 57 => 193 | 58 => 194 | 33 => 158 | n => n, fun | n => n⟩
theorem Tryz.sorted83 : Go.Proofs.SlLaysZI.n6 Tryz.prog Tryz.sorted83_ren := {
  mixed := by kernel_rfl
  f6 := ⟨Tryz.f83.name, by decide, Tryz.func83.trans (congrArg some (by kernel_rfl))⟩
  f8 := ⟨Tryz.f111.name, by decide, Tryz.func111.trans (congrArg some (by kernel_rfl))⟩
  f11 := ⟨Tryz.f139.name, by decide, Tryz.func139.trans (congrArg some (by kernel_rfl))⟩
  t0 := Tryz.underlying0
  a0 := Tryz.isAgg0
  z0 := Tryz.sizeOf0
  v0 := Tryz.zeroValue0
  t24 := Tryz.underlying23
  a24 := Tryz.isAgg23
  z24 := Tryz.sizeOf23
  v24 := Tryz.zeroValue23
  t26 := Tryz.underlying3
  a26 := Tryz.isAgg3
  z26 := Tryz.sizeOf3
  v26 := Tryz.zeroValue3
  t28 := Tryz.underlying129
  a28 := Tryz.isAgg129
  z28 := Tryz.sizeOf129
  v28 := Tryz.zeroValue129
  i26 := by kernel_rfl }
def Tryz.sort112_ren : Go.Shelf.Ren := ⟨fun | 5 => 112 | 8 => 95 | 7 => 140 | 19 => 126 | 20 => 127 | 10 => 152 | 11 => 153 | 12 => 154 | 13 => 155 | 14 => 156 | 15 => 157 | 16 => 158 | 17 => 159 | 18 => 160 | 30 => 163 | 31 => 144 | 32 => 145 | 33 => 164 | 34 => 165 | 35 => 166 | 40 => 167 | n => n, fun | 23 => 23 | 25 => 3 | 3 => 3 | 32 => 116 | 22 => 23 | 0 => 0 | 44 => 83 | 46 => 34 | 4 => 4 | 36 => 163 | 35 => 162 | 41 => 71 | 5 => 5 | 9 => 9 | 53 => 179 | 57 => 182 | 63 => 193 | 64 => 194 | n => n, fun | n => n⟩
theorem Tryz.sort112 : Go.Proofs.SlLaysM.n5 Tryz.prog Tryz.sort112_ren := {
  mixed := by kernel_rfl
  f5 := ⟨Tryz.f112.name, by decide, Tryz.func112.trans (congrArg some (by kernel_rfl))⟩
  f7 := ⟨Tryz.f140.name, by decide, Tryz.func140.trans (congrArg some (by kernel_rfl))⟩
  f8 := Tryz.func95.trans (congrArg some (by kernel_rfl))
  f10 := ⟨Tryz.f152.name, by decide, Tryz.func152.trans (congrArg some (by kernel_rfl))⟩
  f11 := ⟨Tryz.f153.name, by decide, Tryz.func153.trans (congrArg some (by kernel_rfl))⟩
  f12 := ⟨Tryz.f154.name, by decide, Tryz.func154.trans (congrArg some (by kernel_rfl))⟩
  f13 := ⟨Tryz.f155.name, by decide, Tryz.func155.trans (congrArg some (by kernel_rfl))⟩
  f14 := ⟨Tryz.f156.name, by decide, Tryz.func156.trans (congrArg some (by kernel_rfl))⟩
  f15 := ⟨Tryz.f157.name, by decide, Tryz.func157.trans (congrArg some (by kernel_rfl))⟩
  f16 := ⟨Tryz.f158.name, by decide, Tryz.func158.trans (congrArg some (by kernel_rfl))⟩
  f17 := ⟨Tryz.f159.name, by decide, Tryz.func159.trans (congrArg some (by kernel_rfl))⟩
  f18 := ⟨Tryz.f160.name, by decide, Tryz.func160.trans (congrArg some (by kernel_rfl))⟩
  f19 := Tryz.func126.trans (congrArg some (by kernel_rfl))
  f20 := Tryz.func127.trans (congrArg some (by kernel_rfl))
  f30 := ⟨Tryz.f163.name, by decide, Tryz.func163.trans (congrArg some (by kernel_rfl))⟩
  f31 := Tryz.func144.trans (congrArg some (by kernel_rfl))
  f32 := Tryz.func145.trans (congrArg some (by kernel_rfl))
  f33 := ⟨Tryz.f164.name, by decide, Tryz.func164.trans (congrArg some (by kernel_rfl))⟩
  f34 := ⟨Tryz.f165.name, by decide, Tryz.func165.trans (congrArg some (by kernel_rfl))⟩
  f35 := ⟨Tryz.f166.name, by decide, Tryz.func166.trans (congrArg some (by kernel_rfl))⟩
  f40 := ⟨Tryz.f167.name, by decide, Tryz.func167.trans (congrArg some (by kernel_rfl))⟩
  t0 := Tryz.underlying0
  a0 := Tryz.isAgg0
  z0 := Tryz.sizeOf0
  v0 := Tryz.zeroValue0
  t3 := Tryz.underlying3
  a3 := Tryz.isAgg3
  z3 := Tryz.sizeOf3
  v3 := Tryz.zeroValue3
  t4 := Tryz.underlying4
  a4 := Tryz.isAgg4
  z4 := Tryz.sizeOf4
  v4 := Tryz.zeroValue4
  t5 := Tryz.underlying5
  a5 := Tryz.isAgg5
  z5 := Tryz.sizeOf5
  v5 := Tryz.zeroValue5
  t9 := Tryz.underlying9
  a9 := Tryz.isAgg9
  z9 := Tryz.sizeOf9
  v9 := Tryz.zeroValue9
  t22 := Tryz.underlying23
  a22 := Tryz.isAgg23
  z22 := Tryz.sizeOf23
  v22 := Tryz.zeroValue23
  t23 := Tryz.underlying23
  a23 := Tryz.isAgg23
  z23 := Tryz.sizeOf23
  v23 := Tryz.zeroValue23
  t25 := Tryz.underlying3
  a25 := Tryz.isAgg3
  z25 := Tryz.sizeOf3
  v25 := Tryz.zeroValue3
  t32 := Tryz.underlying116
  a32 := Tryz.isAgg116
  z32 := Tryz.sizeOf116
  v32 := Tryz.zeroValue116
  t35 := Tryz.underlying162
  a35 := Tryz.isAgg162
  z35 := Tryz.sizeOf162
  v35 := Tryz.zeroValue162
  t36 := Tryz.underlying163
  a36 := Tryz.isAgg163
  z36 := Tryz.sizeOf163
  v36 := Tryz.zeroValue163
  t41 := Tryz.underlying71
  a41 := Tryz.isAgg71
  z41 := Tryz.sizeOf71
  v41 := Tryz.zeroValue71
  t44 := Tryz.underlying83
  a44 := Tryz.isAgg83
  z44 := Tryz.sizeOf83
  v44 := Tryz.zeroValue83
  t46 := Tryz.underlying34
  a46 := Tryz.isAgg34
  z46 := Tryz.sizeOf34
  v46 := Tryz.zeroValue34
  t53 := Tryz.underlying179
  a53 := Tryz.isAgg179
  z53 := Tryz.sizeOf179
  v53 := Tryz.zeroValue179
  t57 := Tryz.underlying182
  a57 := Tryz.isAgg182
  z57 := Tryz.sizeOf182
  v57 := Tryz.zeroValue182
  t63 := Tryz.underlying193
  a63 := Tryz.isAgg193
  z63 := Tryz.sizeOf193
  v63 := Tryz.zeroValue193
  t64 := Tryz.underlying194
  a64 := Tryz.isAgg194
  z64 := Tryz.sizeOf194
  v64 := Tryz.zeroValue194 }

theorem Tryz.sortsI83 (m : Nat) : AnyZI.SortsIn Tryz.prog Tryz.sorted83_ren Fence.wide m :=
  ⟨fun blk off cap ss W hH hblk hsz => callsIn_wide.2 (AnyM.slices_Sort_int Tryz.sort112 blk off cap ss W hH hblk hsz),
   fun p cap W => callsIn_wide.2 (AnyM.slices_Sort_int_none Tryz.sort112 p cap W)⟩
theorem Tryz.maps_KeysI_84 (mb : Option Nat) (W : World) : CallsIn Fence.wide 5 Tryz.prog 84 #[.map mb] W fun e w' => e = .returned (.func (.func 113) #[] #[.pointer (some ⟨W.heap.size, 0, none⟩)]) ∧ w' = W.alloc (.cells #[.map mb] 37) :=
  AnyZI.keys_in Tryz.keys84 Fence.wide 5 trivial rfl mb W

set_option maxHeartbeats 1000000 in
/-- A map's keys, sorted, in a new slice. -/
theorem Tryz.slices_SortedI_83_84 {H : Type} (b nn : Nat) (D0 : DataW H) (R : Value → Option (DataW H × List MemPlace)) (w : World) (hown : w.ownsMap Tryz.prog 3 R b nn D0) (hmax : Maps.size D0 ≤ maxLen) (hbytes : Maps.size D0 * 8 ≤ 140737488355328) :
    CallsIn Fence.wide 5 Tryz.prog 83 #[.func (.func 113) #[] #[.pointer (some ⟨w.heap.size, 0, none⟩)]] (w.alloc (.cells #[.map (some b)] 37)) fun e w' => ∃ (v : Value) (ss : List Int), e = .returned v ∧ ss.Perm (intKeys D0) ∧
      w'.ownsRow (w.alloc (.cells #[.map (some b)] 37)).heap.size 3 1 v ss.length ((ss.mergeSort (fun x y => decide (x ≤ y))).map encZ) ∧ (v = .slice none 0 0 ↔ ss = []) ∧ Below (w.alloc (.cells #[.map (some b)] 37)).heap.size (w.alloc (.cells #[.map (some b)] 37)) w' := by
  have hbl := hown.lt
  have hseq : SeqGives Fence.wide 2 Tryz.prog 113 #[.pointer (some ⟨w.heap.size, 0, none⟩)] encZ (fun ss => ss.Perm (intKeys D0)) (Maps.size D0) (w.alloc (.cells #[.map (some b)] 37)) :=
    AnyZI.keys_gives (ρ := Tryz.keys84_ren) { Tryz.keys84 with } Fence.wide _ trivial rfl (by omega) w.heap.size b nn D0 _ (by simp) (by simp) (by
      obtain ⟨es, clock, hb, Ft, hs, hD⟩ := hown
      exact ⟨es, clock, (Below.heap_alloc _ _ b hbl).trans hb, Ft, hs, hD⟩)
  exact AnyZI.sorted_in Tryz.sorted83 Fence.wide 5 trivial trivial trivial trivial rfl (by omega) (Tryz.sortsI83 _) (enters_of Tryz.func112 (by kernel_rfl) rfl) 113 #[.pointer (some ⟨w.heap.size, 0, none⟩)] trivial (enters_of Tryz.func113 (by kernel_rfl) rfl) _ _ hmax hbytes _ hseq
theorem Tryz.slices_SortedI_nil_83_84 (w : World) :
    CallsIn Fence.wide 5 Tryz.prog 83 #[.func (.func 113) #[] #[.pointer (some ⟨w.heap.size, 0, none⟩)]] (w.alloc (.cells #[.map none] 37)) fun e w' => ∃ (v : Value) (ss : List Int), e = .returned v ∧ ss = [] ∧
      w'.ownsRow (w.alloc (.cells #[.map none] 37)).heap.size 3 1 v ss.length ((ss.mergeSort (fun x y => decide (x ≤ y))).map encZ) ∧ (v = .slice none 0 0 ↔ ss = []) ∧ Below (w.alloc (.cells #[.map none] 37)).heap.size (w.alloc (.cells #[.map none] 37)) w' := by
  have hseq : SeqGives Fence.wide 2 Tryz.prog 113 #[.pointer (some ⟨w.heap.size, 0, none⟩)] encZ (fun ss : List Int => ss = []) 0 (w.alloc (.cells #[.map none] 37)) :=
    AnyZI.keys_gives_nil (ρ := Tryz.keys84_ren) { Tryz.keys84 with } Fence.wide _ trivial rfl w.heap.size _ (by simp) (by simp)
  exact AnyZI.sorted_in Tryz.sorted83 Fence.wide 5 trivial trivial trivial trivial rfl (by omega) (Tryz.sortsI83 _) (enters_of Tryz.func112 (by kernel_rfl) rfl) 113 #[.pointer (some ⟨w.heap.size, 0, none⟩)] trivial (enters_of Tryz.func113 (by kernel_rfl) rfl) _ 0 (Nat.zero_le _) (by omega) _ hseq
end Go.Proofs
