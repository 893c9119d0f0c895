/-
  A pager's loops over a map of pages: their numbers, rising; whether one is too long; how many are new. Conditions: as each says.
-/
import Derived.Test.YtbaimgccepjdaaaGreatDoorG6
import Derived.Test.YtbaimgccepjdaaaGreatDoorG7
import Derived.Test.YtbaimgccepjdaaaGreatDoorG1
import Derived.Lib.SlKeysI
import Derived.Deep.RegionHeld3
import Derived.Shelf.SlIterI.Nil
import Derived.Shelf.SortM.Plain
import Derived.Shelf.SortM.SortNone
import Derived.Ground.GgzProg
import Derived.Ground.SlgmProg
import Derived.Test.YtbaimgccepjdaaaGreatDoorRows
import Derived.Maps.RangeWalk
/-
  A file's pages that are written all or none, as the document tells of it, over a disk as the document tells of it: what a commit does. No Go in sight. Conditions: none.
-/
namespace Go.Proofs.YtbaimgccepjdaaaGreatDoor.Cd

/-- Pages, each with its number. -/
abbrev Pgs := List (Int × List UInt8)

def jnl (n : List UInt8) : List UInt8 := n ++ [45, 106]
def drf (n : List UInt8) : List UInt8 := n ++ [45, 116]
theorem jnl_ne (n : List UInt8) : jnl n ≠ n := fun h => by have := congrArg List.length h; simp [jnl] at this
theorem drf_ne (n : List UInt8) : drf n ≠ n := fun h => by have := congrArg List.length h; simp [drf] at this
theorem jnl_drf (n : List UInt8) : jnl n ≠ drf n := fun h => by simp [drf, jnl] at h

/-- One page of a record; the record's text; its bytes. -/
def recP (p : Int × List UInt8) : List UInt8 := enc (zig p.1) ++ (enc p.2.length ++ p.2)
def recT (ws : Pgs) : List UInt8 := enc (zig ws.length) ++ (ws.map recP).flatten
def recF (ws : Pgs) : List UInt8 := frm (recT ws)

/-- How many pages bytes take; the k-th of them; all. -/
def pagesOf (n : Nat) : Nat := (n + 511) / 512
def chunk (b : List UInt8) (k : Nat) : List UInt8 := (b.drop (512 * k)).take 512
def chunks (b : List UInt8) : Pgs := (List.range (pagesOf b.length)).map fun (k : Nat) => ((k : Int), chunk b k)
theorem chunk_len (b : List UInt8) (k : Nat) : (chunk b k).length ≤ 512 := by simp [chunk]; omega
theorem chunks_len (b : List UInt8) : (chunks b).length = pagesOf b.length := by simp [chunks]

/-- Writes, one behind the other, up to one that is refused. -/
def writes (D : Dsk) (n : List UInt8) : Pgs → Dsk × Nat
  | [] => (D, 0)
  | p :: r => if (writeD D n p.1 p.2).2 = 0 then writes (writeD D n p.1 p.2).1 n r else writeD D n p.1 p.2

theorem writes_cons {D : Dsk} {n : List UInt8} {p : Int × List UInt8} {r : Pgs} (h : (writeD D n p.1 p.2).2 = 0) : writes D n (p :: r) = writes (writeD D n p.1 p.2).1 n r := by rw [writes, if_pos h]
theorem writes_bad {D : Dsk} {n : List UInt8} {p : Int × List UInt8} {r : Pgs} (h : (writeD D n p.1 p.2).2 ≠ 0) : writes D n (p :: r) = writeD D n p.1 p.2 := by rw [writes, if_neg h]
theorem writes_append (n : List UInt8) (a b : Pgs) : ∀ (D : Dsk), writes D n (a ++ b) = if (writes D n a).2 = 0 then writes (writes D n a).1 n b else writes D n a := by
  induction a with
  | nil => intro D; simp [writes]
  | cons p r ih =>
    intro D
    by_cases h : (writeD D n p.1 p.2).2 = 0
    · rw [List.cons_append, writes_cons h, writes_cons h]; exact ih _
    · rw [List.cons_append, writes_bad h, writes_bad h, if_neg h]
theorem writes_one (D : Dsk) (n : List UInt8) (p : Int × List UInt8) : writes D n [p] = writeD D n p.1 p.2 := by
  simp only [writes]
  split
  · rename_i h; rw [← h]
  · rfl
theorem writes_take (n : List UInt8) (l : Pgs) (D : Dsk) {k : Nat} (hk : k < l.length) (h : (writes D n (l.take k)).2 = 0) : writes D n (l.take (k + 1)) = writeD (writes D n (l.take k)).1 n l[k].1 l[k].2 := by
  rw [List.take_succ_eq_append_getElem hk, writes_append, if_pos h, writes_one]
theorem writes_stop (n : List UInt8) (l : Pgs) (D : Dsk) {k : Nat} (h : (writes D n (l.take k)).2 ≠ 0) : writes D n l = writes D n (l.take k) := by
  conv => lhs; rw [← List.take_append_drop k l, writes_append]
  rw [if_neg h]

def discardD (D : Dsk) (n : List UInt8) : Dsk × Nat := if (getF D.now (drf n)).isSome = true then removeD D (drf n) else (D, 0)
def postD (D : Dsk) (n b : List UInt8) : Dsk × Nat :=
  if (discardD D n).2 ≠ 0 then discardD D n else
  if (writes (discardD D n).1 (drf n) (chunks b)).2 ≠ 0 then writes (discardD D n).1 (drf n) (chunks b) else
  if (syncD (writes (discardD D n).1 (drf n) (chunks b)).1 (drf n)).2 ≠ 0 then syncD (writes (discardD D n).1 (drf n) (chunks b)).1 (drf n) else
  renameD (syncD (writes (discardD D n).1 (drf n) (chunks b)).1 (drf n)).1 (drf n) (jnl n)
/-- Sync, if the file is there. -/
def syncIf (D : Dsk) (n : List UInt8) : Dsk × Nat := if (getF D.now n).isSome = true then syncD D n else (D, 0)
def settleD (D : Dsk) (n : List UInt8) (ws : Pgs) : Dsk × Nat :=
  if (writes D n ws).2 ≠ 0 then writes D n ws else
  if (syncIf (writes D n ws).1 n).2 ≠ 0 then syncIf (writes D n ws).1 n else
  removeD (syncIf (writes D n ws).1 n).1 (jnl n)
/-- How many of the pages are new ones; none: the file can't have them. -/
def freshN : Nat → Pgs → Option Nat
  | _, [] => some 0
  | c, p :: r => if p.1 < 0 ∨ (c : Int) < p.1 then none else if p.1 = c then (freshN (c + 1) r).map (· + 1) else freshN c r
def hasLong (ws : Pgs) : Bool := ws.any fun p => decide (512 < p.2.length)
/-- What a commit leaves and answers, with the power on. -/
def commitD (D : Dsk) (n : List UInt8) (ws : Pgs) : Dsk × Nat :=
  if D.off = true then (D, 8) else
  if hasLong ws = true then (D, 3) else
  match freshN (pagesF D.now n).length ws with
  | none => (D, 1)
  | some f =>
    if ws = [] then (D, 0) else
    if freeD D < (pagesOf (recF ws).length + f : Nat) then (D, 7) else
    if (postD D n (recF ws)).2 ≠ 0 then postD D n (recF ws) else settleD (postD D n (recF ws)).1 n ws

/-! ### With the power on, and no end of it in sight -/

/-- Pages, with some written. -/
def laidP (P : List (List UInt8)) (ws : Pgs) : List (List UInt8) := ws.foldl (fun P p => setP P p.1.toNat (pad p.2)) P

theorem free_pos {D : Dsk} {room k : Nat} (h : Roomy D room k) (hk : k < room) : freeD D ≠ 0 := by rw [h.free]; omega

/-- One write, in the file's pages or at their end. -/
theorem Roomy.put {D : Dsk} {room k : Nat} (h : Roomy D room k) {n b : List UInt8} {i : Nat} (hi : i ≤ (pagesF D.now n).length) (hb : b.length ≤ 512) (hk : i = (pagesF D.now n).length → k < room) :
    (writeD D n i b).2 = 0 ∧ Roomy (writeD D n i b).1 room (k + if i = (pagesF D.now n).length then 1 else 0) ∧
      (∀ m, pagesF (writeD D n i b).1.now m = if m = n then setP (pagesF D.now n) i (pad b) else pagesF D.now m) ∧
      (∀ m, (getF (writeD D n i b).1.now m).isSome = if m = n then true else (getF D.now m).isSome) := by
  have hw : writeD D n i b = (wrote D n i b, 0) := by
    unfold writeD
    rw [if_neg (by rw [h.off]; simp), if_neg (by omega), if_neg (by omega), if_neg (fun h2 => free_pos h (hk (by omega)) h2.2), Int.toNat_natCast]
    exact ends_calm (by rw [h.fuse]; omega)
  rw [hw]
  have hc := count_put h.once ⟨n, setP (pagesF D.now n) i (pad b)⟩
  simp only [setP_len] at hc
  have hkc := h.count
  refine ⟨rfl, ⟨h.off, by show D.fuse - 1 = 0; rw [h.fuse], put_once h.once _, h.room, ?_⟩, fun m => ?_, fun m => wrote_is D n b i m⟩
  · show Cd.count (putF D.now ⟨n, setP (pagesF D.now n) i (pad b)⟩) = _
    split <;> omega
  · show pagesF (putF D.now ⟨n, _⟩) m = _
    rw [pagesF_put]

theorem Roomy.writes {n : List UInt8} {room : Nat} (ws : Pgs) : ∀ {D : Dsk} {k f : Nat}, Roomy D room k → freshN (pagesF D.now n).length ws = some f → k + f ≤ room → (∀ p ∈ ws, p.2.length ≤ 512) →
    (Cd.writes D n ws).2 = 0 ∧ Roomy (Cd.writes D n ws).1 room (k + f) ∧
      (∀ m, pagesF (Cd.writes D n ws).1.now m = if m = n then laidP (pagesF D.now n) ws else pagesF D.now m) ∧
      (∀ m, (getF (Cd.writes D n ws).1.now m).isSome = if m = n ∧ ws ≠ [] then true else (getF D.now m).isSome) := by
  induction ws with
  | nil =>
    intro D k f h hf _ _
    injection hf with hf
    subst hf
    refine ⟨rfl, h, fun m => ?_, fun m => ?_⟩
    · show pagesF D.now m = if m = n then pagesF D.now n else _
      split
      · rename_i e; rw [e]
      · rfl
    · simp [Cd.writes]
  | cons p r ih =>
    intro D k f h hf hk hl
    obtain ⟨i, b⟩ := p
    rw [freshN] at hf
    by_cases hbad : i < 0 ∨ ((pagesF D.now n).length : Int) < i
    · rw [if_pos hbad] at hf; cases hf
    · rw [if_neg hbad] at hf
      obtain ⟨j, rfl⟩ := Int.eq_ofNat_of_zero_le (a := i) (by omega)
      have hb : b.length ≤ 512 := hl (↑j, b) (by simp)
      have hr : ∀ p ∈ r, p.2.length ≤ 512 := fun p hp => hl p (by simp [hp])
      have key : ∀ f', freshN (setP (pagesF D.now n) j (pad b)).length r = some f' → k + (if j = (pagesF D.now n).length then 1 else 0) + f' ≤ room → (j = (pagesF D.now n).length → k < room) → (k + if j = (pagesF D.now n).length then 1 else 0) + f' = k + f →
          (Cd.writes D n ((↑j, b) :: r)).2 = 0 ∧ Roomy (Cd.writes D n ((↑j, b) :: r)).1 room (k + f) ∧
            (∀ m, pagesF (Cd.writes D n ((↑j, b) :: r)).1.now m = if m = n then laidP (pagesF D.now n) ((↑j, b) :: r) else pagesF D.now m) ∧
            (∀ m, (getF (Cd.writes D n ((↑j, b) :: r)).1.now m).isSome = if m = n ∧ ((↑j, b) :: r : Pgs) ≠ [] then true else (getF D.now m).isSome) := by
        intro f' h1 h2 h3 h4
        obtain ⟨q1, q2, q3, q4⟩ := h.put (n := n) (b := b) (i := j) (by omega) hb h3
        have e : Cd.writes D n ((↑j, b) :: r) = Cd.writes (writeD D n j b).1 n r := by rw [Cd.writes, if_pos q1]
        rw [e]
        have hp := q3 n
        rw [if_pos rfl] at hp
        obtain ⟨s1, s2, s3, s4⟩ := ih q2 (f := f') (by rw [hp]; exact h1) h2 hr
        refine ⟨s1, by rw [← h4]; exact s2, fun m => ?_, fun m => ?_⟩
        · rw [s3 m, hp, q3 m]
          by_cases em : m = n
          · rw [if_pos em, if_pos em]; rfl
          · rw [if_neg em, if_neg em, if_neg em]
        · rw [s4 m, q4 m]
          by_cases em : m = n
          · simp [em]
          · simp [em]
      by_cases he : (j : Int) = ((pagesF D.now n).length : Int)
      · rw [if_pos he] at hf
        have he' : j = (pagesF D.now n).length := by omega
        cases hf2 : freshN ((pagesF D.now n).length + 1) r with
        | none => rw [hf2] at hf; cases hf
        | some f' =>
          rw [hf2] at hf
          injection hf with hf
          have hf : f' + 1 = f := hf
          refine key f' ?_ ?_ (fun _ => by omega) ?_
          · rw [setP_len, ← hf2]; congr 1; omega
          · rw [if_pos he']; omega
          · rw [if_pos he']; omega
      · rw [if_neg he] at hf
        refine key f ?_ ?_ (fun e => absurd (by omega) he) ?_
        · rw [setP_len, ← hf]; congr 1; omega
        · rw [if_neg (by omega)]; omega
        · rw [if_neg (by omega), Nat.add_zero]

theorem fresh_chunks_aux (g : Nat → List UInt8) (m : Nat) : ∀ c, freshN c ((List.range' c m).map fun (k : Nat) => ((k : Int), g k)) = some m := by
  induction m with
  | zero => intro c; rfl
  | succ m ih =>
    intro c
    rw [List.range'_succ, List.map_cons, freshN, if_neg (by omega), if_pos rfl, ih]
    rfl
theorem fresh_chunks (b : List UInt8) : freshN 0 (chunks b) = some (pagesOf b.length) := by
  unfold chunks
  rw [List.range_eq_range']
  exact fresh_chunks_aux _ _ 0
theorem chunks_short (b : List UInt8) : ∀ p ∈ chunks b, p.2.length ≤ 512 := by
  intro p hp
  obtain ⟨k, _, rfl⟩ := List.mem_map.1 hp
  exact chunk_len b k

theorem Roomy.sync {D : Dsk} {room k : Nat} (h : Roomy D room k) {n : List UInt8} (h2 : (getF D.now n).isSome = true) : (syncD D n).2 = 0 ∧ Roomy (syncD D n).1 room k ∧ (syncD D n).1.now = D.now := by
  rw [sync_calm h.off h2 (by rw [h.fuse]; omega)]
  exact ⟨rfl, ⟨h.off, by show D.fuse - 1 = 0; rw [h.fuse], h.once, h.room, h.count⟩, rfl⟩
theorem Roomy.removed {D : Dsk} {room k : Nat} (h : Roomy D room k) {n : List UInt8} (h2 : (getF D.now n).isSome = true) :
    (removeD D n).2 = 0 ∧ Roomy (removeD D n).1 room (k - (pagesF D.now n).length) ∧ (pagesF D.now n).length ≤ k ∧ (∀ m, getF (removeD D n).1.now m = if m = n then none else getF D.now m) := by
  obtain ⟨a, b, c⟩ := h.remove h2
  refine ⟨a, b, c, fun m => ?_⟩
  rw [remove_calm h.off h2 (by rw [h.fuse]; omega)]
  exact getF_without D.now n m
theorem pagesF_get {l l' : List Fil} {m : List UInt8} (h : getF l m = getF l' m) : pagesF l m = pagesF l' m := by unfold pagesF; rw [h]
theorem Roomy.rename {D : Dsk} {room k : Nat} (h : Roomy D room k) {a b : List UInt8} (h2 : (getF D.now a).isSome = true) (h3 : (getF D.now b).isSome = false) (hne : a ≠ b) :
    (renameD D a b).2 = 0 ∧ Roomy (renameD D a b).1 room k ∧ (∀ m, getF (renameD D a b).1.now m = if m = b then some ⟨b, pagesF D.now a⟩ else if m = a then none else getF D.now m) := by
  have e : renameD D a b = (renames (actD D) a b, 0) := by
    unfold renameD
    rw [may_ok h.off h2, ends_calm (by rw [h.fuse]; omega), if_pos ⟨rfl, hne⟩]
  rw [e]
  have h1 := count_without h.once a
  have h4 := count_put (without_once h.once a) ⟨b, pagesF D.now a⟩
  have h5 : pagesF (without D.now a) b = [] := pages_of_none (by rw [getF_without, if_neg hne.symm]; exact h3)
  simp only [h5, List.length_nil] at h4
  have hkc := h.count
  refine ⟨rfl, ⟨h.off, by show D.fuse - 1 = 0; rw [h.fuse], put_once (without_once h.once a) _, h.room, ?_⟩, fun m => ?_⟩
  · show Cd.count (putF (without D.now a) ⟨b, pagesF D.now a⟩) = k
    omega
  · show getF (putF (without D.now a) ⟨b, pagesF D.now a⟩) m = _
    rw [getF_put, getF_without]

/-- Neither a draft nor a journal is there. -/
structure Bare (D : Dsk) (n : List UInt8) : Prop where
  draft : (getF D.now (drf n)).isSome = false
  journal : (getF D.now (jnl n)).isSome = false

theorem hasLong_none {ws : Pgs} (h : hasLong ws = false) : ∀ p ∈ ws, p.2.length ≤ 512 := by
  intro p hp
  unfold hasLong at h
  have := List.any_eq_false.1 h p hp
  simpa using this
theorem pagesOf_pos {n : Nat} (h : 0 < n) : 0 < pagesOf n := by unfold pagesOf; omega
theorem chunks_ne {b : List UInt8} (h : 0 < b.length) : chunks b ≠ [] := fun e => by
  have := chunks_len b
  rw [e] at this
  have := pagesOf_pos h
  simp at *
  omega
theorem frm_pos (x : List UInt8) : 0 < (frm x).length := by have := frm_ge x; omega

/-- The record is the journal; nothing else turns. -/
theorem Roomy.post {D : Dsk} {room k : Nat} (h : Roomy D room k) {n b : List UInt8} (hb : Bare D n) (h0 : 0 < b.length) (hk : k + pagesOf b.length ≤ room) :
    (postD D n b).2 = 0 ∧ Roomy (postD D n b).1 room (k + pagesOf b.length) ∧ (∀ m, m ≠ jnl n → m ≠ drf n → pagesF (postD D n b).1.now m = pagesF D.now m ∧ (getF (postD D n b).1.now m).isSome = (getF D.now m).isSome) ∧
      (getF (postD D n b).1.now (drf n)).isSome = false ∧ (getF (postD D n b).1.now (jnl n)).isSome = true ∧ (pagesF (postD D n b).1.now (jnl n)).length = pagesOf b.length := by
  have hd : discardD D n = (D, 0) := by unfold discardD; rw [if_neg (by rw [hb.draft]; simp)]
  have hp0 : pagesF D.now (drf n) = [] := pages_of_none hb.draft
  obtain ⟨a1, a2, a3, a4⟩ := h.writes (n := drf n) (chunks b) (f := pagesOf b.length) (by rw [hp0]; exact fresh_chunks b) hk (chunks_short b)
  have hw1 := a4 (drf n)
  rw [if_pos ⟨rfl, chunks_ne h0⟩] at hw1
  obtain ⟨b1, b2, b3⟩ := a2.sync hw1
  have hj : (getF (syncD (Cd.writes D (drf n) (chunks b)).1 (drf n)).1.now (jnl n)).isSome = false := by
    rw [b3, a4, if_neg (fun h2 => jnl_drf n h2.1)]; exact hb.journal
  obtain ⟨c1, c2, c3⟩ := b2.rename (a := drf n) (b := jnl n) (by rw [b3]; exact hw1) hj (fun e => jnl_drf n e.symm)
  have e : postD D n b = renameD (syncD (Cd.writes D (drf n) (chunks b)).1 (drf n)).1 (drf n) (jnl n) := by
    unfold postD
    rw [hd]
    simp only [ne_eq, not_true_eq_false, if_false, a1, b1]
  rw [e]
  refine ⟨c1, c2, fun m m1 m2 => ?_, ?_, ?_, ?_⟩
  · have := c3 m
    rw [if_neg m1, if_neg m2, b3] at this
    refine ⟨?_, ?_⟩
    · rw [pagesF_get this, a3, if_neg m2]
    · rw [this, a4, if_neg (fun h2 => m2 h2.1)]
  · rw [c3, if_neg (fun e => jnl_drf n e.symm), if_pos rfl]; rfl
  · rw [c3, if_pos rfl]; rfl
  · have : pagesF (renameD (syncD (Cd.writes D (drf n) (chunks b)).1 (drf n)).1 (drf n) (jnl n)).1.now (jnl n) = pagesF (Cd.writes D (drf n) (chunks b)).1.now (drf n) := by
      unfold pagesF
      rw [c3, if_pos rfl, b3]
      rfl
    rw [this, a3, if_pos rfl, hp0]
    have hl : ∀ (ws : Pgs) (P : List (List UInt8)) (f : Nat), freshN P.length ws = some f → (laidP P ws).length = P.length + f := by
      intro ws
      induction ws with
      | nil => intro P f hf; injection hf with hf; subst hf; rfl
      | cons p r ih =>
        intro P f hf
        obtain ⟨i, c⟩ := p
        rw [freshN] at hf
        show (laidP (setP P i.toNat (pad c)) r).length = _
        split at hf
        · cases hf
        · split at hf
          · cases hf2 : freshN (P.length + 1) r with
            | none => rw [hf2] at hf; cases hf
            | some f' =>
              rw [hf2] at hf
              injection hf with hf
              have hf : f' + 1 = f := hf
              rw [ih _ f' (by rw [setP_len, ← hf2]; congr 1; omega), setP_len]
              omega
          · rw [ih _ f (by rw [setP_len, ← hf]; congr 1; omega), setP_len]
            omega
    have := hl (chunks b) [] _ (fresh_chunks b)
    simpa using this

/-- The pages are written, the journal is gone. -/
theorem Roomy.settle {D : Dsk} {room k f : Nat} (h : Roomy D room k) {n : List UInt8} {ws : Pgs} (hj : (getF D.now (jnl n)).isSome = true) (hd : (getF D.now (drf n)).isSome = false) (hf : freshN (pagesF D.now n).length ws = some f) (hk : k + f ≤ room) (hl : ∀ p ∈ ws, p.2.length ≤ 512) :
    (settleD D n ws).2 = 0 ∧ Roomy (settleD D n ws).1 room (k + f - (pagesF D.now (jnl n)).length) ∧ (pagesF D.now (jnl n)).length ≤ k + f ∧ Bare (settleD D n ws).1 n ∧
      (∀ m, m ≠ jnl n → pagesF (settleD D n ws).1.now m = (if m = n then laidP (pagesF D.now n) ws else pagesF D.now m) ∧ (getF (settleD D n ws).1.now m).isSome = if m = n ∧ ws ≠ [] then true else (getF D.now m).isSome) := by
  obtain ⟨a1, a2, a3, a4⟩ := h.writes (n := n) ws hf hk hl
  have hs : (syncIf (Cd.writes D n ws).1 n).2 = 0 ∧ Roomy (syncIf (Cd.writes D n ws).1 n).1 room (k + f) ∧ (syncIf (Cd.writes D n ws).1 n).1.now = (Cd.writes D n ws).1.now := by
    unfold syncIf
    by_cases hh : (getF (Cd.writes D n ws).1.now n).isSome = true
    · rw [if_pos hh]; exact a2.sync hh
    · rw [if_neg hh]; exact ⟨rfl, a2, rfl⟩
  obtain ⟨b1, b2, b3⟩ := hs
  have e : settleD D n ws = removeD (syncIf (Cd.writes D n ws).1 n).1 (jnl n) := by
    unfold settleD
    simp only [ne_eq, a1, b1, not_true_eq_false, if_false]
  rw [e]
  have hjj : (getF (syncIf (Cd.writes D n ws).1 n).1.now (jnl n)).isSome = true := by rw [b3, a4, if_neg (fun h2 => jnl_ne n h2.1)]; exact hj
  obtain ⟨c1, c2, c3, c4⟩ := b2.removed hjj
  have hjp : pagesF (syncIf (Cd.writes D n ws).1 n).1.now (jnl n) = pagesF D.now (jnl n) := by rw [b3, a3, if_neg (jnl_ne n)]
  rw [hjp] at c2 c3
  refine ⟨c1, c2, c3, ⟨?_, ?_⟩, fun m hm => ?_⟩
  · rw [c4, if_neg (fun e => jnl_drf n e.symm), b3, a4, if_neg (fun h2 => drf_ne n h2.1)]; exact hd
  · rw [c4, if_pos rfl]; rfl
  · have := c4 m
    rw [if_neg hm, b3] at this
    exact ⟨by rw [pagesF_get this, a3], by rw [this, a4]⟩

/-- A commit: what it answers, and what it leaves. -/
theorem Roomy.commit {D : Dsk} {room k : Nat} (h : Roomy D room k) {n : List UInt8} (hb : Bare D n) (ws : Pgs) :
    ((commitD D n ws).2 ≠ 0 ∧ (commitD D n ws).1 = D) ∨ ∃ f, hasLong ws = false ∧ freshN (pagesF D.now n).length ws = some f ∧ (ws ≠ [] → k + pagesOf (recF ws).length + f ≤ room) ∧ (commitD D n ws).2 = 0 ∧ Roomy (commitD D n ws).1 room (k + f) ∧ Bare (commitD D n ws).1 n ∧
      (∀ m, m ≠ jnl n → m ≠ drf n → pagesF (commitD D n ws).1.now m = (if m = n then laidP (pagesF D.now n) ws else pagesF D.now m) ∧ (getF (commitD D n ws).1.now m).isSome = if m = n ∧ ws ≠ [] then true else (getF D.now m).isSome) := by
  unfold commitD
  rw [if_neg (by rw [h.off]; simp)]
  cases hl : hasLong ws
  · rw [if_neg (by simp)]
    cases hf : freshN (pagesF D.now n).length ws with
    | none => exact .inl ⟨by simp, rfl⟩
    | some f =>
      simp only
      by_cases hws : ws = []
      · subst hws
        injection hf with hf
        subst hf
        rw [if_pos rfl]
        refine .inr ⟨0, by first | rfl | trivial, rfl, fun h => absurd rfl h, rfl, h, hb, fun m _ _ => ⟨?_, by simp⟩⟩
        show pagesF D.now m = if m = n then pagesF D.now n else _
        split
        · rename_i e; rw [e]
        · rfl
      · rw [if_neg hws]
        by_cases hroom : freeD D < (pagesOf (recF ws).length + f : Nat)
        · rw [if_pos hroom]
          exact .inl ⟨by simp, rfl⟩
        · rw [if_neg hroom]
          have hfr := h.free
          have hle : k + pagesOf (recF ws).length + f ≤ room := by
            rw [hfr] at hroom
            omega
          obtain ⟨a1, a2, a3, a4, a5, a6⟩ := h.post hb (b := recF ws) (frm_pos _) (by omega)
          rw [if_neg (by rw [a1]; simp)]
          have hn := a3 n (fun e => jnl_ne n e.symm) (fun e => drf_ne n e.symm)
          obtain ⟨b1, b2, b3, b4, b5⟩ := a2.settle (n := n) (ws := ws) a5 a4 (by rw [hn.1]; exact hf) hle (hasLong_none hl)
          rw [a6] at b2 b3
          refine .inr ⟨f, by first | rfl | trivial, rfl, fun _ => hle, b1, ?_, b4, fun m m1 m2 => ?_⟩
          · rw [show k + f = k + pagesOf (recF ws).length + f - pagesOf (recF ws).length by omega]
            exact b2
          · obtain ⟨c1, c2⟩ := b5 m m1
            have hm := a3 m m1 m2
            rw [c1, c2, hn.1, hm.1, hm.2]
            exact ⟨rfl, rfl⟩
  · rw [if_pos rfl]
    exact .inl ⟨by simp, rfl⟩

end Go.Proofs.YtbaimgccepjdaaaGreatDoor.Cd

/-
  How many acts a commit takes; what a call that is OK leaves of the power. No Go in sight. Conditions: none.
-/
namespace Go.Proofs.YtbaimgccepjdaaaGreatDoor.Cd

theorem ends_ok {D D1 : Dsk} (h : (ends D D1 0).2 = 0) : ends D D1 0 = (D1, 0) := by
  unfold ends at h ⊢
  split
  · rename_i e; rw [if_pos e] at h; cases h
  · rfl
theorem write_ok {D : Dsk} {n b : List UInt8} {i : Int} (h : (writeD D n i b).2 = 0) : writeD D n i b = (wrote D n i.toNat b, 0) ∧ D.off = false ∧ b.length ≤ 512 ∧ 0 ≤ i ∧ i ≤ ((pagesF D.now n).length : Int) := by
  unfold writeD at h ⊢
  split at h
  · cases h
  · rename_i h1
    rw [if_neg h1]
    split at h
    · cases h
    · rename_i h2
      rw [if_neg h2]
      split at h
      · cases h
      · rename_i h3
        rw [if_neg h3]
        split at h
        · cases h
        · rename_i h4
          rw [if_neg h4]
          exact ⟨ends_ok h, by simpa using h1, by omega, by omega, by omega⟩
theorem may_is {D : Dsk} {n : List UInt8} (h : (mayD D n).2 = 0) : mayD D n = (actD D, 0) ∧ D.off = false ∧ (getF D.now n).isSome = true := by
  unfold mayD at h ⊢
  split at h
  · cases h
  · rename_i h1
    rw [if_neg h1]
    split at h
    · cases h
    · rename_i h2
      rw [if_neg h2]
      exact ⟨ends_ok h, by simpa using h1, by cases e : (getF D.now n).isSome; exact absurd e h2; rfl⟩
theorem sync_ok {D : Dsk} {n : List UInt8} (h : (syncD D n).2 = 0) : syncD D n = (syncs (actD D) n, 0) ∧ D.off = false ∧ (getF D.now n).isSome = true := by
  unfold syncD at h ⊢
  by_cases e : (mayD D n).2 = 0
  · obtain ⟨h1, h2, h3⟩ := may_is e
    rw [if_pos e, h1]
    exact ⟨rfl, h2, h3⟩
  · rw [if_neg e] at h; exact absurd h e
theorem remove_ok {D : Dsk} {n : List UInt8} (h : (removeD D n).2 = 0) : removeD D n = (removes (actD D) n, 0) ∧ D.off = false ∧ (getF D.now n).isSome = true := by
  unfold removeD at h ⊢
  by_cases e : (mayD D n).2 = 0
  · obtain ⟨h1, h2, h3⟩ := may_is e
    rw [if_pos e, h1]
    exact ⟨rfl, h2, h3⟩
  · rw [if_neg e] at h; exact absurd h e
theorem rename_ok {D : Dsk} {a b : List UInt8} (hne : a ≠ b) (h : (renameD D a b).2 = 0) : renameD D a b = (renames (actD D) a b, 0) ∧ D.off = false ∧ (getF D.now a).isSome = true := by
  unfold renameD at h ⊢
  by_cases e : (mayD D a).2 = 0
  · obtain ⟨h1, h2, h3⟩ := may_is e
    rw [if_pos ⟨e, hne⟩, h1]
    exact ⟨rfl, h2, h3⟩
  · rw [if_neg (fun h => e h.1)] at h; exact absurd h e

theorem writes_ok {n : List UInt8} (ws : Pgs) : ∀ {D : Dsk}, (writes D n ws).2 = 0 → (writes D n ws).1.acts = D.acts + ws.length ∧ (writes D n ws).1.off = D.off ∧ (ws ≠ [] → D.off = false) := by
  induction ws with
  | nil => intro D _; exact ⟨rfl, rfl, fun h => absurd rfl h⟩
  | cons p r ih =>
    intro D h
    rw [writes] at h ⊢
    by_cases e : (writeD D n p.1 p.2).2 = 0
    · rw [if_pos e] at h ⊢
      obtain ⟨h1, h2, _⟩ := write_ok e
      obtain ⟨q1, q2, _⟩ := ih h
      rw [h1] at q1 q2 ⊢
      have e1 : (wrote D n p.1.toNat p.2).acts = D.acts + 1 := rfl
      have e2 : (wrote D n p.1.toNat p.2).off = D.off := rfl
      rw [e1] at q1
      rw [e2] at q2
      exact ⟨by rw [q1, List.length_cons]; omega, q2, fun _ => h2⟩
    · rw [if_neg e] at h; exact absurd h e

theorem post_ok {D : Dsk} {n b : List UInt8} (h : (postD D n b).2 = 0) (hb : (getF D.now (drf n)).isSome = false) : (postD D n b).1.acts = D.acts + pagesOf b.length + 2 ∧ (postD D n b).1.off = false := by
  have hd : discardD D n = (D, 0) := by unfold discardD; rw [if_neg (by rw [hb]; simp)]
  unfold postD at h ⊢
  simp only [hd, ne_eq, not_true_eq_false, if_false] at h ⊢
  by_cases e1 : (writes D (drf n) (chunks b)).2 = 0
  · rw [if_neg (fun h => h e1)] at h ⊢
    obtain ⟨a1, a2, _⟩ := writes_ok _ e1
    by_cases e2 : (syncD (writes D (drf n) (chunks b)).1 (drf n)).2 = 0
    · rw [if_neg (fun h => h e2)] at h ⊢
      obtain ⟨b1, b2, _⟩ := sync_ok e2
      obtain ⟨c1, c2, _⟩ := rename_ok (fun e => jnl_drf n e.symm) h
      rw [c1]
      refine ⟨?_, c2⟩
      show (syncD (writes D (drf n) (chunks b)).1 (drf n)).1.acts + 1 = _
      rw [b1]
      show (writes D (drf n) (chunks b)).1.acts + 1 + 1 = _
      rw [a1, chunks_len]
    · rw [if_pos e2] at h; exact absurd h e2
  · rw [if_pos e1] at h; exact absurd h e1

theorem settle_ok {D : Dsk} {n : List UInt8} {ws : Pgs} (h : (settleD D n ws).2 = 0) (hn : (getF (writes D n ws).1.now n).isSome = true) : (settleD D n ws).1.acts = D.acts + ws.length + 2 ∧ (settleD D n ws).1.off = false := by
  unfold settleD at h ⊢
  by_cases e1 : (writes D n ws).2 = 0
  · rw [if_neg (fun h => h e1)] at h ⊢
    obtain ⟨a1, a2, _⟩ := writes_ok _ e1
    have hs : syncIf (writes D n ws).1 n = syncD (writes D n ws).1 n := by unfold syncIf; rw [if_pos hn]
    rw [hs] at h ⊢
    by_cases e2 : (syncD (writes D n ws).1 n).2 = 0
    · rw [if_neg (fun h => h e2)] at h ⊢
      obtain ⟨b1, b2, _⟩ := sync_ok e2
      obtain ⟨c1, c2, _⟩ := remove_ok h
      rw [c1]
      refine ⟨?_, c2⟩
      show (syncD (writes D n ws).1 n).1.acts + 1 = _
      rw [b1]
      show (writes D n ws).1.acts + 1 + 1 = _
      rw [a1]
    · rw [if_pos e2] at h; exact absurd h e2
  · rw [if_pos e1] at h; exact absurd h e1

/-- The file that is written is there. -/
theorem writes_is {n : List UInt8} (ws : Pgs) : ∀ {D : Dsk}, (writes D n ws).2 = 0 → ws ≠ [] → (getF (writes D n ws).1.now n).isSome = true := by
  have key : ∀ (ws : Pgs) {D : Dsk}, (writes D n ws).2 = 0 → (getF D.now n).isSome = true → (getF (writes D n ws).1.now n).isSome = true := by
    intro ws
    induction ws with
    | nil => intro D _ h; exact h
    | cons p r ih =>
      intro D h h2
      rw [writes] at h ⊢
      by_cases e : (writeD D n p.1 p.2).2 = 0
      · rw [if_pos e] at h ⊢
        refine ih h ?_
        rw [(write_ok e).1]
        show (getF (wrote D n _ _).now n).isSome = true
        rw [wrote_is, if_pos rfl]
      · rw [if_neg e] at h; exact absurd h e
  intro D h hne
  cases ws with
  | nil => exact absurd rfl hne
  | cons p r =>
    rw [writes] at h ⊢
    by_cases e : (writeD D n p.1 p.2).2 = 0
    · rw [if_pos e] at h ⊢
      refine key r h ?_
      rw [(write_ok e).1]
      show (getF (wrote D n _ _).now n).isSome = true
      rw [wrote_is, if_pos rfl]
    · rw [if_neg e] at h; exact absurd h e

/-- What is OK leaves the power on. -/
theorem post_on {D : Dsk} {n b : List UInt8} (h : (postD D n b).2 = 0) : (postD D n b).1.off = false := by
  unfold postD at h ⊢
  by_cases e0 : (discardD D n).2 = 0
  · rw [if_neg (fun h => h e0)] at h ⊢
    by_cases e1 : (writes (discardD D n).1 (drf n) (chunks b)).2 = 0
    · rw [if_neg (fun h => h e1)] at h ⊢
      by_cases e2 : (syncD (writes (discardD D n).1 (drf n) (chunks b)).1 (drf n)).2 = 0
      · rw [if_neg (fun h => h e2)] at h ⊢
        obtain ⟨c1, c2, _⟩ := rename_ok (fun e => jnl_drf n e.symm) h
        rw [c1]
        exact c2
      · rw [if_pos e2] at h; exact absurd h e2
    · rw [if_pos e1] at h; exact absurd h e1
  · rw [if_pos e0] at h; exact absurd h e0
/-- There are no more new pages than writes. -/
theorem laid_len' (ws : Pgs) : ∀ {c f : Nat}, freshN c ws = some f → f ≤ ws.length := by
  induction ws with
  | nil => intro c f h; injection h with h; omega
  | cons p r ih =>
    intro c f h
    rw [freshN] at h
    split at h
    · cases h
    · split at h
      · cases hr : freshN (c + 1) r with
        | none => rw [hr] at h; cases h
        | some g =>
          rw [hr] at h
          injection h with h
          have := ih hr
          have h : g + 1 = f := h
          rw [List.length_cons]
          omega
      · have := ih h
        rw [List.length_cons]
        omega

theorem commit_acts {D : Dsk} {n : List UInt8} {ws : Pgs} (hb : Bare D n) (hws : ws ≠ []) (h : (commitD D n ws).2 = 0) : (commitD D n ws).1.acts = D.acts + pagesOf (recF ws).length + ws.length + 4 := by
  unfold commitD at h ⊢
  split at h
  · cases h
  · rename_i h1
    rw [if_neg h1]
    split at h
    · cases h
    · rename_i h2
      rw [if_neg h2]
      cases hf : freshN (pagesF D.now n).length ws with
      | none => rw [hf] at h; cases h
      | some f =>
        rw [hf] at h
        simp only [if_neg hws] at h ⊢
        split at h
        · cases h
        · rename_i h3
          rw [if_neg h3]
          by_cases e : (postD D n (recF ws)).2 = 0
          · rw [if_neg (fun h => h e)] at h ⊢
            obtain ⟨a1, _⟩ := post_ok e hb.draft
            have hw : (writes (postD D n (recF ws)).1 n ws).2 = 0 := by
              unfold settleD at h
              by_cases e2 : (writes (postD D n (recF ws)).1 n ws).2 = 0
              · exact e2
              · rw [if_pos e2] at h; exact absurd h e2
            obtain ⟨b1, _⟩ := settle_ok h (writes_is ws hw hws)
            rw [b1, a1]
            omega
          · rw [if_pos e] at h; exact absurd h e

end Go.Proofs.YtbaimgccepjdaaaGreatDoor.Cd

/-
  A map of byte slices by number: as a function, and as a list of pages by rising numbers. Conditions: none.
-/
namespace Go.Proofs.YtbaimgccepjdaaaGreatDoor.Cd
open Go.RowKit Go.Maps

/-- A slice's value. -/
structure SlV where
  A : Option (Nat × Nat)
  n : Nat
  c : Nat

def SlV.val (s : SlV) : Value := .slice (s.A.map fun p => ⟨p.1, p.2, none⟩) s.n s.c
def SlV.dat (s : SlV) : DataW Unit := .agg [(match s.A with | none => .nil | some p => .agg [.lit (.int .i64 p.1), .lit (.int .i64 p.2)]), .lit (.int .i64 s.n), .lit (.int .i64 s.c)]
theorem SlV.dat_inj {s t : SlV} (h : s.dat = t.dat) : s = t := by
  obtain ⟨A, n, c⟩ := s
  obtain ⟨B, m, d⟩ := t
  simp only [SlV.dat, DataW.agg.injEq, List.cons.injEq, DataW.lit.injEq, Lit.int.injEq, true_and, and_true] at h
  obtain ⟨h1, h2, h3⟩ := h
  have h2 : n = m := by omega
  have h3 : c = d := by omega
  subst h2 h3
  cases A with
  | none =>
    cases B with
    | none => rfl
    | some q => cases h1
  | some p =>
    cases B with
    | none => cases h1
    | some q =>
      obtain ⟨a, b⟩ := p
      obtain ⟨a', b'⟩ := q
      simp only [DataW.agg.injEq, List.cons.injEq, DataW.lit.injEq, Lit.int.injEq, true_and, and_true] at h1
      have e1 : a = a' := by omega
      have e2 : b = b' := by omega
      rw [e1, e2]
def slR (v : Value) : Option (DataW Unit × List MemPlace) := match v with
  | .slice none n c => some ((⟨none, n, c⟩ : SlV).dat, [])
  | .slice (some ⟨b, o, none⟩) n c => some ((⟨some (b, o), n, c⟩ : SlV).dat, [])
  | _ => none
theorem slR_val (s : SlV) : slR s.val = some (s.dat, []) := by
  obtain ⟨A, n, c⟩ := s
  cases A with
  | none => rfl
  | some p => rfl
theorem slR_inv {u : Value} {x : DataW Unit × List MemPlace} (h : slR u = some x) : ∃ s : SlV, u = s.val ∧ x = (s.dat, []) := by
  unfold slR at h
  split at h
  · injection h with h
    exact ⟨⟨none, _, _⟩, rfl, h.symm⟩
  · injection h with h
    exact ⟨⟨some (_, _), _, _⟩, rfl, h.symm⟩
  · cases h

/-- map[int][]byte. -/
def bytK : MKind Int SlV where
  T := 36
  K := 3
  E := 44
  R := slR
  key := fun x => .int .i64 x
  ok := fun x => (Lit.int .i64 x).wf = true
  lit := fun x => .int .i64 x
  val := SlV.val
  okv := fun _ => True
  dat := SlV.dat
  z0 := ⟨none, 0, 0⟩
  law := int_keyed Tryz.underlying3
  under := Tryz.underlying36
  keyed := fun h => keyOf_int_mk Tryz.underlying3 h
  one := fun h => by injection h
  read := fun {v} _ => slR_val v
  inv := fun {u v ps} h => by
    obtain ⟨s, rfl, e⟩ := slR_inv h
    injection e with e1 e2
    rw [SlV.dat_inj e1]
    exact ⟨rfl, trivial⟩
  okz := trivial
  zero := fun w => Tryz.zeroValue44 w

theorem byt_look {w : World} {b n : Nat} {x : Int} {q : Int → Option SlV} {v : Value} (h : MapF bytK w b n q) (hx : (Lit.int .i64 x).wf = true) (hv : ((q x).getD ⟨none, 0, 0⟩).val = v) :
    (Instr.lookup 36 (.map (some b)) (.int .i64 x) false).run Tryz.prog w = .ok v w := by
  rw [← hv]
  exact h.look (x := x) hx

/-- Rising numbers, as they can be. -/
structure Rising (ws : Pgs) : Prop where
  up : ws.Pairwise fun a b => a.1 < b.1
  wf : ∀ p ∈ ws, (Lit.int .i64 p.1).wf = true
theorem Rising.nodup {ws : Pgs} (h : Rising ws) : (ws.map Prod.fst).Nodup := List.pairwise_map.2 (h.up.imp fun h e => by rw [e] at h; omega)
theorem Rising.sorted {ws : Pgs} (h : Rising ws) : (ws.map Prod.fst).Pairwise (fun a b => a ≤ b) := List.pairwise_map.2 (h.up.imp fun h => by omega)

/-- A slice of bytes that lies in no block of S. -/
def Far (w : World) (S : Nat → Prop) (v : Value) (bs : List UInt8) : Prop := Sl w w.heap.size v bs ∧ (0 < bs.length → ∀ A n c, v = .slice (some A) n c → ¬ S A.block)

theorem Far.apart {w w' : World} {S : Nat → Prop} {v : Value} {bs : List UInt8} (h : Far w S v bs) (ha : Apart S w w') : Far w' (since S w w') v bs := by
  obtain ⟨⟨A, c, h1, h2, h3, h4, h5, h6⟩, h7⟩ := h
  refine ⟨⟨A, c, h1, h2, h3, h4, fun ad e h0 => by have := h5 ad e h0; have := ha.size; omega, fun ad e j u hu => ?_⟩, fun h0 A' n c' e hs => ?_⟩
  · have hj : j < bs.length := by have := (List.getElem?_eq_some_iff.1 hu).1; rwa [vb_length] at this
    rw [ha.cell (p := ad.add j) (by rw [block_of_add]; exact h5 ad e (by omega)) (by rw [block_of_add]; rw [e] at h1; exact h7 (by omega) ad _ _ h1)]
    exact h6 ad e j u hu
  · rw [h1] at e
    injection e with e _ _
    rcases hs with hs | hs
    · rw [e] at h1; exact h7 h0 A' _ _ h1 hs
    · have := h5 A' e h0; omega
theorem Far.below {w w' : World} {S : Nat → Prop} {v : Value} {bs : List UInt8} (h : Far w S v bs) (hb : Below w.heap.size w w') : Far w' S v bs := ⟨(h.1.below hb).more hb.size, h.2⟩
theorem Far.less {w : World} {S T : Nat → Prop} {v : Value} {bs : List UInt8} (h : Far w S v bs) (hst : ∀ k, k < w.heap.size → T k → S k) : Far w T v bs := by
  refine ⟨h.1, fun h0 A n c e ht => h.2 h0 A n c e (hst _ ?_ ht)⟩
  obtain ⟨⟨A', c', h1, _, _, _, h5, _⟩, _⟩ := h
  rw [h1] at e
  injection e with e _ _
  exact h5 A e h0

/-- Block b is a map of these pages; neither it nor their bytes lie in S. -/
def PgMap (w : World) (S : Nat → Prop) (b : Nat) (ws : Pgs) : Prop :=
  ¬ S b ∧ Rising ws ∧ ∃ q, MapF bytK w b ws.length q ∧ (∀ x, bytK.ok x → (q x).isSome = true → ∃ p ∈ ws, p.1 = x) ∧ ∀ p ∈ ws, ∃ s : SlV, q p.1 = some s ∧ Far w S s.val p.2

section
variable {w w' : World} {S T : Nat → Prop} {b : Nat} {ws : Pgs}
theorem PgMap.rising (h : PgMap w S b ws) : Rising ws := h.2.1
theorem PgMap.lt (h : PgMap w S b ws) : b < w.heap.size := by obtain ⟨_, _, q, h1, _⟩ := h; exact h1.lt
theorem PgMap.apart (h : PgMap w S b ws) (ha : Apart S w w') : PgMap w' (since S w w') b ws := by
  have hlt := h.lt
  obtain ⟨h1, h2, q, h3, h4, h5⟩ := h
  refine ⟨fun e => e.elim h1 (fun e => by omega), h2, q, h3.apart ha h1, h4, fun p hp => ?_⟩
  obtain ⟨s, hs, hf⟩ := h5 p hp
  exact ⟨s, hs, hf.apart ha⟩
theorem PgMap.below (h : PgMap w S b ws) (hb : Below w.heap.size w w') : PgMap w' S b ws := by
  have hlt := h.lt
  obtain ⟨h1, h2, q, h3, h4, h5⟩ := h
  refine ⟨h1, h2, q, h3.below hb hlt, h4, fun p hp => ?_⟩
  obtain ⟨s, hs, hf⟩ := h5 p hp
  exact ⟨s, hs, hf.below hb⟩
theorem PgMap.less (h : PgMap w S b ws) (hst : ∀ k, k < w.heap.size → T k → S k) : PgMap w T b ws := by
  have hlt := h.lt
  obtain ⟨h1, h2, q, h3, h4, h5⟩ := h
  refine ⟨fun e => h1 (hst _ hlt e), h2, q, h3, h4, fun p hp => ?_⟩
  obtain ⟨s, hs, hf⟩ := h5 p hp
  exact ⟨s, hs, hf.less hst⟩
/-- The page of a number. -/
theorem PgMap.look (h : PgMap w S b ws) {k : Nat} (hk : k < ws.length) : ∃ v, (Instr.lookup 36 (.map (some b)) (.int .i64 ws[k].1) false).run Tryz.prog w = .ok v w ∧ Far w S v ws[k].2 := by
  obtain ⟨_, h2, q, h3, _, h5⟩ := h
  obtain ⟨s, hs, hf⟩ := h5 ws[k] (List.getElem_mem hk)
  exact ⟨s.val, byt_look h3 (h2.wf _ (List.getElem_mem hk)) (by rw [hs]; rfl), hf⟩
theorem PgMap.len (h : PgMap w S b ws) (ty : TypeId) : (Builtin.len_ #[36] ty #[.map (some b)]).run Tryz.prog w = .ok (.int .i64 ws.length) w := by
  obtain ⟨_, _, q, h3, _⟩ := h
  exact MapF.len h3 ty
/-- An empty map that was made a moment ago. -/
theorem PgMap.made (w : World) (S : Nat → Prop) (hS : ¬ S w.heap.size) : PgMap (w.alloc (.map #[] 0)) S w.heap.size [] :=
  ⟨hS, ⟨List.Pairwise.nil, by simp⟩, _, MapF.made bytK w, (fun x _ h => by cases h), by simp⟩
end

/-- The keys of a map of numbers: no key twice, each one that the map has. -/
theorem intKeys_of {w : World} {b n : Nat} {D : DataW Unit} (hown : w.ownsMap Tryz.prog bytK.K bytK.R b n D) : (intKeys D).Nodup ∧ (∀ x, (Lit.int .i64 x).wf = true → (x ∈ intKeys D ↔ has D (.int .i64 x) = true)) ∧ ∀ x ∈ intKeys D, (Lit.int .i64 x).wf = true := by
  obtain ⟨es, hD, hpw, _⟩ := hown.entries bytK.law
  obtain ⟨es', hD', hko⟩ := hown.keysOf
  obtain rfl : es = es' := by rw [hD] at hD'; simpa using hD'
  subst hD
  have hk : ∀ p ∈ es, ∃ x, p.1 = .int .i64 x ∧ (Lit.int .i64 x).wf = true := fun p hp => by
    obtain ⟨v, hv⟩ := hko p hp
    obtain ⟨x, _, hx, hw⟩ := Maps.keyOf_int_inv Tryz.underlying3 hv
    exact ⟨x, hx, hw⟩
  refine ⟨?_, fun x hx => ?_, fun x hx => ?_⟩
  · show (es.map fun p => Go.intOf p.1).Nodup
    refine List.pairwise_map.2 (hpw.imp_of_mem fun {p q} hp' hq' hne e => hne ?_)
    obtain ⟨a, ha, _⟩ := hk p hp'
    obtain ⟨b, hb, _⟩ := hk q hq'
    rw [ha, hb] at e ⊢
    exact congrArg _ e
  · rw [has_eq, List.any_eq_true]
    show x ∈ (es.map fun p => Go.intOf p.1) ↔ _
    rw [List.mem_map]
    constructor
    · rintro ⟨p, hp', rfl⟩
      obtain ⟨a, ha, _⟩ := hk p hp'
      exact ⟨p, hp', by rw [ha]; simp [Lit.sameKey, Go.intOf]⟩
    · rintro ⟨p, hp', hs⟩
      obtain ⟨a, ha, _⟩ := hk p hp'
      rw [ha] at hs
      exact ⟨p, hp', by rw [ha]; simpa [Lit.sameKey, Go.intOf] using hs⟩
  · obtain ⟨p, hp', rfl⟩ := List.mem_map.1 (show x ∈ es.map fun p => Go.intOf p.1 from hx)
    obtain ⟨a, ha, hw⟩ := hk p hp'
    rw [ha]
    exact hw

/-- What the keys are, sorted. -/
theorem PgMap.keys {w : World} {S : Nat → Prop} {b : Nat} {ws : Pgs} (h : PgMap w S b ws) :
    ∃ D : DataW Unit, w.ownsMap Tryz.prog bytK.K bytK.R b ws.length D ∧ Maps.size D = ws.length ∧ ∀ ss : List Int, ss.Perm (intKeys D) → ss.mergeSort (fun x y => decide (x ≤ y)) = ws.map Prod.fst ∧ ss.length = ws.length := by
  obtain ⟨_, h2, q, ⟨D, h3, hsz, hat⟩, h4, h5⟩ := h
  obtain ⟨k1, k2, k3⟩ := intKeys_of h3
  refine ⟨D, h3, hsz, fun ss hS => ?_⟩
  have hp : (ws.map Prod.fst).Perm (intKeys D) := by
    refine (List.perm_ext_iff_of_nodup h2.nodup k1).2 fun x => ?_
    constructor
    · intro hx
      obtain ⟨p, hp, rfl⟩ := List.mem_map.1 hx
      obtain ⟨s, hs, _⟩ := h5 p hp
      have hwf := h2.wf p hp
      rw [k2 _ hwf]
      have := MapF.has (M := bytK) (hat p.1 hwf)
      rw [hs] at this
      exact this
    · intro hx
      have hwf := k3 x hx
      have hh := (k2 x hwf).1 hx
      have := MapF.has (M := bytK) (hat x hwf)
      obtain ⟨p, hp, rfl⟩ := h4 x hwf (by rw [← this]; exact hh)
      exact List.mem_map.2 ⟨p, hp, rfl⟩
  have hss := (List.mergeSort_perm ss (fun x y => decide (x ≤ y))).trans (hS.trans hp.symm)
  have tr : ∀ a b c : Int, decide (a ≤ b) = true → decide (b ≤ c) = true → decide (a ≤ c) = true := fun a b c h1 h2 => by simp only [decide_eq_true_eq] at *; omega
  have tot : ∀ a b : Int, (decide (a ≤ b) || decide (b ≤ a)) = true := fun a b => by simp only [Bool.or_eq_true, decide_eq_true_eq]; omega
  refine ⟨List.Perm.eq_of_pairwise (le := fun a b => a ≤ b) (fun a b _ _ h1 h2 => by omega) ((List.pairwise_mergeSort tr tot ss).imp (fun h => by simpa using h)) h2.sorted hss, ?_⟩
  have := hss.length_eq
  rw [List.length_mergeSort, List.length_map] at this
  exact this

end Go.Proofs.YtbaimgccepjdaaaGreatDoor.Cd

/-
  A pager: where it lies; what is asked of it. Conditions: none.
-/
namespace Go.Proofs.YtbaimgccepjdaaaGreatDoor.Cd
open Go.RowKit

/-- The pager of the file n, on the disk at g, lies at p, in no block of S. -/
def PgrAt (w : World) (S : Nat → Prop) (p g : Nat) (n : List UInt8) : Prop :=
  ¬ S p ∧ p < w.heap.size ∧ w.cell? ⟨p, 0, none⟩ = some (.pointer (some ⟨g, 0, none⟩)) ∧ w.cell? ⟨p, 1, none⟩ = some (.string ⟨n.toArray⟩)

section
variable {w w' : World} {S T : Nat → Prop} {p g : Nat} {n : List UInt8}
theorem PgrAt.apart (h : PgrAt w S p g n) (ha : Apart S w w') : PgrAt w' (since S w w') p g n :=
  ⟨fun e => e.elim h.1 (fun e => by have := h.2.1; omega), Nat.lt_of_lt_of_le h.2.1 ha.size, (ha.cell (p := ⟨p, 0, none⟩) h.2.1 h.1).trans h.2.2.1, (ha.cell (p := ⟨p, 1, none⟩) h.2.1 h.1).trans h.2.2.2⟩
theorem PgrAt.below (h : PgrAt w S p g n) (hb : Below w.heap.size w w') : PgrAt w' S p g n :=
  ⟨h.1, Nat.lt_of_lt_of_le h.2.1 hb.size, (hb.cell (p := ⟨p, 0, none⟩) h.2.1).trans h.2.2.1, (hb.cell (p := ⟨p, 1, none⟩) h.2.1).trans h.2.2.2⟩
theorem PgrAt.less (h : PgrAt w S p g n) (hst : ∀ k, k < w.heap.size → T k → S k) : PgrAt w T p g n := ⟨fun e => h.1 (hst _ h.2.1 e), h.2.1, h.2.2.1, h.2.2.2⟩
end

/-- A name with something short behind it. -/
def Named (n : List UInt8) : Prop := n.length ≤ 140737488355000

theorem draft_any (p g : Nat) (n : List UInt8) (S : Nat → Prop) (w : World) (h : PgrAt w S p g n) (hn : n.length ≤ 140737488355000) :
    Calls Tryz.prog 80 #[.pointer (some ⟨p, 0, none⟩)] w (fun e w' => e = .returned (.string ⟨(drf n).toArray⟩) ∧ w' = w) := by
  obtain ⟨_, _, c0, c1⟩ := h
  have ha := add_text w n [45, 116] (by simp; omega)
  go_enter Tryz.func80, Tryz.ntmps80
  go_wp2_with fail
  go_ret
  exact ⟨rfl, rfl⟩
theorem journal_any (p g : Nat) (n : List UInt8) (S : Nat → Prop) (w : World) (h : PgrAt w S p g n) (hn : n.length ≤ 140737488355000) :
    Calls Tryz.prog 82 #[.pointer (some ⟨p, 0, none⟩)] w (fun e w' => e = .returned (.string ⟨(jnl n).toArray⟩) ∧ w' = w) := by
  obtain ⟨_, _, c0, c1⟩ := h
  have ha := add_text w n [45, 106] (by simp; omega)
  go_enter Tryz.func82, Tryz.ntmps82
  go_wp2_with fail
  go_ret
  exact ⟨rfl, rfl⟩

/-- Why nothing can be done, if so. -/
def errD (D : Dsk) : Nat := if D.off = true then 8 else 0
theorem ready_p (p g N : Nat) (n : List UInt8) (S : Nat → Prop) (D : Dsk) (w : World) (h : PgrAt w S p g n) (hd : DkS w g N S D) :
    Calls Tryz.prog 47 #[.pointer (some ⟨p, 0, none⟩)] w (fun e w' => e = .returned (.int .i64 (errD D)) ∧ w' = w) := by
  obtain ⟨_, _, c0, c1⟩ := h
  have HD := Lib.hid (down_dks g N S D w hd)
  clear hd
  cases ho : D.off
  · have he : errD D = 0 := by unfold errD; rw [ho]; rfl
    rw [ho] at HD
    rw [he]
    go_enter Tryz.func47, Tryz.ntmps47
    go_wp2_with (go_at_call 22; refine HD.out.mono ?_; rintro e w' ⟨rfl, rfl⟩)
    go_ret
    exact ⟨rfl, rfl⟩
  · have he : errD D = 8 := by unfold errD; rw [ho]; rfl
    rw [ho] at HD
    rw [he]
    go_enter Tryz.func47, Tryz.ntmps47
    go_wp2_with (go_at_call 22; refine HD.out.mono ?_; rintro e w' ⟨rfl, rfl⟩)
    go_ret
    exact ⟨rfl, rfl⟩

set_option maxHeartbeats 800000 in
theorem count_p (p g N : Nat) (n : List UInt8) (S : Nat → Prop) (D : Dsk) (w : World) (h : PgrAt w S p g n) (hd : DkS w g N S D) (ho : D.off = false) (hn : n.length ≤ 140737488355000) :
    Calls Tryz.prog 20 #[.pointer (some ⟨p, 0, none⟩)] w (Says (.int .i64 ((pagesF D.now n).length : Nat)) w) := by
  obtain ⟨_, _, c0, c1⟩ := h
  have HD := Lib.hid (hd.below (w' := w.drew) (Below.refl _ _).drew)
  clear hd
  go_enter Tryz.func20, Tryz.ntmps20
  go_wp2_with fail
  go_region_held3 (fun W => W.cell? ⟨p, 0, none⟩ = some (.pointer (some ⟨g, 0, none⟩)) ∧ W.cell? ⟨p, 1, none⟩ = some (.string ⟨n.toArray⟩)) (first | exact ⟨c0, c1⟩ | (constructor <;> assumption)) (first
    | (go_at_call 57; refine (count_dks g N S D n _ HD.out ho (by omega)).mono ?_; rintro e w' ⟨rfl, rfl⟩))
  all_goals go_wp2_with fail
  all_goals go_ret
  all_goals exact ⟨rfl, (Below.refl _ _).drew⟩

end Go.Proofs.YtbaimgccepjdaaaGreatDoor.Cd

/-
  A map of pages that is being filled: one page more, as the walk meets it. Conditions: fewer than maxLen pages.
-/
namespace Go.Proofs.YtbaimgccepjdaaaGreatDoor.Cd
open Go.RowKit Go.Maps

/-- The pages with one of them put, by rising numbers. -/
def insP : Pgs → Int → List UInt8 → Pgs
  | [], x, b => [(x, b)]
  | p :: r, x, b => if x < p.1 then (x, b) :: p :: r else if x = p.1 then (x, b) :: r else p :: insP r x b

theorem ins_mem {x : Int} {b : List UInt8} : ∀ {ws : Pgs}, (ws.Pairwise fun a b => a.1 < b.1) → ∀ q, q ∈ insP ws x b ↔ q = (x, b) ∨ (q ∈ ws ∧ q.1 ≠ x)
  | [], _, q => by simp [insP]
  | p :: r, h, q => by
    obtain ⟨h1, h2⟩ := List.pairwise_cons.1 h
    unfold insP
    split
    · rename_i hlt
      simp only [List.mem_cons]
      constructor
      · rintro (h | h | h)
        · exact .inl h
        · subst h; exact .inr ⟨.inl rfl, by omega⟩
        · exact .inr ⟨.inr h, by have := h1 q h; omega⟩
      · rintro (h | ⟨h, _⟩)
        · exact .inl h
        · exact .inr h
    · split
      · rename_i hge heq
        simp only [List.mem_cons]
        constructor
        · rintro (h | h)
          · exact .inl h
          · exact .inr ⟨.inr h, by have := h1 q h; omega⟩
        · rintro (h | ⟨h | h, hne⟩)
          · exact .inl h
          · subst h; omega
          · exact .inr h
      · rename_i hge hne
        simp only [List.mem_cons, ins_mem h2]
        constructor
        · rintro (h | h | ⟨h, hn⟩)
          · subst h; exact .inr ⟨.inl rfl, by omega⟩
          · exact .inl h
          · exact .inr ⟨.inr h, hn⟩
        · rintro (h | ⟨h | h, hn⟩)
          · exact .inr (.inl h)
          · exact .inl h
          · exact .inr (.inr ⟨h, hn⟩)

theorem ins_up {x : Int} {b : List UInt8} : ∀ {ws : Pgs}, (ws.Pairwise fun a b => a.1 < b.1) → (insP ws x b).Pairwise fun a b => a.1 < b.1
  | [], _ => by simp [insP]
  | p :: r, h => by
    obtain ⟨h1, h2⟩ := List.pairwise_cons.1 h
    unfold insP
    split
    · rename_i hlt
      refine List.pairwise_cons.2 ⟨fun q hq => ?_, h⟩
      rcases List.mem_cons.1 hq with rfl | hq
      · exact hlt
      · have := h1 q hq; exact Int.lt_trans hlt this
    · split
      · rename_i hge heq
        refine List.pairwise_cons.2 ⟨fun q hq => ?_, h2⟩
        have := h1 q hq
        show x < q.1
        omega
      · rename_i hge hne
        refine List.pairwise_cons.2 ⟨fun q hq => ?_, ins_up h2⟩
        rcases (ins_mem h2 q).1 hq with rfl | ⟨hq, _⟩
        · show p.1 < x
          omega
        · exact h1 q hq

theorem ins_len {x : Int} {b : List UInt8} : ∀ {ws : Pgs}, (ws.Pairwise fun a b => a.1 < b.1) → (insP ws x b).length = ws.length + if (∃ p ∈ ws, p.1 = x) then 0 else 1
  | [], _ => by simp [insP]
  | p :: r, h => by
    obtain ⟨h1, h2⟩ := List.pairwise_cons.1 h
    unfold insP
    split
    · rename_i hlt
      rw [if_neg (by
        rintro ⟨q, hq, e⟩
        rcases List.mem_cons.1 hq with rfl | hq
        · omega
        · have := h1 q hq; omega)]
      simp
    · split
      · rename_i hge heq
        rw [if_pos ⟨p, by simp, heq.symm⟩]
        simp
      · rename_i hge hne
        simp only [List.length_cons]
        rw [ins_len h2]
        by_cases hp : ∃ q ∈ r, q.1 = x
        · rw [if_pos hp, if_pos (by obtain ⟨q, h1, h2⟩ := hp; exact ⟨q, by simp [h1], h2⟩)]
        · rw [if_neg hp, if_neg (by
            rintro ⟨q, hq, e⟩
            rcases List.mem_cons.1 hq with rfl | hq
            · exact hne e.symm
            · exact hp ⟨q, hq, e⟩)]

theorem Rising.ins {ws : Pgs} (h : Rising ws) {x : Int} (hx : (Lit.int .i64 x).wf = true) (b : List UInt8) : Rising (insP ws x b) :=
  ⟨ins_up h.up, fun p hp => by
    rcases (ins_mem h.up p).1 hp with rfl | ⟨hp, _⟩
    · exact hx
    · exact h.wf p hp⟩

section
variable {w w' : World} {S : Nat → Prop} {b : Nat} {ws : Pgs} {v : Value} {bs : List UInt8}

/-- Bytes lie in no map's block. -/
theorem Far.turned (h : Far w S v bs) (hg : w.grownBy w' (some b)) (hb : ∀ j s, w.cell? ⟨b, j, s⟩ = none) : Far w' S v bs := by
  obtain ⟨⟨A, c, h1, h2, h3, h4, h5, h6⟩, h7⟩ := h
  refine ⟨⟨A, c, h1, h2, h3, h4, fun ad e h0 => by have := h5 ad e h0; have := hg.size; omega, fun ad e j u hu => ?_⟩, h7⟩
  have hj : j < bs.length := by have := (List.getElem?_eq_some_iff.1 hu).1; rwa [vb_length] at this
  have hold := h6 ad e j u hu
  have hne : some (ad.add j).block ≠ some b := fun e' => by
    injection e' with e'
    have := hb (ad.add j).off (ad.add j).spot
    rw [← e'] at this
    rw [this] at hold
    cases hold
  rw [World.cell?_of_block (hg.block _ (by rw [block_of_add]; exact h5 ad e (by omega)) hne)]
  exact hold

theorem MapF.none {κ ν : Type} {M : MKind κ ν} {n : Nat} {q : κ → Option ν} (h : MapF M w b n q) (j : Nat) (s) : w.cell? ⟨b, j, s⟩ = none := by
  obtain ⟨D, ⟨es, cl, h1, _⟩, _⟩ := h
  have h1 : w.heap[b]? = some (.map es cl) := h1
  unfold World.cell?
  simp only [h1]

theorem PgMap.none (h : PgMap w S b ws) (j : Nat) (s) : w.cell? ⟨b, j, s⟩ = none := by
  obtain ⟨_, _, q, h1, _⟩ := h
  exact MapF.none h1 j s

theorem PgMap.put (h : PgMap w S b ws) (hn : ws.length < maxLen) {x : Int} (hx : (Lit.int .i64 x).wf = true) (s : SlV) {bs : List UInt8} (hs : Far w S s.val bs) :
    ∃ w', (Instr.mapUpdate 36 (.map (some b)) (.int .i64 x) s.val).run Tryz.prog w = .ok () w' ∧ PgMap w' S b (insP ws x bs) ∧ w.mapTurned w' b := by
  obtain ⟨h1, h2, q, h3, h4, h5⟩ := h
  obtain ⟨w', r1, r2, r3⟩ := h3.store (x := x) hn hx (v := s) trivial
  have hg := r3.grown
  have hnone := MapF.none h3
  refine ⟨w', r1, ⟨h1, h2.ins hx bs, upd q x (some s), ?_, fun y hy hs => ?_, fun p hp => ?_⟩, r3⟩
  · rw [ins_len h2.up]
    by_cases hp : ∃ p ∈ ws, p.1 = x
    · obtain ⟨p, hp1, hp2⟩ := hp
      obtain ⟨s', hs', _⟩ := h5 p hp1
      rw [hp2] at hs'
      rw [hs', show (if (some s').isSome = true then 0 else 1) = 0 from rfl] at r2
      rw [if_pos ⟨p, hp1, hp2⟩]
      exact r2
    · rw [if_neg (fun e => hp (h4 x hx e))] at r2
      rw [if_neg hp]
      exact r2
  · by_cases e : y = x
    · exact ⟨(x, bs), (ins_mem h2.up _).2 (.inl rfl), e.symm⟩
    · unfold upd at hs
      rw [if_neg e] at hs
      obtain ⟨p, hp1, hp2⟩ := h4 y hy hs
      exact ⟨p, (ins_mem h2.up _).2 (.inr ⟨hp1, by rw [hp2]; exact e⟩), hp2⟩
  · rcases (ins_mem h2.up p).1 hp with rfl | ⟨hp1, hp2⟩
    · exact ⟨s, by unfold upd; rw [if_pos rfl], hs.turned hg hnone⟩
    · obtain ⟨s', hs', hf⟩ := h5 p hp1
      exact ⟨s', by unfold upd; rw [if_neg hp2]; exact hs', hf.turned hg hnone⟩

variable {ops : Array Oper} {rest : List Oper} {o : Oper} {a : Act} {Q : Exit → Act → World → Prop}

theorem wp_put (hgd : o.guard = .none) (m x v : Operand) (hop : o.op = Op.mapUpdate 36 m x v ∨ o.op = Op.insert 36 m x v) (b : Nat) (ws : Pgs) (S : Nat → Prop) (hm : a.eval m = .map (some b)) (h : PgMap w S b ws) (hn : ws.length < maxLen)
    (k : Int) (hx : a.eval x = .int .i64 k) (hk : (Lit.int .i64 k).wf = true) (s : SlV) (hv : a.eval v = s.val) (bs : List UInt8) (hs : Far w S s.val bs)
    (hK : ∀ w', PgMap w' S b (insP ws k bs) → w.grownBy w' (some b) → wpList Tryz.prog ops Q rest (a.put o.dst undef) w') : wpList Tryz.prog ops Q (o :: rest) a w := by
  obtain ⟨w', hrun, r1, r2⟩ := h.put hn hk s hs
  rcases hop with hop | hop
  · refine wpList_plain hgd fun K' hK' => ?_
    unfold Oper.wp
    simp [execOp, hop, hm, hx, hv, hrun, Result.andThen]
    exact hK' _ _ (hK w' r1 r2.grown)
  · refine wpList_plain hgd fun K' hK' => ?_
    unfold Oper.wp
    simp [execOp, hop, hm, hx, hv, hrun, Result.andThen]
    exact hK' _ _ (hK w' r1 r2.grown)
end

end Go.Proofs.YtbaimgccepjdaaaGreatDoor.Cd

/-
  What a commit answers, with the power on and no end of it in sight. Conditions: none.
-/
namespace Go.Proofs.YtbaimgccepjdaaaGreatDoor.Cd
open Go.RowKit

/-- What a commit must answer, where c pages are and so many are free. -/
def wantsD (c : Nat) (free : Int) (ws : Pgs) : Nat :=
  if hasLong ws = true then 3 else
  match freshN c ws with
  | none => 1
  | some f => if ws = [] then 0 else if free < (pagesOf (recF ws).length + f : Nat) then 7 else 0

theorem Roomy.answers {D : Dsk} {room k : Nat} (h : Roomy D room k) {n : List UInt8} (hb : Bare D n) (ws : Pgs) : (commitD D n ws).2 = wantsD (pagesF D.now n).length (freeD D) ws := by
  unfold commitD wantsD
  rw [if_neg (by rw [h.off]; simp)]
  cases hl : hasLong ws
  · simp only [Bool.false_eq_true, if_false]
    cases hf : freshN (pagesF D.now n).length ws with
    | none => rfl
    | some f =>
      simp only
      by_cases hws : ws = []
      · rw [if_pos hws, if_pos hws]
      · rw [if_neg hws, if_neg hws]
        by_cases hroom : freeD D < (pagesOf (recF ws).length + f : Nat)
        · rw [if_pos hroom, if_pos hroom]
        · rw [if_neg hroom, if_neg hroom]
          have hfr := h.free
          have hle : k + pagesOf (recF ws).length + f ≤ room := by
            rw [hfr] at hroom
            omega
          obtain ⟨a1, a2, a3, a4, a5, a6⟩ := h.post hb (b := recF ws) (frm_pos _) (by omega)
          rw [if_neg (by rw [a1]; simp)]
          have hn := a3 n (fun e => jnl_ne n e.symm) (fun e => drf_ne n e.symm)
          exact (a2.settle (n := n) (ws := ws) a5 a4 (by rw [hn.1]; exact hf) hle (hasLong_none hl)).1
  · rw [if_pos rfl, if_pos rfl]

/-- A commit that must be OK. -/
theorem Roomy.done {D : Dsk} {room k : Nat} (h : Roomy D room k) {n : List UInt8} (hb : Bare D n) (ws : Pgs) (hz : (commitD D n ws).2 = 0) :
    ∃ f, freshN (pagesF D.now n).length ws = some f ∧ Roomy (commitD D n ws).1 room (k + f) ∧ Bare (commitD D n ws).1 n ∧
      ∀ m, m ≠ jnl n → m ≠ drf n → pagesF (commitD D n ws).1.now m = (if m = n then laidP (pagesF D.now n) ws else pagesF D.now m) ∧ (getF (commitD D n ws).1.now m).isSome = if m = n ∧ ws ≠ [] then true else (getF D.now m).isSome := by
  rcases h.commit hb ws with ⟨h1, _⟩ | ⟨f, _, h2, _, _, h3, h4, h5⟩
  · exact absurd hz h1
  · exact ⟨f, h2, h3, h4, h5⟩

theorem bare_new (room : Int) (n : List UInt8) : Bare (newD room) n := ⟨rfl, rfl⟩

/-! ### The law's own example -/

def wsA : Pgs := [(0, noughts 512), (1, noughts 512)]
theorem wsA_put : insP (insP [] 0 (noughts 512)) 1 (noughts 512) = wsA := by simp [insP, wsA]
theorem roomyA : Roomy (newD 20) 20 0 := new_roomy (room := 20) (by omega)
theorem wsA_len : (recT wsA).length = 1031 := by
  simp only [recT, wsA, List.length_append, List.map_cons, List.map_nil, List.flatten_cons, List.flatten_nil, recP, noughts_len, List.length_nil, List.length_cons]
  decide +kernel
theorem wsA_pages : pagesOf (recF wsA).length = 3 := by
  have h1 := frm_ge (recT wsA)
  have h2 := frm_le (recT wsA) (by rw [wsA_len]; omega)
  rw [wsA_len] at h1 h2
  unfold recF pagesOf
  omega
theorem wsA_ok : (commitD (newD 20) [102] wsA).2 = 0 := by
  rw [roomyA.answers (bare_new _ _)]
  unfold wantsD
  rw [if_neg (by simp [hasLong, wsA, noughts_len])]
  rw [show freshN (pagesF (newD 20).now [102]).length wsA = some 2 from by rfl]
  simp only
  rw [if_neg (by simp [wsA]), wsA_pages]
  rw [if_neg (by rw [roomyA.free]; omega)]
theorem wsA_acts : (commitD (newD 20) [102] wsA).1.acts = 9 := by
  rw [commit_acts (bare_new _ _) (by simp [wsA]) wsA_ok, wsA_pages]
  rfl
theorem wsA_laid : (laidP (pagesF (newD 20).now [102]) wsA).length = 2 := by
  show (setP (setP [] 0 (pad (noughts 512))) 1 (pad (noughts 512))).length = 2
  generalize pad (noughts 512) = z
  rfl
theorem wsA_count : (pagesF (commitD (newD 20) [102] wsA).1.now [102]).length = 2 := by
  obtain ⟨f, _, _, _, h⟩ := roomyA.done (bare_new _ [102]) wsA wsA_ok
  rw [(h [102] (by decide) (by decide)).1, if_pos rfl]
  exact wsA_laid
theorem wsA_on : (commitD (newD 20) [102] wsA).1.off = false := by
  obtain ⟨f, _, h, _⟩ := roomyA.done (bare_new _ [102]) wsA wsA_ok
  exact h.off

end Go.Proofs.YtbaimgccepjdaaaGreatDoor.Cd

/-
  A pager: Read; a draft that is thrown away; how calls on its disk go on, one behind the other. Conditions: none.
-/
namespace Go.Proofs.YtbaimgccepjdaaaGreatDoor.Cd
open Go.RowKit

section
variable {w w1 w2 : World} {g N M : Nat} {S : Nat → Prop} {D : Dsk} {v : Value} {e : Ending}
theorem DkS.more {T : Nat → Prop} (h : DkS w g N S D) (hs : ∀ k, S k → T k) (ht : ∀ k, T k → k < w.heap.size) : DkS w g N T D := by
  obtain ⟨P, h1, h2⟩ := h
  exact ⟨P, h1.more hs ht, h2⟩
theorem since_iff {k : Nat} (h1 : w.heap.size ≤ w1.heap.size) (h2 : w1.heap.size ≤ w2.heap.size) : since (since S w w1) w1 w2 k ↔ since S w w2 k := since_trans h1 h2 k
theorem DkS.since (h : DkS w2 g N (since (since S w w1) w1 w2) D) (h1 : w.heap.size ≤ w1.heap.size) (h2 : w1.heap.size ≤ w2.heap.size) : DkS w2 g N (Cd.since S w w2) D :=
  h.more (fun _ hk => (since_iff h1 h2).1 hk) (fun k hk => h.lt k ((since_iff h1 h2).2 hk))
theorem MakesD.up (h1 : Apart S w w1) (h : MakesD g N (Cd.since S w w1) D v w1 e w2) : MakesD g N S D v w e w2 := ⟨h.1, h.2.1.since h1.size h.2.2.size, h1.trans h.2.2⟩
theorem MakesD.grow (h : MakesD g N S D v w e w1) (hN : N ≤ M) (hM : M ≤ 137438953472) : MakesD g M S D v w e w1 := ⟨h.1, h.2.1.mono hN hM, h.2.2⟩
theorem MakesD.undrew (h : MakesD g N S D v w.drew e w1) : MakesD g N S D v w e w1 := ⟨h.1, h.2.1, ⟨h.2.2.os, h.2.2.tape, h.2.2.output, h.2.2.size, h.2.2.block⟩⟩
/-- Nothing was done to the disk. -/
theorem makesD_same (h : DkS w g N S D) (hb : Below w.heap.size w w1) (hN : N ≤ M) (hM : M ≤ 137438953472) : MakesD g M S D v w (.returned v) w1 := by
  have h2 := (h.mono hN hM).below hb
  refine ⟨rfl, h2.more (fun _ => .inl) (fun k hk => ?_), Apart.below hb⟩
  rcases hk with hk | hk
  · exact h2.lt k hk
  · exact hk.2
theorem DkS.into (h : DkS w g N S D) (hb : Below w.heap.size w w1) : DkS w1 g N (Cd.since S w w1) D := (makesD_same (v := .bool true) (M := N) h hb (Nat.le_refl _) (by obtain ⟨P, h1, _⟩ := h; exact h1.fits.top)).2.1
end

theorem pgr_since {w w1 w2 : World} {S : Nat → Prop} {p g : Nat} {n : List UInt8} (h : PgrAt w2 (since (since S w w1) w1 w2) p g n) (h1 : w.heap.size ≤ w1.heap.size) (h2 : w1.heap.size ≤ w2.heap.size) : PgrAt w2 (since S w w2) p g n :=
  h.less fun _ _ hk => (since_iff h1 h2).2 hk
theorem pgm_since {w w1 w2 : World} {S : Nat → Prop} {b : Nat} {ws : Pgs} (h : PgMap w2 (since (since S w w1) w1 w2) b ws) (h1 : w.heap.size ≤ w1.heap.size) (h2 : w1.heap.size ≤ w2.heap.size) : PgMap w2 (since S w w2) b ws :=
  h.less fun _ _ hk => (since_iff h1 h2).2 hk

/-- What Read leaves. -/
def ReadsP (D : Dsk) (n : List UInt8) (i : Int) (w : World) (e : Ending) (w' : World) : Prop :=
  Below w.heap.size w w' ∧ ((∃ q, readD D n i = (q, 0) ∧ q.length = 512 ∧ e = .returned (.tuple #[.slice (some ⟨w.heap.size, 0, none⟩) 512 512, .int .i64 0]) ∧ w'.heap.size = w.heap.size + 1 ∧ w'.heap[w.heap.size]? = some (.cells (vb q).toArray 153)) ∨
    ∃ m : Nat, m ≠ 0 ∧ readD D n i = ([], m) ∧ e = .returned (.tuple #[.slice none 0 0, .int .i64 m]))

set_option maxHeartbeats 800000 in
theorem read_p (p g N : Nat) (n : List UInt8) (i : Int) (S : Nat → Prop) (D : Dsk) (w : World) (h : PgrAt w S p g n) (hd : DkS w g N S D) (hn : n.length ≤ 140737488355000) (hi : (Lit.int .i64 i).wf = true) :
    Calls Tryz.prog 19 #[.pointer (some ⟨p, 0, none⟩), .int .i64 i] w (ReadsP D n i w) := by
  obtain ⟨_, h2, c0, c1⟩ := h
  have HD := Lib.hid (hd.below (w' := w.drew) (Below.refl _ _).drew)
  have hr := read_dks g N S D n w.drew i HD.out (by omega) hi
  clear hd
  obtain ⟨⟨q, m⟩, hq⟩ : ∃ r, readD D n i = r := ⟨_, rfl⟩
  by_cases hm : m = 0
  · subst hm
    have hr2 := hr.mono (R' := fun e w' => q.length = 512 ∧ e = .returned (.tuple #[.slice (some ⟨w.heap.size, 0, none⟩) 512 512, .int .i64 0]) ∧ Below w.heap.size w w' ∧ w'.heap.size = w.heap.size + 1 ∧ w'.heap[w.heap.size]? = some (.cells (vb q).toArray 153)) (by
      rintro e w' (⟨p', h1, h2, h3, h4⟩ | ⟨m', h1, h2, _⟩)
      · rw [hq] at h1
        injection h1 with h1
        subst h1
        subst h4
        exact ⟨h2, h3, (Below.refl _ _).drew.alloc (Nat.le_refl _) _, by simp, heap_alloc_new w.drew _⟩
      · rw [hq] at h2
        injection h2 with _ h2
        exact absurd h2.symm h1)
    have HR := Lib.hid hr2
    have HQ := Lib.hid hq
    clear hr hr2 hq
    go_enter Tryz.func19, Tryz.ntmps19
    go_wp2_with fail
    go_region_held3 (fun W => W.cell? ⟨p, 0, none⟩ = some (.pointer (some ⟨g, 0, none⟩)) ∧ W.cell? ⟨p, 1, none⟩ = some (.string ⟨n.toArray⟩)) (first | exact ⟨c0, c1⟩ | assumption) (first
      | (go_at_call 56; refine HR.out.mono ?_; rintro e w' ⟨hql, rfl, hb, hsz, hhp⟩; have hS3 : w'.cell? ⟨p, 0, none⟩ = some (.pointer (some ⟨g, 0, none⟩)) ∧ w'.cell? ⟨p, 1, none⟩ = some (.string ⟨n.toArray⟩) := ⟨(hb.cell (p := ⟨p, 0, none⟩) h2).trans c0, (hb.cell (p := ⟨p, 1, none⟩) h2).trans c1⟩; have hb := Lib.hid hb; have hsz := Lib.hid hsz; have hhp := Lib.hid hhp))
    all_goals go_wp2_with fail
    all_goals go_ret2
    all_goals exact ⟨hb.out, .inl ⟨q, HQ.out, hql, rfl, hsz.out, hhp.out⟩⟩
  · have hr2 := hr.mono (R' := fun e w' => q = [] ∧ e = .returned (.tuple #[.slice none 0 0, .int .i64 m]) ∧ Below w.heap.size w.drew w') (by
      rintro e w' (⟨p', h1, h2, h3, h4⟩ | ⟨m', h1, h2, h3, h4⟩)
      · rw [hq] at h1
        injection h1 with _ h1
        exact absurd h1 hm
      · rw [hq] at h2
        injection h2 with h2 h5
        subst h2 h5
        exact ⟨rfl, h3, h4⟩)
    have HR := Lib.hid hr2
    have HQ := Lib.hid hq
    clear hr hr2 hq
    go_enter Tryz.func19, Tryz.ntmps19
    go_wp2_with fail
    go_region_held3 (fun W => W.cell? ⟨p, 0, none⟩ = some (.pointer (some ⟨g, 0, none⟩)) ∧ W.cell? ⟨p, 1, none⟩ = some (.string ⟨n.toArray⟩)) (first | exact ⟨c0, c1⟩ | assumption) (first
      | (go_at_call 56; refine HR.out.mono ?_; rintro e w' ⟨hqn, rfl, hb⟩; have hS3 : w'.cell? ⟨p, 0, none⟩ = some (.pointer (some ⟨g, 0, none⟩)) ∧ w'.cell? ⟨p, 1, none⟩ = some (.string ⟨n.toArray⟩) := ⟨(hb.cell (p := ⟨p, 0, none⟩) h2).trans c0, (hb.cell (p := ⟨p, 1, none⟩) h2).trans c1⟩))
    all_goals go_wp2_with fail
    all_goals go_ret2
    all_goals exact ⟨(Below.refl _ _).drew.trans hb, .inr ⟨m, hm, by rw [HQ.out, hqn], rfl⟩⟩

/-- A draft that is there is removed. -/
theorem discard_p (p g N M : Nat) (n : List UInt8) (S : Nat → Prop) (D : Dsk) (w : World) (h : PgrAt w S p g n) (hd : DkS w g N S D) (ho : D.off = false) (hn : n.length ≤ 140737488355000) (hN : N + 4 ≤ M) (hM : M ≤ 137438953472) :
    Calls Tryz.prog 48 #[.pointer (some ⟨p, 0, none⟩)] w (MakesD g M S (discardD D n).1 (.int .i64 ((discardD D n).2 : Nat)) w) := by
  have hdl : (drf n).length ≤ 140737488355328 := by simp [drf]; omega
  have hp1 := h.below (w' := w.drew) (Below.refl _ _).drew
  have hd1 := hd.below (w' := w.drew) (Below.refl _ _).drew
  have HP1 := Lib.hid (draft_any p g n S w.drew hp1 hn)
  have HA1 := Lib.hid (has_dks g N S D (drf n) w.drew hd1 ho hdl)
  have HP2 := Lib.hid (draft_any p g n S w.drew.drew (hp1.below (Below.refl _ _).drew) hn)
  have HM2 := Lib.hid (remove_dks g N S D (drf n) w.drew.drew (hd1.below (Below.refl _ _).drew) hdl (by omega))
  have HD := Lib.hid hd
  obtain ⟨hnS, hlt, c0, c1⟩ := h
  clear hp1 hd1 hd
  cases hh : (getF D.now (drf n)).isSome
  · have he : discardD D n = (D, 0) := by unfold discardD; rw [if_neg (by rw [hh]; simp)]
    rw [hh] at HA1
    rw [he]
    clear he HM2 HP2
    go_enter Tryz.func48, Tryz.ntmps48
    go_wp2_with fail
    go_region_held3 (fun W => W.cell? ⟨p, 0, none⟩ = some (.pointer (some ⟨g, 0, none⟩))) (first | exact c0 | assumption) (first
      | (go_at_call 80; refine HP1.out.mono ?_; rintro e w' ⟨rfl, rfl⟩)
      | (go_at_call 79; refine HA1.out.mono ?_; rintro e w' ⟨rfl, rfl⟩))
    all_goals go_wp2_with fail
    all_goals go_ret
    all_goals exact makesD_same HD.out (Below.refl _ _).drew (by omega) hM
  · have he : discardD D n = removeD D (drf n) := by unfold discardD; rw [if_pos hh]
    rw [hh] at HA1
    rw [he]
    clear he
    go_enter Tryz.func48, Tryz.ntmps48
    go_wp2_with fail
    go_region_held3 (fun W => W.cell? ⟨p, 0, none⟩ = some (.pointer (some ⟨g, 0, none⟩))) (first | exact c0 | assumption) (first
      | (go_at_call 80; refine HP1.out.mono ?_; rintro e w' ⟨rfl, rfl⟩)
      | (go_at_call 79; refine HA1.out.mono ?_; rintro e w' ⟨rfl, rfl⟩))
    all_goals go_wp2_with fail
    go_region_held3 (fun W => W.cell? ⟨p, 0, none⟩ = some (.pointer (some ⟨g, 0, none⟩))) (first | exact c0 | assumption) (first
      | (go_at_call 80; refine HP2.out.mono ?_; rintro e w' ⟨rfl, rfl⟩)
      | (go_at_call 81; refine HM2.out.mono ?_; rintro e w' hm; have hS3 : w'.cell? ⟨p, 0, none⟩ = some (.pointer (some ⟨g, 0, none⟩)) := (hm.2.2.cell (p := ⟨p, 0, none⟩) hlt hnS).trans c0; obtain rfl := hm.1; have hm := Lib.hid hm))
    all_goals go_wp2_with fail
    all_goals go_ret
    all_goals exact (hm.out.grow hN hM).undrew.undrew

end Go.Proofs.YtbaimgccepjdaaaGreatDoor.Cd

/-
  The library's contracts on sorting what the keys of a map of ints are, at this seat. Conditions: none. Laid by program (tools/iteri.py).
-/
namespace Go.Proofs
open Go.RowKit Go.Maps Go.Sort Go.Shelf
def Tryz.keys130_ren : Go.Shelf.Ren := ⟨fun | 7 => 130 | 10 => 174 | n => n, fun | 23 => 36 | 26 => 3 | 3 => 44 | 28 => 198 | 0 => 0 | 27 => 197 | 33 => 235 | 4 => 4 | n => n, fun | n => n⟩
theorem Tryz.keys130 : Go.Proofs.SlLaysZI.n7 Tryz.prog Tryz.keys130_ren := {
  mixed := by kernel_rfl
  f7 := ⟨Tryz.f130.name, by decide, Tryz.func130.trans (congrArg some (by kernel_rfl))⟩
  f10 := ⟨Tryz.f174.name, by decide, Tryz.func174.trans (congrArg some (by kernel_rfl))⟩
  t0 := Tryz.underlying0
  a0 := Tryz.isAgg0
  z0 := Tryz.sizeOf0
  v0 := Tryz.zeroValue0
  t4 := Tryz.underlying4
  a4 := Tryz.isAgg4
  z4 := Tryz.sizeOf4
  v4 := Tryz.zeroValue4
  t23 := Tryz.underlying36
  a23 := Tryz.isAgg36
  z23 := Tryz.sizeOf36
  v23 := Tryz.zeroValue36
  t26 := Tryz.underlying3
  a26 := Tryz.isAgg3
  z26 := Tryz.sizeOf3
  v26 := Tryz.zeroValue3
  t27 := Tryz.underlying197
  a27 := Tryz.isAgg197
  z27 := Tryz.sizeOf197
  v27 := Tryz.zeroValue197
  t28 := Tryz.underlying198
  a28 := Tryz.isAgg198
  z28 := Tryz.sizeOf198
  v28 := Tryz.zeroValue198
  t33 := Tryz.underlying235
  a33 := Tryz.isAgg235
  z33 := Tryz.sizeOf235
  v33 := Tryz.zeroValue235 }
def Tryz.sorted129_ren : Go.Shelf.Ren := ⟨fun | 6 => 129 | 8 => 172 | 9 => 173 | 11 => 209 | 13 => 141 | 12 => 210 | 23 => 186 | 24 => 187 | 14 => 241 | 15 => 242 | 16 => 243 | 17 => 244 | 18 => 245 | 19 => 246 | 20 => 247 | 21 => 248 | 22 => 249 | 25 => 259 | 26 => 214 | 27 => 215 | 28 => 260 | 29 => 261 | 30 => 262 | 31 => 269 | n => n, fun | 26 => 3 | 28 => 198 | 24 => 48 | 0 => 0 | 3 => 3 | 37 => 162 | 48 => 108 | 50 => 33 | 4 => 4 | 40 => 240 | 39 => 239 | 45 => 97 | 5 => 5 | 9 => 9 | 51 => 266 | 55 => 269 | 57 => 297 | 58 => 298 | 33 => 235 | n => n, fun | n => n⟩
theorem Tryz.sorted129 : Go.Proofs.SlLaysZI.n6 Tryz.prog Tryz.sorted129_ren := {
  mixed := by kernel_rfl
  f6 := ⟨Tryz.f129.name, by decide, Tryz.func129.trans (congrArg some (by kernel_rfl))⟩
  f8 := ⟨Tryz.f172.name, by decide, Tryz.func172.trans (congrArg some (by kernel_rfl))⟩
  f11 := ⟨Tryz.f209.name, by decide, Tryz.func209.trans (congrArg some (by kernel_rfl))⟩
  t0 := Tryz.underlying0
  a0 := Tryz.isAgg0
  z0 := Tryz.sizeOf0
  v0 := Tryz.zeroValue0
  t24 := Tryz.underlying48
  a24 := Tryz.isAgg48
  z24 := Tryz.sizeOf48
  v24 := Tryz.zeroValue48
  t26 := Tryz.underlying3
  a26 := Tryz.isAgg3
  z26 := Tryz.sizeOf3
  v26 := Tryz.zeroValue3
  t28 := Tryz.underlying198
  a28 := Tryz.isAgg198
  z28 := Tryz.sizeOf198
  v28 := Tryz.zeroValue198
  i26 := by kernel_rfl }
def Tryz.sort173_ren : Go.Shelf.Ren := ⟨fun | 5 => 173 | 8 => 141 | 7 => 210 | 19 => 186 | 20 => 187 | 10 => 241 | 11 => 242 | 12 => 243 | 13 => 244 | 14 => 245 | 15 => 246 | 16 => 247 | 17 => 248 | 18 => 249 | 30 => 259 | 31 => 214 | 32 => 215 | 33 => 260 | 34 => 261 | 35 => 262 | 40 => 269 | n => n, fun | 23 => 48 | 25 => 3 | 3 => 3 | 32 => 162 | 22 => 48 | 0 => 0 | 44 => 108 | 46 => 33 | 4 => 4 | 36 => 240 | 35 => 239 | 41 => 97 | 5 => 5 | 9 => 9 | 53 => 266 | 57 => 269 | 63 => 297 | 64 => 298 | n => n, fun | n => n⟩
theorem Tryz.sort173 : Go.Proofs.SlLaysM.n5 Tryz.prog Tryz.sort173_ren := {
  mixed := by kernel_rfl
  f5 := ⟨Tryz.f173.name, by decide, Tryz.func173.trans (congrArg some (by kernel_rfl))⟩
  f7 := ⟨Tryz.f210.name, by decide, Tryz.func210.trans (congrArg some (by kernel_rfl))⟩
  f8 := Tryz.func141.trans (congrArg some (by kernel_rfl))
  f10 := ⟨Tryz.f241.name, by decide, Tryz.func241.trans (congrArg some (by kernel_rfl))⟩
  f11 := ⟨Tryz.f242.name, by decide, Tryz.func242.trans (congrArg some (by kernel_rfl))⟩
  f12 := ⟨Tryz.f243.name, by decide, Tryz.func243.trans (congrArg some (by kernel_rfl))⟩
  f13 := ⟨Tryz.f244.name, by decide, Tryz.func244.trans (congrArg some (by kernel_rfl))⟩
  f14 := ⟨Tryz.f245.name, by decide, Tryz.func245.trans (congrArg some (by kernel_rfl))⟩
  f15 := ⟨Tryz.f246.name, by decide, Tryz.func246.trans (congrArg some (by kernel_rfl))⟩
  f16 := ⟨Tryz.f247.name, by decide, Tryz.func247.trans (congrArg some (by kernel_rfl))⟩
  f17 := ⟨Tryz.f248.name, by decide, Tryz.func248.trans (congrArg some (by kernel_rfl))⟩
  f18 := ⟨Tryz.f249.name, by decide, Tryz.func249.trans (congrArg some (by kernel_rfl))⟩
  f19 := Tryz.func186.trans (congrArg some (by kernel_rfl))
  f20 := Tryz.func187.trans (congrArg some (by kernel_rfl))
  f30 := ⟨Tryz.f259.name, by decide, Tryz.func259.trans (congrArg some (by kernel_rfl))⟩
  f31 := Tryz.func214.trans (congrArg some (by kernel_rfl))
  f32 := Tryz.func215.trans (congrArg some (by kernel_rfl))
  f33 := ⟨Tryz.f260.name, by decide, Tryz.func260.trans (congrArg some (by kernel_rfl))⟩
  f34 := ⟨Tryz.f261.name, by decide, Tryz.func261.trans (congrArg some (by kernel_rfl))⟩
  f35 := ⟨Tryz.f262.name, by decide, Tryz.func262.trans (congrArg some (by kernel_rfl))⟩
  f40 := ⟨Tryz.f269.name, by decide, Tryz.func269.trans (congrArg some (by kernel_rfl))⟩
  t0 := Tryz.underlying0
  a0 := Tryz.isAgg0
  z0 := Tryz.sizeOf0
  v0 := Tryz.zeroValue0
  t3 := Tryz.underlying3
  a3 := Tryz.isAgg3
  z3 := Tryz.sizeOf3
  v3 := Tryz.zeroValue3
  t4 := Tryz.underlying4
  a4 := Tryz.isAgg4
  z4 := Tryz.sizeOf4
  v4 := Tryz.zeroValue4
  t5 := Tryz.underlying5
  a5 := Tryz.isAgg5
  z5 := Tryz.sizeOf5
  v5 := Tryz.zeroValue5
  t9 := Tryz.underlying9
  a9 := Tryz.isAgg9
  z9 := Tryz.sizeOf9
  v9 := Tryz.zeroValue9
  t22 := Tryz.underlying48
  a22 := Tryz.isAgg48
  z22 := Tryz.sizeOf48
  v22 := Tryz.zeroValue48
  t23 := Tryz.underlying48
  a23 := Tryz.isAgg48
  z23 := Tryz.sizeOf48
  v23 := Tryz.zeroValue48
  t25 := Tryz.underlying3
  a25 := Tryz.isAgg3
  z25 := Tryz.sizeOf3
  v25 := Tryz.zeroValue3
  t32 := Tryz.underlying162
  a32 := Tryz.isAgg162
  z32 := Tryz.sizeOf162
  v32 := Tryz.zeroValue162
  t35 := Tryz.underlying239
  a35 := Tryz.isAgg239
  z35 := Tryz.sizeOf239
  v35 := Tryz.zeroValue239
  t36 := Tryz.underlying240
  a36 := Tryz.isAgg240
  z36 := Tryz.sizeOf240
  v36 := Tryz.zeroValue240
  t41 := Tryz.underlying97
  a41 := Tryz.isAgg97
  z41 := Tryz.sizeOf97
  v41 := Tryz.zeroValue97
  t44 := Tryz.underlying108
  a44 := Tryz.isAgg108
  z44 := Tryz.sizeOf108
  v44 := Tryz.zeroValue108
  t46 := Tryz.underlying33
  a46 := Tryz.isAgg33
  z46 := Tryz.sizeOf33
  v46 := Tryz.zeroValue33
  t53 := Tryz.underlying266
  a53 := Tryz.isAgg266
  z53 := Tryz.sizeOf266
  v53 := Tryz.zeroValue266
  t57 := Tryz.underlying269
  a57 := Tryz.isAgg269
  z57 := Tryz.sizeOf269
  v57 := Tryz.zeroValue269
  t63 := Tryz.underlying297
  a63 := Tryz.isAgg297
  z63 := Tryz.sizeOf297
  v63 := Tryz.zeroValue297
  t64 := Tryz.underlying298
  a64 := Tryz.isAgg298
  z64 := Tryz.sizeOf298
  v64 := Tryz.zeroValue298 }

theorem Tryz.sortsI129 (m : Nat) : AnyZI.SortsIn Tryz.prog Tryz.sorted129_ren Fence.wide m :=
  ⟨fun blk off cap ss W hH hblk hsz => callsIn_wide.2 (AnyM.slices_Sort_int Tryz.sort173 blk off cap ss W hH hblk hsz),
   fun p cap W => callsIn_wide.2 (AnyM.slices_Sort_int_none Tryz.sort173 p cap W)⟩
theorem Tryz.maps_KeysI_130 (mb : Option Nat) (W : World) : CallsIn Fence.wide 5 Tryz.prog 130 #[.map mb] W fun e w' => e = .returned (.func (.func 174) #[] #[.pointer (some ⟨W.heap.size, 0, none⟩)]) ∧ w' = W.alloc (.cells #[.map mb] 36) :=
  AnyZI.keys_in Tryz.keys130 Fence.wide 5 trivial rfl mb W

set_option maxHeartbeats 1000000 in
/-- A map's keys, sorted, in a new slice. -/
theorem Tryz.slices_SortedI_129_130 {H : Type} (b nn : Nat) (D0 : DataW H) (R : Value → Option (DataW H × List MemPlace)) (w : World) (hown : w.ownsMap Tryz.prog 3 R b nn D0) (hmax : Maps.size D0 ≤ maxLen) (hbytes : Maps.size D0 * 8 ≤ 140737488355328) :
    CallsIn Fence.wide 5 Tryz.prog 129 #[.func (.func 174) #[] #[.pointer (some ⟨w.heap.size, 0, none⟩)]] (w.alloc (.cells #[.map (some b)] 36)) fun e w' => ∃ (v : Value) (ss : List Int), e = .returned v ∧ ss.Perm (intKeys D0) ∧
      w'.ownsRow (w.alloc (.cells #[.map (some b)] 36)).heap.size 3 1 v ss.length ((ss.mergeSort (fun x y => decide (x ≤ y))).map encZ) ∧ (v = .slice none 0 0 ↔ ss = []) ∧ Below (w.alloc (.cells #[.map (some b)] 36)).heap.size (w.alloc (.cells #[.map (some b)] 36)) w' := by
  have hbl := hown.lt
  have hseq : SeqGives Fence.wide 2 Tryz.prog 174 #[.pointer (some ⟨w.heap.size, 0, none⟩)] encZ (fun ss => ss.Perm (intKeys D0)) (Maps.size D0) (w.alloc (.cells #[.map (some b)] 36)) :=
    AnyZI.keys_gives (ρ := Tryz.keys130_ren) { Tryz.keys130 with } Fence.wide _ trivial rfl (by omega) w.heap.size b nn D0 _ (by simp) (by simp) (by
      obtain ⟨es, clock, hb, Ft, hs, hD⟩ := hown
      exact ⟨es, clock, (Below.heap_alloc _ _ b hbl).trans hb, Ft, hs, hD⟩)
  exact AnyZI.sorted_in Tryz.sorted129 Fence.wide 5 trivial trivial trivial trivial rfl (by omega) (Tryz.sortsI129 _) (enters_of Tryz.func173 (by kernel_rfl) rfl) 174 #[.pointer (some ⟨w.heap.size, 0, none⟩)] trivial (enters_of Tryz.func174 (by kernel_rfl) rfl) _ _ hmax hbytes _ hseq
theorem Tryz.slices_SortedI_nil_129_130 (w : World) :
    CallsIn Fence.wide 5 Tryz.prog 129 #[.func (.func 174) #[] #[.pointer (some ⟨w.heap.size, 0, none⟩)]] (w.alloc (.cells #[.map none] 36)) fun e w' => ∃ (v : Value) (ss : List Int), e = .returned v ∧ ss = [] ∧
      w'.ownsRow (w.alloc (.cells #[.map none] 36)).heap.size 3 1 v ss.length ((ss.mergeSort (fun x y => decide (x ≤ y))).map encZ) ∧ (v = .slice none 0 0 ↔ ss = []) ∧ Below (w.alloc (.cells #[.map none] 36)).heap.size (w.alloc (.cells #[.map none] 36)) w' := by
  have hseq : SeqGives Fence.wide 2 Tryz.prog 174 #[.pointer (some ⟨w.heap.size, 0, none⟩)] encZ (fun ss : List Int => ss = []) 0 (w.alloc (.cells #[.map none] 36)) :=
    AnyZI.keys_gives_nil (ρ := Tryz.keys130_ren) { Tryz.keys130 with } Fence.wide _ trivial rfl w.heap.size _ (by simp) (by simp)
  exact AnyZI.sorted_in Tryz.sorted129 Fence.wide 5 trivial trivial trivial trivial rfl (by omega) (Tryz.sortsI129 _) (enters_of Tryz.func173 (by kernel_rfl) rfl) 174 #[.pointer (some ⟨w.heap.size, 0, none⟩)] trivial (enters_of Tryz.func174 (by kernel_rfl) rfl) _ 0 (Nat.zero_le _) (by omega) _ hseq
end Go.Proofs

/-
  A pager's loops over a map of pages: their numbers, rising; whether one is too long; how many are new. Conditions: as each says.
-/
namespace Go.Proofs.YtbaimgccepjdaaaGreatDoor.Cd
open Go.RowKit Go.Maps Go.Sort Go.Shelf

/-- A number as a value. -/
abbrev vnum (n : Int) : Value := .int .i64 n

theorem nums_row {w : World} {B : Nat} {v : Value} {l : List Int} (h : w.ownsRow B 3 1 v l.length (l.map encZ)) : Flat vnum w w.heap.size v l := by
  have hlt := World.ownsRow.lt h
  have hc := fun g hg => World.ownsRow.cells h (g := g) hg
  rcases h.2 with ⟨rfl, h0⟩ | ⟨g, cap, cur, rfl, _, hg, hn, hm, _, _⟩
  · have : l = [] := List.eq_nil_of_length_eq_zero h0
    subst this
    exact ⟨none, 0, rfl, by simp, by simp, fun h => by simp at h⟩
  · refine ⟨_, cap, rfl, hn, hm, fun _ => ⟨g, 0, rfl, (hlt g rfl).2, fun j hj => ?_⟩⟩
    have := hc g rfl j (vnum l[j]) (by simp [hj])
    rwa [Addr.add_lit] at this

/-- The pages' numbers, rising. -/
def RisesTo (ws : Pgs) (w : World) (e : Ending) (w' : World) : Prop := ∃ v, e = .returned v ∧ Flat vnum w' w'.heap.size v (ws.map Prod.fst) ∧ (∀ A n c, v = .slice (some A) n c → w.heap.size ≤ A.block ∧ A.block < w'.heap.size) ∧ Below w.heap.size w w'

set_option maxRecDepth 100000 in
set_option maxHeartbeats 1600000 in
theorem rising_any (b : Nat) (ws : Pgs) (S : Nat → Prop) (w : World) (h : PgMap w S b ws) (hl : ws.length ≤ 1048576) :
    Calls Tryz.prog 85 #[.map (some b)] w (RisesTo ws w) := by
  obtain ⟨D, hown, hsz, hk⟩ := h.keys
  have hmax : Maps.size D ≤ maxLen := by rw [hsz]; simp only [maxLen]; omega
  have hsorted := Tryz.slices_SortedI_129_130 b ws.length D bytK.R w hown hmax (by rw [hsz]; omega)
  have HSO := Lib.hid hsorted
  have HK := Lib.hid hk
  clear hsorted hk hown h
  have hfK : Fence.wide.fn 130 := trivial
  have hfS : Fence.wide.fn 129 := trivial
  refine (callsIn_wide (n := 6)).1 ?_
  refine callsIn_of_wp Tryz.func85 rfl trivial ?_ rfl
  simp only [Tryz.ntmps85, List.size_toArray, List.length_cons, List.length_nil, Nat.reduceAdd, Nat.reduceSub, Array.replicate_succ, Array.replicate_zero, List.push_toArray, List.append_toArray, List.nil_append, List.cons_append]
  gi_wp2_with (first
    | (gi_at_call 130; refine (Tryz.maps_KeysI_130 _ _).mono ?_; rintro e w' ⟨rfl, rfl⟩)
    | (gi_at_call 129; refine HSO.out.mono ?_; rintro e w' ⟨v, ss, rfl, hS, hrow, hnil, hb⟩))
  go_ret
  obtain ⟨h1, h2⟩ := HK.out ss hS
  have hrow2 : w'.ownsRow (w.alloc (.cells #[.map (some b)] 36)).heap.size 3 1 v (ss.mergeSort (fun x y => decide (x ≤ y))).length ((ss.mergeSort (fun x y => decide (x ≤ y))).map encZ) := by
    rw [List.length_mergeSort]
    exact hrow
  rw [h1] at hrow2
  refine ⟨v, rfl, nums_row hrow2, fun A n c e => ?_, ((Below.refl _ _).alloc (Nat.le_refl _) _).trans (hb.mono (by simp))⟩
  rcases hrow2.2 with ⟨h3, _⟩ | ⟨g, cap, cur, h3, h4, _⟩
  · rw [h3] at e; cases e
  · rw [h3] at e
    injection e with e _ _
    injection e with e
    rw [← e]
    have h5 := (World.ownsRow.lt hrow2 g (by rw [h3]; rfl)).2
    simp at h4
    show w.heap.size ≤ g ∧ g < w'.heap.size
    omega

theorem pagesOf_any (A : Option Addr) (n c : Nat) (w : World) (hn : n ≤ 140737488355328) : Calls Tryz.prog 53 #[.slice A n c] w (fun e w' => e = .returned (.int .i64 (pagesOf n : Nat)) ∧ w' = w) := by
  go_enter Tryz.func53, Tryz.ntmps53
  go_wp2_with fail
  go_ret
  refine ⟨?_, rfl⟩
  show Ending.returned (.int .i64 (((n : Int) + 512 - 1) / 512)) = _
  rw [show ((n : Int) + 512 - 1) / 512 = ((pagesOf n : Nat) : Int) by unfold pagesOf; omega]

/-- What is known of the pages that have come: none is too long. -/
def ShortFrom (ws : Pgs) (left : Lit → Bool) : Prop := ∀ p ∈ ws, left (.int .i64 p.1) = false → p.2.length ≤ 512

theorem entry_at {w : World} {S : Nat → Prop} {ws : Pgs} {q : Int → Option SlV} {D : DataW Unit} (h4 : ∀ x, bytK.ok x → (q x).isSome = true → ∃ p ∈ ws, p.1 = x) (h5 : ∀ p ∈ ws, ∃ s : SlV, q p.1 = some s ∧ Far w S s.val p.2)
    (hat : ∀ x, bytK.ok x → ∀ z, D.atKey (bytK.lit x) z = ((q x).map bytK.dat).getD z) {x : Int} {c : SlV} {y : DataW Unit × List MemPlace} (hx : (Lit.int .i64 x).wf = true) (hy : slR c.val = some y) (hd : ∀ z, D.atKey (.int .i64 x) z = y.1) :
    (∃ p ∈ ws, p.1 = x) ∧ ∀ p ∈ ws, p.1 = x → Far w S c.val p.2 := by
  rw [slR_val] at hy
  injection hy with hy
  subst hy
  cases hq : q x with
  | none =>
    have h1 := hat x hx (.lit (.bool true))
    have h2 := hat x hx (.lit (.bool false))
    rw [hq] at h1 h2
    have e1 := (hd (.lit (.bool true))).symm.trans h1
    have e2 := (hd (.lit (.bool false))).symm.trans h2
    rw [e1] at e2
    cases e2
  | some s =>
    have h1 := hat x hx .nil
    rw [hq] at h1
    have e1 : c.dat = s.dat := (hd .nil).symm.trans h1
    have e2 := SlV.dat_inj e1
    subst e2
    refine ⟨h4 x hx (by rw [hq]; rfl), fun p hp hpx => ?_⟩
    obtain ⟨s, hs, hf⟩ := h5 p hp
    rw [hpx, hq] at hs
    injection hs with hs
    subst hs
    exact hf

set_option maxRecDepth 100000 in
set_option maxHeartbeats 1600000 in
theorem hasLong_any (b : Nat) (ws : Pgs) (S : Nat → Prop) (w : World) (h : PgMap w S b ws) : Calls Tryz.prog 50 #[.map (some b)] w (Says (.bool (hasLong ws)) w) := by
  have H := Lib.hid h
  obtain ⟨_, hws, q, ⟨D, hown, hsz, hat⟩, h4, h5⟩ := h
  have he := fun (x : Int) (c : SlV) (y : DataW Unit × List MemPlace) hx hy hd => entry_at (w := w) (S := S) h4 h5 hat (x := x) (c := c) (y := y) hx hy hd
  have HE := Lib.hid he
  have hs1 : Hid (ShortFrom ws (has D)) := fun p hp hl => by
    obtain ⟨s, hs, _⟩ := h5 p hp
    have := MapF.has (M := bytK) (hat p.1 (hws.wf p hp))
    rw [hs] at this
    have hl : has D (bytK.lit p.1) = false := hl
    rw [hl] at this
    cases this
  have HO := Lib.hid hown
  clear hat h4 h5 hws he
  go_enter Tryz.func50, Tryz.ntmps50
  go_wp2_with (at_range; refine wpList_range_own _ rfl _ 36 rfl 3 44 bytK.law bytK.under bytK.R b ws.length D rfl hown ?_; intro w0 hrg0 hg0 hs0)
  go_frame
  have hb0 : Hid (Below w.heap.size w w0) := (Below.refl _ _).grown hg0 (Nat.le_refl _) (fun k e => by cases e)
  clear hg0 hs0 hsz H
  go_loopw [4] (fun _ wr => ∃ (left : Lit → Bool) (cnt : Nat), wr.ranges Tryz.prog 3 bytK.R b w.heap.size ws.length D left cnt ∧ Hid (ShortFrom ws left) ∧ Hid (Below w.heap.size w wr)) (fun _ wr => wr.rangeLeft b w.heap.size)
  case atStart => exact ⟨_, _, hrg0, hs1, hb0⟩
  case round =>
    obtain ⟨left, cnt, hrg, hsh, hbel⟩ := hrel
    go_wp2_with (at_next; refine wpList_next_ranges _ rfl _ rfl 3 bytK.law bytK.R (fun x : Int => .int .i64 x) SlV.val (fun key kl hkey => by obtain ⟨x, rfl, _⟩ := Maps.keyOf_int_inv Tryz.underlying3 hkey; exact ⟨x, rfl⟩) (fun v y hv => by obtain ⟨c, rfl, _⟩ := slR_inv hv; exact ⟨c, rfl⟩) b w.heap.size ws.length _ _ _ rfl hrg ?_ ?_)
    · intro hc0 hl0
      have hsay : Hid (hasLong ws = false) := by
        unfold Hid hasLong
        rw [List.any_eq_false]
        intro p hp
        have := hsh.out p hp (hl0 _)
        simpa using this
      go_wp2_with fail
      go_ret
      exact ⟨by rw [hsay.out]; rfl, hbel.out⟩
    · intro x c kl yd yp w2 cnt2 hkey hlk hv hat2 hrg2 hlt hg2 hs2 hen
      obtain ⟨x', ex, rfl, hwx⟩ := Maps.keyOf_int_inv Tryz.underlying3 hkey
      injection ex with _ ex
      subst ex
      obtain ⟨hin, hfar⟩ := HE.out x c (yd, yp) hwx hv hat2
      have hHF := Lib.hid hfar
      obtain ⟨A, n, cc⟩ := c
      have hnl : Hid (∀ p ∈ ws, p.1 = x → p.2.length = n) := fun p hp hpx => by
        obtain ⟨A', c', e, _⟩ := (hfar p hp hpx).1.len
        injection e with _ e _
        exact e.symm
      have HIN := Lib.hid hin
      have hup : Hid (Below w.heap.size w w2) := hbel.out.grown hg2 hbel.out.size (fun k e => by injection e with e; omega)
      have hms : Hid (w2.rangeLeft b w.heap.size < wr.rangeLeft b w.heap.size) := by unfold Hid; rw [hrg2.left_eq, hrg.left_eq]; omega
      clear hs2 hfar hin hv hat2 hkey hlk hg2 hlt
      dsimp only [SlV.val] at hen ⊢
      generalize Option.map (fun p : Nat × Nat => ({ block := p.1, off := p.2, spot := none } : Addr)) A = A' at hen ⊢
      have HRG := Lib.hid hrg2
      clear hrg2 hrg
      by_cases hln : 512 < n
      · have hsay : Hid (hasLong ws = true) := by
          unfold Hid hasLong
          rw [List.any_eq_true]
          obtain ⟨p, hp, hpx⟩ := HIN.out
          exact ⟨p, hp, by rw [hnl.out p hp hpx]; simpa using hln⟩
        have hln2 : (512 : Int) < n := by omega
        go_wp2_with fail
        go_ret
        exact ⟨by rw [hsay.out]; rfl, hup.out⟩
      · have hln2 : (n : Int) ≤ 512 := by omega
        go_wp2_with fail
        go_roundw
        case rel =>
          refine ⟨_, cnt2, HRG.out, fun p hp hl => ?_, hup⟩
          simp only [Bool.and_eq_false_iff, Bool.not_eq_false'] at hl
          rcases hl with hl | hl
          · exact hsh.out p hp hl
          · have hpx : p.1 = x := by simpa [Lit.sameKey] using hl
            rw [hnl.out p hp hpx]
            omega
        case measure => exact hms.out

end Go.Proofs.YtbaimgccepjdaaaGreatDoor.Cd
