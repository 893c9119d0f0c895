/-
  Pages some of which are written already, and the same writes once more; files of two names; what a loss of power leaves: no Go in sight. Conditions: none.
-/
import Derived.Test.YthgnchgehmakjaaG5
import Derived.Test.YthgnchgehmakjaaG6
/-
  A file's pages that are written all or none, as the document tells of it, over a disk as the document tells of it: what a commit does. No Go in sight. Conditions: none.
-/
namespace Go.Proofs.Ythgnchgehmakjaa.Cd

/-- Pages, each with its number. -/
abbrev Pgs := List (Int × List UInt8)

def jnl (n : List UInt8) : List UInt8 := n ++ [45, 106]
def drf (n : List UInt8) : List UInt8 := n ++ [45, 116]
theorem jnl_ne (n : List UInt8) : jnl n ≠ n := fun h => by have := congrArg List.length h; simp [jnl] at this
theorem drf_ne (n : List UInt8) : drf n ≠ n := fun h => by have := congrArg List.length h; simp [drf] at this
theorem jnl_drf (n : List UInt8) : jnl n ≠ drf n := fun h => by simp [drf, jnl] at h

/-- One page of a record; the record's text; its bytes. -/
def recP (p : Int × List UInt8) : List UInt8 := enc (zig p.1) ++ (enc p.2.length ++ p.2)
def recT (ws : Pgs) : List UInt8 := enc (zig ws.length) ++ (ws.map recP).flatten
def recF (ws : Pgs) : List UInt8 := frm (recT ws)

/-- How many pages bytes take; the k-th of them; all. -/
def pagesOf (n : Nat) : Nat := (n + 511) / 512
def chunk (b : List UInt8) (k : Nat) : List UInt8 := (b.drop (512 * k)).take 512
def chunks (b : List UInt8) : Pgs := (List.range (pagesOf b.length)).map fun (k : Nat) => ((k : Int), chunk b k)
theorem chunk_len (b : List UInt8) (k : Nat) : (chunk b k).length ≤ 512 := by simp [chunk]; omega
theorem chunks_len (b : List UInt8) : (chunks b).length = pagesOf b.length := by simp [chunks]

/-- Writes, one behind the other, up to one that is refused. -/
def writes (D : Dsk) (n : List UInt8) : Pgs → Dsk × Nat
  | [] => (D, 0)
  | p :: r => if (writeD D n p.1 p.2).2 = 0 then writes (writeD D n p.1 p.2).1 n r else writeD D n p.1 p.2

theorem writes_cons {D : Dsk} {n : List UInt8} {p : Int × List UInt8} {r : Pgs} (h : (writeD D n p.1 p.2).2 = 0) : writes D n (p :: r) = writes (writeD D n p.1 p.2).1 n r := by rw [writes, if_pos h]
theorem writes_bad {D : Dsk} {n : List UInt8} {p : Int × List UInt8} {r : Pgs} (h : (writeD D n p.1 p.2).2 ≠ 0) : writes D n (p :: r) = writeD D n p.1 p.2 := by rw [writes, if_neg h]
theorem writes_append (n : List UInt8) (a b : Pgs) : ∀ (D : Dsk), writes D n (a ++ b) = if (writes D n a).2 = 0 then writes (writes D n a).1 n b else writes D n a := by
  induction a with
  | nil => intro D; simp [writes]
  | cons p r ih =>
    intro D
    by_cases h : (writeD D n p.1 p.2).2 = 0
    · rw [List.cons_append, writes_cons h, writes_cons h]; exact ih _
    · rw [List.cons_append, writes_bad h, writes_bad h, if_neg h]
theorem writes_one (D : Dsk) (n : List UInt8) (p : Int × List UInt8) : writes D n [p] = writeD D n p.1 p.2 := by
  simp only [writes]
  split
  · rename_i h; rw [← h]
  · rfl
theorem writes_take (n : List UInt8) (l : Pgs) (D : Dsk) {k : Nat} (hk : k < l.length) (h : (writes D n (l.take k)).2 = 0) : writes D n (l.take (k + 1)) = writeD (writes D n (l.take k)).1 n l[k].1 l[k].2 := by
  rw [List.take_succ_eq_append_getElem hk, writes_append, if_pos h, writes_one]
theorem writes_stop (n : List UInt8) (l : Pgs) (D : Dsk) {k : Nat} (h : (writes D n (l.take k)).2 ≠ 0) : writes D n l = writes D n (l.take k) := by
  conv => lhs; rw [← List.take_append_drop k l, writes_append]
  rw [if_neg h]

def discardD (D : Dsk) (n : List UInt8) : Dsk × Nat := if (getF D.now (drf n)).isSome = true then removeD D (drf n) else (D, 0)
def postD (D : Dsk) (n b : List UInt8) : Dsk × Nat :=
  if (discardD D n).2 ≠ 0 then discardD D n else
  if (writes (discardD D n).1 (drf n) (chunks b)).2 ≠ 0 then writes (discardD D n).1 (drf n) (chunks b) else
  if (syncD (writes (discardD D n).1 (drf n) (chunks b)).1 (drf n)).2 ≠ 0 then syncD (writes (discardD D n).1 (drf n) (chunks b)).1 (drf n) else
  renameD (syncD (writes (discardD D n).1 (drf n) (chunks b)).1 (drf n)).1 (drf n) (jnl n)
/-- Sync, if the file is there. -/
def syncIf (D : Dsk) (n : List UInt8) : Dsk × Nat := if (getF D.now n).isSome = true then syncD D n else (D, 0)
def settleD (D : Dsk) (n : List UInt8) (ws : Pgs) : Dsk × Nat :=
  if (writes D n ws).2 ≠ 0 then writes D n ws else
  if (syncIf (writes D n ws).1 n).2 ≠ 0 then syncIf (writes D n ws).1 n else
  removeD (syncIf (writes D n ws).1 n).1 (jnl n)
/-- How many of the pages are new ones; none: the file can't have them. -/
def freshN : Nat → Pgs → Option Nat
  | _, [] => some 0
  | c, p :: r => if p.1 < 0 ∨ (c : Int) < p.1 then none else if p.1 = c then (freshN (c + 1) r).map (· + 1) else freshN c r
def hasLong (ws : Pgs) : Bool := ws.any fun p => decide (512 < p.2.length)
/-- What a commit leaves and answers, with the power on. -/
def commitD (D : Dsk) (n : List UInt8) (ws : Pgs) : Dsk × Nat :=
  if D.off = true then (D, 8) else
  if hasLong ws = true then (D, 3) else
  match freshN (pagesF D.now n).length ws with
  | none => (D, 1)
  | some f =>
    if ws = [] then (D, 0) else
    if freeD D < (pagesOf (recF ws).length + f : Nat) then (D, 7) else
    if (postD D n (recF ws)).2 ≠ 0 then postD D n (recF ws) else settleD (postD D n (recF ws)).1 n ws

/-! ### With the power on, and no end of it in sight -/

/-- Pages, with some written. -/
def laidP (P : List (List UInt8)) (ws : Pgs) : List (List UInt8) := ws.foldl (fun P p => setP P p.1.toNat (pad p.2)) P

theorem free_pos {D : Dsk} {room k : Nat} (h : Roomy D room k) (hk : k < room) : freeD D ≠ 0 := by rw [h.free]; omega

/-- One write, in the file's pages or at their end. -/
theorem Roomy.put {D : Dsk} {room k : Nat} (h : Roomy D room k) {n b : List UInt8} {i : Nat} (hi : i ≤ (pagesF D.now n).length) (hb : b.length ≤ 512) (hk : i = (pagesF D.now n).length → k < room) :
    (writeD D n i b).2 = 0 ∧ Roomy (writeD D n i b).1 room (k + if i = (pagesF D.now n).length then 1 else 0) ∧
      (∀ m, pagesF (writeD D n i b).1.now m = if m = n then setP (pagesF D.now n) i (pad b) else pagesF D.now m) ∧
      (∀ m, (getF (writeD D n i b).1.now m).isSome = if m = n then true else (getF D.now m).isSome) := by
  have hw : writeD D n i b = (wrote D n i b, 0) := by
    unfold writeD
    rw [if_neg (by rw [h.off]; simp), if_neg (by omega), if_neg (by omega), if_neg (fun h2 => free_pos h (hk (by omega)) h2.2), Int.toNat_natCast]
    exact ends_calm (by rw [h.fuse]; omega)
  rw [hw]
  have hc := count_put h.once ⟨n, setP (pagesF D.now n) i (pad b)⟩
  simp only [setP_len] at hc
  have hkc := h.count
  refine ⟨rfl, ⟨h.off, by show D.fuse - 1 = 0; rw [h.fuse], put_once h.once _, h.room, ?_⟩, fun m => ?_, fun m => wrote_is D n b i m⟩
  · show Cd.count (putF D.now ⟨n, setP (pagesF D.now n) i (pad b)⟩) = _
    split <;> omega
  · show pagesF (putF D.now ⟨n, _⟩) m = _
    rw [pagesF_put]

theorem Roomy.writes {n : List UInt8} {room : Nat} (ws : Pgs) : ∀ {D : Dsk} {k f : Nat}, Roomy D room k → freshN (pagesF D.now n).length ws = some f → k + f ≤ room → (∀ p ∈ ws, p.2.length ≤ 512) →
    (Cd.writes D n ws).2 = 0 ∧ Roomy (Cd.writes D n ws).1 room (k + f) ∧
      (∀ m, pagesF (Cd.writes D n ws).1.now m = if m = n then laidP (pagesF D.now n) ws else pagesF D.now m) ∧
      (∀ m, (getF (Cd.writes D n ws).1.now m).isSome = if m = n ∧ ws ≠ [] then true else (getF D.now m).isSome) := by
  induction ws with
  | nil =>
    intro D k f h hf _ _
    injection hf with hf
    subst hf
    refine ⟨rfl, h, fun m => ?_, fun m => ?_⟩
    · show pagesF D.now m = if m = n then pagesF D.now n else _
      split
      · rename_i e; rw [e]
      · rfl
    · simp [Cd.writes]
  | cons p r ih =>
    intro D k f h hf hk hl
    obtain ⟨i, b⟩ := p
    rw [freshN] at hf
    by_cases hbad : i < 0 ∨ ((pagesF D.now n).length : Int) < i
    · rw [if_pos hbad] at hf; cases hf
    · rw [if_neg hbad] at hf
      obtain ⟨j, rfl⟩ := Int.eq_ofNat_of_zero_le (a := i) (by omega)
      have hb : b.length ≤ 512 := hl (↑j, b) (by simp)
      have hr : ∀ p ∈ r, p.2.length ≤ 512 := fun p hp => hl p (by simp [hp])
      have key : ∀ f', freshN (setP (pagesF D.now n) j (pad b)).length r = some f' → k + (if j = (pagesF D.now n).length then 1 else 0) + f' ≤ room → (j = (pagesF D.now n).length → k < room) → (k + if j = (pagesF D.now n).length then 1 else 0) + f' = k + f →
          (Cd.writes D n ((↑j, b) :: r)).2 = 0 ∧ Roomy (Cd.writes D n ((↑j, b) :: r)).1 room (k + f) ∧
            (∀ m, pagesF (Cd.writes D n ((↑j, b) :: r)).1.now m = if m = n then laidP (pagesF D.now n) ((↑j, b) :: r) else pagesF D.now m) ∧
            (∀ m, (getF (Cd.writes D n ((↑j, b) :: r)).1.now m).isSome = if m = n ∧ ((↑j, b) :: r : Pgs) ≠ [] then true else (getF D.now m).isSome) := by
        intro f' h1 h2 h3 h4
        obtain ⟨q1, q2, q3, q4⟩ := h.put (n := n) (b := b) (i := j) (by omega) hb h3
        have e : Cd.writes D n ((↑j, b) :: r) = Cd.writes (writeD D n j b).1 n r := by rw [Cd.writes, if_pos q1]
        rw [e]
        have hp := q3 n
        rw [if_pos rfl] at hp
        obtain ⟨s1, s2, s3, s4⟩ := ih q2 (f := f') (by rw [hp]; exact h1) h2 hr
        refine ⟨s1, by rw [← h4]; exact s2, fun m => ?_, fun m => ?_⟩
        · rw [s3 m, hp, q3 m]
          by_cases em : m = n
          · rw [if_pos em, if_pos em]; rfl
          · rw [if_neg em, if_neg em, if_neg em]
        · rw [s4 m, q4 m]
          by_cases em : m = n
          · simp [em]
          · simp [em]
      by_cases he : (j : Int) = ((pagesF D.now n).length : Int)
      · rw [if_pos he] at hf
        have he' : j = (pagesF D.now n).length := by omega
        cases hf2 : freshN ((pagesF D.now n).length + 1) r with
        | none => rw [hf2] at hf; cases hf
        | some f' =>
          rw [hf2] at hf
          injection hf with hf
          have hf : f' + 1 = f := hf
          refine key f' ?_ ?_ (fun _ => by omega) ?_
          · rw [setP_len, ← hf2]; congr 1; omega
          · rw [if_pos he']; omega
          · rw [if_pos he']; omega
      · rw [if_neg he] at hf
        refine key f ?_ ?_ (fun e => absurd (by omega) he) ?_
        · rw [setP_len, ← hf]; congr 1; omega
        · rw [if_neg (by omega)]; omega
        · rw [if_neg (by omega), Nat.add_zero]

theorem fresh_chunks_aux (g : Nat → List UInt8) (m : Nat) : ∀ c, freshN c ((List.range' c m).map fun (k : Nat) => ((k : Int), g k)) = some m := by
  induction m with
  | zero => intro c; rfl
  | succ m ih =>
    intro c
    rw [List.range'_succ, List.map_cons, freshN, if_neg (by omega), if_pos rfl, ih]
    rfl
theorem fresh_chunks (b : List UInt8) : freshN 0 (chunks b) = some (pagesOf b.length) := by
  unfold chunks
  rw [List.range_eq_range']
  exact fresh_chunks_aux _ _ 0
theorem chunks_short (b : List UInt8) : ∀ p ∈ chunks b, p.2.length ≤ 512 := by
  intro p hp
  obtain ⟨k, _, rfl⟩ := List.mem_map.1 hp
  exact chunk_len b k

theorem Roomy.sync {D : Dsk} {room k : Nat} (h : Roomy D room k) {n : List UInt8} (h2 : (getF D.now n).isSome = true) : (syncD D n).2 = 0 ∧ Roomy (syncD D n).1 room k ∧ (syncD D n).1.now = D.now := by
  rw [sync_calm h.off h2 (by rw [h.fuse]; omega)]
  exact ⟨rfl, ⟨h.off, by show D.fuse - 1 = 0; rw [h.fuse], h.once, h.room, h.count⟩, rfl⟩
theorem Roomy.removed {D : Dsk} {room k : Nat} (h : Roomy D room k) {n : List UInt8} (h2 : (getF D.now n).isSome = true) :
    (removeD D n).2 = 0 ∧ Roomy (removeD D n).1 room (k - (pagesF D.now n).length) ∧ (pagesF D.now n).length ≤ k ∧ (∀ m, getF (removeD D n).1.now m = if m = n then none else getF D.now m) := by
  obtain ⟨a, b, c⟩ := h.remove h2
  refine ⟨a, b, c, fun m => ?_⟩
  rw [remove_calm h.off h2 (by rw [h.fuse]; omega)]
  exact getF_without D.now n m
theorem pagesF_get {l l' : List Fil} {m : List UInt8} (h : getF l m = getF l' m) : pagesF l m = pagesF l' m := by unfold pagesF; rw [h]
theorem Roomy.rename {D : Dsk} {room k : Nat} (h : Roomy D room k) {a b : List UInt8} (h2 : (getF D.now a).isSome = true) (h3 : (getF D.now b).isSome = false) (hne : a ≠ b) :
    (renameD D a b).2 = 0 ∧ Roomy (renameD D a b).1 room k ∧ (∀ m, getF (renameD D a b).1.now m = if m = b then some ⟨b, pagesF D.now a⟩ else if m = a then none else getF D.now m) := by
  have e : renameD D a b = (renames (actD D) a b, 0) := by
    unfold renameD
    rw [may_ok h.off h2, ends_calm (by rw [h.fuse]; omega), if_pos ⟨rfl, hne⟩]
  rw [e]
  have h1 := count_without h.once a
  have h4 := count_put (without_once h.once a) ⟨b, pagesF D.now a⟩
  have h5 : pagesF (without D.now a) b = [] := pages_of_none (by rw [getF_without, if_neg hne.symm]; exact h3)
  simp only [h5, List.length_nil] at h4
  have hkc := h.count
  refine ⟨rfl, ⟨h.off, by show D.fuse - 1 = 0; rw [h.fuse], put_once (without_once h.once a) _, h.room, ?_⟩, fun m => ?_⟩
  · show Cd.count (putF (without D.now a) ⟨b, pagesF D.now a⟩) = k
    omega
  · show getF (putF (without D.now a) ⟨b, pagesF D.now a⟩) m = _
    rw [getF_put, getF_without]

/-- Neither a draft nor a journal is there. -/
structure Bare (D : Dsk) (n : List UInt8) : Prop where
  draft : (getF D.now (drf n)).isSome = false
  journal : (getF D.now (jnl n)).isSome = false

theorem hasLong_none {ws : Pgs} (h : hasLong ws = false) : ∀ p ∈ ws, p.2.length ≤ 512 := by
  intro p hp
  unfold hasLong at h
  have := List.any_eq_false.1 h p hp
  simpa using this
theorem pagesOf_pos {n : Nat} (h : 0 < n) : 0 < pagesOf n := by unfold pagesOf; omega
theorem chunks_ne {b : List UInt8} (h : 0 < b.length) : chunks b ≠ [] := fun e => by
  have := chunks_len b
  rw [e] at this
  have := pagesOf_pos h
  simp at *
  omega
theorem frm_pos (x : List UInt8) : 0 < (frm x).length := by have := frm_ge x; omega

/-- The record is the journal; nothing else turns. -/
theorem Roomy.post {D : Dsk} {room k : Nat} (h : Roomy D room k) {n b : List UInt8} (hb : Bare D n) (h0 : 0 < b.length) (hk : k + pagesOf b.length ≤ room) :
    (postD D n b).2 = 0 ∧ Roomy (postD D n b).1 room (k + pagesOf b.length) ∧ (∀ m, m ≠ jnl n → m ≠ drf n → pagesF (postD D n b).1.now m = pagesF D.now m ∧ (getF (postD D n b).1.now m).isSome = (getF D.now m).isSome) ∧
      (getF (postD D n b).1.now (drf n)).isSome = false ∧ (getF (postD D n b).1.now (jnl n)).isSome = true ∧ (pagesF (postD D n b).1.now (jnl n)).length = pagesOf b.length := by
  have hd : discardD D n = (D, 0) := by unfold discardD; rw [if_neg (by rw [hb.draft]; simp)]
  have hp0 : pagesF D.now (drf n) = [] := pages_of_none hb.draft
  obtain ⟨a1, a2, a3, a4⟩ := h.writes (n := drf n) (chunks b) (f := pagesOf b.length) (by rw [hp0]; exact fresh_chunks b) hk (chunks_short b)
  have hw1 := a4 (drf n)
  rw [if_pos ⟨rfl, chunks_ne h0⟩] at hw1
  obtain ⟨b1, b2, b3⟩ := a2.sync hw1
  have hj : (getF (syncD (Cd.writes D (drf n) (chunks b)).1 (drf n)).1.now (jnl n)).isSome = false := by
    rw [b3, a4, if_neg (fun h2 => jnl_drf n h2.1)]; exact hb.journal
  obtain ⟨c1, c2, c3⟩ := b2.rename (a := drf n) (b := jnl n) (by rw [b3]; exact hw1) hj (fun e => jnl_drf n e.symm)
  have e : postD D n b = renameD (syncD (Cd.writes D (drf n) (chunks b)).1 (drf n)).1 (drf n) (jnl n) := by
    unfold postD
    rw [hd]
    simp only [ne_eq, not_true_eq_false, if_false, a1, b1]
  rw [e]
  refine ⟨c1, c2, fun m m1 m2 => ?_, ?_, ?_, ?_⟩
  · have := c3 m
    rw [if_neg m1, if_neg m2, b3] at this
    refine ⟨?_, ?_⟩
    · rw [pagesF_get this, a3, if_neg m2]
    · rw [this, a4, if_neg (fun h2 => m2 h2.1)]
  · rw [c3, if_neg (fun e => jnl_drf n e.symm), if_pos rfl]; rfl
  · rw [c3, if_pos rfl]; rfl
  · have : pagesF (renameD (syncD (Cd.writes D (drf n) (chunks b)).1 (drf n)).1 (drf n) (jnl n)).1.now (jnl n) = pagesF (Cd.writes D (drf n) (chunks b)).1.now (drf n) := by
      unfold pagesF
      rw [c3, if_pos rfl, b3]
      rfl
    rw [this, a3, if_pos rfl, hp0]
    have hl : ∀ (ws : Pgs) (P : List (List UInt8)) (f : Nat), freshN P.length ws = some f → (laidP P ws).length = P.length + f := by
      intro ws
      induction ws with
      | nil => intro P f hf; injection hf with hf; subst hf; rfl
      | cons p r ih =>
        intro P f hf
        obtain ⟨i, c⟩ := p
        rw [freshN] at hf
        show (laidP (setP P i.toNat (pad c)) r).length = _
        split at hf
        · cases hf
        · split at hf
          · cases hf2 : freshN (P.length + 1) r with
            | none => rw [hf2] at hf; cases hf
            | some f' =>
              rw [hf2] at hf
              injection hf with hf
              have hf : f' + 1 = f := hf
              rw [ih _ f' (by rw [setP_len, ← hf2]; congr 1; omega), setP_len]
              omega
          · rw [ih _ f (by rw [setP_len, ← hf]; congr 1; omega), setP_len]
            omega
    have := hl (chunks b) [] _ (fresh_chunks b)
    simpa using this

/-- The pages are written, the journal is gone. -/
theorem Roomy.settle {D : Dsk} {room k f : Nat} (h : Roomy D room k) {n : List UInt8} {ws : Pgs} (hj : (getF D.now (jnl n)).isSome = true) (hd : (getF D.now (drf n)).isSome = false) (hf : freshN (pagesF D.now n).length ws = some f) (hk : k + f ≤ room) (hl : ∀ p ∈ ws, p.2.length ≤ 512) :
    (settleD D n ws).2 = 0 ∧ Roomy (settleD D n ws).1 room (k + f - (pagesF D.now (jnl n)).length) ∧ (pagesF D.now (jnl n)).length ≤ k + f ∧ Bare (settleD D n ws).1 n ∧
      (∀ m, m ≠ jnl n → pagesF (settleD D n ws).1.now m = (if m = n then laidP (pagesF D.now n) ws else pagesF D.now m) ∧ (getF (settleD D n ws).1.now m).isSome = if m = n ∧ ws ≠ [] then true else (getF D.now m).isSome) := by
  obtain ⟨a1, a2, a3, a4⟩ := h.writes (n := n) ws hf hk hl
  have hs : (syncIf (Cd.writes D n ws).1 n).2 = 0 ∧ Roomy (syncIf (Cd.writes D n ws).1 n).1 room (k + f) ∧ (syncIf (Cd.writes D n ws).1 n).1.now = (Cd.writes D n ws).1.now := by
    unfold syncIf
    by_cases hh : (getF (Cd.writes D n ws).1.now n).isSome = true
    · rw [if_pos hh]; exact a2.sync hh
    · rw [if_neg hh]; exact ⟨rfl, a2, rfl⟩
  obtain ⟨b1, b2, b3⟩ := hs
  have e : settleD D n ws = removeD (syncIf (Cd.writes D n ws).1 n).1 (jnl n) := by
    unfold settleD
    simp only [ne_eq, a1, b1, not_true_eq_false, if_false]
  rw [e]
  have hjj : (getF (syncIf (Cd.writes D n ws).1 n).1.now (jnl n)).isSome = true := by rw [b3, a4, if_neg (fun h2 => jnl_ne n h2.1)]; exact hj
  obtain ⟨c1, c2, c3, c4⟩ := b2.removed hjj
  have hjp : pagesF (syncIf (Cd.writes D n ws).1 n).1.now (jnl n) = pagesF D.now (jnl n) := by rw [b3, a3, if_neg (jnl_ne n)]
  rw [hjp] at c2 c3
  refine ⟨c1, c2, c3, ⟨?_, ?_⟩, fun m hm => ?_⟩
  · rw [c4, if_neg (fun e => jnl_drf n e.symm), b3, a4, if_neg (fun h2 => drf_ne n h2.1)]; exact hd
  · rw [c4, if_pos rfl]; rfl
  · have := c4 m
    rw [if_neg hm, b3] at this
    exact ⟨by rw [pagesF_get this, a3], by rw [this, a4]⟩

/-- A commit: what it answers, and what it leaves. -/
theorem Roomy.commit {D : Dsk} {room k : Nat} (h : Roomy D room k) {n : List UInt8} (hb : Bare D n) (ws : Pgs) :
    ((commitD D n ws).2 ≠ 0 ∧ (commitD D n ws).1 = D) ∨ ∃ f, hasLong ws = false ∧ freshN (pagesF D.now n).length ws = some f ∧ (ws ≠ [] → k + pagesOf (recF ws).length + f ≤ room) ∧ (commitD D n ws).2 = 0 ∧ Roomy (commitD D n ws).1 room (k + f) ∧ Bare (commitD D n ws).1 n ∧
      (∀ m, m ≠ jnl n → m ≠ drf n → pagesF (commitD D n ws).1.now m = (if m = n then laidP (pagesF D.now n) ws else pagesF D.now m) ∧ (getF (commitD D n ws).1.now m).isSome = if m = n ∧ ws ≠ [] then true else (getF D.now m).isSome) := by
  unfold commitD
  rw [if_neg (by rw [h.off]; simp)]
  cases hl : hasLong ws
  · rw [if_neg (by simp)]
    cases hf : freshN (pagesF D.now n).length ws with
    | none => exact .inl ⟨by simp, rfl⟩
    | some f =>
      simp only
      by_cases hws : ws = []
      · subst hws
        injection hf with hf
        subst hf
        rw [if_pos rfl]
        refine .inr ⟨0, by first | rfl | trivial, rfl, fun h => absurd rfl h, rfl, h, hb, fun m _ _ => ⟨?_, by simp⟩⟩
        show pagesF D.now m = if m = n then pagesF D.now n else _
        split
        · rename_i e; rw [e]
        · rfl
      · rw [if_neg hws]
        by_cases hroom : freeD D < (pagesOf (recF ws).length + f : Nat)
        · rw [if_pos hroom]
          exact .inl ⟨by simp, rfl⟩
        · rw [if_neg hroom]
          have hfr := h.free
          have hle : k + pagesOf (recF ws).length + f ≤ room := by
            rw [hfr] at hroom
            omega
          obtain ⟨a1, a2, a3, a4, a5, a6⟩ := h.post hb (b := recF ws) (frm_pos _) (by omega)
          rw [if_neg (by rw [a1]; simp)]
          have hn := a3 n (fun e => jnl_ne n e.symm) (fun e => drf_ne n e.symm)
          obtain ⟨b1, b2, b3, b4, b5⟩ := a2.settle (n := n) (ws := ws) a5 a4 (by rw [hn.1]; exact hf) hle (hasLong_none hl)
          rw [a6] at b2 b3
          refine .inr ⟨f, by first | rfl | trivial, rfl, fun _ => hle, b1, ?_, b4, fun m m1 m2 => ?_⟩
          · rw [show k + f = k + pagesOf (recF ws).length + f - pagesOf (recF ws).length by omega]
            exact b2
          · obtain ⟨c1, c2⟩ := b5 m m1
            have hm := a3 m m1 m2
            rw [c1, c2, hn.1, hm.1, hm.2]
            exact ⟨rfl, rfl⟩
  · rw [if_pos rfl]
    exact .inl ⟨by simp, rfl⟩

end Go.Proofs.Ythgnchgehmakjaa.Cd

/-
  Records in a file's pages, as the document tells of it, over a disk as the document tells of it: what pages tell, what Open, Append, Sync and Clear do. No Go in sight. Conditions: none.
-/
namespace Go.Proofs.Ythgnchgehmakjaa.Cd

/-- What a page tells of the log's bytes. -/
def toldP (p : List UInt8) : Nat := min ((p.getD 0 0).toNat + 256 * (p.getD 1 0).toNat) 510
def partP (p : List UInt8) : List UInt8 := (p.drop 2).take (toldP p)
/-- The log's bytes: up to the first page that has fewer than 510. -/
def logB : List (List UInt8) → List UInt8
  | [] => []
  | p :: r => if (partP p).length < 510 then partP p else partP p ++ logB r
def needP (n : Nat) : Nat := (n + 509) / 510
/-- What a full last page leaves out: the bytes behind the last full page. -/
def lastP (s : List UInt8) : List UInt8 := s.drop (s.length / 510 * 510)
def part (s : List UInt8) (j : Nat) : List UInt8 := (s.drop (510 * j)).take 510
/-- The page that has this part. -/
def pageB (b : List UInt8) : List UInt8 := [b8 b.length, b8 (b.length / 256)] ++ b

theorem toldP_le (p : List UInt8) : toldP p ≤ 510 := Nat.min_le_right _ _
theorem partP_le (p : List UInt8) : (partP p).length ≤ 510 := by have := toldP_le p; simp [partP]; omega
theorem partP_len {p : List UInt8} (h : p.length = 512) : (partP p).length = toldP p := by have := toldP_le p; simp [partP, h]; omega
theorem part_le (s : List UInt8) (j : Nat) : (part s j).length ≤ 510 := by simp [part]; omega
theorem part_len (s : List UInt8) (j : Nat) : (part s j).length = min 510 (s.length - 510 * j) := by simp [part]
theorem pageB_len (b : List UInt8) : (pageB b).length = b.length + 2 := by simp [pageB]
theorem lastP_len (s : List UInt8) : (lastP s).length = s.length % 510 := by simp [lastP]; omega
theorem lastP_part (s : List UInt8) : lastP s = part s (s.length / 510) := by
  unfold lastP part
  rw [Nat.mul_comm, List.take_of_length_le]
  simp; omega

theorem told_page {b : List UInt8} (h : b.length ≤ 510) (t : List UInt8) : toldP (pageB b ++ t) = b.length := by
  unfold toldP pageB
  simp only [List.cons_append, List.nil_append, List.getD_cons_zero, List.getD_cons_succ]
  rw [b8_nat, b8_nat]
  omega
theorem part_page {b : List UInt8} (h : b.length ≤ 510) (t : List UInt8) : partP (pageB b ++ t) = b := by
  unfold partP
  rw [told_page h]
  simp [pageB]
theorem part_pad {b : List UInt8} (h : b.length ≤ 510) : partP (pad (pageB b)) = b := part_page h _
theorem part_nought : partP nought = [] := by
  unfold partP
  rw [show toldP nought = 0 by decide]
  simp

/-- The pages of the log's bytes, as they are written. -/
def pagesL (s : List UInt8) : List (List UInt8) := (List.range (needP s.length)).map fun j => pad (pageB (part s j))
theorem pagesL_len (s : List UInt8) : (pagesL s).length = needP s.length := by simp [pagesL]

/-- The pages tell these bytes, and are no more than they take. -/
def Lay (P : List (List UInt8)) (s : List UInt8) : Prop := logB P = s ∧ P.length = needP s.length

theorem needP_pos {n : Nat} (h : 0 < n) : 0 < needP n := by unfold needP; omega

/-- Pages by number: what they tell is the bytes. -/
theorem logB_of (s : List UInt8) : ∀ (P : List (List UInt8)) (j : Nat), (∀ i p, P[i]? = some p → partP p = part s (j + i)) → s.length ≤ 510 * (j + P.length) → 510 * j ≤ s.length → logB P = s.drop (510 * j) := by
  intro P
  induction P with
  | nil =>
    intro j _ h1 h2
    rw [logB, List.drop_of_length_le (by simp at h1; omega)]
  | cons p r ih =>
    intro j h h1 h2
    have hp := h 0 p rfl
    rw [Nat.add_zero] at hp
    rw [logB, hp, part_len]
    simp only [List.length_cons] at h1
    by_cases hs : min 510 (s.length - 510 * j) < 510
    · rw [if_pos hs]
      unfold part
      rw [List.take_of_length_le (by simp; omega)]
    · rw [if_neg hs, ih (j + 1) (fun i q hq => by rw [h (i + 1) q (by simpa using hq)]; congr 1; omega) (by omega) (by omega)]
      unfold part
      rw [show 510 * (j + 1) = 510 * j + 510 by omega, ← List.drop_drop, List.take_append_drop]

theorem logB_pages (s : List UInt8) : logB (pagesL s) = s := by
  have := logB_of s (pagesL s) 0 (fun i p hp => by
    unfold pagesL at hp
    rw [List.getElem?_map] at hp
    obtain ⟨k, hk, rfl⟩ := Option.map_eq_some_iff.1 hp
    obtain ⟨h1, h2⟩ := List.getElem?_eq_some_iff.1 hk
    rw [List.getElem_range] at h2
    subst h2
    rw [part_pad (part_le _ _), Nat.zero_add]) (by rw [pagesL_len]; unfold needP; omega) (by omega)
  simpa using this
theorem lay_pages (s : List UInt8) : Lay (pagesL s) s := ⟨logB_pages s, pagesL_len s⟩
theorem lay_nil : Lay [] [] := ⟨rfl, rfl⟩

/-- What the pages of a log tell, one by one. -/
theorem logB_at : ∀ (P : List (List UInt8)) (i : Nat) (p : List UInt8), P[i]? = some p → 510 * i < (logB P).length → partP p = part (logB P) i := by
  intro P
  induction P with
  | nil => intro i p h; cases h
  | cons q r ih =>
    intro i p h hi
    rw [logB] at hi ⊢
    have hq := partP_le q
    by_cases hs : (partP q).length < 510
    · rw [if_pos hs] at hi ⊢
      have : i = 0 := by omega
      subst this
      injection h with h
      subst h
      unfold part
      rw [Nat.mul_zero, List.drop_zero, List.take_of_length_le hq]
    · rw [if_neg hs] at hi ⊢
      have hl : (partP q).length = 510 := by omega
      cases i with
      | zero =>
        injection h with h
        subst h
        unfold part
        rw [Nat.mul_zero, List.drop_zero, List.take_append_of_le_length (by omega), List.take_of_length_le hq]
      | succ i =>
        rw [List.length_append, hl] at hi
        rw [ih i p (by simpa using h) (by omega)]
        unfold part
        rw [show 510 * (i + 1) = (partP q).length + 510 * i by omega, ← List.drop_drop, List.drop_left]

theorem logB_le (P : List (List UInt8)) : (logB P).length ≤ 510 * P.length := by
  induction P with
  | nil => simp [logB]
  | cons p r ih =>
    have := partP_le p
    rw [logB]
    split
    · simp only [List.length_cons]; omega
    · rw [List.length_append, List.length_cons]; omega

/-- The first pages, which hold the first bytes. -/
theorem logB_take (P : List (List UInt8)) (k : Nat) : logB (P.take k) = (logB P).take (510 * k) := by
  induction P generalizing k with
  | nil => simp [logB]
  | cons p r ih =>
    cases k with
    | zero => simp [logB]
    | succ k =>
      have := partP_le p
      rw [List.take_succ_cons, logB, logB]
      by_cases hs : (partP p).length < 510
      · rw [if_pos hs, if_pos hs, List.take_of_length_le (by omega)]
      · rw [if_neg hs, if_neg hs, ih, show 510 * (k + 1) = (partP p).length + 510 * k by omega, List.take_append]
        rw [List.take_of_length_le (i := (partP p).length + 510 * k) (l := partP p) (by omega)]
        congr 2
        omega

theorem logB_append (A B : List (List UInt8)) (h : (logB A).length = 510 * A.length) : logB (A ++ B) = logB A ++ logB B := by
  induction A with
  | nil => rfl
  | cons p r ih =>
    have hp := partP_le p
    have hr := logB_le r
    rw [logB] at h
    rw [List.cons_append, logB, logB]
    by_cases hs : (partP p).length < 510
    · rw [if_pos hs] at h
      simp only [List.length_cons] at h
      omega
    · rw [if_neg hs, List.length_append, List.length_cons] at h
      rw [if_neg hs, if_neg hs, ih (by omega), List.append_assoc]
theorem logB_one (p : List UInt8) (r : List (List UInt8)) (h : (partP p).length < 510) : logB (p :: r) = partP p := by rw [logB, if_pos h]
theorem logB_single (p : List UInt8) : logB [p] = partP p := by
  rw [logB]
  split
  · rfl
  · rw [logB, List.append_nil]

/-! ### Calls -/

/-- A file is left no bytes but these; it had so many as it was found. -/
def trimD (D : Dsk) (n s : List UInt8) (found : Nat) : Dsk × Nat :=
  if (if needP s.length < (pagesF D.now n).length then cutD D n (needP s.length : Nat) else (D, 0)).2 ≠ 0 then (if needP s.length < (pagesF D.now n).length then cutD D n (needP s.length : Nat) else (D, 0)) else
  if min found (needP s.length * 510) = s.length then ((if needP s.length < (pagesF D.now n).length then cutD D n (needP s.length : Nat) else (D, 0)).1, 0) else
  if (writeD (if needP s.length < (pagesF D.now n).length then cutD D n (needP s.length : Nat) else (D, 0)).1 n ((needP s.length : Nat) - 1) (pageB (lastP s))).2 ≠ 0 then
    writeD (if needP s.length < (pagesF D.now n).length then cutD D n (needP s.length : Nat) else (D, 0)).1 n ((needP s.length : Nat) - 1) (pageB (lastP s)) else
  syncD (writeD (if needP s.length < (pagesF D.now n).length then cutD D n (needP s.length : Nat) else (D, 0)).1 n ((needP s.length : Nat) - 1) (pageB (lastP s))).1 n
/-- The pages from the one on in which s ends, of s and b behind it. -/
def chunksL (s b : List UInt8) : Pgs := (List.range (needP (lastP s ++ b).length)).map fun (k : Nat) => (((s.length / 510 + k : Nat) : Int), pageB (part (lastP s ++ b) k))
def putD (D : Dsk) (n s b : List UInt8) : Dsk × Nat := writes D n (chunksL s b)
/-- Bytes are appended, with the power on. -/
def appendD (D : Dsk) (n s b : List UInt8) : Dsk × Nat :=
  if b = [] then (D, 0) else if freeD D < ((needP (s.length + b.length) : Nat) : Int) - ((pagesF D.now n).length : Nat) then (D, 7) else putD D n s b
/-- An error, but for the one that the file isn't there. -/
def unless5 (e : Nat) : Nat := if e = 5 then 0 else e

theorem last_append (s b : List UInt8) (k : Nat) : part (lastP s ++ b) k = part (s ++ b) (s.length / 510 + k) := by
  unfold part lastP
  have h : s.drop (s.length / 510 * 510) ++ b = (s ++ b).drop (s.length / 510 * 510) := by rw [List.drop_append_of_le_length (by omega)]
  rw [h, List.drop_drop]
  congr 2
  omega
theorem need_last (s b : List UInt8) : s.length / 510 + needP (lastP s ++ b).length = needP (s.length + b.length) := by
  rw [List.length_append, lastP_len]
  unfold needP
  omega
theorem last_of_append (s b : List UInt8) : lastP (lastP s ++ b) = lastP (s ++ b) := by
  have h : lastP s ++ b = (s ++ b).drop (s.length / 510 * 510) := by unfold lastP; rw [List.drop_append_of_le_length (by omega)]
  unfold lastP
  have e : s.length / 510 * 510 + ((s ++ b).drop (s.length / 510 * 510)).length / 510 * 510 = (s ++ b).length / 510 * 510 := by
    simp only [List.length_drop, List.length_append]
    omega
  rw [show List.drop (s.length / 510 * 510) s ++ b = (s ++ b).drop (s.length / 510 * 510) from h, List.drop_drop, e]

end Go.Proofs.Ythgnchgehmakjaa.Cd

/-
  A log's calls, with the power on and no end of it in sight. No Go in sight. Conditions: none.
-/
namespace Go.Proofs.Ythgnchgehmakjaa.Cd

theorem fresh_range (g : Nat → List UInt8) (m : Nat) : ∀ (a c : Nat), a ≤ c → c ≤ a + m → freshN c ((List.range' a m).map fun (k : Nat) => ((k : Int), g k)) = some (a + m - c) := by
  induction m with
  | zero => intro a c h1 h2; rw [List.range'_zero, List.map_nil, freshN]; congr 1; omega
  | succ m ih =>
    intro a c h1 h2
    rw [List.range'_succ, List.map_cons, freshN]
    simp only
    rw [if_neg (by omega)]
    by_cases e : a = c
    · rw [if_pos (by omega), ih (a + 1) (c + 1) (by omega) (by omega)]
      simp only [Option.map_some]
      congr 1; omega
    · rw [if_neg (by omega), ih (a + 1) c (by omega) (by omega)]
      congr 1; omega

theorem setP_mid {P : List (List UInt8)} {a : Nat} (h : a ≤ P.length) (x : List UInt8) : setP P a x = P.take a ++ x :: P.drop (a + 1) := by
  by_cases e : a < P.length
  · rw [setP_in e, List.set_eq_take_append_cons_drop, if_pos e]
  · have : a = P.length := by omega
    subst this
    rw [setP_end, List.take_length, List.drop_of_length_le (by omega)]

theorem laid_range (g : Nat → List UInt8) (m : Nat) : ∀ (a : Nat) (P : List (List UInt8)), a ≤ P.length → P.length ≤ a + m → laidP P ((List.range' a m).map fun (k : Nat) => ((k : Int), g k)) = P.take a ++ (List.range' a m).map fun k => pad (g k) := by
  induction m with
  | zero =>
    intro a P h1 h2
    rw [List.range'_zero, List.map_nil, List.map_nil, List.append_nil, List.take_of_length_le (by omega)]
    rfl
  | succ m ih =>
    intro a P h1 h2
    rw [List.range'_succ, List.map_cons, List.map_cons]
    show laidP (setP P ((a : Int)).toNat (pad (g a))) _ = _
    rw [Int.toNat_natCast, setP_mid h1, ih (a + 1) _ (by simp; omega) (by simp; omega)]
    rw [List.take_append, List.take_of_length_le (i := a + 1) (l := P.take a) (by simp; omega)]
    rw [List.length_take, Nat.min_eq_left h1, show a + 1 - a = 1 by omega]
    simp

theorem chunks_range (s b : List UInt8) : chunksL s b = (List.range' (s.length / 510) (needP (lastP s ++ b).length)).map fun (k : Nat) => ((k : Int), pageB (part (s ++ b) k)) := by
  unfold chunksL
  rw [List.range'_eq_map_range, List.map_map]
  refine List.map_congr_left fun k _ => ?_
  simp only [Function.comp]
  rw [last_append]
theorem chunksL_len (s b : List UInt8) : (chunksL s b).length = needP (lastP s ++ b).length := by simp [chunksL]
theorem chunksL_short (s b : List UInt8) : ∀ p ∈ chunksL s b, p.2.length ≤ 512 := by
  intro p hp
  obtain ⟨k, _, rfl⟩ := List.mem_map.1 hp
  show (pageB _).length ≤ 512
  rw [pageB_len]
  have := part_le (lastP s ++ b) k
  omega
theorem chunksL_at (s b : List UInt8) {k : Nat} (hk : k < (chunksL s b).length) : (chunksL s b)[k] = (((s.length / 510 + k : Nat) : Int), pageB (part (lastP s ++ b) k)) := by
  simp [chunksL]

theorem need_lo (n : Nat) : n / 510 ≤ needP n ∧ needP n ≤ n / 510 + 1 := by unfold needP; omega
theorem needP_mono {a b : Nat} (h : a ≤ b) : needP a ≤ needP b := by unfold needP; omega

/-- The pages behind an Append. -/
def grown (P : List (List UInt8)) (s b : List UInt8) : List (List UInt8) := P.take (s.length / 510) ++ (List.range' (s.length / 510) (needP (lastP s ++ b).length)).map fun k => pad (pageB (part (s ++ b) k))

theorem lay_grown {P : List (List UInt8)} {s : List UInt8} (h : Lay P s) (b : List UInt8) : Lay (grown P s b) (s ++ b) := by
  obtain ⟨h1, h2⟩ := h
  have h3 := need_lo s.length
  have h4 := need_last s b
  have hl : (Cd.grown P s b).length = needP (s.length + b.length) := by
    unfold Cd.grown
    rw [List.length_append, List.length_map, List.length_range', List.length_take]
    omega
  refine ⟨?_, by rw [hl, List.length_append]⟩
  have := logB_of (s ++ b) (grown P s b) 0 (fun i p hp => by
    rw [Nat.zero_add]
    unfold Cd.grown at hp
    by_cases hi : i < s.length / 510
    · rw [List.getElem?_append_left (by simp; omega), List.getElem?_take, if_pos hi] at hp
      have := logB_at P i p hp (by rw [h1]; omega)
      rw [this, h1]
      unfold part
      rw [List.drop_append_of_le_length (by omega), List.take_append_of_le_length (by simp; omega)]
    · rw [List.getElem?_append_right (by simp; omega), List.getElem?_map] at hp
      obtain ⟨k, hk, rfl⟩ := Option.map_eq_some_iff.1 hp
      obtain ⟨k1, k2⟩ := List.getElem?_eq_some_iff.1 hk
      rw [List.getElem_range'] at k2
      rw [part_pad (part_le _ _), ← k2]
      congr 1
      rw [List.length_take]
      omega) (by rw [hl, List.length_append]; unfold needP; omega) (by omega)
  simpa using this

/-- Pages as they are written stay so. -/
theorem pages_grown (s b : List UInt8) : grown (pagesL s) s b = pagesL (s ++ b) := by
  have h3 := need_lo s.length
  have h4 := need_last s b
  have hm : needP (s ++ b).length = s.length / 510 + needP (lastP s ++ b).length := by rw [List.length_append]; exact h4.symm
  unfold grown pagesL
  rw [hm, List.range_eq_range', List.range_eq_range', ← List.map_take]
  have h5 : List.range' 0 (s.length / 510 + needP (lastP s ++ b).length) = List.range' 0 (s.length / 510) ++ List.range' (s.length / 510) (needP (lastP s ++ b).length) := by
    rw [← List.range'_append_1, Nat.zero_add]
  rw [h5, List.map_append]
  congr 1
  have h6 : (List.range' 0 (needP s.length)).take (s.length / 510) = List.range' 0 (s.length / 510) := by
    refine List.ext_getElem? fun i => ?_
    rw [List.getElem?_take]
    by_cases hi : i < s.length / 510
    · rw [if_pos hi, List.getElem?_range' (by omega), List.getElem?_range' hi]
    · rw [if_neg hi, List.getElem?_eq_none (by simp; omega)]
  rw [h6]
  refine List.map_congr_left fun k hk => ?_
  rw [List.mem_range'_1] at hk
  congr 2
  unfold part
  rw [List.drop_append_of_le_length (by omega), List.take_append_of_le_length (by simp; omega)]

/-- The pages behind an Append; of nothing they stay. -/
def grows (P : List (List UInt8)) (s b : List UInt8) : List (List UInt8) := if b = [] then P else grown P s b
theorem lay_grows {P : List (List UInt8)} {s : List UInt8} (h : Lay P s) (b : List UInt8) : Lay (grows P s b) (s ++ b) := by
  unfold grows
  split
  · rename_i e; rw [e, List.append_nil]; exact h
  · exact lay_grown h b
theorem pages_grows (s b : List UInt8) : grows (pagesL s) s b = pagesL (s ++ b) := by
  unfold grows
  split
  · rename_i e; rw [e, List.append_nil]
  · exact pages_grown s b

/-- An Append that has room. -/
theorem Roomy.putL {D : Dsk} {room k : Nat} (h : Roomy D room k) {n s b : List UInt8} (hs : Lay (pagesF D.now n) s) (hr : k + (needP (s.length + b.length) - needP s.length) ≤ room) :
    (putD D n s b).2 = 0 ∧ Roomy (putD D n s b).1 room (k + (needP (s.length + b.length) - needP s.length)) ∧ (∀ m, pagesF (putD D n s b).1.now m = if m = n then grown (pagesF D.now n) s b else pagesF D.now m) ∧
      (∀ m, m ≠ n → (getF (putD D n s b).1.now m).isSome = (getF D.now m).isSome) := by
  have h3 := need_lo s.length
  have h4 := need_last s b
  have h2 := hs.2
  have hf := fresh_range (fun k => pageB (part (s ++ b) k)) (needP (lastP s ++ b).length) (s.length / 510) (pagesF D.now n).length (by omega) (by have := needP_mono (Nat.le_add_right s.length b.length); omega)
  have hl := laid_range (fun k => pageB (part (s ++ b) k)) (needP (lastP s ++ b).length) (s.length / 510) (pagesF D.now n) (by omega) (by have := needP_mono (Nat.le_add_right s.length b.length); omega)
  rw [← chunks_range] at hf hl
  obtain ⟨a1, a2, a3, a4⟩ := h.writes (n := n) (chunksL s b) hf (by omega) (chunksL_short s b)
  refine ⟨a1, ?_, fun m => ?_, fun m hm => ?_⟩
  · have e : s.length / 510 + needP (lastP s ++ b).length - (pagesF D.now n).length = needP (s.length + b.length) - needP s.length := by omega
    rw [← e]
    exact a2
  · rw [show (putD D n s b).1 = (Cd.writes D n (chunksL s b)).1 from rfl, a3]
    rw [hl]
    rfl
  · rw [show (putD D n s b).1 = (Cd.writes D n (chunksL s b)).1 from rfl, a4, if_neg (fun e => hm e.1)]

theorem Roomy.appendL {D : Dsk} {room k : Nat} (h : Roomy D room k) {n s : List UInt8} (hs : Lay (pagesF D.now n) s) (hk : k ≤ room) (b : List UInt8) :
    (room < k + (needP (s.length + b.length) - needP s.length) ∧ appendD D n s b = (D, 7)) ∨
      (k + (needP (s.length + b.length) - needP s.length) ≤ room ∧ (appendD D n s b).2 = 0 ∧ Roomy (appendD D n s b).1 room (k + (needP (s.length + b.length) - needP s.length)) ∧
        (∀ m, pagesF (appendD D n s b).1.now m = if m = n then grows (pagesF D.now n) s b else pagesF D.now m) ∧ (∀ m, m ≠ n → (getF (appendD D n s b).1.now m).isSome = (getF D.now m).isSome)) := by
  have hf := h.free
  have hl := hs.2
  have hm := needP_mono (Nat.le_add_right s.length b.length)
  unfold appendD
  by_cases hb : b = []
  · subst hb
    rw [if_pos rfl]
    right
    have e : needP (s.length + ([] : List UInt8).length) - needP s.length = 0 := by simp
    have hg : grows (pagesF D.now n) s [] = pagesF D.now n := if_pos rfl
    exact ⟨by omega, rfl, by rw [e]; exact h, fun m => by
      split
      · rename_i e; rw [e, hg]
      · rfl, fun _ _ => rfl⟩
  · rw [if_neg hb]
    by_cases hr : freeD D < ((needP (s.length + b.length) : Nat) : Int) - ((pagesF D.now n).length : Nat)
    · rw [if_pos hr]
      exact .inl ⟨by omega, rfl⟩
    · rw [if_neg hr]
      obtain ⟨a1, a2, a3, a4⟩ := h.putL (n := n) (b := b) hs (by omega)
      exact .inr ⟨by omega, a1, a2, fun m => by rw [a3 m]; unfold grows; rw [if_neg hb], a4⟩

/-- What Open leaves, of any pages: the records' bytes, in as many pages as they take. -/
theorem Roomy.trimL {D : Dsk} {room k : Nat} (h : Roomy D room k) {n s cur : List UInt8} (hb : logB (pagesF D.now n) = s ++ cur) :
    (trimD D n s (logB (pagesF D.now n)).length).2 = 0 ∧ Roomy (trimD D n s (logB (pagesF D.now n)).length).1 room (k - ((pagesF D.now n).length - needP s.length)) ∧ Lay (pagesF (trimD D n s (logB (pagesF D.now n)).length).1.now n) s ∧ needP s.length ≤ (pagesF D.now n).length ∧
      (∀ m, m ≠ n → pagesF (trimD D n s (logB (pagesF D.now n)).length).1.now m = pagesF D.now m ∧ (getF (trimD D n s (logB (pagesF D.now n)).length).1.now m).isSome = (getF D.now m).isSome) := by
  obtain ⟨P, hP⟩ : ∃ x, pagesF D.now n = x := ⟨_, rfl⟩
  rw [hP] at hb ⊢
  obtain ⟨f, hf⟩ : ∃ x, (logB P).length = x := ⟨_, rfl⟩
  have hle := logB_le P
  have hsl : s.length ≤ f := by rw [← hf, hb, List.length_append]; omega
  have hneed : needP s.length ≤ P.length := by unfold needP; omega
  rw [hf] at hle ⊢
  -- the cut
  obtain ⟨C, hC⟩ : ∃ C : Dsk × Nat, (if needP s.length < (pagesF D.now n).length then cutD D n (needP s.length : Nat) else (D, 0)) = C := ⟨_, rfl⟩
  have hcut : C.2 = 0 ∧ Roomy C.1 room (k - (P.length - needP s.length)) ∧ pagesF C.1.now n = P.take (needP s.length) ∧ (0 < s.length → (getF C.1.now n).isSome = true) ∧
      (∀ m, m ≠ n → pagesF C.1.now m = pagesF D.now m ∧ (getF C.1.now m).isSome = (getF D.now m).isSome) := by
    rw [← hC, hP]
    have his : 0 < P.length → (getF D.now n).isSome = true := fun h0 => by
      cases hg : (getF D.now n).isSome
      · rw [pages_of_none hg] at hP
        rw [← hP] at h0
        simp at h0
      · rfl
    by_cases hlt : needP s.length < P.length
    · rw [if_pos hlt]
      have his := his (by omega)
      obtain ⟨a1, a2, a3, a4, a5⟩ := h.cut his (needP s.length) (by rw [hP]; exact hneed)
      rw [hP] at a4
      refine ⟨a1, a4, ?_, fun _ => a2, fun m hm => ?_⟩
      · rw [cut_calm h.off his (by rw [h.fuse]; omega)]
        show pagesF (putF D.now ⟨n, (pagesF D.now n).take (needP s.length)⟩) n = _
        rw [pagesF_put, if_pos rfl, hP]
      · rw [cut_calm h.off his (by rw [h.fuse]; omega)]
        show pagesF (putF D.now _) m = _ ∧ (getF (putF D.now _) m).isSome = _
        rw [pagesF_put, if_neg (by exact hm), getF_put, if_neg (by exact hm)]
        exact ⟨rfl, rfl⟩
    · rw [if_neg hlt]
      refine ⟨rfl, ?_, ?_, fun h0 => ?_, fun m _ => ⟨rfl, rfl⟩⟩
      · rw [show k - (P.length - needP s.length) = k by omega]; exact h
      · rw [hP, List.take_of_length_le (by omega)]
      · exact his (by have := needP_pos h0; omega)
  obtain ⟨c1, c2, c3, c4, c5⟩ := hcut
  have htake := logB_take P (needP s.length)
  unfold trimD
  rw [hC, if_neg (fun e => e c1)]
  by_cases hm : min f (needP s.length * 510) = s.length
  · rw [if_pos hm]
    refine ⟨rfl, c2, ⟨?_, ?_⟩, hneed, c5⟩
    · rw [c3, htake, hb, Nat.mul_comm]
      have h1 : (s ++ cur).length = f := by rw [← hb, hf]
      rw [List.length_append] at h1
      have h2 : cur.length = 0 ∨ needP s.length * 510 = s.length := by omega
      rcases h2 with h2 | h2
      · rw [List.length_eq_zero_iff.1 h2, List.append_nil, List.take_of_length_le]
        unfold needP; omega
      · rw [h2, List.take_left]
    · rw [c3, List.length_take]; omega
  · rw [if_neg hm]
    have h0 : 0 < s.length := by
      rcases Nat.eq_zero_or_pos s.length with e | e
      · exfalso
        rw [e] at hm
        exact hm (by unfold needP; omega)
      · exact e
    have hn1 : needP s.length - 1 = s.length / 510 ∧ 0 < needP s.length ∧ s.length < 510 * needP s.length := by
      unfold needP at hm ⊢; omega
    have hcl : (pagesF C.1.now n).length = needP s.length := by rw [c3, List.length_take]; omega
    have hi : (((needP s.length : Nat) : Int) - 1) = ((needP s.length - 1 : Nat) : Int) := by omega
    have hpb : (pageB (lastP s)).length ≤ 512 := by rw [pageB_len, lastP_len]; omega
    obtain ⟨w1, w2, w3, w4⟩ := c2.put (n := n) (b := pageB (lastP s)) (i := needP s.length - 1) (by omega) hpb (fun e => by omega)
    rw [hi, if_neg (fun e => e w1)]
    rw [if_neg (by omega), Nat.add_zero] at w2
    have hw4 := w4 n
    rw [if_pos rfl] at hw4
    obtain ⟨y1, y2, y3⟩ := w2.sync (n := n) hw4
    refine ⟨y1, y2, ⟨?_, ?_⟩, hneed, fun m hmn => ?_⟩
    · rw [y3, w3, if_pos rfl, setP_in (by omega), c3]
      have := logB_of s ((P.take (needP s.length)).set (needP s.length - 1) (pad (pageB (lastP s)))) 0 (fun i p hp => by
        rw [Nat.zero_add]
        rw [List.getElem?_set] at hp
        by_cases e : needP s.length - 1 = i
        · rw [if_pos e] at hp
          split at hp
          · injection hp with hp
            rw [← hp, part_pad (by rw [lastP_len]; omega), lastP_part]
            congr 1; omega
          · cases hp
        · rw [if_neg e, List.getElem?_take] at hp
          split at hp
          · have hpi := logB_at P i p hp (by rw [hf]; omega)
            rw [hpi, hb]
            unfold part
            rw [List.drop_append_of_le_length (by omega), List.take_append_of_le_length (by simp; omega)]
          · cases hp) (by rw [List.length_set, List.length_take]; omega) (by omega)
      simpa using this
    · rw [y3, w3, if_pos rfl, setP_len]; omega
    · rw [y3, w3, if_neg hmn, w4, if_neg hmn]
      exact c5 m hmn

end Go.Proofs.Ythgnchgehmakjaa.Cd

/-
  How many acts a commit takes; what a call that is OK leaves of the power. No Go in sight. Conditions: none.
-/
namespace Go.Proofs.Ythgnchgehmakjaa.Cd

theorem ends_ok {D D1 : Dsk} (h : (ends D D1 0).2 = 0) : ends D D1 0 = (D1, 0) := by
  unfold ends at h ⊢
  split
  · rename_i e; rw [if_pos e] at h; cases h
  · rfl
theorem write_ok {D : Dsk} {n b : List UInt8} {i : Int} (h : (writeD D n i b).2 = 0) : writeD D n i b = (wrote D n i.toNat b, 0) ∧ D.off = false ∧ b.length ≤ 512 ∧ 0 ≤ i ∧ i ≤ ((pagesF D.now n).length : Int) := by
  unfold writeD at h ⊢
  split at h
  · cases h
  · rename_i h1
    rw [if_neg h1]
    split at h
    · cases h
    · rename_i h2
      rw [if_neg h2]
      split at h
      · cases h
      · rename_i h3
        rw [if_neg h3]
        split at h
        · cases h
        · rename_i h4
          rw [if_neg h4]
          exact ⟨ends_ok h, by simpa using h1, by omega, by omega, by omega⟩
theorem may_is {D : Dsk} {n : List UInt8} (h : (mayD D n).2 = 0) : mayD D n = (actD D, 0) ∧ D.off = false ∧ (getF D.now n).isSome = true := by
  unfold mayD at h ⊢
  split at h
  · cases h
  · rename_i h1
    rw [if_neg h1]
    split at h
    · cases h
    · rename_i h2
      rw [if_neg h2]
      exact ⟨ends_ok h, by simpa using h1, by cases e : (getF D.now n).isSome; exact absurd e h2; rfl⟩
theorem sync_ok {D : Dsk} {n : List UInt8} (h : (syncD D n).2 = 0) : syncD D n = (syncs (actD D) n, 0) ∧ D.off = false ∧ (getF D.now n).isSome = true := by
  unfold syncD at h ⊢
  by_cases e : (mayD D n).2 = 0
  · obtain ⟨h1, h2, h3⟩ := may_is e
    rw [if_pos e, h1]
    exact ⟨rfl, h2, h3⟩
  · rw [if_neg e] at h; exact absurd h e
theorem remove_ok {D : Dsk} {n : List UInt8} (h : (removeD D n).2 = 0) : removeD D n = (removes (actD D) n, 0) ∧ D.off = false ∧ (getF D.now n).isSome = true := by
  unfold removeD at h ⊢
  by_cases e : (mayD D n).2 = 0
  · obtain ⟨h1, h2, h3⟩ := may_is e
    rw [if_pos e, h1]
    exact ⟨rfl, h2, h3⟩
  · rw [if_neg e] at h; exact absurd h e
theorem rename_ok {D : Dsk} {a b : List UInt8} (hne : a ≠ b) (h : (renameD D a b).2 = 0) : renameD D a b = (renames (actD D) a b, 0) ∧ D.off = false ∧ (getF D.now a).isSome = true := by
  unfold renameD at h ⊢
  by_cases e : (mayD D a).2 = 0
  · obtain ⟨h1, h2, h3⟩ := may_is e
    rw [if_pos ⟨e, hne⟩, h1]
    exact ⟨rfl, h2, h3⟩
  · rw [if_neg (fun h => e h.1)] at h; exact absurd h e

theorem writes_ok {n : List UInt8} (ws : Pgs) : ∀ {D : Dsk}, (writes D n ws).2 = 0 → (writes D n ws).1.acts = D.acts + ws.length ∧ (writes D n ws).1.off = D.off ∧ (ws ≠ [] → D.off = false) := by
  induction ws with
  | nil => intro D _; exact ⟨rfl, rfl, fun h => absurd rfl h⟩
  | cons p r ih =>
    intro D h
    rw [writes] at h ⊢
    by_cases e : (writeD D n p.1 p.2).2 = 0
    · rw [if_pos e] at h ⊢
      obtain ⟨h1, h2, _⟩ := write_ok e
      obtain ⟨q1, q2, _⟩ := ih h
      rw [h1] at q1 q2 ⊢
      have e1 : (wrote D n p.1.toNat p.2).acts = D.acts + 1 := rfl
      have e2 : (wrote D n p.1.toNat p.2).off = D.off := rfl
      rw [e1] at q1
      rw [e2] at q2
      exact ⟨by rw [q1, List.length_cons]; omega, q2, fun _ => h2⟩
    · rw [if_neg e] at h; exact absurd h e

theorem post_ok {D : Dsk} {n b : List UInt8} (h : (postD D n b).2 = 0) (hb : (getF D.now (drf n)).isSome = false) : (postD D n b).1.acts = D.acts + pagesOf b.length + 2 ∧ (postD D n b).1.off = false := by
  have hd : discardD D n = (D, 0) := by unfold discardD; rw [if_neg (by rw [hb]; simp)]
  unfold postD at h ⊢
  simp only [hd, ne_eq, not_true_eq_false, if_false] at h ⊢
  by_cases e1 : (writes D (drf n) (chunks b)).2 = 0
  · rw [if_neg (fun h => h e1)] at h ⊢
    obtain ⟨a1, a2, _⟩ := writes_ok _ e1
    by_cases e2 : (syncD (writes D (drf n) (chunks b)).1 (drf n)).2 = 0
    · rw [if_neg (fun h => h e2)] at h ⊢
      obtain ⟨b1, b2, _⟩ := sync_ok e2
      obtain ⟨c1, c2, _⟩ := rename_ok (fun e => jnl_drf n e.symm) h
      rw [c1]
      refine ⟨?_, c2⟩
      show (syncD (writes D (drf n) (chunks b)).1 (drf n)).1.acts + 1 = _
      rw [b1]
      show (writes D (drf n) (chunks b)).1.acts + 1 + 1 = _
      rw [a1, chunks_len]
    · rw [if_pos e2] at h; exact absurd h e2
  · rw [if_pos e1] at h; exact absurd h e1

theorem settle_ok {D : Dsk} {n : List UInt8} {ws : Pgs} (h : (settleD D n ws).2 = 0) (hn : (getF (writes D n ws).1.now n).isSome = true) : (settleD D n ws).1.acts = D.acts + ws.length + 2 ∧ (settleD D n ws).1.off = false := by
  unfold settleD at h ⊢
  by_cases e1 : (writes D n ws).2 = 0
  · rw [if_neg (fun h => h e1)] at h ⊢
    obtain ⟨a1, a2, _⟩ := writes_ok _ e1
    have hs : syncIf (writes D n ws).1 n = syncD (writes D n ws).1 n := by unfold syncIf; rw [if_pos hn]
    rw [hs] at h ⊢
    by_cases e2 : (syncD (writes D n ws).1 n).2 = 0
    · rw [if_neg (fun h => h e2)] at h ⊢
      obtain ⟨b1, b2, _⟩ := sync_ok e2
      obtain ⟨c1, c2, _⟩ := remove_ok h
      rw [c1]
      refine ⟨?_, c2⟩
      show (syncD (writes D n ws).1 n).1.acts + 1 = _
      rw [b1]
      show (writes D n ws).1.acts + 1 + 1 = _
      rw [a1]
    · rw [if_pos e2] at h; exact absurd h e2
  · rw [if_pos e1] at h; exact absurd h e1

/-- The file that is written is there. -/
theorem writes_is {n : List UInt8} (ws : Pgs) : ∀ {D : Dsk}, (writes D n ws).2 = 0 → ws ≠ [] → (getF (writes D n ws).1.now n).isSome = true := by
  have key : ∀ (ws : Pgs) {D : Dsk}, (writes D n ws).2 = 0 → (getF D.now n).isSome = true → (getF (writes D n ws).1.now n).isSome = true := by
    intro ws
    induction ws with
    | nil => intro D _ h; exact h
    | cons p r ih =>
      intro D h h2
      rw [writes] at h ⊢
      by_cases e : (writeD D n p.1 p.2).2 = 0
      · rw [if_pos e] at h ⊢
        refine ih h ?_
        rw [(write_ok e).1]
        show (getF (wrote D n _ _).now n).isSome = true
        rw [wrote_is, if_pos rfl]
      · rw [if_neg e] at h; exact absurd h e
  intro D h hne
  cases ws with
  | nil => exact absurd rfl hne
  | cons p r =>
    rw [writes] at h ⊢
    by_cases e : (writeD D n p.1 p.2).2 = 0
    · rw [if_pos e] at h ⊢
      refine key r h ?_
      rw [(write_ok e).1]
      show (getF (wrote D n _ _).now n).isSome = true
      rw [wrote_is, if_pos rfl]
    · rw [if_neg e] at h; exact absurd h e

/-- What is OK leaves the power on. -/
theorem post_on {D : Dsk} {n b : List UInt8} (h : (postD D n b).2 = 0) : (postD D n b).1.off = false := by
  unfold postD at h ⊢
  by_cases e0 : (discardD D n).2 = 0
  · rw [if_neg (fun h => h e0)] at h ⊢
    by_cases e1 : (writes (discardD D n).1 (drf n) (chunks b)).2 = 0
    · rw [if_neg (fun h => h e1)] at h ⊢
      by_cases e2 : (syncD (writes (discardD D n).1 (drf n) (chunks b)).1 (drf n)).2 = 0
      · rw [if_neg (fun h => h e2)] at h ⊢
        obtain ⟨c1, c2, _⟩ := rename_ok (fun e => jnl_drf n e.symm) h
        rw [c1]
        exact c2
      · rw [if_pos e2] at h; exact absurd h e2
    · rw [if_pos e1] at h; exact absurd h e1
  · rw [if_pos e0] at h; exact absurd h e0
/-- There are no more new pages than writes. -/
theorem laid_len' (ws : Pgs) : ∀ {c f : Nat}, freshN c ws = some f → f ≤ ws.length := by
  induction ws with
  | nil => intro c f h; injection h with h; omega
  | cons p r ih =>
    intro c f h
    rw [freshN] at h
    split at h
    · cases h
    · split at h
      · cases hr : freshN (c + 1) r with
        | none => rw [hr] at h; cases h
        | some g =>
          rw [hr] at h
          injection h with h
          have := ih hr
          have h : g + 1 = f := h
          rw [List.length_cons]
          omega
      · have := ih h
        rw [List.length_cons]
        omega

theorem commit_acts {D : Dsk} {n : List UInt8} {ws : Pgs} (hb : Bare D n) (hws : ws ≠ []) (h : (commitD D n ws).2 = 0) : (commitD D n ws).1.acts = D.acts + pagesOf (recF ws).length + ws.length + 4 := by
  unfold commitD at h ⊢
  split at h
  · cases h
  · rename_i h1
    rw [if_neg h1]
    split at h
    · cases h
    · rename_i h2
      rw [if_neg h2]
      cases hf : freshN (pagesF D.now n).length ws with
      | none => rw [hf] at h; cases h
      | some f =>
        rw [hf] at h
        simp only [if_neg hws] at h ⊢
        split at h
        · cases h
        · rename_i h3
          rw [if_neg h3]
          by_cases e : (postD D n (recF ws)).2 = 0
          · rw [if_neg (fun h => h e)] at h ⊢
            obtain ⟨a1, _⟩ := post_ok e hb.draft
            have hw : (writes (postD D n (recF ws)).1 n ws).2 = 0 := by
              unfold settleD at h
              by_cases e2 : (writes (postD D n (recF ws)).1 n ws).2 = 0
              · exact e2
              · rw [if_pos e2] at h; exact absurd h e2
            obtain ⟨b1, _⟩ := settle_ok h (writes_is ws hw hws)
            rw [b1, a1]
            omega
          · rw [if_pos e] at h; exact absurd h e

end Go.Proofs.Ythgnchgehmakjaa.Cd

/-
  Pages some of which are written already, and the same writes once more; files of two names; what a loss of power leaves: no Go in sight. Conditions: none.
-/
namespace Go.Proofs.Ythgnchgehmakjaa.Cd

/-! ### Pages that are mixed -/

/-- A page is among those that are written. -/
def InW (ws : Pgs) (i : Nat) : Prop := ∃ p ∈ ws, p.1 = (i : Int)

theorem setP_at (P : List (List UInt8)) (i : Nat) (d : List UInt8) (j : Nat) : (setP P i d)[j]? = if j = i then some d else if j < P.length then P[j]? else if j < i + 1 then some nought else none := by
  unfold setP
  rw [List.getElem?_set]
  by_cases e : j = i
  · subst e
    rw [if_pos rfl, if_pos rfl]
    simp
    omega
  · rw [if_neg (fun h => e h.symm), if_neg e]
    by_cases h1 : j < P.length
    · rw [if_pos h1, List.getElem?_append_left h1]
    · rw [if_neg h1, List.getElem?_append_right (by omega), List.getElem?_replicate]
      by_cases h2 : j < i + 1
      · rw [if_pos h2, if_pos (by omega)]
      · rw [if_neg h2, if_neg (by omega)]

theorem fresh_lt (ws : Pgs) : ∀ {c f : Nat}, freshN c ws = some f → ∀ p ∈ ws, 0 ≤ p.1 ∧ p.1 < c + f := by
  induction ws with
  | nil => intro c f _ p hp; cases hp
  | cons q r ih =>
    intro c f h p hp
    rw [freshN] at h
    split at h
    · cases h
    · split at h
      · cases hr : freshN (c + 1) r with
        | none => rw [hr] at h; cases h
        | some g =>
          rw [hr] at h
          injection h with h
          have h : g + 1 = f := h
          rcases List.mem_cons.1 hp with rfl | hp
          · omega
          · have := ih hr p hp
            omega
      · rcases List.mem_cons.1 hp with rfl | hp
        · omega
        · exact ih h p hp
theorem fresh_all (ws : Pgs) : ∀ {c f : Nat}, freshN c ws = some f → ∀ i, c ≤ i → i < c + f → InW ws i := by
  induction ws with
  | nil => intro c f h i h1 h2; injection h with h; omega
  | cons q r ih =>
    intro c f h i h1 h2
    rw [freshN] at h
    split at h
    · cases h
    · split at h
      · rename_i hq
        cases hr : freshN (c + 1) r with
        | none => rw [hr] at h; cases h
        | some g =>
          rw [hr] at h
          injection h with h
          have h : g + 1 = f := h
          by_cases e : i = c
          · exact ⟨q, by simp, by rw [hq, e]⟩
          · obtain ⟨p, hp, hi⟩ := ih hr i (by omega) (by omega)
            exact ⟨p, List.mem_cons_of_mem _ hp, hi⟩
      · obtain ⟨p, hp, hi⟩ := ih h i h1 h2
        exact ⟨p, List.mem_cons_of_mem _ hp, hi⟩
theorem fresh_mix (ws : Pgs) : ∀ {c f : Nat}, freshN c ws = some f → ∀ d, c ≤ d → d ≤ c + f → freshN d ws = some (c + f - d) := by
  induction ws with
  | nil => intro c f h d h1 h2; injection h with h; rw [freshN]; congr 1; omega
  | cons q r ih =>
    intro c f h d h1 h2
    rw [freshN] at h ⊢
    split at h
    · cases h
    · rename_i hq
      rw [if_neg (by omega)]
      split at h
      · rename_i hqc
        cases hr : freshN (c + 1) r with
        | none => rw [hr] at h; cases h
        | some g =>
          rw [hr] at h
          injection h with h
          have h : g + 1 = f := h
          by_cases e : d = c
          · rw [if_pos (by omega), e, hr]
            show some (g + 1) = _
            congr 1; omega
          · rw [if_neg (by omega), ih hr d (by omega) (by omega)]
            congr 1; omega
      · by_cases e : d = c
        · rw [if_neg (by omega), e, h]
          congr 1; omega
        · rw [if_neg (by omega), ih h d h1 h2]

theorem laid_len (ws : Pgs) : ∀ {P : List (List UInt8)} {f : Nat}, freshN P.length ws = some f → (laidP P ws).length = P.length + f := by
  induction ws with
  | nil => intro P f h; injection h with h; subst h; rfl
  | cons p r ih =>
    intro P f h
    rw [freshN] at h
    show (laidP (setP P p.1.toNat (pad p.2)) r).length = _
    split at h
    · cases h
    · split at h
      · cases hr : freshN (P.length + 1) r with
        | none => rw [hr] at h; cases h
        | some g =>
          rw [hr] at h
          injection h with h
          have h : g + 1 = f := h
          rw [ih (f := g) (by rw [setP_len, ← hr]; congr 1; omega), setP_len]
          omega
      · rw [ih (f := f) (by rw [setP_len, ← h]; congr 1; omega), setP_len]
        omega

theorem laid_same (ws : Pgs) : ∀ {X Y : List (List UInt8)}, (∀ i, ¬ InW ws i → X[i]? = Y[i]?) → laidP X ws = laidP Y ws := by
  induction ws with
  | nil => intro X Y h; exact List.ext_getElem? fun i => h i (fun ⟨p, hp, _⟩ => by cases hp)
  | cons q r ih =>
    intro X Y h
    show laidP (setP X _ _) r = laidP (setP Y _ _) r
    refine ih fun i hi => ?_
    rw [setP_at, setP_at]
    by_cases e : i = q.1.toNat
    · rw [if_pos e, if_pos e]
    · rw [if_neg e, if_neg e]
      have hh := h i (fun ⟨p, hp, hpi⟩ => by
        rcases List.mem_cons.1 hp with rfl | hp
        · exact e (by omega)
        · exact hi ⟨p, hp, hpi⟩)
      by_cases hx : i < X.length
      · have hy : i < Y.length := by
          rw [List.getElem?_eq_getElem hx] at hh
          exact (List.getElem?_eq_some_iff.1 hh.symm).1
        rw [if_pos hx, if_pos hy, hh]
      · have hy : ¬ i < Y.length := fun hy => by
          rw [List.getElem?_eq_none (by omega), List.getElem?_eq_getElem hy] at hh
          cases hh
        rw [if_neg hx, if_neg hy]

/-- Pages, some of which are written, perhaps. -/
structure Mix (P : List (List UInt8)) (ws : Pgs) (f : Nat) (X : List (List UInt8)) : Prop where
  lo : P.length ≤ X.length
  hi : X.length ≤ P.length + f
  same : ∀ i : Nat, ¬ InW ws i → X[i]? = P[i]?

section
variable {P X : List (List UInt8)} {ws : Pgs} {f : Nat}
theorem Mix.start : Mix P ws f P := ⟨Nat.le_refl _, by omega, fun _ _ => rfl⟩
theorem Mix.laidP (h : Mix P ws f X) : laidP X ws = laidP P ws := laid_same ws h.same
theorem Mix.fresh (h : Mix P ws f X) (hf : freshN P.length ws = some f) : freshN X.length ws = some (P.length + f - X.length) := fresh_mix ws hf _ h.lo h.hi
theorem Mix.put (h : Mix P ws f X) (hf : freshN P.length ws = some f) {i : Nat} (hi : InW ws i) (d : List UInt8) : Mix P ws f (setP X i d) := by
  obtain ⟨p, hp, hpi⟩ := hi
  have hlt := fresh_lt ws hf p hp
  have h1 := h.lo
  have h2 := h.hi
  refine ⟨by rw [setP_len]; omega, by rw [setP_len]; omega, fun j hj => ?_⟩
  rw [setP_at, if_neg (fun e => hj ⟨p, hp, by rw [e]; exact hpi⟩), ← h.same j hj]
  by_cases hx : j < X.length
  · rw [if_pos hx]
  · rw [if_neg hx, if_neg (fun hlt2 => hj (fresh_all ws hf j (by omega) (by omega))), List.getElem?_eq_none (by omega)]
end

/-! ### Files of two names -/

def Only (l : List Fil) (a b : List UInt8) : Prop := ∀ m, (getF l m).isSome = true → m = a ∨ m = b

theorem count_two {l : List Fil} {a b : List UInt8} (h : Once l) (ho : Only l a b) (hne : a ≠ b) : count l = (pagesF l a).length + (pagesF l b).length := by
  have h1 := count_without h a
  have h2 := count_without (without_once h a) b
  have e : without (without l a) b = [] := by
    cases hw : without (without l a) b with
    | nil => rfl
    | cons x r =>
      have hg : getF (without (without l a) b) x.name = some x := by rw [hw, getF, if_pos rfl]
      rw [getF_without] at hg
      by_cases e1 : x.name = b
      · rw [if_pos e1] at hg; cases hg
      · rw [if_neg e1, getF_without] at hg
        by_cases e2 : x.name = a
        · rw [if_pos e2] at hg; cases hg
        · rw [if_neg e2] at hg
          rcases ho x.name (by rw [hg]; rfl) with h3 | h3
          · exact absurd h3 e2
          · exact absurd h3 e1
  have hp : pagesF (without l a) b = pagesF l b := pagesF_get (by rw [getF_without, if_neg (fun e => hne e.symm)])
  rw [e, hp] at h2
  simp only [count] at h2
  omega

theorem Only.put {l : List Fil} {a b : List UInt8} (h : Only l a b) {x : Fil} (hx : x.name = a ∨ x.name = b) : Only (putF l x) a b := by
  intro m hm
  rw [getF_put] at hm
  by_cases e : m = x.name
  · rw [e]; exact hx
  · rw [if_neg e] at hm; exact h m hm
theorem Only.without {l : List Fil} {a b c : List UInt8} (h : Only l a b) : Only (without l c) a b := by
  intro m hm
  rw [getF_without] at hm
  by_cases e : m = c
  · rw [if_pos e] at hm; cases hm
  · rw [if_neg e] at hm; exact h m hm
theorem Only.gone {l : List Fil} {a b c : List UInt8} (h : Only l a b) : Only (Cd.without l b) a c := by
  intro m hm
  rw [getF_without] at hm
  by_cases e : m = b
  · rw [if_pos e] at hm; cases hm
  · rw [if_neg e] at hm
    rcases h m hm with h | h
    · exact .inl h
    · exact absurd h e

theorem keeps_names {keep : Nat} (ws : List Wrt) : ∀ (i : Nat) (s : List Fil) (m : List UInt8), (getF (keeps keep i ws s) m).isSome = true → (getF s m).isSome = true ∨ ∃ w ∈ ws, w.name = m := by
  induction ws with
  | nil => intro i s m h; exact .inl h
  | cons w r ih =>
    intro i s m h
    rw [keeps] at h
    rcases ih _ _ _ h with h | ⟨x, hx, he⟩
    · split at h
      · rw [getF_put] at h
        by_cases e : m = w.name
        · exact .inr ⟨w, by simp, e.symm⟩
        · rw [if_neg (by exact e)] at h; exact .inl h
      · exact .inl h
    · exact .inr ⟨x, List.mem_cons_of_mem _ hx, he⟩
theorem there_names (l : List Fil) (s : List Fil) (m : List UInt8) (h : (getF (there l s) m).isSome = true) : (getF s m).isSome = true ∨ (getF l m).isSome = true := by
  cases hs : getF s m with
  | some f => exact .inl rfl
  | none =>
    rw [there_none l s m hs] at h
    by_cases e : (getF l m).isSome = true
    · exact .inr e
    · rw [if_neg e] at h; cases h
theorem there_pages (l : List Fil) (s : List Fil) (m : List UInt8) : pagesF (there l s) m = pagesF s m := by
  cases hs : getF s m with
  | some f => exact pagesF_get ((there_some l s m f hs).trans hs.symm)
  | none =>
    have := there_none l s m hs
    unfold pagesF
    rw [this, hs]
    split <;> rename_i e
    · split at e
      · injection e with e; rw [← e]
      · cases e
    · rfl
theorem there_is (l : List Fil) (s : List Fil) (m : List UInt8) (h : (getF s m).isSome = true) : getF (there l s) m = getF s m := by
  obtain ⟨f, hf⟩ := Option.isSome_iff_exists.1 h
  rw [there_some l s m f hf, hf]

/-- Behind a loss of power. -/
theorem lose_is {D : Dsk} (h : D.off = false) (k : Nat) : (lose D k).now = there D.now (keeps k 0 D.waits D.safe) ∧ (lose D k).safe = there D.now (keeps k 0 D.waits D.safe) ∧ (lose D k).waits = [] ∧ (lose D k).room = D.room ∧ (lose D k).fuse = 0 := by
  unfold lose
  rw [if_neg (by rw [h]; simp)]
  exact ⟨rfl, rfl, rfl, rfl, rfl⟩
theorem lose_only {D : Dsk} {a b : List UInt8} (h1 : Only D.now a b) (h2 : Only D.safe a b) (h3 : ∀ w ∈ D.waits, w.name = a ∨ w.name = b) (k : Nat) : Only (there D.now (keeps k 0 D.waits D.safe)) a b := by
  intro m hm
  rcases there_names _ _ _ hm with hm | hm
  · rcases keeps_names _ _ _ _ hm with hm | ⟨w, hw, e⟩
    · exact h2 m hm
    · rw [← e]; exact h3 w hw
  · exact h1 m hm

/-! ### Ahead of the journal, and with it -/

/-- The file's pages are these, and safe; there is no journal. -/
structure Kept (D : Dsk) (n : List UInt8) (P : List (List UInt8)) : Prop where
  once : Once D.now
  sonce : Once D.safe
  only : Only D.now n (drf n)
  sonly : Only D.safe n (drf n)
  pages : pagesF D.now n = P
  spages : pagesF D.safe n = P
  waits : ∀ w ∈ D.waits, w.name = drf n
/-- The journal is there, and safe; the file's pages are some of these, perhaps. -/
structure Jour (D : Dsk) (n : List UInt8) (R P : List (List UInt8)) (ws : Pgs) (f : Nat) : Prop where
  once : Once D.now
  sonce : Once D.safe
  only : Only D.now n (jnl n)
  sonly : Only D.safe n (jnl n)
  jn : getF D.now (jnl n) = some ⟨jnl n, R⟩
  sjn : getF D.safe (jnl n) = some ⟨jnl n, R⟩
  mix : Mix P ws f (pagesF D.now n)
  smix : Mix P ws f (pagesF D.safe n)
  waits : ∀ w ∈ D.waits, w.name = n ∧ InW ws w.page

theorem Kept.lose {D : Dsk} {n : List UInt8} {P : List (List UInt8)} (h : Kept D n P) (k : Nat) : Kept (lose D k) n P := by
  by_cases ho : D.off = true
  · rw [lose_again ho]; exact h
  · have ho : D.off = false := by simpa using ho
    obtain ⟨e1, e2, e3, _⟩ := lose_is ho k
    have hon := lose_only h.only h.sonly (fun w hw => .inr (h.waits w hw)) k
    have hp : pagesF (there D.now (keeps k 0 D.waits D.safe)) n = P := by
      rw [there_pages, pagesF_get (keeps_other D.waits 0 D.safe (fun w hw e => drf_ne n (by rw [← h.waits w hw, e])))]
      exact h.spages
    have hc := there_once D.now _ (keeps_once (keep := k) D.waits 0 D.safe h.sonce)
    exact ⟨by rw [e1]; exact hc, by rw [e2]; exact hc, by rw [e1]; exact hon, by rw [e2]; exact hon, by rw [e1]; exact hp, by rw [e2]; exact hp, by rw [e3]; simp⟩

theorem keeps_mix {P : List (List UInt8)} {ws : Pgs} {f keep : Nat} {n : List UInt8} (hf : freshN P.length ws = some f) (l : List Wrt) : ∀ (i : Nat) (s : List Fil), (∀ w ∈ l, w.name = n ∧ InW ws w.page) → Mix P ws f (pagesF s n) → Mix P ws f (pagesF (keeps keep i l s) n) := by
  induction l with
  | nil => intro i s _ h; exact h
  | cons w r ih =>
    intro i s hw h
    rw [keeps]
    refine ih _ _ (fun x hx => hw x (List.mem_cons_of_mem _ hx)) ?_
    split
    · obtain ⟨h1, h2⟩ := hw w (by simp)
      rw [pagesF_put, if_pos (by exact h1.symm)]
      show Mix P ws f (setP (pagesF s w.name) w.page w.data)
      rw [h1]
      exact h.put hf h2 _
    · exact h
theorem Jour.lose {D : Dsk} {n : List UInt8} {R P : List (List UInt8)} {ws : Pgs} {f : Nat} (h : Jour D n R P ws f) (hf : freshN P.length ws = some f) (k : Nat) : Jour (lose D k) n R P ws f := by
  by_cases ho : D.off = true
  · rw [lose_again ho]; exact h
  · have ho : D.off = false := by simpa using ho
    obtain ⟨e1, e2, e3, _⟩ := lose_is ho k
    have hon := lose_only h.only h.sonly (fun w hw => .inl (h.waits w hw).1) k
    have hj : getF (there D.now (keeps k 0 D.waits D.safe)) (jnl n) = some ⟨jnl n, R⟩ := by
      have e := keeps_other (keep := k) D.waits 0 D.safe (n := jnl n) (fun w hw e => jnl_ne n (by rw [← e, (h.waits w hw).1]))
      rw [there_is _ _ _ (by rw [e, h.sjn]; rfl), e]
      exact h.sjn
    have hm : Mix P ws f (pagesF (there D.now (keeps k 0 D.waits D.safe)) n) := by
      rw [there_pages]
      exact keeps_mix hf D.waits 0 D.safe h.waits h.smix
    have hc := there_once D.now _ (keeps_once (keep := k) D.waits 0 D.safe h.sonce)
    exact ⟨by rw [e1]; exact hc, by rw [e2]; exact hc, by rw [e1]; exact hon, by rw [e2]; exact hon, by rw [e1]; exact hj, by rw [e2]; exact hj, by rw [e1]; exact hm, by rw [e2]; exact hm, by rw [e3]; simp⟩

end Go.Proofs.Ythgnchgehmakjaa.Cd
