/-
  A disk, as the document tells of it: files of pages, what is safe, what waits; and what its lists answer. No Go in sight. Conditions: none.
-/
namespace Go.Proofs.Ytcliknmcefcaeaa.Cd

/-- A file: a name, and pages. -/
structure Fil where
  name : List UInt8
  pages : List (List UInt8)
/-- A page that isn't safe. -/
structure Wrt where
  name : List UInt8
  page : Nat
  data : List UInt8
/-- A disk. -/
structure Dsk where
  now : List Fil
  safe : List Fil
  waits : List Wrt
  room : Nat
  off : Bool
  acts : Nat
  fuse : Nat
  keep : Nat

def getF : List Fil → List UInt8 → Option Fil
  | [], _ => none
  | f :: r, n => if f.name = n then some f else getF r n
def pagesF (l : List Fil) (n : List UInt8) : List (List UInt8) := match getF l n with
  | some f => f.pages
  | none => []
def without (l : List Fil) (n : List UInt8) : List Fil := l.filter fun f => decide (f.name ≠ n)
def putF : List Fil → Fil → List Fil
  | [], x => [x]
  | f :: r, x => if f.name < x.name then f :: putF r x else x :: without (f :: r) x.name

theorem getF_name {l : List Fil} {n : List UInt8} {f : Fil} (h : getF l n = some f) : f.name = n := by
  induction l with
  | nil => cases h
  | cons g r ih =>
    rw [getF] at h
    by_cases e : g.name = n
    · rw [if_pos e] at h; injection h with h; rw [← h]; exact e
    · rw [if_neg e] at h; exact ih h

theorem getF_without (l : List Fil) (n m : List UInt8) : getF (without l n) m = if m = n then none else getF l m := by
  induction l with
  | nil => simp [without, getF]
  | cons f r ih =>
    unfold without at ih ⊢
    by_cases e : f.name = n
    · rw [List.filter_cons_of_neg (by simp [e]), ih, getF]
      by_cases e2 : m = n
      · rw [if_pos e2, if_pos e2]
      · rw [if_neg e2, if_neg e2, if_neg (fun h => e2 (by rw [← h, e]))]
    · rw [List.filter_cons_of_pos (by simp [e]), getF, ih, getF]
      by_cases e2 : m = n
      · rw [if_pos e2, if_neg (fun h => e (by rw [h, e2]))]
        simp [e2]
      · rw [if_neg e2, if_neg e2]

theorem getF_put (l : List Fil) (x : Fil) (m : List UInt8) : getF (putF l x) m = if m = x.name then some x else getF l m := by
  induction l with
  | nil =>
    simp only [putF, getF]
    by_cases e : x.name = m
    · rw [if_pos e, if_pos e.symm]
    · rw [if_neg e, if_neg (fun h => e h.symm)]
  | cons f r ih =>
    rw [putF]
    by_cases hlt : f.name < x.name
    · rw [if_pos hlt, getF, ih, getF]
      by_cases e : f.name = m
      · rw [if_pos e, if_pos e]
        have hne : ¬ m = x.name := by
          intro h
          rw [← e] at h
          rw [h] at hlt
          exact List.lt_irrefl _ hlt
        rw [if_neg hne]
      · rw [if_neg e, if_neg e]
    · rw [if_neg hlt, getF]
      by_cases e : x.name = m
      · rw [if_pos e, if_pos e.symm]
      · rw [if_neg e, if_neg (fun h => e h.symm), getF_without, if_neg (fun h => e h.symm)]

theorem pagesF_put (l : List Fil) (x : Fil) (m : List UInt8) : pagesF (putF l x) m = if m = x.name then x.pages else pagesF l m := by
  unfold pagesF
  rw [getF_put]
  by_cases e : m = x.name
  · rw [if_pos e, if_pos e]
  · rw [if_neg e, if_neg e]

/-! ### How many pages -/

def count : List Fil → Nat
  | [] => 0
  | f :: r => f.pages.length + count r
theorem count_append (a b : List Fil) : count (a ++ b) = count a + count b := by
  induction a with
  | nil => simp [count]
  | cons f r ih => simp [count, ih]; omega

/-- Every name once. -/
def Once (l : List Fil) : Prop := (l.map Fil.name).Nodup
theorem once_nil : Once [] := List.nodup_nil
theorem getF_none {l : List Fil} {n : List UInt8} : getF l n = none ↔ n ∉ l.map Fil.name := by
  induction l with
  | nil => simp [getF]
  | cons f r ih =>
    rw [getF, List.map_cons, List.mem_cons]
    by_cases e : f.name = n
    · rw [if_pos e]; simp [e]
    · rw [if_neg e, ih]
      constructor
      · rintro h (h2 | h2)
        · exact e h2.symm
        · exact h h2
      · intro h h2
        exact h (.inr h2)

theorem without_none {l : List Fil} {n : List UInt8} (h : getF l n = none) : without l n = l := by
  unfold without
  rw [List.filter_eq_self]
  intro f hf
  have h2 := getF_none.1 h
  simp only [decide_eq_true_eq]
  intro e
  exact h2 (List.mem_map.2 ⟨f, hf, e⟩)

theorem count_without {l : List Fil} (h : Once l) (n : List UInt8) : count (without l n) + (pagesF l n).length = count l := by
  induction l with
  | nil => simp [without, count, pagesF, getF]
  | cons f r ih =>
    have h1 : f.name ∉ r.map Fil.name := (List.nodup_cons.1 h).1
    have h2 : Once r := (List.nodup_cons.1 h).2
    have ih := ih h2
    by_cases e : f.name = n
    · have hn : getF r n = none := getF_none.2 (by rw [← e]; exact h1)
      have e2 : without (f :: r) n = r := by
        have := without_none hn
        unfold without at this ⊢
        rw [List.filter_cons_of_neg (by simp [e]), this]
      rw [e2]
      unfold pagesF
      rw [getF, if_pos e]
      simp only [count]
      omega
    · have e2 : without (f :: r) n = f :: without r n := by unfold without; rw [List.filter_cons_of_pos (by simp [e])]
      have e3 : pagesF (f :: r) n = pagesF r n := by unfold pagesF; rw [getF, if_neg e]
      rw [e2, e3]
      simp only [count]
      omega

theorem without_once {l : List Fil} (h : Once l) (n : List UInt8) : Once (without l n) := by
  unfold Once without at *
  induction l with
  | nil => exact h
  | cons f r ih =>
    have h1 := List.nodup_cons.1 h
    by_cases e : f.name = n
    · rw [List.filter_cons_of_neg (by simp [e])]; exact ih h1.2
    · rw [List.filter_cons_of_pos (by simp [e]), List.map_cons, List.nodup_cons]
      refine ⟨fun hm => h1.1 ?_, ih h1.2⟩
      obtain ⟨g, hg, hn⟩ := List.mem_map.1 hm
      exact List.mem_map.2 ⟨g, (List.mem_filter.1 hg).1, hn⟩

theorem put_names (l : List Fil) (x : Fil) (m : List UInt8) : m ∈ (putF l x).map Fil.name ↔ m = x.name ∨ m ∈ l.map Fil.name := by
  have h := getF_put l x m
  by_cases e : m = x.name
  · rw [if_pos e] at h
    refine ⟨fun _ => .inl e, fun _ => ?_⟩
    apply Classical.byContradiction
    intro hc
    rw [getF_none.2 hc] at h
    cases h
  · rw [if_neg e] at h
    constructor
    · intro hm
      refine .inr ?_
      apply Classical.byContradiction
      intro hc
      rw [getF_none.2 hc] at h
      exact getF_none.1 h hm
    · rintro (h1 | h1)
      · exact absurd h1 e
      · apply Classical.byContradiction
        intro hc
        rw [getF_none.2 hc] at h
        exact getF_none.1 h.symm h1

theorem put_once {l : List Fil} (h : Once l) (x : Fil) : Once (putF l x) := by
  induction l with
  | nil => simp [Once, putF]
  | cons f r ih =>
    have h1 := List.nodup_cons.1 h
    rw [putF]
    by_cases hlt : f.name < x.name
    · rw [if_pos hlt]
      refine List.nodup_cons.2 ⟨fun hm => ?_, ih h1.2⟩
      rcases (put_names r x f.name).1 hm with e | e
      · rw [e] at hlt; exact List.lt_irrefl _ hlt
      · exact h1.1 e
    · rw [if_neg hlt]
      refine List.nodup_cons.2 ⟨fun hm => ?_, without_once h x.name⟩
      have := getF_without (f :: r) x.name x.name
      rw [if_pos rfl] at this
      exact getF_none.1 this hm

theorem count_put {l : List Fil} (h : Once l) (x : Fil) : count (putF l x) + (pagesF l x.name).length = count l + x.pages.length := by
  induction l with
  | nil => simp [putF, count, pagesF, getF]
  | cons f r ih =>
    have h1 := List.nodup_cons.1 h
    have ih := ih h1.2
    rw [putF]
    by_cases hlt : f.name < x.name
    · have hne : ¬ f.name = x.name := fun e => by rw [e] at hlt; exact List.lt_irrefl _ hlt
      have e3 : pagesF (f :: r) x.name = pagesF r x.name := by unfold pagesF; rw [getF, if_neg hne]
      rw [if_pos hlt, e3]
      simp only [count]
      omega
    · have := count_without h x.name
      rw [if_neg hlt]
      simp only [count] at this ⊢
      omega

/-! ### Pages -/

def nought : List UInt8 := List.replicate 512 0
/-- A page of pages, and noughts ahead of it. -/
def setP (p : List (List UInt8)) (i : Nat) (d : List UInt8) : List (List UInt8) := (p ++ List.replicate (i + 1 - p.length) nought).set i d
theorem setP_len (p : List (List UInt8)) (i : Nat) (d : List UInt8) : (setP p i d).length = max p.length (i + 1) := by
  simp [setP]; omega
theorem setP_in {p : List (List UInt8)} {i : Nat} (h : i < p.length) (d : List UInt8) : setP p i d = p.set i d := by
  unfold setP
  rw [show i + 1 - p.length = 0 by omega]
  simp
theorem setP_end (p : List (List UInt8)) (d : List UInt8) : setP p p.length d = p ++ [d] := by
  unfold setP
  rw [show p.length + 1 - p.length = 1 by omega, List.set_append_right _ _ (Nat.le_refl _)]
  simp
/-- A page's bytes, noughts behind. -/
def pad (b : List UInt8) : List UInt8 := b ++ List.replicate (512 - b.length) 0
theorem pad_len {b : List UInt8} (h : b.length ≤ 512) : (pad b).length = 512 := by simp [pad]; omega

/-! ### The power goes -/

def keepBit (keep i : Nat) : Bool := keep / 2 ^ (i % 64) % 2 == 1
/-- The writes that wait, from the i-th on, those that are kept. -/
def keeps (keep : Nat) : Nat → List Wrt → List Fil → List Fil
  | _, [], s => s
  | i, w :: r, s => keeps keep (i + 1) r (if keepBit keep i = true then putF s ⟨w.name, setP (pagesF s w.name) w.page w.data⟩ else s)
/-- Files that are there, without pages where none is safe. -/
def there : List Fil → List Fil → List Fil
  | [], s => s
  | f :: r, s => there r (if (getF s f.name).isSome = true then s else putF s ⟨f.name, []⟩)
def lose (D : Dsk) (keep : Nat) : Dsk :=
  if D.off = true then D else
    { D with now := there D.now (keeps keep 0 D.waits D.safe), safe := there D.now (keeps keep 0 D.waits D.safe), waits := [], off := true, fuse := 0 }

theorem keeps_once {keep : Nat} (ws : List Wrt) : ∀ (i : Nat) (s : List Fil), Once s → Once (keeps keep i ws s) := by
  induction ws with
  | nil => intro i s h; exact h
  | cons w r ih =>
    intro i s h
    rw [keeps]
    refine ih _ _ ?_
    split
    · exact put_once h _
    · exact h
theorem there_once (l : List Fil) : ∀ (s : List Fil), Once s → Once (there l s) := by
  induction l with
  | nil => intro s h; exact h
  | cons f r ih =>
    intro s h
    rw [there]
    refine ih _ ?_
    split
    · exact h
    · exact put_once h _

/-- What isn't written isn't turned. -/
theorem keeps_other {keep : Nat} {n : List UInt8} (ws : List Wrt) : ∀ (i : Nat) (s : List Fil), (∀ w ∈ ws, w.name ≠ n) → getF (keeps keep i ws s) n = getF s n := by
  induction ws with
  | nil => intro i s _; rfl
  | cons w r ih =>
    intro i s h
    rw [keeps, ih _ _ (fun x hx => h x (by simp [hx]))]
    split
    · rw [getF_put, if_neg (fun e => h w (by simp) e.symm)]
    · rfl

theorem there_some (l : List Fil) : ∀ (s : List Fil) (n : List UInt8) (f : Fil), getF s n = some f → getF (there l s) n = some f := by
  induction l with
  | nil => intro s n f h; exact h
  | cons g r ih =>
    intro s n f h
    rw [there]
    refine ih _ _ _ ?_
    by_cases hs : (getF s g.name).isSome = true
    · rw [if_pos hs]; exact h
    · rw [if_neg hs, getF_put]
      have hne : ¬ n = g.name := fun e => by rw [← e, h] at hs; exact hs rfl
      show (if n = g.name then _ else _) = _
      rw [if_neg hne]
      exact h

theorem there_none (l : List Fil) : ∀ (s : List Fil) (n : List UInt8), getF s n = none → getF (there l s) n = if (getF l n).isSome = true then some ⟨n, []⟩ else none := by
  induction l with
  | nil => intro s n h; simpa [there, getF] using h
  | cons g r ih =>
    intro s n h
    rw [there, getF]
    by_cases e : g.name = n
    · rw [if_pos e]
      have hs : ¬ (getF s g.name).isSome = true := by rw [e, h]; simp
      rw [if_neg hs, there_some r _ n ⟨n, []⟩ (by rw [getF_put, if_pos (by exact e.symm)]; rw [e])]
      simp
    · rw [if_neg e]
      refine ih _ _ ?_
      by_cases hs : (getF s g.name).isSome = true
      · rw [if_pos hs]; exact h
      · rw [if_neg hs, getF_put]
        show (if n = g.name then _ else _) = _
        rw [if_neg (fun h2 => e h2.symm)]
        exact h

/-- Pages of a file that are written in their places: each is as it was, or as a write made it. -/
theorem keeps_pages {keep : Nat} {n : List UInt8} {L : Nat} (ws : List Wrt) : ∀ (i : Nat) (s : List Fil), (∀ w ∈ ws, w.name = n → w.page < L) → (getF s n).isSome = true → (pagesF s n).length = L →
    (getF (keeps keep i ws s) n).isSome = true ∧ (pagesF (keeps keep i ws s) n).length = L ∧
      ∀ p x, (pagesF (keeps keep i ws s) n)[p]? = some x → (pagesF s n)[p]? = some x ∨ ∃ w ∈ ws, w.name = n ∧ w.page = p ∧ w.data = x := by
  induction ws with
  | nil => intro i s _ h1 h2; exact ⟨h1, h2, fun p x hx => .inl hx⟩
  | cons w r ih =>
    intro i s hw h1 h2
    have hr := fun x hx => hw x (List.mem_cons_of_mem w hx)
    rw [keeps]
    by_cases hk : keepBit keep i = true
    · rw [if_pos hk]
      by_cases hn : w.name = n
      · have hp := hw w (by simp) hn
        have hset : setP (pagesF s w.name) w.page w.data = (pagesF s n).set w.page w.data := by rw [hn, setP_in (by rw [h2]; exact hp)]
        obtain ⟨q1, q2, q3⟩ := ih (i + 1) (putF s ⟨w.name, setP (pagesF s w.name) w.page w.data⟩) hr (by rw [getF_put, if_pos (by exact hn.symm)]; rfl) (by rw [pagesF_put, if_pos (by exact hn.symm)]; show (setP _ _ _).length = L; rw [hset, List.length_set, h2])
        refine ⟨q1, q2, fun p x hx => ?_⟩
        rcases q3 p x hx with h3 | ⟨v, hv, h3⟩
        · rw [pagesF_put, if_pos (by exact hn.symm)] at h3
          have h3 : (setP (pagesF s w.name) w.page w.data)[p]? = some x := h3
          rw [hset, List.getElem?_set] at h3
          by_cases e : w.page = p
          · rw [if_pos e] at h3
            split at h3
            · injection h3 with h3
              exact .inr ⟨w, by simp, hn, e, h3⟩
            · cases h3
          · rw [if_neg e] at h3
            exact .inl h3
        · exact .inr ⟨v, List.mem_cons_of_mem w hv, h3⟩
      · obtain ⟨q1, q2, q3⟩ := ih (i + 1) (putF s ⟨w.name, setP (pagesF s w.name) w.page w.data⟩) hr (by rw [getF_put, if_neg (fun e => hn e.symm)]; exact h1) (by rw [pagesF_put, if_neg (fun e => hn e.symm)]; exact h2)
        refine ⟨q1, q2, fun p x hx => ?_⟩
        rcases q3 p x hx with h3 | ⟨v, hv, h3⟩
        · rw [pagesF_put, if_neg (fun e => hn e.symm)] at h3
          exact .inl h3
        · exact .inr ⟨v, List.mem_cons_of_mem w hv, h3⟩
    · rw [if_neg hk]
      obtain ⟨q1, q2, q3⟩ := ih (i + 1) s hr h1 h2
      refine ⟨q1, q2, fun p x hx => ?_⟩
      rcases q3 p x hx with h3 | ⟨v, hv, h3⟩
      · exact .inl h3
      · exact .inr ⟨v, List.mem_cons_of_mem w hv, h3⟩

/-- A file whose writes all lie ahead of L has no more than L pages. -/
theorem keeps_short {keep : Nat} {n : List UInt8} {L : Nat} (ws : List Wrt) : ∀ (i : Nat) (s : List Fil), (∀ w ∈ ws, w.name = n → w.page < L) → (pagesF s n).length ≤ L → (pagesF (keeps keep i ws s) n).length ≤ L := by
  induction ws with
  | nil => intro i s _ h; exact h
  | cons w r ih =>
    intro i s hw h
    rw [keeps]
    refine ih _ _ (fun x hx => hw x (List.mem_cons_of_mem w hx)) ?_
    split
    · rw [pagesF_put]
      split
      · rename_i e
        have hp := hw w (by simp) e.symm
        have e2 : n = w.name := e
        show (setP _ _ _).length ≤ L
        rw [setP_len, ← e2]
        omega
      · exact h
    · exact h

/-! ### Calls -/

def newD (room : Int) : Dsk := ⟨[], [], [], (if room < 0 then 0 else if 4096 < room then 4096 else room.toNat), false, 0, 0, 0⟩
def freeD (D : Dsk) : Int := (D.room : Int) - (count D.now : Int)
def actD (D : Dsk) : Dsk := { D with acts := D.acts + 1, fuse := D.fuse - 1 }
def armD (D : Dsk) (n : Int) (keep : Nat) : Dsk := { D with fuse := n.toNat, keep := keep }
def onD (D : Dsk) : Dsk := { D with off := false }
/-- What an act leaves that was the fuse's last. -/
def ends (D D1 : Dsk) (e : Nat) : Dsk × Nat := if D.fuse = 1 then (lose D1 D.keep, 8) else (D1, e)
def wrote (D : Dsk) (n : List UInt8) (i : Nat) (b : List UInt8) : Dsk :=
  { actD D with now := putF D.now ⟨n, setP (pagesF D.now n) i (pad b)⟩, waits := D.waits ++ [⟨n, i, pad b⟩] }
def writeD (D : Dsk) (n : List UInt8) (i : Int) (b : List UInt8) : Dsk × Nat :=
  if D.off = true then (D, 8) else if 512 < b.length then (D, 3) else if i < 0 ∨ ((pagesF D.now n).length : Int) < i then (D, 1)
  else if i = ((pagesF D.now n).length : Int) ∧ freeD D = 0 then (D, 7) else ends D (wrote D n i.toNat b) 0
def readD (D : Dsk) (n : List UInt8) (i : Int) : List UInt8 × Nat :=
  if D.off = true then ([], 8) else if i < 0 ∨ ((pagesF D.now n).length : Int) ≤ i then ([], 5) else ((pagesF D.now n).getD i.toNat [], 0)
def mayD (D : Dsk) (n : List UInt8) : Dsk × Nat :=
  if D.off = true then (D, 8) else if (getF D.now n).isSome = false then (D, 5) else ends D (actD D) 0
def dropW (ws : List Wrt) (n : List UInt8) (k : Nat) : List Wrt := ws.filter fun w => decide (w.name ≠ n ∨ w.page < k)
def syncs (D : Dsk) (n : List UInt8) : Dsk := { D with safe := putF D.safe ⟨n, pagesF D.now n⟩, waits := dropW D.waits n 0 }
def syncD (D : Dsk) (n : List UInt8) : Dsk × Nat := if (mayD D n).2 = 0 then (syncs (mayD D n).1 n, 0) else mayD D n
def cuts (D : Dsk) (n : List UInt8) (k : Nat) : Dsk :=
  { D with now := putF D.now ⟨n, (pagesF D.now n).take k⟩, safe := putF D.safe ⟨n, (pagesF D.safe n).take k⟩, waits := dropW D.waits n k }
def cutD (D : Dsk) (n : List UInt8) (k : Int) : Dsk × Nat :=
  if D.off = false ∧ (getF D.now n).isSome = true ∧ k < 0 then (D, 1) else if (mayD D n).2 = 0 then (cuts (mayD D n).1 n k.toNat, 0) else mayD D n
def renames (D : Dsk) (a b : List UInt8) : Dsk :=
  { D with now := putF (without D.now a) ⟨b, pagesF D.now a⟩, safe := putF (without D.safe a) ⟨b, pagesF D.safe a⟩, waits := (dropW D.waits b 0).map fun w => if w.name = a then ⟨b, w.page, w.data⟩ else w }
def renameD (D : Dsk) (a b : List UInt8) : Dsk × Nat := if (mayD D a).2 = 0 ∧ a ≠ b then (renames (mayD D a).1 a b, 0) else mayD D a
def removes (D : Dsk) (n : List UInt8) : Dsk := { D with now := without D.now n, safe := without D.safe n, waits := dropW D.waits n 0 }
def removeD (D : Dsk) (n : List UInt8) : Dsk × Nat := if (mayD D n).2 = 0 then (removes (mayD D n).1 n, 0) else mayD D n
def namesD (D : Dsk) : List (List UInt8) := if D.off = true then [] else D.now.map Fil.name

theorem lose_off (D : Dsk) (keep : Nat) : (lose D keep).off = true := by
  unfold lose
  by_cases h : D.off = true
  · rw [if_pos h]; exact h
  · rw [if_neg h]
theorem lose_again {D : Dsk} (h : D.off = true) (keep : Nat) : lose D keep = D := by unfold lose; rw [if_pos h]
theorem lose_now {D : Dsk} (h : D.off = false) (keep : Nat) : (lose D keep).now = there D.now (keeps keep 0 D.waits D.safe) := by unfold lose; rw [if_neg (by rw [h]; simp)]

/-- The lists of a disk that can be: every name once. -/
def Sound (D : Dsk) : Prop := Once D.now ∧ Once D.safe
theorem Sound.lose {D : Dsk} (h : Sound D) (keep : Nat) : Sound (lose D keep) := by
  unfold Cd.lose
  split
  · exact h
  · exact ⟨there_once _ _ (keeps_once _ _ _ h.2), there_once _ _ (keeps_once _ _ _ h.2)⟩

end Go.Proofs.Ytcliknmcefcaeaa.Cd
