/-
  What DiskCuts does, on the document's disk. Conditions: none.
-/
import Derived.Test.YthbpkdmniaapaaaDiskEnds
namespace Go.Proofs.Ythbpkdmniaapaaa.Cd

/-- Both files have i pages. -/
structure Cl (D : Dsk) (F G : List UInt8) (i : Nat) : Prop where
  off : D.off = false
  fuse : D.fuse = 0
  room : D.room = 50
  now : (i = 0 ∧ D.now = []) ∨ ∃ a b, D.now = [⟨F, a⟩, ⟨G, b⟩] ∧ a.length = i ∧ b.length = i
  safe : D.safe = []
  waits : ∀ w ∈ D.waits, w.name = F ∧ w.page < i ∨ w.name = G

theorem cl_new (F G : List UInt8) : Cl (newD 50) F G 0 := ⟨rfl, rfl, rfl, .inl ⟨rfl, rfl⟩, rfl, fun w h => by cases h⟩

section
variable {F G : List UInt8} (hlt : F < G)
include hlt

/-- Behind the first write. -/
structure Clh (D : Dsk) (F G : List UInt8) (i : Nat) : Prop where
  off : D.off = false
  fuse : D.fuse = 0
  room : D.room = 50
  now : ∃ a, a.length = i + 1 ∧ ((i = 0 ∧ D.now = [⟨F, a⟩]) ∨ ∃ b, D.now = [⟨F, a⟩, ⟨G, b⟩] ∧ b.length = i)
  safe : D.safe = []
  waits : ∀ w ∈ D.waits, w.name = F ∧ w.page < i + 1 ∨ w.name = G

theorem Cl.fst {D : Dsk} {i : Nat} (h : Cl D F G i) (hi : i < 20) {b1 : List UInt8} (hb1 : b1.length ≤ 512) : Clh (writeD D F i b1).1 F G i := by
  have hpf : (pagesF D.now F).length = i ∧ count D.now = 2 * i := by
    rcases h.now with ⟨h1, h2⟩ | ⟨a, b, h1, h2, h3⟩
    · rw [h2, h1]; exact ⟨rfl, rfl⟩
    · rw [h1, pages_fst]
      refine ⟨h2, ?_⟩
      simp only [count]
      omega
  have hfree : freeD D ≠ 0 := by unfold freeD; rw [h.room, hpf.2]; omega
  have e1 : writeD D F (i : Int) b1 = (wrote D F i b1, 0) := by
    have := write_end (n := F) h.off hb1 hfree
    rw [hpf.1] at this
    rw [this, ends_calm (by rw [h.fuse]; omega)]
  rw [e1]
  refine ⟨h.off, by show D.fuse - 1 = 0; rw [h.fuse], h.room, ⟨setP (pagesF D.now F) i (pad b1), by rw [setP_len, hpf.1]; omega, ?_⟩, h.safe, fun w hw => ?_⟩
  · show (i = 0 ∧ putF D.now ⟨F, setP (pagesF D.now F) i (pad b1)⟩ = _) ∨ ∃ b, putF D.now ⟨F, setP (pagesF D.now F) i (pad b1)⟩ = _ ∧ _
    rcases h.now with ⟨h1, h2⟩ | ⟨a, b, h1, h2, h3⟩
    · rw [h2]
      exact .inl ⟨h1, rfl⟩
    · rw [h1, put_two_fst hlt]
      exact .inr ⟨b, rfl, h3⟩
  · have hw : w ∈ D.waits ++ [⟨F, i, pad b1⟩] := hw
    rcases List.mem_append.1 hw with hw | hw
    · rcases h.waits w hw with ⟨h1, h2⟩ | h1
      · exact .inl ⟨h1, by omega⟩
      · exact .inr h1
    · rw [List.mem_singleton.1 hw]
      exact .inl ⟨rfl, by show i < i + 1; omega⟩

theorem Clh.snd {D : Dsk} {i : Nat} (h : Clh D F G i) (hi : i < 20) {b2 : List UInt8} (hb2 : b2.length ≤ 512) : Cl (writeD D G i b2).1 F G (i + 1) := by
  obtain ⟨a, ha, hn⟩ := h.now
  have hpf : (pagesF D.now G).length = i ∧ count D.now = 2 * i + 1 := by
    rcases hn with ⟨h1, h2⟩ | ⟨b, h1, h3⟩
    · rw [h2, h1]
      refine ⟨by simp [pagesF, getF, lt_ne hlt], ?_⟩
      simp only [count]
      omega
    · rw [h1, pages_snd hlt]
      refine ⟨h3, ?_⟩
      simp only [count]
      omega
  have hfree : freeD D ≠ 0 := by unfold freeD; rw [h.room, hpf.2]; omega
  have e1 : writeD D G (i : Int) b2 = (wrote D G i b2, 0) := by
    have := write_end (n := G) h.off hb2 hfree
    rw [hpf.1] at this
    rw [this, ends_calm (by rw [h.fuse]; omega)]
  rw [e1]
  refine ⟨h.off, by show D.fuse - 1 = 0; rw [h.fuse], h.room, .inr ⟨a, setP (pagesF D.now G) i (pad b2), ?_, ha, by rw [setP_len, hpf.1]; omega⟩, h.safe, fun w hw => ?_⟩
  · show putF D.now ⟨G, setP (pagesF D.now G) i (pad b2)⟩ = _
    rcases hn with ⟨h1, h2⟩ | ⟨b, h1, h3⟩
    · rw [h2, put_two_new hlt]
    · rw [h1, put_two_snd hlt]
  · have hw : w ∈ D.waits ++ [⟨G, i, pad b2⟩] := hw
    rcases List.mem_append.1 hw with hw | hw
    · exact h.waits w hw
    · rw [List.mem_singleton.1 hw]
      exact .inr rfl

/-- Ahead of the cut. -/
structure Ready (D : Dsk) (F G : List UInt8) (p : Nat) (syncs : Bool) : Prop where
  off : D.off = false
  fuse : D.fuse = 0
  room : D.room = 50
  now : ∃ a b, D.now = [⟨F, a⟩, ⟨G, b⟩]
  safe : ∃ s, (D.safe = [] ∧ s = [] ∨ D.safe = [⟨F, s⟩]) ∧ s.length ≤ p ∧ (syncs = true → s.length = p ∧ ∀ w ∈ D.waits, w.name = G)
  waits : ∀ w ∈ D.waits, w.name = F ∧ w.page < p ∨ w.name = G

omit hlt in
theorem Cl.unsynced {D : Dsk} {p : Nat} (h : Cl D F G p) (hp : 0 < p) : Ready D F G p false := by
  rcases h.now with ⟨h1, h2⟩ | ⟨a, b, h1, h2, h3⟩
  · omega
  · exact ⟨h.off, h.fuse, h.room, ⟨a, b, h1⟩, ⟨[], .inl ⟨h.safe, rfl⟩, Nat.zero_le _, fun e => by cases e⟩, h.waits⟩
omit hlt in
theorem Cl.synced {D : Dsk} {p : Nat} (h : Cl D F G p) (hp : 0 < p) : Ready (syncD D F).1 F G p true := by
  rcases h.now with ⟨h1, h2⟩ | ⟨a, b, h1, h2, h3⟩
  · omega
  · rw [sync_calm h.off (by rw [h1]; exact get_fst F G a b) (by rw [h.fuse]; omega)]
    have hw : ∀ w ∈ dropW D.waits F 0, w.name = G := fun w hw => by
      obtain ⟨hw1, hw2⟩ := List.mem_filter.1 hw
      simp only [decide_eq_true_eq] at hw2
      rcases h.waits w hw1 with ⟨h4, _⟩ | h4
      · rcases hw2 with h5 | h5
        · exact absurd h4 h5
        · exact absurd h5 (Nat.not_lt_zero _)
      · exact h4
    refine ⟨h.off, by show D.fuse - 1 = 0; rw [h.fuse], h.room, ⟨a, b, h1⟩, ⟨a, .inr ?_, by omega, fun _ => ⟨h2, hw⟩⟩, fun w h5 => .inr (hw w h5)⟩
    show putF D.safe ⟨F, pagesF D.now F⟩ = _
    rw [h.safe, h1, pages_fst]
    rfl

/-- What stands in the end. -/
theorem Ready.final {D : Dsk} {p : Nat} {syncs : Bool} (h : Ready D F G p syncs) (c keep : Nat) :
    (cutD D F c).2 = 0 ∧ (removeD (cutD D F c).1 G).2 = 0 ∧ ∃ k : Nat, (pagesF (onD (lose (removeD (cutD D F c).1 G).1 keep)).now F).length = k ∧ k ≤ c ∧ k ≤ p ∧ (syncs = true → k = min c p) ∧
      (getF (onD (lose (removeD (cutD D F c).1 G).1 keep)).now F).isSome = true ∧ (getF (onD (lose (removeD (cutD D F c).1 G).1 keep)).now G).isSome = false ∧ freeD (onD (lose (removeD (cutD D F c).1 G).1 keep)) = 50 - (k : Int) := by
  obtain ⟨a, b, hn⟩ := h.now
  obtain ⟨s, hs, hsl, hsy⟩ := h.safe
  obtain ⟨e1, e2, q, hq, q1, q2, q3⟩ := cuts_end hlt h.off h.fuse hn hs hsl h.waits c keep
  have hroom : (onD (lose (removeD (cutD D F c).1 G).1 keep)).room = 50 := by
    have r1 : ∀ (D : Dsk) (k : Nat), (lose D k).room = D.room := fun D k => by unfold lose; split <;> rfl
    have r2 : ∀ (D : Dsk) (n : List UInt8), (mayD D n).1.room = D.room := fun D n => by
      unfold mayD ends
      split
      · rfl
      · split
        · rfl
        · split
          · rw [r1]; rfl
          · rfl
    have r3 : ∀ (D : Dsk) (n : List UInt8), (removeD D n).1.room = D.room := fun D n => by
      unfold removeD
      split
      · exact r2 D n
      · exact r2 D n
    have r4 : ∀ (D : Dsk) (n : List UInt8) (k : Int), (cutD D n k).1.room = D.room := fun D n k => by
      unfold cutD
      split
      · rfl
      · split
        · exact r2 D n
        · exact r2 D n
    show (lose (removeD (cutD D F c).1 G).1 keep).room = 50
    rw [r1, r3, r4, h.room]
  refine ⟨e1, e2, q.length, by rw [hq, pages_one], q1, q2, fun e => q3 (hsy e).1 (hsy e).2, by rw [hq, get_one]; rfl, by rw [hq]; simp [getF, lt_ne hlt], ?_⟩
  unfold freeD
  rw [hroom, hq]
  simp only [count]
  omega
end

end Go.Proofs.Ythbpkdmniaapaaa.Cd
