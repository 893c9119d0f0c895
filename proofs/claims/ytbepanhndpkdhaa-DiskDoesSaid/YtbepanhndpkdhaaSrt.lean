/-
  The document's lists of files are rising, their names such as were handed in. Conditions: none.
-/
import Derived.Test.YtbepanhndpkdhaaDskCuts
namespace Go.Proofs.Ytbepanhndpkdhaa.Cd

/-- Rising, and each name is one of Q's. -/
structure Srt (Q : List UInt8 → Prop) (l : List Fil) : Prop where
  up : l.Pairwise (fun f g => f.name < g.name)
  all : ∀ f ∈ l, Q f.name
structure SrtD (Q : List UInt8 → Prop) (D : Dsk) : Prop where
  now : Srt Q D.now
  safe : Srt Q D.safe
  waits : ∀ w ∈ D.waits, Q w.name

theorem lt_of_not {x y : List UInt8} (h : ¬ y < x) (hne : x ≠ y) : x < y := by
  apply Classical.byContradiction
  intro h2
  exact hne (List.le_antisymm (List.not_lt.1 h) (List.not_lt.1 h2))

theorem mem_put {l : List Fil} {x f : Fil} (h : f ∈ putF l x) : f = x ∨ f ∈ l := by
  induction l with
  | nil => exact .inl (by simpa [putF] using h)
  | cons g r ih =>
    rw [putF] at h
    split at h
    · rcases List.mem_cons.1 h with h | h
      · exact .inr (by rw [h]; simp)
      · rcases ih h with h | h
        · exact .inl h
        · exact .inr (List.mem_cons_of_mem g h)
    · rcases List.mem_cons.1 h with h | h
      · exact .inl h
      · exact .inr (List.mem_filter.1 h).1

section
variable {Q : List UInt8 → Prop} {l : List Fil} {D : Dsk}

theorem srt_nil : Srt Q [] := ⟨List.Pairwise.nil, fun f h => by cases h⟩
theorem Srt.without (h : Srt Q l) (n : List UInt8) : Srt Q (without l n) := ⟨h.up.filter _, fun f hf => h.all f (List.mem_filter.1 hf).1⟩
theorem Srt.put (h : Srt Q l) {x : Fil} (hx : Q x.name) : Srt Q (putF l x) := by
  refine ⟨?_, fun f hf => ?_⟩
  · have hu := h.up
    clear h hx
    induction l with
    | nil => simp [putF]
    | cons g r ih =>
      obtain ⟨h1, h2⟩ := List.pairwise_cons.1 hu
      rw [putF]
      split
      · rename_i hlt
        refine List.pairwise_cons.2 ⟨fun f hf => ?_, ih h2⟩
        rcases mem_put hf with h | h
        · rw [h]; exact hlt
        · exact h1 f h
      · rename_i hlt
        refine List.pairwise_cons.2 ⟨fun f hf => ?_, hu.filter _⟩
        obtain ⟨h3, h4⟩ := List.mem_filter.1 hf
        have hne : x.name ≠ f.name := fun e => by rw [e] at h4; simp at h4
        refine lt_of_not (fun h5 => ?_) hne
        rcases List.mem_cons.1 h3 with h6 | h6
        · rw [h6] at h5; exact hlt h5
        · exact hlt (List.lt_trans (h1 f h6) h5)
  · rcases mem_put hf with h1 | h1
    · rw [h1]; exact hx
    · exact h.all f h1

theorem keeps_srt {keep : Nat} (ws : List Wrt) : ∀ (i : Nat) (s : List Fil), Srt Q s → (∀ w ∈ ws, Q w.name) → Srt Q (keeps keep i ws s) := by
  induction ws with
  | nil => intro i s h _; exact h
  | cons w r ih =>
    intro i s h hw
    rw [keeps]
    refine ih _ _ ?_ (fun x hx => hw x (by simp [hx]))
    split
    · exact h.put (hw w (by simp))
    · exact h
theorem there_srt (n : List Fil) : ∀ (s : List Fil), Srt Q s → (∀ f ∈ n, Q f.name) → Srt Q (there n s) := by
  induction n with
  | nil => intro s h _; exact h
  | cons f r ih =>
    intro s h hn
    rw [there]
    refine ih _ ?_ (fun x hx => hn x (by simp [hx]))
    split
    · exact h
    · exact h.put (hn f (by simp))
theorem srt_new (room : Int) : SrtD Q (newD room) := ⟨srt_nil, srt_nil, fun w h => by cases h⟩
theorem SrtD.lose (h : SrtD Q D) (keep : Nat) : SrtD Q (lose D keep) := by
  unfold Cd.lose
  split
  · exact h
  · exact ⟨there_srt _ _ (keeps_srt _ _ _ h.safe h.waits) h.now.all, there_srt _ _ (keeps_srt _ _ _ h.safe h.waits) h.now.all, fun w hw => by cases hw⟩
theorem SrtD.act (h : SrtD Q D) : SrtD Q (actD D) := ⟨h.now, h.safe, h.waits⟩
theorem SrtD.on (h : SrtD Q D) : SrtD Q (onD D) := ⟨h.now, h.safe, h.waits⟩
theorem SrtD.arm (h : SrtD Q D) (n : Int) (k : Nat) : SrtD Q (armD D n k) := ⟨h.now, h.safe, h.waits⟩
theorem SrtD.write (h : SrtD Q D) {n : List UInt8} (hn : Q n) (i : Int) (b : List UInt8) : SrtD Q (writeD D n i b).1 := by
  have hw : SrtD Q (wrote D n i.toNat b) := ⟨h.now.put hn, h.safe, fun w hw => by
    have hw : w ∈ D.waits ++ [⟨n, i.toNat, pad b⟩] := hw
    rcases List.mem_append.1 hw with h1 | h1
    · exact h.waits w h1
    · rw [List.mem_singleton.1 h1]; exact hn⟩
  unfold writeD
  split
  · exact h
  · split
    · exact h
    · split
      · exact h
      · split
        · exact h
        · unfold ends
          split
          · exact hw.lose _
          · exact hw
theorem SrtD.may (h : SrtD Q D) (n : List UInt8) : SrtD Q (mayD D n).1 := by
  unfold mayD
  split
  · exact h
  · split
    · exact h
    · unfold ends
      split
      · exact h.act.lose _
      · exact h.act
theorem drop_q {ws : List Wrt} (h : ∀ w ∈ ws, Q w.name) (n : List UInt8) (k : Nat) : ∀ w ∈ dropW ws n k, Q w.name := fun w hw => h w (List.mem_filter.1 hw).1
theorem SrtD.sync (h : SrtD Q D) {n : List UInt8} (hn : Q n) : SrtD Q (syncD D n).1 := by
  have hm := h.may n
  unfold syncD
  split
  · exact ⟨hm.now, hm.safe.put hn, drop_q hm.waits _ _⟩
  · exact hm
theorem SrtD.cut (h : SrtD Q D) {n : List UInt8} (hn : Q n) (k : Int) : SrtD Q (cutD D n k).1 := by
  have hm := h.may n
  unfold cutD
  split
  · exact h
  · split
    · exact ⟨hm.now.put hn, hm.safe.put hn, drop_q hm.waits _ _⟩
    · exact hm
theorem SrtD.remove (h : SrtD Q D) (n : List UInt8) : SrtD Q (removeD D n).1 := by
  have hm := h.may n
  unfold removeD
  split
  · exact ⟨hm.now.without n, hm.safe.without n, drop_q hm.waits _ _⟩
  · exact hm
theorem SrtD.rename (h : SrtD Q D) (a : List UInt8) {b : List UInt8} (hb : Q b) : SrtD Q (renameD D a b).1 := by
  have hm := h.may a
  unfold renameD
  split
  · refine ⟨(hm.now.without a).put hb, (hm.safe.without a).put hb, fun w hw => ?_⟩
    obtain ⟨v, hv, rfl⟩ := List.mem_map.1 hw
    have := drop_q hm.waits b 0 v hv
    split
    · exact hb
    · exact this
  · exact hm

/-- The names are the rising list of those that are there. -/
theorem names_eq (h : Srt Q l) {ns : List (List UInt8)} (hu : ns.Pairwise (fun x y => x ≤ y)) (hd : ns.Nodup) (hm : ∀ x, x ∈ ns ↔ (getF l x).isSome = true) : ns = l.map Fil.name := by
  have hp : (l.map Fil.name).Pairwise (fun x y => x < y) := List.pairwise_map.2 h.up
  have hnd : (l.map Fil.name).Nodup := hp.imp (fun hlt e => by rw [e] at hlt; exact List.lt_irrefl _ hlt)
  have hperm : ns.Perm (l.map Fil.name) := (List.perm_ext_iff_of_nodup hd hnd).2 fun x => by
    rw [hm x]
    constructor
    · intro hs
      apply Classical.byContradiction
      intro hc
      rw [getF_none.2 hc] at hs
      cases hs
    · intro hx
      cases hg : getF l x with
      | some f => rfl
      | none => exact absurd hx (getF_none.1 hg)
  exact List.Perm.eq_of_pairwise (le := fun a b => a ≤ b) (fun a b _ _ h1 h2 => List.le_antisymm h1 h2) hu (hp.imp (fun h => List.le_of_lt h)) hperm
end

end Go.Proofs.Ytbepanhndpkdhaa.Cd
