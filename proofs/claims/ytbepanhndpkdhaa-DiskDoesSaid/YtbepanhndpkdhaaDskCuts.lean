/-
  What the calls leave of files that are written at their ends, cut, renamed and removed: no Go in sight. Conditions: none.
-/
import Derived.Test.YtbepanhndpkdhaaDskLoses
namespace Go.Proofs.Ytbepanhndpkdhaa.Cd

/-! ### Writes at the end -/

theorem write_end {D : Dsk} {n b : List UInt8} (h : D.off = false) (hb : b.length ≤ 512) (hf : freeD D ≠ 0) :
    writeD D n ((pagesF D.now n).length : Nat) b = ends D (wrote D n (pagesF D.now n).length b) 0 := by
  unfold writeD
  rw [if_neg (by rw [h]; simp), if_neg (by omega), if_neg (by omega), if_neg (fun h2 => hf h2.2), Int.toNat_natCast]
theorem write_full {D : Dsk} {n b : List UInt8} (h : D.off = false) (hb : b.length ≤ 512) (hf : freeD D = 0) : writeD D n ((pagesF D.now n).length : Nat) b = (D, 7) := by
  unfold writeD
  rw [if_neg (by rw [h]; simp), if_neg (by omega), if_neg (by omega), if_pos ⟨rfl, hf⟩]
theorem ends_calm {D D1 : Dsk} {e : Nat} (h : D.fuse ≠ 1) : ends D D1 e = (D1, e) := if_neg h

theorem wrote_pages (D : Dsk) (n b : List UInt8) (m : List UInt8) : pagesF (wrote D n (pagesF D.now n).length b).now m = if m = n then pagesF D.now n ++ [pad b] else pagesF D.now m := by
  show pagesF (putF D.now ⟨n, setP (pagesF D.now n) (pagesF D.now n).length (pad b)⟩) m = _
  rw [pagesF_put, setP_end]
theorem wrote_is (D : Dsk) (n b : List UInt8) (i : Nat) (m : List UInt8) : (getF (wrote D n i b).now m).isSome = if m = n then true else (getF D.now m).isSome := by
  show (getF (putF D.now ⟨n, setP (pagesF D.now n) i (pad b)⟩) m).isSome = _
  rw [getF_put]
  by_cases e : m = n
  · rw [if_pos e, if_pos (by exact e)]; rfl
  · rw [if_neg e, if_neg (by exact e)]
theorem wrote_count {D : Dsk} (h : Once D.now) (n b : List UInt8) : count (wrote D n (pagesF D.now n).length b).now = count D.now + 1 := by
  have := count_put h ⟨n, setP (pagesF D.now n) (pagesF D.now n).length (pad b)⟩
  rw [setP_end] at this
  show count (putF D.now ⟨n, setP (pagesF D.now n) (pagesF D.now n).length (pad b)⟩) = _
  rw [setP_end]
  simp only [List.length_append, List.length_singleton] at this
  omega
theorem wrote_once {D : Dsk} (h : Once D.now) (n b : List UInt8) (i : Nat) : Once (wrote D n i b).now := put_once h _

theorem sync_calm {D : Dsk} {n : List UInt8} (h : D.off = false) (h2 : (getF D.now n).isSome = true) (hf : D.fuse ≠ 1) : syncD D n = (syncs (actD D) n, 0) := by
  unfold syncD
  rw [may_ok h h2, ends_calm hf, if_pos rfl]
theorem cut_calm {D : Dsk} {n : List UInt8} (h : D.off = false) (h2 : (getF D.now n).isSome = true) (hf : D.fuse ≠ 1) (k : Nat) : cutD D n k = (cuts (actD D) n k, 0) := by
  unfold cutD
  rw [if_neg (by omega), may_ok h h2, ends_calm hf, if_pos rfl, Int.toNat_natCast]
theorem remove_calm {D : Dsk} {n : List UInt8} (h : D.off = false) (h2 : (getF D.now n).isSome = true) (hf : D.fuse ≠ 1) : removeD D n = (removes (actD D) n, 0) := by
  unfold removeD
  rw [may_ok h h2, ends_calm hf, if_pos rfl]

/-! ### Room -/

structure Roomy (D : Dsk) (room k : Nat) : Prop where
  off : D.off = false
  fuse : D.fuse = 0
  once : Once D.now
  room : D.room = room
  count : count D.now = k

theorem new_roomy {room : Nat} (h : room ≤ 4096) : Roomy (newD room) room 0 :=
  ⟨rfl, rfl, once_nil, by show (if (room : Int) < 0 then 0 else if (4096 : Int) < room then 4096 else (room : Int).toNat) = room; rw [if_neg (by omega), if_neg (by omega), Int.toNat_natCast], rfl⟩
theorem Roomy.free {D : Dsk} {room k : Nat} (h : Roomy D room k) : freeD D = (room : Int) - k := by unfold freeD; rw [h.room, h.count]
theorem Roomy.write {D : Dsk} {room k : Nat} (h : Roomy D room k) (hk : k < room) {n b : List UInt8} (hb : b.length ≤ 512) :
    (writeD D n ((pagesF D.now n).length : Nat) b).2 = 0 ∧ Roomy (writeD D n ((pagesF D.now n).length : Nat) b).1 room (k + 1) := by
  have hf := h.free
  rw [write_end h.off hb (by omega), ends_calm (by rw [h.fuse]; omega)]
  exact ⟨rfl, h.off, by show D.fuse - 1 = 0; rw [h.fuse], wrote_once h.once _ _ _, h.room, by rw [wrote_count h.once, h.count]⟩
theorem Roomy.full {D : Dsk} {room : Nat} (h : Roomy D room room) {n b : List UInt8} (hb : b.length ≤ 512) : writeD D n ((pagesF D.now n).length : Nat) b = (D, 7) :=
  write_full h.off hb (by rw [h.free]; omega)
theorem pages_of_none {l : List Fil} {n : List UInt8} (h : (getF l n).isSome = false) : pagesF l n = [] := by
  unfold pagesF
  cases hg : getF l n with
  | none => rfl
  | some f => rw [hg] at h; cases h
theorem Roomy.cut {D : Dsk} {room k : Nat} (h : Roomy D room k) {n : List UInt8} (h2 : (getF D.now n).isSome = true) (j : Nat) (hj : j ≤ (pagesF D.now n).length) :
    (cutD D n j).2 = 0 ∧ (getF (cutD D n j).1.now n).isSome = true ∧ (pagesF (cutD D n j).1.now n).length = j ∧ Roomy (cutD D n j).1 room (k - ((pagesF D.now n).length - j)) ∧ (pagesF D.now n).length ≤ k := by
  rw [cut_calm h.off h2 (by rw [h.fuse]; omega)]
  have hc := count_put h.once ⟨n, (pagesF D.now n).take j⟩
  simp only [List.length_take, Nat.min_eq_left hj] at hc
  have hw := count_without h.once n
  have hk := h.count
  refine ⟨rfl, ?_, ?_, ⟨h.off, by show D.fuse - 1 = 0; rw [h.fuse], put_once h.once _, h.room, ?_⟩, by omega⟩
  · show (getF (putF D.now _) n).isSome = true
    rw [getF_put, if_pos rfl]; rfl
  · show (pagesF (putF D.now ⟨n, (pagesF D.now n).take j⟩) n).length = j
    rw [pagesF_put, if_pos rfl]
    show ((pagesF D.now n).take j).length = j
    rw [List.length_take]; omega
  · show Cd.count (putF D.now ⟨n, (pagesF D.now n).take j⟩) = _
    omega
theorem Roomy.remove {D : Dsk} {room k : Nat} (h : Roomy D room k) {n : List UInt8} (h2 : (getF D.now n).isSome = true) :
    (removeD D n).2 = 0 ∧ Roomy (removeD D n).1 room (k - (pagesF D.now n).length) ∧ (pagesF D.now n).length ≤ k := by
  rw [remove_calm h.off h2 (by rw [h.fuse]; omega)]
  have hw := count_without h.once n
  have hk := h.count
  exact ⟨rfl, ⟨h.off, by show D.fuse - 1 = 0; rw [h.fuse], without_once h.once _, h.room, by show Cd.count (without D.now n) = _; omega⟩, by omega⟩

/-! ### One file alone -/

theorem put_one (F : List UInt8) (a b : List (List UInt8)) : putF [⟨F, a⟩] ⟨F, b⟩ = [⟨F, b⟩] := by
  have : ¬ (F < F) := List.lt_irrefl F
  simp [putF, without, this]
theorem get_one (F : List UInt8) (a : List (List UInt8)) : getF [⟨F, a⟩] F = some ⟨F, a⟩ := by simp [getF]
theorem pages_one (F : List UInt8) (a : List (List UInt8)) : pagesF [⟨F, a⟩] F = a := by simp [pagesF, getF]

theorem keeps_one {keep : Nat} {F : List UInt8} (ws : List Wrt) : ∀ (i : Nat) (a : List (List UInt8)), (∀ w ∈ ws, w.name = F) → ∃ b, keeps keep i ws [⟨F, a⟩] = [⟨F, b⟩] := by
  induction ws with
  | nil => intro i a _; exact ⟨a, rfl⟩
  | cons w r ih =>
    intro i a h
    have hn := h w (by simp)
    rw [keeps]
    split
    · rw [hn, put_one]
      exact ih _ _ (fun x hx => h x (List.mem_cons_of_mem w hx))
    · exact ih _ _ (fun x hx => h x (List.mem_cons_of_mem w hx))

/-- A disk that has one file, and whose writes are all that file's: behind a loss of power it has that file, of at most as many pages as the writes lie in. -/
theorem lose_one {D : Dsk} {F : List UInt8} {a s : List (List UInt8)} {L : Nat} (h : D.off = false) (hn : D.now = [⟨F, a⟩]) (hs : D.safe = [⟨F, s⟩]) (hw : ∀ w ∈ D.waits, w.name = F ∧ w.page < L) (hl : s.length ≤ L) (keep : Nat) :
    ∃ b, (lose D keep).now = [⟨F, b⟩] ∧ b.length ≤ L ∧ (D.waits = [] → b = s) := by
  obtain ⟨b, hb⟩ := keeps_one (keep := keep) (F := F) D.waits 0 s (fun w hx => (hw w hx).1)
  have hsh := keeps_short (keep := keep) (n := F) (L := L) D.waits 0 D.safe (fun w hx _ => (hw w hx).2) (by rw [hs, pages_one]; exact hl)
  refine ⟨b, ?_, ?_, fun hq => ?_⟩
  · rw [lose_now h, hs, hb, hn]
    simp [there, get_one]
  · rw [hs, hb, pages_one] at hsh
    exact hsh
  · rw [hq] at hb
    have hb : [(⟨F, s⟩ : Fil)] = [⟨F, b⟩] := hb
    injection hb with hb
    injection hb with _ hb
    exact hb.symm

end Go.Proofs.Ytbepanhndpkdhaa.Cd
