/-
  Free, Count, Has, Acts, Down; On, Arm; a nil disk. Conditions: none.
-/
import Derived.Test.YtbepanhndpkdhaaRep
namespace Go.Proofs.Ytbepanhndpkdhaa.Cd
open Go.RowKit

section
variable {w : World} {g N bf c1 p1 c2 p2 : Nat} {S : Nat → Prop} {P P' : Pd} {lv lv' : Value}

theorem row_set {w : World} {e : TypeId} {size n : Nat} {xs : List Value} {v : Value} {a : Addr} (h : w.ownsRow 0 e size v n xs) (u : Value) (hne : ∀ b, v.ownBlock = some b → b ≠ a.block) : (w.setCell a u).ownsRow 0 e size v n xs :=
  row_kept h fun b hb => heap_setCell_other _ _ _ _ (hne b hb)

/-- A cell of the disk's own block is written that leads nowhere. -/
theorem DiskR.cell (h : DiskR w g S P N bf c1 p1 c2 p2 lv) (k : Nat) (v : Value) (P' : Pd) (hd : (dcells P bf c1 p1 c2 p2 lv).setIfInBounds k v = dcells P' bf c1 p1 c2 p2 lv)
    (e : P'.files = P.files ∧ P'.now = P.now ∧ P'.nn = P.nn ∧ P'.safe = P.safe ∧ P'.ns = P.ns ∧ P'.late = P.late) (hf : Fits P' N) : DiskR (w.setCell ⟨g, k, none⟩ v) g S P' N bf c1 p1 c2 p2 lv := by
  obtain ⟨e1, e2, e3, e4, e5, e6⟩ := e
  obtain ⟨n1, n2, n3, n4, n5⟩ := h.neg
  obtain ⟨n, hfl, hn⟩ := h.fil
  obtain ⟨j, hsf, hjj⟩ := h.safe
  refine ⟨hf, ?_, ⟨n, by rw [e1]; exact hfl.setCell (fun e => n1 e.symm) v, hn⟩, ?_, ⟨j, ?_, by rw [e6]; exact hjj⟩, ?_, h.neg, h.nef, h.nes, h.nel, h.ins, h.inl, fun k hk => by rw [World.size_setCell]; exact h.lt k hk⟩
  · rw [← hd]
    exact heap_setCell_same _ _ _ _ _ _ h.row
  · rw [e2, e3]
    exact h.now.heap (heap_setCell_other _ _ _ _ (fun e => n2 e.symm)) (heap_setCell_other _ _ _ _ (fun e => n3 e.symm))
  · rw [e4, e5]
    exact hsf.heap (heap_setCell_other _ _ _ _ (fun e => n4 e.symm)) (heap_setCell_other _ _ _ _ (fun e => n5 e.symm))
  · rw [e6]
    exact row_set h.late _ (fun b hb => (h.nel b hb).1)

theorem DiskR.frozen (h : DiskR w g S P N bf c1 p1 c2 p2 lv) (k : Nat) : w.frozen? ⟨g, k, none⟩ = false := by simp [World.frozen?, h.row]
end

set_option maxRecDepth 100000 in
set_option maxHeartbeats 800000 in
theorem free_any (g N : Nat) (S : Nat → Prop) (P : Pd) (w : World) (h : Rep w g S P N) :
    Calls Try.prog 28 #[.pointer (some ⟨g, 0, none⟩)] w (Says (.int .i64 ((P.room : Int) - P.nn)) w) := by
  obtain ⟨bf, c1, p1, c2, p2, lv, h⟩ := h
  have c0 : w.cell? ⟨g, 0, none⟩ = some (.int .i64 P.room) := cell_of_row _ _ _ _ _ _ h.row
  have c4 : w.cell? ⟨g, 4, none⟩ = some (.map (some p1)) := cell_of_row _ _ _ _ _ _ h.row
  have hl := fun ty => h.now.pgs.len ty
  have hl : ∀ ty, (Builtin.len_ #[68] ty #[.map (some p1)]).run Try.prog w = .ok (.int .i64 P.nn) w := hl
  have hl2 : ∀ ty, (Builtin.len_ #[68] ty #[.map (some p1)]).run Try.prog w.drew = .ok (.int .i64 P.nn) w.drew := fun ty => MapF.len (M := pgK) (h.now.pgs.drew) ty
  have b1 := h.fits.room
  have b2 := h.fits.nns
  clear h
  go_enter Try.func28, Try.ntmps28
  go_wp2_with fail
  go_region
  all_goals
    go_wp2_with fail
    go_ret
    exact ⟨rfl, (Below.refl _ _).drew⟩

set_option maxRecDepth 100000 in
theorem acts_any (g N : Nat) (S : Nat → Prop) (P : Pd) (w : World) (h : Rep w g S P N) :
    Calls Try.prog 26 #[.pointer (some ⟨g, 0, none⟩)] w (fun e w' => e = .returned (.int .i64 P.acts) ∧ w' = w) := by
  obtain ⟨bf, c1, p1, c2, p2, lv, h⟩ := h
  have c9 : w.cell? ⟨g, 9, none⟩ = some (.int .i64 P.acts) := cell_of_row _ _ _ _ _ _ h.row
  clear h
  go_enter Try.func26, Try.ntmps26
  go_wp2_with fail
  go_ret
  exact ⟨rfl, rfl⟩

set_option maxRecDepth 100000 in
theorem down_any (g N : Nat) (S : Nat → Prop) (P : Pd) (w : World) (h : Rep w g S P N) :
    Calls Try.prog 27 #[.pointer (some ⟨g, 0, none⟩)] w (fun e w' => e = .returned (.bool P.off) ∧ w' = w) := by
  obtain ⟨bf, c1, p1, c2, p2, lv, h⟩ := h
  have c8 : w.cell? ⟨g, 8, none⟩ = some (.bool P.off) := cell_of_row _ _ _ _ _ _ h.row
  clear h
  go_enter Try.func27, Try.ntmps27
  go_wp2_with fail
  go_ret
  exact ⟨rfl, rfl⟩

/-- How many pages a file has. -/
def countR (P : Pd) (s : List UInt8) : Nat := if P.off = true then 0 else match P.files s with
  | some k => (P.now k).length
  | none => 0

set_option maxRecDepth 100000 in
set_option maxHeartbeats 800000 in
theorem count_any (g N : Nat) (S : Nat → Prop) (P : Pd) (s : List UInt8) (w : World) (h : Rep w g S P N) (hs : s.length ≤ 140737488355328) :
    Calls Try.prog 29 #[.pointer (some ⟨g, 0, none⟩), .string ⟨s.toArray⟩] w (fun e w' => e = .returned (.int .i64 (countR P s : Nat)) ∧ w' = w) := by
  have hre := find_any g N S P s w h hs
  obtain ⟨bf, c1, p1, c2, p2, lv, h⟩ := h
  have c3 : w.cell? ⟨g, 3, none⟩ = some (.map (some c1)) := cell_of_row _ _ _ _ _ _ h.row
  obtain ⟨q, j, hq, _, hq2⟩ := h.now.cnt
  cases hoff : P.off
  · cases hqs : P.files s with
    | none =>
      have he : findR P s = (0, 5) := by unfold findR; rw [hoff, hqs]; rfl
      have he2 : countR P s = 0 := by unfold countR; rw [hoff, hqs]; rfl
      rw [he] at hre
      rw [he2]
      have HR := Lib.hid hre
      clear hre h hq hq2
      go_enter Try.func29, Try.ntmps29
      go_wp2_with (go_at_call 43; refine HR.out.mono ?_; rintro e w' ⟨rfl, rfl⟩)
      go_ret
      exact ⟨rfl, rfl⟩
    | some k =>
      have he : findR P s = (k, 0) := by unfold findR; rw [hoff, hqs]; rfl
      have he2 : countR P s = (P.now k).length := by unfold countR; rw [hoff, hqs]; rfl
      rw [he] at hre
      rw [he2]
      have hk : k ≤ lim := by have h1 := h.fits.files s k hqs; have h2 := h.fits.made; have h3 := h.fits.top; unfold lim; omega
      have hl := cnt_look hq hk (hq2 k hk)
      have HR := Lib.hid hre
      clear hre h hq hq2 hk
      go_enter Try.func29, Try.ntmps29
      go_wp2_with (go_at_call 43; refine HR.out.mono ?_; rintro e w' ⟨rfl, rfl⟩)
      go_ret
      exact ⟨rfl, rfl⟩
  · have he : findR P s = (0, 8) := by unfold findR; rw [hoff]; rfl
    have he2 : countR P s = 0 := by unfold countR; rw [hoff]; rfl
    rw [he] at hre
    rw [he2]
    have HR := Lib.hid hre
    clear hre h hq hq2
    go_enter Try.func29, Try.ntmps29
    go_wp2_with (go_at_call 43; refine HR.out.mono ?_; rintro e w' ⟨rfl, rfl⟩)
    go_ret
    exact ⟨rfl, rfl⟩

/-- Whether a file is there. -/
def hasR (P : Pd) (s : List UInt8) : Bool := !P.off && (P.files s).isSome

set_option maxRecDepth 100000 in
set_option maxHeartbeats 800000 in
theorem has_any (g N : Nat) (S : Nat → Prop) (P : Pd) (s : List UInt8) (w : World) (h : Rep w g S P N) (hs : s.length ≤ 140737488355328) :
    Calls Try.prog 30 #[.pointer (some ⟨g, 0, none⟩), .string ⟨s.toArray⟩] w (fun e w' => e = .returned (.bool (hasR P s)) ∧ w' = w) := by
  have hre := find_any g N S P s w h hs
  have hv : hasR P s = (((findR P s).2 : Int) == 0) := by
    unfold hasR findR
    cases P.off <;> cases P.files s <;> rfl
  rw [hv]
  generalize (findR P s).1 = a at *
  generalize (findR P s).2 = b at *
  have HR := Lib.hid hre
  clear hre h hv
  go_enter Try.func30, Try.ntmps30
  go_wp2_with (go_at_call 43; refine HR.out.mono ?_; rintro e w' ⟨rfl, rfl⟩)
  all_goals
    go_ret
    exact ⟨by simp_all, rfl⟩

/-! ### What writes to the disk's own cells alone -/

/-- What a call leaves that makes another disk of it and answers v. -/
def Makes (g : Nat) (S : Nat → Prop) (P' : Pd) (N : Nat) (v : Value) (w : World) (e : Ending) (w' : World) : Prop :=
  e = .returned v ∧ Rep w' g (since S w w') P' N ∧ Apart S w w'

theorem since_lt {S : Nat → Prop} {w w' : World} (h : ∀ k, S k → k < w.heap.size) (hs : w.heap.size ≤ w'.heap.size) : ∀ k, since S w w' k → k < w'.heap.size := by
  rintro k (h1 | h1)
  · exact Nat.lt_of_lt_of_le (h k h1) hs
  · exact h1.2
theorem apart_setCell {S : Nat → Prop} {w w1 : World} (h : Apart S w w1) {a : Addr} (ha : S a.block) (u : Value) : Apart S w (w1.setCell a u) :=
  ⟨h.os, h.tape, h.output, by rw [World.size_setCell]; exact h.size, fun k hk hn => (heap_setCell_other _ _ _ _ (fun e => hn (by rw [e]; exact ha))).trans (h.block k hk hn)⟩

set_option maxRecDepth 100000 in
theorem on_any (g N : Nat) (S : Nat → Prop) (P : Pd) (w : World) (h : Rep w g S P N) :
    Calls Try.prog 16 #[.pointer (some ⟨g, 0, none⟩)] w (Makes g S { P with off := false } N (.tuple #[]) w) := by
  obtain ⟨bf, c1, p1, c2, p2, lv, h⟩ := h
  have c8 : w.cell? ⟨g, 8, none⟩ = some (.bool P.off) := cell_of_row _ _ _ _ _ _ h.row
  have f8 := h.frozen 8
  have H := Lib.hid h
  clear h
  go_enter Try.func16, Try.ntmps16
  go_wp2_with fail
  go_end0
  have h := H.out
  have hd := h.cell 8 (.bool false) { P with off := false } rfl ⟨rfl, rfl, rfl, rfl, rfl, rfl⟩ ⟨h.fits.top, h.fits.room, h.fits.made, h.fits.acts, h.fits.fuse, h.fits.keep, h.fits.late, h.fits.now, h.fits.safe, h.fits.nns, h.fits.nss, h.fits.files, h.fits.fresh⟩
  exact ⟨rfl, ⟨_, _, _, _, _, _, hd.more (fun _ => .inl) (since_lt h.lt (by simp))⟩, apart_setCell (.refl _ _) h.ins.1 _⟩

set_option maxRecDepth 100000 in
set_option maxHeartbeats 800000 in
theorem arm_any (g N : Nat) (S : Nat → Prop) (P : Pd) (n : Int) (k : Nat) (w : World) (h : Rep w g S P N) (hn : n ≤ 9223372036854775807) (hk : k < 18446744073709551616) :
    Calls Try.prog 19 #[.pointer (some ⟨g, 0, none⟩), .int .i64 n, .int .u64 k] w (Makes g S { P with fuse := n.toNat, keep := k } N (.tuple #[]) w) := by
  obtain ⟨bf, c1, p1, c2, p2, lv, h⟩ := h
  have c10 : w.cell? ⟨g, 10, none⟩ = some (.int .i64 P.fuse) := cell_of_row _ _ _ _ _ _ h.row
  have c11 : w.cell? ⟨g, 11, none⟩ = some (.int .u64 P.keep) := cell_of_row _ _ _ _ _ _ h.row
  have f10 := h.frozen 10
  have f11 := h.frozen 11
  have H := Lib.hid h
  clear h
  go_enter Try.func19, Try.ntmps19
  go_wp2_with fail
  all_goals
    go_end0
    have h := H.out
    have hd := h.cell 10 (.int .i64 (n.toNat : Nat)) { P with fuse := n.toNat } rfl ⟨rfl, rfl, rfl, rfl, rfl, rfl⟩ ⟨h.fits.top, h.fits.room, h.fits.made, h.fits.acts, (by show n.toNat ≤ _; omega), h.fits.keep, h.fits.late, h.fits.now, h.fits.safe, h.fits.nns, h.fits.nss, h.fits.files, h.fits.fresh⟩
    have hd2 := hd.cell 11 (.int .u64 k) { P with fuse := n.toNat, keep := k } rfl ⟨rfl, rfl, rfl, rfl, rfl, rfl⟩ ⟨h.fits.top, h.fits.room, h.fits.made, h.fits.acts, (by show n.toNat ≤ _; omega), hk, h.fits.late, h.fits.now, h.fits.safe, h.fits.nns, h.fits.nss, h.fits.files, h.fits.fresh⟩
    first | rw [show ((n.toNat : Nat) : Int) = 0 by omega] at hd2 | rw [show ((n.toNat : Nat) : Int) = n by omega] at hd2
    exact ⟨rfl, ⟨_, _, _, _, _, _, hd2.more (fun _ => .inl) (since_lt h.lt (by simp))⟩, apart_setCell (apart_setCell (.refl _ _) h.ins.1 _) h.ins.1 _⟩

/-! ### A nil disk -/

theorem find_nil (s : ByteArray) (w : World) : Calls Try.prog 43 #[.pointer none, .string s] w (fun e w' => e = .returned (.tuple #[.int .i64 0, .int .i64 2]) ∧ w' = w) := by
  go_enter Try.func43, Try.ntmps43
  go_wp2_with (go_at_call 44; refine (ready_nil _).mono ?_; rintro e w' ⟨rfl, rfl⟩)
  go_ret2
  exact ⟨rfl, rfl⟩
theorem free_nil (w : World) : Calls Try.prog 28 #[.pointer none] w (fun e w' => e = .returned (.int .i64 0) ∧ w' = w) := by
  go_enter Try.func28, Try.ntmps28
  go_wp2_with fail
  go_ret
  exact ⟨rfl, rfl⟩
theorem acts_nil (w : World) : Calls Try.prog 26 #[.pointer none] w (fun e w' => e = .returned (.int .i64 0) ∧ w' = w) := by
  go_enter Try.func26, Try.ntmps26
  go_wp2_with fail
  go_ret
  exact ⟨rfl, rfl⟩
theorem down_nil (w : World) : Calls Try.prog 27 #[.pointer none] w (fun e w' => e = .returned (.bool false) ∧ w' = w) := by
  go_enter Try.func27, Try.ntmps27
  go_wp2_with fail
  go_ret
  exact ⟨rfl, rfl⟩
theorem on_nil (w : World) : Calls Try.prog 16 #[.pointer none] w (fun e w' => e = .returned (.tuple #[]) ∧ w' = w) := by
  go_enter Try.func16, Try.ntmps16
  go_wp2_with fail
  go_end0
  exact ⟨rfl, rfl⟩
theorem arm_nil (n k : Int) (w : World) : Calls Try.prog 19 #[.pointer none, .int .i64 n, .int .u64 k] w (fun e w' => e = .returned (.tuple #[]) ∧ w' = w) := by
  go_enter Try.func19, Try.ntmps19
  go_wp2_with fail
  go_end0
  exact ⟨rfl, rfl⟩
theorem off_nil (k : Int) (w : World) : Calls Try.prog 18 #[.pointer none, .int .u64 k] w (fun e w' => e = .returned (.tuple #[]) ∧ w' = w) := by
  go_enter Try.func18, Try.ntmps18
  go_wp2_with (go_at_call 44; refine (ready_nil _).mono ?_; rintro e w' ⟨rfl, rfl⟩)
  go_end0
  exact ⟨rfl, rfl⟩
theorem count_nil (s : ByteArray) (w : World) : Calls Try.prog 29 #[.pointer none, .string s] w (fun e w' => e = .returned (.int .i64 0) ∧ w' = w) := by
  go_enter Try.func29, Try.ntmps29
  go_wp2_with (go_at_call 43; refine (find_nil _ _).mono ?_; rintro e w' ⟨rfl, rfl⟩)
  go_ret
  exact ⟨rfl, rfl⟩
theorem has_nil (s : ByteArray) (w : World) : Calls Try.prog 30 #[.pointer none, .string s] w (fun e w' => e = .returned (.bool false) ∧ w' = w) := by
  go_enter Try.func30, Try.ntmps30
  go_wp2_with (go_at_call 43; refine (find_nil _ _).mono ?_; rintro e w' ⟨rfl, rfl⟩)
  go_ret
  exact ⟨rfl, rfl⟩
theorem sync_nil (s : ByteArray) (w : World) : Calls Try.prog 21 #[.pointer none, .string s] w (fun e w' => e = .returned (.int .i64 2) ∧ Below w.heap.size w w') := by
  go_enter Try.func21, Try.ntmps21
  go_wp2_with (go_at_call 43; refine (find_nil _ _).mono ?_; rintro e w' ⟨rfl, rfl⟩)
  go_ret
  exact ⟨rfl, ((Below.refl _ _).alloc (Nat.le_refl _) _).alloc (by simp) _⟩
theorem cut_nil (s : ByteArray) (n : Int) (w : World) : Calls Try.prog 22 #[.pointer none, .string s, .int .i64 n] w (fun e w' => e = .returned (.int .i64 2) ∧ Below w.heap.size w w') := by
  go_enter Try.func22, Try.ntmps22
  go_wp2_with (go_at_call 43; refine (find_nil _ _).mono ?_; rintro e w' ⟨rfl, rfl⟩)
  go_ret
  exact ⟨rfl, (((Below.refl _ _).alloc (Nat.le_refl _) _).alloc (by simp) _).alloc (by simp; omega) _⟩
theorem rename_nil (s t : ByteArray) (w : World) : Calls Try.prog 23 #[.pointer none, .string s, .string t] w (fun e w' => e = .returned (.int .i64 2) ∧ Below w.heap.size w w') := by
  go_enter Try.func23, Try.ntmps23
  go_wp2_with (go_at_call 43; refine (find_nil _ _).mono ?_; rintro e w' ⟨rfl, rfl⟩)
  go_ret
  exact ⟨rfl, by first | exact (((Below.refl _ _).alloc (Nat.le_refl _) _).alloc (by simp) _).alloc (by simp; omega) _ | exact (((((Below.refl _ _).alloc (Nat.le_refl _) _).alloc (by simp) _).alloc (by simp; omega) _).alloc (by simp; omega) _)⟩
theorem remove_nil (s : ByteArray) (w : World) : Calls Try.prog 24 #[.pointer none, .string s] w (fun e w' => e = .returned (.int .i64 2) ∧ Below w.heap.size w w') := by
  go_enter Try.func24, Try.ntmps24
  go_wp2_with (go_at_call 43; refine (find_nil _ _).mono ?_; rintro e w' ⟨rfl, rfl⟩)
  go_ret
  exact ⟨rfl, ((Below.refl _ _).alloc (Nat.le_refl _) _).alloc (by simp) _⟩
theorem write_nil (s : ByteArray) (n : Int) (b : Value) (w : World) : Calls Try.prog 20 #[.pointer none, .string s, .int .i64 n, b] w (fun e w' => e = .returned (.int .i64 2) ∧ w' = w) := by
  go_enter Try.func20, Try.ntmps20
  go_wp2_with (go_at_call 44; refine (ready_nil _).mono ?_; rintro e w' ⟨rfl, rfl⟩)
  go_ret
  exact ⟨rfl, rfl⟩
theorem names_nil (w : World) : Calls Try.prog 25 #[.pointer none] w (fun e w' => e = .returned (.slice none 0 0) ∧ w' = w) := by
  go_enter Try.func25, Try.ntmps25
  go_wp2_with (go_at_call 44; refine (ready_nil _).mono ?_; rintro e w' ⟨rfl, rfl⟩)
  go_ret
  exact ⟨rfl, rfl⟩
theorem read_nil (s : ByteArray) (n : Int) (w : World) : Calls Try.prog 17 #[.pointer none, .string s, .int .i64 n] w (fun e w' => e = .returned (.tuple #[.slice none 0 0, .int .i64 2]) ∧ Below w.heap.size w w') := by
  go_enter Try.func17, Try.ntmps17
  go_wp2_with (go_at_call 43; refine (find_nil _ _).mono ?_; rintro e w' ⟨rfl, rfl⟩)
  go_ret2
  exact ⟨rfl, by first | exact Below.refl _ _ | exact (Below.refl _ _).alloc (Nat.le_refl _) _⟩

end Go.Proofs.Ytbepanhndpkdhaa.Cd
