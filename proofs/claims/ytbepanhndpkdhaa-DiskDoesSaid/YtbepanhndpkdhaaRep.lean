/-
  The program's disk in memory. Conditions: none.
-/
import Derived.Test.YtbepanhndpkdhaaSide
namespace Go.Proofs.Ytbepanhndpkdhaa.Cd
open Go.RowKit

/-- A write of the program's. -/
structure Pw where
  file : Nat
  spot : Nat
  data : List UInt8
/-- The program's disk. -/
structure Pd where
  room : Nat
  files : List UInt8 → Option Nat
  made : Nat
  now : Pages
  nn : Nat
  safe : Pages
  ns : Nat
  late : List Pw
  off : Bool
  acts : Nat
  fuse : Nat
  keep : Nat

def wcs (l : List Pw) : List Value := l.flatMap fun x => (wv x.file x.spot x.data).toList
/-- What can be in the list of what waits. -/
def PwOk (m : Nat) (x : Pw) : Prop := x.file ≤ m ∧ x.spot < 4096 ∧ x.data.length = 512

/-- How great things are. -/
structure Fits (P : Pd) (N : Nat) : Prop where
  top : N ≤ 137438953472
  room : P.room ≤ 4096
  made : P.made ≤ N
  acts : P.acts ≤ N
  fuse : P.fuse ≤ 9223372036854775807
  keep : P.keep < 18446744073709551616
  late : ∀ x ∈ P.late, PwOk P.made x
  now : ∀ f, (P.now f).length ≤ 4096
  safe : ∀ f, (P.safe f).length ≤ 4096
  nns : P.nn ≤ P.room
  nss : P.ns + 4097 * P.late.length ≤ 4097 * N
  files : ∀ s k, P.files s = some k → k ≤ P.made
  fresh : ∀ f, P.made < f → P.now f = [] ∧ P.safe f = []

def dcells (P : Pd) (bf c1 p1 c2 p2 : Nat) (lv : Value) : Array Value :=
  #[.int .i64 P.room, .map (some bf), .int .i64 P.made, .map (some c1), .map (some p1), .map (some c2), .map (some p2), lv, .bool P.off, .int .i64 P.acts, .int .i64 P.fuse, .int .u64 P.keep]

/-- The disk P lies at block g; all of its blocks are in S. -/
structure DiskR (w : World) (g : Nat) (S : Nat → Prop) (P : Pd) (N bf c1 p1 c2 p2 : Nat) (lv : Value) : Prop where
  fits : Fits P N
  row : w.heap[g]? = some (.cells (dcells P bf c1 p1 c2 p2 lv) 74)
  fil : ∃ n, MapF filK w bf n P.files ∧ n ≤ N
  now : Side w c1 p1 P.now P.nn N
  safe : ∃ k, Side w c2 p2 P.safe P.ns k ∧ k + P.late.length ≤ N
  late : w.ownsRow 0 107 514 lv P.late.length (wcs P.late)
  neg : g ≠ bf ∧ g ≠ c1 ∧ g ≠ p1 ∧ g ≠ c2 ∧ g ≠ p2
  nef : bf ≠ c1 ∧ bf ≠ p1 ∧ bf ≠ c2 ∧ bf ≠ p2
  nes : c1 ≠ c2 ∧ c1 ≠ p2 ∧ p1 ≠ c2 ∧ p1 ≠ p2
  nel : ∀ b, lv.ownBlock = some b → b ≠ g ∧ b ≠ bf ∧ b ≠ c1 ∧ b ≠ p1 ∧ b ≠ c2 ∧ b ≠ p2
  ins : S g ∧ S bf ∧ S c1 ∧ S p1 ∧ S c2 ∧ S p2
  inl : ∀ b, lv.ownBlock = some b → S b
  lt : ∀ k, S k → k < w.heap.size

/-- The disk P lies at block g. -/
def Rep (w : World) (g : Nat) (S : Nat → Prop) (P : Pd) (N : Nat) : Prop := ∃ bf c1 p1 c2 p2 lv, DiskR w g S P N bf c1 p1 c2 p2 lv

section
variable {w w' : World} {g N bf c1 p1 c2 p2 : Nat} {S T : Nat → Prop} {P : Pd} {lv : Value}

theorem row_kept {e : TypeId} {size n : Nat} {xs : List Value} (h : w.ownsRow 0 e size lv n xs) (hk : ∀ b, lv.ownBlock = some b → w'.heap[b]? = w.heap[b]?) : w'.ownsRow 0 e size lv n xs := by
  refine ⟨h.1, ?_⟩
  rcases h.2 with h2 | ⟨b, cap, cur, rfl, h3, h4, r⟩
  · exact .inl h2
  · exact .inr ⟨b, cap, cur, rfl, h3, (hk b rfl).trans h4, r⟩

/-- What turns no block of the disk's leaves the disk. -/
theorem DiskR.keep (h : DiskR w g S P N bf c1 p1 c2 p2 lv) (hk : ∀ b, S b → w'.heap[b]? = w.heap[b]?) (hs : w.heap.size ≤ w'.heap.size) : DiskR w' g S P N bf c1 p1 c2 p2 lv := by
  obtain ⟨i1, i2, i3, i4, i5, i6⟩ := h.ins
  obtain ⟨n, hf, hn⟩ := h.fil
  obtain ⟨k, hsf, hkk⟩ := h.safe
  exact ⟨h.fits, (hk g i1).trans h.row, ⟨n, hf.heap (hk bf i2), hn⟩, h.now.heap (hk c1 i3) (hk p1 i4), ⟨k, hsf.heap (hk c2 i5) (hk p2 i6), hkk⟩, row_kept h.late (fun b hb => hk b (h.inl b hb)), h.neg, h.nef, h.nes, h.nel, h.ins, h.inl,
    fun k hk => Nat.lt_of_lt_of_le (h.lt k hk) hs⟩

theorem DiskR.below {B : Nat} (h : DiskR w g S P N bf c1 p1 c2 p2 lv) (hb : Below B w w') (hB : ∀ k, S k → k < B) : DiskR w' g S P N bf c1 p1 c2 p2 lv := h.keep (fun b hS => hb.block b (hB b hS)) hb.size
theorem DiskR.apart (h : DiskR w g S P N bf c1 p1 c2 p2 lv) (hg : Apart T w w') (hd : ∀ k, S k → ¬ T k) : DiskR w' g S P N bf c1 p1 c2 p2 lv := h.keep (fun b hS => hg.block b (h.lt b hS) (hd b hS)) hg.size
theorem DiskR.more (h : DiskR w g S P N bf c1 p1 c2 p2 lv) (hs : ∀ k, S k → T k) (ht : ∀ k, T k → k < w.heap.size) : DiskR w g T P N bf c1 p1 c2 p2 lv :=
  ⟨h.fits, h.row, h.fil, h.now, h.safe, h.late, h.neg, h.nef, h.nes, h.nel, ⟨hs _ h.ins.1, hs _ h.ins.2.1, hs _ h.ins.2.2.1, hs _ h.ins.2.2.2.1, hs _ h.ins.2.2.2.2.1, hs _ h.ins.2.2.2.2.2⟩, fun b hb => hs b (h.inl b hb), ht⟩
theorem Fits.mono {M : Nat} (h : Fits P N) (hN : N ≤ M) (hM : M ≤ 137438953472) : Fits P M :=
  ⟨hM, h.room, by have := h.made; omega, by have := h.acts; omega, h.fuse, h.keep, h.late, h.now, h.safe, h.nns, by have := h.nss; omega, h.files, h.fresh⟩
theorem DiskR.mono {M : Nat} (h : DiskR w g S P N bf c1 p1 c2 p2 lv) (hN : N ≤ M) (hM : M ≤ 137438953472) : DiskR w g S P M bf c1 p1 c2 p2 lv := by
  obtain ⟨n, hf, hn⟩ := h.fil
  obtain ⟨k, hsf, hkk⟩ := h.safe
  exact ⟨h.fits.mono hN hM, h.row, ⟨n, hf, by omega⟩, h.now.mono hN, ⟨k, hsf, by omega⟩, h.late, h.neg, h.nef, h.nes, h.nel, h.ins, h.inl, h.lt⟩
theorem Rep.keep (h : Rep w g S P N) (hk : ∀ b, S b → w'.heap[b]? = w.heap[b]?) (hs : w.heap.size ≤ w'.heap.size) : Rep w' g S P N := by
  obtain ⟨bf, c1, p1, c2, p2, lv, h⟩ := h
  exact ⟨_, _, _, _, _, _, h.keep hk hs⟩
theorem Rep.lt (h : Rep w g S P N) : ∀ k, S k → k < w.heap.size := by
  obtain ⟨bf, c1, p1, c2, p2, lv, h⟩ := h
  exact h.lt
theorem Rep.more (h : Rep w g S P N) (hs : ∀ k, S k → T k) (ht : ∀ k, T k → k < w.heap.size) : Rep w g T P N := by
  obtain ⟨bf, c1, p1, c2, p2, lv, h⟩ := h
  exact ⟨_, _, _, _, _, _, h.more hs ht⟩
theorem Rep.below {B : Nat} (h : Rep w g S P N) (hb : Below B w w') (hB : ∀ k, S k → k < B) : Rep w' g S P N := h.keep (fun b hS => hb.block b (hB b hS)) hb.size
theorem Rep.apart (h : Rep w g S P N) (hg : Apart T w w') (hd : ∀ k, S k → ¬ T k) : Rep w' g S P N := h.keep (fun b hS => hg.block b (h.lt b hS) (hd b hS)) hg.size
theorem Rep.mono {M : Nat} (h : Rep w g S P N) (hN : N ≤ M) (hM : M ≤ 137438953472) : Rep w g S P M := by
  obtain ⟨bf, c1, p1, c2, p2, lv, h⟩ := h
  exact ⟨_, _, _, _, _, _, h.mono hN hM⟩
theorem Rep.fits (h : Rep w g S P N) : Fits P N := by
  obtain ⟨bf, c1, p1, c2, p2, lv, h⟩ := h
  exact h.fits
end

/-- The error's number of a disk that can't be asked. -/
def errR (P : Pd) : Nat := if P.off = true then 8 else 0

/-- What a call leaves that turns nothing: it answers v. -/
def Says (v : Value) (w : World) (e : Ending) (w' : World) : Prop := e = .returned v ∧ Below w.heap.size w w'

set_option maxRecDepth 100000 in
theorem ready_any (g N : Nat) (S : Nat → Prop) (P : Pd) (w : World) (h : Rep w g S P N) :
    Calls Try.prog 44 #[.pointer (some ⟨g, 0, none⟩)] w (fun e w' => e = .returned (.int .i64 (errR P : Nat)) ∧ w' = w) := by
  obtain ⟨bf, c1, p1, c2, p2, lv, h⟩ := h
  have c8 : w.cell? ⟨g, 8, none⟩ = some (.bool P.off) := cell_of_row _ _ _ _ _ _ h.row
  clear h
  cases hoff : P.off
  · rw [hoff] at c8
    have he : errR P = 0 := by unfold errR; rw [hoff]; rfl
    go_enter Try.func44, Try.ntmps44
    go_wp2_with fail
    go_ret
    exact ⟨by rw [he]; rfl, rfl⟩
  · rw [hoff] at c8
    have he : errR P = 8 := by unfold errR; rw [hoff]; rfl
    go_enter Try.func44, Try.ntmps44
    go_wp2_with fail
    go_ret
    exact ⟨by rw [he]; rfl, rfl⟩

theorem ready_nil (w : World) : Calls Try.prog 44 #[.pointer none] w (fun e w' => e = .returned (.int .i64 2) ∧ w' = w) := by
  go_enter Try.func44, Try.ntmps44
  go_wp2_with fail
  go_ret
  exact ⟨rfl, rfl⟩

/-- What find answers. -/
def findR (P : Pd) (s : List UInt8) : Nat × Nat := if P.off = true then (0, 8) else match P.files s with
  | some k => (k, 0)
  | none => (0, 5)

set_option maxRecDepth 100000 in
set_option maxHeartbeats 800000 in
theorem find_any (g N : Nat) (S : Nat → Prop) (P : Pd) (s : List UInt8) (w : World) (h : Rep w g S P N) (hs : s.length ≤ 140737488355328) :
    Calls Try.prog 43 #[.pointer (some ⟨g, 0, none⟩), .string ⟨s.toArray⟩] w (fun e w' => e = .returned (.tuple #[.int .i64 ((findR P s).1 : Nat), .int .i64 ((findR P s).2 : Nat)]) ∧ w' = w) := by
  have hre := ready_any g N S P w h
  obtain ⟨bf, c1, p1, c2, p2, lv, h⟩ := h
  have c1 : w.cell? ⟨g, 1, none⟩ = some (.map (some bf)) := cell_of_row _ _ _ _ _ _ h.row
  obtain ⟨n, hf, _⟩ := h.fil
  have hl := fil_look hf (s := s) (by simp only [maxLen]; omega)
  clear h hf
  cases hoff : P.off
  · have he : errR P = 0 := by unfold errR; rw [hoff]; rfl
    rw [he] at hre
    cases hq : P.files s with
    | none =>
      rw [hq] at hl
      have he : findR P s = (0, 5) := by unfold findR; rw [hoff, hq]; rfl
      rw [he]
      have HR := Lib.hid hre
      clear hre
      go_enter Try.func43, Try.ntmps43
      go_wp2_with (go_at_call 44; refine HR.out.mono ?_; rintro e w' ⟨rfl, rfl⟩)
      go_ret2
      exact ⟨rfl, rfl⟩
    | some k =>
      rw [hq] at hl
      have he : findR P s = (k, 0) := by unfold findR; rw [hoff, hq]; rfl
      rw [he]
      have HR := Lib.hid hre
      clear hre
      go_enter Try.func43, Try.ntmps43
      go_wp2_with (go_at_call 44; refine HR.out.mono ?_; rintro e w' ⟨rfl, rfl⟩)
      go_ret2
      exact ⟨rfl, rfl⟩
  · have he : errR P = 8 := by unfold errR; rw [hoff]; rfl
    rw [he] at hre
    have he : findR P s = (0, 8) := by unfold findR; rw [hoff]; rfl
    rw [he]
    have HR := Lib.hid hre
    clear hre
    go_enter Try.func43, Try.ntmps43
    go_wp2_with (go_at_call 44; refine HR.out.mono ?_; rintro e w' ⟨rfl, rfl⟩)
    go_ret2
    exact ⟨rfl, rfl⟩

end Go.Proofs.Ytbepanhndpkdhaa.Cd
