/-
  log.put: bytes are written behind the records', from the page on in which these end. Conditions: the power is on; there are bytes; names that can be.
-/
import Derived.Test.YtoajfnkhonegnaaG10
import Derived.Test.YtoajfnkhonegnaaG8
import Derived.Shelf.Abstract
import Derived.Shelf.RegionOpen
import Derived.WalkKit
import Derived.OwnWalkIn
import Derived.TacticsInMore
import Derived.LoopNIn
import Derived.LoopIn
import Derived.BigRegionIn
import Derived.IntWalk
/-
  A log as it lies: ready, Size, Sync, Clear. Conditions: names that can be.
-/
namespace Go.Proofs.Ytoajfnkhonegnaa.Cd
open Go.RowKit

/-- The set, and one block more. -/
def plus (S : Nat → Prop) (l : Nat) : Nat → Prop := fun k => S k ∨ k = l

/-- Where a slice has bytes its block is one of bytes. -/
def U8 (w : World) (v : Value) (n : Nat) : Prop := 0 < n → ∀ A m c, v = .slice (some A) m c → ∃ cs fr, w.heap[A.block]? = some (.cells cs 5 fr)
theorem u8_own {w : World} {B : Nat} {v : Value} {bs : List UInt8} (h : Own w B v bs) : U8 w v bs.length := by
  intro h0 A m c e
  obtain ⟨g, cap, cur, e2, _, _, h3, _⟩ := own_block h h0
  rw [e] at e2
  injection e2 with e2 _ _
  injection e2 with e2
  exact ⟨cur, (0, 0), by rw [e2]; exact h3⟩

/-- Block l is a log of the file n on the disk at g, whose records' bytes are s; it is none of the disk's blocks, which are those of S. -/
def LogAt (w : World) (S : Nat → Prop) (l g : Nat) (n s : List UInt8) : Prop :=
  ¬ S l ∧ ∃ v, w.heap[l]? = some (.cells #[.pointer (some ⟨g, 0, none⟩), .string ⟨n.toArray⟩, .int .i64 s.length, v] 69) ∧ Far w (plus S l) v (lastP s) ∧ U8 w v (lastP s).length

section
variable {w w' : World} {S T : Nat → Prop} {l g : Nat} {n s : List UInt8}
theorem LogAt.lt (h : LogAt w S l g n s) : l < w.heap.size := by
  obtain ⟨_, v, h, _⟩ := h
  exact (Array.getElem?_eq_some_iff.1 h).1
theorem far_lt {v : Value} {bs : List UInt8} (h : Far w S v bs) (h0 : 0 < bs.length) {A : Addr} {m c : Nat} (e : v = .slice (some A) m c) : A.block < w.heap.size := by
  obtain ⟨⟨A', c', e1, _, _, _, e5, _⟩, _⟩ := h
  rw [e1] at e
  injection e with e _ _
  exact e5 A e h0
theorem LogAt.below (h : LogAt w S l g n s) (hb : Below w.heap.size w w') : LogAt w' S l g n s := by
  have hlt := h.lt
  obtain ⟨h1, v, h2, h3, h4⟩ := h
  refine ⟨h1, v, (hb.block l hlt).trans h2, h3.below hb, fun h0 A m c e => ?_⟩
  rw [hb.block _ (far_lt h3 h0 e)]
  exact h4 h0 A m c e
theorem LogAt.less (h : LogAt w S l g n s) (hst : ∀ k, k < w.heap.size → T k → S k) : LogAt w T l g n s := by
  have hlt := h.lt
  obtain ⟨h1, v, h2, h3, h4⟩ := h
  refine ⟨fun e => h1 (hst _ hlt e), v, h2, h3.less fun k hk e => ?_, h4⟩
  rcases e with e | e
  · exact .inl (hst k hk e)
  · exact .inr e
/-- A call on the disk leaves the log as it was. -/
theorem LogAt.apart (h : LogAt w S l g n s) (ha : Apart S w w') : LogAt w' (since S w w') l g n s := by
  have hlt := h.lt
  obtain ⟨h1, v, h2, h3, h4⟩ := h
  refine ⟨fun e => ?_, v, (ha.block l hlt h1).trans h2, ?_, fun h0 A m c e => ?_⟩
  · rcases e with e | e
    · exact h1 e
    · omega
  · have := h3.apart (ha.mono (T := plus S l) fun k hk => .inl hk)
    refine this.less fun k hk e => ?_
    rcases e with (e | e) | e
    · exact .inl (.inl e)
    · exact .inr e
    · exact .inl (.inr e)
  · rw [ha.block _ (far_lt h3 h0 e) (fun e2 => h3.2 h0 A m c e (.inl e2))]
    exact h4 h0 A m c e
/-- So does a turn of blocks that are neither the log's own nor bytes. -/
theorem LogAt.aside (h : LogAt w S l g n s) (ha : Apart T w w') (hl : ¬ T l) (hT : ∀ k, T k → k < w.heap.size → ∀ cs fr, w.heap[k]? ≠ some (.cells cs 5 fr)) : LogAt w' S l g n s := by
  have hlt := h.lt
  obtain ⟨h1, v, h2, h3, h4⟩ := h
  have hn : 0 < (lastP s).length → ∀ A m c, v = .slice (some A) m c → ¬ T A.block := fun h0 A m c e ht => by
    obtain ⟨cs, fr, hc⟩ := h4 h0 A m c e
    exact hT _ ht (far_lt h3 h0 e) cs fr hc
  refine ⟨h1, v, (ha.block l hlt hl).trans h2, ?_, fun h0 A m c e => ?_⟩
  · obtain ⟨⟨A, c, e1, e2, e3, e4, e5, e6⟩, h5⟩ := h3
    refine ⟨⟨A, c, e1, e2, e3, e4, fun ad e h0 => Nat.lt_of_lt_of_le (e5 ad e h0) ha.size, fun ad e j u hu => ?_⟩, h5⟩
    have hj : j < (lastP s).length := by have := (List.getElem?_eq_some_iff.1 hu).1; rwa [vb_length] at this
    rw [ha.cell (p := ad.add j) (by rw [block_of_add]; exact e5 ad e (by omega)) (by rw [block_of_add]; rw [e] at e1; exact hn (by omega) ad _ _ e1)]
    exact e6 ad e j u hu
  · rw [ha.block _ (far_lt h3 h0 e) (hn h0 A m c e)]
    exact h4 h0 A m c e
theorem LogAt.cells (h : LogAt w S l g n s) : w.cell? ⟨l, 0, none⟩ = some (.pointer (some ⟨g, 0, none⟩)) ∧ w.cell? ⟨l, 1, none⟩ = some (.string ⟨n.toArray⟩) ∧ w.cell? ⟨l, 2, none⟩ = some (.int .i64 s.length) ∧ ∃ v, w.cell? ⟨l, 3, none⟩ = some v ∧ Far w (plus S l) v (lastP s) := by
  obtain ⟨_, v, h2, h3, _⟩ := h
  exact ⟨cell_of_row _ _ 0 _ _ _ h2, cell_of_row _ _ 1 _ _ _ h2, cell_of_row _ _ 2 _ _ _ h2, v, cell_of_row _ _ 3 _ _ _ h2, h3⟩
theorem LogAt.frozen (h : LogAt w S l g n s) (o : Nat) : w.frozen? ⟨l, o, none⟩ = false := by
  obtain ⟨_, v, h2, _⟩ := h
  unfold World.frozen?
  simp only [h2]
  rfl
/-- A log that was laid a moment ago. -/
theorem log_new (g : Nat) (n s : List UInt8) (v : Value) (hS : ∀ k, S k → k < w.heap.size) (hv : Far w S v (lastP s)) (hu : U8 w v (lastP s).length) : LogAt (w.alloc (.cells #[.pointer (some ⟨g, 0, none⟩), .string ⟨n.toArray⟩, .int .i64 s.length, v] 69)) S w.heap.size g n s := by
  have hb : Below w.heap.size w (w.alloc (.cells #[.pointer (some ⟨g, 0, none⟩), .string ⟨n.toArray⟩, .int .i64 s.length, v] 69)) := (Below.refl _ _).alloc (Nat.le_refl _) _
  refine ⟨fun e => by have := hS _ e; omega, v, heap_alloc_new w _, ⟨(hv.below hb).1, fun h0 A m c e hk => ?_⟩, fun h0 A m c e => ?_⟩
  · rcases hk with hk | hk
    · exact hv.2 h0 A m c e hk
    · have := far_lt hv h0 e; omega
  · rw [hb.block _ (far_lt hv h0 e)]
    exact hu h0 A m c e
end

/-- Why nothing can be done, if so. -/
def errL (D : Dsk) : Nat := if D.off = true then 8 else 0

theorem ready_l (l g N : Nat) (n s : List UInt8) (S : Nat → Prop) (D : Dsk) (w : World) (h : LogAt w S l g n s) (hd : DkS w g N S D) :
    Calls Try.prog 32 #[.pointer (some ⟨l, 0, none⟩)] w (fun e w' => e = .returned (.int .i64 (errL D : Nat)) ∧ w' = w) := by
  obtain ⟨c0, _⟩ := h.cells
  have HD := Lib.hid (down_dks g N S D w hd)
  clear h hd
  unfold errL
  cases ho : D.off
  all_goals
    rw [ho] at HD
    go_enter Try.func32, Try.ntmps32
    go_wp2_with (go_at_call 26; refine HD.out.mono ?_; rintro e w' ⟨rfl, rfl⟩)
    go_ret
    exact ⟨rfl, rfl⟩

theorem lready_nil (w : World) : Calls Try.prog 32 #[.pointer none] w (fun e w' => e = .returned (.int .i64 2) ∧ w' = w) := by
  go_enter Try.func32, Try.ntmps32
  go_wp2_with fail
  go_ret
  exact ⟨rfl, rfl⟩

theorem size_l (l g : Nat) (n s : List UInt8) (S : Nat → Prop) (w : World) (h : LogAt w S l g n s) :
    Calls Try.prog 17 #[.pointer (some ⟨l, 0, none⟩)] w (fun e w' => e = .returned (.int .i64 s.length) ∧ w' = w) := by
  obtain ⟨c0, c1, c2, _⟩ := h.cells
  clear h
  go_enter Try.func17, Try.ntmps17
  go_wp2_with fail
  go_ret
  exact ⟨rfl, rfl⟩

theorem mayD_le (D : Dsk) (n : List UInt8) : (mayD D n).2 ≤ 8 := by
  unfold mayD ends
  split
  · exact Nat.le_refl _
  · split
    · show 5 ≤ 8; omega
    · split
      · exact Nat.le_refl _
      · exact Nat.zero_le _
theorem syncD_le (D : Dsk) (n : List UInt8) : (syncD D n).2 ≤ 8 := by
  unfold syncD
  split
  · exact Nat.zero_le _
  · exact mayD_le D n
theorem removeD_le (D : Dsk) (n : List UInt8) : (removeD D n).2 ≤ 8 := by
  unfold removeD
  split
  · exact Nat.zero_le _
  · exact mayD_le D n

set_option maxHeartbeats 800000 in
theorem sync_l (l g N : Nat) (n s : List UInt8) (S : Nat → Prop) (D : Dsk) (w : World) (h : LogAt w S l g n s) (hd : DkS w g N S D) (hn : n.length ≤ 140737488355000) (hN : N + 4 ≤ 137438953472) :
    Calls Try.prog 13 #[.pointer (some ⟨l, 0, none⟩)] w (MakesD g (N + 4) S (syncD D n).1 (.int .i64 (unless5 (syncD D n).2 : Nat)) w) := by
  have HR := Lib.hid (ready_l l g N n s S D w h hd)
  obtain ⟨c0, c1, _⟩ := h.cells
  have hlt := h.lt
  have hnS := h.1
  have HD := Lib.hid hd
  by_cases ho : D.off = true
  · have he : syncD D n = (D, 8) := by unfold syncD mayD; rw [if_pos ho, if_neg (by simp)]
    have hr : errL D = 8 := if_pos ho
    rw [hr] at HR
    rw [he]
    clear he hr h hd
    go_enter Try.func13, Try.ntmps13
    go_wp2_with (go_at_call 32; refine HR.out.mono ?_; rintro e w' ⟨rfl, rfl⟩)
    go_ret
    exact makesD_same HD.out (Below.refl _ _) (by omega) hN
  · have hr : errL D = 0 := if_neg ho
    rw [hr] at HR
    have HS := Lib.hid (sync_dks g N S D n w.drew (hd.below (Below.refl _ _).drew) (by omega) hN)
    have hle := syncD_le D n
    obtain ⟨m, hm⟩ : ∃ m, (syncD D n).2 = m := ⟨_, rfl⟩
    rw [hm] at HS hle ⊢
    have HU := fun W => unless_any m W (by omega)
    have HU := Lib.hid HU
    clear hr h hd ho hm
    go_enter Try.func13, Try.ntmps13
    go_wp2_with (go_at_call 32; refine HR.out.mono ?_; rintro e w' ⟨rfl, rfl⟩)
    go_region_held3 (fun W => W.cell? ⟨l, 0, none⟩ = some (.pointer (some ⟨g, 0, none⟩)) ∧ W.cell? ⟨l, 1, none⟩ = some (.string ⟨n.toArray⟩)) (first | exact ⟨c0, c1⟩ | assumption) (first
      | (go_at_call 38; refine HS.out.mono ?_; rintro e w' hm; have hS3 : w'.cell? ⟨l, 0, none⟩ = some (.pointer (some ⟨g, 0, none⟩)) ∧ w'.cell? ⟨l, 1, none⟩ = some (.string ⟨n.toArray⟩) := ⟨(hm.2.2.cell (p := ⟨l, 0, none⟩) hlt hnS).trans c0, (hm.2.2.cell (p := ⟨l, 1, none⟩) hlt hnS).trans c1⟩; obtain rfl := hm.1; have hm := Lib.hid hm)
      | (go_at_call 37; refine (HU.out _).mono ?_; rintro e w'' ⟨rfl, rfl⟩))
    all_goals go_wp2_with fail
    all_goals go_ret
    all_goals exact ⟨rfl, hm.out.undrew.2⟩

end Go.Proofs.Ytoajfnkhonegnaa.Cd

/-
  A log's Clear; how its block is written. Conditions: names that can be.
-/
namespace Go.Proofs.Ytoajfnkhonegnaa.Cd
open Go.RowKit

section
variable {W : World} {l : Nat} {a b c d x : Value} {T : TypeId}
theorem four_two (h : W.heap[l]? = some (.cells #[a, b, c, d] T)) : (W.setCell ⟨l, 2, none⟩ x).heap[l]? = some (.cells #[a, b, x, d] T) := by
  unfold World.setCell
  simp [Array.getElem?_modify, h]
theorem four_three (h : W.heap[l]? = some (.cells #[a, b, c, d] T)) : (W.setCell ⟨l, 3, none⟩ x).heap[l]? = some (.cells #[a, b, c, x] T) := by
  unfold World.setCell
  simp [Array.getElem?_modify, h]
end
theorem apart_set (W : World) (l o : Nat) (x : Value) : Apart (fun k => k = l) W (W.setCell ⟨l, o, none⟩ x) := ⟨rfl, rfl, rfl, by simp, fun _ _ hk => heap_setCell_other _ _ _ _ hk⟩
theorem apart_set2 (W : World) (l : Nat) (x y : Value) : Apart (fun k => k = l) W ((W.setCell ⟨l, 2, none⟩ x).setCell ⟨l, 3, none⟩ y) :=
  ⟨rfl, rfl, rfl, by simp, fun _ _ hk => (heap_setCell_other _ _ _ _ hk).trans (heap_setCell_other _ _ _ _ hk)⟩

/-- What a call on a log leaves: the disk, the log. -/
def MakesL (g N : Nat) (S : Nat → Prop) (D : Dsk) (v : Value) (l : Nat) (n s : List UInt8) (w : World) (e : Ending) (w' : World) : Prop :=
  e = .returned v ∧ ∃ T : Nat → Prop, DkS w' g N T D ∧ LogAt w' T l g n s ∧ (∀ k, T k → since S w w' k) ∧ Apart (plus S l) w w'

theorem MakesL.of {g N l : Nat} {S : Nat → Prop} {D : Dsk} {v : Value} {n s : List UInt8} {w w' : World} {e : Ending} (h : LogAt w S l g n s) (hm : MakesD g N S D v w e w') : MakesL g N S D v l n s w e w' :=
  ⟨hm.1, _, hm.2.1, h.apart hm.2.2, fun _ => id, hm.2.2.mono fun _ => .inl⟩

set_option maxHeartbeats 800000 in
theorem clear_l (l g N : Nat) (n s : List UInt8) (S : Nat → Prop) (D : Dsk) (w : World) (h : LogAt w S l g n s) (hd : DkS w g N S D) (hn : n.length ≤ 140737488355000) (hN : N + 4 ≤ 137438953472) :
    Calls Try.prog 20 #[.pointer (some ⟨l, 0, none⟩)] w (MakesL g (N + 4) S (removeD D n).1 (.int .i64 (unless5 (removeD D n).2 : Nat)) l n (if unless5 (removeD D n).2 = 0 then [] else s) w) := by
  have HR := Lib.hid (ready_l l g N n s S D w h hd)
  have HL := Lib.hid h
  obtain ⟨c0, c1, _⟩ := h.cells
  have hlt := h.lt
  have hnS := h.1
  have HD := Lib.hid hd
  by_cases ho : D.off = true
  · have he : removeD D n = (D, 8) := by unfold removeD mayD; rw [if_pos ho, if_neg (by simp)]
    have hr : errL D = 8 := if_pos ho
    rw [hr] at HR
    rw [he]
    clear he hr h hd
    go_enter Try.func20, Try.ntmps20
    go_wp2_with (go_at_call 32; refine HR.out.mono ?_; rintro e w' ⟨rfl, rfl⟩)
    go_ret
    exact MakesL.of HL.out (makesD_same HD.out (Below.refl _ _) (by omega) hN)
  · have hr : errL D = 0 := if_neg ho
    rw [hr] at HR
    have HS := Lib.hid (remove_dks g N S D n w.drew (hd.below (Below.refl _ _).drew) (by omega) hN)
    have hle := removeD_le D n
    obtain ⟨m, hm⟩ : ∃ m, (removeD D n).2 = m := ⟨_, rfl⟩
    rw [hm] at HS hle ⊢
    have HU := Lib.hid (fun W => unless_any m W (by omega))
    clear hr h hd ho hm
    by_cases hz : unless5 m = 0
    · rw [if_pos hz]
      rw [hz] at HU ⊢
      go_enter Try.func20, Try.ntmps20
      go_wp2_with (go_at_call 32; refine HR.out.mono ?_; rintro e w' ⟨rfl, rfl⟩)
      go_region_held3 (fun W => W.cell? ⟨l, 0, none⟩ = some (.pointer (some ⟨g, 0, none⟩)) ∧ W.cell? ⟨l, 1, none⟩ = some (.string ⟨n.toArray⟩)) (first | exact ⟨c0, c1⟩ | assumption) (first
        | (go_at_call 42; refine HS.out.mono ?_; rintro e w' hm; have hS3 : w'.cell? ⟨l, 0, none⟩ = some (.pointer (some ⟨g, 0, none⟩)) ∧ w'.cell? ⟨l, 1, none⟩ = some (.string ⟨n.toArray⟩) := ⟨(hm.2.2.cell (p := ⟨l, 0, none⟩) hlt hnS).trans c0, (hm.2.2.cell (p := ⟨l, 1, none⟩) hlt hnS).trans c1⟩; obtain rfl := hm.1; have hl2 := HL.out.apart hm.undrew.2.2; have f2 := hl2.frozen 2; have f3 := hl2.frozen 3; obtain ⟨_, _, x2, vv, x3, _⟩ := hl2.cells; have HL2 := Lib.hid hl2; have hm := Lib.hid hm; clear hl2)
        | (go_at_call 37; refine (HU.out _).mono ?_; rintro e w'' ⟨rfl, rfl⟩))
      all_goals go_wp2_with fail
      all_goals go_ret
      all_goals
        refine ⟨rfl, _, hm.out.undrew.2.1.apart (apart_set2 _ l _ _) (fun k hk e => HL2.out.1 (by rw [← e]; exact hk)), ?_, fun k hk => ?_, ?_⟩
        · obtain ⟨g1, v, g2, g3⟩ := HL2.out
          exact ⟨g1, _, four_three (four_two g2), ⟨Sl.nil _ _, fun h => by simp [lastP] at h⟩, fun h => by simp [lastP] at h⟩
        · rcases hk with hk | hk
          · exact .inl hk
          · exact .inr ⟨hk.1, by simpa using hk.2⟩
        · exact (hm.out.undrew.2.2.mono fun _ => .inl).trans ((apart_set2 _ l _ _).mono fun k hk => .inl (.inr hk))
    · rw [if_neg hz]
      obtain ⟨u, hu⟩ : ∃ u, unless5 m = u := ⟨_, rfl⟩
      rw [hu] at HU ⊢
      have hune : ((u : Int) == 0) = false := by rw [beq_eq_false_iff_ne]; omega
      clear hu hz
      go_enter Try.func20, Try.ntmps20
      go_wp2_with (go_at_call 32; refine HR.out.mono ?_; rintro e w' ⟨rfl, rfl⟩)
      go_region_held3 (fun W => W.cell? ⟨l, 0, none⟩ = some (.pointer (some ⟨g, 0, none⟩)) ∧ W.cell? ⟨l, 1, none⟩ = some (.string ⟨n.toArray⟩)) (first | exact ⟨c0, c1⟩ | assumption) (first
        | (go_at_call 42; refine HS.out.mono ?_; rintro e w' hm; have hS3 : w'.cell? ⟨l, 0, none⟩ = some (.pointer (some ⟨g, 0, none⟩)) ∧ w'.cell? ⟨l, 1, none⟩ = some (.string ⟨n.toArray⟩) := ⟨(hm.2.2.cell (p := ⟨l, 0, none⟩) hlt hnS).trans c0, (hm.2.2.cell (p := ⟨l, 1, none⟩) hlt hnS).trans c1⟩; obtain rfl := hm.1; have hm := Lib.hid hm)
        | (go_at_call 37; refine (HU.out _).mono ?_; rintro e w'' ⟨rfl, rfl⟩))
      all_goals go_wp2_with fail
      all_goals go_ret
      all_goals exact MakesL.of HL.out ⟨rfl, hm.out.undrew.2⟩

end Go.Proofs.Ytoajfnkhonegnaa.Cd

/-
  slices.Chunk of bytes, by what a log's page has: what it hands over. Conditions: there are bytes.
-/
namespace Go.Proofs.Ytoajfnkhonegnaa.Cd
open Go.RowKit Go.Shelf
attribute [local go_sem] Oper.semAt_some

theorem lchunk_any (A : Option Addr) (n c : Nat) (w : World) :
    Calls Try.prog 57 #[.slice A n c, .int .i64 510] w (fun e w' => e = .returned (.func (.func 78) #[] #[.pointer (some ⟨w.heap.size, 0, none⟩), .pointer (some ⟨w.heap.size + 1, 0, none⟩)]) ∧
      w' = (w.alloc (.cells #[.slice A n c] 27)).alloc (.cells #[.int .i64 510] 3)) := by
  go_enter Try.func57, Try.ntmps57
  go_wp2_with fail
  go_ret
  exact ⟨by simp, rfl⟩

/-- The k-th page of n bytes at b, off. -/
def ptV (b off n k : Nat) : Value := .slice (some ⟨b, off + 510 * k, none⟩) (min 510 (n - 510 * k)) (min 510 (n - 510 * k))
/-- The two boxes of the iterator's. -/
def BoxesL (bs bn : Nat) (b off n c : Nat) (W : World) : Prop := W.cell? ⟨bs, 0, none⟩ = some (.slice (some ⟨b, off, none⟩) n c) ∧ W.cell? ⟨bn, 0, none⟩ = some (.int .i64 510)

set_option maxRecDepth 100000 in
set_option maxHeartbeats 3200000 in
theorem lchunk_hands (m bs bn b off n c : Nat) (hn : n ≤ c) (hc : c ≤ 9223372036854775807) (hn2 : n ≤ 140737488355328) :
    Hands Fence.wide m Try.prog 78 #[.pointer (some ⟨bs, 0, none⟩), .pointer (some ⟨bn, 0, none⟩)] (fun k => #[ptV b off n k]) (List.range (needP n)) (BoxesL bs bn b off n c) := by
  intro l J Jx W hJ hJx hB hY h0
  have HJ := Lib.hid hJ
  have HJX := Lib.hid hJx
  have HBX := Lib.hid hB
  have HY := Lib.hid hY
  have H0 := Lib.hid h0
  clear hJ hJx hB hY h0
  refine callsIn_of_wp Try.func78 rfl trivial ?_ rfl
  simp only [Try.ntmps78, List.size_toArray, List.length_cons, List.length_nil, Nat.reduceAdd, Nat.reduceSub, Array.replicate_succ, Array.replicate_zero, List.push_toArray, List.append_toArray, List.nil_append, List.cons_append]
  gi_wp2
  gi_loopw [4] (fun p wr => ∃ i k : Nat, p = .int .i64 i ∧ Hid (i = 510 * k) ∧ i ≤ n + 510 ∧ Hid (k ≤ needP n) ∧ Hid (J k wr)) (fun p _ => n + 1020 - (intOf p).toNat)
  case atStart => exact ⟨0, 0, rfl, rfl, by omega, Nat.zero_le _, H0⟩
  case round =>
    obtain ⟨i, k, rfl, hi, hi2, hk, hJk⟩ := hrel
    obtain ⟨x1, x2⟩ := HBX.out k wr hJk.out
    have hn' : (n : Int) ≤ 140737488355328 := by omega
    by_cases hlt : i < n
    · have hlt' : (i : Int) < n := by omega
      have hJ1 : J k wr.drew := HJ.out k wr wr.drew hJk.out (Below.refl _ _).drew
      obtain ⟨y1, y2⟩ := HBX.out k wr.drew hJ1
      have hkl : k < needP n := by have := hi.out; unfold needP; omega
      obtain ⟨fn, tmps, assign, body, hy, hR⟩ := HY.out k k wr.drew (List.getElem?_range hkl) hJ1
      obtain ⟨e, he⟩ : ∃ e, min 510 (n - 510 * k) = e := ⟨_, rfl⟩
      have hpv : ptV b off n k = .slice (some ⟨b, off + i, none⟩) e e := by unfold ptV; rw [he, hi.out]
      have he' : e = min 510 (n - i) := by rw [hi.out]; exact he.symm
      have hmin : min (510 : Int) ((n - i : Nat) : Int) = (e : Int) := by omega
      have hsl : ((i : Int) + (e : Int)).toNat - i = e := by omega
      have he1 : i + e ≤ n := by omega
      have he2 : 1 ≤ e ∧ e ≤ 510 := by omega
      rw [hpv] at hy
      have HR := Lib.hid hR
      have HE := Lib.hid he'
      have HKL := Lib.hid hkl
      clear hR he' he hpv hJ1 hkl
      have hic : (i : Int) ≤ c := by omega
      have hcase : (e = n - i ∧ ((n - i : Nat) : Int) < 510) ∨ (e = 510 ∧ (510 : Int) ≤ ((n - i : Nat) : Int)) := by have := HE.out; omega
      have hsl2 : ((i : Int) + 510).toNat - i = 510 := by omega
      rcases hcase with ⟨rfl, hle⟩ | ⟨rfl, hle⟩
      all_goals
        clear hmin
        gi_wp2
        gi_region
        all_goals gi_wp2
        refine ⟨fun h => (by cases h), HR.out.mono ?_⟩
        rintro e2 W3 (⟨rfl, hJ3⟩ | ⟨rfl, hJx3⟩)
        · have HJ3 := Lib.hid hJ3
          obtain ⟨z1, z2⟩ := HBX.out _ W3 hJ3
          clear hJ3
          gi_wp2
          go_roundw
          case rel =>
            have h1 := hi.out
            have h2 := HKL.out
            exact ⟨i + 510, k + 1, by go_num, by unfold Hid; omega, by omega, by unfold Hid; omega, HJ3⟩
          case measure => simp [intOf]; omega
        · have HX3 := Lib.hid hJx3
          clear hJx3
          gi_wp2
          refine bodyPost_ret (results_none rfl _ _ _) rfl ?_
          exact ⟨⟨_, rfl⟩, .inr ⟨k + 1, by rw [List.length_range]; exact HKL.out, HX3.out⟩⟩
    · have hlt' : (n : Int) ≤ i := by omega
      have hke : k = needP n := by
        have h1 := hi.out
        have h2 := hk.out
        unfold needP at *
        omega
      gi_wp2
      go_end0
      exact ⟨⟨_, rfl⟩, .inl (by rw [List.length_range, ← hke]; exact hJk.out)⟩

end Go.Proofs.Ytoajfnkhonegnaa.Cd

/-
  log.trim: a file is left no bytes of the log but the records'. Conditions: the power is on; names that can be.
-/
namespace Go.Proofs.Ytoajfnkhonegnaa.Cd
open Go.RowKit

/-- What trim does behind the cut. -/
def trimW (D1 : Dsk) (n s : List UInt8) (found : Nat) : Dsk × Nat :=
  if min found (needP s.length * 510) = s.length then (D1, 0) else
  if (writeD D1 n ((needP s.length : Nat) - 1) (pageB (lastP s))).2 ≠ 0 then writeD D1 n ((needP s.length : Nat) - 1) (pageB (lastP s)) else
  syncD (writeD D1 n ((needP s.length : Nat) - 1) (pageB (lastP s))).1 n
def trimC (D : Dsk) (n s : List UInt8) : Dsk × Nat := if needP s.length < (pagesF D.now n).length then cutD D n (needP s.length : Nat) else (D, 0)
theorem trim_eq (D : Dsk) (n s : List UInt8) (found : Nat) : trimD D n s found = if (trimC D n s).2 ≠ 0 then trimC D n s else trimW (trimC D n s).1 n s found := rfl

theorem MakesD.over {w w1 w2 : World} {g N : Nat} {S : Nat → Prop} {D : Dsk} {v : Value} {e : Ending} (hb : Below w.heap.size w w1) (h : MakesD g N S D v w1 e w2) : MakesD g N S D v w e w2 := by
  obtain ⟨h1, h2, h3⟩ := h
  refine ⟨h1, h2.more (fun k hk => ?_) (fun k hk => ?_), ⟨h3.os.trans hb.os, h3.tape.trans hb.tape, h3.output.trans hb.output, Nat.le_trans hb.size h3.size, fun k hk hn => (h3.block k (Nat.lt_of_lt_of_le hk hb.size) hn).trans (hb.block k hk)⟩⟩
  · rcases hk with hk | hk
    · exact .inl hk
    · exact .inr ⟨Nat.le_trans hb.size hk.1, hk.2⟩
  · rcases hk with hk | hk
    · exact h2.lt k (.inl hk)
    · exact hk.2

set_option maxRecDepth 100000 in
set_option maxHeartbeats 6400000 in
theorem trim_l (l g N : Nat) (n s : List UInt8) (S : Nat → Prop) (D : Dsk) (w : World) (found : Nat) (h : LogAt w S l g n s) (hd : DkS w g N S D) (ho : D.off = false) (hn : n.length ≤ 140737488355000) (hN : N + 12 ≤ 137438953472)
    (hsl : s.length ≤ 1000000000) (hf : found ≤ 1000000000) (hpc : (pagesF D.now n).length ≤ 1000000000) :
    Calls Try.prog 31 #[.pointer (some ⟨l, 0, none⟩), .int .i64 found] w (MakesD g (N + 12) S (trimD D n s found).1 (.int .i64 ((trimD D n s found).2 : Nat)) w) := by
  have HL := Lib.hid h
  have HD := Lib.hid hd
  obtain ⟨c0, c1, c2, _⟩ := h.cells
  have hlt := h.lt
  have hnS := h.1
  have HG := Lib.hid (pagesOf_any s.length w (by omega))
  have HC := Lib.hid (count_dks g N S D n w.drew (hd.below (Below.refl _ _).drew) ho (by omega))
  obtain ⟨nd, hnd⟩ : ∃ x, needP s.length = x := ⟨_, rfl⟩
  have hndl : nd ≤ 1000000000 := by rw [← hnd]; unfold needP; omega
  have hnd2 : nd * 510 ≤ s.length + 509 := by rw [← hnd]; unfold needP; omega
  obtain ⟨pc, hpc2⟩ : ∃ x, (pagesF D.now n).length = x := ⟨_, rfl⟩
  have hte := trim_eq D n s found
  have htc : trimC D n s = if nd < pc then cutD D n (nd : Nat) else (D, 0) := by unfold trimC; rw [hnd, hpc2]
  rw [hnd] at HG
  rw [hpc2] at HC hpc
  have HND := Lib.hid hnd
  have HTE := Lib.hid hte
  have HTC := Lib.hid htc
  have hndi : (nd : Int) ≤ 1000000000 := by omega
  have hpci : (pc : Int) ≤ 1000000000 := by omega
  have hfi : (found : Int) ≤ 1000000000 := by omega
  clear h hd hnd hpc2 hte htc
  have hcase : (((found : Int) ≤ (nd : Int) * 510) ∧ ((found : Int) == (s.length : Int)) = true ∧ (found == s.length) = true ∧ decide (found = s.length) = true ∧ Hid (min found (nd * 510) = s.length)) ∨ (((nd : Int) * 510 < (found : Int)) ∧ ((nd : Int) * 510 == (s.length : Int)) = true ∧ (nd * 510 == s.length) = true ∧ decide (nd * 510 = s.length) = true ∧ Hid (min found (nd * 510) = s.length)) ∨
      (((found : Int) ≤ (nd : Int) * 510) ∧ ((found : Int) == (s.length : Int)) = false ∧ (found == s.length) = false ∧ decide (found = s.length) = false ∧ Hid (¬ min found (nd * 510) = s.length)) ∨ (((nd : Int) * 510 < (found : Int)) ∧ ((nd : Int) * 510 == (s.length : Int)) = false ∧ (nd * 510 == s.length) = false ∧ decide (nd * 510 = s.length) = false ∧ Hid (¬ min found (nd * 510) = s.length)) := by
    simp only [Hid, beq_iff_eq, beq_eq_false_iff_ne, decide_eq_true_eq, decide_eq_false_iff_not, ne_eq]
    omega
  have HCASE := Lib.hid hcase
  clear hcase
  by_cases hcut : nd < pc
  · have hcuti : (nd : Int) < pc := by omega
    rw [if_pos hcut] at HTC
    have HK := Lib.hid (cut_dks g N S D n w.drew.drew (nd : Int) (HD.out.below ((Below.refl _ _).drew.trans (Below.refl _ _).drew)) (by omega) (by omega) (by omega))
    obtain ⟨R, hR⟩ : ∃ R, cutD D n (nd : Int) = R := ⟨_, rfl⟩
    rw [hR] at HTC HK
    obtain ⟨D1, ec⟩ := R
    clear hR hcut
    by_cases hz : ec = 0
    · subst hz
      go_enter Try.func31, Try.ntmps31
      go_wp2_with (go_at_call 34; refine HG.out.mono ?_; rintro e w' ⟨rfl, rfl⟩)
      go_region_held3 (fun W => W.cell? ⟨l, 0, none⟩ = some (.pointer (some ⟨g, 0, none⟩)) ∧ W.cell? ⟨l, 1, none⟩ = some (.string ⟨n.toArray⟩)) (first | exact ⟨c0, c1⟩ | assumption) (first
        | (go_at_call 18; refine HC.out.mono ?_; rintro e w' ⟨rfl, rfl⟩))
      all_goals go_wp2_with fail
      all_goals go_region_held3 (fun W => W.cell? ⟨l, 0, none⟩ = some (.pointer (some ⟨g, 0, none⟩)) ∧ W.cell? ⟨l, 1, none⟩ = some (.string ⟨n.toArray⟩)) (first | exact ⟨c0, c1⟩ | assumption) (first
        | (go_at_call 52; refine HK.out.mono ?_; rintro e W1 hm; have hS3 : W1.cell? ⟨l, 0, none⟩ = some (.pointer (some ⟨g, 0, none⟩)) ∧ W1.cell? ⟨l, 1, none⟩ = some (.string ⟨n.toArray⟩) := ⟨(hm.2.2.cell (p := ⟨l, 0, none⟩) hlt hnS).trans c0, (hm.2.2.cell (p := ⟨l, 1, none⟩) hlt hnS).trans c1⟩; obtain rfl := hm.1; have HD1 := Lib.hid hm.undrew.undrew.2.1; have HA1 := Lib.hid hm.undrew.undrew.2.2; have HL1 := Lib.hid (HL.out.apart HA1.out); clear hm))
      all_goals clear hS3 c0 c1 c2 HK HC HG
      all_goals
        have HT := Lib.hid (show trimD D n s found = trimW D1 n s found by rw [HTE.out, HTC.out]; exact if_neg (fun e => e rfl))
        have hlt1 := HL1.out.lt
        have hnS1 := HL1.out.1
        obtain ⟨x0, x1, x2, lv, x3, hfar⟩ := HL1.out.cells
        obtain ⟨LA, Lc, rfl, hLc1, hLc2⟩ := hfar.1.len
        have HFAR := Lib.hid hfar
        clear hfar
        have hLc2 : Lc ≤ 9223372036854775807 := hLc2
        rcases HCASE.out with ⟨hle, heq1, heq2, heq3, HEQ⟩ | ⟨hle, heq1, heq2, heq3, HEQ⟩ | ⟨hle, hne1, hne2, hne3, HNE⟩ | ⟨hle, hne1, hne2, hne3, HNE⟩
        · go_wp2_with fail
          go_ret
          rw [HT.out]
          unfold trimW
          rw [HND.out, if_pos HEQ.out]
          exact ((makesD_same HD1.out (Below.refl _ _) (M := N + 12) (by omega) hN).up HA1.out)
        · go_wp2_with fail
          go_ret
          rw [HT.out]
          unfold trimW
          rw [HND.out, if_pos HEQ.out]
          exact ((makesD_same HD1.out (Below.refl _ _) (M := N + 12) (by omega) hN).up HA1.out)
        all_goals
          have HPB := Lib.hid (pageOf_any (.slice LA (lastP s).length Lc) (lastP s) W1.drew (HFAR.out.1.below (Below.refl _ _).drew) (by rw [lastP_len]; omega))
          have hndp : 1 ≤ (nd : Int) := by have := HNE.out; have h2 := HND.out; unfold needP at h2; omega
          have hwr : IntKind.i64.wrap ((nd : Int) - 1) = (nd : Int) - 1 := IntWalk.i64_in _ (by omega)
          obtain ⟨RW, hRW⟩ : ∃ R, writeD D1 n ((nd : Nat) - 1) (pageB (lastP s)) = R := ⟨_, rfl⟩
          have HRW := Lib.hid hRW
          obtain ⟨D2, ew⟩ := RW
          clear hRW
          by_cases hw : ew = 0
          · subst hw
            go_wp2_with fail
            go_region_held3 (fun W => W.cell? ⟨l, 0, none⟩ = some (.pointer (some ⟨g, 0, none⟩)) ∧ W.cell? ⟨l, 1, none⟩ = some (.string ⟨n.toArray⟩) ∧ W.cell? ⟨l, 3, none⟩ = some (.slice LA (lastP s).length Lc)) (first | exact ⟨x0, x1, x3⟩ | assumption) (first
              | (go_at_call 53; refine HPB.out.mono ?_; rintro e w2 ⟨pv, rfl, hpo, hpb⟩; have hS4 : w2.cell? ⟨l, 0, none⟩ = some (.pointer (some ⟨g, 0, none⟩)) ∧ w2.cell? ⟨l, 1, none⟩ = some (.string ⟨n.toArray⟩) ∧ w2.cell? ⟨l, 3, none⟩ = some (.slice LA (lastP s).length Lc) := ⟨(hpb.cell (p := ⟨l, 0, none⟩) hlt1).trans x0, (hpb.cell (p := ⟨l, 1, none⟩) hlt1).trans x1, (hpb.cell (p := ⟨l, 3, none⟩) hlt1).trans x3⟩; have HW2 := Lib.hid (write_dks g (N + 4) (since S w W1) D1 n w2 (pageB (lastP s)) ((nd : Int) - 1) pv (HD1.out.below ((Below.refl _ _).drew.trans hpb)) hpo.sl (fun h0 A m c e ht => by have h1 := (hpo.lt A.block (by rw [e]; rfl)).1; have h2 := HD1.out.lt _ ht; have h3 : W1.heap.size ≤ A.block := h1; omega) (by omega) (by omega) (by omega)); rw [HRW.out] at HW2; have HB2 := Lib.hid ((Below.refl W1.heap.size W1).drew.trans hpb); clear hpo hpb)
              | (go_at_call 23; refine HW2.out.mono ?_; rintro e w3 hm3; have hap := hm3.2.2; have hS5 : w3.cell? ⟨l, 0, none⟩ = some (.pointer (some ⟨g, 0, none⟩)) ∧ w3.cell? ⟨l, 1, none⟩ = some (.string ⟨n.toArray⟩) ∧ w3.cell? ⟨l, 3, none⟩ = some (.slice LA (lastP s).length Lc) := ⟨(hap.cell (p := ⟨l, 0, none⟩) (Nat.lt_of_lt_of_le hlt1 HB2.out.size) hnS1).trans hS4.1, (hap.cell (p := ⟨l, 1, none⟩) (Nat.lt_of_lt_of_le hlt1 HB2.out.size) hnS1).trans hS4.2.1, (hap.cell (p := ⟨l, 3, none⟩) (Nat.lt_of_lt_of_le hlt1 HB2.out.size) hnS1).trans hS4.2.2⟩; obtain rfl := hm3.1; have HM3 := Lib.hid hm3; clear hm3 hap))
            all_goals
              have HM4 := Lib.hid (MakesD.over HB2.out HM3.out)
              have HS4 := Lib.hid (sync_dks g (N + 4 + 4) (since (since S w W1) W1 w3) D2 n w3.drew (HM4.out.2.1.below (Below.refl _ _).drew) (by omega) (by omega))
              have hnS4 : ¬ since (since S w W1) W1 w3 l := fun e => by
                rcases e with e | e
                · exact hnS1 e
                · omega
              have hlt4 : l < w3.heap.size := Nat.lt_of_lt_of_le hlt1 HM4.out.2.2.size
              obtain ⟨y0, y1, _⟩ := hS5
            all_goals go_wp2_with fail
            all_goals go_region_held3 (fun W => W.cell? ⟨l, 0, none⟩ = some (.pointer (some ⟨g, 0, none⟩)) ∧ W.cell? ⟨l, 1, none⟩ = some (.string ⟨n.toArray⟩)) (first | exact ⟨y0, y1⟩ | assumption) (first
              | (go_at_call 38; refine HS4.out.mono ?_; rintro e w5 hm5; have hS6 : w5.cell? ⟨l, 0, none⟩ = some (.pointer (some ⟨g, 0, none⟩)) ∧ w5.cell? ⟨l, 1, none⟩ = some (.string ⟨n.toArray⟩) := ⟨(hm5.2.2.cell (p := ⟨l, 0, none⟩) hlt4 hnS4).trans y0, (hm5.2.2.cell (p := ⟨l, 1, none⟩) hlt4 hnS4).trans y1⟩; obtain rfl := hm5.1; have HM5 := Lib.hid hm5; clear hm5))
            all_goals go_wp2_with fail
            all_goals go_ret
            all_goals
              rw [HT.out]
              unfold trimW
              rw [HND.out, if_neg HNE.out, HRW.out, if_neg (fun e => e rfl)]
              exact (MakesD.up HA1.out (MakesD.up HM4.out.2.2 HM5.out.undrew)).grow (by omega) hN
          · have hwi : (ew : Int) ≠ 0 := by omega
            go_wp2_with fail
            go_region_held3 (fun W => W.cell? ⟨l, 0, none⟩ = some (.pointer (some ⟨g, 0, none⟩)) ∧ W.cell? ⟨l, 1, none⟩ = some (.string ⟨n.toArray⟩) ∧ W.cell? ⟨l, 3, none⟩ = some (.slice LA (lastP s).length Lc)) (first | exact ⟨x0, x1, x3⟩ | assumption) (first
              | (go_at_call 53; refine HPB.out.mono ?_; rintro e w2 ⟨pv, rfl, hpo, hpb⟩; have hS4 : w2.cell? ⟨l, 0, none⟩ = some (.pointer (some ⟨g, 0, none⟩)) ∧ w2.cell? ⟨l, 1, none⟩ = some (.string ⟨n.toArray⟩) ∧ w2.cell? ⟨l, 3, none⟩ = some (.slice LA (lastP s).length Lc) := ⟨(hpb.cell (p := ⟨l, 0, none⟩) hlt1).trans x0, (hpb.cell (p := ⟨l, 1, none⟩) hlt1).trans x1, (hpb.cell (p := ⟨l, 3, none⟩) hlt1).trans x3⟩; have HW2 := Lib.hid (write_dks g (N + 4) (since S w W1) D1 n w2 (pageB (lastP s)) ((nd : Int) - 1) pv (HD1.out.below ((Below.refl _ _).drew.trans hpb)) hpo.sl (fun h0 A m c e ht => by have h1 := (hpo.lt A.block (by rw [e]; rfl)).1; have h2 := HD1.out.lt _ ht; have h3 : W1.heap.size ≤ A.block := h1; omega) (by omega) (by omega) (by omega)); rw [HRW.out] at HW2; have HB2 := Lib.hid ((Below.refl W1.heap.size W1).drew.trans hpb); clear hpo hpb)
              | (go_at_call 23; refine HW2.out.mono ?_; rintro e w3 hm3; have hap := hm3.2.2; have hS5 : w3.cell? ⟨l, 0, none⟩ = some (.pointer (some ⟨g, 0, none⟩)) ∧ w3.cell? ⟨l, 1, none⟩ = some (.string ⟨n.toArray⟩) ∧ w3.cell? ⟨l, 3, none⟩ = some (.slice LA (lastP s).length Lc) := ⟨(hap.cell (p := ⟨l, 0, none⟩) (Nat.lt_of_lt_of_le hlt1 HB2.out.size) hnS1).trans hS4.1, (hap.cell (p := ⟨l, 1, none⟩) (Nat.lt_of_lt_of_le hlt1 HB2.out.size) hnS1).trans hS4.2.1, (hap.cell (p := ⟨l, 3, none⟩) (Nat.lt_of_lt_of_le hlt1 HB2.out.size) hnS1).trans hS4.2.2⟩; obtain rfl := hm3.1; have HM3 := Lib.hid hm3; clear hm3 hap))
            all_goals go_wp2_with fail
            all_goals go_ret
            all_goals
              rw [HT.out]
              unfold trimW
              rw [HND.out, if_neg HNE.out, HRW.out, if_pos (show (D2, ew).2 ≠ 0 from hw)]
              exact (MakesD.up HA1.out (MakesD.over HB2.out HM3.out)).grow (by omega) hN

    · have hzi : (ec : Int) ≠ 0 := by omega
      go_enter Try.func31, Try.ntmps31
      go_wp2_with (go_at_call 34; refine HG.out.mono ?_; rintro e w' ⟨rfl, rfl⟩)
      go_region_held3 (fun W => W.cell? ⟨l, 0, none⟩ = some (.pointer (some ⟨g, 0, none⟩)) ∧ W.cell? ⟨l, 1, none⟩ = some (.string ⟨n.toArray⟩)) (first | exact ⟨c0, c1⟩ | assumption) (first
        | (go_at_call 18; refine HC.out.mono ?_; rintro e w' ⟨rfl, rfl⟩))
      all_goals go_wp2_with fail
      all_goals go_region_held3 (fun W => W.cell? ⟨l, 0, none⟩ = some (.pointer (some ⟨g, 0, none⟩)) ∧ W.cell? ⟨l, 1, none⟩ = some (.string ⟨n.toArray⟩)) (first | exact ⟨c0, c1⟩ | assumption) (first
        | (go_at_call 52; refine HK.out.mono ?_; rintro e w' hm; have hS3 : w'.cell? ⟨l, 0, none⟩ = some (.pointer (some ⟨g, 0, none⟩)) ∧ w'.cell? ⟨l, 1, none⟩ = some (.string ⟨n.toArray⟩) := ⟨(hm.2.2.cell (p := ⟨l, 0, none⟩) hlt hnS).trans c0, (hm.2.2.cell (p := ⟨l, 1, none⟩) hlt hnS).trans c1⟩; obtain rfl := hm.1; have hm := Lib.hid hm))
      all_goals go_wp2_with fail
      all_goals go_ret
      all_goals
        rw [HTE.out, HTC.out, if_pos (show (D1, ec).2 ≠ 0 from hz)]
        exact ((hm.out.undrew.undrew).grow (by omega) hN)
  · have hcuti : (pc : Int) ≤ nd := by omega
    rw [if_neg hcut] at HTC
    clear hcut
    have HD1 := Lib.hid ((HD.out.mono (M := N + 4) (by omega) (by omega)).into ((Below.refl w.heap.size w).drew))
    have HA1 := Lib.hid (Apart.below (S := S) ((Below.refl w.heap.size w).drew))
    have HL1 := Lib.hid (HL.out.apart HA1.out)
    go_enter Try.func31, Try.ntmps31
    go_wp2_with (go_at_call 34; refine HG.out.mono ?_; rintro e w' ⟨rfl, rfl⟩)
    go_region_held3 (fun W => W.cell? ⟨l, 0, none⟩ = some (.pointer (some ⟨g, 0, none⟩)) ∧ W.cell? ⟨l, 1, none⟩ = some (.string ⟨n.toArray⟩)) (first | exact ⟨c0, c1⟩ | assumption) (first
      | (go_at_call 18; refine HC.out.mono ?_; rintro e w' ⟨rfl, rfl⟩))
    all_goals obtain ⟨D1, hD1⟩ : ∃ x, D = x := ⟨_, rfl⟩
    all_goals obtain ⟨W1, hW1⟩ : ∃ x, w.drew = x := ⟨_, rfl⟩
    all_goals rw [hW1] at HD1 HA1 HL1 ⊢
    all_goals have HTC2 : Hid (trimC D n s = (D1, 0)) := (by unfold Hid; rw [HTC.out, ← hD1])
    all_goals clear HTC
    all_goals have HTC := HTC2
    all_goals clear HTC2
    all_goals rw [hD1] at HD1
    all_goals clear hD1 hW1 c0 c1 c2 HC HG
    all_goals
      have HT := Lib.hid (show trimD D n s found = trimW D1 n s found by rw [HTE.out, HTC.out]; exact if_neg (fun e => e rfl))
      have hlt1 := HL1.out.lt
      have hnS1 := HL1.out.1
      obtain ⟨x0, x1, x2, lv, x3, hfar⟩ := HL1.out.cells
      obtain ⟨LA, Lc, rfl, hLc1, hLc2⟩ := hfar.1.len
      have HFAR := Lib.hid hfar
      clear hfar
      have hLc2 : Lc ≤ 9223372036854775807 := hLc2
      rcases HCASE.out with ⟨hle, heq1, heq2, heq3, HEQ⟩ | ⟨hle, heq1, heq2, heq3, HEQ⟩ | ⟨hle, hne1, hne2, hne3, HNE⟩ | ⟨hle, hne1, hne2, hne3, HNE⟩
      · go_wp2_with fail
        go_ret
        rw [HT.out]
        unfold trimW
        rw [HND.out, if_pos HEQ.out]
        exact ((makesD_same HD1.out (Below.refl _ _) (M := N + 12) (by omega) hN).up HA1.out)
      · go_wp2_with fail
        go_ret
        rw [HT.out]
        unfold trimW
        rw [HND.out, if_pos HEQ.out]
        exact ((makesD_same HD1.out (Below.refl _ _) (M := N + 12) (by omega) hN).up HA1.out)
      all_goals
        have HPB := Lib.hid (pageOf_any (.slice LA (lastP s).length Lc) (lastP s) W1.drew (HFAR.out.1.below (Below.refl _ _).drew) (by rw [lastP_len]; omega))
        have hndp : 1 ≤ (nd : Int) := by have := HNE.out; have h2 := HND.out; unfold needP at h2; omega
        have hwr : IntKind.i64.wrap ((nd : Int) - 1) = (nd : Int) - 1 := IntWalk.i64_in _ (by omega)
        obtain ⟨RW, hRW⟩ : ∃ R, writeD D1 n ((nd : Nat) - 1) (pageB (lastP s)) = R := ⟨_, rfl⟩
        have HRW := Lib.hid hRW
        obtain ⟨D2, ew⟩ := RW
        clear hRW
        by_cases hw : ew = 0
        · subst hw
          go_wp2_with fail
          go_region_held3 (fun W => W.cell? ⟨l, 0, none⟩ = some (.pointer (some ⟨g, 0, none⟩)) ∧ W.cell? ⟨l, 1, none⟩ = some (.string ⟨n.toArray⟩) ∧ W.cell? ⟨l, 3, none⟩ = some (.slice LA (lastP s).length Lc)) (first | exact ⟨x0, x1, x3⟩ | assumption) (first
            | (go_at_call 53; refine HPB.out.mono ?_; rintro e w2 ⟨pv, rfl, hpo, hpb⟩; have hS4 : w2.cell? ⟨l, 0, none⟩ = some (.pointer (some ⟨g, 0, none⟩)) ∧ w2.cell? ⟨l, 1, none⟩ = some (.string ⟨n.toArray⟩) ∧ w2.cell? ⟨l, 3, none⟩ = some (.slice LA (lastP s).length Lc) := ⟨(hpb.cell (p := ⟨l, 0, none⟩) hlt1).trans x0, (hpb.cell (p := ⟨l, 1, none⟩) hlt1).trans x1, (hpb.cell (p := ⟨l, 3, none⟩) hlt1).trans x3⟩; have HW2 := Lib.hid (write_dks g (N + 4) (since S w W1) D1 n w2 (pageB (lastP s)) ((nd : Int) - 1) pv (HD1.out.below ((Below.refl _ _).drew.trans hpb)) hpo.sl (fun h0 A m c e ht => by have h1 := (hpo.lt A.block (by rw [e]; rfl)).1; have h2 := HD1.out.lt _ ht; have h3 : W1.heap.size ≤ A.block := h1; omega) (by omega) (by omega) (by omega)); rw [HRW.out] at HW2; have HB2 := Lib.hid ((Below.refl W1.heap.size W1).drew.trans hpb); clear hpo hpb)
            | (go_at_call 23; refine HW2.out.mono ?_; rintro e w3 hm3; have hap := hm3.2.2; have hS5 : w3.cell? ⟨l, 0, none⟩ = some (.pointer (some ⟨g, 0, none⟩)) ∧ w3.cell? ⟨l, 1, none⟩ = some (.string ⟨n.toArray⟩) ∧ w3.cell? ⟨l, 3, none⟩ = some (.slice LA (lastP s).length Lc) := ⟨(hap.cell (p := ⟨l, 0, none⟩) (Nat.lt_of_lt_of_le hlt1 HB2.out.size) hnS1).trans hS4.1, (hap.cell (p := ⟨l, 1, none⟩) (Nat.lt_of_lt_of_le hlt1 HB2.out.size) hnS1).trans hS4.2.1, (hap.cell (p := ⟨l, 3, none⟩) (Nat.lt_of_lt_of_le hlt1 HB2.out.size) hnS1).trans hS4.2.2⟩; obtain rfl := hm3.1; have HM3 := Lib.hid hm3; clear hm3 hap))
          all_goals
            have HM4 := Lib.hid (MakesD.over HB2.out HM3.out)
            have HS4 := Lib.hid (sync_dks g (N + 4 + 4) (since (since S w W1) W1 w3) D2 n w3.drew (HM4.out.2.1.below (Below.refl _ _).drew) (by omega) (by omega))
            have hnS4 : ¬ since (since S w W1) W1 w3 l := fun e => by
              rcases e with e | e
              · exact hnS1 e
              · omega
            have hlt4 : l < w3.heap.size := Nat.lt_of_lt_of_le hlt1 HM4.out.2.2.size
            obtain ⟨y0, y1, _⟩ := hS5
          all_goals go_wp2_with fail
          all_goals go_region_held3 (fun W => W.cell? ⟨l, 0, none⟩ = some (.pointer (some ⟨g, 0, none⟩)) ∧ W.cell? ⟨l, 1, none⟩ = some (.string ⟨n.toArray⟩)) (first | exact ⟨y0, y1⟩ | assumption) (first
            | (go_at_call 38; refine HS4.out.mono ?_; rintro e w5 hm5; have hS6 : w5.cell? ⟨l, 0, none⟩ = some (.pointer (some ⟨g, 0, none⟩)) ∧ w5.cell? ⟨l, 1, none⟩ = some (.string ⟨n.toArray⟩) := ⟨(hm5.2.2.cell (p := ⟨l, 0, none⟩) hlt4 hnS4).trans y0, (hm5.2.2.cell (p := ⟨l, 1, none⟩) hlt4 hnS4).trans y1⟩; obtain rfl := hm5.1; have HM5 := Lib.hid hm5; clear hm5))
          all_goals go_wp2_with fail
          all_goals go_ret
          all_goals
            rw [HT.out]
            unfold trimW
            rw [HND.out, if_neg HNE.out, HRW.out, if_neg (fun e => e rfl)]
            exact (MakesD.up HA1.out (MakesD.up HM4.out.2.2 HM5.out.undrew)).grow (by omega) hN
        · have hwi : (ew : Int) ≠ 0 := by omega
          go_wp2_with fail
          go_region_held3 (fun W => W.cell? ⟨l, 0, none⟩ = some (.pointer (some ⟨g, 0, none⟩)) ∧ W.cell? ⟨l, 1, none⟩ = some (.string ⟨n.toArray⟩) ∧ W.cell? ⟨l, 3, none⟩ = some (.slice LA (lastP s).length Lc)) (first | exact ⟨x0, x1, x3⟩ | assumption) (first
            | (go_at_call 53; refine HPB.out.mono ?_; rintro e w2 ⟨pv, rfl, hpo, hpb⟩; have hS4 : w2.cell? ⟨l, 0, none⟩ = some (.pointer (some ⟨g, 0, none⟩)) ∧ w2.cell? ⟨l, 1, none⟩ = some (.string ⟨n.toArray⟩) ∧ w2.cell? ⟨l, 3, none⟩ = some (.slice LA (lastP s).length Lc) := ⟨(hpb.cell (p := ⟨l, 0, none⟩) hlt1).trans x0, (hpb.cell (p := ⟨l, 1, none⟩) hlt1).trans x1, (hpb.cell (p := ⟨l, 3, none⟩) hlt1).trans x3⟩; have HW2 := Lib.hid (write_dks g (N + 4) (since S w W1) D1 n w2 (pageB (lastP s)) ((nd : Int) - 1) pv (HD1.out.below ((Below.refl _ _).drew.trans hpb)) hpo.sl (fun h0 A m c e ht => by have h1 := (hpo.lt A.block (by rw [e]; rfl)).1; have h2 := HD1.out.lt _ ht; have h3 : W1.heap.size ≤ A.block := h1; omega) (by omega) (by omega) (by omega)); rw [HRW.out] at HW2; have HB2 := Lib.hid ((Below.refl W1.heap.size W1).drew.trans hpb); clear hpo hpb)
            | (go_at_call 23; refine HW2.out.mono ?_; rintro e w3 hm3; have hap := hm3.2.2; have hS5 : w3.cell? ⟨l, 0, none⟩ = some (.pointer (some ⟨g, 0, none⟩)) ∧ w3.cell? ⟨l, 1, none⟩ = some (.string ⟨n.toArray⟩) ∧ w3.cell? ⟨l, 3, none⟩ = some (.slice LA (lastP s).length Lc) := ⟨(hap.cell (p := ⟨l, 0, none⟩) (Nat.lt_of_lt_of_le hlt1 HB2.out.size) hnS1).trans hS4.1, (hap.cell (p := ⟨l, 1, none⟩) (Nat.lt_of_lt_of_le hlt1 HB2.out.size) hnS1).trans hS4.2.1, (hap.cell (p := ⟨l, 3, none⟩) (Nat.lt_of_lt_of_le hlt1 HB2.out.size) hnS1).trans hS4.2.2⟩; obtain rfl := hm3.1; have HM3 := Lib.hid hm3; clear hm3 hap))
          all_goals go_wp2_with fail
          all_goals go_ret
          all_goals
            rw [HT.out]
            unfold trimW
            rw [HND.out, if_neg HNE.out, HRW.out, if_pos (show (D2, ew).2 ≠ 0 from hw)]
            exact (MakesD.up HA1.out (MakesD.over HB2.out HM3.out)).grow (by omega) hN

end Go.Proofs.Ytoajfnkhonegnaa.Cd

/-
  log.put: bytes are written behind the records', from the page on in which these end. Conditions: the power is on; there are bytes; names that can be.
-/
namespace Go.Proofs.Ytoajfnkhonegnaa.Cd
open Go.RowKit Go.Shelf
attribute [local go_sem] Oper.semAt_some
set_option linter.unusedVariables false

section
variable {w W W' : World} {S : Nat → Prop} {g M : Nat} {keep : List Nat} {D : Dsk}
/-- A block that a call made. -/
theorem InP.new (h : InP w S g keep M D W) (hb : Below W.heap.size W W') {r : Nat} (h1 : W.heap.size ≤ r) (h2 : r < W'.heap.size) : InP w S g (r :: keep) M D W' := by
  obtain ⟨T, k1, k2, k3, k4⟩ := h
  refine ⟨T, k1.below hb, k2, fun q hq => ?_, k4.trans (Apart.below hb)⟩
  rcases List.mem_cons.1 hq with rfl | hq
  · exact ⟨fun e => by have := k1.lt _ e; omega, h2⟩
  · exact ⟨(k3 q hq).1, Nat.lt_of_lt_of_le (k3 q hq).2 hb.size⟩
end

theorem InP.log {w W : World} {S : Nat → Prop} {l g M : Nat} {n s : List UInt8} {keep : List Nat} {D : Dsk} (h : InP w S g keep M D W) (hl : LogAt w S l g n s) (hS : ∀ k, S k → k < w.heap.size) :
    ∃ T : Nat → Prop, DkS W g M T D ∧ LogAt W T l g n s ∧ (∀ j, T j → since S w W j) ∧ Apart S w W ∧ (∀ r ∈ keep, ¬ T r ∧ r < W.heap.size) := by
  obtain ⟨T, h1, h2, h3, h4⟩ := h
  have hless : ∀ k, k < W.heap.size → T k → since S w W k := fun k hk ht => by
    rcases h2 k ht with h | h
    · exact .inl h
    · exact .inr ⟨h, hk⟩
  exact ⟨T, h1, (hl.apart h4).less hless, fun j hj => hless j (h1.lt j hj) hj, h4, h3⟩

/-- A row of bytes, its block known whole. -/
def RowAt (W : World) (r : Nat) (bs : List UInt8) : Prop := ∃ cur : Array Value, W.heap[r]? = some (.cells cur 5 (0, 0)) ∧ ∀ (j : Nat) (u : Value), (vb bs)[j]? = some u → cur[j]? = some u
theorem RowAt.on {W W' : World} {r : Nat} {bs : List UInt8} (h : RowAt W r bs) (he : W'.heap[r]? = W.heap[r]?) : RowAt W' r bs := by
  obtain ⟨cur, h1, h2⟩ := h
  exact ⟨cur, he.trans h1, h2⟩
theorem RowAt.lt {W : World} {r : Nat} {bs : List UInt8} (h : RowAt W r bs) : r < W.heap.size := by
  obtain ⟨cur, h1, _⟩ := h
  exact (Array.getElem?_eq_some_iff.1 h1).1
/-- The k-th part of a row's bytes. -/
theorem RowAt.part {W : World} {r : Nat} {bs : List UInt8} (h : RowAt W r bs) (k : Nat) (hk : 510 * k < bs.length) (hl : bs.length ≤ 9223372036854775807) : Sl W W.heap.size (ptV r 0 bs.length k) (part bs k) := by
  have hlt := h.lt
  obtain ⟨cur, h1, h2⟩ := h
  have hpl := part_len bs k
  refine ⟨some ⟨r, 0 + 510 * k, none⟩, min 510 (bs.length - 510 * k), by rw [hpl]; rfl, by rw [hpl]; exact Nat.le_refl _, by simp only [maxLen]; omega, (fun h => by cases h), fun ad e _ => ?_, fun ad e j u hu => ?_⟩
  · injection e with e
    subst e
    exact hlt
  · injection e with e
    subst e
    have hj := (List.getElem?_eq_some_iff.1 hu).1
    rw [vb_length, hpl] at hj
    rw [Addr.add_lit, cell_of_row _ _ _ _ _ _ h1]
    refine h2 _ _ ?_
    rw [← hu]
    simp only [vb, Cd.part, List.map_take, List.map_drop]
    rw [List.getElem?_take, if_pos (by omega), List.getElem?_drop]
    congr 1
    omega
/-- All of it. -/
theorem RowAt.sl {W : World} {r c : Nat} {bs : List UInt8} (h : RowAt W r bs) (hc : bs.length ≤ c) (hm : c ≤ maxLen) : Sl W W.heap.size (.slice (some ⟨r, 0, none⟩) bs.length c) bs := by
  have hlt := h.lt
  obtain ⟨cur, h1, h2⟩ := h
  refine ⟨some ⟨r, 0, none⟩, c, rfl, hc, hm, (fun h => by cases h), fun ad e _ => ?_, fun ad e j u hu => ?_⟩
  · injection e with e
    subst e
    exact hlt
  · injection e with e
    subst e
    rw [Addr.add_lit, cell_of_row _ _ _ _ _ _ h1, Nat.zero_add]
    exact h2 _ _ hu

/-- A result that lies in a box. -/
theorem ret_cell9 {fn : Func} {p : Tmp} (h : fn.results = #[.cell p 34]) (tmps : Array Value) (w : World) {r : Nat} {v : Value} (hp : tmps.getD p undef = .pointer (some ⟨r, 0, none⟩)) (hb : w.cell? ⟨r, 0, none⟩ = some v) :
    (results fn tmps).run Try.prog w = .ok v w := by
  have hp' : tmps[p]?.getD undef = .pointer (some ⟨r, 0, none⟩) := by simpa using hp
  simp [results, h, hp', asAddr, loadVar, go_sem, hb]

set_option maxRecDepth 100000 in
set_option maxHeartbeats 6400000 in
theorem put_l (l g N M : Nat) (n s b : List UInt8) (A : Option Addr) (c : Nat) (S : Nat → Prop) (D : Dsk) (w : World) (h : LogAt w S l g n s) (hd : DkS w g N S D) (ho : D.off = false) (hn : n.length ≤ 140737488355000)
    (hb : Sl w w.heap.size (.slice A b.length c) b) (h0 : 0 < b.length) (hsl : s.length + b.length ≤ 1000000000) (hN : N + 4 * (needP (lastP s ++ b).length + 1) ≤ M) (hM : M ≤ 137438953472) :
    Calls Try.prog 36 #[.pointer (some ⟨l, 0, none⟩), .slice A b.length c] w (MakesL g M S (putD D n s b).1 (.int .i64 ((putD D n s b).2 : Nat)) l n (if (putD D n s b).2 = 0 then s ++ b else s) w) := by
  have HL := Lib.hid h
  have HB := Lib.hid hb
  have HD := Lib.hid hd
  have hSlt := Lib.hid hd.lt
  obtain ⟨hb2, hb3⟩ : b.length ≤ c ∧ c ≤ 9223372036854775807 := by
    obtain ⟨_, _, e, h1, h2, _⟩ := hb
    injection e with _ _ e
    rw [e]
    exact ⟨h1, h2⟩
  obtain ⟨W0, hW0⟩ : ∃ x, (w.alloc (.cells #[.pointer (some ⟨l, 0, none⟩)] 33)).alloc (.cells #[.int .i64 0] 34) = x := ⟨_, rfl⟩
  have hi0 : InP w S g [w.heap.size + 1, w.heap.size] N D W0 := by
    rw [← hW0]
    have := ((inP_start hd).lay (.cells #[.pointer (some ⟨l, 0, none⟩)] 33)).lay (.cells #[.int .i64 0] 34)
    rwa [World.size_alloc] at this
  have hbw : Below w.heap.size w W0 := by rw [← hW0]; exact ((Below.refl _ _).alloc (Nat.le_refl _) _).alloc (by simp) _
  have hl0 := h.below hbw
  have hsz0 : W0.heap.size = w.heap.size + 2 := by rw [← hW0]; simp
  have b0 : BoxAt W0 w.heap.size (.pointer (some ⟨l, 0, none⟩)) 33 := by rw [← hW0]; exact (BoxAt.new w _ _).alloc _
  have b1 : BoxAt W0 (w.heap.size + 1) (.int .i64 0) 34 := by
    rw [← hW0]
    have := BoxAt.new (w.alloc (.cells #[.pointer (some ⟨l, 0, none⟩)] 33)) (.int .i64 0) 34
    rwa [World.size_alloc] at this
  have hlt := h.lt
  have hnS := h.1
  have x0 := b0.cell
  obtain ⟨z0, z1, z2, lv, z3, hfar⟩ := hl0.cells
  obtain ⟨LA, Lc, rfl, hLc1, hLc2⟩ := hfar.1.len
  have hLc2 : Lc ≤ 9223372036854775807 := hLc2
  have HFAR := Lib.hid hfar
  have HI0 := Lib.hid hi0
  have B0 := Lib.hid b0
  have B1 := Lib.hid b1
  have HL0 := Lib.hid hl0
  have hsi : (s.length : Int) ≤ 1000000000 := by omega
  have hlt0 : l < W0.heap.size := by omega
  obtain ⟨PD, hPD⟩ : ∃ x, putD D n s b = x := ⟨_, rfl⟩
  obtain ⟨DE, ee⟩ := PD
  rw [hPD] at ⊢
  obtain ⟨s2, hs2⟩ : ∃ x, (if (DE, ee).2 = 0 then s ++ b else s) = x := ⟨_, rfl⟩
  rw [hs2]
  have HPD := Lib.hid hPD
  have HS2 := Lib.hid hs2
  have hz3 : ∀ o, (W0.alloc o).cell? ⟨l, 3, none⟩ = some (.slice LA (lastP s).length Lc) := fun o => (((Below.refl _ _).alloc (Nat.le_refl _) o).cell (p := ⟨l, 3, none⟩) hlt0).trans z3
  have HCC : Hid (∀ (r : Nat) (W : World), Below W0.heap.size W0 W → r < W.heap.size → W.cell? ⟨r, 0, none⟩ = some (.slice LA (lastP s).length Lc) → W.cell? ⟨r, 1, none⟩ = some (.slice A b.length c) → Calls Try.prog 56 #[.slice (some ⟨r, 0, none⟩) 2 2] W (Wrote W (lastP s ++ b))) := fun r W hbl hr e0 e1 =>
    concat_any r _ _ (lastP s) b W hr e0 e1 (((HFAR.out.1.below hbl)).more hbl.size) (((HB.out.below (hbw.trans (hbl.mono hbw.size)))).more (Nat.le_trans hbw.size hbl.size)) (by rw [lastP_len]; omega)
  have hbW := Lib.hid hbw
  clear hbw
  clear hi0 hPD hs2 b0 b1 hl0 hfar h hd hb
  refine (callsIn_wide (n := 6)).1 ?_
  refine callsIn_of_wp_marks Try.func36 rfl trivial ?_ rfl
  simp only [Try.ntmps36, List.size_toArray, List.length_cons, List.length_nil, Nat.reduceAdd, Nat.reduceSub, Array.replicate_succ, Array.replicate_zero, List.push_toArray, List.append_toArray, List.nil_append, List.cons_append]
  gi_wp2_with fail
  obtain ⟨W1, hW1⟩ : ∃ x, (W0.alloc (.cells #[.int .i64 ((s.length : Int) / 510)] 3)).alloc (.cells #[.slice LA (lastP s).length Lc, .slice A b.length c] 27) = x := ⟨_, rfl⟩
  rw [hW1]
  have i1 := (HI0.out.lay (.cells #[.int .i64 ((s.length : Int) / 510)] 3)).lay (.cells #[.slice LA (lastP s).length Lc, .slice A b.length c] 27)
  rw [hW1, World.size_alloc] at i1
  have hb01 : Below W0.heap.size W0 W1 := by rw [← hW1]; exact ((Below.refl _ _).alloc (Nat.le_refl _) _).alloc (by simp) _
  have hsz1 : W1.heap.size = w.heap.size + 4 := by rw [← hW1]; simp; omega
  have hrow1 : W1.heap[w.heap.size + 2 + 1]? = some (.cells #[.slice LA (lastP s).length Lc, .slice A b.length c] 27) := by
    rw [← hW1]
    have := heap_alloc_new (W0.alloc (.cells #[.int .i64 ((s.length : Int) / 510)] 3)) (.cells #[.slice LA (lastP s).length Lc, .slice A b.length c] 27)
    rwa [World.size_alloc, hsz0] at this
  have bi1 : BoxAt W1 (w.heap.size + 2) (.int .i64 ((s.length / 510 : Nat) : Int)) 3 := by
    rw [← hW1]
    have := (BoxAt.new W0 (.int .i64 ((s.length : Int) / 510)) 3).alloc (.cells #[.slice LA (lastP s).length Lc, .slice A b.length c] 27)
    rw [hsz0] at this
    rwa [show ((s.length / 510 : Nat) : Int) = (s.length : Int) / 510 by omega]
  refine ⟨trivial, (callsIn_wide.2 (HCC.out (w.heap.size + 2 + 1) W1 hb01 (by omega) (by rw [cell_of_row _ _ 0 _ _ _ hrow1]; rfl) (by rw [cell_of_row _ _ 1 _ _ _ hrow1]; rfl))).mono ?_⟩
  rintro e W2 ⟨v2, rfl, ho2, hb2'⟩
  obtain ⟨rest, hrest⟩ : ∃ x, lastP s ++ b = x := ⟨_, rfl⟩
  rw [hrest] at ho2 hN
  have hrl : rest.length ≤ 1000000000 := by rw [← hrest, List.length_append, lastP_len]; omega
  have hr0 : 0 < rest.length := by rw [← hrest, List.length_append]; omega
  have HREST := Lib.hid hrest
  obtain ⟨r, rc, rcur, rfl, hr1, hr2, hr3, hr4, hr5, hr6⟩ := own_block ho2 hr0
  have hrow2 : RowAt W2 r rest := ⟨rcur, hr3, hr6⟩
  have hrc : rc ≤ 9223372036854775807 := hr5
  have i2 := i1.new hb2' hr1 hr2
  have hsz2 : w.heap.size + 4 ≤ W2.heap.size := by have := hb2'.size; omega
  have hl02 : ∀ q, q < W0.heap.size → W2.heap[q]? = W0.heap[q]? := fun q hq => (hb2'.block q (by omega)).trans (hb01.block q hq)
  have b02 : BoxAt W2 w.heap.size (.pointer (some ⟨l, 0, none⟩)) 33 := B0.out.on (hl02 _ (by omega))
  have b12 : BoxAt W2 (w.heap.size + 1) (.int .i64 0) 34 := B1.out.on (hl02 _ (by omega))
  have bi2 : BoxAt W2 (w.heap.size + 2) (.int .i64 ((s.length / 510 : Nat) : Int)) 3 := bi1.on (hb2'.block _ (by omega))
  have I2 := Lib.hid i2
  have B02 := Lib.hid b02
  have B12 := Lib.hid b12
  have BI2 := Lib.hid bi2
  have ROW2 := Lib.hid hrow2
  have hri : (rest.length : Int) ≤ 1000000000 := by omega
  have hr1' : w.heap.size + 4 ≤ r := by omega
  have HR4 := Lib.hid hr4
  have HR5 := Lib.hid hr5
  clear i1 i2 b02 b12 bi2 bi1 hrow2 hr3 hr6 hl02 hrow1 hb01 hb2' ho2 hW1 hrest hz3 z0 z1 z2 z3 x0 HI0 HL0 HCC HFAR hr4 hr5
  gi_wp2_with fail
  refine ⟨trivial, (callsIn_wide.2 (lchunk_any _ _ _ _)).mono ?_⟩
  rintro e W' ⟨rfl, rfl⟩
  obtain ⟨W3, hW3⟩ : ∃ x, (W2.alloc (.cells #[.slice (some ⟨r, 0, none⟩) rest.length rc] 27)).alloc (.cells #[.int .i64 510] 3) = x := ⟨_, rfl⟩
  rw [hW3]
  have i3 := (I2.out.lay (.cells #[.slice (some ⟨r, 0, none⟩) rest.length rc] 27)).lay (.cells #[.int .i64 510] 3)
  simp only [World.size_alloc] at i3
  rw [hW3] at i3
  have hsz3 : W3.heap.size = W2.heap.size + 2 := by rw [← hW3]; simp
  have hal : ∀ q, q < W2.heap.size → W3.heap[q]? = W2.heap[q]? := fun q hq => by
    rw [← hW3]
    exact (((Below.refl W2.heap.size W2).alloc (Nat.le_refl _) _).alloc (by simp) _).block q hq
  have c0 : BoxAt W3 w.heap.size (.pointer (some ⟨l, 0, none⟩)) 33 := B02.out.on (hal _ (by omega))
  have c1 : BoxAt W3 (w.heap.size + 1) (.int .i64 0) 34 := B12.out.on (hal _ (by omega))
  have c2 : BoxAt W3 (w.heap.size + 2) (.int .i64 ((s.length / 510 : Nat) : Int)) 3 := BI2.out.on (hal _ (by omega))
  have c5 : RowAt W3 r rest := ROW2.out.on (hal _ ROW2.out.lt)
  have c3 : BoxAt W3 W2.heap.size (.slice (some ⟨r, 0, none⟩) rest.length rc) 27 := by
    rw [← hW3]
    exact (BoxAt.new W2 _ _).alloc _
  have c4 : BoxAt W3 (W2.heap.size + 1) (.int .i64 510) 3 := by
    rw [← hW3]
    have := BoxAt.new (W2.alloc (.cells #[.slice (some ⟨r, 0, none⟩) rest.length rc] 27)) (.int .i64 510) 3
    rwa [World.size_alloc] at this
  have hrlt := ROW2.out.lt
  have I3 := Lib.hid i3
  have C0 := Lib.hid c0
  have C1 := Lib.hid c1
  have C2 := Lib.hid c2
  have C3 := Lib.hid c3
  have C4 := Lib.hid c4
  have C5 := Lib.hid c5
  have HSZ := Lib.hid hsz3
  clear i3 c0 c1 c2 c3 c4 c5 hsz3 hW3 hal B02 B12 BI2 I2 ROW2
  gi_wp2_with fail
  obtain ⟨K7, hK7⟩ : ∃ q, q = [W3.heap.size + 1, W3.heap.size, W2.heap.size + 1, W2.heap.size, r, w.heap.size + 2 + 1, w.heap.size + 2, w.heap.size + 1, w.heap.size] := ⟨_, rfl⟩
  have hsz3 := HSZ.out
  obtain ⟨i0, hi0⟩ : ∃ x, s.length / 510 = x := ⟨_, rfl⟩
  rw [hi0] at C2
  have hi0l : i0 ≤ 1000000000 := by omega
  have hnl : needP rest.length ≤ 1000000000 := by unfold needP; omega
  have hchl : (chunksL s b).length = needP rest.length := by rw [chunksL_len, HREST.out]
  have HCHL := Lib.hid hchl
  have HI0 := Lib.hid hi0
  obtain ⟨I, hI⟩ : ∃ I : Nat → World → Prop, ∀ k W, I k W ↔ (InP w S g K7 (N + 4 * k) (writes D n ((chunksL s b).take k)).1 W ∧ (writes D n ((chunksL s b).take k)).2 = 0 ∧ BoxAt W w.heap.size (.pointer (some ⟨l, 0, none⟩)) 33 ∧ BoxAt W (w.heap.size + 1) (.int .i64 0) 34 ∧ BoxAt W (w.heap.size + 2) (.int .i64 ((i0 + k : Nat) : Int)) 3 ∧ BoxAt W W2.heap.size (.slice (some ⟨r, 0, none⟩) rest.length rc) 27 ∧ BoxAt W (W2.heap.size + 1) (.int .i64 510) 3 ∧ RowAt W r rest) := ⟨_, fun _ _ => Iff.rfl⟩
  obtain ⟨Ix, hIx⟩ : ∃ Ix : Code → Nat → World → Prop, ∀ c k W, Ix c k W ↔ (c = .ret ∧ ee ≠ 0 ∧ InP w S g K7 M DE W ∧ BoxAt W (w.heap.size + 1) (.int .i64 (ee : Nat)) 34) := ⟨_, fun _ _ _ => Iff.rfl⟩
  have HI := Lib.hid hI
  have HIX := Lib.hid hIx
  clear hI hIx hchl hi0
  have hstay : ∀ {r : Nat} {v : Value} {T : TypeId} {A : World} (o : Obj), BoxAt A r v T → r ≠ W3.heap.size + 1 → BoxAt (A.putObj (W3.heap.size + 1) o) r v T := fun o h hr => h.on (World.putObj_heap_other hr)
  refine wpIn_range rfl (by omega) (gf := 78) (lb := #[.pointer (some ⟨W2.heap.size, 0, none⟩), .pointer (some ⟨W2.heap.size + 1, 0, none⟩)]) rfl trivial (enters_of Try.func78 (by kernel_rfl) rfl) (encs := fun k => #[ptV r 0 rest.length k]) (fun _ => rfl)
    (List.range (needP rest.length)) (BoxesL W2.heap.size (W2.heap.size + 1) r 0 rest.length rc) (lchunk_hands _ _ _ _ _ _ _ HR4.out hrc (by omega)) I Ix ?hI ?hIx ?hBox ?h0 (fun k => { tmps := #[.pointer (some ⟨l, 0, none⟩), .slice A b.length c, .pointer (some ⟨w.heap.size, 0, none⟩), undef, .pointer (some ⟨w.heap.size + 1, 0, none⟩), .pointer (some ⟨w.heap.size + 2, 0, none⟩), .slice (some ⟨r, 0, none⟩) rest.length rc, ptV r 0 rest.length k, undef,
        .pointer (some ⟨l, 0, none⟩), .pointer (some ⟨l, 0, none⟩), .pointer (some ⟨l, 2, none⟩), .int .i64 s.length, .int .i64 ((s.length : Int) / 510), .pointer (some ⟨l, 0, none⟩), .pointer (some ⟨l, 0, none⟩), .pointer (some ⟨l, 3, none⟩), .slice LA (lastP s).length Lc, .slice A b.length c, .slice (some ⟨w.heap.size + 2 + 1, 0, none⟩) 2 2,
        .slice (some ⟨r, 0, none⟩) rest.length rc, .slice (some ⟨r, 0, none⟩) rest.length rc, .func (.func 78) #[] #[.pointer (some ⟨W2.heap.size, 0, none⟩), .pointer (some ⟨W2.heap.size + 1, 0, none⟩)], ptV r 0 rest.length k,
        undef, undef, undef, undef, undef, undef, undef, undef, undef, undef, undef, undef, undef, undef, undef, undef, undef, undef, undef, undef, undef, undef, undef, undef, undef, undef, undef, undef, undef, undef, undef, undef], defers := [] }) ?assign ?body ?done ?stop
  case hI =>
    intro k
    refine ⟨fun A B hA hb => ?_, fun A o hA => ?_⟩
    · obtain ⟨a1, a2, a3, a4, a5, a6, a7, a8⟩ := (HI.out _ _).1 hA
      exact (HI.out _ _).2 ⟨a1.below hb, a2, a3.on (hb.block _ a3.lt), a4.on (hb.block _ a4.lt), a5.on (hb.block _ a5.lt), a6.on (hb.block _ a6.lt), a7.on (hb.block _ a7.lt), a8.on (hb.block _ a8.lt)⟩
    · obtain ⟨a1, a2, a3, a4, a5, a6, a7, a8⟩ := (HI.out _ _).1 hA
      exact (HI.out _ _).2 ⟨a1.put (by rw [hK7]; simp) (by omega) o, a2, hstay o a3 (by omega), hstay o a4 (by omega), hstay o a5 (by omega), hstay o a6 (by omega), hstay o a7 (by omega), a8.on (World.putObj_heap_other (by omega))⟩
  case hIx =>
    intro c' k
    refine ⟨fun A B hA hb => ?_, fun A o hA => ?_⟩
    · obtain ⟨a1, a2, a3, a4⟩ := (HIX.out _ _ _).1 hA
      exact (HIX.out _ _ _).2 ⟨a1, a2, a3.below hb, a4.on (hb.block _ a4.lt)⟩
    · obtain ⟨a1, a2, a3, a4⟩ := (HIX.out _ _ _).1 hA
      exact (HIX.out _ _ _).2 ⟨a1, a2, a3.put (by rw [hK7]; simp) (by omega) o, hstay o a4 (by omega)⟩
  case hBox =>
    intro k A hA
    obtain ⟨_, _, _, _, _, a6, a7, _⟩ := (HI.out _ _).1 hA
    exact ⟨a6.cell, a7.cell⟩
  case h0 =>
    intro o
    have i5 := (I3.out.lay (.deferred (some []))).lay o
    rw [World.size_alloc] at i5
    have hal : ∀ {r : Nat}, r < W3.heap.size → ((W3.alloc (.deferred (some []))).alloc o).heap[r]? = W3.heap[r]? := fun hr => (((Below.refl W3.heap.size W3).alloc (Nat.le_refl _) _).alloc (by simp) _).block _ hr
    refine (HI.out _ _).2 ⟨i5.fewer (by rw [hK7, hsz0]; simp), rfl, (C0.out.alloc _).alloc _, (C1.out.alloc _).alloc _, (C2.out.alloc _).alloc _, (C3.out.alloc _).alloc _, (C4.out.alloc _).alloc _, C5.out.on (hal C5.out.lt)⟩
  case assign =>
    intro l x W K hK
    gi_wp2
    exact hK
  case body =>
    intro k x W hx hIk hlt3
    obtain ⟨hk1, hk2⟩ := List.getElem?_eq_some_iff.1 hx
    rw [List.length_range] at hk1
    rw [List.getElem_range] at hk2
    subst hk2
    obtain ⟨a1, a2, a3, a4, a5, a6, a7, a8⟩ := (HI.out _ _).1 hIk
    have hkc : k < (chunksL s b).length := by rw [HCHL.out]; exact hk1
    have hstep := writes_take n (chunksL s b) D hkc a2
    rw [chunksL_at s b hkc, HREST.out, HI0.out] at hstep
    obtain ⟨Dk, hDk⟩ : ∃ x, (writes D n ((chunksL s b).take k)).1 = x := ⟨_, rfl⟩
    rw [hDk] at a1 hstep
    obtain ⟨ik, hik⟩ : ∃ x, i0 + k = x := ⟨_, rfl⟩
    rw [hik] at a5 hstep
    have hikl : (ik : Int) ≤ 2000000000 := by omega
    have hikn : ik ≤ 2000000000 := by omega
    have HIK := Lib.hid hik
    clear hik
    obtain ⟨T, d1, d3, d2, _, d5⟩ := a1.go
    obtain ⟨dl1, dl2⟩ := d2 l hlt hnS
    have hlk : 510 * k < rest.length := by unfold needP at hk1; omega
    have d6 := a8.part k hlk (by omega)
    obtain ⟨W4, hW4⟩ : ∃ x, W.drew = x := ⟨_, rfl⟩
    have hb4 : Below W.heap.size W W4 := by rw [← hW4]; exact (Below.refl _ _).drew
    have hz4 : W4.heap.size = W.heap.size := by rw [← hW4]; rfl
    have hplt := part_le rest k
    have CP := Lib.hid (pageOf_any (ptV r 0 rest.length k) (part rest k) W4 (by rw [hz4]; exact d6.below hb4) hplt)
    have hlW : l < W.heap.size := Nat.lt_of_lt_of_le hlt a1.size
    have hlog : LogAt W S l g n s ∨ True := .inr trivial
    have e0 := (a3.on (hb4.block _ a3.lt)).cell
    obtain ⟨hlv, hlh, _⟩ := HL.out.2
    have hlh4 : W4.heap[l]? = some (.cells #[.pointer (some ⟨g, 0, none⟩), .string ⟨n.toArray⟩, .int .i64 s.length, hlv] 69) := ((hb4.block l hlW).trans dl1).trans hlh
    have e1 : W4.cell? ⟨l, 0, none⟩ = some (.pointer (some ⟨g, 0, none⟩)) := cell_of_row _ _ 0 _ _ _ hlh4
    have e3 : W4.cell? ⟨l, 1, none⟩ = some (.string ⟨n.toArray⟩) := cell_of_row _ _ 1 _ _ _ hlh4
    have e2 := (a5.on (hb4.block _ a5.lt)).cell
    gi_wp2_with fail
    refine region_round (S := fun X => X.cell? ⟨w.heap.size, 0, none⟩ = some (.pointer (some ⟨l, 0, none⟩)) ∧ X.cell? ⟨l, 0, none⟩ = some (.pointer (some ⟨g, 0, none⟩)) ∧ X.cell? ⟨l, 1, none⟩ = some (.string ⟨n.toArray⟩) ∧ X.cell? ⟨w.heap.size + 2, 0, none⟩ = some (.int .i64 (ik : Int))) hW4 (by kernel_rfl) ?hlo (by kernel_rfl) ⟨e0, e1, e3, e2⟩ (fun hHeld => ?_)
    case hlo => rintro ⟨a', w', h⟩; exact h
    refine take_at (i := 0) (.pointer (some ⟨l, 0, none⟩)) (some 24) (by decide) (by rfl) (by kernel_rfl) (by kernel_rfl) (by kernel_rfl) (fun _ _ _ h => h) (by rfl) (fun X hX => by obtain ⟨hX1, hX2, hX3, hX4⟩ := hX; go_simp) (by assumption) ?_
    simp only [Act.put, List.setIfInBounds_toArray, List.set_cons_zero, List.set_cons_succ]
    refine take_at (i := 1) (.pointer (some ⟨l, 0, none⟩)) (some 25) (by decide) (by rfl) (by kernel_rfl) (by kernel_rfl) (by kernel_rfl) (fun _ _ _ h => h) (by rfl) (fun X hX => by obtain ⟨hX1, hX2, hX3, hX4⟩ := hX; go_simp) (by assumption) ?_
    simp only [Act.put, List.setIfInBounds_toArray, List.set_cons_zero, List.set_cons_succ]
    refine take_at (i := 2) (.pointer (some ⟨l, 0, none⟩)) (some 26) (by decide) (by rfl) (by kernel_rfl) (by kernel_rfl) (by kernel_rfl) (fun _ _ _ h => h) (by rfl) (fun X hX => by obtain ⟨hX1, hX2, hX3, hX4⟩ := hX; go_simp) (by assumption) ?_
    simp only [Act.put, List.setIfInBounds_toArray, List.set_cons_zero, List.set_cons_succ]
    refine take_at (i := 3) (.pointer (some ⟨g, 0, none⟩)) (some 27) (by decide) (by rfl) (by kernel_rfl) (by kernel_rfl) (by kernel_rfl) (fun _ _ _ h => h) (by rfl) (fun X hX => by obtain ⟨hX1, hX2, hX3, hX4⟩ := hX; go_simp) (by assumption) ?_
    simp only [Act.put, List.setIfInBounds_toArray, List.set_cons_zero, List.set_cons_succ]
    refine take_at (i := 4) (.pointer (some ⟨l, 0, none⟩)) (some 28) (by decide) (by rfl) (by kernel_rfl) (by kernel_rfl) (by kernel_rfl) (fun _ _ _ h => h) (by rfl) (fun X hX => by obtain ⟨hX1, hX2, hX3, hX4⟩ := hX; go_simp) (by assumption) ?_
    simp only [Act.put, List.setIfInBounds_toArray, List.set_cons_zero, List.set_cons_succ]
    refine take_at (i := 5) (.pointer (some ⟨l, 0, none⟩)) (some 29) (by decide) (by rfl) (by kernel_rfl) (by kernel_rfl) (by kernel_rfl) (fun _ _ _ h => h) (by rfl) (fun X hX => by obtain ⟨hX1, hX2, hX3, hX4⟩ := hX; go_simp) (by assumption) ?_
    simp only [Act.put, List.setIfInBounds_toArray, List.set_cons_zero, List.set_cons_succ]
    refine take_at (i := 6) (.pointer (some ⟨l, 1, none⟩)) (some 30) (by decide) (by rfl) (by kernel_rfl) (by kernel_rfl) (by kernel_rfl) (fun _ _ _ h => h) (by rfl) (fun X hX => by obtain ⟨hX1, hX2, hX3, hX4⟩ := hX; go_simp) (by assumption) ?_
    simp only [Act.put, List.setIfInBounds_toArray, List.set_cons_zero, List.set_cons_succ]
    refine take_at (i := 7) (.string ⟨n.toArray⟩) (some 31) (by decide) (by rfl) (by kernel_rfl) (by kernel_rfl) (by kernel_rfl) (fun _ _ _ h => h) (by rfl) (fun X hX => by obtain ⟨hX1, hX2, hX3, hX4⟩ := hX; go_simp) (by assumption) ?_
    simp only [Act.put, List.setIfInBounds_toArray, List.set_cons_zero, List.set_cons_succ]
    refine take_at (i := 8) (.int .i64 (ik : Int)) (some 32) (by decide) (by rfl) (by kernel_rfl) (by kernel_rfl) (by kernel_rfl) (fun _ _ _ h => h) (by rfl) (fun X hX => by obtain ⟨hX1, hX2, hX3, hX4⟩ := hX; go_simp) (by assumption) ?_
    simp only [Act.put, List.setIfInBounds_toArray, List.set_cons_zero, List.set_cons_succ]
    refine take_at (i := 9) (ptV r 0 rest.length k) (some 33) (by decide) (by rfl) (by kernel_rfl) (by kernel_rfl) (by kernel_rfl) (fun _ _ _ h => h) (by rfl) (fun X hX => by obtain ⟨hX1, hX2, hX3, hX4⟩ := hX; go_simp) (by assumption) ?_
    simp only [Act.put, List.setIfInBounds_toArray, List.set_cons_zero, List.set_cons_succ]
    refine wpAnyH_ready (rs := [10]) (by kernel_rfl) (by simp) ?_
    refine AllReadyH.cons rfl (fun K' hK' => ?_) AllReadyH.nil
    go_simp
    refine CP.out.mono ?_
    rintro e5 W5 ⟨pv, rfl, hpo, hpb⟩
    have hb5 : Below W.heap.size W W5 := hb4.trans (by rw [← hz4]; exact hpb)
    have hpl : (pageB (part rest k)).length = (part rest k).length + 2 := pageB_len _
    obtain ⟨R, hR⟩ : ∃ R, writeD Dk n (ik : Int) (pageB (part rest k)) = R := ⟨_, rfl⟩
    obtain ⟨DR, ec⟩ := R
    rw [hR] at hstep
    have CW := Lib.hid (write_dks g (N + 4 * k) T Dk n W5 (pageB (part rest k)) (ik : Int) pv (d1.below hb5) hpo.sl (fun h0 A m c e ht => by have h1 := (hpo.lt A.block (by rw [e]; rfl)).1; have h2 := d1.lt _ ht; omega) (by omega) (by omega) (by omega))
    rw [hR] at CW
    have HST := Lib.hid hstep
    clear hR hstep
    have hH5 := And.intro (a3.on (hb5.block _ a3.lt)).cell (And.intro ((hpb.cell (p := ⟨l, 0, none⟩) (by show l < W4.heap.size; omega)).trans e1) (And.intro ((hpb.cell (p := ⟨l, 1, none⟩) (by show l < W4.heap.size; omega)).trans e3) (a5.on (hb5.block _ a5.lt)).cell))
    have HB5 := Lib.hid hb5
    refine hK'.out _ _ hH5 (fun _ => ?_)
    clear hK' K' CP hpo hpb hHeld
    refine wpAnyH_ready (rs := [11]) (by kernel_rfl) (by simp) ?_
    refine AllReadyH.cons rfl (fun K' hK' => ?_) AllReadyH.nil
    go_simp
    refine CW.out.mono ?_
    rintro e6 W6 hm
    obtain rfl := hm.1
    obtain ⟨i6, k6, s6, ap6⟩ := d5 _ _ _ _ _ (MakesD.over HB5.out hm)
    have f0 := a3.on (k6 _ (by rw [hK7]; simp))
    have f1 := a4.on (k6 _ (by rw [hK7]; simp))
    have f2 := a5.on (k6 _ (by rw [hK7]; simp))
    have f3 := a6.on (k6 _ (by rw [hK7]; simp))
    have f4 := a7.on (k6 _ (by rw [hK7]; simp))
    have f6 := a8.on (k6 _ (by rw [hK7]; simp))
    have htwo : Two W3.heap.size W W6 := ⟨k6 _ (by rw [hK7]; simp), k6 _ (by rw [hK7]; simp)⟩
    have hlh6 : W6.heap[l]? = some (.cells #[.pointer (some ⟨g, 0, none⟩), .string ⟨n.toArray⟩, .int .i64 s.length, hlv] 69) := (ap6.block l hlW dl2).trans (dl1.trans hlh)
    have hH6 := And.intro f0.cell (And.intro (cell_of_row _ _ 0 _ _ _ hlh6) (And.intro (cell_of_row _ _ 1 _ _ _ hlh6) f2.cell))
    have HTW := Lib.hid htwo
    have F0 := Lib.hid f0
    have F1 := Lib.hid f1
    have F2 := Lib.hid f2
    have F3 := Lib.hid f3
    have F4 := Lib.hid f4
    have F6 := Lib.hid f6
    have I6 := Lib.hid i6
    refine hK'.out _ _ hH6 (fun _ => ?_)
    clear hK' K' hm i6 k6 ap6 f3 f4 f6 htwo e0 e1 e2 e3 d1 d2 d3 d5 d6 a1 a3 a4 a5 a6 a7 a8 CW hIk hlh4 hlh6 hH5 hb5 dl1 dl2
    refine wpAnyH_ready (rs := [12]) (by kernel_rfl) (by simp) ?_
    refine AllReadyH.cons rfl (fun K' hK' => ?_) AllReadyH.nil
    go_simp
    refine hK'.out _ _ hH6 (fun _ => ?_)
    clear hK' K'
    refine ⟨by kernel_rfl, ?_⟩
    have x0 := f0.cell
    have x1 := f1.cell
    have y1 := f1.frozen
    have x2 := f2.cell
    have y2 := f2.frozen
    clear f0 f1 f2 hH6 hb4 hz4 hW4
    by_cases hz2 : ec = 0
    · subst hz2
      gi_wp2
      have hne : ∀ q, q ≠ w.heap.size + 2 → (W6.setCell ⟨w.heap.size + 2, 0, none⟩ (.int .i64 ((ik : Int) + 1))).heap[q]? = W6.heap[q]? := fun q hq => heap_setCell_other _ _ _ _ hq
      have htw := HTW.out
      rw [hsz3] at htw
      refine ⟨⟨(hne _ (by omega)).trans htw.1, (hne _ (by omega)).trans htw.2⟩, (HI.out _ _).2 ⟨?_, by rw [HST.out], F0.out.on (hne _ (by omega)), F1.out.on (hne _ (by omega)), ?_, F3.out.on (hne _ (by omega)), F4.out.on (hne _ (by omega)), F6.out.on (hne _ (by omega))⟩⟩
      · rw [HST.out]
        exact (I6.out.set (by rw [hK7]; simp) (by omega) _).grow (by omega) (by omega)
      · show BoxAt _ _ (.int .i64 ((i0 + (k + 1) : Nat) : Int)) _
        rw [show ((i0 + (k + 1) : Nat) : Int) = (ik : Int) + 1 by have := HIK.out; omega]
        exact F2.out.set _
    · have hz3 : (ec : Int) ≠ 0 := by omega
      have hpd : (DE, ee) = (DR, ec) := by
        rw [← HPD.out]
        show writes D n (chunksL s b) = _
        rw [writes_stop n (chunksL s b) D (k := k + 1) (by rw [HST.out]; exact hz2), HST.out]
      injection hpd with hp1 hp2
      have HP1 := Lib.hid hp1
      have HP2 := Lib.hid hp2
      clear hp1 hp2
      gi_wp2
      have hne : ∀ q, q ≠ w.heap.size + 1 → (W6.setCell ⟨w.heap.size + 1, 0, none⟩ (.int .i64 ec)).heap[q]? = W6.heap[q]? := fun q hq => heap_setCell_other _ _ _ _ hq
      have htw := HTW.out
      rw [hsz3] at htw
      refine ⟨⟨(hne _ (by omega)).trans htw.1, (hne _ (by omega)).trans htw.2⟩, (HIX.out _ _ _).2 ⟨rfl, by rw [HP2.out]; exact hz2, ?_, ?_⟩⟩
      · rw [HP1.out]
        exact (I6.out.set (by rw [hK7]; simp) (by omega) _).grow (by omega) hM
      · rw [HP2.out]
        exact F1.out.set _
  case done =>
    intro W hIk hK
    obtain ⟨a1, a2, a3, a4, a5, a6, a7, a8⟩ := (HI.out _ _).1 hIk
    rw [List.length_range, List.take_of_length_le (by rw [HCHL.out]; exact Nat.le_refl _)] at a1 a2
    have hpd : writes D n (chunksL s b) = (DE, ee) := HPD.out
    rw [hpd] at a1 a2
    have hee : ee = 0 := a2
    subst hee
    have hs2 : s2 = s ++ b := by have := HS2.out; rw [if_pos rfl] at this; exact this.symm
    have HS3 := Lib.hid hs2
    obtain ⟨T, d1, d2, d3, d4, d5⟩ := a1.log HL.out hSlt.out
    obtain ⟨z0, z1, z2, zv, z3, _⟩ := d2.cells
    have y2 := d2.frozen 2
    have hlW := d2.lt
    have hwW := d4.size
    have h3W : W3.heap.size + 1 < W.heap.size := (d5 (W3.heap.size + 1) (by rw [hK7]; simp)).2
    have x0 := a3.cell
    have hlb : (b.length : Int) ≤ 1000000000 := by omega
    have hsb : (s.length : Int) + b.length ≤ 1000000000 := by omega
    have hlast := last_of_append s b
    rw [HREST.out] at hlast
    have HLAST := Lib.hid hlast
    have D1 := Lib.hid d1
    have D2 := Lib.hid d2
    have D3 := Lib.hid d3
    have D4 := Lib.hid d4
    have D5 := Lib.hid d5
    have A4 := Lib.hid a4
    have A3 := Lib.hid a3
    have A8 := Lib.hid a8
    have HK3 := Lib.hid hK
    clear hs2 hlast d1 d2 d3 d4 d5 a1 a2 a4 a5 a6 a7 a8 hIk hpd hK a3
    gi_wp2_with fail
    obtain ⟨Wa, hWa⟩ : ∃ x, W.setCell ⟨l, 2, none⟩ (.int .i64 ((s.length : Int) + b.length)) = x := ⟨_, rfl⟩
    rw [hWa]
    have hza : Wa.heap.size = W.heap.size := by rw [← hWa]; simp
    have hoa : ∀ q : Nat, q ≠ l → Wa.heap[q]? = W.heap[q]? := fun q hq => by rw [← hWa]; exact heap_setCell_other _ _ _ _ hq
    obtain ⟨lv2, hlh, _⟩ := D2.out.2
    have hla : Wa.heap[l]? = some (.cells #[.pointer (some ⟨g, 0, none⟩), .string ⟨n.toArray⟩, .int .i64 ((s.length : Int) + b.length), lv2] 69) := by rw [← hWa]; exact four_two hlh
    obtain ⟨Wb, hWb⟩ : ∃ x, Wa.drew = x := ⟨_, rfl⟩
    have hbb : ∀ q : Nat, Wb.heap[q]? = Wa.heap[q]? := fun q => by rw [← hWb]; rfl
    have hzb : Wb.heap.size = W.heap.size := by rw [← hWb, ← hza]; rfl
    have hxb : BoxAt Wb w.heap.size (.pointer (some ⟨l, 0, none⟩)) 33 := A3.out.on ((hbb _).trans (hoa _ (by omega)))
    have hrb : RowAt Wb r rest := A8.out.on ((hbb _).trans (hoa _ (by omega)))
    have CE := Lib.hid (ending_any _ rc rest Wb (hrb.sl HR4.out HR5.out) (by omega))
    have e0 := hxb.cell
    have HAA := Lib.hid (show Apart (fun k => k = l) W Wa from by rw [← hWa]; exact apart_set _ _ _ _)
    have HAB := Lib.hid (show Below Wa.heap.size Wa Wb from by rw [← hWb]; exact (Below.refl _ _).drew)
    have HLB := Lib.hid ((hbb l).trans hla)
    have HZA := Lib.hid hza
    have HZB := Lib.hid hzb
    clear hbb hoa hla hlh hWa hxb hrb x0 z0 z1 z2 z3 y2
    refine wpIn_wide.2 (wp_region_noPanic (region_begin (S := fun X => X.cell? ⟨w.heap.size, 0, none⟩ = some (.pointer (some ⟨l, 0, none⟩))) hWb (by kernel_rfl) e0 (fun hHeld => ?_)))
    refine take_at (i := 0) (.pointer (some ⟨l, 0, none⟩)) (some 50) (by decide) (by rfl) (by kernel_rfl) (by kernel_rfl) (by kernel_rfl) (fun _ _ _ h => h) (by rfl) (fun X hX => by have hX1 := hX; go_simp) (by assumption) ?_
    simp only [Act.put, List.setIfInBounds_toArray, List.set_cons_zero, List.set_cons_succ]
    refine take_at (i := 1) (.slice (some ⟨r, 0, none⟩) rest.length rc) (some 51) (by decide) (by rfl) (by kernel_rfl) (by kernel_rfl) (by kernel_rfl) (fun _ _ _ h => h) (by rfl) (fun X hX => by have hX1 := hX; go_simp) (by assumption) ?_
    simp only [Act.put, List.setIfInBounds_toArray, List.set_cons_zero, List.set_cons_succ]
    refine wpAnyH_ready (rs := [2]) (by kernel_rfl) (by simp) ?_
    refine AllReadyH.cons rfl (fun K' hK' => ?_) AllReadyH.nil
    go_simp
    refine CE.out.mono ?_
    rintro e5 W5 ⟨rfl, C, cc, rfl, hsl5⟩
    have CC := Lib.hid (clone_any _ (lastP rest) Wb hsl5 (by rw [lastP_len]; omega))
    refine hK'.out _ _ hHeld (fun _ => ?_)
    clear hK' K' CE hsl5
    refine wpAnyH_ready (rs := [3]) (by kernel_rfl) (by simp) ?_
    refine AllReadyH.cons rfl (fun K' hK' => ?_) AllReadyH.nil
    go_simp
    refine CC.out.mono ?_
    rintro e8 W8 ⟨v8, rfl, ho8, hb8⟩
    obtain ⟨A8, c8', rfl, _, _⟩ := ho8.sl.len
    have hH8 := (hb8.cell (p := ⟨w.heap.size, 0, none⟩) (by show w.heap.size < Wb.heap.size; omega)).trans e0
    have hl8 := (hb8.block l (by omega)).trans HLB.out
    have c8 : W8.cell? ⟨l, 3, none⟩ = some lv2 := cell_of_row _ _ 3 _ _ _ hl8
    have f8 : W8.frozen? ⟨l, 3, none⟩ = false := by
      unfold World.frozen?
      simp only [hl8]
      rfl
    have HO8 := Lib.hid ho8
    have HB8 := Lib.hid hb8
    have HL8 := Lib.hid hl8
    refine hK'.out _ _ hH8 (fun _ => ?_)
    clear hK' K' CC ho8 hb8 hl8 hHeld
    refine take_at (i := 4) (.pointer (some ⟨l, 0, none⟩)) (some 54) (by decide) (by rfl) (by kernel_rfl) (by kernel_rfl) (by kernel_rfl) (fun _ _ _ h => h) (by rfl) (fun X hX => by have hX1 := hX; go_simp) (by assumption) ?_
    simp only [Act.put, List.setIfInBounds_toArray, List.set_cons_zero, List.set_cons_succ]
    refine take_at (i := 5) (.pointer (some ⟨l, 3, none⟩)) (some 55) (by decide) (by rfl) (by kernel_rfl) (by kernel_rfl) (by kernel_rfl) (fun _ _ _ h => h) (by rfl) (fun X hX => by have hX1 := hX; go_simp) (by assumption) ?_
    simp only [Act.put, List.setIfInBounds_toArray, List.set_cons_zero, List.set_cons_succ]
    refine wpAnyH_ready (rs := [6]) (by kernel_rfl) (by simp) ?_
    refine AllReadyH.cons rfl (fun K' hK' => ?_) AllReadyH.nil
    go_simp
    obtain ⟨W9, hW9⟩ : ∃ x, W8.setCell ⟨l, 3, none⟩ (.slice A8 (lastP rest).length c8') = x := ⟨_, rfl⟩
    rw [hW9]
    have hz8 := HB8.out.size
    have ho9 : ∀ q : Nat, q ≠ l → W9.heap[q]? = W8.heap[q]? := fun q hq => by rw [← hW9]; exact heap_setCell_other _ _ _ _ hq
    have hl9 : W9.heap[l]? = some (.cells #[.pointer (some ⟨g, 0, none⟩), .string ⟨n.toArray⟩, .int .i64 ((s.length : Int) + b.length), .slice A8 (lastP rest).length c8'] 69) := by rw [← hW9]; exact four_three HL8.out
    have HA9 := Lib.hid (show Apart (fun k => k = l) W8 W9 from by rw [← hW9]; exact apart_set _ _ _ _)
    have hx9 : W9.cell? ⟨w.heap.size, 0, none⟩ = some (.pointer (some ⟨l, 0, none⟩)) := (HA9.out.cell (p := ⟨w.heap.size, 0, none⟩) (by show w.heap.size < W8.heap.size; have := HZB.out; omega) (by show ¬ w.heap.size = l; omega)).trans hH8
    have HL9 := Lib.hid hl9
    have hza := HZA.out
    have hzb := HZB.out
    have hba : ∀ q : Nat, q < W.heap.size → q ≠ l → W9.heap[q]? = W.heap[q]? := fun q hq hne => (ho9 q hne).trans ((HB8.out.block q (by omega)).trans ((HAB.out.block q (by omega)).trans (HAA.out.block q hq hne)))
    have r9 : BoxAt W9 (w.heap.size + 1) (.int .i64 0) 34 := A4.out.on (hba _ (by omega) (by omega))
    have d9 : W9.heap[W3.heap.size]? = some (.deferred (some [])) := (hba _ (by omega) (by omega)).trans HK3.out
    have hz9 : W8.heap.size ≤ W9.heap.size := HA9.out.size
    have x1 := r9.cell
    have y1 := r9.frozen
    have R9 := Lib.hid r9
    have D9 := Lib.hid d9
    refine hK'.out _ _ hx9 (fun _ => ?_)
    clear hK' K' r9 d9 hl9 ho9 hba hW9 c8 f8 hH8 e0
    refine ⟨by kernel_rfl, NoPanic.normal ?_⟩
    gi_wp2_with fail
    obtain ⟨W10, hW10⟩ : ∃ x, W9.setCell ⟨w.heap.size + 1, 0, none⟩ (.int .i64 0) = x := ⟨_, rfl⟩
    rw [hW10]
    have ho10 : ∀ q : Nat, q ≠ w.heap.size + 1 → W10.heap[q]? = W9.heap[q]? := fun q hq => by rw [← hW10]; exact heap_setCell_other _ _ _ _ hq
    have r10 : BoxAt W10 (w.heap.size + 1) (.int .i64 0) 34 := by rw [← hW10]; exact R9.out.set _
    have d10 : W10.heap[W3.heap.size]? = some (.deferred (some [])) := (ho10 _ (by omega)).trans D9.out
    have HA10 := Lib.hid (show Apart (fun k => k = w.heap.size + 1) W9 W10 from by rw [← hW10]; exact apart_set _ _ _ _)
    refine ⟨by simp, .inl ⟨W3.heap.size, _, (by rw [hsz3]), run_takeDeferred d10, ⟨_, ret_cell9 rfl _ _ (r := w.heap.size + 1) (by rfl) (r10.on (World.putObj_heap_other (by omega))).cell, ?_⟩⟩⟩
    obtain ⟨W11, hW11⟩ : ∃ x, W10.putObj W3.heap.size (.deferred none) = x := ⟨_, rfl⟩
    rw [hW11]
    have HA11 : Apart (fun k => k = W3.heap.size) W10 W11 := by rw [← hW11]; exact ⟨rfl, rfl, rfl, by simp, fun q _ hq => World.putObj_heap_other hq⟩
    have hz10 := HA10.out.size
    have hz11 := HA11.size
    have ho11 : ∀ q : Nat, q < W.heap.size → q ≠ l → q ≠ w.heap.size + 1 → q ≠ W3.heap.size → W11.heap[q]? = W.heap[q]? := fun q hq h1 h2 h3 =>
      (HA11.block q (by omega) h3).trans ((HA10.out.block q (by omega) h2).trans ((HA9.out.block q (by omega) h1).trans ((HB8.out.block q (by omega)).trans ((HAB.out.block q (by omega)).trans (HAA.out.block q hq h1)))))
    have hX : Apart (fun k => k = l ∨ k = w.heap.size + 1 ∨ k = W3.heap.size) W W11 :=
      ⟨HA11.os.trans (HA10.out.os.trans (HA9.out.os.trans (HB8.out.os.trans (HAB.out.os.trans HAA.out.os)))), HA11.tape.trans (HA10.out.tape.trans (HA9.out.tape.trans (HB8.out.tape.trans (HAB.out.tape.trans HAA.out.tape)))),
        HA11.output.trans (HA10.out.output.trans (HA9.out.output.trans (HB8.out.output.trans (HAB.out.output.trans HAA.out.output)))), by omega, fun q hq hn => ho11 q hq (fun e => hn (.inl e)) (fun e => hn (.inr (.inl e))) (fun e => hn (.inr (.inr e)))⟩
    have hTn : ∀ k, T k → ¬ (k = l ∨ k = w.heap.size + 1 ∨ k = W3.heap.size) := fun k hk e => by
      rcases e with e | e | e
      · exact D2.out.1 (by rw [← e]; exact hk)
      · exact (D5.out (w.heap.size + 1) (by rw [hK7]; simp)).1 (by rw [← e]; exact hk)
      · exact (D5.out W3.heap.size (by rw [hK7]; simp)).1 (by rw [← e]; exact hk)
    have hl11 : W11.heap[l]? = some (.cells #[.pointer (some ⟨g, 0, none⟩), .string ⟨n.toArray⟩, .int .i64 ((s.length : Int) + b.length), .slice A8 (lastP rest).length c8'] 69) :=
      (HA11.block l (by omega) (by omega)).trans ((HA10.out.block l (by omega) (by omega)).trans HL9.out)
    have hY : Apart (fun k => T k ∨ k = l ∨ k = w.heap.size + 1 ∨ k = W3.heap.size) W8 W11 :=
      ⟨HA11.os.trans (HA10.out.os.trans HA9.out.os), HA11.tape.trans (HA10.out.tape.trans HA9.out.tape), HA11.output.trans (HA10.out.output.trans HA9.out.output), by omega, fun q hq hn =>
        (HA11.block q (by omega) (fun e => hn (.inr (.inr (.inr e))))).trans ((HA10.out.block q (by omega) (fun e => hn (.inr (.inr (.inl e))))).trans (HA9.out.block q hq (fun e => hn (.inr (.inl e)))))⟩
    have hF8 : Far W8 (fun k => T k ∨ k = l ∨ k = w.heap.size + 1 ∨ k = W3.heap.size) (.slice A8 (lastP rest).length c8') (lastP rest) := by
      refine ⟨HO8.out.sl, fun h0 A m cx e hk => ?_⟩
      have h1 := (HO8.out.lt A.block (by rw [e]; rfl)).1
      rcases hk with hk | hk | hk | hk
      · have := D1.out.lt _ hk; omega
      · omega
      · omega
      · omega
    have hF11 := hF8.apart hY
    rw [HS3.out]
    refine ⟨rfl, T, (D1.out.mono (by omega) hM).apart hX hTn, ⟨D2.out.1, .slice A8 (lastP rest).length c8', ?_, ?_, ?_⟩, fun k hk => ?_, ?_⟩
    · rw [hl11, List.length_append]
      simp
    · rw [← HLAST.out]
      refine hF11.less fun k _ hk => ?_
      rcases hk with hk | hk
      · exact .inl (.inl hk)
      · exact .inl (.inr (.inl hk))
    · rw [← HLAST.out]
      intro h0 A m cx e
      obtain ⟨cs, fr, hc⟩ := u8_own HO8.out h0 A m cx e
      refine ⟨cs, fr, ?_⟩
      have h1 := far_lt hF8 h0 e
      rw [hY.block _ h1 (hF8.2 h0 A m cx e)]
      exact hc
    · rcases D3.out k hk with h1 | h1
      · exact .inl h1
      · exact .inr ⟨h1.1, by omega⟩
    · refine (D4.out.mono fun _ => .inl).trans (hX.mono fun k hk => ?_)
      rcases hk with hk | hk | hk
      · exact .inl (.inr hk)
      · exact .inr ⟨by omega, by omega⟩
      · exact .inr ⟨by omega, by omega⟩
  case stop =>
    intro c' k W hk hx hK
    obtain ⟨rfl, a2, a3, a4⟩ := (HIX.out _ _ _).1 hx
    have hs2 : s2 = s := by have := HS2.out; rw [if_neg a2] at this; exact this.symm
    gi_wp2
    refine ⟨by simp, .inl ⟨W3.heap.size, _, (by rw [hsz3]), run_takeDeferred hK, ⟨_, ret_cell9 rfl _ _ (r := w.heap.size + 1) (by rfl) (a4.on (World.putObj_heap_other (by omega))).cell, ?_⟩⟩⟩
    obtain ⟨T, d1, d2, d3, d4, _⟩ := (a3.put (r := W3.heap.size) (by rw [hK7]; simp) (by omega) _).log HL.out hSlt.out
    rw [hs2]
    exact ⟨rfl, T, d1, d2, d3, d4.mono fun _ => .inl⟩

end Go.Proofs.Ytoajfnkhonegnaa.Cd
