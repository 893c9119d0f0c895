/-
  Rows of bytes that are written over; the reference's Filled. Conditions: none.
-/
import Derived.Test.YtkbmajgbhpecgaaGreatDoorG8
import Derived.Test.YtkbmajgbhpecgaaGreatDoorG9
import Derived.Test.YtkbmajgbhpecgaaGreatDoorG7
import Derived.Deep.RegionHeld3
import Derived.BigQuiet
/-
  How many acts a commit takes; what a call that is OK leaves of the power. No Go in sight. Conditions: none.
-/
namespace Go.Proofs.YtkbmajgbhpecgaaGreatDoor.Cd

theorem ends_ok {D D1 : Dsk} (h : (ends D D1 0).2 = 0) : ends D D1 0 = (D1, 0) := by
  unfold ends at h ⊢
  split
  · rename_i e; rw [if_pos e] at h; cases h
  · rfl
theorem write_ok {D : Dsk} {n b : List UInt8} {i : Int} (h : (writeD D n i b).2 = 0) : writeD D n i b = (wrote D n i.toNat b, 0) ∧ D.off = false ∧ b.length ≤ 512 ∧ 0 ≤ i ∧ i ≤ ((pagesF D.now n).length : Int) := by
  unfold writeD at h ⊢
  split at h
  · cases h
  · rename_i h1
    rw [if_neg h1]
    split at h
    · cases h
    · rename_i h2
      rw [if_neg h2]
      split at h
      · cases h
      · rename_i h3
        rw [if_neg h3]
        split at h
        · cases h
        · rename_i h4
          rw [if_neg h4]
          exact ⟨ends_ok h, by simpa using h1, by omega, by omega, by omega⟩
theorem may_is {D : Dsk} {n : List UInt8} (h : (mayD D n).2 = 0) : mayD D n = (actD D, 0) ∧ D.off = false ∧ (getF D.now n).isSome = true := by
  unfold mayD at h ⊢
  split at h
  · cases h
  · rename_i h1
    rw [if_neg h1]
    split at h
    · cases h
    · rename_i h2
      rw [if_neg h2]
      exact ⟨ends_ok h, by simpa using h1, by cases e : (getF D.now n).isSome; exact absurd e h2; rfl⟩
theorem sync_ok {D : Dsk} {n : List UInt8} (h : (syncD D n).2 = 0) : syncD D n = (syncs (actD D) n, 0) ∧ D.off = false ∧ (getF D.now n).isSome = true := by
  unfold syncD at h ⊢
  by_cases e : (mayD D n).2 = 0
  · obtain ⟨h1, h2, h3⟩ := may_is e
    rw [if_pos e, h1]
    exact ⟨rfl, h2, h3⟩
  · rw [if_neg e] at h; exact absurd h e
theorem remove_ok {D : Dsk} {n : List UInt8} (h : (removeD D n).2 = 0) : removeD D n = (removes (actD D) n, 0) ∧ D.off = false ∧ (getF D.now n).isSome = true := by
  unfold removeD at h ⊢
  by_cases e : (mayD D n).2 = 0
  · obtain ⟨h1, h2, h3⟩ := may_is e
    rw [if_pos e, h1]
    exact ⟨rfl, h2, h3⟩
  · rw [if_neg e] at h; exact absurd h e
theorem rename_ok {D : Dsk} {a b : List UInt8} (hne : a ≠ b) (h : (renameD D a b).2 = 0) : renameD D a b = (renames (actD D) a b, 0) ∧ D.off = false ∧ (getF D.now a).isSome = true := by
  unfold renameD at h ⊢
  by_cases e : (mayD D a).2 = 0
  · obtain ⟨h1, h2, h3⟩ := may_is e
    rw [if_pos ⟨e, hne⟩, h1]
    exact ⟨rfl, h2, h3⟩
  · rw [if_neg (fun h => e h.1)] at h; exact absurd h e

theorem writes_ok {n : List UInt8} (ws : Pgs) : ∀ {D : Dsk}, (writes D n ws).2 = 0 → (writes D n ws).1.acts = D.acts + ws.length ∧ (writes D n ws).1.off = D.off ∧ (ws ≠ [] → D.off = false) := by
  induction ws with
  | nil => intro D _; exact ⟨rfl, rfl, fun h => absurd rfl h⟩
  | cons p r ih =>
    intro D h
    rw [writes] at h ⊢
    by_cases e : (writeD D n p.1 p.2).2 = 0
    · rw [if_pos e] at h ⊢
      obtain ⟨h1, h2, _⟩ := write_ok e
      obtain ⟨q1, q2, _⟩ := ih h
      rw [h1] at q1 q2 ⊢
      have e1 : (wrote D n p.1.toNat p.2).acts = D.acts + 1 := rfl
      have e2 : (wrote D n p.1.toNat p.2).off = D.off := rfl
      rw [e1] at q1
      rw [e2] at q2
      exact ⟨by rw [q1, List.length_cons]; omega, q2, fun _ => h2⟩
    · rw [if_neg e] at h; exact absurd h e

theorem post_ok {D : Dsk} {n b : List UInt8} (h : (postD D n b).2 = 0) (hb : (getF D.now (drf n)).isSome = false) : (postD D n b).1.acts = D.acts + pagesOf b.length + 2 ∧ (postD D n b).1.off = false := by
  have hd : discardD D n = (D, 0) := by unfold discardD; rw [if_neg (by rw [hb]; simp)]
  unfold postD at h ⊢
  simp only [hd, ne_eq, not_true_eq_false, if_false] at h ⊢
  by_cases e1 : (writes D (drf n) (chunks b)).2 = 0
  · rw [if_neg (fun h => h e1)] at h ⊢
    obtain ⟨a1, a2, _⟩ := writes_ok _ e1
    by_cases e2 : (syncD (writes D (drf n) (chunks b)).1 (drf n)).2 = 0
    · rw [if_neg (fun h => h e2)] at h ⊢
      obtain ⟨b1, b2, _⟩ := sync_ok e2
      obtain ⟨c1, c2, _⟩ := rename_ok (fun e => jnl_drf n e.symm) h
      rw [c1]
      refine ⟨?_, c2⟩
      show (syncD (writes D (drf n) (chunks b)).1 (drf n)).1.acts + 1 = _
      rw [b1]
      show (writes D (drf n) (chunks b)).1.acts + 1 + 1 = _
      rw [a1, chunks_len]
    · rw [if_pos e2] at h; exact absurd h e2
  · rw [if_pos e1] at h; exact absurd h e1

theorem settle_ok {D : Dsk} {n : List UInt8} {ws : Pgs} (h : (settleD D n ws).2 = 0) (hn : (getF (writes D n ws).1.now n).isSome = true) : (settleD D n ws).1.acts = D.acts + ws.length + 2 ∧ (settleD D n ws).1.off = false := by
  unfold settleD at h ⊢
  by_cases e1 : (writes D n ws).2 = 0
  · rw [if_neg (fun h => h e1)] at h ⊢
    obtain ⟨a1, a2, _⟩ := writes_ok _ e1
    have hs : syncIf (writes D n ws).1 n = syncD (writes D n ws).1 n := by unfold syncIf; rw [if_pos hn]
    rw [hs] at h ⊢
    by_cases e2 : (syncD (writes D n ws).1 n).2 = 0
    · rw [if_neg (fun h => h e2)] at h ⊢
      obtain ⟨b1, b2, _⟩ := sync_ok e2
      obtain ⟨c1, c2, _⟩ := remove_ok h
      rw [c1]
      refine ⟨?_, c2⟩
      show (syncD (writes D n ws).1 n).1.acts + 1 = _
      rw [b1]
      show (writes D n ws).1.acts + 1 + 1 = _
      rw [a1]
    · rw [if_pos e2] at h; exact absurd h e2
  · rw [if_pos e1] at h; exact absurd h e1

/-- The file that is written is there. -/
theorem writes_is {n : List UInt8} (ws : Pgs) : ∀ {D : Dsk}, (writes D n ws).2 = 0 → ws ≠ [] → (getF (writes D n ws).1.now n).isSome = true := by
  have key : ∀ (ws : Pgs) {D : Dsk}, (writes D n ws).2 = 0 → (getF D.now n).isSome = true → (getF (writes D n ws).1.now n).isSome = true := by
    intro ws
    induction ws with
    | nil => intro D _ h; exact h
    | cons p r ih =>
      intro D h h2
      rw [writes] at h ⊢
      by_cases e : (writeD D n p.1 p.2).2 = 0
      · rw [if_pos e] at h ⊢
        refine ih h ?_
        rw [(write_ok e).1]
        show (getF (wrote D n _ _).now n).isSome = true
        rw [wrote_is, if_pos rfl]
      · rw [if_neg e] at h; exact absurd h e
  intro D h hne
  cases ws with
  | nil => exact absurd rfl hne
  | cons p r =>
    rw [writes] at h ⊢
    by_cases e : (writeD D n p.1 p.2).2 = 0
    · rw [if_pos e] at h ⊢
      refine key r h ?_
      rw [(write_ok e).1]
      show (getF (wrote D n _ _).now n).isSome = true
      rw [wrote_is, if_pos rfl]
    · rw [if_neg e] at h; exact absurd h e

/-- What is OK leaves the power on. -/
theorem post_on {D : Dsk} {n b : List UInt8} (h : (postD D n b).2 = 0) : (postD D n b).1.off = false := by
  unfold postD at h ⊢
  by_cases e0 : (discardD D n).2 = 0
  · rw [if_neg (fun h => h e0)] at h ⊢
    by_cases e1 : (writes (discardD D n).1 (drf n) (chunks b)).2 = 0
    · rw [if_neg (fun h => h e1)] at h ⊢
      by_cases e2 : (syncD (writes (discardD D n).1 (drf n) (chunks b)).1 (drf n)).2 = 0
      · rw [if_neg (fun h => h e2)] at h ⊢
        obtain ⟨c1, c2, _⟩ := rename_ok (fun e => jnl_drf n e.symm) h
        rw [c1]
        exact c2
      · rw [if_pos e2] at h; exact absurd h e2
    · rw [if_pos e1] at h; exact absurd h e1
  · rw [if_pos e0] at h; exact absurd h e0
/-- There are no more new pages than writes. -/
theorem laid_len' (ws : Pgs) : ∀ {c f : Nat}, freshN c ws = some f → f ≤ ws.length := by
  induction ws with
  | nil => intro c f h; injection h with h; omega
  | cons p r ih =>
    intro c f h
    rw [freshN] at h
    split at h
    · cases h
    · split at h
      · cases hr : freshN (c + 1) r with
        | none => rw [hr] at h; cases h
        | some g =>
          rw [hr] at h
          injection h with h
          have := ih hr
          have h : g + 1 = f := h
          rw [List.length_cons]
          omega
      · have := ih h
        rw [List.length_cons]
        omega

theorem commit_acts {D : Dsk} {n : List UInt8} {ws : Pgs} (hb : Bare D n) (hws : ws ≠ []) (h : (commitD D n ws).2 = 0) : (commitD D n ws).1.acts = D.acts + pagesOf (recF ws).length + ws.length + 4 := by
  unfold commitD at h ⊢
  split at h
  · cases h
  · rename_i h1
    rw [if_neg h1]
    split at h
    · cases h
    · rename_i h2
      rw [if_neg h2]
      cases hf : freshN (pagesF D.now n).length ws with
      | none => rw [hf] at h; cases h
      | some f =>
        rw [hf] at h
        simp only [if_neg hws] at h ⊢
        split at h
        · cases h
        · rename_i h3
          rw [if_neg h3]
          by_cases e : (postD D n (recF ws)).2 = 0
          · rw [if_neg (fun h => h e)] at h ⊢
            obtain ⟨a1, _⟩ := post_ok e hb.draft
            have hw : (writes (postD D n (recF ws)).1 n ws).2 = 0 := by
              unfold settleD at h
              by_cases e2 : (writes (postD D n (recF ws)).1 n ws).2 = 0
              · exact e2
              · rw [if_pos e2] at h; exact absurd h e2
            obtain ⟨b1, _⟩ := settle_ok h (writes_is ws hw hws)
            rw [b1, a1]
            omega
          · rw [if_pos e] at h; exact absurd h e

end Go.Proofs.YtkbmajgbhpecgaaGreatDoor.Cd

/-
  What a commit answers, with the power on and no end of it in sight. Conditions: none.
-/
namespace Go.Proofs.YtkbmajgbhpecgaaGreatDoor.Cd
open Go.RowKit

/-- What a commit must answer, where c pages are and so many are free. -/
def wantsD (c : Nat) (free : Int) (ws : Pgs) : Nat :=
  if hasLong ws = true then 3 else
  match freshN c ws with
  | none => 1
  | some f => if ws = [] then 0 else if free < (pagesOf (recF ws).length + f : Nat) then 7 else 0

theorem Roomy.answers {D : Dsk} {room k : Nat} (h : Roomy D room k) {n : List UInt8} (hb : Bare D n) (ws : Pgs) : (commitD D n ws).2 = wantsD (pagesF D.now n).length (freeD D) ws := by
  unfold commitD wantsD
  rw [if_neg (by rw [h.off]; simp)]
  cases hl : hasLong ws
  · simp only [Bool.false_eq_true, if_false]
    cases hf : freshN (pagesF D.now n).length ws with
    | none => rfl
    | some f =>
      simp only
      by_cases hws : ws = []
      · rw [if_pos hws, if_pos hws]
      · rw [if_neg hws, if_neg hws]
        by_cases hroom : freeD D < (pagesOf (recF ws).length + f : Nat)
        · rw [if_pos hroom, if_pos hroom]
        · rw [if_neg hroom, if_neg hroom]
          have hfr := h.free
          have hle : k + pagesOf (recF ws).length + f ≤ room := by
            rw [hfr] at hroom
            omega
          obtain ⟨a1, a2, a3, a4, a5, a6⟩ := h.post hb (b := recF ws) (frm_pos _) (by omega)
          rw [if_neg (by rw [a1]; simp)]
          have hn := a3 n (fun e => jnl_ne n e.symm) (fun e => drf_ne n e.symm)
          exact (a2.settle (n := n) (ws := ws) a5 a4 (by rw [hn.1]; exact hf) hle (hasLong_none hl)).1
  · rw [if_pos rfl, if_pos rfl]

/-- A commit that must be OK. -/
theorem Roomy.done {D : Dsk} {room k : Nat} (h : Roomy D room k) {n : List UInt8} (hb : Bare D n) (ws : Pgs) (hz : (commitD D n ws).2 = 0) :
    ∃ f, freshN (pagesF D.now n).length ws = some f ∧ Roomy (commitD D n ws).1 room (k + f) ∧ Bare (commitD D n ws).1 n ∧
      ∀ m, m ≠ jnl n → m ≠ drf n → pagesF (commitD D n ws).1.now m = (if m = n then laidP (pagesF D.now n) ws else pagesF D.now m) ∧ (getF (commitD D n ws).1.now m).isSome = if m = n ∧ ws ≠ [] then true else (getF D.now m).isSome := by
  rcases h.commit hb ws with ⟨h1, _⟩ | ⟨f, _, h2, _, _, h3, h4, h5⟩
  · exact absurd hz h1
  · exact ⟨f, h2, h3, h4, h5⟩

theorem bare_new (room : Int) (n : List UInt8) : Bare (newD room) n := ⟨rfl, rfl⟩

/-! ### The law's own example -/

def wsA : Pgs := [(0, noughts 512), (1, noughts 512)]
theorem wsA_put : insP (insP [] 0 (noughts 512)) 1 (noughts 512) = wsA := by simp [insP, wsA]
theorem roomyA : Roomy (newD 20) 20 0 := new_roomy (room := 20) (by omega)
theorem wsA_len : (recT wsA).length = 1031 := by
  simp only [recT, wsA, List.length_append, List.map_cons, List.map_nil, List.flatten_cons, List.flatten_nil, recP, noughts_len, List.length_nil, List.length_cons]
  decide +kernel
theorem wsA_pages : pagesOf (recF wsA).length = 3 := by
  have h1 := frm_ge (recT wsA)
  have h2 := frm_le (recT wsA) (by rw [wsA_len]; omega)
  rw [wsA_len] at h1 h2
  unfold recF pagesOf
  omega
theorem wsA_ok : (commitD (newD 20) [102] wsA).2 = 0 := by
  rw [roomyA.answers (bare_new _ _)]
  unfold wantsD
  rw [if_neg (by simp [hasLong, wsA, noughts_len])]
  rw [show freshN (pagesF (newD 20).now [102]).length wsA = some 2 from by rfl]
  simp only
  rw [if_neg (by simp [wsA]), wsA_pages]
  rw [if_neg (by rw [roomyA.free]; omega)]
theorem wsA_acts : (commitD (newD 20) [102] wsA).1.acts = 9 := by
  rw [commit_acts (bare_new _ _) (by simp [wsA]) wsA_ok, wsA_pages]
  rfl
theorem wsA_laid : (laidP (pagesF (newD 20).now [102]) wsA).length = 2 := by
  show (setP (setP [] 0 (pad (noughts 512))) 1 (pad (noughts 512))).length = 2
  generalize pad (noughts 512) = z
  rfl
theorem wsA_count : (pagesF (commitD (newD 20) [102] wsA).1.now [102]).length = 2 := by
  obtain ⟨f, _, _, _, h⟩ := roomyA.done (bare_new _ [102]) wsA wsA_ok
  rw [(h [102] (by decide) (by decide)).1, if_pos rfl]
  exact wsA_laid
theorem wsA_on : (commitD (newD 20) [102] wsA).1.off = false := by
  obtain ⟨f, _, h, _⟩ := roomyA.done (bare_new _ [102]) wsA wsA_ok
  exact h.off

end Go.Proofs.YtkbmajgbhpecgaaGreatDoor.Cd

/-
  Open, where no journal is; a nil pager, a nil disk. Conditions: names that can be.
-/
namespace Go.Proofs.YtkbmajgbhpecgaaGreatDoor.Cd
open Go.RowKit

/-- A journal that isn't there tells nothing. -/
theorem replay_bare (p g N : Nat) (n : List UInt8) (S : Nat → Prop) (D : Dsk) (w : World) (h : PgrAt w S p g n) (hd : DkS w g N S D) (ho : D.off = false) (hn : n.length ≤ 140737488355000) (hj : (getF D.now (jnl n)).isSome = false) :
    Calls Tryz.prog 31 #[.pointer (some ⟨p, 0, none⟩)] w (fun e w' => e = .returned (.int .i64 0) ∧ w' = w.drew) := by
  have hdl : (jnl n).length ≤ 140737488355328 := by simp [jnl]; omega
  have hp1 := h.below (w' := w.drew) (Below.refl _ _).drew
  have hd1 := hd.below (w' := w.drew) (Below.refl _ _).drew
  have HP1 := Lib.hid (journal_any p g n S w.drew hp1 hn)
  have HA1 := Lib.hid (has_dks g N S D (jnl n) w.drew hd1 ho hdl)
  rw [hj] at HA1
  obtain ⟨hnS, hlt, c0, c1⟩ := h
  clear hp1 hd1 hd
  go_enter Tryz.func31, Tryz.ntmps31
  go_wp2_with fail
  go_region_held3 (fun W => W.cell? ⟨p, 0, none⟩ = some (.pointer (some ⟨g, 0, none⟩))) (first | exact c0 | assumption) (first
    | (go_at_call 54; refine HP1.out.mono ?_; rintro e w' ⟨rfl, rfl⟩)
    | (go_at_call 51; refine HA1.out.mono ?_; rintro e w' ⟨rfl, rfl⟩))
  all_goals go_wp2_with fail
  all_goals go_ret
  all_goals exact ⟨rfl, rfl⟩

theorem discard_bare (p g N : Nat) (n : List UInt8) (S : Nat → Prop) (D : Dsk) (w : World) (h : PgrAt w S p g n) (hd : DkS w g N S D) (ho : D.off = false) (hn : n.length ≤ 140737488355000) (hh : (getF D.now (drf n)).isSome = false) :
    Calls Tryz.prog 30 #[.pointer (some ⟨p, 0, none⟩)] w (fun e w' => e = .returned (.int .i64 0) ∧ w' = w.drew) := by
  have hdl : (drf n).length ≤ 140737488355328 := by simp [drf]; omega
  have hp1 := h.below (w' := w.drew) (Below.refl _ _).drew
  have hd1 := hd.below (w' := w.drew) (Below.refl _ _).drew
  have HP1 := Lib.hid (draft_any p g n S w.drew hp1 hn)
  have HA1 := Lib.hid (has_dks g N S D (drf n) w.drew hd1 ho hdl)
  rw [hh] at HA1
  obtain ⟨hnS, hlt, c0, c1⟩ := h
  clear hp1 hd1 hd
  go_enter Tryz.func30, Tryz.ntmps30
  go_wp2_with fail
  go_region_held3 (fun W => W.cell? ⟨p, 0, none⟩ = some (.pointer (some ⟨g, 0, none⟩))) (first | exact c0 | assumption) (first
    | (go_at_call 52; refine HP1.out.mono ?_; rintro e w' ⟨rfl, rfl⟩)
    | (go_at_call 51; refine HA1.out.mono ?_; rintro e w' ⟨rfl, rfl⟩))
  all_goals go_wp2_with fail
  all_goals go_ret
  all_goals exact ⟨rfl, rfl⟩

/-- A new pager. -/
theorem pgr_new {w : World} {S : Nat → Prop} (g : Nat) (n : List UInt8) (hS : ∀ k, S k → k < w.heap.size) : PgrAt (w.alloc (.cells #[.pointer (some ⟨g, 0, none⟩), .string ⟨n.toArray⟩] 68)) S w.heap.size g n := by
  refine ⟨fun h => Nat.lt_irrefl _ (hS _ h), by simp, ?_, ?_⟩
  · exact cell_of_row _ _ 0 _ _ _ (heap_alloc_new w _)
  · exact cell_of_row _ _ 1 _ _ _ (heap_alloc_new w _)

set_option maxHeartbeats 800000 in
theorem open_bare (g N : Nat) (n : List UInt8) (S : Nat → Prop) (D : Dsk) (w : World) (hd : DkS w g N S D) (ho : D.off = false) (hn : n.length ≤ 140737488355000) (hb : Bare D n) :
    Calls Tryz.prog 9 #[.pointer (some ⟨g, 0, none⟩), .string ⟨n.toArray⟩] w (fun e w' => e = .returned (.tuple #[.pointer (some ⟨w.heap.size, 0, none⟩), .int .i64 0]) ∧ PgrAt w' S w.heap.size g n ∧ Below w.heap.size w w') := by
  obtain ⟨w0, hw0⟩ : ∃ x, w.alloc (.cells #[.pointer (some ⟨g, 0, none⟩), .string ⟨n.toArray⟩] 68) = x := ⟨_, rfl⟩
  have hp0 : PgrAt w0 S w.heap.size g n := by rw [← hw0]; exact pgr_new g n hd.lt
  have hb0 : Below w.heap.size w w0 := by rw [← hw0]; exact (Below.refl _ _).alloc (Nat.le_refl _) _
  have hd0 := hd.below hb0
  have HR := Lib.hid (ready_p w.heap.size g N n S D w0 hp0 hd0)
  have he : errD D = 0 := by unfold errD; rw [ho]; rfl
  have HD := Lib.hid (discard_bare w.heap.size g N n S D w0 hp0 hd0 ho hn hb.draft)
  have HJ := Lib.hid (replay_bare w.heap.size g N n S D w0.drew (hp0.below (Below.refl _ _).drew) (hd0.below (Below.refl _ _).drew) ho hn hb.journal)
  rw [he] at HR
  have HP := Lib.hid (hp0.below ((Below.refl w0.heap.size w0).drew.trans (Below.refl _ _).drew))
  have HB := Lib.hid (hb0.drew.drew)
  clear hp0 hd0 hd hb0
  go_enter Tryz.func9, Tryz.ntmps9
  go_wp2_with (first
    | (go_at_call 29; refine HR.out.mono ?_; rintro e w' ⟨rfl, rfl⟩)
    | (go_at_call 30; refine HD.out.mono ?_; rintro e w' ⟨rfl, rfl⟩)
    | (go_at_call 31; refine HJ.out.mono ?_; rintro e w' ⟨rfl, rfl⟩))
  go_ret2
  exact ⟨rfl, HP.out, HB.out⟩

/-! ### No pager, no disk -/

theorem pready_nil (w : World) : Calls Tryz.prog 29 #[.pointer none] w (fun e w' => e = .returned (.int .i64 2) ∧ w' = w) := by
  go_enter Tryz.func29, Tryz.ntmps29
  go_wp2_with fail
  go_ret
  exact ⟨rfl, rfl⟩

theorem pcommit_nil (w : World) (m : Value) : Calls Tryz.prog 15 #[.pointer none, m] w (fun e w' => e = .returned (.int .i64 2) ∧ w' = w) := by
  go_enter Tryz.func15, Tryz.ntmps15
  go_wp2_with (go_at_call 29; refine (pready_nil w).mono ?_; rintro e w' ⟨rfl, rfl⟩)
  go_ret
  exact ⟨rfl, rfl⟩

theorem pcount_nil (w : World) : Calls Tryz.prog 18 #[.pointer none] w (fun e w' => e = .returned (.int .i64 0) ∧ w' = w) := by
  go_enter Tryz.func18, Tryz.ntmps18
  go_wp2_with fail
  go_ret
  exact ⟨rfl, rfl⟩

theorem pread_nil (w : World) (i : Value) : Calls Tryz.prog 39 #[.pointer none, i] w (fun e w' => e = .returned (.tuple #[.slice none 0 0, .int .i64 2]) ∧ w' = w) := by
  go_enter Tryz.func39, Tryz.ntmps39
  go_wp2_with fail
  go_ret2
  exact ⟨rfl, rfl⟩

theorem popen_nil (w : World) (n : List UInt8) : Calls Tryz.prog 9 #[.pointer none, .string ⟨n.toArray⟩] w (fun e w' => e = .returned (.tuple #[.pointer none, .int .i64 2]) ∧ Below w.heap.size w w') := by
  have HB := Lib.hid ((Below.refl w.heap.size w).alloc (Nat.le_refl _) (.cells #[.pointer none, .string ⟨n.toArray⟩] 68))
  have hc : (w.alloc (.cells #[.pointer none, .string ⟨n.toArray⟩] 68)).cell? ⟨w.heap.size, 0, none⟩ = some (.pointer none) := cell_of_row _ _ 0 _ _ _ (heap_alloc_new w _)
  obtain ⟨w0, hw0⟩ : ∃ x, w.alloc (.cells #[.pointer none, .string ⟨n.toArray⟩] 68) = x := ⟨_, rfl⟩
  rw [hw0] at hc HB
  have HR : Hid (Calls Tryz.prog 29 #[.pointer (some ⟨w.heap.size, 0, none⟩)] w0 (fun e w' => e = .returned (.int .i64 2) ∧ w' = w0)) := by
    refine Lib.hid ?_
    go_enter Tryz.func29, Tryz.ntmps29
    go_wp2_with fail
    go_ret
    exact ⟨rfl, rfl⟩
  go_enter Tryz.func9, Tryz.ntmps9
  go_wp2_with (go_at_call 29; refine HR.out.mono ?_; rintro e w' ⟨rfl, rfl⟩)
  go_ret2
  exact ⟨rfl, HB.out⟩

end Go.Proofs.YtkbmajgbhpecgaaGreatDoor.Cd

/-
  A record is posted: draft, Sync, Rename. Conditions: the power is on; the record has bytes, no more than 2^40.
-/
namespace Go.Proofs.YtkbmajgbhpecgaaGreatDoor.Cd
open Go.RowKit Go.Shelf
attribute [local go_sem] Oper.semAt_some

/-- The k-th page of bytes that were handed in. -/
theorem far_chunk {w : World} {T : Nat → Prop} {b off c : Nat} {bs : List UInt8} (h : Far w T (.slice (some ⟨b, off, none⟩) bs.length c) bs) {k : Nat} (hk : 512 * k < bs.length) : Far w T (pgV b off bs.length k) (chunk bs k) := by
  obtain ⟨⟨A, c', e, h2, h3, h4, h5, h6⟩, h7⟩ := h
  injection e with e1 _ e3
  subst e1 e3
  have hl : (chunk bs k).length = min 512 (bs.length - 512 * k) := by simp only [chunk, List.length_take, List.length_drop]
  refine ⟨⟨some ⟨b, off + 512 * k, none⟩, min 512 (bs.length - 512 * k), by rw [hl]; rfl, by rw [hl]; omega, by omega, (fun h => by cases h), fun ad e _ => ?_, fun ad e j u hu => ?_⟩, fun _ A n c2 e => ?_⟩
  · injection e with e
    subst e
    exact (h5 ⟨b, off, none⟩ rfl (by omega) : b < w.heap.size)
  · injection e with e
    subst e
    have hj := (List.getElem?_eq_some_iff.1 hu).1
    rw [vb_length, hl] at hj
    have h8 := h6 _ rfl (512 * k + j) u (by
      rw [← hu]
      simp only [vb, chunk, List.map_take, List.map_drop]
      rw [List.getElem?_take, if_pos (by omega), List.getElem?_drop])
    rw [Addr.add_lit] at h8 ⊢
    rw [Nat.add_assoc]
    exact h8
  · injection e with e _ _
    injection e with e
    rw [← e]
    exact (h7 (by omega) ⟨b, off, none⟩ _ _ rfl : ¬ T b)

/-- A result that lies in a box. -/
theorem ret_cell {fn : Func} {p : Tmp} (h : fn.results = #[.cell p 29]) (tmps : Array Value) (w : World) {r : Nat} {v : Value} (hp : tmps.getD p undef = .pointer (some ⟨r, 0, none⟩)) (hb : w.cell? ⟨r, 0, none⟩ = some v) :
    (results fn tmps).run Tryz.prog w = .ok v w := by
  have hp' : tmps[p]?.getD undef = .pointer (some ⟨r, 0, none⟩) := by simpa using hp
  simp [results, h, hp', asAddr, loadVar, go_sem, hb]

set_option maxRecDepth 100000 in
set_option maxHeartbeats 3200000 in
theorem post_p (p g N M b off c : Nat) (n bs : List UInt8) (S : Nat → Prop) (D : Dsk) (w : World) (h : PgrAt w S p g n) (hd : DkS w g N S D) (ho : D.off = false) (hn : n.length ≤ 140737488355000)
    (hb : Far w S (.slice (some ⟨b, off, none⟩) bs.length c) bs) (h0 : 0 < bs.length) (hbl : bs.length ≤ 1099511627776) (hc : bs.length ≤ c) (hc2 : c ≤ 9223372036854775807) (hN : N + 4 * (pagesOf bs.length + 3) ≤ M) (hM : M ≤ 137438953472) :
    Calls Tryz.prog 36 #[.pointer (some ⟨p, 0, none⟩), .slice (some ⟨b, off, none⟩) bs.length c] w (MakesD g M S (postD D n bs).1 (.int .i64 ((postD D n bs).2 : Nat)) w) := by
  have HP := Lib.hid h
  have HF := Lib.hid hb
  have hSlt := Lib.hid hd.lt
  -- the two boxes ahead of the first call
  obtain ⟨W0, hW0⟩ : ∃ x, (w.alloc (.cells #[.pointer (some ⟨p, 0, none⟩)] 28)).alloc (.cells #[.int .i64 0] 29) = x := ⟨_, rfl⟩
  have hi0 : InP w S g [w.heap.size + 1, w.heap.size] N D W0 := by
    rw [← hW0]
    have := ((inP_start hd).lay (.cells #[.pointer (some ⟨p, 0, none⟩)] 28)).lay (.cells #[.int .i64 0] 29)
    rwa [World.size_alloc] at this
  obtain ⟨T0, d1, d2, d3, d4, d5⟩ := hi0.pgr HP.out
  have HD := Lib.hid (discard_p p g N (N + 4) n T0 D W0 d2 d1 ho hn (Nat.le_refl _) (by omega))
  have HS0 := Lib.hid d5
  have hsz0 : W0.heap.size = w.heap.size + 2 := by rw [← hW0]; simp
  have b0 : BoxAt W0 w.heap.size (.pointer (some ⟨p, 0, none⟩)) 28 := by rw [← hW0]; exact (BoxAt.new w _ _).alloc _
  have b1 : BoxAt W0 (w.heap.size + 1) (.int .i64 0) 29 := by
    rw [← hW0]
    have := BoxAt.new (w.alloc (.cells #[.pointer (some ⟨p, 0, none⟩)] 28)) (.int .i64 0) 29
    rwa [World.size_alloc] at this
  have x0 := b0.cell
  have x1 := b1.cell
  have y1 := b1.frozen
  have B0 := Lib.hid b0
  have B1 := Lib.hid b1
  clear d1 d2 d3 d4 d5 hd hb h
  refine (callsIn_wide (n := 6)).1 ?_
  refine callsIn_of_wp_marks Tryz.func36 rfl trivial ?_ rfl
  simp only [Tryz.ntmps36, List.size_toArray, List.length_cons, List.length_nil, Nat.reduceAdd, Nat.reduceSub, Array.replicate_succ, Array.replicate_zero, List.push_toArray, List.append_toArray, List.nil_append, List.cons_append]
  have hfD : Fence.wide.fn 30 := trivial
  by_cases hz : (discardD D n).2 = 0
  · rw [hz] at HD
    gi_wp2_with (gi_at_call 30; refine (callsIn_wide.2 HD.out).mono ?_; rintro e W1 hm; obtain rfl := hm.1; obtain ⟨i1, k1, s1, _⟩ := HS0.out _ _ _ _ _ hm; have I1 := Lib.hid i1; have b0 := B0.out.on (k1 _ (by simp)); have b1 := B1.out.on (k1 _ (by simp)); have x0 := b0.cell; have x1 := b1.cell; have y1 := b1.frozen; have B0 := Lib.hid b0; have B1 := Lib.hid b1; clear hm i1 k1 b0 b1)
    refine ⟨trivial, (callsIn_wide.2 (chunk_any _ _ _ _)).mono ?_⟩
    rintro e W' ⟨rfl, rfl⟩
    obtain ⟨W3, hW3⟩ : ∃ x, ((W1.alloc (.cells #[.int .i64 0] 3)).alloc (.cells #[.slice (some ⟨b, off, none⟩) bs.length c] 49)).alloc (.cells #[.int .i64 512] 3) = x := ⟨_, rfl⟩
    rw [hW3, World.size_alloc]
    have i3 := ((I1.out.lay (.cells #[.int .i64 0] 3)).lay (.cells #[.slice (some ⟨b, off, none⟩) bs.length c] 49)).lay (.cells #[.int .i64 512] 3)
    simp only [World.size_alloc] at i3
    rw [hW3] at i3
    have hsz3 : W3.heap.size = W1.heap.size + 3 := by rw [← hW3]; simp
    have hsz1 : w.heap.size + 2 ≤ W1.heap.size := by omega
    have c0 : BoxAt W3 w.heap.size (.pointer (some ⟨p, 0, none⟩)) 28 := by rw [← hW3]; exact ((B0.out.alloc _).alloc _).alloc _
    have c1 : BoxAt W3 (w.heap.size + 1) (.int .i64 0) 29 := by rw [← hW3]; exact ((B1.out.alloc _).alloc _).alloc _
    have c2 : BoxAt W3 W1.heap.size (.int .i64 0) 3 := by rw [← hW3]; exact ((BoxAt.new W1 _ _).alloc _).alloc _
    have c3 : BoxAt W3 (W1.heap.size + 1) (.slice (some ⟨b, off, none⟩) bs.length c) 49 := by
      rw [← hW3]
      have := (BoxAt.new (W1.alloc (.cells #[.int .i64 0] 3)) (.slice (some ⟨b, off, none⟩) bs.length c) 49).alloc (.cells #[.int .i64 512] 3)
      rwa [World.size_alloc] at this
    have c4 : BoxAt W3 (W1.heap.size + 2) (.int .i64 512) 3 := by
      rw [← hW3]
      have := BoxAt.new ((W1.alloc (.cells #[.int .i64 0] 3)).alloc (.cells #[.slice (some ⟨b, off, none⟩) bs.length c] 49)) (.int .i64 512) 3
      rwa [World.size_alloc, World.size_alloc] at this
    have I3 := Lib.hid i3
    have C0 := Lib.hid c0
    have C1 := Lib.hid c1
    have C2 := Lib.hid c2
    have C3 := Lib.hid c3
    have C4 := Lib.hid c4
    have HSZ := Lib.hid hsz3
    clear i3 c0 c1 c2 c3 c4 hsz3 hW3 B0 B1 I1 x0 x1 y1 HS0 HD
    gi_wp2
    obtain ⟨D1, hD1⟩ : ∃ x, (discardD D n).1 = x := ⟨_, rfl⟩
    rw [hD1] at I3
    have hpo : postD D n bs = if (writes D1 (drf n) (chunks bs)).2 ≠ 0 then writes D1 (drf n) (chunks bs) else if (syncD (writes D1 (drf n) (chunks bs)).1 (drf n)).2 ≠ 0 then syncD (writes D1 (drf n) (chunks bs)).1 (drf n) else renameD (syncD (writes D1 (drf n) (chunks bs)).1 (drf n)).1 (drf n) (jnl n) := by
      unfold postD
      rw [if_neg (fun h => h hz), hD1]
    obtain ⟨K7, hK7⟩ : ∃ l, l = [W3.heap.size + 1, W3.heap.size, W1.heap.size + 2, W1.heap.size + 1, W1.heap.size, w.heap.size + 1, w.heap.size] := ⟨_, rfl⟩
    obtain ⟨I, hI⟩ : ∃ I : Nat → World → Prop, ∀ k W, I k W ↔ (InP w S g K7 (N + 4 + 4 * k) (writes D1 (drf n) ((chunks bs).take k)).1 W ∧ (writes D1 (drf n) ((chunks bs).take k)).2 = 0 ∧ BoxAt W w.heap.size (.pointer (some ⟨p, 0, none⟩)) 28 ∧ BoxAt W (w.heap.size + 1) (.int .i64 0) 29 ∧ BoxAt W W1.heap.size (.int .i64 k) 3 ∧ BoxAt W (W1.heap.size + 1) (.slice (some ⟨b, off, none⟩) bs.length c) 49 ∧ BoxAt W (W1.heap.size + 2) (.int .i64 512) 3) := ⟨_, fun _ _ => Iff.rfl⟩
    obtain ⟨Ix, hIx⟩ : ∃ Ix : Code → Nat → World → Prop, ∀ c k W, Ix c k W ↔ (c = .ret ∧ (postD D n bs).2 ≠ 0 ∧ InP w S g K7 M (postD D n bs).1 W ∧ BoxAt W (w.heap.size + 1) (.int .i64 ((postD D n bs).2 : Nat)) 29) := ⟨_, fun _ _ _ => Iff.rfl⟩
    have HI := Lib.hid hI
    have HIX := Lib.hid hIx
    clear hI hIx
    have hstay : ∀ {r : Nat} {v : Value} {T : TypeId} {A : World} (o : Obj), BoxAt A r v T → r ≠ W3.heap.size + 1 → BoxAt (A.putObj (W3.heap.size + 1) o) r v T := fun o h hr => h.on (World.putObj_heap_other hr)
    have hsz3 := HSZ.out
    refine wpIn_range rfl (by omega) (gf := 87) (lb := #[.pointer (some ⟨W1.heap.size + 1, 0, none⟩), .pointer (some ⟨W1.heap.size + 2, 0, none⟩)]) rfl trivial (enters_of Tryz.func87 (by kernel_rfl) rfl) (encs := fun k => #[pgV b off bs.length k]) (fun _ => rfl)
      (List.range (pagesOf bs.length)) (Boxes (W1.heap.size + 1) (W1.heap.size + 2) b off bs.length c) (chunk_hands _ _ _ _ _ _ _ hc hc2 (by omega)) I Ix ?hI ?hIx ?hBox ?h0 (fun k => { tmps := #[.pointer (some ⟨p, 0, none⟩), .slice (some ⟨b, off, none⟩) bs.length c, .pointer (some ⟨w.heap.size, 0, none⟩), undef, .pointer (some ⟨w.heap.size + 1, 0, none⟩), .int .i64 0, .pointer (some ⟨W1.heap.size, 0, none⟩), pgV b off bs.length k, undef, undef,
          .pointer (some ⟨p, 0, none⟩), .int .i64 0, .int .i64 0, .bool false, undef, .slice (some ⟨b, off, none⟩) bs.length c, .func (.func 87) #[] #[.pointer (some ⟨W1.heap.size + 1, 0, none⟩), .pointer (some ⟨W1.heap.size + 2, 0, none⟩)], pgV b off bs.length k,
          undef, undef, undef, undef, undef, undef, undef, undef, undef, undef, undef, undef, undef, undef, undef, undef, undef, undef, undef, undef, undef, undef, undef, undef, undef, undef, undef, undef, undef, undef, undef, undef, undef], defers := [] }) ?assign ?body ?done ?stop
    case hI =>
      intro k
      refine ⟨fun A B hA hb => ?_, fun A o hA => ?_⟩
      · obtain ⟨a1, a2, a3, a4, a5, a6, a7⟩ := (HI.out _ _).1 hA
        exact (HI.out _ _).2 ⟨a1.below hb, a2, a3.on (hb.block _ a3.lt), a4.on (hb.block _ a4.lt), a5.on (hb.block _ a5.lt), a6.on (hb.block _ a6.lt), a7.on (hb.block _ a7.lt)⟩
      · obtain ⟨a1, a2, a3, a4, a5, a6, a7⟩ := (HI.out _ _).1 hA
        exact (HI.out _ _).2 ⟨a1.put (by rw [hK7]; simp) (by omega) o, a2, hstay o a3 (by omega), hstay o a4 (by omega), hstay o a5 (by omega), hstay o a6 (by omega), hstay o a7 (by omega)⟩
    case hIx =>
      intro c' k
      refine ⟨fun A B hA hb => ?_, fun A o hA => ?_⟩
      · obtain ⟨a1, a2, a3, a4⟩ := (HIX.out _ _ _).1 hA
        exact (HIX.out _ _ _).2 ⟨a1, a2, a3.below hb, a4.on (hb.block _ a4.lt)⟩
      · obtain ⟨a1, a2, a3, a4⟩ := (HIX.out _ _ _).1 hA
        exact (HIX.out _ _ _).2 ⟨a1, a2, a3.put (by rw [hK7]; simp) (by omega) o, hstay o a4 (by omega)⟩
    case hBox =>
      intro k A hA
      obtain ⟨_, _, _, _, _, a6, a7⟩ := (HI.out _ _).1 hA
      exact ⟨a6.cell, a7.cell⟩
    case h0 =>
      intro o
      have i5 := (I3.out.lay (.deferred (some []))).lay o
      rw [World.size_alloc] at i5
      refine (HI.out _ _).2 ⟨i5.fewer (by rw [hK7]; simp), rfl, (C0.out.alloc _).alloc _, (C1.out.alloc _).alloc _, (C2.out.alloc _).alloc _, (C3.out.alloc _).alloc _, (C4.out.alloc _).alloc _⟩
    case assign =>
      intro l x W K hK
      gi_wp2
      exact hK
    case body =>
      intro k x W hx hIk hlt
      obtain ⟨hk1, hk2⟩ := List.getElem?_eq_some_iff.1 hx
      rw [List.length_range] at hk1
      rw [List.getElem_range] at hk2
      subst hk2
      obtain ⟨a1, a2, a3, a4, a5, a6, a7⟩ := (HI.out _ _).1 hIk
      have hkc : k < (chunks bs).length := by rw [chunks_len]; exact hk1
      have hstep := writes_take (drf n) (chunks bs) D1 hkc a2
      rw [show (chunks bs)[k] = ((k : Int), chunk bs k) by simp [chunks]] at hstep
      obtain ⟨Dk, hDk⟩ : ∃ x, (writes D1 (drf n) ((chunks bs).take k)).1 = x := ⟨_, rfl⟩
      rw [hDk] at a1 hstep
      obtain ⟨T, d1, d2, d3, d4, d5⟩ := a1.pgr HP.out
      have hlk : 512 * k < bs.length := by unfold pagesOf at hk1; omega
      have d6 := far_chunk (d3 _ _ HF.out) hlk
      obtain ⟨W4, hW4⟩ : ∃ x, W.drew = x := ⟨_, rfl⟩
      have hb4 : Below W.heap.size W W4 := by rw [← hW4]; exact (Below.refl _ _).drew
      have hz4 : W4.heap.size = W.heap.size := by rw [← hW4]; rfl
      have hdl : (drf n).length ≤ 140737488355328 := by simp [drf]; omega
      have CD := Lib.hid (draft_any p g n T W4 (d2.below hb4) hn)
      have CW := Lib.hid (write_dks g (N + 4 + 4 * k) T Dk (drf n) W4 (chunk bs k) k (pgV b off bs.length k) (d1.below hb4) (d6.below hb4).1 (d6.below hb4).2 hdl (by omega) (by unfold pagesOf at *; omega))
      have e0 := (a3.on (hb4.block _ a3.lt)).cell
      have e1 := (d2.below hb4).2.2.1
      have e2 := (a5.on (hb4.block _ a5.lt)).cell
      gi_wp2
      refine region_round (S := fun X => X.cell? ⟨w.heap.size, 0, none⟩ = some (.pointer (some ⟨p, 0, none⟩)) ∧ X.cell? ⟨p, 0, none⟩ = some (.pointer (some ⟨g, 0, none⟩)) ∧ X.cell? ⟨W1.heap.size, 0, none⟩ = some (.int .i64 k)) hW4 (by kernel_rfl) ?hlo (by kernel_rfl) ⟨e0, e1, e2⟩ (fun hHeld => ?_)
      case hlo => rintro ⟨a', w', h⟩; exact h
      refine take_at (i := 0) (.pointer (some ⟨p, 0, none⟩)) (some 18) (by decide) (by rfl) (by kernel_rfl) (by kernel_rfl) (by kernel_rfl) (fun _ _ _ h => h) (by rfl) (fun X hX => by obtain ⟨hX1, hX2, hX3⟩ := hX; go_simp) (by assumption) ?_
      simp only [Act.put, List.setIfInBounds_toArray, List.set_cons_zero, List.set_cons_succ]
      refine take_at (i := 1) (.pointer (some ⟨p, 0, none⟩)) (some 19) (by decide) (by rfl) (by kernel_rfl) (by kernel_rfl) (by kernel_rfl) (fun _ _ _ h => h) (by rfl) (fun X hX => by obtain ⟨hX1, hX2, hX3⟩ := hX; go_simp) (by assumption) ?_
      simp only [Act.put, List.setIfInBounds_toArray, List.set_cons_zero, List.set_cons_succ]
      refine take_at (i := 2) (.pointer (some ⟨p, 0, none⟩)) (some 20) (by decide) (by rfl) (by kernel_rfl) (by kernel_rfl) (by kernel_rfl) (fun _ _ _ h => h) (by rfl) (fun X hX => by obtain ⟨hX1, hX2, hX3⟩ := hX; go_simp) (by assumption) ?_
      simp only [Act.put, List.setIfInBounds_toArray, List.set_cons_zero, List.set_cons_succ]
      refine take_at (i := 3) (.pointer (some ⟨g, 0, none⟩)) (some 21) (by decide) (by rfl) (by kernel_rfl) (by kernel_rfl) (by kernel_rfl) (fun _ _ _ h => h) (by rfl) (fun X hX => by obtain ⟨hX1, hX2, hX3⟩ := hX; go_simp) (by assumption) ?_
      simp only [Act.put, List.setIfInBounds_toArray, List.set_cons_zero, List.set_cons_succ]
      refine take_at (i := 4) (.pointer (some ⟨p, 0, none⟩)) (some 22) (by decide) (by rfl) (by kernel_rfl) (by kernel_rfl) (by kernel_rfl) (fun _ _ _ h => h) (by rfl) (fun X hX => by obtain ⟨hX1, hX2, hX3⟩ := hX; go_simp) (by assumption) ?_
      simp only [Act.put, List.setIfInBounds_toArray, List.set_cons_zero, List.set_cons_succ]
      refine take_at (i := 6) (.int .i64 k) (some 24) (by decide) (by rfl) (by kernel_rfl) (by kernel_rfl) (by kernel_rfl) (fun _ _ _ h => h) (by rfl) (fun X hX => by obtain ⟨hX1, hX2, hX3⟩ := hX; go_simp) (by assumption) ?_
      simp only [Act.put, List.setIfInBounds_toArray, List.set_cons_zero, List.set_cons_succ]
      refine take_at (i := 7) (pgV b off bs.length k) (some 25) (by decide) (by rfl) (by kernel_rfl) (by kernel_rfl) (by kernel_rfl) (fun _ _ _ h => h) (by rfl) (fun X hX => by obtain ⟨hX1, hX2, hX3⟩ := hX; go_simp) (by assumption) ?_
      simp only [Act.put, List.setIfInBounds_toArray, List.set_cons_zero, List.set_cons_succ]
      refine wpAnyH_ready (rs := [5]) (by kernel_rfl) (by simp) ?_
      refine AllReadyH.cons rfl (fun K' hK' => ?_) AllReadyH.nil
      go_simp
      refine CD.out.mono ?_
      rintro e5 W5 ⟨rfl, rfl⟩
      refine hK'.out _ _ hHeld (fun _ => ?_)
      clear hK' K' CD
      refine wpAnyH_ready (rs := [8]) (by kernel_rfl) (by simp) ?_
      refine AllReadyH.cons rfl (fun K' hK' => ?_) AllReadyH.nil
      go_simp
      refine CW.out.mono ?_
      rintro e6 W6 hm
      obtain rfl := hm.1
      rw [← hW4] at hm
      obtain ⟨i6, k6, s6, ap6⟩ := d5 _ _ _ _ _ hm.undrew
      have f0 := a3.on (k6 _ (by rw [hK7]; simp))
      have f1 := a4.on (k6 _ (by rw [hK7]; simp))
      have f2 := a5.on (k6 _ (by rw [hK7]; simp))
      have f3 := a6.on (k6 _ (by rw [hK7]; simp))
      have f4 := a7.on (k6 _ (by rw [hK7]; simp))
      have htwo : Two W3.heap.size W W6 := ⟨k6 _ (by rw [hK7]; simp), k6 _ (by rw [hK7]; simp)⟩
      have f5 : W6.cell? ⟨p, 0, none⟩ = some (.pointer (some ⟨g, 0, none⟩)) := (ap6.cell (p := ⟨p, 0, none⟩) d2.2.1 d2.1).trans d2.2.2.1
      have hH6 := And.intro f0.cell (And.intro f5 f2.cell)
      have HTW := Lib.hid htwo
      have F0 := Lib.hid f0
      have F1 := Lib.hid f1
      have F2 := Lib.hid f2
      have F3 := Lib.hid f3
      have F4 := Lib.hid f4
      have I6 := Lib.hid i6
      refine hK'.out _ _ hH6 (fun _ => ?_)
      clear hK' K' hm i6 k6 ap6 f3 f4 htwo e0 e1 e2 d1 d2 d3 d4 d5 d6 a1 a3 a4 a5 a6 a7 CW hIk hHeld
      refine wpAnyH_ready (rs := [9]) (by kernel_rfl) (by simp) ?_
      refine AllReadyH.cons rfl (fun K' hK' => ?_) AllReadyH.nil
      go_simp
      refine hK'.out _ _ hH6 (fun _ => ?_)
      clear hK' K'
      refine ⟨by kernel_rfl, ?_⟩
      have x0 := f0.cell
      have x1 := f1.cell
      have y1 := f1.frozen
      have x2 := f2.cell
      have y2 := f2.frozen
      clear f0 f1 f2 f5 hH6 hb4 hz4 hW4
      obtain ⟨R, hR⟩ : ∃ R, writeD Dk (drf n) k (chunk bs k) = R := ⟨_, rfl⟩
      rw [hR] at hstep I6 ⊢
      obtain ⟨DR, ec⟩ := R
      have HST := Lib.hid hstep
      have HR := Lib.hid hR
      clear hR hstep
      by_cases hz2 : ec = 0
      · subst hz2
        gi_wp2
        have hne : ∀ r, r ≠ W1.heap.size → (W6.setCell ⟨W1.heap.size, 0, none⟩ (.int .i64 ((k : Int) + 1))).heap[r]? = W6.heap[r]? := fun r hr => heap_setCell_other _ _ _ _ hr
        have htw := HTW.out
        rw [hsz3] at htw
        refine ⟨⟨(hne _ (by omega)).trans htw.1, (hne _ (by omega)).trans htw.2⟩, (HI.out _ _).2 ⟨?_, by rw [HST.out], F0.out.on (hne _ (by omega)), F1.out.on (hne _ (by omega)), ?_, F3.out.on (hne _ (by omega)), F4.out.on (hne _ (by omega))⟩⟩
        · rw [HST.out]
          exact (I6.out.set (by rw [hK7]; simp) (by omega) _).grow (by omega) (by unfold pagesOf at *; omega)
        · show BoxAt _ _ (.int .i64 ((k + 1 : Nat) : Int)) _
          rw [show ((k + 1 : Nat) : Int) = (k : Int) + 1 by omega]
          exact F2.out.set _
      · have hz3 : (ec : Int) ≠ 0 := by omega
        have hpd : postD D n bs = (DR, ec) := by
          rw [hpo, writes_stop (drf n) (chunks bs) D1 (k := k + 1) (by rw [HST.out]; exact hz2), HST.out]
          exact if_pos hz2
        have HPD := Lib.hid hpd
        clear hpd hpo
        gi_wp2
        have hne : ∀ r, r ≠ w.heap.size + 1 → (W6.setCell ⟨w.heap.size + 1, 0, none⟩ (.int .i64 ec)).heap[r]? = W6.heap[r]? := fun r hr => heap_setCell_other _ _ _ _ hr
        have htw := HTW.out
        rw [hsz3] at htw
        refine ⟨⟨(hne _ (by omega)).trans htw.1, (hne _ (by omega)).trans htw.2⟩, (HIX.out _ _ _).2 ⟨rfl, by rw [HPD.out]; exact hz2, ?_, ?_⟩⟩
        · rw [HPD.out]
          exact (I6.out.set (by rw [hK7]; simp) (by omega) _).grow (by unfold pagesOf at *; omega) hM
        · rw [HPD.out]
          exact F1.out.set _
    case done =>
      intro W hIk hK
      obtain ⟨a1, a2, a3, a4, a5, a6, a7⟩ := (HI.out _ _).1 hIk
      rw [List.length_range, List.take_of_length_le (by rw [chunks_len]; exact Nat.le_refl _)] at a1 a2
      rw [if_neg (fun h => h a2)] at hpo
      obtain ⟨D2, hD2⟩ : ∃ x, (writes D1 (drf n) (chunks bs)).1 = x := ⟨_, rfl⟩
      rw [hD2] at a1 hpo
      obtain ⟨T, d1, d2, d3, d4, d5⟩ := a1.pgr HP.out
      have hdl : (drf n).length ≤ 140737488355328 := by simp [drf]; omega
      have hjl : (jnl n).length ≤ 140737488355328 := by simp [jnl]; omega
      obtain ⟨W4, hW4⟩ : ∃ x, W.drew = x := ⟨_, rfl⟩
      have hb4 : Below W.heap.size W W4 := by rw [← hW4]; exact (Below.refl _ _).drew
      have CD := Lib.hid (draft_any p g n T W4 (d2.below hb4) hn)
      have CS := Lib.hid (sync_dks g (N + 4 + 4 * pagesOf bs.length) T D2 (drf n) W4 (d1.below hb4) hdl (by omega))
      have e0 := (a3.on (hb4.block _ a3.lt)).cell
      have e1 := (d2.below hb4).2.2.1
      have HDEF := Lib.hid hK
      have HPO := Lib.hid hpo
      clear hK hpo
      gi_wp2
      refine wpIn_wide.2 (wp_region_noPanic (region_begin (S := fun X => X.cell? ⟨w.heap.size, 0, none⟩ = some (.pointer (some ⟨p, 0, none⟩)) ∧ X.cell? ⟨p, 0, none⟩ = some (.pointer (some ⟨g, 0, none⟩))) hW4 (by kernel_rfl) ⟨e0, e1⟩ (fun hHeld => ?_)))
      refine take_at (i := 0) (.pointer (some ⟨p, 0, none⟩)) (some 32) (by decide) (by rfl) (by kernel_rfl) (by kernel_rfl) (by kernel_rfl) (fun _ _ _ h => h) (by rfl) (fun X hX => by obtain ⟨hX1, hX2⟩ := hX; go_simp) (by assumption) ?_
      simp only [Act.put, List.setIfInBounds_toArray, List.set_cons_zero, List.set_cons_succ]
      refine take_at (i := 1) (.pointer (some ⟨p, 0, none⟩)) (some 33) (by decide) (by rfl) (by kernel_rfl) (by kernel_rfl) (by kernel_rfl) (fun _ _ _ h => h) (by rfl) (fun X hX => by obtain ⟨hX1, hX2⟩ := hX; go_simp) (by assumption) ?_
      simp only [Act.put, List.setIfInBounds_toArray, List.set_cons_zero, List.set_cons_succ]
      refine take_at (i := 2) (.pointer (some ⟨p, 0, none⟩)) (some 34) (by decide) (by rfl) (by kernel_rfl) (by kernel_rfl) (by kernel_rfl) (fun _ _ _ h => h) (by rfl) (fun X hX => by obtain ⟨hX1, hX2⟩ := hX; go_simp) (by assumption) ?_
      simp only [Act.put, List.setIfInBounds_toArray, List.set_cons_zero, List.set_cons_succ]
      refine take_at (i := 3) (.pointer (some ⟨g, 0, none⟩)) (some 35) (by decide) (by rfl) (by kernel_rfl) (by kernel_rfl) (by kernel_rfl) (fun _ _ _ h => h) (by rfl) (fun X hX => by obtain ⟨hX1, hX2⟩ := hX; go_simp) (by assumption) ?_
      simp only [Act.put, List.setIfInBounds_toArray, List.set_cons_zero, List.set_cons_succ]
      refine take_at (i := 4) (.pointer (some ⟨p, 0, none⟩)) (some 36) (by decide) (by rfl) (by kernel_rfl) (by kernel_rfl) (by kernel_rfl) (fun _ _ _ h => h) (by rfl) (fun X hX => by obtain ⟨hX1, hX2⟩ := hX; go_simp) (by assumption) ?_
      simp only [Act.put, List.setIfInBounds_toArray, List.set_cons_zero, List.set_cons_succ]
      refine wpAnyH_ready (rs := [5]) (by kernel_rfl) (by simp) ?_
      refine AllReadyH.cons rfl (fun K' hK' => ?_) AllReadyH.nil
      go_simp
      refine CD.out.mono ?_
      rintro e5 W5 ⟨rfl, rfl⟩
      refine hK'.out _ _ hHeld (fun _ => ?_)
      clear hK' K' CD
      refine wpAnyH_ready (rs := [6]) (by kernel_rfl) (by simp) ?_
      refine AllReadyH.cons rfl (fun K' hK' => ?_) AllReadyH.nil
      go_simp
      refine CS.out.mono ?_
      rintro e6 W6 hm
      obtain rfl := hm.1
      rw [← hW4] at hm
      obtain ⟨i6, k6, s6, ap6⟩ := d5 _ _ _ _ _ hm.undrew
      have f0 := a3.on (k6 _ (by rw [hK7]; simp))
      have f1 := a4.on (k6 _ (by rw [hK7]; simp))
      have f5 : W6.cell? ⟨p, 0, none⟩ = some (.pointer (some ⟨g, 0, none⟩)) := (ap6.cell (p := ⟨p, 0, none⟩) d2.2.1 d2.1).trans d2.2.2.1
      have hH6 := And.intro f0.cell f5
      have F0 := Lib.hid f0
      have F1 := Lib.hid f1
      have I6 := Lib.hid i6
      have HDE6 := Lib.hid ((k6 W3.heap.size (by rw [hK7]; simp)).trans HDEF.out)
      refine hK'.out _ _ hH6 (fun _ => ?_)
      clear hK' K' hm i6 k6 ap6 e0 e1 d1 d2 d3 d4 d5 a1 a3 a4 a5 a6 a7 CS hIk hHeld HDEF
      refine wpAnyH_ready (rs := [7]) (by kernel_rfl) (by simp) ?_
      refine AllReadyH.cons rfl (fun K' hK' => ?_) AllReadyH.nil
      go_simp
      refine hK'.out _ _ hH6 (fun _ => ?_)
      clear hK' K'
      refine ⟨by kernel_rfl, NoPanic.normal ?_⟩
      have x0 := f0.cell
      have x1 := f1.cell
      have y1 := f1.frozen
      clear f0 f1 f5 hH6 hb4 hW4
      obtain ⟨R, hR⟩ : ∃ R, syncD D2 (drf n) = R := ⟨_, rfl⟩
      rw [hR] at HPO I6 ⊢
      obtain ⟨DR, ec⟩ := R
      have HR := Lib.hid hR
      clear hR
      by_cases hz2 : ec = 0
      · subst hz2
        have hpo2 : postD D n bs = renameD DR (drf n) (jnl n) := by rw [HPO.out]; exact if_neg (fun h => h rfl)
        have HPO2 := Lib.hid hpo2
        clear hpo2
        obtain ⟨T7, d1, d2, d3, d4, d5⟩ := I6.out.pgr HP.out
        obtain ⟨W7, hW7⟩ : ∃ x, W6.drew = x := ⟨_, rfl⟩
        have hb7 : Below W6.heap.size W6 W7 := by rw [← hW7]; exact (Below.refl _ _).drew
        have CD := Lib.hid (draft_any p g n T7 W7 (d2.below hb7) hn)
        have CJ := Lib.hid (journal_any p g n T7 W7 (d2.below hb7) hn)
        have CR := Lib.hid (rename_dks g (N + 4 + 4 * pagesOf bs.length + 4) T7 DR (drf n) (jnl n) W7 (d1.below hb7) hdl hjl (by omega))
        have e0 := (F0.out.on (hb7.block _ F0.out.lt)).cell
        have e1 := (d2.below hb7).2.2.1
        gi_wp2
        refine wpIn_wide.2 (wp_region_noPanic (region_begin (S := fun X => X.cell? ⟨w.heap.size, 0, none⟩ = some (.pointer (some ⟨p, 0, none⟩)) ∧ X.cell? ⟨p, 0, none⟩ = some (.pointer (some ⟨g, 0, none⟩))) hW7 (by kernel_rfl) ⟨e0, e1⟩ (fun hHeld => ?_)))
        refine take_at (i := 0) (.pointer (some ⟨p, 0, none⟩)) (some 42) (by decide) (by rfl) (by kernel_rfl) (by kernel_rfl) (by kernel_rfl) (fun _ _ _ h => h) (by rfl) (fun X hX => by obtain ⟨hX1, hX2⟩ := hX; go_simp) (by assumption) ?_
        simp only [Act.put, List.setIfInBounds_toArray, List.set_cons_zero, List.set_cons_succ]
        refine take_at (i := 1) (.pointer (some ⟨p, 0, none⟩)) (some 43) (by decide) (by rfl) (by kernel_rfl) (by kernel_rfl) (by kernel_rfl) (fun _ _ _ h => h) (by rfl) (fun X hX => by obtain ⟨hX1, hX2⟩ := hX; go_simp) (by assumption) ?_
        simp only [Act.put, List.setIfInBounds_toArray, List.set_cons_zero, List.set_cons_succ]
        refine take_at (i := 2) (.pointer (some ⟨p, 0, none⟩)) (some 44) (by decide) (by rfl) (by kernel_rfl) (by kernel_rfl) (by kernel_rfl) (fun _ _ _ h => h) (by rfl) (fun X hX => by obtain ⟨hX1, hX2⟩ := hX; go_simp) (by assumption) ?_
        simp only [Act.put, List.setIfInBounds_toArray, List.set_cons_zero, List.set_cons_succ]
        refine take_at (i := 3) (.pointer (some ⟨g, 0, none⟩)) (some 45) (by decide) (by rfl) (by kernel_rfl) (by kernel_rfl) (by kernel_rfl) (fun _ _ _ h => h) (by rfl) (fun X hX => by obtain ⟨hX1, hX2⟩ := hX; go_simp) (by assumption) ?_
        simp only [Act.put, List.setIfInBounds_toArray, List.set_cons_zero, List.set_cons_succ]
        refine take_at (i := 4) (.pointer (some ⟨p, 0, none⟩)) (some 46) (by decide) (by rfl) (by kernel_rfl) (by kernel_rfl) (by kernel_rfl) (fun _ _ _ h => h) (by rfl) (fun X hX => by obtain ⟨hX1, hX2⟩ := hX; go_simp) (by assumption) ?_
        simp only [Act.put, List.setIfInBounds_toArray, List.set_cons_zero, List.set_cons_succ]
        refine take_at (i := 6) (.pointer (some ⟨p, 0, none⟩)) (some 48) (by decide) (by rfl) (by kernel_rfl) (by kernel_rfl) (by kernel_rfl) (fun _ _ _ h => h) (by rfl) (fun X hX => by obtain ⟨hX1, hX2⟩ := hX; go_simp) (by assumption) ?_
        simp only [Act.put, List.setIfInBounds_toArray, List.set_cons_zero, List.set_cons_succ]
        refine wpAnyH_ready (rs := [5]) (by kernel_rfl) (by simp) ?_
        refine AllReadyH.cons rfl (fun K' hK' => ?_) AllReadyH.nil
        go_simp
        refine CD.out.mono ?_
        rintro e5 W5 ⟨rfl, rfl⟩
        refine hK'.out _ _ hHeld (fun _ => ?_)
        clear hK' K' CD
        refine wpAnyH_ready (rs := [7]) (by kernel_rfl) (by simp) ?_
        refine AllReadyH.cons rfl (fun K' hK' => ?_) AllReadyH.nil
        go_simp
        refine CJ.out.mono ?_
        rintro e5 W5 ⟨rfl, rfl⟩
        refine hK'.out _ _ hHeld (fun _ => ?_)
        clear hK' K' CJ
        refine wpAnyH_ready (rs := [8]) (by kernel_rfl) (by simp) ?_
        refine AllReadyH.cons rfl (fun K' hK' => ?_) AllReadyH.nil
        go_simp
        refine CR.out.mono ?_
        rintro e6 W8 hm
        obtain rfl := hm.1
        rw [← hW7] at hm
        obtain ⟨i8, k8, s8, ap8⟩ := d5 _ _ _ _ _ hm.undrew
        have f0 := F0.out.on (k8 _ (by rw [hK7]; simp))
        have f1 := F1.out.on (k8 _ (by rw [hK7]; simp))
        have f5 : W8.cell? ⟨p, 0, none⟩ = some (.pointer (some ⟨g, 0, none⟩)) := (ap8.cell (p := ⟨p, 0, none⟩) d2.2.1 d2.1).trans d2.2.2.1
        have hH8 := And.intro f0.cell f5
        have F10 := Lib.hid f0
        have F11 := Lib.hid f1
        have I8 := Lib.hid i8
        have HDE8 := Lib.hid ((k8 W3.heap.size (by rw [hK7]; simp)).trans HDE6.out)
        have x1 := f1.cell
        have y1 := f1.frozen
        have hpw : w.heap.size + 1 ≠ p := by have := HP.out.2.1; omega
        have hH9 : (W8.setCell ⟨w.heap.size + 1, 0, none⟩ (.int .i64 ((renameD DR (drf n) (jnl n)).2 : Nat))).cell? ⟨w.heap.size, 0, none⟩ = some (.pointer (some ⟨p, 0, none⟩)) ∧ (W8.setCell ⟨w.heap.size + 1, 0, none⟩ (.int .i64 ((renameD DR (drf n) (jnl n)).2 : Nat))).cell? ⟨p, 0, none⟩ = some (.pointer (some ⟨g, 0, none⟩)) :=
          ⟨(World.cell?_of_block (a := ⟨w.heap.size, 0, none⟩) (heap_setCell_other _ _ _ _ (by show w.heap.size ≠ w.heap.size + 1; omega))).trans f0.cell, (World.cell?_of_block (a := ⟨p, 0, none⟩) (heap_setCell_other _ _ _ _ (by show p ≠ w.heap.size + 1; omega))).trans f5⟩
        refine hK'.out _ _ hH8 (fun _ => ?_)
        clear hK' K' hm i8 k8 ap8 e0 e1 d1 d2 d3 d4 d5 CR hHeld F0 F1 HDE6 hH8 f0 f1 f5
        refine wpAnyH_ready (rs := [9]) (by kernel_rfl) (by simp) ?_
        refine AllReadyH.cons rfl (fun K' hK' => ?_) AllReadyH.nil
        go_simp
        refine hK'.out _ _ hH9 (fun _ => ?_)
        clear hK' K' hH9
        refine ⟨by kernel_rfl, NoPanic.normal ?_⟩
        gi_wp2
        have hne : ∀ r u, r ≠ w.heap.size + 1 → (W8.setCell ⟨w.heap.size + 1, 0, none⟩ u).heap[r]? = W8.heap[r]? := fun r u hr => heap_setCell_other _ _ _ _ hr
        refine ⟨by simp, .inl ⟨W3.heap.size, _, (by rw [hsz3]), run_takeDeferred ((hne _ _ (by omega)).trans HDE8.out), ⟨_, ret_cell rfl _ _ (r := w.heap.size + 1) (by rfl) ((F11.out.set _).on (World.putObj_heap_other (by omega))).cell, ?_⟩⟩⟩
        rw [HPO2.out]
        exact (((I8.out.set (r := w.heap.size + 1) (by rw [hK7]; simp) (by omega) _).put (r := W3.heap.size) (by rw [hK7]; simp) (by omega) _).grow (by omega) hM).makes hSlt.out _
      · have hz3 : (ec : Int) ≠ 0 := by omega
        have hpd : postD D n bs = (DR, ec) := by rw [HPO.out]; exact if_pos hz2
        rw [hpd]
        gi_wp2
        have hne : ∀ r u, r ≠ w.heap.size + 1 → (W6.setCell ⟨w.heap.size + 1, 0, none⟩ u).heap[r]? = W6.heap[r]? := fun r u hr => heap_setCell_other _ _ _ _ hr
        refine ⟨by simp, .inl ⟨W3.heap.size, _, (by rw [hsz3]), run_takeDeferred ((hne _ _ (by omega)).trans HDE6.out), ⟨_, ret_cell rfl _ _ (r := w.heap.size + 1) (by rfl) ((F1.out.set _).on (World.putObj_heap_other (by omega))).cell, ?_⟩⟩⟩
        exact (((I6.out.set (r := w.heap.size + 1) (by rw [hK7]; simp) (by omega) _).put (r := W3.heap.size) (by rw [hK7]; simp) (by omega) _).grow (by omega) hM).makes hSlt.out _
    case stop =>
      intro c' k W hk hx hK
      obtain ⟨rfl, a2, a3, a4⟩ := (HIX.out _ _ _).1 hx
      gi_wp2
      refine ⟨by simp, .inl ⟨W3.heap.size, _, (by rw [hsz3]), run_takeDeferred hK, ⟨_, ret_cell rfl _ _ (r := w.heap.size + 1) (by rfl) (a4.on (World.putObj_heap_other (by omega))).cell, ?_⟩⟩⟩
      exact (a3.put (r := W3.heap.size) (by rw [hK7]; simp) (by omega) _).makes hSlt.out _
  · have he : postD D n bs = discardD D n := by unfold postD; rw [if_pos hz]
    rw [he]
    obtain ⟨ec, hec⟩ : ∃ ec, (discardD D n).2 = ec := ⟨_, rfl⟩
    rw [hec] at HD hz ⊢
    have hz' : (ec : Int) ≠ 0 := by omega
    gi_wp2_with (gi_at_call 30; refine (callsIn_wide.2 HD.out).mono ?_; rintro e W1 hm; obtain rfl := hm.1; obtain ⟨i1, k1, s1, _⟩ := HS0.out _ _ _ _ _ hm; have I1 := Lib.hid i1; have b0 := B0.out.on (k1 _ (by simp)); have b1 := B1.out.on (k1 _ (by simp)); have x0 := b0.cell; have x1 := b1.cell; have y1 := b1.frozen; have B0 := Lib.hid b0; have B1 := Lib.hid b1; clear hm i1 k1 b0 b1)
    refine ⟨_, ret_cell rfl _ _ (r := w.heap.size + 1) (by rfl) (B1.out.set _).cell, ?_⟩
    exact ((I1.out.set (r := w.heap.size + 1) (by simp) (by omega) _).grow (by omega) hM).makes hSlt.out _

end Go.Proofs.YtkbmajgbhpecgaaGreatDoor.Cd

/-
  The journal's pages are written, the file is synced, the journal removed. Conditions: the power is on.
-/
namespace Go.Proofs.YtkbmajgbhpecgaaGreatDoor.Cd
open Go.RowKit

theorem PgMap.look_blk {w : World} {S : Nat → Prop} {b : Nat} {ws : Pgs} (h : PgMap w S b ws) {k : Nat} (hk : k < ws.length) :
    ∃ A n c, (∀ W : World, W.heap[b]? = w.heap[b]? → (Instr.lookup 37 (.map (some b)) (.int .i64 ws[k].1) false).run Tryz.prog W = .ok (.slice A n c) W) ∧ Far w S (.slice A n c) ws[k].2 := by
  obtain ⟨_, h2, q, h3, _, h5⟩ := h
  obtain ⟨s, hs, hf⟩ := h5 ws[k] (List.getElem_mem hk)
  exact ⟨_, _, _, fun W hb => byt_look (h3.heap hb) (h2.wf _ (List.getElem_mem hk)) (by rw [hs]; rfl), hf⟩

/-- A slice's block. -/
def blk (A : Option Addr) : List Nat := match A with
  | none => []
  | some r => [r.block]

set_option maxRecDepth 100000 in
set_option maxHeartbeats 3200000 in
theorem settle_p (p g N M b : Nat) (n : List UInt8) (ws : Pgs) (S : Nat → Prop) (D : Dsk) (w : World) (h : PgrAt w S p g n) (hd : DkS w g N S D) (ho : D.off = false) (hn : n.length ≤ 140737488355000) (hm : PgMap w S b ws)
    (hl : ws.length ≤ 1048576) (hN : N + 4 * (ws.length + 2) ≤ M) (hM : M ≤ 137438953472) :
    Calls Tryz.prog 37 #[.pointer (some ⟨p, 0, none⟩), .map (some b)] w (MakesD g M S (settleD D n ws).1 (.int .i64 ((settleD D n ws).2 : Nat)) w) := by
  have HP := Lib.hid h
  have HM := Lib.hid hm
  have HD := Lib.hid hd
  have hSlt := Lib.hid hd.lt
  have hjl : (jnl n).length ≤ 140737488355328 := by simp [jnl]; omega
  have hl' : (ws.length : Int) ≤ 1048576 := by omega
  have HR := Lib.hid (rising_any b ws S w hm hl)
  clear h hd hm
  go_enter Tryz.func37, Tryz.ntmps37
  go_wp2_with (go_at_call 57; refine HR.out.mono ?_; rintro e w2 ⟨v, rfl, hf, hnew, hb2⟩; have HB2 := Lib.hid hb2; have HNW := Lib.hid hnew; have HF := Lib.hid hf; obtain ⟨A, cc, rfl, hc1, hc2⟩ := hf.len; clear hf hnew hb2 HR)
  rw [List.length_map] at hc1
  have hi2 : InP w S g (blk A) N D w2 := ⟨S, HD.out.below HB2.out, fun _ => .inl, fun r hr => by
    cases A with
    | none => cases hr
    | some ad =>
      have hr : r ∈ [ad.block] := hr
      rw [List.mem_singleton] at hr
      have := HNW.out ad _ _ rfl
      subst hr
      exact ⟨fun e => by have := hSlt.out _ e; omega, this.2⟩, Apart.below HB2.out⟩
  have HI2 := Lib.hid hi2
  clear hi2
  go_loopw [12] (fun v wr => ∃ k : Nat, v = .int .i64 k ∧ k ≤ ws.length ∧ Hid ((writes D n (ws.take k)).2 = 0) ∧ Hid (InP w S g (blk A) (N + 4 * k) (writes D n (ws.take k)).1 wr) ∧ Hid (∀ r ∈ blk A, wr.heap[r]? = w2.heap[r]?)) (fun v _ => ws.length - (intOf v).toNat)
  case atStart => exact ⟨0, rfl, by omega, rfl, HI2, fun _ _ => rfl⟩
  case round =>
    obtain ⟨k, rfl, hk, hok, hin, hkp⟩ := hrel
    obtain ⟨Dk, hDk⟩ : ∃ x, (writes D n (ws.take k)).1 = x := ⟨_, rfl⟩
    rw [hDk] at hin
    by_cases hlt : k < ws.length
    · have hlt' : (k : Int) < ws.length := by omega
      obtain ⟨fb, off, hA, hfb, hcell⟩ := HF.out.at (k := k) (by rw [List.length_map]; exact hlt)
      rw [List.getElem_map] at hcell
      have hcell := (World.cell?_of_block (a := ⟨fb, off + k, none⟩) (hkp.out fb (by rw [hA]; simp [blk]))).trans hcell
      have hstep := writes_take n ws D hlt hok.out
      rw [hDk] at hstep
      obtain ⟨T, d1, d2, d3, d4, d5⟩ := hin.out.pgr HP.out
      have hmT := d4 b ws HM.out
      obtain ⟨pA, pn, pc, hlook, hfar⟩ := hmT.look_blk hlt
      have hwf := hmT.rising.wf ws[k] (List.getElem_mem hlt)
      obtain ⟨⟨i, bs⟩, hi⟩ : ∃ i, ws[k] = i := ⟨_, rfl⟩
      rw [hi] at hcell hwf hlook hfar hstep
      have hcell : wr.cell? ⟨fb, off + k, none⟩ = some (.int .i64 i) := hcell
      have hlook : ∀ W : World, W.heap[b]? = wr.heap[b]? → (Instr.lookup 37 (.map (some b)) (.int .i64 i) false).run Tryz.prog W = .ok (.slice pA pn pc) W := hlook
      have hstep : writes D n (ws.take (k + 1)) = writeD Dk n i bs := hstep
      have hbd := bounds_i64 hwf
      have hfar : Far wr T (.slice pA pn pc) bs := hfar
      subst hA
      have hb4 : Below wr.heap.size wr wr.drew := (Below.refl _ _).drew
      have CW := Lib.hid (write_dks g (N + 4 * k) T Dk n wr.drew bs i (.slice pA pn pc) (d1.below hb4) (hfar.below hb4).1 (hfar.below hb4).2 (by omega) hbd.2 (by omega))
      have c0 := d2.2.2.1
      have c1 := d2.2.2.2
      have hL0 := hlook wr.drew rfl
      have HLK := Lib.hid hlook
      have HD5 := Lib.hid d5
      have HD2 := Lib.hid d2
      have hbT := Lib.hid hmT.1
      have hblt := hmT.lt
      have HST := Lib.hid hstep
      clear hlook d5 d2 d3 d4 hmT hfar hi hwf hstep hDk d1
      go_wp2_with fail
      go_region_held3 (fun W => W.cell? ⟨p, 0, none⟩ = some (.pointer (some ⟨g, 0, none⟩)) ∧ W.cell? ⟨p, 1, none⟩ = some (.string ⟨n.toArray⟩) ∧ (Instr.lookup 37 (.map (some b)) (.int .i64 i) false).run Tryz.prog W = .ok (.slice pA pn pc) W) (first | exact ⟨c0, c1, hL0⟩ | assumption) (first
        | (go_at_call 26; refine CW.out.mono ?_; rintro e w5 hm5; obtain rfl := hm5.1; have hS5 : w5.cell? ⟨p, 0, none⟩ = some (.pointer (some ⟨g, 0, none⟩)) ∧ w5.cell? ⟨p, 1, none⟩ = some (.string ⟨n.toArray⟩) ∧ (Instr.lookup 37 (.map (some b)) (.int .i64 i) false).run Tryz.prog w5 = .ok (.slice pA pn pc) w5 := ⟨(hm5.2.2.cell (p := ⟨p, 0, none⟩) HD2.out.2.1 HD2.out.1).trans c0, (hm5.2.2.cell (p := ⟨p, 1, none⟩) HD2.out.2.1 HD2.out.1).trans c1, HLK.out w5 (hm5.2.2.block b hblt hbT.out)⟩; have HM5 := Lib.hid hm5.undrew; clear hm5))
      all_goals
        obtain ⟨i6, k6, s6, _⟩ := HD5.out _ _ _ _ _ HM5.out
        have HI6 := Lib.hid i6
        have HK6 := Lib.hid (fun r hr => (k6 r hr).trans (hkp.out r hr))
        clear i6 k6 HM5 hS5 c0 c1 hL0 HLK
        obtain ⟨R, hR⟩ : ∃ R, writeD Dk n i bs = R := ⟨_, rfl⟩
        rw [hR] at HST HI6 ⊢
        obtain ⟨DR, ec⟩ := R
        clear hR CW
        dsimp only at HST HI6 ⊢
        by_cases hz2 : ec = 0
        · subst hz2
          go_wp2_with fail
          go_roundw
          case rel => exact ⟨k + 1, by go_num, by omega, by unfold Hid; rw [HST.out], by unfold Hid; rw [HST.out]; exact HI6.out.grow (by omega) (by omega), HK6⟩
          case measure => simp [intOf]; omega
        · have hz3 : (ec : Int) ≠ 0 := by omega
          have hpd : settleD D n ws = (DR, ec) := by
            have := writes_stop n ws D (k := k + 1) (by rw [HST.out]; exact hz2)
            unfold settleD
            rw [this, HST.out]
            exact if_pos hz2
          go_wp2_with fail
          go_ret
          rw [hpd]
          exact (HI6.out.grow (by omega) hM).makes hSlt.out _
    · have hlt' : (ws.length : Int) ≤ k := by omega
      obtain rfl : k = ws.length := by omega
      rw [List.take_length] at hok hDk
      have hoff : Dk.off = false := by rw [← hDk, (writes_ok ws hok.out).2.1]; exact ho
      have hse : settleD D n ws = if (syncIf Dk n).2 ≠ 0 then syncIf Dk n else removeD (syncIf Dk n).1 (jnl n) := by
        unfold settleD
        rw [if_neg (fun h => h hok.out), hDk]
      have HSE := Lib.hid hse
      obtain ⟨T, d1, d2, d3, d4, d5⟩ := hin.out.pgr HP.out
      have hb4 : Below wr.heap.size wr wr.drew := (Below.refl _ _).drew
      have hb5 : Below wr.heap.size wr wr.drew.drew := (Below.refl _ _).drew.drew
      have CH := Lib.hid (has_dks g (N + 4 * ws.length) T Dk n wr.drew (d1.below hb4) hoff (by omega))
      have c0 := d2.2.2.1
      have c1 := d2.2.2.2
      have HD5 := Lib.hid d5
      have HD2 := Lib.hid d2
      cases hh : (getF Dk.now n).isSome
      · rw [hh] at CH
        have hsi : syncIf Dk n = (Dk, 0) := by unfold syncIf; rw [hh]; rfl
        have CJ := Lib.hid (journal_any p g n T wr.drew.drew (d2.below hb5) hn)
        have CR := Lib.hid (remove_dks g (N + 4 * ws.length) T Dk (jnl n) wr.drew.drew (d1.below hb5) hjl (by omega))
        clear d1 d2 d3 d4 d5 hse hDk hok
        go_wp2_with fail
        go_region_held3 (fun W => W.cell? ⟨p, 0, none⟩ = some (.pointer (some ⟨g, 0, none⟩)) ∧ W.cell? ⟨p, 1, none⟩ = some (.string ⟨n.toArray⟩)) (first | exact ⟨c0, c1⟩ | assumption) (first
          | (go_at_call 51; refine CH.out.mono ?_; rintro e w5 ⟨rfl, rfl⟩))
        all_goals go_wp2_with fail
        go_region_held3 (fun W => W.cell? ⟨p, 0, none⟩ = some (.pointer (some ⟨g, 0, none⟩))) (first | exact c0 | assumption) (first
          | (go_at_call 54; refine CJ.out.mono ?_; rintro e w5 ⟨rfl, rfl⟩)
          | (go_at_call 53; refine CR.out.mono ?_; rintro e w5 hm5; obtain rfl := hm5.1; have hS5 : w5.cell? ⟨p, 0, none⟩ = some (.pointer (some ⟨g, 0, none⟩)) := (hm5.2.2.cell (p := ⟨p, 0, none⟩) HD2.out.2.1 HD2.out.1).trans c0; have HM5 := Lib.hid hm5.undrew.undrew; clear hm5))
        all_goals go_wp2_with fail
        all_goals go_ret
        all_goals
          rw [HSE.out, hsi]
          obtain ⟨i6, _⟩ := HD5.out _ _ _ _ _ HM5.out
          exact (i6.grow (by omega) hM).makes hSlt.out _
      · rw [hh] at CH
        have hsi : syncIf Dk n = syncD Dk n := by unfold syncIf; rw [hh]; rfl
        have CS := Lib.hid (sync_dks g (N + 4 * ws.length) T Dk n wr.drew.drew (d1.below hb5) (by omega) (by omega))
        clear d1 d2 d3 d4 d5 hse hDk hok
        go_wp2_with fail
        go_region_held3 (fun W => W.cell? ⟨p, 0, none⟩ = some (.pointer (some ⟨g, 0, none⟩)) ∧ W.cell? ⟨p, 1, none⟩ = some (.string ⟨n.toArray⟩)) (first | exact ⟨c0, c1⟩ | assumption) (first
          | (go_at_call 51; refine CH.out.mono ?_; rintro e w5 ⟨rfl, rfl⟩))
        all_goals go_wp2_with fail
        go_region_held3 (fun W => W.cell? ⟨p, 0, none⟩ = some (.pointer (some ⟨g, 0, none⟩)) ∧ W.cell? ⟨p, 1, none⟩ = some (.string ⟨n.toArray⟩)) (first | exact ⟨c0, c1⟩ | assumption) (first
          | (go_at_call 62; refine CS.out.mono ?_; rintro e w5 hm5; obtain rfl := hm5.1; have hS5 : w5.cell? ⟨p, 0, none⟩ = some (.pointer (some ⟨g, 0, none⟩)) ∧ w5.cell? ⟨p, 1, none⟩ = some (.string ⟨n.toArray⟩) := ⟨(hm5.2.2.cell (p := ⟨p, 0, none⟩) HD2.out.2.1 HD2.out.1).trans c0, (hm5.2.2.cell (p := ⟨p, 1, none⟩) HD2.out.2.1 HD2.out.1).trans c1⟩; have HM5 := Lib.hid hm5.undrew.undrew; clear hm5))
        all_goals
          obtain ⟨i6, k6, s6, _⟩ := HD5.out _ _ _ _ _ HM5.out
          have HI6 := Lib.hid i6
          clear i6 k6 HM5 hS5 c0 c1 HD5 HD2 CH
          obtain ⟨R, hR⟩ : ∃ R, syncD Dk n = R := ⟨_, rfl⟩
          have hsi : syncIf Dk n = R := hsi.trans hR
          rw [hR] at HI6 ⊢
          obtain ⟨DR, ec⟩ := R
          clear hR CS
          dsimp only at HI6 ⊢
          by_cases hz2 : ec = 0
          · subst hz2
            obtain ⟨T7, d1, d2, d3, d4, d5⟩ := HI6.out.pgr HP.out
            have hb6 : Below w5.heap.size w5 w5.drew := (Below.refl _ _).drew
            have CJ := Lib.hid (journal_any p g n T7 w5.drew (d2.below hb6) hn)
            have CR := Lib.hid (remove_dks g (N + 4 * ws.length + 4) T7 DR (jnl n) w5.drew (d1.below hb6) hjl (by omega))
            have c0 := d2.2.2.1
            have HD5 := Lib.hid d5
            have HD2 := Lib.hid d2
            clear d1 d2 d3 d4 d5
            go_wp2_with fail
            go_region_held3 (fun W => W.cell? ⟨p, 0, none⟩ = some (.pointer (some ⟨g, 0, none⟩))) (first | exact c0 | assumption) (first
              | (go_at_call 54; refine CJ.out.mono ?_; rintro e w7 ⟨rfl, rfl⟩)
              | (go_at_call 53; refine CR.out.mono ?_; rintro e w7 hm7; obtain rfl := hm7.1; have hS7 : w7.cell? ⟨p, 0, none⟩ = some (.pointer (some ⟨g, 0, none⟩)) := (hm7.2.2.cell (p := ⟨p, 0, none⟩) HD2.out.2.1 HD2.out.1).trans c0; have HM7 := Lib.hid hm7.undrew; clear hm7))
            all_goals go_wp2_with fail
            all_goals go_ret
            all_goals
              rw [HSE.out, hsi]
              obtain ⟨i8, _⟩ := HD5.out _ _ _ _ _ HM7.out
              exact (i8.grow (by omega) hM).makes hSlt.out _
          · have hz3 : (ec : Int) ≠ 0 := by omega
            go_wp2_with fail
            go_ret
            rw [HSE.out, hsi, if_pos hz2]
            exact (HI6.out.grow (by omega) hM).makes hSlt.out _

end Go.Proofs.YtkbmajgbhpecgaaGreatDoor.Cd

/-
  A commit. Conditions: at most 2^20 pages.
-/
namespace Go.Proofs.YtkbmajgbhpecgaaGreatDoor.Cd
open Go.RowKit

theorem MakesD.over {w w1 w2 : World} {g N : Nat} {S : Nat → Prop} {D : Dsk} {v : Value} {e : Ending} (hb : Below w.heap.size w w1) (hS : ∀ k, S k → k < w.heap.size) (h : MakesD g N S D v w1 e w2) : MakesD g N S D v w e w2 := by
  obtain ⟨h1, h2, h3⟩ := h
  have s1 := hb.size
  have s2 := h3.size
  refine ⟨h1, h2.more (fun k hk => ?_) (fun k hk => ?_), (Apart.below hb).trans (h3.mono fun k hk => .inl hk)⟩
  · rcases hk with hk | hk
    · exact .inl hk
    · exact .inr ⟨by omega, hk.2⟩
  · rcases hk with hk | hk
    · have := hS k hk; omega
    · exact hk.2

theorem recF_len {ws : Pgs} (hw : ∀ p ∈ ws, (Lit.int .i64 p.1).wf = true) (hl : ∀ p ∈ ws, p.2.length ≤ 512) (hn : ws.length ≤ 1048576) : 0 < (recF ws).length ∧ (recF ws).length ≤ 532 * ws.length + 24 := by
  have h1 := recK_len hw hl hn ws.length (Nat.le_refl _)
  rw [recK_all] at h1
  have h2 := frm_le (recT ws) (by omega)
  exact ⟨frm_pos _, by unfold recF; omega⟩

theorem far_own {w w2 w3 : World} {S : Nat → Prop} {v : Value} {bs : List UInt8} (hS : ∀ k, S k → k < w.heap.size) (h2 : w.heap.size ≤ w2.heap.size) (h : Own w3 w2.heap.size v bs) : Far w3 S v bs := by
  refine ⟨h.sl, fun _ A n c e hs => ?_⟩
  rcases h.2 with ⟨h3, _⟩ | ⟨g, cap, cur, h3, h4, _⟩
  · rw [h3] at e; cases e
  · rw [h3] at e
    injection e with e _ _
    injection e with e
    rw [← e] at hs
    have := hS _ hs
    have h5 : w2.heap.size ≤ g := h4
    have h6 : g < w.heap.size := this
    omega

set_option maxRecDepth 100000 in
set_option maxHeartbeats 3200000 in
theorem commit_p (p g N M b : Nat) (n : List UInt8) (ws : Pgs) (S : Nat → Prop) (D : Dsk) (w : World) (h : PgrAt w S p g n) (hd : DkS w g N S D) (hn : n.length ≤ 140737488355000) (hm : PgMap w S b ws)
    (hl : ws.length ≤ 1048576) (hN : N + 4 * (pagesOf (recF ws).length + ws.length + 5) ≤ M) (hM : M ≤ 137438953472) :
    Calls Tryz.prog 15 #[.pointer (some ⟨p, 0, none⟩), .map (some b)] w (MakesD g M S (commitD D n ws).1 (.int .i64 ((commitD D n ws).2 : Nat)) w) := by
  have HP := Lib.hid h
  have HM := Lib.hid hm
  have HD := Lib.hid hd
  have hSlt := Lib.hid hd.lt
  have hwf := Lib.hid hm.rising.wf
  have HRE := Lib.hid (ready_p p g N n S D w h hd)
  clear h hd hm
  obtain ⟨C, hC⟩ : ∃ C, commitD D n ws = C := ⟨_, rfl⟩
  rw [hC]
  unfold commitD at hC
  cases hoff : D.off
  · have he : errD D = 0 := by unfold errD; rw [hoff]; rfl
    rw [hoff, if_neg (by simp)] at hC
    rw [he] at HRE
    have HLO := Lib.hid (hasLong_any b ws S w HM.out)
    cases hlong : hasLong ws
    · rw [hlong, if_neg (by simp)] at hC
      rw [hlong] at HLO
      have hsh := Lib.hid (hasLong_none hlong)
      cases hfr : freshN (pagesF D.now n).length ws with
      | none =>
        rw [hfr] at hC
        have hfe := freshR_none hfr
        subst hC
        go_enter Tryz.func15, Tryz.ntmps15
        go_wp2_with (first
          | (go_at_call 29; refine HRE.out.mono ?_; rintro e w1 ⟨rfl, rfl⟩)
          | (go_at_call 32; refine HLO.out.mono ?_; rintro e w1 ⟨rfl, hb1⟩; have HB1 := Lib.hid hb1; have HFR := Lib.hid (fresh_any p g N b n ws S D w1 (HP.out.below hb1) (HD.out.below hb1) hoff hn (HM.out.below hb1) hl); rw [hfe] at HFR; clear hb1)
          | (go_at_call 33; refine HFR.out.mono ?_; rintro e w2 ⟨rfl, hb2⟩; have HB2 := Lib.hid (HB1.out.trans (hb2.mono HB1.out.size)); clear hb2))
        go_ret
        exact makesD_same HD.out HB2.out (by omega) hM
      | some f =>
        rw [hfr] at hC
        have hfe := freshR_some hfr
        by_cases hws : ws = []
        · simp only [if_pos hws] at hC
          have hlen0 : ws.length = 0 := by rw [hws]; rfl
          subst hC
          go_enter Tryz.func15, Tryz.ntmps15
          go_wp2_with (first
            | (go_at_call 29; refine HRE.out.mono ?_; rintro e w1 ⟨rfl, rfl⟩)
            | (go_at_call 32; refine HLO.out.mono ?_; rintro e w1 ⟨rfl, hb1⟩; have HB1 := Lib.hid hb1; have HFR := Lib.hid (fresh_any p g N b n ws S D w1 (HP.out.below hb1) (HD.out.below hb1) hoff hn (HM.out.below hb1) hl); rw [hfe] at HFR; clear hb1)
            | (go_at_call 33; refine HFR.out.mono ?_; rintro e w2 ⟨rfl, hb2⟩; have HB2 := Lib.hid (HB1.out.trans (hb2.mono HB1.out.size)); have hlen := (HM.out.below HB2.out).len 3; rw [hlen0] at hlen; clear hb2))
          go_ret
          exact makesD_same HD.out HB2.out (by omega) hM
        · have hlen1 : (ws.length : Int) ≠ 0 := by
            intro e
            exact hws (List.eq_nil_of_length_eq_zero (by omega))
          simp only [if_neg hws] at hC
          obtain ⟨r0, r1⟩ := recF_len hwf.out hsh.out hl
          obtain ⟨q, hq⟩ : ∃ q, pagesOf (recF ws).length = q := ⟨_, rfl⟩
          have hql : q ≤ 1099511627776 := by rw [← hq]; unfold pagesOf; omega
          have hql' : (q : Int) ≤ 1099511627776 := by omega
          have hfl : f ≤ 1048576 := by have := laid_len' ws hfr; omega
          have hfl' : (f : Int) ≤ 1048576 := by omega
          rw [hq] at hC hN
          have HQ := Lib.hid hq
          have HC := Lib.hid hC
          clear hC hq
          by_cases hroom : freeD D < ((q + f : Nat) : Int)
          · have hr2 : freeD D < (q : Int) + (f : Int) := by omega
            have hC := HC.out
            rw [if_pos hroom] at hC
            have HC2 := Lib.hid hC
            clear hC HC hroom
            go_enter Tryz.func15, Tryz.ntmps15
            go_wp2_with (first
              | (go_at_call 29; refine HRE.out.mono ?_; rintro e w1 ⟨rfl, rfl⟩)
              | (go_at_call 32; refine HLO.out.mono ?_; rintro e w1 ⟨rfl, hb1⟩; have HB1 := Lib.hid hb1; have HFR := Lib.hid (fresh_any p g N b n ws S D w1 (HP.out.below hb1) (HD.out.below hb1) hoff hn (HM.out.below hb1) hl); rw [hfe] at HFR; clear hb1)
              | (go_at_call 33; refine HFR.out.mono ?_; rintro e w2 ⟨rfl, hb2⟩; have HB2 := Lib.hid (HB1.out.trans (hb2.mono HB1.out.size)); have hlen := (HM.out.below HB2.out).len 3; clear hb2)
              | (go_at_call 34; refine (encode_any b ws S w2 (HM.out.below HB2.out) hl hsh.out).mono ?_; rintro e w3 ⟨v3, rfl, ho3, hb3⟩; obtain ⟨g3, cap3, cur3, rfl, hg1, hg2, hg3, hg4, hg5, _⟩ := own_block ho3 r0; have HB3 := Lib.hid (HB2.out.trans (hb3.mono HB2.out.size)); have HF3 := Lib.hid (far_own hSlt.out HB2.out.size ho3); have HG4 := Lib.hid hg4; have hg5 : cap3 ≤ 9223372036854775807 := hg5; have hpc := HP.out.below HB3.out; have c0 := hpc.2.2.1; clear hb3 ho3 hg1 hg2 hg3 hg4 hlen hpc)
              | (go_at_call 12; refine (free_dks g N S D w3 (HD.out.below HB3.out)).mono ?_; rintro e w4 ⟨rfl, hb4⟩; have HB4 := Lib.hid (HB3.out.trans (hb4.mono HB3.out.size)); have HF4 := Lib.hid (HF3.out.below hb4); clear hb4)
              | (go_at_call 35; refine (pagesOf_any _ (recF ws).length cap3 w4 (by omega)).mono ?_; rintro e w5 ⟨rfl, rfl⟩; rw [HQ.out]))
            go_ret
            rw [← HC2.out]
            exact makesD_same HD.out HB4.out (by omega) hM
          · have hr2 : (q : Int) + (f : Int) ≤ freeD D := by omega
            have hC := HC.out
            rw [if_neg hroom] at hC
            have HC2 := Lib.hid hC
            clear hC HC hroom
            go_enter Tryz.func15, Tryz.ntmps15
            go_wp2_with (first
              | (go_at_call 29; refine HRE.out.mono ?_; rintro e w1 ⟨rfl, rfl⟩)
              | (go_at_call 32; refine HLO.out.mono ?_; rintro e w1 ⟨rfl, hb1⟩; have HB1 := Lib.hid hb1; have HFR := Lib.hid (fresh_any p g N b n ws S D w1 (HP.out.below hb1) (HD.out.below hb1) hoff hn (HM.out.below hb1) hl); rw [hfe] at HFR; clear hb1)
              | (go_at_call 33; refine HFR.out.mono ?_; rintro e w2 ⟨rfl, hb2⟩; have HB2 := Lib.hid (HB1.out.trans (hb2.mono HB1.out.size)); have hlen := (HM.out.below HB2.out).len 3; clear hb2)
              | (go_at_call 34; refine (encode_any b ws S w2 (HM.out.below HB2.out) hl hsh.out).mono ?_; rintro e w3 ⟨v3, rfl, ho3, hb3⟩; obtain ⟨g3, cap3, cur3, rfl, hg1, hg2, hg3, hg4, hg5, _⟩ := own_block ho3 r0; have HB3 := Lib.hid (HB2.out.trans (hb3.mono HB2.out.size)); have HF3 := Lib.hid (far_own hSlt.out HB2.out.size ho3); have HG4 := Lib.hid hg4; have hg5 : cap3 ≤ 9223372036854775807 := hg5; have hpc := HP.out.below HB3.out; have c0 := hpc.2.2.1; clear hb3 ho3 hg1 hg2 hg3 hg4 hlen hpc)
              | (go_at_call 12; refine (free_dks g N S D w3 (HD.out.below HB3.out)).mono ?_; rintro e w4 ⟨rfl, hb4⟩; have HB4 := Lib.hid (HB3.out.trans (hb4.mono HB3.out.size)); have HF4 := Lib.hid (HF3.out.below hb4); clear hb4)
              | (go_at_call 35; refine (pagesOf_any _ (recF ws).length cap3 w4 (by omega)).mono ?_; rintro e w5 ⟨rfl, rfl⟩; rw [HQ.out]))
            refine (post_p p g N (N + 4 * (q + 3)) g3 0 cap3 n (recF ws) S D w5 (HP.out.below HB4.out) (HD.out.below HB4.out) hoff hn HF4.out r0 (by omega) HG4.out hg5 (by rw [HQ.out]; exact Nat.le_refl _) (by omega)).mono ?_
            rintro e w6 hm6
            obtain ⟨R, hR⟩ : ∃ R, postD D n (recF ws) = R := ⟨_, rfl⟩
            have hroff : R.2 = 0 → R.1.off = false := fun hz => by rw [← hR] at hz ⊢; exact post_on hz
            rw [hR] at hm6 HC2
            obtain ⟨DR, ec⟩ := R
            obtain rfl := hm6.1
            have HM6 := Lib.hid hm6
            clear hm6 hR
            dsimp only at HM6 HC2 hroff ⊢
            by_cases hz2 : ec = 0
            · subst hz2
              have hC := HC2.out
              rw [if_neg (fun h => h rfl)] at hC
              have hp5 := (HP.out.below HB4.out).apart HM6.out.2.2
              have hm5 := (HM.out.below HB4.out).apart HM6.out.2.2
              have CS := Lib.hid (settle_p p g (N + 4 * (q + 3)) M b n ws (since S w5 w6) DR w6 hp5 HM6.out.2.1 (hroff rfl) hn hm5 hl (by omega) hM)
              rw [hC] at CS
              clear hp5 hm5 hroff
              go_wp2_with (go_at_call 37; refine CS.out.mono ?_; rintro e w7 hm7; obtain rfl := hm7.1; have HM7 := Lib.hid hm7; clear hm7)
              go_ret
              exact (HM7.out.up HM6.out.2.2).over HB4.out hSlt.out
            · have hz3 : (ec : Int) ≠ 0 := by omega
              have hC := HC2.out
              rw [if_pos hz2] at hC
              subst hC
              go_wp2_with fail
              go_ret
              exact (HM6.out.grow (by omega) hM).over HB4.out hSlt.out
    · rw [hlong, if_pos rfl] at hC
      rw [hlong] at HLO
      subst hC
      go_enter Tryz.func15, Tryz.ntmps15
      go_wp2_with (first
        | (go_at_call 29; refine HRE.out.mono ?_; rintro e w1 ⟨rfl, rfl⟩)
        | (go_at_call 32; refine HLO.out.mono ?_; rintro e w1 ⟨rfl, hb1⟩; have HB1 := Lib.hid hb1; clear hb1))
      go_ret
      exact makesD_same HD.out HB1.out (by omega) hM
  · have he : errD D = 8 := by unfold errD; rw [hoff]; rfl
    rw [hoff, if_pos rfl] at hC
    rw [he] at HRE
    subst hC
    go_enter Tryz.func15, Tryz.ntmps15
    go_wp2_with (go_at_call 29; refine HRE.out.mono ?_; rintro e w1 ⟨rfl, rfl⟩)
    go_ret
    exact makesD_same HD.out (Below.refl _ _) (by omega) hM

end Go.Proofs.YtkbmajgbhpecgaaGreatDoor.Cd

/-
  alive answers true. Conditions: none.
-/
namespace Go.Proofs.YtkbmajgbhpecgaaGreatDoor.Cd
open Go.RowKit

/-- Noughts laid a moment ago lie in no older block. -/
theorem far_noughts (W : World) (S : Nat → Prop) (n : Nat) (h : n ≤ 140737488355328) (hS : ∀ k, S k → k < W.heap.size) : Far (W.alloc (.cells (vb (noughts n)).toArray 5)) S (.slice (some ⟨W.heap.size, 0, none⟩) n n) (noughts n) := by
  refine ⟨by simpa using sl_noughts W n h (0, 0), fun _ A m c e hs => ?_⟩
  injection e with e
  injection e with e
  rw [← e] at hs
  exact Nat.lt_irrefl _ (hS _ hs)

theorem Far.away {w w' : World} {S : Nat → Prop} {v : Value} {bs : List UInt8} {b : Nat} (h : Far w S v bs) (hg : w.grownBy w' (some b)) (hb : ∀ j s, w.cell? ⟨b, j, s⟩ = Option.none) : Far w' S v bs := h.turned hg hb
theorem PgrAt.away {w w' : World} {S : Nat → Prop} {p g b : Nat} {n : List UInt8} (h : PgrAt w S p g n) (hg : w.grownBy w' (some b)) (hne : p ≠ b) : PgrAt w' S p g n :=
  have hp := hg.block p h.2.1 (fun e => hne (by injection e))
  ⟨h.1, Nat.lt_of_lt_of_le h.2.1 hg.size, (World.cell?_of_block (a := ⟨p, 0, none⟩) hp).trans h.2.2.1, (World.cell?_of_block (a := ⟨p, 1, none⟩) hp).trans h.2.2.2⟩
theorem DkS.away {w w' : World} {S : Nat → Prop} {g N b : Nat} {D : Dsk} (h : DkS w g N S D) (hg : w.grownBy w' (some b)) (hne : ¬ S b) : DkS w' g N S D :=
  h.apart (Apart.grown (S := fun j => j = b) hg rfl) (fun _ hj e => hne (e ▸ hj))

set_option maxRecDepth 100000 in
set_option maxHeartbeats 1600000 in
theorem palive_any (w : World) : Calls Tryz.prog 6 #[] w (Gives (.bool true) w) := by
  have hmk : ∀ W, (Instr.makeSlice 49 (.int .i64 512) (.int .i64 512)).run Tryz.prog W = .ok (.slice (some ⟨W.heap.size, 0, none⟩) 512 512) (W.alloc (.cells (vb (noughts 512)).toArray 5)) := fun W => make_bytes 512 (by omega) W
  go_enter Tryz.func6, Tryz.ntmps6
  go_wp2_with fail
  refine (new_dks 20 w (by omega) (by omega)).mono ?_
  rintro e w1 ⟨g, S, rfl, hd, hS, hb⟩
  have HD := Lib.hid hd
  have HS := Lib.hid hS
  have HB := Lib.hid hb
  clear hd hb hS
  go_wp2_with fail
  refine (open_bare g 0 [102] S (newD 20) w1 HD.out rfl (by simp) (bare_new _ _)).mono ?_
  rintro e w2 ⟨rfl, hp, hb2⟩
  obtain ⟨p, hp0⟩ : ∃ x, w1.heap.size = x := ⟨_, rfl⟩
  rw [hp0] at hp
  rw [hp0]
  have hd2 := HD.out.below hb2
  have hB2 := HB.out.trans (hb2.mono HB.out.size)
  obtain ⟨z, hz⟩ : ∃ z, noughts 512 = z := ⟨_, rfl⟩
  have hf3 := far_noughts w2 S 512 (by omega) hd2.lt
  rw [hz] at hmk hf3
  have hk3 := hmk w2
  obtain ⟨w3, hw3⟩ : ∃ x, w2.alloc (.cells (vb z).toArray 5) = x := ⟨_, rfl⟩
  rw [hw3] at hf3 hk3
  have hb3 : Below w2.heap.size w2 w3 := by rw [← hw3]; exact (Below.refl _ _).alloc (Nat.le_refl _) _
  have hd3 := hd2.below hb3
  have hm4 := PgMap.made w3 S (fun h => Nat.lt_irrefl _ (hd3.lt _ h))
  have hb4 : Below w3.heap.size w3 (w3.alloc (.map #[] 0)) := (Below.refl _ _).alloc (Nat.le_refl _) _
  obtain ⟨w4, hw4⟩ : ∃ x, w3.alloc (.map #[] 0) = x := ⟨_, rfl⟩
  rw [hw4] at hm4 hb4
  have hf4 := hf3.below hb4
  obtain ⟨b, hb0⟩ : ∃ x, w3.heap.size = x := ⟨_, rfl⟩
  rw [hb0] at hm4
  obtain ⟨g2, hg2⟩ : ∃ x, w2.heap.size = x := ⟨_, rfl⟩
  rw [hg2] at hf4 hk3
  obtain ⟨w5, hr5, hm5, ht5⟩ := hm4.put (x := 0) (by simp [maxLen]) rfl ⟨some (g2, 0), 512, 512⟩ hf4
  have hf5 := hf4.turned ht5.grown hm4.none
  obtain ⟨w6, hr6, hm6, ht6⟩ := hm5.put (x := 1) (by simp [insP, maxLen]) rfl ⟨some (g2, 0), 512, 512⟩ hf5
  have hws : insP (insP [] 0 z) 1 z = wsA := by rw [← hz]; exact wsA_put
  rw [hws] at hm6
  have hbS := hm4.1
  have hp2 : p < b := by have := hp.2.1; have := hb3.size; omega
  have hpr4 := (hp.below hb3).below hb4
  have HP6 := Lib.hid ((hpr4.away ht5.grown (by omega)).away ht6.grown (by omega))
  have HD6 := Lib.hid (((hd3.below hb4).away ht5.grown hbS).away ht6.grown hbS)
  have HM6 := Lib.hid hm6
  have hg5 := ht5.grown
  have hg6 := ht6.grown
  have hsz : w.heap.size ≤ b := by have := hB2.size; have := hb3.size; omega
  have HB6 := Lib.hid (((((hB2.trans (hb3.mono hB2.size)).trans (hb4.mono (Nat.le_trans hB2.size hb3.size))).grown hg5 (by have := hb4.size; omega) (fun k hk => by injection hk with hk; omega)).grown hg6 (by have := hb4.size; have := hg5.size; omega) (fun k hk => by injection hk with hk; omega)))
  have hmm : (Instr.makeMap 37 none).run Tryz.prog w3 = .ok (.map (some b)) w4 := by rw [run_makeMap, hb0, hw4]
  have hr5 : (Instr.mapUpdate 37 (.map (some b)) (.int .i64 0) (.slice (some ⟨g2, 0, none⟩) 512 512)).run Tryz.prog w4 = .ok () w5 := hr5
  have hr6 : (Instr.mapUpdate 37 (.map (some b)) (.int .i64 1) (.slice (some ⟨g2, 0, none⟩) 512 512)).run Tryz.prog w5 = .ok () w6 := hr6
  have HC := Lib.hid (commit_p p g 0 40 b [102] wsA S (newD 20) w6 HP6.out HD6.out (by simp) HM6.out (by simp [wsA]) (by rw [wsA_pages]; simp [wsA]) (by omega))
  rw [wsA_ok] at HC
  obtain ⟨D1, hD1⟩ : ∃ x, (commitD (newD 20) [102] wsA).1 = x := ⟨_, rfl⟩
  have hon : D1.off = false := by rw [← hD1]; exact wsA_on
  have hct : ((pagesF D1.now [102]).length : Int) = 2 := by rw [← hD1, wsA_count]; rfl
  have hac : (D1.acts : Int) = 9 := by rw [← hD1, wsA_acts]; rfl
  rw [hD1] at HC
  have hS6 : ∀ k, S k → w.heap.size ≤ k := HS.out
  have HS6 := Lib.hid hS6
  clear hw4 hws hD1 hm4 hm5 hm6 ht5 ht6 hg5 hg6 hf4 hf5 hf3 hd2 hd3 hp hpr4 hb2 hb3 hb4 hB2 hbS hz hmk hw3 hS6 hp2 hsz HS HB HD HM6
  go_wp2_with (first
    | (go_at_call 15; refine HC.out.mono ?_; rintro e w7 hm7; obtain rfl := hm7.1; have HM7 := Lib.hid hm7.2; have HP7 := Lib.hid (HP6.out.apart hm7.2.2); have HK := Lib.hid (count_p p g 40 [102] (since S w6 w7) D1 w7 HP7.out HM7.out.1 hon (by simp)); rw [hct] at HK; clear hm7)
    | (go_at_call 18; refine HK.out.mono ?_; rintro e w8 ⟨rfl, hb8⟩; have HA := Lib.hid (acts_dks g 40 (since S w6 w7) D1 w8 (HM7.out.1.below hb8)); rw [hac] at HA; have HB8 := Lib.hid hb8; clear hb8)
    | (go_at_call 27; refine HA.out.mono ?_; rintro e w9 ⟨rfl, rfl⟩))
  go_ret
  have h7 := HM7.out.2.low (B := w.heap.size) HB6.out.size HS6.out
  exact ⟨rfl, (HB6.out.trans h7).trans (HB8.out.mono (by have := HB6.out.size; have := h7.size; omega))⟩

end Go.Proofs.YtkbmajgbhpecgaaGreatDoor.Cd

/-
  Rows of bytes that are written over; the reference's Filled. Conditions: none.
-/
namespace Go.Proofs.YtkbmajgbhpecgaaGreatDoor.Cd
open Go.RowKit

/-- The row's first n cells are bytes. -/
def Full (w : World) (g n : Nat) : Prop := ∃ cs T fr, w.heap[g]? = some (.cells cs T fr) ∧ fr.1 = fr.2 ∧ ∀ j, j < n → ∃ x, cs[j]? = some (.int .u8 x)
theorem Full.set {w : World} {g n : Nat} (h : Full w g n) (i : Nat) (x : Int) : Full (w.setCell ⟨g, i, none⟩ (.int .u8 x)) g n := by
  obtain ⟨cs, T, fr, hh, hf, hc⟩ := h
  refine ⟨cs.setIfInBounds i (.int .u8 x), T, fr, by simp [World.setCell, Array.getElem?_modify, hh], hf, fun j hj => ?_⟩
  by_cases e : i = j
  · subst e
    obtain ⟨y, hy⟩ := hc i hj
    have hlt := (Array.getElem?_eq_some_iff.1 hy).1
    exact ⟨x, by rw [Array.getElem?_setIfInBounds, if_pos rfl, if_pos hlt]⟩
  · obtain ⟨y, hy⟩ := hc j hj
    exact ⟨y, by rw [Array.getElem?_setIfInBounds, if_neg e]; exact hy⟩
theorem Full.cell {w : World} {g n k : Nat} (h : Full w g n) (hk : k < n) : ∃ y, w.cell? ⟨g, k, none⟩ = some (.int .u8 y) ∧ w.frozen? ⟨g, k, none⟩ = false := by
  obtain ⟨cs, T, fr, hh, hf, hc⟩ := h
  obtain ⟨y, hy⟩ := hc k hk
  refine ⟨y, by rw [cell_of_row w g k cs T fr hh]; exact hy, ?_⟩
  simp [World.frozen?, hh]
  omega
theorem Full.of {w w' : World} {g n : Nat} (h : Full w g n) (he : w'.heap[g]? = w.heap[g]?) : Full w' g n := by
  obtain ⟨cs, T, fr, hh, r⟩ := h
  exact ⟨cs, T, fr, he.trans hh, r⟩

theorem pbelow_drewN (B : Nat) (w : World) (n : Nat) : Below B w (w.drewN n) := ⟨rfl, rfl, rfl, Nat.le_refl _, fun _ _ => rfl⟩

/-- A page that was read. -/
theorem sl_page {w : World} {g : Nat} {q : List UInt8} (hl : q.length = 512) (T : TypeId) (hg : w.heap[g]? = some (.cells (vb q).toArray T)) : Sl w w.heap.size (.slice (some ⟨g, 0, none⟩) 512 512) q := by
  refine ⟨_, 512, by rw [hl], by omega, by decide, (fun h => by cases h), fun ad e _ => ?_, fun ad e j u hu => ?_⟩
  · injection e with e
    subst e
    exact (Array.getElem?_eq_some_iff.1 hg).1
  · injection e with e
    subst e
    rw [Addr.add_lit, Nat.zero_add, cell_of_row _ _ _ _ _ _ hg, List.getElem?_toArray]
    exact hu
theorem full_page {w : World} {g : Nat} {q : List UInt8} (hl : q.length = 512) (T : TypeId) (hg : w.heap[g]? = some (.cells (vb q).toArray T)) : Full w g 512 :=
  ⟨_, _, _, hg, rfl, fun j hj => ⟨_, by rw [List.getElem?_toArray]; exact vb_at _ j (by omega)⟩⟩

/-- Nothing turned but the slice's own block. -/
def only (A : Option Addr) : Nat → Prop := fun k => ∃ ad, A = some ad ∧ ad.block = k

theorem PgrAt.off {w w' : World} {S T : Nat → Prop} {p g : Nat} {n : List UInt8} (h : PgrAt w S p g n) (ha : Apart T w w') (hT : ¬ T p) : PgrAt w' S p g n :=
  ⟨h.1, Nat.lt_of_lt_of_le h.2.1 ha.size, (ha.cell (p := ⟨p, 0, none⟩) h.2.1 hT).trans h.2.2.1, (ha.cell (p := ⟨p, 1, none⟩) h.2.1 hT).trans h.2.2.2⟩

/-- A row of the call's own, as a slice's value. -/
theorem own_slv {w : World} {B : Nat} {v : Value} {bs : List UInt8} (h : Own w B v bs) : ∃ s : SlV, v = s.val ∧ ∃ A c, s.val = .slice A bs.length c ∧ bs.length ≤ c ∧ c ≤ 9223372036854775807 ∧
    (∀ ad, A = some ad → B ≤ ad.block ∧ ad.block < w.heap.size) ∧ (0 < bs.length → ∃ g, A = some ⟨g, 0, none⟩ ∧ Full w g bs.length) := by
  have hlt := h.lt
  rcases h.2 with ⟨rfl, h0⟩ | ⟨g, cap, cur, rfl, hb, hh, hn, hm, hc, ht⟩
  · refine ⟨⟨none, 0, 0⟩, rfl, none, 0, by rw [h0]; rfl, by omega, by omega, (fun ad e => by cases e), fun h => by omega⟩
  · refine ⟨⟨some (g, 0), bs.length, cap⟩, rfl, _, cap, rfl, hn, hm, fun ad e => ?_, fun h0 => ⟨g, rfl, cur, _, _, hh, rfl, fun j hj => ⟨(bs[j]'hj).toNat, ?_⟩⟩⟩
    · injection e with e
      rw [← e]
      exact hlt g rfl
    · have hu := vb_at bs j hj
      rw [← ht, List.getElem?_take, if_pos (by omega)] at hu
      simpa using hu

theorem filled_any (s : List UInt8) (hs : s.length ≤ 512) (w : World) : Calls Tryz.prog 22 #[.string ⟨s.toArray⟩] w (Gives (.string ⟨(pad s).toArray⟩) w) := by
  obtain ⟨m, hm⟩ : ∃ m : Nat, m = 512 - s.length := ⟨_, rfl⟩
  have hi : (512 : Int) - (s.length : Int) = (m : Int) := by omega
  have hk := make_bytes m (by omega) w
  have ht := text_noughts w m (by omega) _ rfl
  have ha := fun W => add_text W s (noughts m) (by rw [noughts_len]; omega)
  have he : s ++ noughts m = pad s := by rw [hm]; rfl
  rw [he] at ha
  have hb : Below w.heap.size w (w.alloc (.cells (vb (noughts m)).toArray 5)) := (Below.refl _ _).alloc (Nat.le_refl _) _
  obtain ⟨w1, hw1⟩ : ∃ x, w.alloc (.cells (vb (noughts m)).toArray 5) = x := ⟨_, rfl⟩
  rw [hw1] at hk ht hb
  clear hw1 he hm
  go_enter Tryz.func22, Tryz.ntmps22
  go_wp2_with fail
  go_ret
  exact ⟨rfl, hb⟩

end Go.Proofs.YtkbmajgbhpecgaaGreatDoor.Cd
