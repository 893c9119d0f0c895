/-
  Plain facts on CRC-32C and on records: no Go in sight. Conditions: none.
-/
import Derived.Test.YtkbmajgbhpecgaaGreatDoorG5
import Derived.Test.YtkbmajgbhpecgaaGreatDoorG1
import Derived.LoopTactic
import Derived.IntWalk
import Derived.Laws.BitsAllLaws
import Derived.Deep.RegionWith
import Derived.Deep.DeepFit
/-
  Rename. Conditions: none.
-/
namespace Go.Proofs.YtkbmajgbhpecgaaGreatDoor.Cd
open Go.RowKit

/-- The number k's file has the name b, and no longer a; what b was is gone. -/
def renP (P : Pd) (a b : List UInt8) (k : Nat) : Pd := { dropP { P with files := upd P.files a none } b with files := upd (dropP { P with files := upd P.files a none } b).files b (some k) }

theorem dropP_made (P : Pd) (b : List UInt8) : (dropP P b).made = P.made := by
  unfold dropP
  split <;> rfl

set_option maxRecDepth 100000 in
set_option maxHeartbeats 1600000 in
theorem does_rename (g N k : Nat) (a b : List UInt8) (S : Nat → Prop) (P : Pd) (a1 a2 a3 a4 : Addr) (w : World) (hk : k ≤ P.made) (ha : a.length ≤ 140737488355328) (hb : b.length ≤ 140737488355328) (hN : N + 3 ≤ 137438953472)
    (h1 : CaptD w a1 g) (h2 : CaptS w a2 a) (h3 : CaptS w a3 b) (h4 : CaptN w a4 k) (hs1 : ¬ S a1.block) (hs2 : ¬ S a2.block) (hs3 : ¬ S a3.block) (hs4 : ¬ S a4.block) :
    Does 90 #[.pointer (some a1), .pointer (some a2), .pointer (some a3), .pointer (some a4)] g N (N + 3) S P (renP (ticP P) a b k) w := by
  intro w1 hap hrep
  have e1 : w1.cell? a1 = some (.pointer (some ⟨g, 0, none⟩)) := cell_far hap h1 hs1
  have e2 : w1.cell? a2 = some (.string ⟨a.toArray⟩) := cell_far hap h2 hs2
  have e3 : w1.cell? a3 = some (.string ⟨b.toArray⟩) := cell_far hap h3 hs3
  have e4 : w1.cell? a4 = some (.int .i64 k) := cell_far hap h4 hs4
  have hz : ∀ (c : Addr) (v : Value), w.cell? c = some v → ¬ S c.block → ¬ since S w w1 c.block ∧ c.block < w1.heap.size := fun c v hc hs => by
    have := World.block_lt_of_cell? w c hc
    have := hap.size
    exact ⟨fun e => e.elim hs (fun e => by omega), by omega⟩
  have z1 := hz a1 _ h1 hs1
  have z3 := hz a3 _ h3 hs3
  have z4 := hz a4 _ h4 hs4
  have hmade : k ≤ (ticP P).made := hk
  generalize ticP P = P0 at *
  generalize since S w w1 = T at *
  have hltT := hrep.lt
  obtain ⟨bf, c1, p1, c2, p2, lv, hd⟩ := hrep
  have d1 : w1.cell? ⟨g, 1, none⟩ = some (.map (some bf)) := cell_of_row _ _ _ _ _ _ hd.row
  obtain ⟨n, hf, hn⟩ := hd.fil
  have hdr : Below w1.heap.size w1 w1.drew := (Below.refl _ _).drew
  obtain ⟨w2, hrun, hf2, hturn⟩ := (hf.below hdr hf.lt).drop (x := a) (by simp only [filK, maxLen]; omega) 58
  have hrun : ∀ ty, (Builtin.delete_ #[58, 9] ty #[.map (some bf), .string ⟨a.toArray⟩]).run Tryz.prog w1.drew = .ok (.tuple #[]) w2 := fun _ => hrun
  have hd2 : DiskR w2 g T { P0 with files := upd P0.files a none } (N + 1) bf c1 p1 c2 p2 lv := (hd.below hdr hltT).named hturn.grown hf2 (by omega) (Fits.files_set hd.fits (fun t x ht => hd.fits.files t x (upd_none ht)))
  have hap2 : Apart T w1 w2 := ((Apart.refl T w1).drew).step hturn.grown (fun q e => by injection e with e; rw [← e]; exact .inl hd.ins.2.1)
  have hs12 := hap2.size
  have hdp := dropd_any g (N + 1) T { P0 with files := upd P0.files a none } b w2 ⟨_, _, _, _, _, _, hd2⟩ hb (by omega)
  have f1 : w2.cell? a1 = some (.pointer (some ⟨g, 0, none⟩)) := (hap2.cell z1.2 z1.1).trans e1
  have f3 : w2.cell? a3 = some (.string ⟨b.toArray⟩) := (hap2.cell z3.2 z3.1).trans e3
  have f4 : w2.cell? a4 = some (.int .i64 k) := (hap2.cell z4.2 z4.1).trans e4
  have HDP := Lib.hid hdp
  have HAP2 := Lib.hid hap2
  have HLT := Lib.hid hltT
  clear hd hd2 hdp hf hf2 hturn hap2 hdr hap h1 h2 h3 h4
  go_enter Tryz.func90, Tryz.ntmps90
  go_wp2_with fail
  go_region
  all_goals
    go_wp2_with fail
    refine HDP.out.mono ?_
    intro e w3 hmk
    have HM := Lib.hid (makes_up HAP2.out hmk)
    have g1 : w3.cell? a1 = some (.pointer (some ⟨g, 0, none⟩)) := (HM.out.2.2.cell z1.2 z1.1).trans e1
    have g3 : w3.cell? a3 = some (.string ⟨b.toArray⟩) := (HM.out.2.2.cell z3.2 z3.1).trans e3
    have g4 : w3.cell? a4 = some (.int .i64 k) := (HM.out.2.2.cell z4.2 z4.1).trans e4
    obtain rfl := hmk.1
    clear hmk
    obtain ⟨bf3, c13, p13, c23, p23, lv3, h3⟩ := HM.out.2.1
    have m1 : w3.cell? ⟨g, 1, none⟩ = some (.map (some bf3)) := cell_of_row _ _ _ _ _ _ h3.row
    obtain ⟨n3, hf3, hn3⟩ := h3.fil
    have hdr3 : Below w3.heap.size w3 w3.drew := (Below.refl _ _).drew
    obtain ⟨w4, hrun4, hf4, hturn4⟩ := (hf3.below hdr3 hf3.lt).store (x := b) (v := k) (by simp only [maxLen]; omega) (by simp only [filK, maxLen]; omega) trivial
    have hrun4 : (Instr.mapUpdate 58 (.map (some bf3)) (.string ⟨b.toArray⟩) (.int .i64 k)).run Tryz.prog w3.drew = .ok () w4 := hrun4
    have hle : (if ((dropP { P0 with files := upd P0.files a none } b).files b).isSome = true then 0 else 1) ≤ 1 := by split <;> omega
    have hd4 : DiskR w4 g (since T w1 w3) (renP P0 a b k) (N + 3) bf3 c13 p13 c23 p23 lv3 :=
      ((h3.mono (by omega : N + 1 + 1 ≤ N + 3) hN).below hdr3 h3.lt).named hturn4.grown hf4 (by omega) (Fits.files_set ((h3.mono (by omega : N + 1 + 1 ≤ N + 3) hN).fits) (fun t x ht => by
        unfold upd at ht
        split at ht
        · injection ht with ht
          rw [← ht, dropP_made]
          exact hmade
        · exact h3.fits.files t x ht))
    have hin3 := h3.ins.2.1
    have hs13 := HM.out.2.2.size
    have hap4 : Apart T w1 w4 := (HM.out.2.2.drew).step hturn4.grown (fun q e => by
      injection e with e
      rw [← e]
      rcases hin3 with h | h
      · exact .inl h
      · exact .inr h.1)
    have HD4 := Lib.hid hd4
    have HA4 := Lib.hid hap4
    have hs34 : w3.heap.size ≤ w4.heap.size := hturn4.grown.size
    clear h3 hf3 hdr3 hf4 hturn4 hle hd4 hin3 hap4
    go_wp2_with fail
    go_region
    all_goals
      go_wp2_with fail
      go_end0
      exact ⟨rfl, ⟨_, _, _, _, _, _, HD4.out.more (fun c hc => hc.elim .inl (fun h => .inr ⟨h.1, by have := h.2; omega⟩)) (since_lt HLT.out HA4.out.size)⟩, HA4.out⟩

set_option maxRecDepth 100000 in
set_option maxHeartbeats 1600000 in
theorem rename_any (g N : Nat) (S : Nat → Prop) (P : Pd) (a b : List UInt8) (w : World) (h : Rep w g S P N) (ha : a.length ≤ 140737488355328) (hb : b.length ≤ 140737488355328) (hN : N + 4 ≤ 137438953472) (hr : P.fuse = 1 → P.off = false → (playS (keepSel P.keep) 0 P.late (P.safe, P.ns)).2 ≤ P.room) :
    Calls Tryz.prog 63 #[.pointer (some ⟨g, 0, none⟩), .string ⟨a.toArray⟩, .string ⟨b.toArray⟩] w (AnsD g (N + 4) S (actR P a (fun k => renP (ticP P) a b k)) w) := by
  have hB : Below w.heap.size w (((w.alloc (.cells #[.pointer (some ⟨g, 0, none⟩)] 26)).alloc (.cells #[.string ⟨a.toArray⟩] 9)).alloc (.cells #[.string ⟨b.toArray⟩] 9)) := ((((Below.refl _ _).alloc (Nat.le_refl _) _).alloc (by simp) _).alloc (by simp; omega) _)
  have hrep1 := h.below hB h.lt
  have hfi := find_any g N S P a _ hrep1 ha
  have hfit := h.fits
  have hnS : ∀ b, w.heap.size ≤ b → ¬ S b := fun b hb e => by have := h.lt _ e; omega
  rcases actR_find (P := P) (s := a) (Q := fun k => renP (ticP P) a b k) with ⟨hoff, hf, ha'⟩ | ⟨hoff, hq, hf, ha'⟩ | ⟨k, hoff, hq, hf, ha'⟩
  · rw [hf] at hfi
    rw [ha']
    have HF := Lib.hid hfi
    have H := Lib.hid h
    clear hfi h hB hrep1 hfit hf ha'
    go_enter Tryz.func63, Tryz.ntmps63
    go_wp2_with fail
    refine HF.out.mono ?_
    rintro e w1 ⟨rfl, rfl⟩
    go_wp2_with fail
    go_ret
    exact same_makes H.out (((((Below.refl _ _).alloc (Nat.le_refl _) _).alloc (by simp) _).alloc (by simp; omega) _).alloc (by simp; omega) _) (by omega) hN
  · rw [hf] at hfi
    rw [ha']
    have HF := Lib.hid hfi
    have H := Lib.hid h
    clear hfi h hB hrep1 hfit hf ha'
    go_enter Tryz.func63, Tryz.ntmps63
    go_wp2_with fail
    refine HF.out.mono ?_
    rintro e w1 ⟨rfl, rfl⟩
    go_wp2_with fail
    go_ret
    exact same_makes H.out (((((Below.refl _ _).alloc (Nat.le_refl _) _).alloc (by simp) _).alloc (by simp; omega) _).alloc (by simp; omega) _) (by omega) hN
  · rw [hf] at hfi
    rw [ha']
    show Calls _ _ _ _ (AnsD g (N + 4) S (if P.fuse = 1 then (loseP (ticP P) P.keep, 8) else (renP (ticP P) a b k, 0)) w)
    have hW2 : Below w.heap.size w ((((w.alloc (.cells #[.pointer (some ⟨g, 0, none⟩)] 26)).alloc (.cells #[.string ⟨a.toArray⟩] 9)).alloc (.cells #[.string ⟨b.toArray⟩] 9)).alloc (.cells #[.int .i64 k] 3)) := (((((Below.refl _ _).alloc (Nat.le_refl _) _).alloc (by simp) _).alloc (by simp; omega) _).alloc (by simp; omega) _)
    have hrep2 := h.below hW2 h.lt
    have hap : Apart S w ((((w.alloc (.cells #[.pointer (some ⟨g, 0, none⟩)] 26)).alloc (.cells #[.string ⟨a.toArray⟩] 9)).alloc (.cells #[.string ⟨b.toArray⟩] 9)).alloc (.cells #[.int .i64 k] 3)) := (((((Apart.refl _ _).alloc _).alloc _).alloc _).alloc _)
    have hcell0 : ((((w.alloc (.cells #[.pointer (some ⟨g, 0, none⟩)] 26)).alloc (.cells #[.string ⟨a.toArray⟩] 9)).alloc (.cells #[.string ⟨b.toArray⟩] 9)).alloc (.cells #[.int .i64 k] 3)).heap[w.heap.size]? = (w.alloc (.cells #[.pointer (some ⟨g, 0, none⟩)] 26)).heap[w.heap.size]? := by
      rw [Below.heap_alloc _ _ _ (by simp; try omega), Below.heap_alloc _ _ _ (by simp; try omega), Below.heap_alloc _ _ _ (by simp; try omega)]
    have hcell1 : ((((w.alloc (.cells #[.pointer (some ⟨g, 0, none⟩)] 26)).alloc (.cells #[.string ⟨a.toArray⟩] 9)).alloc (.cells #[.string ⟨b.toArray⟩] 9)).alloc (.cells #[.int .i64 k] 3)).heap[(w.alloc (.cells #[.pointer (some ⟨g, 0, none⟩)] 26)).heap.size]? = ((w.alloc (.cells #[.pointer (some ⟨g, 0, none⟩)] 26)).alloc (.cells #[.string ⟨a.toArray⟩] 9)).heap[(w.alloc (.cells #[.pointer (some ⟨g, 0, none⟩)] 26)).heap.size]? := by
      rw [Below.heap_alloc _ _ _ (by simp; try omega), Below.heap_alloc _ _ _ (by simp; try omega)]
    have hcell2 : ((((w.alloc (.cells #[.pointer (some ⟨g, 0, none⟩)] 26)).alloc (.cells #[.string ⟨a.toArray⟩] 9)).alloc (.cells #[.string ⟨b.toArray⟩] 9)).alloc (.cells #[.int .i64 k] 3)).heap[((w.alloc (.cells #[.pointer (some ⟨g, 0, none⟩)] 26)).alloc (.cells #[.string ⟨a.toArray⟩] 9)).heap.size]? = (((w.alloc (.cells #[.pointer (some ⟨g, 0, none⟩)] 26)).alloc (.cells #[.string ⟨a.toArray⟩] 9)).alloc (.cells #[.string ⟨b.toArray⟩] 9)).heap[((w.alloc (.cells #[.pointer (some ⟨g, 0, none⟩)] 26)).alloc (.cells #[.string ⟨a.toArray⟩] 9)).heap.size]? := by
      rw [Below.heap_alloc _ _ _ (by simp; try omega)]
    have hcell3 : ((((w.alloc (.cells #[.pointer (some ⟨g, 0, none⟩)] 26)).alloc (.cells #[.string ⟨a.toArray⟩] 9)).alloc (.cells #[.string ⟨b.toArray⟩] 9)).alloc (.cells #[.int .i64 k] 3)).heap[(((w.alloc (.cells #[.pointer (some ⟨g, 0, none⟩)] 26)).alloc (.cells #[.string ⟨a.toArray⟩] 9)).alloc (.cells #[.string ⟨b.toArray⟩] 9)).heap.size]? = ((((w.alloc (.cells #[.pointer (some ⟨g, 0, none⟩)] 26)).alloc (.cells #[.string ⟨a.toArray⟩] 9)).alloc (.cells #[.string ⟨b.toArray⟩] 9)).alloc (.cells #[.int .i64 k] 3)).heap[(((w.alloc (.cells #[.pointer (some ⟨g, 0, none⟩)] 26)).alloc (.cells #[.string ⟨a.toArray⟩] 9)).alloc (.cells #[.string ⟨b.toArray⟩] 9)).heap.size]? := by
      rfl
    have hact := act_rename g N (N + 3) S P (renP (ticP P) a b k) ⟨w.heap.size, 0, none⟩ ⟨w.heap.size + 1, 0, none⟩ ⟨w.heap.size + 2, 0, none⟩ ⟨w.heap.size + 3, 0, none⟩ _ hrep2 (fun h1 => hr h1 hoff) (by omega)
      (fun _ => does_rename g N k a b S P _ _ _ _ _ (hfit.files a k hq) ha hb (by omega) (cell_new_at w _ _ (by simp) hcell0) (cell_new_at (w.alloc (.cells #[.pointer (some ⟨g, 0, none⟩)] 26)) _ _ (by simp) hcell1) (cell_new_at ((w.alloc (.cells #[.pointer (some ⟨g, 0, none⟩)] 26)).alloc (.cells #[.string ⟨a.toArray⟩] 9)) _ _ (by simp) hcell2) (cell_new_at (((w.alloc (.cells #[.pointer (some ⟨g, 0, none⟩)] 26)).alloc (.cells #[.string ⟨a.toArray⟩] 9)).alloc (.cells #[.string ⟨b.toArray⟩] 9)) _ _ (by simp) hcell3) (hnS _ (by show w.heap.size ≤ w.heap.size; omega)) (hnS _ (by show w.heap.size ≤ w.heap.size + 1; omega)) (hnS _ (by show w.heap.size ≤ w.heap.size + 2; omega)) (hnS _ (by show w.heap.size ≤ w.heap.size + 3; omega)))
    obtain ⟨R, hR⟩ : ∃ R, (if P.fuse = 1 then (loseP (ticP P) P.keep, 8) else (renP (ticP P) a b k, 0)) = R := ⟨_, rfl⟩
    rw [hR]
    have HRR := Lib.hid hR
    have HF := Lib.hid hfi
    have HACT := Lib.hid hact
    have HAP := Lib.hid hap
    clear hfi h hB hrep1 hrep2 hfit hf ha' hact hap hr hR hW2
    go_enter Tryz.func63, Tryz.ntmps63
    go_wp2_with fail
    refine HF.out.mono ?_
    rintro e w1 ⟨rfl, rfl⟩
    go_wp2_with fail
    refine HACT.out.mono ?_
    intro e w2 hac
    have HA2 := Lib.hid (acted_ans (L := N + 4) HAP.out hac (by omega) (by omega) hN)
    obtain ⟨n, rfl⟩ := acted_val hac
    clear hac
    go_wp2_with fail
    go_ret
    rw [← HRR.out]
    exact HA2.out

end Go.Proofs.YtkbmajgbhpecgaaGreatDoor.Cd

/-
  Rename, in both tellings. Conditions: none.
-/
namespace Go.Proofs.YtkbmajgbhpecgaaGreatDoor.Cd
open Go.RowKit

/-- A write whose file has another name. -/
def renW (a b : List UInt8) (w : Wrt) : Wrt := if w.name = a then ⟨b, w.page, w.data⟩ else w

theorem Like.rename {q : Nums} {s : Pages × Nat} {l l' : List Fil} {a b : List UInt8} {k : Nat} (h : Like q s l) (ha : q a = some k) (ho : Once l') (hp : ∀ n, pagesF l' n = if n = b then pagesF l a else if n = a then [] else pagesF l n)
    (hh : ∀ n, (getF l' n).isSome = true → n = b ∨ (n ≠ a ∧ (getF l n).isSome = true)) (hc : count l' = count l) : Like (upd (upd q a none) b (some k)) s l' := by
  refine ⟨fun n j hj => ?_, by rw [h.num, hc], ho, fun n hn => ?_⟩
  · rw [hp]
    unfold upd at hj
    by_cases e : n = b
    · rw [if_pos e] at hj ⊢
      injection hj with hj
      rw [← hj]
      exact h.pages a k ha
    · rw [if_neg e] at hj ⊢
      by_cases e2 : n = a
      · rw [if_pos e2] at hj; cases hj
      · rw [if_neg e2] at hj ⊢
        exact h.pages n j hj
  · unfold upd
    rcases hh n hn with e | ⟨e, h2⟩
    · rw [if_pos e]; rfl
    · by_cases e3 : n = b
      · rw [if_pos e3]; rfl
      · rw [if_neg e3, if_neg e]
        exact h.has n h2

theorem ren_list {l : List Fil} {a b : List UInt8} (ho : Once l) (hne : a ≠ b) : Once (putF (without l a) ⟨b, pagesF l a⟩) ∧ (∀ n, pagesF (putF (without l a) ⟨b, pagesF l a⟩) n = if n = b then pagesF (without l b) a else if n = a then [] else pagesF (without l b) n) ∧
    (∀ n, (getF (putF (without l a) ⟨b, pagesF l a⟩) n).isSome = true → n = b ∨ (n ≠ a ∧ (getF (without l b) n).isSome = true)) ∧ count (putF (without l a) ⟨b, pagesF l a⟩) = count (without l b) := by
  refine ⟨put_once (without_once ho _) _, fun n => ?_, fun n hn => ?_, ?_⟩
  · rw [pagesF_put, pagesF_without, pagesF_without, pagesF_without, if_neg hne]
    by_cases e : n = b
    · rw [if_pos (by exact e), if_pos e]
    · rw [if_neg (by exact e), if_neg e, if_neg e]
  · rw [getF_put] at hn
    by_cases e : n = b
    · exact .inl e
    · rw [if_neg (by exact e), getF_without] at hn
      by_cases e2 : n = a
      · rw [if_pos e2] at hn; cases hn
      · rw [if_neg e2] at hn
        exact .inr ⟨e2, by rw [getF_without, if_neg e]; exact hn⟩
  · have h1 := count_put (without_once ho a) ⟨b, pagesF l a⟩
    have h2 := count_without ho a
    have h3 := count_without ho b
    simp only [pagesF_without] at h1
    rw [if_neg (fun e => hne e.symm)] at h1
    omega

theorem Pairs.ren {q : Nums} {a b : List UInt8} {k : Nat} (ha : q a = some k) (hb : q b = none) : ∀ {l : List Pw} {r : List Wrt}, Pairs q l r → Pairs (upd (upd q a none) b (some k)) l (r.map (renW a b)) := by
  intro l
  induction l with
  | nil => intro r h; cases r with
    | nil => exact h
    | cons v t => exact h.elim
  | cons y t ih =>
    intro r h
    cases r with
    | nil => exact h.elim
    | cons v t2 =>
      refine ⟨?_, ih h.2⟩
      obtain ⟨h1, h2, h3⟩ := h.1
      unfold renW upd
      by_cases e : v.name = a
      · rw [if_pos e]
        rw [e, ha] at h1
        exact ⟨by rw [if_pos rfl]; exact h1, h2, h3⟩
      · have e2 : ¬ v.name = b := fun e2 => by rw [e2, hb] at h1; cases h1
        rw [if_neg e]
        exact ⟨by rw [if_neg e2, if_neg e]; exact h1, h2, h3⟩

theorem Runs.ren_to {a b : List UInt8} : ∀ {ws : List Wrt} {p q : List (List UInt8)}, (∀ w ∈ ws, w.name ≠ b) → Runs a ws p q → Runs b (ws.map (renW a b)) p q := by
  intro ws
  induction ws with
  | nil => intro p q _ h; exact h
  | cons v r ih =>
    intro p q hn h
    have hr := fun w hw => hn w (List.mem_cons_of_mem v hw)
    rw [List.map_cons]
    by_cases e : v.name = a
    · have ev : renW a b v = ⟨b, v.page, v.data⟩ := by unfold renW; rw [if_pos e]
      rw [ev]
      exact ⟨fun _ => ⟨(h.1 e).1, ih hr (h.1 e).2⟩, fun e2 => absurd rfl e2⟩
    · have ev : renW a b v = v := by unfold renW; rw [if_neg e]
      rw [ev]
      exact ⟨fun e2 => absurd e2 (hn v (by simp)), fun _ => ih hr (h.2 e)⟩

theorem Runs.ren_other {a b n : List UInt8} (h1 : n ≠ a) (h2 : n ≠ b) : ∀ {ws : List Wrt} {p q : List (List UInt8)}, Runs n ws p q → Runs n (ws.map (renW a b)) p q := by
  intro ws
  induction ws with
  | nil => intro p q h; exact h
  | cons v r ih =>
    intro p q h
    rw [List.map_cons]
    by_cases e : v.name = a
    · have ev : renW a b v = ⟨b, v.page, v.data⟩ := by unfold renW; rw [if_pos e]
      rw [ev]
      exact ⟨fun e2 => absurd e2.symm h2, fun _ => ih (h.2 (fun e2 => h1 (by rw [← e2, e])))⟩
    · have ev : renW a b v = v := by unfold renW; rw [if_neg e]
      rw [ev]
      exact ⟨fun e2 => ⟨(h.1 e2).1, ih (h.1 e2).2⟩, fun e2 => ih (h.2 e2)⟩

section
variable {P : Pd} {D : Dsk}

theorem pairs_names {q : Nums} : ∀ {l : List Pw} {r : List Wrt}, Pairs q l r → ∀ w ∈ r, (q w.name).isSome = true := by
  intro l
  induction l with
  | nil => intro r h w hw; cases r with
    | nil => cases hw
    | cons v t => exact h.elim
  | cons y t ih =>
    intro r h w hw
    cases r with
    | nil => cases hw
    | cons v t2 =>
      rcases List.mem_cons.1 hw with e | e
      · rw [e, h.1.1]; rfl
      · exact ih h.2 w e

/-- Whether the file is there or not. -/
theorem Abs.gone (h : Abs P D) (b : List UInt8) : Abs (dropP P b) (removes D b) ∧ (dropP P b).files b = none ∧ ∀ n, n ≠ b → (dropP P b).files n = P.files n := by
  cases hb : P.files b with
  | some j =>
    refine ⟨h.drop hb, ?_, fun n hn => ?_⟩
    · unfold dropP; rw [hb]; show upd P.files b none b = none; unfold upd; rw [if_pos rfl]
    · unfold dropP; rw [hb]; show upd P.files b none n = _; unfold upd; rw [if_neg hn]
  | none =>
    have hd : dropP P b = P := by unfold dropP; rw [hb]
    have hn1 : getF D.now b = none := by
      cases hg : getF D.now b with
      | none => rfl
      | some x => have := h.now.has b (by rw [hg]; rfl); rw [hb] at this; cases this
    have hn2 : getF D.safe b = none := by
      cases hg : getF D.safe b with
      | none => rfl
      | some x => have := h.safe.has b (by rw [hg]; rfl); rw [hb] at this; cases this
    have hw : dropW D.waits b 0 = D.waits := by
      unfold dropW
      rw [List.filter_eq_self]
      intro w hw
      have := pairs_names h.waits w hw
      exact decide_eq_true (.inl (fun e => by rw [e, hb] at this; cases this))
    have hr : removes D b = D := by unfold removes; rw [without_none hn1, without_none hn2, hw]
    rw [hd, hr]
    exact ⟨h, hb, fun n _ => rfl⟩

theorem dropP_named {a b : List UInt8} (hne : a ≠ b) : dropP { P with files := upd P.files a none } b = { dropP P b with files := upd (dropP P b).files a none } := by
  have e1 : upd P.files a none b = P.files b := by unfold upd; rw [if_neg (fun e => hne e.symm)]
  unfold dropP
  simp only
  rw [e1]
  cases hb : P.files b with
  | none => rfl
  | some j =>
    have e2 : upd (upd P.files a none) b none = upd (upd P.files b none) a none := by
      funext n
      unfold upd
      split <;> split <;> rfl
    show ({ shortenP { P with files := upd P.files a none } j 0 with files := upd (upd P.files a none) b none } : Pd) = { shortenP P j 0 with files := upd (upd P.files b none) a none }
    rw [e2]
    rfl

theorem Abs.rename (h : Abs P D) {a b : List UInt8} {k : Nat} (ha : P.files a = some k) (hne : a ≠ b) : Abs (renP P a b k) (renames D a b) := by
  obtain ⟨g, gb, go⟩ := h.gone b
  have hq : (dropP P b).files a = some k := by rw [go a hne]; exact ha
  have hr : renP P a b k = { dropP P b with files := upd (upd (dropP P b).files a none) b (some k) } := by
    unfold renP
    rw [dropP_named hne]
  rw [hr]
  generalize dropP P b = Q at *
  obtain ⟨n1, n2, n3, n4⟩ := ren_list (a := a) (b := b) h.now.once hne
  obtain ⟨s1, s2, s3, s4⟩ := ren_list (a := a) (b := b) h.safe.once hne
  have hwn : ∀ w ∈ dropW D.waits b 0, w.name ≠ b := fun w hw => by
    have := (List.mem_filter.1 hw).2
    simp only [decide_eq_true_eq] at this
    exact this.elim id (fun h => absurd h (Nat.not_lt_zero _))
  refine ⟨g.room, g.off, g.acts, g.fuse, g.keep, fun x y j hx hy => ?_, g.now.rename hq n1 n2 n3 n4, g.safe.rename hq s1 s2 s3 s4, fun n hn => ?_, g.waits.ren hq gb, fun n => ?_⟩
  · have hx : upd (upd Q.files a none) b (some k) x = some j := hx
    have hy : upd (upd Q.files a none) b (some k) y = some j := hy
    unfold upd at hx hy
    by_cases ex : x = b
    · by_cases ey : y = b
      · rw [ex, ey]
      · rw [if_pos ex] at hx
        rw [if_neg ey] at hy
        by_cases ey2 : y = a
        · rw [if_pos ey2] at hy; cases hy
        · rw [if_neg ey2] at hy
          injection hx with hx
          rw [← hx] at hy
          exact absurd (g.inj _ _ _ hy hq) ey2
    · rw [if_neg ex] at hx
      by_cases ex2 : x = a
      · rw [if_pos ex2] at hx; cases hx
      · rw [if_neg ex2] at hx
        by_cases ey : y = b
        · rw [if_pos ey] at hy
          injection hy with hy
          rw [← hy] at hx
          exact absurd (g.inj _ _ _ hx hq) ex2
        · rw [if_neg ey] at hy
          by_cases ey2 : y = a
          · rw [if_pos ey2] at hy; cases hy
          · rw [if_neg ey2] at hy
            exact g.inj _ _ _ hx hy
  · show (getF (putF (without D.now a) ⟨b, pagesF D.now a⟩) n).isSome = true
    have hn : (upd (upd Q.files a none) b (some k) n).isSome = true := hn
    unfold upd at hn
    rw [getF_put]
    by_cases e : n = b
    · rw [if_pos (by exact e)]; rfl
    · rw [if_neg e] at hn
      rw [if_neg (by exact e), getF_without]
      by_cases e2 : n = a
      · rw [if_pos e2] at hn; cases hn
      · rw [if_neg e2] at hn
        rw [if_neg e2]
        have := g.names n hn
        have this : (getF (without D.now b) n).isSome = true := this
        rw [getF_without, if_neg e] at this
        exact this
  · show Runs n ((dropW D.waits b 0).map (renW a b)) (pagesF (putF (without D.safe a) ⟨b, pagesF D.safe a⟩) n) (pagesF (putF (without D.now a) ⟨b, pagesF D.now a⟩) n)
    rw [n2, s2]
    by_cases e : n = b
    · rw [if_pos e, if_pos e, e]
      exact Runs.ren_to hwn (g.runs a)
    · rw [if_neg e, if_neg e]
      by_cases e2 : n = a
      · rw [if_pos e2, if_pos e2]
        refine Runs.none _ (fun w hw => ?_)
        obtain ⟨v, hv, rfl⟩ := List.mem_map.1 hw
        unfold renW
        split
        · rw [e2]; exact fun h => hne h.symm
        · rw [e2]; assumption
      · rw [if_neg e2, if_neg e2]
        exact Runs.ren_other e2 e (g.runs n)

theorem Abs.rename_same (h : Abs P D) {a : List UInt8} {k : Nat} (ha : P.files a = some k) : Abs (renP P a a k) D := by
  have e1 : upd P.files a none a = none := by unfold upd; rw [if_pos rfl]
  have hd : dropP { P with files := upd P.files a none } a = { P with files := upd P.files a none } := by unfold dropP; simp only; rw [e1]
  have hr : renP P a a k = P := by
    unfold renP
    rw [hd]
    have e2 : upd (upd P.files a none) a (some k) = P.files := by
      funext n
      unfold upd
      by_cases e : n = a
      · rw [if_pos e, e, ha]
      · rw [if_neg e, if_neg e]
    show ({ P with files := upd (upd P.files a none) a (some k) } : Pd) = P
    rw [e2]
  rw [hr]
  exact h

end

theorem rename_dk (B g N : Nat) (D : Dsk) (a b : List UInt8) (w : World) (h : Dk w B g N D) (ha : a.length ≤ 140737488355328) (hb : b.length ≤ 140737488355328) (hN : N + 4 ≤ 137438953472) :
    Calls Tryz.prog 63 #[.pointer (some ⟨g, 0, none⟩), .string ⟨a.toArray⟩, .string ⟨b.toArray⟩] w (DidD B g (N + 4) (renameD D a b).1 (.int .i64 ((renameD D a b).2 : Nat)) w) := by
  obtain ⟨P, ⟨hB, S, hR, hS⟩, h2⟩ := h
  obtain ⟨a1, a2⟩ : Abs (actR P a (fun k => renP (ticP P) a b k)).1 (renameD D a b).1 ∧ (actR P a (fun k => renP (ticP P) a b k)).2 = (renameD D a b).2 := by
    unfold renameD
    by_cases hne : a = b
    · subst hne
      have := act_abs h2 a (fun k => renP (ticP P) a a k) (fun D => D) (fun k hk => h2.tic.rename_same hk)
      rw [if_neg (fun h => h.2 rfl)]
      by_cases hz : (mayD D a).2 = 0
      · rw [if_pos hz] at this
        exact ⟨this.1, by rw [this.2, hz]⟩
      · rw [if_neg hz] at this
        exact this
    · have := act_abs h2 a (fun k => renP (ticP P) a b k) (fun D => renames D a b) (fun k hk => h2.tic.rename hk hne)
      by_cases hz : (mayD D a).2 = 0
      · rw [if_pos hz] at this
        rw [if_pos ⟨hz, hne⟩]
        exact this
      · rw [if_neg hz] at this
        rw [if_neg (fun h => hz h.1)]
        exact this
  rw [← a2]
  exact (rename_any g N S P a b w hR ha hb hN (fun _ _ => h2.room_ok hR.fits.nns _)).mono fun e w' h => dk_of a1 (did_of hB hS h)

end Go.Proofs.YtkbmajgbhpecgaaGreatDoor.Cd

/-
  What a loss of power leaves of pages that are written in their places: no Go in sight. Conditions: none.
-/
namespace Go.Proofs.YtkbmajgbhpecgaaGreatDoor.Cd

/-- The pages of file F may be these; the last one of each list is the page as it is. -/
structure Six (D : Dsk) (F : List UInt8) (L : Nat) (may : Nat → List (List UInt8)) : Prop where
  off : D.off = false
  is : (getF D.now F).isSome = true
  len : (pagesF D.now F).length = L
  last : ∀ p x, (pagesF D.now F)[p]? = some x → (may p).getLast? = some x
  sis : (getF D.safe F).isSome = true
  slen : (pagesF D.safe F).length = L
  safe : ∀ p x, (pagesF D.safe F)[p]? = some x → x ∈ may p
  waits : ∀ w ∈ D.waits, w.name = F → w.page < L ∧ w.data ∈ may w.page
/-- The power is off, and the pages are among these. -/
structure Gone (D : Dsk) (F : List UInt8) (L : Nat) (may : Nat → List (List UInt8)) : Prop where
  off : D.off = true
  len : (pagesF D.now F).length = L
  pages : ∀ p x, (pagesF D.now F)[p]? = some x → x ∈ may p

theorem Six.lose {D : Dsk} {F : List UInt8} {L : Nat} {may : Nat → List (List UInt8)} (h : Six D F L may) (keep : Nat) : Gone (lose D keep) F L may := by
  obtain ⟨q1, q2, q3⟩ := keeps_pages (keep := keep) (n := F) (L := L) D.waits 0 D.safe (fun w hw hn => (h.waits w hw hn).1) h.sis h.slen
  obtain ⟨f, hf⟩ := Option.isSome_iff_exists.1 q1
  have e : pagesF (Cd.lose D keep).now F = pagesF (keeps keep 0 D.waits D.safe) F := by
    rw [lose_now h.off]
    unfold pagesF
    rw [there_some _ _ _ _ hf, hf]
  refine ⟨lose_off _ _, by rw [e]; exact q2, fun p x hx => ?_⟩
  rw [e] at hx
  rcases q3 p x hx with h1 | ⟨w, hw, hn, hp, hd⟩
  · exact h.safe p x h1
  · rw [← hp, ← hd]
    exact (h.waits w hw hn).2

def more (may : Nat → List (List UInt8)) (p : Nat) (x : List UInt8) : Nat → List (List UInt8) := fun k => if k = p then may k ++ [x] else may k
theorem more_mem {may : Nat → List (List UInt8)} {p k : Nat} {x y : List UInt8} (h : y ∈ may k) : y ∈ more may p x k := by
  unfold more
  split
  · exact List.mem_append_left _ h
  · exact h

/-- A page is written: or the power goes. -/
theorem Six.write {D : Dsk} {F : List UInt8} {L : Nat} {may : Nat → List (List UInt8)} (h : Six D F L may) {p : Nat} (hp : p < L) {b : List UInt8} (hb : b.length ≤ 512) :
    ((writeD D F p b).2 = 0 ∧ Six (writeD D F p b).1 F L (more may p (pad b))) ∨ ((writeD D F p b).2 = 8 ∧ Gone (writeD D F p b).1 F L (more may p (pad b))) := by
  have hlen := h.len
  have hw : writeD D F p b = ends D (wrote D F p b) 0 := by
    unfold writeD
    rw [if_neg (by rw [h.off]; simp), if_neg (by omega), if_neg (by omega), if_neg (by omega), Int.toNat_natCast]
  have hsix : Six (wrote D F p b) F L (more may p (pad b)) := by
    have e : pagesF (wrote D F p b).now F = (pagesF D.now F).set p (pad b) := by
      show pagesF (putF D.now ⟨F, setP (pagesF D.now F) p (pad b)⟩) F = _
      rw [pagesF_put, if_pos rfl, setP_in (by rw [hlen]; exact hp)]
    refine ⟨h.off, by show (getF (putF _ _) F).isSome = true; rw [getF_put, if_pos rfl]; rfl, by rw [e, List.length_set]; exact hlen, fun q x hx => ?_, h.sis, h.slen, fun q x hx => more_mem (h.safe q x hx), fun w hw hn => ?_⟩
    · rw [e, List.getElem?_set] at hx
      unfold more
      by_cases eq : p = q
      · rw [if_pos eq] at hx
        rw [if_pos eq.symm]
        split at hx
        · injection hx with hx
          rw [List.getLast?_append, ← hx]
          rfl
        · cases hx
      · rw [if_neg eq] at hx
        rw [if_neg (fun h2 => eq h2.symm)]
        exact h.last q x hx
    · have hw : w ∈ D.waits ++ [⟨F, p, pad b⟩] := hw
      rcases List.mem_append.1 hw with h1 | h1
      · exact ⟨(h.waits w h1 hn).1, more_mem (h.waits w h1 hn).2⟩
      · rw [List.mem_singleton] at h1
        rw [h1]
        exact ⟨hp, by unfold more; rw [if_pos rfl]; simp⟩
  rw [hw]
  unfold ends
  by_cases hf : D.fuse = 1
  · rw [if_pos hf]
    exact .inr ⟨rfl, hsix.lose _⟩
  · rw [if_neg hf]
    exact .inl ⟨rfl, hsix⟩

theorem may_ok {D : Dsk} {n : List UInt8} (h : D.off = false) (h2 : (getF D.now n).isSome = true) : mayD D n = ends D (actD D) 0 := by
  unfold mayD
  rw [if_neg (by rw [h]; simp), if_neg (by rw [h2]; simp)]

/-- The file is synced: or the power goes. -/
theorem Six.sync {D : Dsk} {F : List UInt8} {L : Nat} {may : Nat → List (List UInt8)} (h : Six D F L may) :
    ((syncD D F).2 = 0 ∧ ∀ may' : Nat → List (List UInt8), (∀ p x, (may p).getLast? = some x → may' p = [x]) → Six (syncD D F).1 F L may') ∨ ((syncD D F).2 = 8 ∧ Gone (syncD D F).1 F L may) := by
  unfold syncD
  rw [may_ok h.off h.is]
  unfold ends
  by_cases hf : D.fuse = 1
  · rw [if_pos hf, if_neg (by simp)]
    have h2 : Six (actD D) F L may := ⟨h.off, h.is, h.len, h.last, h.sis, h.slen, h.safe, h.waits⟩
    exact .inr ⟨rfl, h2.lose _⟩
  · rw [if_neg hf, if_pos rfl]
    refine .inl ⟨rfl, fun may' hm => ?_⟩
    have e : pagesF (syncs (actD D) F).safe F = pagesF D.now F := by
      show pagesF (putF _ ⟨F, pagesF D.now F⟩) F = _
      rw [pagesF_put, if_pos rfl]
    refine ⟨h.off, h.is, h.len, fun p x hx => ?_, by show (getF (putF _ _) F).isSome = true; rw [getF_put, if_pos rfl]; rfl, by rw [e]; exact h.len, fun p x hx => ?_, fun w hw hn => ?_⟩
    · rw [hm p x (h.last p x hx)]; rfl
    · rw [e] at hx
      rw [hm p x (h.last p x hx)]
      simp
    · have hw : w ∈ dropW D.waits F 0 := hw
      unfold dropW at hw
      have := (List.mem_filter.1 hw).2
      simp only [decide_eq_true_eq] at this
      rcases this with h1 | h1
      · exact absurd hn h1
      · omega

theorem Gone.read {D : Dsk} {F : List UInt8} {L : Nat} {may : Nat → List (List UInt8)} (h : Gone D F L may) {p : Nat} (hp : p < L) : ∃ x, readD (onD D) F p = (x, 0) ∧ x ∈ may p := by
  have hl := h.len
  obtain ⟨x, hx⟩ : ∃ x, (pagesF D.now F)[p]? = some x := ⟨_, List.getElem?_eq_getElem (by omega)⟩
  refine ⟨x, ?_, h.pages p x hx⟩
  unfold readD
  rw [if_neg (by show ¬ false = true; simp), if_neg (by show ¬ ((p : Int) < 0 ∨ ((pagesF D.now F).length : Int) ≤ p); omega), Int.toNat_natCast]
  show ((pagesF D.now F).getD p [], 0) = _
  rw [List.getD_eq_getElem?_getD, hx]
  rfl

end Go.Proofs.YtkbmajgbhpecgaaGreatDoor.Cd

/-
  What the calls leave of files that are written at their ends, cut, renamed and removed: no Go in sight. Conditions: none.
-/
namespace Go.Proofs.YtkbmajgbhpecgaaGreatDoor.Cd

/-! ### Writes at the end -/

theorem write_end {D : Dsk} {n b : List UInt8} (h : D.off = false) (hb : b.length ≤ 512) (hf : freeD D ≠ 0) :
    writeD D n ((pagesF D.now n).length : Nat) b = ends D (wrote D n (pagesF D.now n).length b) 0 := by
  unfold writeD
  rw [if_neg (by rw [h]; simp), if_neg (by omega), if_neg (by omega), if_neg (fun h2 => hf h2.2), Int.toNat_natCast]
theorem write_full {D : Dsk} {n b : List UInt8} (h : D.off = false) (hb : b.length ≤ 512) (hf : freeD D = 0) : writeD D n ((pagesF D.now n).length : Nat) b = (D, 7) := by
  unfold writeD
  rw [if_neg (by rw [h]; simp), if_neg (by omega), if_neg (by omega), if_pos ⟨rfl, hf⟩]
theorem ends_calm {D D1 : Dsk} {e : Nat} (h : D.fuse ≠ 1) : ends D D1 e = (D1, e) := if_neg h

theorem wrote_pages (D : Dsk) (n b : List UInt8) (m : List UInt8) : pagesF (wrote D n (pagesF D.now n).length b).now m = if m = n then pagesF D.now n ++ [pad b] else pagesF D.now m := by
  show pagesF (putF D.now ⟨n, setP (pagesF D.now n) (pagesF D.now n).length (pad b)⟩) m = _
  rw [pagesF_put, setP_end]
theorem wrote_is (D : Dsk) (n b : List UInt8) (i : Nat) (m : List UInt8) : (getF (wrote D n i b).now m).isSome = if m = n then true else (getF D.now m).isSome := by
  show (getF (putF D.now ⟨n, setP (pagesF D.now n) i (pad b)⟩) m).isSome = _
  rw [getF_put]
  by_cases e : m = n
  · rw [if_pos e, if_pos (by exact e)]; rfl
  · rw [if_neg e, if_neg (by exact e)]
theorem wrote_count {D : Dsk} (h : Once D.now) (n b : List UInt8) : count (wrote D n (pagesF D.now n).length b).now = count D.now + 1 := by
  have := count_put h ⟨n, setP (pagesF D.now n) (pagesF D.now n).length (pad b)⟩
  rw [setP_end] at this
  show count (putF D.now ⟨n, setP (pagesF D.now n) (pagesF D.now n).length (pad b)⟩) = _
  rw [setP_end]
  simp only [List.length_append, List.length_singleton] at this
  omega
theorem wrote_once {D : Dsk} (h : Once D.now) (n b : List UInt8) (i : Nat) : Once (wrote D n i b).now := put_once h _

theorem sync_calm {D : Dsk} {n : List UInt8} (h : D.off = false) (h2 : (getF D.now n).isSome = true) (hf : D.fuse ≠ 1) : syncD D n = (syncs (actD D) n, 0) := by
  unfold syncD
  rw [may_ok h h2, ends_calm hf, if_pos rfl]
theorem cut_calm {D : Dsk} {n : List UInt8} (h : D.off = false) (h2 : (getF D.now n).isSome = true) (hf : D.fuse ≠ 1) (k : Nat) : cutD D n k = (cuts (actD D) n k, 0) := by
  unfold cutD
  rw [if_neg (by omega), may_ok h h2, ends_calm hf, if_pos rfl, Int.toNat_natCast]
theorem remove_calm {D : Dsk} {n : List UInt8} (h : D.off = false) (h2 : (getF D.now n).isSome = true) (hf : D.fuse ≠ 1) : removeD D n = (removes (actD D) n, 0) := by
  unfold removeD
  rw [may_ok h h2, ends_calm hf, if_pos rfl]

/-! ### Room -/

structure Roomy (D : Dsk) (room k : Nat) : Prop where
  off : D.off = false
  fuse : D.fuse = 0
  once : Once D.now
  room : D.room = room
  count : count D.now = k

theorem new_roomy {room : Nat} (h : room ≤ 4096) : Roomy (newD room) room 0 :=
  ⟨rfl, rfl, once_nil, by show (if (room : Int) < 0 then 0 else if (4096 : Int) < room then 4096 else (room : Int).toNat) = room; rw [if_neg (by omega), if_neg (by omega), Int.toNat_natCast], rfl⟩
theorem Roomy.free {D : Dsk} {room k : Nat} (h : Roomy D room k) : freeD D = (room : Int) - k := by unfold freeD; rw [h.room, h.count]
theorem Roomy.write {D : Dsk} {room k : Nat} (h : Roomy D room k) (hk : k < room) {n b : List UInt8} (hb : b.length ≤ 512) :
    (writeD D n ((pagesF D.now n).length : Nat) b).2 = 0 ∧ Roomy (writeD D n ((pagesF D.now n).length : Nat) b).1 room (k + 1) := by
  have hf := h.free
  rw [write_end h.off hb (by omega), ends_calm (by rw [h.fuse]; omega)]
  exact ⟨rfl, h.off, by show D.fuse - 1 = 0; rw [h.fuse], wrote_once h.once _ _ _, h.room, by rw [wrote_count h.once, h.count]⟩
theorem Roomy.full {D : Dsk} {room : Nat} (h : Roomy D room room) {n b : List UInt8} (hb : b.length ≤ 512) : writeD D n ((pagesF D.now n).length : Nat) b = (D, 7) :=
  write_full h.off hb (by rw [h.free]; omega)
theorem pages_of_none {l : List Fil} {n : List UInt8} (h : (getF l n).isSome = false) : pagesF l n = [] := by
  unfold pagesF
  cases hg : getF l n with
  | none => rfl
  | some f => rw [hg] at h; cases h
theorem Roomy.cut {D : Dsk} {room k : Nat} (h : Roomy D room k) {n : List UInt8} (h2 : (getF D.now n).isSome = true) (j : Nat) (hj : j ≤ (pagesF D.now n).length) :
    (cutD D n j).2 = 0 ∧ (getF (cutD D n j).1.now n).isSome = true ∧ (pagesF (cutD D n j).1.now n).length = j ∧ Roomy (cutD D n j).1 room (k - ((pagesF D.now n).length - j)) ∧ (pagesF D.now n).length ≤ k := by
  rw [cut_calm h.off h2 (by rw [h.fuse]; omega)]
  have hc := count_put h.once ⟨n, (pagesF D.now n).take j⟩
  simp only [List.length_take, Nat.min_eq_left hj] at hc
  have hw := count_without h.once n
  have hk := h.count
  refine ⟨rfl, ?_, ?_, ⟨h.off, by show D.fuse - 1 = 0; rw [h.fuse], put_once h.once _, h.room, ?_⟩, by omega⟩
  · show (getF (putF D.now _) n).isSome = true
    rw [getF_put, if_pos rfl]; rfl
  · show (pagesF (putF D.now ⟨n, (pagesF D.now n).take j⟩) n).length = j
    rw [pagesF_put, if_pos rfl]
    show ((pagesF D.now n).take j).length = j
    rw [List.length_take]; omega
  · show Cd.count (putF D.now ⟨n, (pagesF D.now n).take j⟩) = _
    omega
theorem Roomy.remove {D : Dsk} {room k : Nat} (h : Roomy D room k) {n : List UInt8} (h2 : (getF D.now n).isSome = true) :
    (removeD D n).2 = 0 ∧ Roomy (removeD D n).1 room (k - (pagesF D.now n).length) ∧ (pagesF D.now n).length ≤ k := by
  rw [remove_calm h.off h2 (by rw [h.fuse]; omega)]
  have hw := count_without h.once n
  have hk := h.count
  exact ⟨rfl, ⟨h.off, by show D.fuse - 1 = 0; rw [h.fuse], without_once h.once _, h.room, by show Cd.count (without D.now n) = _; omega⟩, by omega⟩

/-! ### One file alone -/

theorem put_one (F : List UInt8) (a b : List (List UInt8)) : putF [⟨F, a⟩] ⟨F, b⟩ = [⟨F, b⟩] := by
  have : ¬ (F < F) := List.lt_irrefl F
  simp [putF, without, this]
theorem get_one (F : List UInt8) (a : List (List UInt8)) : getF [⟨F, a⟩] F = some ⟨F, a⟩ := by simp [getF]
theorem pages_one (F : List UInt8) (a : List (List UInt8)) : pagesF [⟨F, a⟩] F = a := by simp [pagesF, getF]

theorem keeps_one {keep : Nat} {F : List UInt8} (ws : List Wrt) : ∀ (i : Nat) (a : List (List UInt8)), (∀ w ∈ ws, w.name = F) → ∃ b, keeps keep i ws [⟨F, a⟩] = [⟨F, b⟩] := by
  induction ws with
  | nil => intro i a _; exact ⟨a, rfl⟩
  | cons w r ih =>
    intro i a h
    have hn := h w (by simp)
    rw [keeps]
    split
    · rw [hn, put_one]
      exact ih _ _ (fun x hx => h x (List.mem_cons_of_mem w hx))
    · exact ih _ _ (fun x hx => h x (List.mem_cons_of_mem w hx))

/-- A disk that has one file, and whose writes are all that file's: behind a loss of power it has that file, of at most as many pages as the writes lie in. -/
theorem lose_one {D : Dsk} {F : List UInt8} {a s : List (List UInt8)} {L : Nat} (h : D.off = false) (hn : D.now = [⟨F, a⟩]) (hs : D.safe = [⟨F, s⟩]) (hw : ∀ w ∈ D.waits, w.name = F ∧ w.page < L) (hl : s.length ≤ L) (keep : Nat) :
    ∃ b, (lose D keep).now = [⟨F, b⟩] ∧ b.length ≤ L ∧ (D.waits = [] → b = s) := by
  obtain ⟨b, hb⟩ := keeps_one (keep := keep) (F := F) D.waits 0 s (fun w hx => (hw w hx).1)
  have hsh := keeps_short (keep := keep) (n := F) (L := L) D.waits 0 D.safe (fun w hx _ => (hw w hx).2) (by rw [hs, pages_one]; exact hl)
  refine ⟨b, ?_, ?_, fun hq => ?_⟩
  · rw [lose_now h, hs, hb, hn]
    simp [there, get_one]
  · rw [hs, hb, pages_one] at hsh
    exact hsh
  · rw [hq] at hb
    have hb : [(⟨F, s⟩ : Fil)] = [⟨F, b⟩] := hb
    injection hb with hb
    injection hb with _ hb
    exact hb.symm

end Go.Proofs.YtkbmajgbhpecgaaGreatDoor.Cd

/-
  A disk whose blocks are those of a set: Cut, Remove, Rename, and what is asked of it. Conditions: none.
-/
namespace Go.Proofs.YtkbmajgbhpecgaaGreatDoor.Cd
open Go.RowKit

/-- The disk D lies at g, its blocks are those of S. -/
def DkS (w : World) (g N : Nat) (S : Nat → Prop) (D : Dsk) : Prop := ∃ P, Rep w g S P N ∧ Abs P D

/-- What a call leaves that makes the disk another one and answers v. -/
def MakesD (g N : Nat) (S : Nat → Prop) (D : Dsk) (v : Value) (w : World) (e : Ending) (w' : World) : Prop := e = .returned v ∧ DkS w' g N (since S w w') D ∧ Apart S w w'

section
variable {w w' : World} {g N M : Nat} {S : Nat → Prop} {D : Dsk}

theorem DkS.below (h : DkS w g N S D) (hb : Below w.heap.size w w') : DkS w' g N S D := by
  obtain ⟨P, h1, h2⟩ := h
  exact ⟨P, h1.below hb h1.lt, h2⟩

theorem DkS.lt (h : DkS w g N S D) : ∀ k, S k → k < w.heap.size := by
  obtain ⟨P, h1, _⟩ := h
  exact h1.lt

theorem DkS.mono (h : DkS w g N S D) (hN : N ≤ M) (hM : M ≤ 137438953472) : DkS w g M S D := by
  obtain ⟨P, h1, h2⟩ := h
  exact ⟨P, h1.mono hN hM, h2⟩

/-- What turns nothing of the set's blocks leaves the disk as it was. -/
theorem DkS.apart {T : Nat → Prop} (h : DkS w g N S D) (ha : Apart T w w') (hd : ∀ k, S k → ¬ T k) : DkS w' g N S D := by
  obtain ⟨P, h1, h2⟩ := h
  exact ⟨P, h1.apart ha hd, h2⟩

theorem makesD_of {P : Pd} {v : Value} {e : Ending} (ha : Abs P D) (h : Makes g S P N v w e w') : MakesD g N S D v w e w' := ⟨h.1, ⟨P, h.2.1, ha⟩, h.2.2⟩

end

theorem new_dks (room : Int) (w : World) (h1 : -9223372036854775808 ≤ room) (h2 : room ≤ 9223372036854775807) :
    Calls Tryz.prog 8 #[.int .i64 room] w (fun e w' => ∃ g S, e = .returned (.pointer (some ⟨g, 0, none⟩)) ∧ DkS w' g 0 S (newD room) ∧ (∀ k, S k → w.heap.size ≤ k) ∧ Below w.heap.size w w') := by
  refine (new_disk room w h1 h2).mono ?_
  rintro e w' ⟨g, S, rfl, hr, hS, hb⟩
  exact ⟨g, S, rfl, ⟨_, hr, fresh_abs room⟩, hS, hb⟩

section
variable (g N : Nat) (S : Nat → Prop) (D : Dsk) (s : List UInt8) (w : World)

theorem write_dks (bs : List UInt8) (i : Int) (b : Value) (h : DkS w g N S D) (hb : Sl w w.heap.size b bs) (hbS : 0 < bs.length → ∀ A n c, b = .slice (some A) n c → ¬ S A.block) (hs : s.length ≤ 140737488355328) (hi2 : i ≤ 9223372036854775807) (hN : N + 4 ≤ 137438953472) :
    Calls Tryz.prog 26 #[.pointer (some ⟨g, 0, none⟩), .string ⟨s.toArray⟩, .int .i64 i, b] w (MakesD g (N + 4) S (writeD D s i bs).1 (.int .i64 ((writeD D s i bs).2 : Nat)) w) := by
  obtain ⟨P, hR, h2⟩ := h
  obtain ⟨a1, a2⟩ := write_abs h2 hR.fits s bs i
  rw [← a2]
  have hcn : countR P s ≤ P.nn := by
    cases hoff : P.off
    · exact h2.counted hoff s
    · unfold countR; rw [if_pos hoff]; exact Nat.zero_le _
  exact (write_any g N S P s bs i b w hR hs hb hbS hi2 hN hcn (fun _ ho hi hf x => write_room h2 hR.fits s i ho hi hf x)).mono fun e w' h => makesD_of a1 h

theorem sync_dks (h : DkS w g N S D) (hs : s.length ≤ 140737488355328) (hN : N + 4 ≤ 137438953472) :
    Calls Tryz.prog 62 #[.pointer (some ⟨g, 0, none⟩), .string ⟨s.toArray⟩] w (MakesD g (N + 4) S (syncD D s).1 (.int .i64 ((syncD D s).2 : Nat)) w) := by
  obtain ⟨P, hR, h2⟩ := h
  obtain ⟨a1, a2⟩ := act_abs h2 s (fun k => settleP (ticP P) k) (fun D => syncs D s) (fun k hk => h2.tic.settle hk)
  have a2 : _ = (syncD D s).2 := a2
  rw [← a2]
  exact (sync_any g N S P s w hR hs hN (fun _ _ => h2.room_ok hR.fits.nns _)).mono fun e w' h => makesD_of a1 h

theorem off_dks (keep : Nat) (h : DkS w g N S D) (hk : keep < 18446744073709551616) :
    Calls Tryz.prog 20 #[.pointer (some ⟨g, 0, none⟩), .int .u64 keep] w (MakesD g N S (lose D keep) (.tuple #[]) w) := by
  obtain ⟨P, h1, h2⟩ := h
  have a1 : Abs (offP P keep) (lose D keep) := by
    unfold offP
    by_cases ho : P.off = true
    · rw [if_pos ho, lose_again (by rw [h2.off]; exact ho)]; exact h2
    · rw [if_neg ho]; exact h2.lose (by simpa using ho) keep
  exact (off_any g N keep S P w h1 hk (fun _ => h2.room_ok h1.fits.nns _)).mono fun e w' h => makesD_of a1 h

theorem on_dks (h : DkS w g N S D) : Calls Tryz.prog 17 #[.pointer (some ⟨g, 0, none⟩)] w (MakesD g N S (onD D) (.tuple #[]) w) := by
  obtain ⟨P, h1, h2⟩ := h
  exact (on_any g N S P w h1).mono fun e w' h => makesD_of (P := { P with off := false }) (D := onD D) ⟨h2.room, rfl, h2.acts, h2.fuse, h2.keep, h2.inj, h2.now, h2.safe, h2.names, h2.waits, h2.runs⟩ h

theorem arm_dks (n : Int) (k : Nat) (h : DkS w g N S D) (hn : n ≤ 9223372036854775807) (hk : k < 18446744073709551616) :
    Calls Tryz.prog 13 #[.pointer (some ⟨g, 0, none⟩), .int .i64 n, .int .u64 k] w (MakesD g N S (armD D n k) (.tuple #[]) w) := by
  obtain ⟨P, h1, h2⟩ := h
  exact (arm_any g N S P n k w h1 hn hk).mono fun e w' h => makesD_of (P := { P with fuse := n.toNat, keep := k }) (D := armD D n k) ⟨h2.room, h2.off, h2.acts, rfl, rfl, h2.inj, h2.now, h2.safe, h2.names, h2.waits, h2.runs⟩ h

/-- What Read leaves, as the document tells it. -/
def ReadsD (D : Dsk) (s : List UInt8) (i : Int) (w : World) (e : Ending) (w' : World) : Prop :=
  (∃ p, readD D s i = (p, 0) ∧ p.length = 512 ∧ e = .returned (.tuple #[.slice (some ⟨w.heap.size, 0, none⟩) 512 512, .int .i64 0]) ∧ w' = w.alloc (.cells (vb p).toArray 110)) ∨
    ∃ n : Nat, n ≠ 0 ∧ readD D s i = ([], n) ∧ e = .returned (.tuple #[.slice none 0 0, .int .i64 n]) ∧ Below w.heap.size w w'

theorem readR_abs {P : Pd} {D : Dsk} (h : Abs P D) (s : List UInt8) (i : Int) : readR P s i = readD D s i := by
  unfold readR readD
  rw [h.off]
  by_cases ho : P.off = true
  · rw [if_pos ho, if_pos ho]
  · rw [if_neg ho, if_neg ho]
    cases hq : P.files s with
    | none =>
      have := h.is s
      rw [hq] at this
      rw [pages_of_none this.symm, if_pos (by simp only [List.length_nil]; omega)]
    | some k =>
      have e : P.now k = pagesF D.now s := h.now.pages s k hq
      simp only
      unfold lst
      by_cases h0 : 0 ≤ i
      · rw [if_pos h0]
        show (match (P.now k)[i.toNat]? with | none => _ | some p => _) = _
        rw [e]
        by_cases hl : ((pagesF D.now s).length : Int) ≤ i
        · rw [if_pos (.inr hl), List.getElem?_eq_none (by omega)]
        · rw [if_neg (by omega), List.getElem?_eq_getElem (by omega), List.getD_eq_getElem?_getD, List.getElem?_eq_getElem (by omega)]
          rfl
      · rw [if_neg h0, if_pos (by omega)]

theorem read_dks (i : Int) (h : DkS w g N S D) (hs : s.length ≤ 140737488355328) (hi : (Lit.int .i64 i).wf = true) :
    Calls Tryz.prog 65 #[.pointer (some ⟨g, 0, none⟩), .string ⟨s.toArray⟩, .int .i64 i] w (ReadsD D s i w) := by
  obtain ⟨P, h1, h2⟩ := h
  refine (read_disk g N S P s i w h1 hs hi).mono ?_
  intro e w' hr
  unfold ReadIs at hr
  rw [readR_abs h2] at hr
  exact hr

end

end Go.Proofs.YtkbmajgbhpecgaaGreatDoor.Cd

namespace Go.Proofs.YtkbmajgbhpecgaaGreatDoor.Cd
open Go.RowKit

section
variable (g N : Nat) (S : Nat → Prop) (D : Dsk) (s : List UInt8) (w : World)

theorem remove_dks (h : DkS w g N S D) (hs : s.length ≤ 140737488355328) (hN : N + 4 ≤ 137438953472) :
    Calls Tryz.prog 53 #[.pointer (some ⟨g, 0, none⟩), .string ⟨s.toArray⟩] w (MakesD g (N + 4) S (removeD D s).1 (.int .i64 ((removeD D s).2 : Nat)) w) := by
  obtain ⟨P, hR, h2⟩ := h
  obtain ⟨a1, a2⟩ := act_abs h2 s (fun _ => dropP (ticP P) s) (fun D => removes D s) (fun k hk => h2.tic.drop hk)
  have a2 : _ = (removeD D s).2 := a2
  rw [← a2]
  exact (remove_any g N S P s w hR hs hN (fun _ _ => h2.room_ok hR.fits.nns _)).mono fun e w' h => makesD_of a1 h

theorem free_dks (h : DkS w g N S D) : Calls Tryz.prog 12 #[.pointer (some ⟨g, 0, none⟩)] w (Says (.int .i64 (freeD D)) w) := by
  obtain ⟨P, h1, h2⟩ := h
  rw [← h2.free]
  exact free_any g N S P w h1

theorem count_dks (h : DkS w g N S D) (ho : D.off = false) (hs : s.length ≤ 140737488355328) :
    Calls Tryz.prog 38 #[.pointer (some ⟨g, 0, none⟩), .string ⟨s.toArray⟩] w (fun e w' => e = .returned (.int .i64 ((pagesF D.now s).length : Nat)) ∧ w' = w) := by
  obtain ⟨P, h1, h2⟩ := h
  rw [← h2.count (by rw [← h2.off]; exact ho)]
  exact count_any g N S P s w h1 hs

theorem has_dks (h : DkS w g N S D) (ho : D.off = false) (hs : s.length ≤ 140737488355328) :
    Calls Tryz.prog 51 #[.pointer (some ⟨g, 0, none⟩), .string ⟨s.toArray⟩] w (fun e w' => e = .returned (.bool (getF D.now s).isSome) ∧ w' = w) := by
  obtain ⟨P, hR, h2⟩ := h
  have he : hasR P s = (getF D.now s).isSome := by unfold hasR; rw [← h2.is s, ← h2.off, ho]; rfl
  rw [← he]
  exact has_any g N S P s w hR hs

/-- With the power off there is no file. -/
theorem count_dks_off (h : DkS w g N S D) (ho : D.off = true) (hs : s.length ≤ 140737488355328) :
    Calls Tryz.prog 38 #[.pointer (some ⟨g, 0, none⟩), .string ⟨s.toArray⟩] w (fun e w' => e = .returned (.int .i64 0) ∧ w' = w) := by
  obtain ⟨P, h1, h2⟩ := h
  have hc : countR P s = 0 := by unfold countR; rw [if_pos (by rw [← h2.off]; exact ho)]
  have h := count_any g N S P s w h1 hs
  rw [hc] at h
  exact h

theorem has_dks_off (h : DkS w g N S D) (ho : D.off = true) (hs : s.length ≤ 140737488355328) :
    Calls Tryz.prog 51 #[.pointer (some ⟨g, 0, none⟩), .string ⟨s.toArray⟩] w (fun e w' => e = .returned (.bool false) ∧ w' = w) := by
  obtain ⟨P, hR, h2⟩ := h
  have he : hasR P s = false := by unfold hasR; rw [← h2.off, ho]; rfl
  have h := has_any g N S P s w hR hs
  rw [he] at h
  exact h

theorem acts_dks (h : DkS w g N S D) : Calls Tryz.prog 27 #[.pointer (some ⟨g, 0, none⟩)] w (fun e w' => e = .returned (.int .i64 D.acts) ∧ w' = w) := by
  obtain ⟨P, h1, h2⟩ := h
  rw [h2.acts]
  exact acts_any g N S P w h1

theorem down_dks (h : DkS w g N S D) : Calls Tryz.prog 16 #[.pointer (some ⟨g, 0, none⟩)] w (fun e w' => e = .returned (.bool D.off) ∧ w' = w) := by
  obtain ⟨P, h1, h2⟩ := h
  rw [h2.off]
  exact down_any g N S P w h1

end

theorem rename_dks (g N : Nat) (S : Nat → Prop) (D : Dsk) (a b : List UInt8) (w : World) (h : DkS w g N S D) (ha : a.length ≤ 140737488355328) (hb : b.length ≤ 140737488355328) (hN : N + 4 ≤ 137438953472) :
    Calls Tryz.prog 63 #[.pointer (some ⟨g, 0, none⟩), .string ⟨a.toArray⟩, .string ⟨b.toArray⟩] w (MakesD g (N + 4) S (renameD D a b).1 (.int .i64 ((renameD D a b).2 : Nat)) w) := by
  obtain ⟨P, hR, h2⟩ := h
  obtain ⟨a1, a2⟩ : Abs (actR P a (fun k => renP (ticP P) a b k)).1 (renameD D a b).1 ∧ (actR P a (fun k => renP (ticP P) a b k)).2 = (renameD D a b).2 := by
    unfold renameD
    by_cases hne : a = b
    · subst hne
      have := act_abs h2 a (fun k => renP (ticP P) a a k) (fun D => D) (fun k hk => h2.tic.rename_same hk)
      rw [if_neg (fun h => h.2 rfl)]
      by_cases hz : (mayD D a).2 = 0
      · rw [if_pos hz] at this
        exact ⟨this.1, by rw [this.2, hz]⟩
      · rw [if_neg hz] at this
        exact this
    · have := act_abs h2 a (fun k => renP (ticP P) a b k) (fun D => renames D a b) (fun k hk => h2.tic.rename hk hne)
      by_cases hz : (mayD D a).2 = 0
      · rw [if_pos hz] at this
        rw [if_pos ⟨hz, hne⟩]
        exact this
      · rw [if_neg hz] at this
        rw [if_neg (fun h => hz h.1)]
        exact this
  rw [← a2]
  exact (rename_any g N S P a b w hR ha hb hN (fun _ _ => h2.room_ok hR.fits.nns _)).mono fun e w' h => makesD_of a1 h

end Go.Proofs.YtkbmajgbhpecgaaGreatDoor.Cd

/-
  code.Uint: a number's bytes behind bytes. Conditions: none.
-/
namespace Go.Proofs.YtkbmajgbhpecgaaGreatDoor.Cd
open Go.RowKit

theorem hi_byte (n : Nat) (hn : n < 18446744073709551616) : bits BinOp.or IntKind.u64 (bits BinOp.and IntKind.u64 (n : Int) 127) 128 % 256 = ((hi8 n).toNat : Int) := by
  have h1 := u64_and_nat n 127 hn (by omega)
  have h2 : n &&& 127 = n % 128 := Nat.and_two_pow_sub_one_eq_mod n 7
  have h3 := u64_or_nat (n % 128) 128 (by omega) (by omega)
  have h4 : n % 128 ||| 128 = 128 + n % 128 := by
    have := Nat.two_pow_add_eq_or_of_lt (i := 7) (b := n % 128) (by omega) 1
    rw [Nat.or_comm]
    simpa using this.symm
  rw [h2] at h1
  rw [h4] at h3
  rw [show (127 : Int) = ((127 : Nat) : Int) from rfl, h1, show (128 : Int) = ((128 : Nat) : Int) from rfl, h3, hi8_nat]
  omega

/-- One new cell that is a byte. -/
theorem one_byte (w : World) (x : Int) (b : UInt8) (hx : x = (b.toNat : Int)) : ∀ j u, (vb [b])[j]? = some u → (w.alloc (.cells #[.int .u8 x] 5)).cell? (({ block := w.heap.size, off := 0 } : Addr).add j) = some u := by
  subst hx
  intro j u hu
  have hj := (List.getElem?_eq_some_iff.1 hu).1
  simp [vb] at hj
  subst hj
  simp [vb] at hu
  subst hu
  exact cell_one_new _ _ _ 0 _ rfl

set_option maxHeartbeats 400000 in
theorem uint_any (v : Value) (bs : List UInt8) (k : Nat) (w : World) (hs : Sl w w.heap.size v bs) (hk : k < 18446744073709551616) (hb : bs.length + 10 ≤ 140737488355328) :
    Calls Tryz.prog 85 #[v, .int .u64 k] w (Wrote w (bs ++ enc k)) := by
  have hl := enc_u64 k hk
  obtain ⟨A, c, rfl, h2, h3, h4, h5, h6⟩ := hs
  have H4 := Lib.hid h4
  have H6 := Lib.hid h6
  have H5 := Lib.hid h5
  clear h4 h6 h5
  go_enter Tryz.func85, Tryz.ntmps85
  go_wp2
  go_loopw [1, 5] (fun m o wr => ∃ (n : Nat) (ds : List UInt8), m = .int .u64 n ∧ n < 18446744073709551616 ∧ ds.length + (enc n).length ≤ 10 ∧ Hid (enc k = ds ++ enc n) ∧ Out wr w.heap.size o (bs ++ ds) ∧ Below w.heap.size w wr) (fun m _ _ => (intOf m).toNat)
  case atStart => exact ⟨k, [], rfl, hk, by simpa using hl, rfl, .inr ⟨A, by simp, fun hA => by have := H4.out hA; simpa using List.eq_nil_of_length_eq_zero (by omega : bs.length = 0), by simpa using H6.out⟩, Below.refl _ _⟩
  case round =>
    obtain ⟨n, ds, rfl, hn, hd, hh, ho, hbel⟩ := hrel
    have hB := hbel.size
    by_cases hc : 127 < n
    · have hx := hi_byte n hn
      have HX := Lib.hid hx
      have HE : Hid (enc n = hi8 n :: enc (n / 128)) := enc_hi (by omega)
      have HL : ds.length + 1 + (enc (n / 128)).length ≤ 10 := by have := HE.out; rw [this] at hd; simp at hd; omega
      clear hx
      go_wp2_with (at_builtin; refine wp_append_out rfl _ _ rfl w.heap.size _ (bs ++ ds) rfl ?ho ?hB ⟨wr.heap.size, 0, none⟩ 1 [hi8 n] rfl ?h1 ?hn ?hm ?hK)
      case ho => exact ho.alloc _
      case hB => simp; omega
      case h1 => simp
      case hn => exact one_byte _ _ _ HX.out
      case hm => simp; omega
      case hK =>
        intro v' w' hown hb'
        go_wp2
        go_roundw
        case rel =>
          refine ⟨n / 128, ds ++ [hi8 n], by go_num, by omega, by simp; omega, ?_, .inl (by simpa using hown), (hbel.alloc hB _).trans hb'⟩
          have := hh.out
          unfold Hid
          rw [this, HE.out]
          simp
        case measure => simp [intOf]; omega
    · have HX : Hid ((n : Int) % 256 = ((lo8 n).toNat : Int)) := by unfold Hid; rw [lo8_nat (by omega)]; omega
      have HE : Hid (enc n = [lo8 n]) := enc_lo (by omega)
      have HL : ds.length + 1 ≤ 10 := by have := HE.out; rw [this] at hd; simpa using hd
      go_wp2_with (at_builtin; refine wp_append_out rfl _ _ rfl w.heap.size _ (bs ++ ds) rfl ?ho ?hB ⟨wr.heap.size, 0, none⟩ 1 [lo8 n] rfl ?h1 ?hn ?hm ?hK)
      case ho => exact ho.alloc _
      case hB => simp; omega
      case h1 => simp
      case hn => exact one_byte _ _ _ (by have := HX.out; omega)
      case hm => simp; omega
      case hK =>
        intro v' w' hown hb'
        go_wp2
        go_ret
        refine ⟨v', rfl, ?_, (hbel.alloc hB _).trans hb'⟩
        have := hh.out
        rw [this, HE.out]
        simpa using hown

end Go.Proofs.YtkbmajgbhpecgaaGreatDoor.Cd

/-
  code.Int, code.Text, and the reference's Uint, Int, Text. Conditions: none.
-/
namespace Go.Proofs.YtkbmajgbhpecgaaGreatDoor.Cd
open Go.RowKit

theorem uint_int (v : Value) (bs : List UInt8) (x : Int) (w : World) (hs : Sl w w.heap.size v bs) (h0 : 0 ≤ x) (hk : x < 18446744073709551616) (hb : bs.length + 10 ≤ 140737488355328) :
    Calls Tryz.prog 85 #[v, .int .u64 x] w (Wrote w (bs ++ enc x.toNat)) := by
  have := uint_any v bs x.toNat w hs (by omega) hb
  rwa [Int.toNat_of_nonneg h0] at this

set_option maxHeartbeats 400000 in
theorem int_any (v : Value) (bs : List UInt8) (n : Int) (w : World) (hs : Sl w w.heap.size v bs) (h0 : -9223372036854775808 ≤ n) (h1 : n ≤ 9223372036854775807) (hb : bs.length + 10 ≤ 140737488355328) :
    Calls Tryz.prog 58 #[v, .int .i64 n] w (Wrote w (bs ++ enc (zig n))) := by
  by_cases hn : n < 0
  · have hz : Hid (zig n = (2 * (-(n + 1)) + 1).toNat) := by unfold Hid zig; rw [if_neg (by omega)]
    go_enter Tryz.func58, Tryz.ntmps58
    go_wp2_with fail
    refine (uint_int v bs _ w hs (by omega) (by omega) hb).mono ?_
    rintro e w' ⟨v', rfl, hown, hbel⟩
    go_wp2_with fail
    go_ret
    refine ⟨v', rfl, ?_, hbel⟩
    have e1 := hz.out
    rw [e1]
    rwa [show -(n + 1) * 2 + 1 = 2 * (-(n + 1)) + 1 by omega] at hown
  · have hz : Hid (zig n = (2 * n).toNat) := by unfold Hid zig; rw [if_pos (by omega)]
    go_enter Tryz.func58, Tryz.ntmps58
    go_wp2_with fail
    refine (uint_int v bs _ w hs (by omega) (by omega) hb).mono ?_
    rintro e w' ⟨v', rfl, hown, hbel⟩
    go_wp2_with fail
    go_ret
    refine ⟨v', rfl, ?_, hbel⟩
    have e1 := hz.out
    rw [e1]
    rwa [show n * 2 = 2 * n by omega] at hown

set_option maxHeartbeats 400000 in
theorem text_any (v : Value) (bs : List UInt8) (s : ByteArray) (w : World) (hs : Sl w w.heap.size v bs) (hb : bs.length + 10 + s.size ≤ 140737488355328) :
    Calls Tryz.prog 59 #[v, .string s] w (Wrote w (bs ++ (enc s.size ++ s.data.toList))) := by
  have hl := enc_u64 s.size (by omega)
  go_enter Tryz.func59, Tryz.ntmps59
  go_wp2_with fail
  refine (uint_int v bs _ w hs (by omega) (by omega) (by omega)).mono ?_
  rintro e w' ⟨v', rfl, hown, hbel⟩
  have hsz := hbel.size
  go_wp2_with (at_builtin; refine wp_append_text rfl _ _ rfl w.heap.size _ (bs ++ enc s.size) rfl ?ho ?hB s rfl ?hm ?hK)
  case ho => rw [Int.toNat_natCast] at hown; exact hown
  case hB => omega
  case hm => simp; omega
  case hK =>
    intro v2 w2 hown2 hbel2
    go_wp2_with fail
    go_ret
    exact ⟨v2, rfl, by simpa using hown2, hbel.trans hbel2⟩

end Go.Proofs.YtkbmajgbhpecgaaGreatDoor.Cd

/-
  The reference's Uint, Int, Text. Conditions: none.
-/
namespace Go.Proofs.YtkbmajgbhpecgaaGreatDoor.Cd
open Go.RowKit

/-- What the reference's writers leave. -/
def Said (w : World) (bs : List UInt8) (e : Ending) (w' : World) : Prop := e = .returned (.string ⟨bs.toArray⟩) ∧ Below w.heap.size w w'

theorem add_text (W : World) (a b : List UInt8) (h : a.length + b.length ≤ 9223372036854775807) :
    (Op.stringOp .add ⟨a.toArray⟩ ⟨b.toArray⟩).run Tryz.prog W = .ok (.string ⟨(a ++ b).toArray⟩) W := by
  rw [run_string_add_sum _ _ _ (by simpa [ByteArray.size] using h)]
  rw [ByteArray.mk_append_mk]

set_option maxRecDepth 100000 in
set_option maxHeartbeats 400000 in
theorem ref_uint_lo (n : Nat) (w : World) (hc : n < 128) :
    Calls Tryz.prog 71 #[.int .u64 n] w (Said w (enc n)) := by
  have hcv := run_text_one (w.alloc (.cells #[.int .u8 n] 5)) w.heap.size 1 n (lo8 n) (by rw [lo8_nat hc]) (by simp)
  have HE : Hid (enc n = [lo8 n]) := enc_lo hc
  go_enter Tryz.func71, Tryz.ntmps71
  go_wp2_with fail
  go_ret
  exact ⟨by rw [HE.out]; rfl, (Below.refl _ _).alloc (Nat.le_refl _) _⟩

set_option maxRecDepth 100000 in
set_option maxHeartbeats 400000 in
theorem ref_uint_any (n : Nat) : ∀ (w : World), n < 18446744073709551616 →
    Calls Tryz.prog 71 #[.int .u64 n] w (Said w (enc n)) := by
  induction n using Nat.strongRecOn with
  | _ n ih =>
    intro w hn
    by_cases hc : n < 128
    · exact ref_uint_lo n w hc
    · have IH := fun W => ih (n / 128) (by omega) W (by omega)
      have IH2 := Lib.hid IH
      clear IH ih
      have HE : Hid (enc n = hi8 n :: enc (n / 128)) := enc_hi (by omega)
      have E1 : IntKind.u8.wrap (IntKind.u64.wrap (128 + (n : Int).tmod 128)) = ((hi8 n).toNat : Int) := by
        rw [hi8_nat, Int.tmod_eq_emod_of_nonneg (by omega), IntKind.wrap_u64, IntKind.wrap_u8']; omega
      have E2 : IntKind.u64.wrap ((n : Int) / 128) = ((n / 128 : Nat) : Int) := by rw [IntKind.wrap_u64]; omega
      have hcv := fun (W : World) (g : Nat) => run_text_one W g 1 _ (hi8 n) rfl
      have hadd := fun W => add_text W [hi8 n] (enc (n / 128)) (by have := enc_u64 (n / 128) (by omega); simp; omega)
      go_enter Tryz.func71, Tryz.ntmps71
      go_wp2_with fail
      go_region_with (go_at_call 71; refine (IH2.out _).mono ?_; rintro e w1 ⟨rfl, hb1⟩; first | (have hcell : w1.cell? ⟨w.heap.size, 0, none⟩ = some (.int .u8 (hi8 n).toNat) := by (rw [hb1.cell (by simp)]; simp)) | skip)
      all_goals
        go_wp2_with fail
        go_ret
        refine ⟨by rw [HE.out]; rfl, ?_⟩
        first
          | exact ((Below.refl _ _).alloc (Nat.le_refl _) _).drew.trans (hb1.mono (by simp))
          | exact ((Below.refl _ _).drew.trans hb1).alloc hb1.size _

theorem ref_uint_int (x : Int) (w : World) (h0 : 0 ≤ x) (h1 : x < 18446744073709551616) : Calls Tryz.prog 71 #[.int .u64 x] w (Said w (enc x.toNat)) := by
  have := ref_uint_any x.toNat w (by omega)
  rwa [Int.toNat_of_nonneg h0] at this

set_option maxHeartbeats 400000 in
theorem ref_int_any (n : Int) (w : World) (h0 : -9223372036854775808 ≤ n) (h1 : n ≤ 9223372036854775807) :
    Calls Tryz.prog 46 #[.int .i64 n] w (Said w (enc (zig n))) := by
  by_cases hn : n < 0
  · have hz : Hid (zig n = (2 * (-(n + 1)) + 1).toNat) := by unfold Hid zig; rw [if_neg (by omega)]
    go_enter Tryz.func46, Tryz.ntmps46
    go_wp2_with fail
    refine (ref_uint_int _ w (by omega) (by omega)).mono ?_
    rintro e w' ⟨rfl, hbel⟩
    go_wp2_with fail
    go_ret
    exact ⟨by rw [hz.out]; rfl, hbel⟩
  · have hz : Hid (zig n = (2 * n).toNat) := by unfold Hid zig; rw [if_pos (by omega)]
    go_enter Tryz.func46, Tryz.ntmps46
    go_wp2_with fail
    refine (ref_uint_int _ w (by omega) (by omega)).mono ?_
    rintro e w' ⟨rfl, hbel⟩
    go_wp2_with fail
    go_ret
    exact ⟨by rw [hz.out]; rfl, hbel⟩

set_option maxHeartbeats 400000 in
theorem ref_text_any (s : ByteArray) (w : World) (hb : s.size ≤ 140737488355328) :
    Calls Tryz.prog 44 #[.string s] w (Said w (enc s.size ++ s.data.toList)) := by
  have hl := enc_u64 s.size (by omega)
  have hadd := fun W => add_text W (enc s.size) s.data.toList (by have : s.data.toList.length = s.size := rfl; omega)
  go_enter Tryz.func44, Tryz.ntmps44
  go_wp2_with fail
  refine (ref_uint_int _ w (by omega) (by omega)).mono ?_
  rintro e w' ⟨rfl, hbel⟩
  rw [Int.toNat_natCast]
  go_wp2_with fail
  go_ret
  exact ⟨by simp, hbel⟩

end Go.Proofs.YtkbmajgbhpecgaaGreatDoor.Cd

/-
  More plain facts on numbers as bytes: no Go in sight. Conditions: none.
-/
namespace Go.Proofs.YtkbmajgbhpecgaaGreatDoor.Cd

/-! ### A number and its opposite less one -/

theorem enc_pair (m : Nat) : ∃ c d r, enc (2 * m) = c :: r ∧ enc (2 * m + 1) = d :: r ∧ c.toNat ^^^ d.toNat = 1 := by
  have hx : ∀ j : Nat, (2 * j) ^^^ (2 * j + 1) = 1 := fun j => by
    apply Nat.eq_of_testBit_eq
    intro i
    cases i with
    | zero => simp [Nat.testBit_zero]
    | succ i =>
      simp only [Nat.testBit_succ, Nat.xor_div_two]
      rw [show 2 * j / 2 = j by omega, show (2 * j + 1) / 2 = j by omega]
      simp
  by_cases h : 2 * m < 128
  · exact ⟨_, _, [], enc_lo h, enc_lo (by omega), by rw [lo8_nat h, lo8_nat (by omega)]; exact hx m⟩
  · refine ⟨hi8 (2 * m), hi8 (2 * m + 1), enc (2 * m / 128), enc_hi (by omega), ?_, ?_⟩
    · rw [enc_hi (by omega), show (2 * m + 1) / 128 = 2 * m / 128 by omega]
    · rw [hi8_nat, hi8_nat]
      have := hx (64 + m % 64)
      rwa [show 2 * (64 + m % 64) = 128 + 2 * m % 128 by omega, show 128 + 2 * m % 128 + 1 = 128 + (2 * m + 1) % 128 by omega] at this

theorem zig_pair (n : Int) : ∃ c d r, enc (zig n) = c :: r ∧ enc (zig (-n - 1)) = d :: r ∧ c.toNat ^^^ d.toNat = 1 := by
  by_cases h : 0 ≤ n
  · obtain ⟨c, d, r, h1, h2, h3⟩ := enc_pair n.toNat
    refine ⟨c, d, r, ?_, ?_, h3⟩
    · rw [← h1]; unfold zig; rw [if_pos h]; congr 1; omega
    · rw [← h2]; unfold zig; rw [if_neg (by omega)]; congr 1; omega
  · obtain ⟨c, d, r, h1, h2, h3⟩ := enc_pair (-n - 1).toNat
    refine ⟨d, c, r, ?_, ?_, by rw [Nat.xor_comm]; exact h3⟩
    · rw [← h2]; unfold zig; rw [if_neg h]; congr 1; omega
    · rw [← h1]; unfold zig; rw [if_pos (by omega)]; congr 1; omega

end Go.Proofs.YtkbmajgbhpecgaaGreatDoor.Cd

/-
  What a number is written as is read back, and only that: no Go in sight. Conditions: none.
-/
namespace Go.Proofs.YtkbmajgbhpecgaaGreatDoor.Cd

theorem at8_zero (c : UInt8) (r : List UInt8) : at8 (c :: r) 0 = c.toNat := by simp [at8]
theorem at8_succ (c : UInt8) (r : List UInt8) (k : Nat) : at8 (c :: r) (k + 1) = at8 r k := by simp [at8]

theorem val_cons (c : UInt8) (r : List UInt8) (k : Nat) : val (c :: r) (k + 1) = c.toNat % 128 + 128 * val r k := by
  induction k with
  | zero => simp [val, at8_zero]
  | succ k ih =>
    have e : at8 r k % 128 * (128 ^ k * 128) = 128 * (at8 r k % 128 * 128 ^ k) := by rw [← Nat.mul_assoc, Nat.mul_comm]
    rw [val, ih, val, at8_succ, Nat.pow_succ, e, Nat.mul_add, Nat.add_assoc]

theorem stop_lo_cons {c : UInt8} (h : c.toNat < 128) (r : List UInt8) : stop (c :: r) = 0 := by rw [stop, if_pos h]
theorem stop_hi_cons {c : UInt8} (h : 128 ≤ c.toNat) (r : List UInt8) : stop (c :: r) = stop r + 1 := by rw [stop, if_neg (by omega)]

theorem hi8_ge (n : Nat) : 128 ≤ (hi8 n).toNat := by rw [hi8_nat]; omega

theorem stop_enc (n : Nat) (t : List UInt8) : stop (enc n ++ t) + 1 = (enc n).length := by
  induction n using Nat.strongRecOn with
  | _ n ih =>
    by_cases h : n < 128
    · rw [enc_lo h, List.singleton_append, stop_lo_cons (by rw [lo8_nat h]; exact h)]; rfl
    · rw [enc_hi (by omega), List.cons_append, stop_hi_cons (hi8_ge n), List.length_cons, ih (n / 128) (by omega)]

theorem stop_cut (n k : Nat) (h : k < (enc n).length) : stop ((enc n).take k) = k := by
  induction n using Nat.strongRecOn generalizing k with
  | _ n ih =>
    cases k with
    | zero => simp [stop]
    | succ k =>
      by_cases hn : n < 128
      · rw [enc_lo hn] at h; simp at h
      · rw [enc_hi (by omega)] at h ⊢
        rw [List.take_succ_cons, stop_hi_cons (hi8_ge n), ih (n / 128) (by omega) k (by simpa using h)]

theorem last_enc (n : Nat) (t : List UInt8) : at8 (enc n ++ t) (stop (enc n ++ t)) = n / 128 ^ stop (enc n ++ t) := by
  induction n using Nat.strongRecOn with
  | _ n ih =>
    by_cases h : n < 128
    · rw [enc_lo h, List.singleton_append, stop_lo_cons (by rw [lo8_nat h]; exact h), at8_zero, lo8_nat h]; simp
    · rw [enc_hi (by omega), List.cons_append, stop_hi_cons (hi8_ge n), at8_succ, ih (n / 128) (by omega), Nat.div_div_eq_div_mul, Nat.pow_succ, Nat.mul_comm]

theorem last_pos (n : Nat) (hn : 1 ≤ n) (t : List UInt8) : 1 ≤ at8 (enc n ++ t) (stop (enc n ++ t)) := by
  induction n using Nat.strongRecOn with
  | _ n ih =>
    by_cases h : n < 128
    · rw [enc_lo h, List.singleton_append, stop_lo_cons (by rw [lo8_nat h]; exact h), at8_zero, lo8_nat h]; exact hn
    · rw [enc_hi (by omega), List.cons_append, stop_hi_cons (hi8_ge n), at8_succ]
      exact ih (n / 128) (by omega) (by omega)

theorem val_enc (n : Nat) (t : List UInt8) : val (enc n ++ t) (stop (enc n ++ t) + 1) = n := by
  induction n using Nat.strongRecOn with
  | _ n ih =>
    by_cases h : n < 128
    · rw [enc_lo h, List.singleton_append, stop_lo_cons (by rw [lo8_nat h]; exact h), val_cons, lo8_nat h]
      simp [val]; omega
    · rw [enc_hi (by omega), List.cons_append, stop_hi_cons (hi8_ge n), val_cons, ih (n / 128) (by omega), hi8_nat]
      omega

theorem enc_good {n : Nat} (hn : n < 18446744073709551616) (t : List UInt8) : ¬ Bad (enc n ++ t) := by
  have h1 := stop_enc n t
  have h2 := enc_u64 n hn
  have h3 := last_enc n t
  unfold Bad
  rintro (h | h | ⟨h, h0⟩ | ⟨h, h0⟩)
  · rw [List.length_append] at h; omega
  · omega
  · have hn1 : 1 ≤ n := by
      rcases Nat.eq_zero_or_pos n with rfl | h4
      · rw [enc_lo (by omega)] at h1; simp at h1; rw [enc_lo (by omega)] at h; simp at h; omega
      · exact h4
    have := last_pos n hn1 t
    omega
  · rw [h] at h3
    have h9 : (128 : Nat) ^ 9 = 9223372036854775808 := by decide
    rw [h9] at h3
    omega

theorem nv_enc {n : Nat} (hn : n < 18446744073709551616) (t : List UInt8) : nv (enc n ++ t) = n := by rw [nv_good (enc_good hn t), val_enc]
theorem ns_enc {n : Nat} (hn : n < 18446744073709551616) (t : List UInt8) : ns (enc n ++ t) = (enc n).length := by rw [ns_good (enc_good hn t), stop_enc]

theorem cut_bad {n k : Nat} (h : k < (enc n).length) : Bad ((enc n).take k) := by
  refine .inl ?_
  rw [stop_cut n k h, List.length_take]
  omega

theorem uB_enc {n : Nat} (hn : n < 18446744073709551616) (t : List UInt8) : uB (enc n ++ t) = t := by
  unfold uB; rw [if_neg (enc_good hn t), ns_enc hn, List.drop_left]
theorem uX_enc {n : Nat} (hn : n < 18446744073709551616) (t : List UInt8) : uX (enc n ++ t) = false := decide_eq_false (enc_good hn t)

theorem zag_zig (n : Int) : zag (zig n) = n := by
  unfold zag zig
  split <;> split <;> omega

theorem zig_lt {n : Int} (h0 : -9223372036854775808 ≤ n) (h1 : n ≤ 9223372036854775807) : zig n < 18446744073709551616 := by
  unfold zig; split <;> omega

/-! ### One way -/

theorem enc_val (l : List UInt8) (h : stop l < l.length) (hz : at8 l (stop l) ≠ 0) : 1 ≤ val l (stop l + 1) ∧ enc (val l (stop l + 1)) = l.take (stop l + 1) := by
  induction l with
  | nil => simp at h
  | cons c r ih =>
    by_cases hc : c.toNat < 128
    · rw [stop_lo_cons hc] at hz ⊢
      rw [at8_zero] at hz
      have hv : val (c :: r) (0 + 1) = c.toNat := by rw [val_cons]; simp [val]; omega
      rw [hv]
      refine ⟨by omega, ?_⟩
      rw [enc_lo hc]
      simp only [Nat.zero_add, List.take_succ_cons, List.take_zero]
      congr 1
      apply UInt8.toNat_inj.1
      rw [lo8_nat hc]
    · rw [stop_hi_cons (by omega)] at h hz ⊢
      rw [at8_succ] at hz
      obtain ⟨h1, h2⟩ := ih (by simpa using h) hz
      rw [val_cons]
      refine ⟨by omega, ?_⟩
      rw [enc_hi (by omega), List.take_succ_cons, ← h2]
      congr 1
      · apply UInt8.toNat_inj.1
        rw [hi8_nat]
        have := c.toNat_lt
        omega
      · congr 1
        omega

theorem enc_nv {l : List UInt8} (h : ¬ Bad l) : enc (nv l) = l.take (ns l) := by
  rw [nv_good h, ns_good h]
  unfold Bad at h
  by_cases h0 : at8 l (stop l) = 0
  · have hs : stop l = 0 := by omega
    cases l with
    | nil => simp [stop] at h
    | cons c r =>
      rw [hs] at h0 ⊢
      rw [at8_zero] at h0
      have hv : val (c :: r) (0 + 1) = 0 := by rw [val_cons]; simp [val]; omega
      rw [hv, enc_lo (by omega)]
      simp only [Nat.zero_add, List.take_succ_cons, List.take_zero]
      congr 1
      apply UInt8.toNat_inj.1
      rw [lo8_nat (by omega)]
      omega
  · exact (enc_val l (by omega) h0).2

theorem enc_uB {l : List UInt8} (h : ¬ Bad l) : enc (nv l) ++ uB l = l := by
  unfold uB
  rw [if_neg h, enc_nv h, List.take_append_drop]

theorem zig_zag (n : Nat) : zig (zag n) = n := by
  unfold zag zig
  split <;> split <;> omega

end Go.Proofs.YtkbmajgbhpecgaaGreatDoor.Cd

/-
  A part that is written is read by the same call: no Go in sight. Conditions: none.
-/
namespace Go.Proofs.YtkbmajgbhpecgaaGreatDoor.Cd

section
variable {n : Nat} (t : List UInt8)

theorem in_enc {z : Int} (h0 : -9223372036854775808 ≤ z) (h1 : z ≤ 9223372036854775807) : ¬ InBad z z (enc (zig z) ++ t) := by
  have h := zig_lt h0 h1
  unfold InBad
  rw [nv_enc h, zag_zig]
  rintro (h2 | h2 | h2)
  · exact enc_good h t h2
  · omega
  · omega
theorem inV_enc {z : Int} (h0 : -9223372036854775808 ≤ z) (h1 : z ≤ 9223372036854775807) : inV z z (enc (zig z) ++ t) = z := by
  unfold inV; rw [if_neg (in_enc t h0 h1), nv_enc (zig_lt h0 h1), zag_zig]
theorem inB_enc {z : Int} (h0 : -9223372036854775808 ≤ z) (h1 : z ≤ 9223372036854775807) : inB z z (enc (zig z) ++ t) = t := by
  unfold inB; rw [if_neg (in_enc t h0 h1), ns_enc (zig_lt h0 h1), List.drop_left]
theorem inX_enc {z : Int} (h0 : -9223372036854775808 ≤ z) (h1 : z ≤ 9223372036854775807) : inX z z (enc (zig z) ++ t) = false := decide_eq_false (in_enc t h0 h1)

theorem tx_enc (s : List UInt8) (hs : s.length < 18446744073709551616) : ¬ TxBad s.length (enc s.length ++ (s ++ t)) := by
  unfold TxBad
  rw [nv_enc hs, ns_enc hs, List.drop_left, List.length_append]
  rintro (h | h | h | h)
  · exact enc_good hs _ h
  · omega
  · omega
  · omega
theorem txV_enc (s : List UInt8) (hs : s.length < 18446744073709551616) : txV s.length (enc s.length ++ (s ++ t)) = s := by
  unfold txV; rw [if_neg (tx_enc t s hs), nv_enc hs, ns_enc hs, List.drop_left, List.take_left]
theorem txB_enc (s : List UInt8) (hs : s.length < 18446744073709551616) : txB s.length (enc s.length ++ (s ++ t)) = t := by
  unfold txB; rw [if_neg (tx_enc t s hs), nv_enc hs, ns_enc hs, List.drop_left, List.drop_left]
theorem txX_enc (s : List UInt8) (hs : s.length < 18446744073709551616) : txX s.length (enc s.length ++ (s ++ t)) = false := decide_eq_false (tx_enc t s hs)

theorem tk_enc (s : List UInt8) : ¬ TkBad false s.length (s ++ t) := by
  unfold TkBad
  rw [List.length_append]
  rintro (h | h | h)
  · cases h
  · omega
  · omega
theorem tkV_enc (s : List UInt8) : tkV false s.length (s ++ t) = s := by
  unfold tkV; rw [if_neg (tk_enc t s), Int.toNat_natCast, List.take_left]
theorem tkB_enc (s : List UInt8) : tkB false s.length (s ++ t) = t := by
  unfold tkB; rw [if_neg (tk_enc t s), Int.toNat_natCast, List.drop_left]
theorem tkX_enc (s : List UInt8) : tkX false s.length (s ++ t) = false := decide_eq_false (tk_enc t s)
end

end Go.Proofs.YtkbmajgbhpecgaaGreatDoor.Cd

/-
  What was read is written as the bytes that were read: no Go in sight. Conditions: none.
-/
namespace Go.Proofs.YtkbmajgbhpecgaaGreatDoor.Cd

theorem one_u {bs : List UInt8} (h : uX bs = false) : enc (nv bs) ++ uB bs = bs := enc_uB (of_decide_eq_false h)

theorem one_int {bs : List UInt8} (h : uX bs = false) : enc (zig (zag (nv bs))) ++ uB bs = bs := by rw [zig_zag]; exact one_u h

theorem one_in {lo hi : Int} {bs : List UInt8} (h : inX lo hi bs = false) : enc (zig (inV lo hi bs)) ++ inB lo hi bs = bs := by
  have hn : ¬ InBad lo hi bs := of_decide_eq_false h
  have hb : ¬ Bad bs := fun h => hn (.inl h)
  unfold inV inB
  rw [if_neg hn, if_neg hn, zig_zag, enc_nv hb, List.take_append_drop]

theorem one_tk {bad : Bool} {n : Int} {bs : List UInt8} (h : tkX bad n bs = false) : tkV bad n bs ++ tkB bad n bs = bs := by
  have hn : ¬ TkBad bad n bs := of_decide_eq_false h
  unfold tkV tkB
  rw [if_neg hn, if_neg hn, List.take_append_drop]

theorem one_tx {most : Int} {bs : List UInt8} (h : txX most bs = false) : (enc (txV most bs).length ++ txV most bs) ++ txB most bs = bs := by
  have hn : ¬ TxBad most bs := of_decide_eq_false h
  have hb : ¬ Bad bs := fun h => hn (.inl h)
  have hl : nv bs ≤ (bs.drop (ns bs)).length := Nat.le_of_not_lt (fun h => hn (.inr (.inr (.inr h))))
  unfold txV txB
  rw [if_neg hn, if_neg hn, List.length_take, Nat.min_eq_left hl, enc_nv hb, List.append_assoc, List.take_append_drop, List.take_append_drop]

theorem tkV_len (bad : Bool) (n : Int) (bs : List UInt8) : (tkV bad n bs).length ≤ bs.length := by
  unfold tkV; split <;> simp; omega
theorem txV_len (most : Int) (bs : List UInt8) : (txV most bs).length ≤ bs.length := by
  unfold txV
  split
  · simp
  · rw [List.length_take, List.length_drop]; omega

theorem zag_lt {n : Nat} (h : n < 18446744073709551616) : -9223372036854775808 ≤ zag n ∧ zag n ≤ 9223372036854775807 := by
  unfold zag; split <;> omega

theorem inV_lt {lo hi : Int} {bs : List UInt8} : -9223372036854775808 ≤ inV lo hi bs ∧ inV lo hi bs ≤ 9223372036854775807 := by
  unfold inV
  split
  · omega
  · exact zag_lt (nv_u64 bs)

end Go.Proofs.YtkbmajgbhpecgaaGreatDoor.Cd

/-
  Plain facts on CRC-32C and on records: no Go in sight. Conditions: none.
-/
namespace Go.Proofs.YtkbmajgbhpecgaaGreatDoor.Cd

/-- What is taken in, by the bit that fell out. -/
def fell (b : Nat) : Nat := if b % 2 = 1 then 2197175160 else 0
/-- One bit taken in. -/
def bit1 (s : Nat) : Nat := (s / 2) ^^^ fell s
def bitsN : Nat → Nat → Nat
  | 0, s => s
  | k + 1, s => bit1 (bitsN k s)
def crcB (s : Nat) (c : UInt8) : Nat := bitsN 8 (s ^^^ c.toNat)
def crcOn (s : Nat) : List UInt8 → Nat
  | [] => s
  | c :: r => crcOn (crcB s c) r
/-- The check. -/
def crc (bs : List UInt8) : Nat := 4294967295 - crcOn 4294967295 bs

theorem fell_lt (b : Nat) : fell b < 4294967296 := by unfold fell; split <;> omega
theorem bit1_lt {s : Nat} (h : s < 4294967296) : bit1 s < 4294967296 := Nat.xor_lt_two_pow (n := 32) (by omega) (fell_lt s)
theorem bitsN_lt {s : Nat} (h : s < 4294967296) (k : Nat) : bitsN k s < 4294967296 := by
  induction k with
  | zero => exact h
  | succ k ih => exact bit1_lt ih
theorem xor_byte_lt {s : Nat} (h : s < 4294967296) (c : UInt8) : s ^^^ c.toNat < 4294967296 := Nat.xor_lt_two_pow (n := 32) h (by have := c.toNat_lt; omega)
theorem crcB_lt {s : Nat} (h : s < 4294967296) (c : UInt8) : crcB s c < 4294967296 := bitsN_lt (xor_byte_lt h c) 8
theorem crcOn_lt {s : Nat} (h : s < 4294967296) (l : List UInt8) : crcOn s l < 4294967296 := by
  induction l generalizing s with
  | nil => exact h
  | cons c r ih => exact ih (crcB_lt h c)
theorem crc_lt (l : List UInt8) : crc l < 4294967296 := by unfold crc; omega
theorem crcOn_append (s : Nat) (a b : List UInt8) : crcOn s (a ++ b) = crcOn (crcOn s a) b := by
  induction a generalizing s with
  | nil => rfl
  | cons c r ih => exact ih _
theorem crcOn_snoc (s : Nat) (l : List UInt8) (k : Nat) (h : k < l.length) : crcOn s (l.take (k + 1)) = crcB (crcOn s (l.take k)) l[k] := by
  rw [List.take_succ_eq_append_getElem h, crcOn_append]
  rfl

/-- The document's way: bit by bit of the byte. -/
def refN (s c : Nat) : Nat → Nat
  | 0 => s
  | k + 1 => (refN s c k / 2) ^^^ fell (refN s c k ^^^ (c / 2 ^ k))
theorem bits_ref (s c k : Nat) : bitsN k (s ^^^ c) = refN s c k ^^^ (c / 2 ^ k) := by
  induction k with
  | zero => simp [bitsN, refN]
  | succ k ih =>
    rw [bitsN, refN, ih, bit1, Nat.xor_div_two, Nat.div_div_eq_div_mul, ← Nat.pow_succ]
    rw [Nat.xor_assoc, Nat.xor_comm (c / 2 ^ (k + 1)), ← Nat.xor_assoc]
theorem crcB_ref (s : Nat) (c : UInt8) : crcB s c = refN s c.toNat 8 := by
  have h := bits_ref s c.toNat 8
  have := c.toNat_lt
  rw [show c.toNat / 2 ^ 8 = 0 by omega, Nat.xor_zero] at h
  exact h
theorem refN_lt {s : Nat} (h : s < 4294967296) (c k : Nat) : refN s c k < 4294967296 := by
  induction k with
  | zero => exact h
  | succ k ih => exact Nat.xor_lt_two_pow (n := 32) (by omega) (fell_lt _)
theorem odd_xor (a b : Nat) : fell (a ^^^ b) = if (a % 2 = 1) ↔ (b % 2 = 1) then 0 else 2197175160 := by
  unfold fell
  have h : (a ^^^ b) % 2 = 1 ↔ ¬ ((a % 2 = 1) ↔ (b % 2 = 1)) := by
    have h2 : (a ^^^ b) % 2 = (a % 2 ^^^ b % 2) := by
      rw [show (2 : Nat) = 2 ^ 1 from rfl, Nat.xor_mod_two_pow]
    rw [h2]
    rcases (by omega : a % 2 = 0 ∨ a % 2 = 1) with h3 | h3 <;> rcases (by omega : b % 2 = 0 ∨ b % 2 = 1) with h4 | h4 <;> simp [h3, h4]
  by_cases hq : (a % 2 = 1) ↔ (b % 2 = 1)
  · rw [if_pos hq, if_neg (fun hx => (h.1 hx) hq)]
  · rw [if_neg hq, if_pos (h.2 hq)]

/-- A byte. -/
def b8 (n : Nat) : UInt8 := UInt8.ofNat n
theorem b8_nat (n : Nat) : (b8 n).toNat = n % 256 := by unfold b8; rw [UInt8.toNat_ofNat']
/-- Four bytes, the lowest first. -/
def le4 (n : Nat) : List UInt8 := [b8 n, b8 (n / 256), b8 (n / 65536), b8 (n / 16777216)]
theorem le4_len (n : Nat) : (le4 n).length = 4 := rfl

/-- A record's bytes. -/
def frm (x : List UInt8) : List UInt8 := (enc x.length ++ x) ++ le4 (crc (enc x.length ++ x))
theorem frm_len (x : List UInt8) : (frm x).length = (enc x.length).length + x.length + 4 := by simp [frm, le4_len]; omega
theorem frm_ge (x : List UInt8) : x.length + 5 ≤ (frm x).length := by have := enc_pos x.length; rw [frm_len]; omega
theorem frm_le (x : List UInt8) (h : x.length < 18446744073709551616) : (frm x).length ≤ x.length + 14 := by have := enc_u64 x.length h; rw [frm_len]; omega

theorem tx_most (t s : List UInt8) (hs : s.length < 18446744073709551616) (most : Int) (hm : (s.length : Int) ≤ most) : ¬ TxBad most (enc s.length ++ (s ++ t)) := by
  unfold TxBad
  rw [nv_enc hs, ns_enc hs, List.drop_left, List.length_append]
  rintro (h | h | h | h)
  · exact enc_good hs _ h
  · omega
  · omega
  · omega
theorem tx_all (t s : List UInt8) (hs : s.length < 18446744073709551616) (most : Int) (hm : (s.length : Int) ≤ most) :
    txV most (enc s.length ++ (s ++ t)) = s ∧ txB most (enc s.length ++ (s ++ t)) = t ∧ txX most (enc s.length ++ (s ++ t)) = false := by
  have h := tx_most t s hs most hm
  unfold txV txB txX
  rw [if_neg h, if_neg h, nv_enc hs, ns_enc hs, List.drop_left, List.take_left, List.drop_left]
  exact ⟨rfl, rfl, decide_eq_false h⟩

theorem frm_split (x t : List UInt8) : frm x ++ t = enc x.length ++ (x ++ (le4 (crc (enc x.length ++ x)) ++ t)) := by simp [frm]

/-- A record stands there. -/
def HasRec (c : List UInt8) : Prop := ∃ x, frm x <+: c

theorem pre_tx {x c : List UInt8} (h : frm x <+: c) (hc : c.length < 18446744073709551616) :
    txX c.length c = false ∧ txV c.length c = x ∧ txB c.length c = le4 (crc (enc x.length ++ x)) ++ c.drop (frm x).length := by
  obtain ⟨t, rfl⟩ := h
  have hg := frm_ge x
  rw [List.length_append] at hc ⊢
  have h2 := tx_all (le4 (crc (enc x.length ++ x)) ++ t) x (by omega) (((frm x).length + t.length : Nat) : Int) (by omega)
  rw [← frm_split] at h2
  rw [List.drop_left]
  exact ⟨h2.2.2, h2.1, h2.2.1⟩

theorem pre_uniq {x y c : List UInt8} (h : frm x <+: c) (k : frm y <+: c) (hc : c.length < 18446744073709551616) : x = y := by
  rw [← (pre_tx h hc).2.1, (pre_tx k hc).2.1]

/-- What is read as a text, and its check behind it: a record. -/
theorem rec_of {c : List UInt8} (h : txX c.length c = false) (hk : (txB c.length c).take 4 = le4 (crc (enc (txV c.length c).length ++ txV c.length c))) : frm (txV c.length c) <+: c := by
  have h1 := one_tx h
  refine ⟨(txB c.length c).drop 4, ?_⟩
  unfold frm
  rw [List.append_assoc, ← hk, List.take_append_drop]
  exact h1

theorem no_rec {c : List UInt8} (hc : c.length < 18446744073709551616) (h : txX c.length c = true ∨ (txB c.length c).length < 4 ∨ (txB c.length c).take 4 ≠ le4 (crc (enc (txV c.length c).length ++ txV c.length c))) : ¬ HasRec c := by
  rintro ⟨x, hx⟩
  obtain ⟨h1, h2, h3⟩ := pre_tx hx hc
  rw [h1, h2, h3] at h
  rcases h with h | h | h
  · cases h
  · rw [List.length_append, le4_len] at h; omega
  · exact h (by rw [show (4 : Nat) = (le4 (crc (enc x.length ++ x))).length from rfl, List.take_left])

theorem no_nil : ¬ HasRec [] := by
  rintro ⟨x, hx⟩
  have h1 := hx.length_le
  have h2 := frm_ge x
  rw [List.length_nil] at h1
  omega

/-- Records, one behind the other. -/
def flat (l : List (List UInt8)) : List UInt8 := (l.map frm).flatten
theorem flat_nil : flat [] = [] := rfl
theorem flat_cons (x : List UInt8) (l : List (List UInt8)) : flat (x :: l) = frm x ++ flat l := by simp [flat]
theorem flat_append (a b : List (List UInt8)) : flat (a ++ b) = flat a ++ flat b := by simp [flat]
theorem flat_one (x : List UInt8) : flat [x] = frm x := by simp [flat]
theorem flat_take (l : List (List UInt8)) (k : Nat) (h : k < l.length) : flat (l.take (k + 1)) = flat (l.take k) ++ frm l[k] := by
  rw [List.take_succ_eq_append_getElem h, flat_append, flat_one]
theorem flat_ge (l : List (List UInt8)) : 5 * l.length ≤ (flat l).length := by
  induction l with
  | nil => simp [flat]
  | cons x l ih => have := frm_ge x; rw [flat_cons, List.length_append, List.length_cons]; omega

/-- The records of bytes, and what is left. -/
def Splits (bs : List UInt8) (ds : List (List UInt8)) (cur : List UInt8) : Prop := bs = flat ds ++ cur ∧ ¬ HasRec cur

theorem splits_uniq {ds es : List (List UInt8)} {bs cur cur' : List UInt8} (hb : bs.length < 18446744073709551616) (h : Splits bs ds cur) (k : Splits bs es cur') : ds = es ∧ cur = cur' := by
  induction ds generalizing es bs with
  | nil =>
    cases es with
    | nil =>
      have h1 := h.1
      have k1 := k.1
      rw [flat_nil, List.nil_append] at h1 k1
      exact ⟨rfl, by rw [← h1, ← k1]⟩
    | cons e es =>
      refine absurd ?_ h.2
      have h1 := h.1
      rw [flat_nil, List.nil_append] at h1
      exact ⟨e, by rw [← h1, k.1, flat_cons, List.append_assoc]; exact List.prefix_append _ _⟩
  | cons d ds ih =>
    cases es with
    | nil =>
      refine absurd ?_ k.2
      have k1 := k.1
      rw [flat_nil, List.nil_append] at k1
      exact ⟨d, by rw [← k1, h.1, flat_cons, List.append_assoc]; exact List.prefix_append _ _⟩
    | cons e es =>
      have hd : frm d <+: bs := by rw [h.1, flat_cons, List.append_assoc]; exact List.prefix_append _ _
      have he : frm e <+: bs := by rw [k.1, flat_cons, List.append_assoc]; exact List.prefix_append _ _
      obtain rfl := pre_uniq hd he hb
      have e1 := h.1
      have e2 := k.1
      rw [flat_cons, List.append_assoc] at e1 e2
      have e3 := List.append_cancel_left (e1.symm.trans e2)
      have hl : (flat ds ++ cur).length < 18446744073709551616 := by rw [e1, List.length_append] at hb; omega
      obtain ⟨r1, r2⟩ := ih hl ⟨rfl, h.2⟩ ⟨e3, k.2⟩
      exact ⟨by rw [r1], r2⟩

theorem splits_all (l : List (List UInt8)) : Splits (flat l) l [] := ⟨by simp, no_nil⟩

theorem splits_join {b cur : List UInt8} {ds : List (List UInt8)} (a : List (List UInt8)) (h : Splits b ds cur) : Splits (flat a ++ b) (a ++ ds) cur :=
  ⟨by rw [h.1, flat_append, List.append_assoc], h.2⟩

/-- A record that is cut is none. -/
theorem cut_none (x : List UInt8) (m : Nat) (hm : m < (frm x).length) (hx : (frm x).length < 18446744073709551616) : ¬ HasRec ((frm x).take m) := by
  rintro ⟨y, hy⟩
  have h1 := pre_uniq (hy.trans (List.take_prefix _ _)) (List.prefix_refl (frm x)) hx
  subst h1
  have h2 := hy.length_le
  rw [List.length_take] at h2
  omega

theorem splits_cut (l : List (List UInt8)) (k n : Nat) (hk : k ≤ l.length) (h1 : (flat (l.take k)).length ≤ n) (h2 : k < l.length → n < (flat (l.take (k + 1))).length)
    (hb : (flat l).length < 18446744073709551616) : ∃ cur, Splits ((flat l).take n) (l.take k) cur := by
  by_cases hlt : k < l.length
  · have e := flat_take l k hlt
    have h3 := h2 hlt
    have hpre : flat l = flat (l.take (k + 1)) ++ flat (l.drop (k + 1)) := by rw [← flat_append, List.take_append_drop]
    have e2 : (flat l).take n = flat (l.take k) ++ (frm l[k]).take (n - (flat (l.take k)).length) := by
      rw [hpre, List.take_append_of_le_length (by omega), e, List.take_append, List.take_of_length_le h1]
    rw [e, List.length_append] at h3
    refine ⟨_, e2, cut_none _ _ (by omega) ?_⟩
    rw [hpre, e, List.length_append, List.length_append] at hb
    omega
  · have hkl : k = l.length := by omega
    subst hkl
    rw [List.take_length] at h1 ⊢
    rw [List.take_of_length_le (by omega)]
    exact ⟨[], splits_all l⟩

theorem flat_mono (l : List (List UInt8)) (j k : Nat) (h : j ≤ k) : (flat (l.take j)).length ≤ (flat (l.take k)).length := by
  have e : l.take j = (l.take k).take j := by rw [List.take_take, Nat.min_eq_left h]
  rw [e]
  have h2 : flat (l.take k) = flat ((l.take k).take j) ++ flat ((l.take k).drop j) := by rw [← flat_append, List.take_append_drop]
  rw [h2, List.length_append]
  omega

/-- One record and no more. -/
theorem one_rec {c : List UInt8} {ds : List (List UInt8)} {cur : List UInt8} (h : Splits c ds cur) (hc : c.length < 18446744073709551616) : (∃ x, ds = [x] ∧ cur = []) ↔ ∃ x, frm x = c := by
  constructor
  · rintro ⟨x, rfl, rfl⟩
    have := h.1
    rw [flat_one, List.append_nil] at this
    exact ⟨x, this.symm⟩
  · rintro ⟨x, rfl⟩
    have h2 := splits_all [x]
    rw [flat_one] at h2
    obtain ⟨h3, h4⟩ := splits_uniq hc h h2
    exact ⟨x, h3, h4⟩

end Go.Proofs.YtkbmajgbhpecgaaGreatDoor.Cd
