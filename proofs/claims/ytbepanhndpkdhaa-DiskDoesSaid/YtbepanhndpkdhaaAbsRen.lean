/-
  Rename, in both tellings. Conditions: none.
-/
import Derived.Test.YtbepanhndpkdhaaDk
import Derived.Test.YtbepanhndpkdhaaRenD
namespace Go.Proofs.Ytbepanhndpkdhaa.Cd
open Go.RowKit

/-- A write whose file has another name. -/
def renW (a b : List UInt8) (w : Wrt) : Wrt := if w.name = a then ⟨b, w.page, w.data⟩ else w

theorem Like.rename {q : Nums} {s : Pages × Nat} {l l' : List Fil} {a b : List UInt8} {k : Nat} (h : Like q s l) (ha : q a = some k) (ho : Once l') (hp : ∀ n, pagesF l' n = if n = b then pagesF l a else if n = a then [] else pagesF l n)
    (hh : ∀ n, (getF l' n).isSome = true → n = b ∨ (n ≠ a ∧ (getF l n).isSome = true)) (hc : count l' = count l) : Like (upd (upd q a none) b (some k)) s l' := by
  refine ⟨fun n j hj => ?_, by rw [h.num, hc], ho, fun n hn => ?_⟩
  · rw [hp]
    unfold upd at hj
    by_cases e : n = b
    · rw [if_pos e] at hj ⊢
      injection hj with hj
      rw [← hj]
      exact h.pages a k ha
    · rw [if_neg e] at hj ⊢
      by_cases e2 : n = a
      · rw [if_pos e2] at hj; cases hj
      · rw [if_neg e2] at hj ⊢
        exact h.pages n j hj
  · unfold upd
    rcases hh n hn with e | ⟨e, h2⟩
    · rw [if_pos e]; rfl
    · by_cases e3 : n = b
      · rw [if_pos e3]; rfl
      · rw [if_neg e3, if_neg e]
        exact h.has n h2

theorem ren_list {l : List Fil} {a b : List UInt8} (ho : Once l) (hne : a ≠ b) : Once (putF (without l a) ⟨b, pagesF l a⟩) ∧ (∀ n, pagesF (putF (without l a) ⟨b, pagesF l a⟩) n = if n = b then pagesF (without l b) a else if n = a then [] else pagesF (without l b) n) ∧
    (∀ n, (getF (putF (without l a) ⟨b, pagesF l a⟩) n).isSome = true → n = b ∨ (n ≠ a ∧ (getF (without l b) n).isSome = true)) ∧ count (putF (without l a) ⟨b, pagesF l a⟩) = count (without l b) := by
  refine ⟨put_once (without_once ho _) _, fun n => ?_, fun n hn => ?_, ?_⟩
  · rw [pagesF_put, pagesF_without, pagesF_without, pagesF_without, if_neg hne]
    by_cases e : n = b
    · rw [if_pos (by exact e), if_pos e]
    · rw [if_neg (by exact e), if_neg e, if_neg e]
  · rw [getF_put] at hn
    by_cases e : n = b
    · exact .inl e
    · rw [if_neg (by exact e), getF_without] at hn
      by_cases e2 : n = a
      · rw [if_pos e2] at hn; cases hn
      · rw [if_neg e2] at hn
        exact .inr ⟨e2, by rw [getF_without, if_neg e]; exact hn⟩
  · have h1 := count_put (without_once ho a) ⟨b, pagesF l a⟩
    have h2 := count_without ho a
    have h3 := count_without ho b
    simp only [pagesF_without] at h1
    rw [if_neg (fun e => hne e.symm)] at h1
    omega

theorem Pairs.ren {q : Nums} {a b : List UInt8} {k : Nat} (ha : q a = some k) (hb : q b = none) : ∀ {l : List Pw} {r : List Wrt}, Pairs q l r → Pairs (upd (upd q a none) b (some k)) l (r.map (renW a b)) := by
  intro l
  induction l with
  | nil => intro r h; cases r with
    | nil => exact h
    | cons v t => exact h.elim
  | cons y t ih =>
    intro r h
    cases r with
    | nil => exact h.elim
    | cons v t2 =>
      refine ⟨?_, ih h.2⟩
      obtain ⟨h1, h2, h3⟩ := h.1
      unfold renW upd
      by_cases e : v.name = a
      · rw [if_pos e]
        rw [e, ha] at h1
        exact ⟨by rw [if_pos rfl]; exact h1, h2, h3⟩
      · have e2 : ¬ v.name = b := fun e2 => by rw [e2, hb] at h1; cases h1
        rw [if_neg e]
        exact ⟨by rw [if_neg e2, if_neg e]; exact h1, h2, h3⟩

theorem Runs.ren_to {a b : List UInt8} : ∀ {ws : List Wrt} {p q : List (List UInt8)}, (∀ w ∈ ws, w.name ≠ b) → Runs a ws p q → Runs b (ws.map (renW a b)) p q := by
  intro ws
  induction ws with
  | nil => intro p q _ h; exact h
  | cons v r ih =>
    intro p q hn h
    have hr := fun w hw => hn w (List.mem_cons_of_mem v hw)
    rw [List.map_cons]
    by_cases e : v.name = a
    · have ev : renW a b v = ⟨b, v.page, v.data⟩ := by unfold renW; rw [if_pos e]
      rw [ev]
      exact ⟨fun _ => ⟨(h.1 e).1, ih hr (h.1 e).2⟩, fun e2 => absurd rfl e2⟩
    · have ev : renW a b v = v := by unfold renW; rw [if_neg e]
      rw [ev]
      exact ⟨fun e2 => absurd e2 (hn v (by simp)), fun _ => ih hr (h.2 e)⟩
theorem Runs.ren_other {a b n : List UInt8} (h1 : n ≠ a) (h2 : n ≠ b) : ∀ {ws : List Wrt} {p q : List (List UInt8)}, Runs n ws p q → Runs n (ws.map (renW a b)) p q := by
  intro ws
  induction ws with
  | nil => intro p q h; exact h
  | cons v r ih =>
    intro p q h
    rw [List.map_cons]
    by_cases e : v.name = a
    · have ev : renW a b v = ⟨b, v.page, v.data⟩ := by unfold renW; rw [if_pos e]
      rw [ev]
      exact ⟨fun e2 => absurd e2.symm h2, fun _ => ih (h.2 (fun e2 => h1 (by rw [← e2, e])))⟩
    · have ev : renW a b v = v := by unfold renW; rw [if_neg e]
      rw [ev]
      exact ⟨fun e2 => ⟨(h.1 e2).1, ih (h.1 e2).2⟩, fun e2 => ih (h.2 e2)⟩

section
variable {P : Pd} {D : Dsk}

theorem pairs_names {q : Nums} : ∀ {l : List Pw} {r : List Wrt}, Pairs q l r → ∀ w ∈ r, (q w.name).isSome = true := by
  intro l
  induction l with
  | nil => intro r h w hw; cases r with
    | nil => cases hw
    | cons v t => exact h.elim
  | cons y t ih =>
    intro r h w hw
    cases r with
    | nil => cases hw
    | cons v t2 =>
      rcases List.mem_cons.1 hw with e | e
      · rw [e, h.1.1]; rfl
      · exact ih h.2 w e

/-- Whether the file is there or not. -/
theorem Abs.gone (h : Abs P D) (b : List UInt8) : Abs (dropP P b) (removes D b) ∧ (dropP P b).files b = none ∧ ∀ n, n ≠ b → (dropP P b).files n = P.files n := by
  cases hb : P.files b with
  | some j =>
    refine ⟨h.drop hb, ?_, fun n hn => ?_⟩
    · unfold dropP; rw [hb]; show upd P.files b none b = none; unfold upd; rw [if_pos rfl]
    · unfold dropP; rw [hb]; show upd P.files b none n = _; unfold upd; rw [if_neg hn]
  | none =>
    have hd : dropP P b = P := by unfold dropP; rw [hb]
    have hn1 : getF D.now b = none := by
      cases hg : getF D.now b with
      | none => rfl
      | some x => have := h.now.has b (by rw [hg]; rfl); rw [hb] at this; cases this
    have hn2 : getF D.safe b = none := by
      cases hg : getF D.safe b with
      | none => rfl
      | some x => have := h.safe.has b (by rw [hg]; rfl); rw [hb] at this; cases this
    have hw : dropW D.waits b 0 = D.waits := by
      unfold dropW
      rw [List.filter_eq_self]
      intro w hw
      have := pairs_names h.waits w hw
      exact decide_eq_true (.inl (fun e => by rw [e, hb] at this; cases this))
    have hr : removes D b = D := by unfold removes; rw [without_none hn1, without_none hn2, hw]
    rw [hd, hr]
    exact ⟨h, hb, fun n _ => rfl⟩

theorem dropP_named {a b : List UInt8} (hne : a ≠ b) : dropP { P with files := upd P.files a none } b = { dropP P b with files := upd (dropP P b).files a none } := by
  have e1 : upd P.files a none b = P.files b := by unfold upd; rw [if_neg (fun e => hne e.symm)]
  unfold dropP
  simp only
  rw [e1]
  cases hb : P.files b with
  | none => rfl
  | some j =>
    have e2 : upd (upd P.files a none) b none = upd (upd P.files b none) a none := by
      funext n
      unfold upd
      split <;> split <;> rfl
    show ({ shortenP { P with files := upd P.files a none } j 0 with files := upd (upd P.files a none) b none } : Pd) = { shortenP P j 0 with files := upd (upd P.files b none) a none }
    rw [e2]
    rfl

theorem Abs.rename (h : Abs P D) {a b : List UInt8} {k : Nat} (ha : P.files a = some k) (hne : a ≠ b) : Abs (renP P a b k) (renames D a b) := by
  obtain ⟨g, gb, go⟩ := h.gone b
  have hq : (dropP P b).files a = some k := by rw [go a hne]; exact ha
  have hr : renP P a b k = { dropP P b with files := upd (upd (dropP P b).files a none) b (some k) } := by
    unfold renP
    rw [dropP_named hne]
  rw [hr]
  generalize dropP P b = Q at *
  obtain ⟨n1, n2, n3, n4⟩ := ren_list (a := a) (b := b) h.now.once hne
  obtain ⟨s1, s2, s3, s4⟩ := ren_list (a := a) (b := b) h.safe.once hne
  have hwn : ∀ w ∈ dropW D.waits b 0, w.name ≠ b := fun w hw => by
    have := (List.mem_filter.1 hw).2
    simp only [decide_eq_true_eq] at this
    exact this.elim id (fun h => absurd h (Nat.not_lt_zero _))
  refine ⟨g.room, g.off, g.acts, g.fuse, g.keep, fun x y j hx hy => ?_, g.now.rename hq n1 n2 n3 n4, g.safe.rename hq s1 s2 s3 s4, fun n hn => ?_, g.waits.ren hq gb, fun n => ?_⟩
  · have hx : upd (upd Q.files a none) b (some k) x = some j := hx
    have hy : upd (upd Q.files a none) b (some k) y = some j := hy
    unfold upd at hx hy
    by_cases ex : x = b
    · by_cases ey : y = b
      · rw [ex, ey]
      · rw [if_pos ex] at hx
        rw [if_neg ey] at hy
        by_cases ey2 : y = a
        · rw [if_pos ey2] at hy; cases hy
        · rw [if_neg ey2] at hy
          injection hx with hx
          rw [← hx] at hy
          exact absurd (g.inj _ _ _ hy hq) ey2
    · rw [if_neg ex] at hx
      by_cases ex2 : x = a
      · rw [if_pos ex2] at hx; cases hx
      · rw [if_neg ex2] at hx
        by_cases ey : y = b
        · rw [if_pos ey] at hy
          injection hy with hy
          rw [← hy] at hx
          exact absurd (g.inj _ _ _ hx hq) ex2
        · rw [if_neg ey] at hy
          by_cases ey2 : y = a
          · rw [if_pos ey2] at hy; cases hy
          · rw [if_neg ey2] at hy
            exact g.inj _ _ _ hx hy
  · show (getF (putF (without D.now a) ⟨b, pagesF D.now a⟩) n).isSome = true
    have hn : (upd (upd Q.files a none) b (some k) n).isSome = true := hn
    unfold upd at hn
    rw [getF_put]
    by_cases e : n = b
    · rw [if_pos (by exact e)]; rfl
    · rw [if_neg e] at hn
      rw [if_neg (by exact e), getF_without]
      by_cases e2 : n = a
      · rw [if_pos e2] at hn; cases hn
      · rw [if_neg e2] at hn
        rw [if_neg e2]
        have := g.names n hn
        have this : (getF (without D.now b) n).isSome = true := this
        rw [getF_without, if_neg e] at this
        exact this
  · show Runs n ((dropW D.waits b 0).map (renW a b)) (pagesF (putF (without D.safe a) ⟨b, pagesF D.safe a⟩) n) (pagesF (putF (without D.now a) ⟨b, pagesF D.now a⟩) n)
    rw [n2, s2]
    by_cases e : n = b
    · rw [if_pos e, if_pos e, e]
      exact Runs.ren_to hwn (g.runs a)
    · rw [if_neg e, if_neg e]
      by_cases e2 : n = a
      · rw [if_pos e2, if_pos e2]
        refine Runs.none _ (fun w hw => ?_)
        obtain ⟨v, hv, rfl⟩ := List.mem_map.1 hw
        unfold renW
        split
        · rw [e2]; exact fun h => hne h.symm
        · rw [e2]; assumption
      · rw [if_neg e2, if_neg e2]
        exact Runs.ren_other e2 e (g.runs n)
theorem Abs.rename_same (h : Abs P D) {a : List UInt8} {k : Nat} (ha : P.files a = some k) : Abs (renP P a a k) D := by
  have e1 : upd P.files a none a = none := by unfold upd; rw [if_pos rfl]
  have hd : dropP { P with files := upd P.files a none } a = { P with files := upd P.files a none } := by unfold dropP; simp only; rw [e1]
  have hr : renP P a a k = P := by
    unfold renP
    rw [hd]
    have e2 : upd (upd P.files a none) a (some k) = P.files := by
      funext n
      unfold upd
      by_cases e : n = a
      · rw [if_pos e, e, ha]
      · rw [if_neg e, if_neg e]
    show ({ P with files := upd (upd P.files a none) a (some k) } : Pd) = P
    rw [e2]
  rw [hr]
  exact h
end

theorem rename_dk (B g N : Nat) (D : Dsk) (a b : List UInt8) (w : World) (h : Dk w B g N D) (ha : a.length ≤ 140737488355328) (hb : b.length ≤ 140737488355328) (hN : N + 4 ≤ 137438953472) :
    Calls Try.prog 23 #[.pointer (some ⟨g, 0, none⟩), .string ⟨a.toArray⟩, .string ⟨b.toArray⟩] w (DidD B g (N + 4) (renameD D a b).1 (.int .i64 ((renameD D a b).2 : Nat)) w) := by
  obtain ⟨P, ⟨hB, S, hR, hS⟩, h2⟩ := h
  obtain ⟨a1, a2⟩ : Abs (actR P a (fun k => renP (ticP P) a b k)).1 (renameD D a b).1 ∧ (actR P a (fun k => renP (ticP P) a b k)).2 = (renameD D a b).2 := by
    unfold renameD
    by_cases hne : a = b
    · subst hne
      have := act_abs h2 a (fun k => renP (ticP P) a a k) (fun D => D) (fun k hk => h2.tic.rename_same hk)
      rw [if_neg (fun h => h.2 rfl)]
      by_cases hz : (mayD D a).2 = 0
      · rw [if_pos hz] at this
        exact ⟨this.1, by rw [this.2, hz]⟩
      · rw [if_neg hz] at this
        exact this
    · have := act_abs h2 a (fun k => renP (ticP P) a b k) (fun D => renames D a b) (fun k hk => h2.tic.rename hk hne)
      by_cases hz : (mayD D a).2 = 0
      · rw [if_pos hz] at this
        rw [if_pos ⟨hz, hne⟩]
        exact this
      · rw [if_neg hz] at this
        rw [if_neg (fun h => hz h.1)]
        exact this
  rw [← a2]
  exact (rename_any g N S P a b w hR ha hb hN (fun _ _ => h2.room_ok hR.fits.nns _)).mono fun e w' h => dk_of a1 (did_of hB hS h)

end Go.Proofs.Ytbepanhndpkdhaa.Cd
