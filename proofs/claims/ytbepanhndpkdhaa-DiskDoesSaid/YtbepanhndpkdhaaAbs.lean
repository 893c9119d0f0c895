/-
  The program's disk tells what the document's disk tells: files by number against files by name. Conditions: none.
-/
import Derived.Test.YtbepanhndpkdhaaCutD
import Derived.Test.YtbepanhndpkdhaaWriteD
import Derived.Test.YtbepanhndpkdhaaNewD
namespace Go.Proofs.Ytbepanhndpkdhaa.Cd
open Go.RowKit

/-- Files' numbers. -/
abbrev Nums := List UInt8 → Option Nat
/-- No number is two files'. -/
def Inj (q : Nums) : Prop := ∀ a b k, q a = some k → q b = some k → a = b

/-- What waits, in both tellings. -/
def Pairs (q : Nums) : List Pw → List Wrt → Prop
  | [], [] => True
  | x :: l, w :: r => (q w.name = some x.file ∧ x.spot = w.page ∧ x.data = w.data) ∧ Pairs q l r
  | _, _ => False

/-- A side, in both tellings. -/
structure Like (q : Nums) (s : Pages × Nat) (l : List Fil) : Prop where
  pages : ∀ n k, q n = some k → s.1 k = pagesF l n
  num : s.2 = count l
  once : Once l
  has : ∀ n, (getF l n).isSome = true → (q n).isSome = true

/-- Writes of n, played over p without gaps, make q. -/
def Runs (n : List UInt8) : List Wrt → List (List UInt8) → List (List UInt8) → Prop
  | [], p, q => p = q
  | w :: r, p, q => (w.name = n → w.page ≤ p.length ∧ Runs n r (setP p w.page w.data) q) ∧ (w.name ≠ n → Runs n r p q)

structure Abs (P : Pd) (D : Dsk) : Prop where
  room : D.room = P.room
  off : D.off = P.off
  acts : D.acts = P.acts
  fuse : D.fuse = P.fuse
  keep : D.keep = P.keep
  inj : Inj P.files
  now : Like P.files (P.now, P.nn) D.now
  safe : Like P.files (P.safe, P.ns) D.safe
  names : ∀ n, (P.files n).isSome = true → (getF D.now n).isSome = true
  waits : Pairs P.files P.late D.waits
  runs : ∀ n, Runs n D.waits (pagesF D.safe n) (pagesF D.now n)

/-! ### Lists of files -/

theorem pagesF_none {l : List Fil} {n : List UInt8} (h : getF l n = none) : pagesF l n = [] := by unfold pagesF; rw [h]
theorem pagesF_without (l : List Fil) (n m : List UInt8) : pagesF (without l n) m = if m = n then [] else pagesF l m := by
  unfold pagesF
  rw [getF_without]
  by_cases e : m = n
  · rw [if_pos e, if_pos e]
  · rw [if_neg e, if_neg e]

theorem count_le : ∀ (a b : List Fil), Once a → Once b → (∀ n, (pagesF a n).length ≤ (pagesF b n).length) → count a ≤ count b := by
  intro a
  induction a with
  | nil => intro b _ _ _; exact Nat.zero_le _
  | cons f r ih =>
    intro b ha hb h
    have h1 := List.nodup_cons.1 ha
    have hw := count_without hb f.name
    have hf := h f.name
    have e1 : pagesF (f :: r) f.name = f.pages := by unfold pagesF; rw [getF, if_pos rfl]
    rw [e1] at hf
    have := ih (without b f.name) h1.2 (without_once hb _) (fun n => by
      rw [pagesF_without]
      by_cases e : n = f.name
      · rw [if_pos e, e, pagesF_none (getF_none.2 h1.1)]
        exact Nat.le_refl _
      · have e2 : pagesF (f :: r) n = pagesF r n := by unfold pagesF; rw [getF, if_neg (fun e3 => e e3.symm)]
        rw [if_neg e, ← e2]
        exact h n)
    rw [count]
    omega
theorem count_same {a b : List Fil} (ha : Once a) (hb : Once b) (h : ∀ n, pagesF a n = pagesF b n) : count a = count b :=
  Nat.le_antisymm (count_le a b ha hb (fun n => by rw [h n]; exact Nat.le_refl _)) (count_le b a hb ha (fun n => by rw [h n]; exact Nat.le_refl _))

/-! ### Sides -/
section
variable {q : Nums} {s : Pages × Nat} {l : List Fil}

theorem Like.put (hq : Inj q) (h : Like q s l) {x : Pw} {w : Wrt} (e : q w.name = some x.file ∧ x.spot = w.page ∧ x.data = w.data) : Like q (putS s x) (putF l ⟨w.name, setP (pagesF l w.name) w.page w.data⟩) := by
  obtain ⟨e1, e2, e3⟩ := e
  have hp := h.pages _ _ e1
  refine ⟨fun n k hn => ?_, ?_, put_once h.once _, fun n hn => ?_⟩
  · show setF s.1 x.file (setP (s.1 x.file) x.spot x.data) k = _
    rw [pagesF_put]
    by_cases e : n = w.name
    · rw [if_pos e]
      rw [e, e1] at hn
      injection hn with hn
      rw [← hn, setF_same, hp, e2, e3]
    · rw [if_neg e, setF_other _ (fun ek => e (hq _ _ _ hn (by rw [ek]; exact e1)))]
      exact h.pages n k hn
  · have hc := count_put h.once ⟨w.name, setP (pagesF l w.name) w.page w.data⟩
    simp only [setP_len] at hc
    show s.2 + (x.spot + 1 - (s.1 x.file).length) = _
    rw [hp, h.num, e2]
    omega
  · rw [getF_put] at hn
    by_cases e : n = w.name
    · rw [e, e1]; rfl
    · rw [if_neg e] at hn
      exact h.has n hn

theorem Like.play (hq : Inj q) (keep : Nat) : ∀ (late : List Pw) (waits : List Wrt) (i : Nat) (s : Pages × Nat) (l : List Fil), Pairs q late waits → Like q s l → Like q (playS (keepSel keep) i late s) (keeps keep i waits l) := by
  intro late
  induction late with
  | nil =>
    intro waits i s l hp h
    cases waits with
    | nil => exact h
    | cons w r => exact hp.elim
  | cons x r ih =>
    intro waits i s l hp h
    cases waits with
    | nil => exact hp.elim
    | cons w ws =>
      rw [playS, keeps]
      refine ih ws _ _ _ hp.2 ?_
      show Like q (if keepBit keep i = true then putS s x else s) _
      by_cases hk : keepBit keep i = true
      · rw [if_pos hk, if_pos hk]
        exact h.put hq hp.1
      · rw [if_neg hk, if_neg hk]
        exact h

theorem Like.there : ∀ (now : List Fil) (l : List Fil), Like q s l → (∀ f ∈ now, (q f.name).isSome = true) → Like q s (there now l) := by
  intro now
  induction now with
  | nil => intro l h _; exact h
  | cons f r ih =>
    intro l h hn
    rw [Cd.there]
    refine ih _ ?_ (fun g hg => hn g (by simp [hg]))
    by_cases hs : (getF l f.name).isSome = true
    · rw [if_pos hs]; exact h
    · rw [if_neg hs]
      have hno : getF l f.name = none := by
        cases hg : getF l f.name with
        | none => rfl
        | some x => rw [hg] at hs; exact absurd rfl hs
      refine ⟨fun n k hk => ?_, ?_, put_once h.once _, fun n hm => ?_⟩
      · rw [pagesF_put, h.pages n k hk]
        by_cases e : n = f.name
        · rw [if_pos e, e, pagesF_none hno]
        · rw [if_neg e]
      · have hc := count_put h.once ⟨f.name, []⟩
        simp only [pagesF_none hno, List.length_nil] at hc
        rw [h.num]
        omega
      · rw [getF_put] at hm
        by_cases e : n = f.name
        · rw [e]; exact hn f (by simp)
        · rw [if_neg e] at hm
          exact h.has n hm

/-- A name more, without pages. -/
theorem Like.named (h : Like q s l) {n : List UInt8} {k : Nat} (hn : q n = none) (hk : s.1 k = []) : Like (upd q n (some k)) s l := by
  have hno : getF l n = none := by
    cases hg : getF l n with
    | none => rfl
    | some x =>
      have := h.has n (by rw [hg]; rfl)
      rw [hn] at this
      cases this
  refine ⟨fun m j hj => ?_, h.num, h.once, fun m hm => ?_⟩
  · unfold upd at hj
    by_cases e : m = n
    · rw [if_pos e] at hj
      injection hj with hj
      rw [← hj, hk, e, pagesF_none hno]
    · rw [if_neg e] at hj
      exact h.pages m j hj
  · unfold upd
    by_cases e : m = n
    · rw [if_pos e]; rfl
    · rw [if_neg e]; exact h.has m hm

/-- A file is cut. -/
theorem Like.cut (hq : Inj q) (h : Like q s l) {n : List UInt8} {f : Nat} (e : q n = some f) (m : Nat) : Like q (setF s.1 f ((s.1 f).take m), s.2 - ((s.1 f).length - m)) (putF l ⟨n, (pagesF l n).take m⟩) := by
  have hp := h.pages _ _ e
  refine ⟨fun a k ha => ?_, ?_, put_once h.once _, fun a hm => ?_⟩
  · show setF s.1 f _ k = _
    rw [pagesF_put]
    by_cases e2 : a = n
    · rw [if_pos e2]
      rw [e2, e] at ha
      injection ha with ha
      rw [← ha, setF_same, hp]
    · rw [if_neg e2, setF_other _ (fun ek => e2 (hq _ _ _ ha (by rw [ek]; exact e)))]
      exact h.pages a k ha
  · have hc := count_put h.once ⟨n, (pagesF l n).take m⟩
    simp only [List.length_take] at hc
    show s.2 - ((s.1 f).length - m) = _
    rw [hp, h.num]
    omega
  · rw [getF_put] at hm
    by_cases e2 : a = n
    · rw [e2, e]; rfl
    · rw [if_neg e2] at hm
      exact h.has a hm

/-- A file is gone. -/
theorem Like.without (hq : Inj q) (h : Like q s l) {n : List UInt8} {f : Nat} (e : q n = some f) : Like (upd q n none) (setF s.1 f ((s.1 f).take 0), s.2 - ((s.1 f).length - 0)) (without l n) := by
  have hp := h.pages _ _ e
  refine ⟨fun a k ha => ?_, ?_, without_once h.once _, fun a hm => ?_⟩
  · show setF s.1 f _ k = _
    rw [pagesF_without]
    unfold upd at ha
    by_cases e2 : a = n
    · rw [if_pos e2] at ha
      cases ha
    · rw [if_neg e2] at ha
      rw [if_neg e2, setF_other _ (fun ek => e2 (hq _ _ _ ha (by rw [ek]; exact e)))]
      exact h.pages a k ha
  · have hc := count_without h.once n
    show s.2 - ((s.1 f).length - 0) = _
    rw [hp, h.num]
    omega
  · rw [getF_without] at hm
    unfold upd
    by_cases e2 : a = n
    · rw [if_pos e2] at hm
      cases hm
    · rw [if_neg e2] at hm
      rw [if_neg e2]
      exact h.has a hm
end

/-! ### What waits -/

theorem Pairs.snoc {q : Nums} : ∀ {l : List Pw} {r : List Wrt} {x : Pw} {w : Wrt}, Pairs q l r → (q w.name = some x.file ∧ x.spot = w.page ∧ x.data = w.data) → Pairs q (l ++ [x]) (r ++ [w]) := by
  intro l
  induction l with
  | nil =>
    intro r x w h e
    cases r with
    | nil => exact ⟨e, trivial⟩
    | cons v t => exact h.elim
  | cons y t ih =>
    intro r x w h e
    cases r with
    | nil => exact h.elim
    | cons v t2 => exact ⟨h.1, ih h.2 e⟩
theorem Pairs.turn {q p : Nums} : ∀ {l : List Pw} {r : List Wrt}, Pairs q l r → (∀ w ∈ r, ∀ k, q w.name = some k → p w.name = some k) → Pairs p l r := by
  intro l
  induction l with
  | nil => intro r h _; cases r with
    | nil => exact h
    | cons v t => exact h.elim
  | cons y t ih =>
    intro r h hp
    cases r with
    | nil => exact h.elim
    | cons v t2 => exact ⟨⟨hp v (by simp) _ h.1.1, h.1.2⟩, ih h.2 (fun w hw => hp w (by simp [hw]))⟩
theorem Pairs.filter {q : Nums} {a : Pw → Bool} {b : Wrt → Bool} (hab : ∀ (x : Pw) (w : Wrt), (q w.name = some x.file ∧ x.spot = w.page ∧ x.data = w.data) → a x = b w) : ∀ {l : List Pw} {r : List Wrt}, Pairs q l r → Pairs q (l.filter a) (r.filter b) := by
  intro l
  induction l with
  | nil => intro r h; cases r with
    | nil => exact h
    | cons v t => exact h.elim
  | cons y t ih =>
    intro r h
    cases r with
    | nil => exact h.elim
    | cons v t2 =>
      rw [List.filter_cons, List.filter_cons, hab y v h.1]
      cases b v
      · exact ih h.2
      · exact ⟨h.1, ih h.2⟩

/-! ### Runs -/

theorem Runs.len {n : List UInt8} : ∀ {ws : List Wrt} {p q : List (List UInt8)}, Runs n ws p q → p.length ≤ q.length ∧ ∀ w ∈ ws, w.name = n → w.page < q.length := by
  intro ws
  induction ws with
  | nil => intro p q h; exact ⟨by rw [show p = q from h]; exact Nat.le_refl _, fun w hw => by cases hw⟩
  | cons v r ih =>
    intro p q h
    by_cases e : v.name = n
    · obtain ⟨h1, h2⟩ := h.1 e
      obtain ⟨h3, h4⟩ := ih h2
      rw [setP_len] at h3
      refine ⟨by omega, fun w hw he => ?_⟩
      rcases List.mem_cons.1 hw with h5 | h5
      · rw [h5]; omega
      · exact h4 w h5 he
    · obtain ⟨h3, h4⟩ := ih (h.2 e)
      refine ⟨h3, fun w hw he => ?_⟩
      rcases List.mem_cons.1 hw with h5 | h5
      · rw [h5] at he; exact absurd he e
      · exact h4 w h5 he
theorem Runs.snoc {n : List UInt8} {w : Wrt} : ∀ {ws : List Wrt} {p q : List (List UInt8)}, Runs n ws p q → (w.name = n → w.page ≤ q.length) → Runs n (ws ++ [w]) p (if w.name = n then setP q w.page w.data else q) := by
  intro ws
  induction ws with
  | nil =>
    intro p q h hw
    have h : p = q := h
    subst h
    refine ⟨fun e => ⟨hw e, ?_⟩, fun e => ?_⟩
    · rw [if_pos e]; rfl
    · rw [if_neg e]; rfl
  | cons v r ih =>
    intro p q h hw
    exact ⟨fun e => ⟨(h.1 e).1, ih (h.1 e).2 hw⟩, fun e => ih (h.2 e) hw⟩
/-- Those of other files don't matter. -/
theorem Runs.filter {n : List UInt8} {b : Wrt → Bool} (hb : ∀ w : Wrt, w.name = n → b w = true) : ∀ {ws : List Wrt} {p q : List (List UInt8)}, Runs n ws p q → Runs n (ws.filter b) p q := by
  intro ws
  induction ws with
  | nil => intro p q h; exact h
  | cons v r ih =>
    intro p q h
    rw [List.filter_cons]
    by_cases e : v.name = n
    · rw [hb v e]
      exact ⟨fun _ => ⟨(h.1 e).1, ih (h.1 e).2⟩, fun e2 => absurd e e2⟩
    · cases b v
      · exact ih (h.2 e)
      · exact ⟨fun e2 => absurd e2 e, fun _ => ih (h.2 e)⟩
theorem Runs.none {n : List UInt8} : ∀ {ws : List Wrt} (p : List (List UInt8)), (∀ w ∈ ws, w.name ≠ n) → Runs n ws p p := by
  intro ws
  induction ws with
  | nil => intro p _; rfl
  | cons v r ih => intro p h; exact ⟨fun e => absurd e (h v (by simp)), fun _ => ih p (fun w hw => h w (by simp [hw]))⟩

theorem take_setP_in {p : List (List UInt8)} {i k : Nat} (h : i < k) (d : List UInt8) : (setP p i d).take k = setP (p.take k) i d := by
  unfold setP
  rw [List.length_take]
  by_cases hp : p.length ≤ k
  · rw [Nat.min_eq_right hp, List.take_of_length_le hp, List.take_of_length_le (by simp; omega)]
  · rw [show i + 1 - p.length = 0 by omega, show i + 1 - min k p.length = 0 by omega]
    simp only [List.replicate_zero, List.append_nil]
    rw [List.take_set]
theorem take_setP_out {p : List (List UInt8)} {i k : Nat} (h : k ≤ i) (hi : i ≤ p.length) (d : List UInt8) : (setP p i d).take k = p.take k := by
  unfold setP
  rw [List.take_set, List.take_append_of_le_length (by omega), List.set_eq_of_length_le (by rw [List.length_take]; omega)]
theorem Runs.cut {n : List UInt8} {k : Nat} : ∀ {ws : List Wrt} {p q : List (List UInt8)}, Runs n ws p q → Runs n (dropW ws n k) (p.take k) (q.take k) := by
  intro ws
  induction ws with
  | nil => intro p q h; show p.take k = q.take k; rw [show p = q from h]
  | cons v r ih =>
    intro p q h
    unfold dropW at ih ⊢
    rw [List.filter_cons]
    by_cases e : v.name = n
    · obtain ⟨h1, h2⟩ := h.1 e
      by_cases hv : v.page < k
      · rw [decide_eq_true (Or.inr hv)]
        refine ⟨fun _ => ⟨by rw [List.length_take]; omega, ?_⟩, fun e2 => absurd e e2⟩
        rw [← take_setP_in hv]
        exact ih h2
      · rw [decide_eq_false (fun h => h.elim (fun h => h e) (fun h => hv h))]
        have := ih h2
        rw [take_setP_out (by omega) h1] at this
        exact this
    · rw [decide_eq_true (Or.inl e)]
      exact ⟨fun e2 => absurd e2 e, fun _ => ih (h.2 e)⟩

end Go.Proofs.Ytbepanhndpkdhaa.Cd
