/-
  A disk in the midst of a call that has blocks of its own: which of these are none of the disk's; bytes that lie in no block of the disk's. Conditions: none.
-/
import Derived.Test.YthgnchgehmakjaaG9
import Derived.RangeFuncCalls
import Derived.OrdersHeld
import Derived.OrdersIn
import Derived.TacticsIn
import Derived.Deep.RegionHeld
import Derived.Test.YthgnchgehmakjaaG6
import Derived.Test.YthgnchgehmakjaaG7
import Derived.Shelf.Abstract
import Derived.Shelf.RegionOpen
import Derived.WalkKit
import Derived.OwnWalkIn
import Derived.TacticsInMore
import Derived.LoopNIn
import Derived.LoopIn
import Derived.BigRegionIn
import Derived.Shelf.SlIter.Collect
/-
  A commit, and an opening, wherever the power goes: no Go in sight. Conditions: none.
-/
namespace Go.Proofs.Ythgnchgehmakjaa.Cd

/-- An act is done, and the power is on; or it went. -/
def Gets (R : Dsk × Nat) (I O : Dsk → Prop) : Prop := (R.2 = 0 ∧ R.1.off = false ∧ I R.1) ∨ (R.2 = 8 ∧ R.1.off = true ∧ O R.1)

theorem Gets.imp {R : Dsk × Nat} {I O I' O' : Dsk → Prop} (h : Gets R I O) (hI : ∀ D, D.off = false → I D → I' D) (hO : ∀ D, D.off = true → O D → O' D) : Gets R I' O' := by
  rcases h with ⟨a, b, c⟩ | ⟨a, b, c⟩
  · exact .inl ⟨a, b, hI _ b c⟩
  · exact .inr ⟨a, b, hO _ b c⟩
theorem out_ends {D D1 : Dsk} {I O : Dsk → Prop} (h0 : D1.off = false) (hI : I D1) (hO : ∀ k, O (lose D1 k)) : Gets (ends D D1 0) I O := by
  unfold ends
  split
  · exact .inr ⟨rfl, lose_off _ _, hO _⟩
  · exact .inl ⟨rfl, h0, hI⟩
theorem out_writes {n : List UInt8} {O : Dsk → Prop} (ws : Pgs) : ∀ {I : Nat → Dsk → Prop} {D : Dsk}, (∀ k D, (hk : k < ws.length) → D.off = false → I k D → Gets (writeD D n ws[k].1 ws[k].2) (I (k + 1)) O) → D.off = false → I 0 D → Gets (writes D n ws) (I ws.length) O := by
  induction ws with
  | nil => intro I D _ h0 h; exact .inl ⟨rfl, h0, h⟩
  | cons p r ih =>
    intro I D hs h0 h
    rcases hs 0 D (by simp) h0 h with ⟨a, b, c⟩ | ⟨a, b, c⟩
    · rw [writes_cons (show (writeD D n p.1 p.2).2 = 0 from a)]
      exact ih (I := fun k => I (k + 1)) (fun k D hk h0 h => hs (k + 1) D (by simpa using hk) h0 h) b c
    · rw [writes_bad (by show (writeD D n p.1 p.2).2 ≠ 0; rw [show (writeD D n p.1 p.2).2 = 8 from a]; omega)]
      exact .inr ⟨a, b, c⟩
theorem out_may {D : Dsk} {n : List UInt8} {I O : Dsk → Prop} (h0 : D.off = false) (h1 : (getF D.now n).isSome = true) (hI : I (actD D)) (hO : ∀ k, O (lose (actD D) k)) : Gets (mayD D n) I O := by
  rw [may_ok h0 h1]
  exact out_ends h0 hI hO
theorem out_act {R : Dsk × Nat} {g : Dsk → Dsk} {I O : Dsk → Prop} (h : Gets R (fun D => I (g D)) O) (hg : ∀ D, (g D).off = D.off) : Gets (if R.2 = 0 then (g R.1, 0) else R) I O := by
  rcases h with ⟨a, b, c⟩ | ⟨a, b, c⟩
  · rw [if_pos a]; exact .inl ⟨rfl, by rw [hg]; exact b, c⟩
  · rw [if_neg (by omega)]; exact .inr ⟨a, b, c⟩

/-- Nothing but the file is there, and it is safe. -/
structure Fine (D : Dsk) (n : List UInt8) (P : List (List UInt8)) : Prop where
  kept : Kept D n P
  draft : (getF D.now (drf n)).isSome = false
  waits : D.waits = []

theorem Kept.act {D : Dsk} {n : List UInt8} {P : List (List UInt8)} (h : Kept D n P) : Kept (actD D) n P := ⟨h.once, h.sonce, h.only, h.sonly, h.pages, h.spages, h.waits⟩
theorem Kept.on {D : Dsk} {n : List UInt8} {P : List (List UInt8)} (h : Kept D n P) : Kept (onD D) n P := ⟨h.once, h.sonce, h.only, h.sonly, h.pages, h.spages, h.waits⟩
theorem Kept.arm {D : Dsk} {n : List UInt8} {P : List (List UInt8)} (h : Kept D n P) (a : Int) (k : Nat) : Kept (armD D a k) n P := ⟨h.once, h.sonce, h.only, h.sonly, h.pages, h.spages, h.waits⟩
theorem Jour.act {D : Dsk} {n : List UInt8} {R P : List (List UInt8)} {ws : Pgs} {f : Nat} (h : Jour D n R P ws f) : Jour (actD D) n R P ws f := ⟨h.once, h.sonce, h.only, h.sonly, h.jn, h.sjn, h.mix, h.smix, h.waits⟩
theorem Jour.on {D : Dsk} {n : List UInt8} {R P : List (List UInt8)} {ws : Pgs} {f : Nat} (h : Jour D n R P ws f) : Jour (onD D) n R P ws f := ⟨h.once, h.sonce, h.only, h.sonly, h.jn, h.sjn, h.mix, h.smix, h.waits⟩
theorem Jour.arm {D : Dsk} {n : List UInt8} {R P : List (List UInt8)} {ws : Pgs} {f : Nat} (h : Jour D n R P ws f) (a : Int) (k : Nat) : Jour (armD D a k) n R P ws f := ⟨h.once, h.sonce, h.only, h.sonly, h.jn, h.sjn, h.mix, h.smix, h.waits⟩
theorem Fine.arm {D : Dsk} {n : List UInt8} {P : List (List UInt8)} (h : Fine D n P) (a : Int) (k : Nat) : Fine (armD D a k) n P := ⟨h.kept.arm a k, h.draft, h.waits⟩
theorem Fine.nojournal {D : Dsk} {n : List UInt8} {P : List (List UInt8)} (h : Fine D n P) : (getF D.now (jnl n)).isSome = false := by
  cases e : (getF D.now (jnl n)).isSome
  · rfl
  · rcases h.kept.only _ e with h | h
    · exact absurd h (jnl_ne n)
    · exact absurd h (jnl_drf n)
theorem Fine.bare {D : Dsk} {n : List UInt8} {P : List (List UInt8)} (h : Fine D n P) : Bare D n := ⟨h.draft, h.nojournal⟩
theorem Kept.count {D : Dsk} {n : List UInt8} {P : List (List UInt8)} (h : Kept D n P) : count D.now = P.length + (pagesF D.now (drf n)).length := by rw [count_two h.once h.only (drf_ne n).symm, h.pages]
theorem Jour.count {D : Dsk} {n : List UInt8} {R P : List (List UInt8)} {ws : Pgs} {f : Nat} (h : Jour D n R P ws f) : count D.now = (pagesF D.now n).length + R.length := by
  rw [count_two h.once h.only (jnl_ne n).symm]
  congr 1
  unfold pagesF
  rw [h.jn]

theorem drop_waits {ws : List Wrt} {n : List UInt8} (h : ∀ w ∈ ws, w.name = n) : dropW ws n 0 = [] := by
  apply List.eq_nil_iff_forall_not_mem.2
  intro w hw
  unfold dropW at hw
  obtain ⟨h1, h2⟩ := List.mem_filter.1 hw
  simp only [decide_eq_true_eq] at h2
  rcases h2 with h2 | h2
  · exact h2 (h w h1)
  · omega

/-- The draft is thrown away, if there is one. -/
theorem Kept.discard {D : Dsk} {n : List UInt8} {P : List (List UInt8)} (h : Kept D n P) (h0 : D.off = false) (hw : D.waits = [] ∨ (getF D.now (drf n)).isSome = true) : Gets (discardD D n) (fun E => Fine E n P ∧ E.room = D.room) (fun E => Kept E n P ∧ E.room = D.room) := by
  unfold discardD
  by_cases hd : (getF D.now (drf n)).isSome = true
  · rw [if_pos hd]
    unfold removeD
    refine out_act (R := mayD D (drf n)) (g := fun E => removes E (drf n)) (out_may h0 hd ?_ fun k => ⟨h.act.lose k, ?_⟩) fun _ => rfl
    · have hs : getF (removes (actD D) (drf n)).now (drf n) = none := by
        show getF (without D.now (drf n)) (drf n) = none
        rw [getF_without, if_pos rfl]
      have hwn : (removes (actD D) (drf n)).waits = [] := drop_waits h.waits
      refine ⟨⟨⟨without_once h.once _, without_once h.sonce _, h.only.without, h.sonly.without, ?_, ?_, by rw [hwn]; simp⟩, by rw [hs]; rfl, hwn⟩, rfl⟩
      · exact (pagesF_get (by show getF (without D.now (drf n)) n = _; rw [getF_without, if_neg (drf_ne n).symm])).trans h.pages
      · exact (pagesF_get (by show getF (without D.safe (drf n)) n = _; rw [getF_without, if_neg (drf_ne n).symm])).trans h.spages
    · exact (lose_is (D := actD D) h0 k).2.2.2.1
  · rw [if_neg hd]
    have hd : (getF D.now (drf n)).isSome = false := by simpa using hd
    refine .inl ⟨rfl, h0, ⟨⟨h, hd, ?_⟩, rfl⟩⟩
    rcases hw with hw | hw
    · exact hw
    · rw [hw] at hd; cases hd

theorem write_is {D : Dsk} {n b : List UInt8} {i : Nat} (h0 : D.off = false) (hi : i ≤ (pagesF D.now n).length) (hb : b.length ≤ 512) (hr : i = (pagesF D.now n).length → count D.now < D.room) : writeD D n i b = ends D (wrote D n i b) 0 := by
  unfold writeD
  rw [if_neg (by rw [h0]; simp), if_neg (by omega), if_neg (by omega), if_neg (fun h2 => ?_), Int.toNat_natCast]
  have := hr (by omega)
  have := h2.2
  unfold freeD at this
  omega

/-- The pages of bytes, as they lie in a file. -/
def pagesB (b : List UInt8) : List (List UInt8) := (chunks b).map fun p => pad p.2

theorem chunks_at (b : List UInt8) {k : Nat} (hk : k < (chunks b).length) : (chunks b)[k].1 = (k : Int) := by simp [chunks]
/-- The record is posted: or the power goes ahead of that. -/
theorem Fine.post {D : Dsk} {n : List UInt8} {P : List (List UInt8)} {ws : Pgs} {f : Nat} (h : Fine D n P) (h0 : D.off = false) {b : List UInt8} (hb0 : 0 < b.length) (hr : P.length + pagesOf b.length ≤ D.room) :
    Gets (postD D n b) (fun E => Jour E n (pagesB b) P ws f ∧ E.waits = [] ∧ pagesF E.now n = P ∧ E.room = D.room) (fun E => Kept E n P ∧ E.room = D.room) := by
  have hd : discardD D n = (D, 0) := by unfold discardD; rw [if_neg (by rw [h.draft]; simp)]
  have hp0 : pagesF D.now (drf n) = [] := pages_of_none h.draft
  have hw := out_writes (n := drf n) (O := fun E => Kept E n P ∧ E.room = D.room) (chunks b)
    (I := fun k E => Kept E n P ∧ E.room = D.room ∧ pagesF E.now (drf n) = ((chunks b).take k).map (fun p => pad p.2) ∧ (0 < k → (getF E.now (drf n)).isSome = true)) (D := D)
    (fun k E hk h0 hE => by
      obtain ⟨e1, e2, e3, e4⟩ := hE
      have hlen : (pagesF E.now (drf n)).length = k := by rw [e3, List.length_map, List.length_take]; omega
      have hkl : k < pagesOf b.length := by rw [← chunks_len]; exact hk
      rw [chunks_at b hk, write_is h0 (by omega) (chunks_short b _ (List.getElem_mem hk)) (fun _ => by rw [e1.count, hlen, e2]; omega)]
      have hk1 : Kept (wrote E (drf n) k (chunks b)[k].2) n P := by
        refine ⟨put_once e1.once _, e1.sonce, e1.only.put (.inr rfl), e1.sonly, ?_, e1.spages, fun w hx => ?_⟩
        · show pagesF (putF E.now _) n = P
          rw [pagesF_put, if_neg (fun e => drf_ne n (by exact e.symm))]
          exact e1.pages
        · have hx : w ∈ E.waits ++ [⟨drf n, k, pad (chunks b)[k].2⟩] := hx
          rcases List.mem_append.1 hx with hx | hx
          · exact e1.waits w hx
          · rw [List.mem_singleton] at hx
            rw [hx]
      refine out_ends h0 ⟨hk1, e2, ?_, fun _ => ?_⟩ fun k' => ⟨hk1.lose k', ((lose_is (D := wrote E (drf n) k (chunks b)[k].2) h0 k').2.2.2.1).trans e2⟩
      · show pagesF (putF E.now ⟨drf n, setP (pagesF E.now (drf n)) k _⟩) (drf n) = _
        rw [pagesF_put, if_pos rfl]
        show setP (pagesF E.now (drf n)) k _ = _
        rw [List.take_succ_eq_append_getElem hk, List.map_append, ← e3]
        have e := setP_end (pagesF E.now (drf n)) (pad (chunks b)[k].2)
        rw [hlen] at e
        rw [e]
        rfl
      · show (getF (putF E.now _) (drf n)).isSome = true
        rw [getF_put, if_pos rfl]; rfl) h0 ⟨h.kept, rfl, by simpa using hp0, fun h => by omega⟩
  unfold postD
  simp only [hd, ne_eq, not_true_eq_false, if_false]
  rcases hw with ⟨a, b1, c⟩ | ⟨a, b1, c⟩
  · rw [if_neg (fun h => h a)]
    generalize (writes D (drf n) (chunks b)).1 = E at b1 c ⊢
    obtain ⟨c1, c2, c3, c4⟩ := c
    rw [List.take_length] at c3
    have his := c4 (by rw [chunks_len]; exact pagesOf_pos hb0)
    -- the draft is synced
    have hs : Gets (syncD E (drf n)) (fun E => Kept E n P ∧ E.room = D.room ∧ pagesF E.now (drf n) = pagesB b ∧ pagesF E.safe (drf n) = pagesB b ∧ (getF E.now (drf n)).isSome = true ∧ E.waits = []) (fun E => Kept E n P ∧ E.room = D.room) := by
      unfold syncD
      refine out_act (R := mayD E (drf n)) (g := fun E => syncs E (drf n)) (out_may b1 his ?_ fun k => ⟨c1.act.lose k, ((lose_is (D := actD E) b1 k).2.2.2.1).trans c2⟩) fun _ => rfl
      have hwn : (syncs (actD E) (drf n)).waits = [] := drop_waits c1.waits
      refine ⟨⟨c1.once, put_once c1.sonce _, c1.only, c1.sonly.put (.inr rfl), c1.pages, ?_, by rw [hwn]; simp⟩, c2, c3, ?_, his, hwn⟩
      · show pagesF (putF E.safe _) n = P
        rw [pagesF_put, if_neg (fun e => drf_ne n (by exact e.symm))]
        exact c1.spages
      · show pagesF (putF E.safe ⟨drf n, pagesF E.now (drf n)⟩) (drf n) = _
        rw [pagesF_put, if_pos rfl]
        exact c3
    rcases hs with ⟨a, b2, c⟩ | ⟨a, b2, c⟩
    · rw [if_neg (fun h => h a)]
      generalize (syncD E (drf n)).1 = G at b2 c ⊢
      obtain ⟨d1, d2, d3, d4, d5, d6⟩ := c
      unfold renameD
      have hne : drf n ≠ jnl n := fun e => jnl_drf n e.symm
      have hsplit : (if (mayD G (drf n)).2 = 0 ∧ drf n ≠ jnl n then (renames (mayD G (drf n)).1 (drf n) (jnl n), 0) else mayD G (drf n)) = (if (mayD G (drf n)).2 = 0 then (renames (mayD G (drf n)).1 (drf n) (jnl n), 0) else mayD G (drf n)) := by
        by_cases hm : (mayD G (drf n)).2 = 0
        · rw [if_pos ⟨hm, hne⟩, if_pos hm]
        · rw [if_neg (fun h => hm h.1), if_neg hm]
      rw [hsplit]
      refine out_act (R := mayD G (drf n)) (g := fun E => renames E (drf n) (jnl n)) (out_may b2 d5 ?_ fun k => ⟨d1.act.lose k, ((lose_is (D := actD G) b2 k).2.2.2.1).trans d2⟩) fun _ => rfl
      have hwn : (renames (actD G) (drf n) (jnl n)).waits = [] := by
        show (dropW G.waits (jnl n) 0).map _ = []
        rw [d6]
        rfl
      have p1 : ∀ l : List Fil, pagesF (putF (without l (drf n)) ⟨jnl n, pagesF l (drf n)⟩) n = pagesF l n := fun l => by
        rw [pagesF_put, if_neg (fun e => jnl_ne n (by exact e.symm))]
        exact pagesF_get (by rw [getF_without, if_neg (drf_ne n).symm])
      have p2 : ∀ l : List Fil, getF (putF (without l (drf n)) ⟨jnl n, pagesF l (drf n)⟩) (jnl n) = some ⟨jnl n, pagesF l (drf n)⟩ := fun l => by rw [getF_put, if_pos rfl]
      have hP : pagesF (renames (actD G) (drf n) (jnl n)).now n = P := (p1 G.now).trans d1.pages
      refine ⟨⟨put_once (without_once d1.once _) _, put_once (without_once d1.sonce _) _, ?_, ?_, ?_, ?_, by rw [hP]; exact Mix.start, ?_, by rw [hwn]; simp⟩, hwn, hP, d2⟩
      · exact (d1.only.gone (c := jnl n)).put (.inr rfl)
      · exact (d1.sonly.gone (c := jnl n)).put (.inr rfl)
      · show getF (putF (without G.now (drf n)) ⟨jnl n, pagesF G.now (drf n)⟩) (jnl n) = _
        rw [p2, d3]
      · show getF (putF (without G.safe (drf n)) ⟨jnl n, pagesF G.safe (drf n)⟩) (jnl n) = _
        rw [p2, d4]
      · rw [show pagesF (renames (actD G) (drf n) (jnl n)).safe n = P from (p1 G.safe).trans d1.spages]
        exact Mix.start
    · rw [if_pos (by rw [a]; omega)]
      exact .inr ⟨a, b2, c⟩
  · rw [if_pos (by rw [a]; omega)]
    exact .inr ⟨a, b1, c⟩

theorem writes_fresh_take (ws : Pgs) (k : Nat) (hk : k < ws.length) : ws.drop k = ws[k] :: ws.drop (k + 1) := List.drop_eq_getElem_cons hk

/-- The journal's pages are written: all of them, or the power goes. -/
theorem Jour.settle {D : Dsk} {n : List UInt8} {R P : List (List UInt8)} {ws : Pgs} {f : Nat} (h : Jour D n R P ws f) (h0 : D.off = false) (hf : freshN P.length ws = some f) (hws : ws ≠ []) (hl : ∀ p ∈ ws, p.2.length ≤ 512) (hr : P.length + f + R.length ≤ D.room) :
    Gets (settleD D n ws) (fun E => Fine E n (laidP P ws) ∧ E.room = D.room) (fun E => Jour E n R P ws f ∧ E.room = D.room) := by
  have hw := out_writes (n := n) (O := fun E => Jour E n R P ws f ∧ E.room = D.room) ws
    (I := fun k E => Jour E n R P ws f ∧ E.room = D.room ∧ (∃ g, freshN (pagesF E.now n).length (ws.drop k) = some g ∧ (pagesF E.now n).length + g = P.length + f) ∧ laidP (pagesF E.now n) (ws.drop k) = laidP P ws ∧ (0 < k → (getF E.now n).isSome = true)) (D := D)
    (fun k E hk h0 hE => by
      obtain ⟨e1, e2, ⟨g, e3, e3'⟩, e4, _⟩ := hE
      rw [writes_fresh_take ws k hk] at e3 e4
      have hin : InW ws ws[k].1.toNat := by
        have := (fresh_lt ws hf _ (List.getElem_mem hk)).1
        exact ⟨ws[k], List.getElem_mem hk, by omega⟩
      obtain ⟨i, hi⟩ : ∃ i : Nat, ws[k].1 = (i : Int) := ⟨ws[k].1.toNat, by have := (fresh_lt ws hf _ (List.getElem_mem hk)).1; omega⟩
      rw [hi] at hin ⊢
      rw [Int.toNat_natCast] at hin
      have hbl := hl _ (List.getElem_mem hk)
      rw [freshN, hi] at e3
      have hle : i ≤ (pagesF E.now n).length := by
        by_cases hb : (i : Int) < 0 ∨ ((pagesF E.now n).length : Int) < i
        · rw [if_pos hb] at e3; cases e3
        · omega
      rw [if_neg (by omega)] at e3
      have hg : (i = (pagesF E.now n).length → ∃ g', freshN ((pagesF E.now n).length + 1) (ws.drop (k + 1)) = some g' ∧ g' + 1 = g) ∧ (i ≠ (pagesF E.now n).length → freshN (pagesF E.now n).length (ws.drop (k + 1)) = some g) := by
        refine ⟨fun e => ?_, fun e => ?_⟩
        · rw [if_pos (by omega)] at e3
          cases hr2 : freshN ((pagesF E.now n).length + 1) (ws.drop (k + 1)) with
          | none => rw [hr2] at e3; cases e3
          | some g' => rw [hr2] at e3; injection e3 with e3; exact ⟨g', rfl, e3⟩
        · rwa [if_neg (by omega)] at e3
      rw [write_is h0 hle hbl (fun e => by
        obtain ⟨g', _, hg'⟩ := hg.1 e
        rw [e1.count, e2]; omega)]
      have hpw : pagesF (wrote E n i ws[k].2).now n = setP (pagesF E.now n) i (pad ws[k].2) := by
        show pagesF (putF E.now ⟨n, _⟩) n = _
        rw [pagesF_put, if_pos rfl]
      have hk1 : Jour (wrote E n i ws[k].2) n R P ws f := by
        refine ⟨put_once e1.once _, e1.sonce, e1.only.put (.inl rfl), e1.sonly, ?_, e1.sjn, ?_, e1.smix, fun w hx => ?_⟩
        · show getF (putF E.now _) (jnl n) = _
          rw [getF_put, if_neg (by exact jnl_ne n)]
          exact e1.jn
        · rw [hpw]
          exact e1.mix.put hf hin _
        · have hx : w ∈ E.waits ++ [⟨n, i, pad ws[k].2⟩] := hx
          rcases List.mem_append.1 hx with hx | hx
          · exact e1.waits w hx
          · rw [List.mem_singleton] at hx
            rw [hx]
            exact ⟨rfl, hin⟩
      refine out_ends h0 ⟨hk1, e2, ?_, ?_, fun _ => ?_⟩ fun k' => ⟨hk1.lose hf k', ((lose_is (D := wrote E n i ws[k].2) h0 k').2.2.2.1).trans e2⟩
      · rw [hpw, setP_len]
        by_cases e : i = (pagesF E.now n).length
        · obtain ⟨g', q1, q2⟩ := hg.1 e
          exact ⟨g', by rw [show max (pagesF E.now n).length (i + 1) = (pagesF E.now n).length + 1 by omega]; exact q1, by omega⟩
        · exact ⟨g, by rw [show max (pagesF E.now n).length (i + 1) = (pagesF E.now n).length by omega]; exact hg.2 e, by omega⟩
      · rw [hpw, ← e4]
        show _ = laidP (setP (pagesF E.now n) ws[k].1.toNat (pad ws[k].2)) _
        rw [hi, Int.toNat_natCast]
      · show (getF (putF E.now _) n).isSome = true
        rw [getF_put, if_pos rfl]; rfl) h0 ⟨h, rfl, ⟨_, h.mix.fresh hf, by have := h.mix.hi; omega⟩, h.mix.laidP, fun h => by omega⟩
  unfold settleD
  rcases hw with ⟨a, b1, c⟩ | ⟨a, b1, c⟩
  · rw [if_neg (fun h => h a)]
    generalize (writes D n ws).1 = E at b1 c ⊢
    obtain ⟨c1, c2, _, c4, c5⟩ := c
    rw [List.drop_length] at c4
    have c4 : pagesF E.now n = laidP P ws := c4
    have his := c5 (by cases ws with | nil => exact absurd rfl hws | cons _ _ => simp)
    have hs : Gets (syncIf E n) (fun E => Jour E n R P ws f ∧ E.room = D.room ∧ pagesF E.now n = laidP P ws ∧ pagesF E.safe n = laidP P ws ∧ E.waits = []) (fun E => Jour E n R P ws f ∧ E.room = D.room) := by
      unfold syncIf
      rw [if_pos his]
      unfold syncD
      refine out_act (R := mayD E n) (g := fun E => syncs E n) (out_may b1 his ?_ fun k => ⟨c1.act.lose hf k, ((lose_is (D := actD E) b1 k).2.2.2.1).trans c2⟩) fun _ => rfl
      have hwn : (syncs (actD E) n).waits = [] := drop_waits fun w hw => (c1.waits w hw).1
      have hsp : pagesF (syncs (actD E) n).safe n = laidP P ws := by
        show pagesF (putF E.safe ⟨n, pagesF E.now n⟩) n = _
        rw [pagesF_put, if_pos rfl]
        exact c4
      refine ⟨⟨c1.once, put_once c1.sonce _, c1.only, c1.sonly.put (.inl rfl), c1.jn, ?_, c1.mix, ?_, by rw [hwn]; simp⟩, c2, c4, hsp, hwn⟩
      · show getF (putF E.safe _) (jnl n) = _
        rw [getF_put, if_neg (by exact jnl_ne n)]
        exact c1.sjn
      · rw [hsp, ← c4]
        exact c1.mix
    rcases hs with ⟨a, b2, c⟩ | ⟨a, b2, c⟩
    · rw [if_neg (fun h => h a)]
      generalize (syncIf E n).1 = G at b2 c ⊢
      obtain ⟨d1, d2, d3, d4, d5⟩ := c
      unfold removeD
      refine out_act (R := mayD G (jnl n)) (g := fun E => removes E (jnl n)) (out_may b2 (by rw [d1.jn]; rfl) ?_ fun k => ⟨d1.act.lose hf k, ((lose_is (D := actD G) b2 k).2.2.2.1).trans d2⟩) fun _ => rfl
      have hwn : (removes (actD G) (jnl n)).waits = [] := by
        show dropW G.waits (jnl n) 0 = []
        rw [d5]
        rfl
      have p1 : ∀ l : List Fil, pagesF (without l (jnl n)) n = pagesF l n := fun l => pagesF_get (by rw [getF_without, if_neg (jnl_ne n).symm])
      have hdn : (getF (removes (actD G) (jnl n)).now (drf n)).isSome = false := by
        cases e : (getF (removes (actD G) (jnl n)).now (drf n)).isSome
        · rfl
        · have e : (getF (without G.now (jnl n)) (drf n)).isSome = true := e
          rcases d1.only.without (c := jnl n) _ e with h | h
          · exact absurd h (drf_ne n)
          · exact absurd h.symm (jnl_drf n)
      exact ⟨⟨⟨without_once d1.once _, without_once d1.sonce _, d1.only.gone, d1.sonly.gone, (p1 G.now).trans d3, (p1 G.safe).trans d4, by rw [hwn]; simp⟩, hdn, hwn⟩, d2⟩
    · rw [if_pos (by rw [a]; omega)]
      exact .inr ⟨a, b2, c⟩
  · rw [if_pos (by rw [a]; omega)]
    exact .inr ⟨a, b1, c⟩

/-- A commit that can be: done, or the power goes in it: with the pages as they were, or with the journal. -/
theorem Fine.commit {D : Dsk} {n : List UInt8} {P : List (List UInt8)} {ws : Pgs} {f : Nat} (h : Fine D n P) (h0 : D.off = false) (hl : hasLong ws = false) (hf : freshN P.length ws = some f) (hr : ws ≠ [] → ¬ freeD D < (pagesOf (recF ws).length + f : Nat)) :
    Gets (commitD D n ws) (fun E => Fine E n (laidP P ws) ∧ E.room = D.room) (fun E => (Kept E n P ∨ ws ≠ [] ∧ Jour E n (pagesB (recF ws)) P ws f) ∧ E.room = D.room) := by
  unfold commitD
  rw [if_neg (by rw [h0]; simp), if_neg (by rw [hl]; simp), h.kept.pages, hf]
  simp only
  by_cases hws : ws = []
  · subst hws
    rw [if_pos rfl]
    exact .inl ⟨rfl, h0, h, rfl⟩
  · have hr := hr hws
    rw [if_neg hws, if_neg hr]
    have hc := h.kept.count
    rw [pages_of_none h.draft] at hc
    simp only [List.length_nil] at hc
    have hroom : P.length + pagesOf (recF ws).length + f ≤ D.room := by unfold freeD at hr; omega
    rcases h.post (ws := ws) (f := f) h0 (b := recF ws) (frm_pos _) (by omega) with ⟨a, b1, c⟩ | ⟨a, b1, c⟩
    · rw [if_neg (fun h => h a)]
      obtain ⟨c1, c2, c3, c4⟩ := c
      have hR : (pagesB (recF ws)).length = pagesOf (recF ws).length := by simp [pagesB, chunks_len]
      refine (c1.settle b1 hf hws (hasLong_none hl) (by rw [hR, c4]; omega)).imp (fun E _ hE => ⟨hE.1, hE.2.trans c4⟩) fun E _ hE => ⟨.inr ⟨hws, hE.1⟩, hE.2.trans c4⟩
    · rw [if_pos (by rw [a]; omega)]
      exact .inr ⟨a, b1, .inl c.1, c.2⟩

end Go.Proofs.Ythgnchgehmakjaa.Cd

/-
  A log, wherever the power goes: what the pages tell is a beginning of what was appended, with all that was synced. No Go in sight. Conditions: none.
-/
namespace Go.Proofs.Ythgnchgehmakjaa.Cd

/-- A page as some Append from the b-th byte on made it, or none. -/
def VerP (t : List UInt8) (b j : Nat) (p : List UInt8) : Prop := 510 * j < t.length ∧ ∃ k, b ≤ k ∧ k ≤ t.length ∧ partP p = part (t.take k) j

theorem VerP.more {t : List UInt8} {b j : Nat} {p : List UInt8} (h : VerP t b j p) (x : List UInt8) : VerP (t ++ x) b j p := by
  obtain ⟨h0, k, h1, h2, h3⟩ := h
  exact ⟨by rw [List.length_append]; omega, k, h1, by rw [List.length_append]; omega, by rw [h3, List.take_append_of_le_length h2]⟩
theorem ver_nought {t : List UInt8} {b j : Nat} (hb : b ≤ t.length) (h : b ≤ 510 * j) (hj : 510 * j < t.length) : VerP t b j nought := by
  refine ⟨hj, b, Nat.le_refl _, hb, ?_⟩
  rw [part_nought]
  unfold part
  rw [List.drop_of_length_le (by rw [List.length_take]; omega)]
  rfl
theorem ver_whole {t : List UInt8} {b : Nat} (hb : b ≤ t.length) (j : Nat) (hj : 510 * j < t.length) : VerP t b j (pad (pageB (part t j))) :=
  ⟨hj, t.length, hb, Nat.le_refl _, by rw [part_pad (part_le _ _), List.take_length]⟩

theorem ver_log {t : List UInt8} {b : Nat} : ∀ (Q : List (List UInt8)) (j : Nat), (∀ i p, Q[i]? = some p → VerP t b (j + i) p) → b ≤ 510 * (j + Q.length) → 510 * j ≤ t.length →
    ∃ m, logB Q = (t.take m).drop (510 * j) ∧ b ≤ m ∧ 510 * j ≤ m ∧ m ≤ t.length := by
  intro Q
  induction Q with
  | nil =>
    intro j _ h2 h3
    refine ⟨510 * j, ?_, by simpa using h2, Nat.le_refl _, h3⟩
    rw [logB, List.drop_of_length_le (by rw [List.length_take]; omega)]
  | cons p r ih =>
    intro j h h2 h3
    obtain ⟨_, k, k1, k2, k3⟩ := h 0 p rfl
    rw [Nat.add_zero] at k3
    have hl : (partP p).length = min 510 (k - 510 * j) := by rw [k3, part_len, List.length_take]; omega
    rw [logB]
    by_cases hs : (partP p).length < 510
    · rw [if_pos hs]
      by_cases hkj : 510 * j ≤ k
      · refine ⟨k, ?_, k1, hkj, k2⟩
        rw [k3]
        unfold part
        rw [List.take_of_length_le (by rw [List.length_drop, List.length_take]; omega)]
      · refine ⟨510 * j, ?_, by omega, Nat.le_refl _, h3⟩
        rw [List.drop_of_length_le (by rw [List.length_take]; omega)]
        exact List.length_eq_zero_iff.1 (by omega)
    · rw [if_neg hs]
      simp only [List.length_cons] at h2
      obtain ⟨m, m1, m2, m3, m4⟩ := ih (j + 1) (fun i q hq => by have := h (i + 1) q (by simpa using hq); rwa [show j + (i + 1) = j + 1 + i by omega] at this) (by omega) (by omega)
      refine ⟨m, ?_, m2, by omega, m4⟩
      rw [m1, k3, show 510 * (j + 1) = 510 * j + 510 by omega, ← List.drop_drop]
      have e : part (t.take k) j = ((t.take m).drop (510 * j)).take 510 := by
        unfold part
        rw [List.drop_take, List.drop_take, List.take_take, List.take_take, Nat.min_eq_left (by omega), Nat.min_eq_left (by omega)]
      rw [e, List.take_append_drop]

/-- Nothing but the file is there. -/
def Sole (l : List Fil) (n : List UInt8) : Prop := ∀ m, (getF l m).isSome = true → m = n
theorem sole_count {l : List Fil} {n : List UInt8} (h : Once l) (hs : Sole l n) : count l = (pagesF l n).length := by
  have h1 := count_two h (a := n) (b := drf n) (fun m hm => .inl (hs m hm)) (fun e => drf_ne n e.symm)
  have h2 : pagesF l (drf n) = [] := pages_of_none (by
    cases e : (getF l (drf n)).isSome
    · rfl
    · exact absurd (hs _ e) (drf_ne n))
  rw [h1, h2]
  rfl
theorem Sole.put {l : List Fil} {n : List UInt8} (h : Sole l n) {x : Fil} (hx : x.name = n) : Sole (putF l x) n := by
  intro m hm
  rw [getF_put] at hm
  by_cases e : m = x.name
  · rw [e, hx]
  · rw [if_neg e] at hm; exact h m hm

/-- A log's file: what is safe, and what waits, are pages as Appends made them from the b-th byte on. -/
structure Vers (D : Dsk) (n t : List UInt8) (b : Nat) : Prop where
  once : Once D.now
  sonce : Once D.safe
  sole : Sole D.now n
  ssole : Sole D.safe n
  len : b ≤ t.length
  need : needP b ≤ (pagesF D.safe n).length
  safe : ∀ j p, (pagesF D.safe n)[j]? = some p → VerP t b j p
  waits : ∀ w ∈ D.waits, w.name = n ∧ VerP t b w.page w.data
/-- The power is off; what is there is safe. -/
structure Gone9 (D : Dsk) (n t : List UInt8) (b : Nat) : Prop where
  vers : Vers D n t b
  off : D.off = true
  fuse : D.fuse = 0
  same : D.safe = D.now
  none : D.waits = []

theorem need_le {b j : Nat} (h : needP b ≤ j) : b ≤ 510 * j := by unfold needP at h; omega
theorem keeps_ver {keep : Nat} {n t : List UInt8} {b : Nat} (hb : b ≤ t.length) (l : List Wrt) : ∀ (i : Nat) (s : List Fil), (∀ w ∈ l, w.name = n ∧ VerP t b w.page w.data) → Sole s n → needP b ≤ (pagesF s n).length → (∀ j p, (pagesF s n)[j]? = some p → VerP t b j p) →
    Sole (keeps keep i l s) n ∧ needP b ≤ (pagesF (keeps keep i l s) n).length ∧ ∀ j p, (pagesF (keeps keep i l s) n)[j]? = some p → VerP t b j p := by
  induction l with
  | nil => intro i s _ h1 h2 h3; exact ⟨h1, h2, h3⟩
  | cons w r ih =>
    intro i s hw h1 h2 h3
    obtain ⟨e, hv⟩ := hw w (by simp)
    rw [keeps]
    refine ih _ _ (fun x hx => hw x (List.mem_cons_of_mem _ hx)) ?_ ?_ ?_
    · split
      · exact h1.put e
      · exact h1
    · split
      · rw [pagesF_put, if_pos (by exact e.symm)]
        show _ ≤ (setP (pagesF s w.name) w.page w.data).length
        rw [setP_len, e]; omega
      · exact h2
    · split
      · rw [pagesF_put, if_pos (by exact e.symm)]
        intro j p hp
        have hp : (setP (pagesF s w.name) w.page w.data)[j]? = some p := hp
        rw [setP_at, e] at hp
        by_cases e1 : j = w.page
        · rw [if_pos e1] at hp
          injection hp with hp
          rw [e1, ← hp]
          exact hv
        · rw [if_neg e1] at hp
          split at hp
          · exact h3 j p hp
          · split at hp
            · injection hp with hp
              rw [← hp]
              exact ver_nought hb (need_le (by omega)) (by have := hv.1; omega)
            · cases hp
      · exact h3

theorem Vers.lose {D : Dsk} {n t : List UInt8} {b : Nat} (h : Vers D n t b) (ho : D.off = false) (k : Nat) : Gone9 (lose D k) n t b := by
  obtain ⟨e1, e2, e3, e4, e5⟩ := lose_is ho k
  obtain ⟨q1, q2, q3⟩ := keeps_ver (keep := k) h.len D.waits 0 D.safe h.waits h.ssole h.need h.safe
  have hso : Sole (there D.now (keeps k 0 D.waits D.safe)) n := fun m hm => by
    rcases there_names _ _ _ hm with hm | hm
    · exact q1 m hm
    · exact h.sole m hm
  have hc := there_once D.now _ (keeps_once (keep := k) D.waits 0 D.safe h.sonce)
  refine ⟨⟨by rw [e1]; exact hc, by rw [e2]; exact hc, by rw [e1]; exact hso, by rw [e2]; exact hso, h.len, ?_, ?_, by rw [e3]; simp⟩, lose_off _ _, e5, by rw [e1, e2], e3⟩
  · rw [e2, there_pages]; exact q2
  · rw [e2, there_pages]; exact q3

/-- What the pages tell. -/
theorem Gone9.log {D : Dsk} {n t : List UInt8} {b : Nat} (h : Gone9 D n t b) : ∃ m, logB (pagesF D.now n) = t.take m ∧ b ≤ m ∧ m ≤ t.length := by
  obtain ⟨m, m1, m2, _, m4⟩ := ver_log (t := t) (b := b) (pagesF D.now n) 0 (fun i p hp => by rw [Nat.zero_add]; exact h.vers.safe i p (by rw [h.same]; exact hp)) (by
    have := need_le h.vers.need
    rw [h.same] at this
    simpa using this) (by omega)
  exact ⟨m, by simpa using m1, m2, m4⟩

/-- With the power on: the pages tell all that was appended. -/
structure Going (D : Dsk) (n t : List UInt8) (b : Nat) : Prop where
  vers : Vers D n t b
  off : D.off = false
  lay : Lay (pagesF D.now n) t

theorem Vers.act {D : Dsk} {n t : List UInt8} {b : Nat} (h : Vers D n t b) : Vers (actD D) n t b := ⟨h.once, h.sonce, h.sole, h.ssole, h.len, h.need, h.safe, h.waits⟩
theorem Vers.more {D : Dsk} {n t : List UInt8} {b : Nat} (h : Vers D n t b) (x : List UInt8) : Vers D n (t ++ x) b :=
  ⟨h.once, h.sonce, h.sole, h.ssole, by have := h.len; rw [List.length_append]; omega, h.need, fun j p hp => (h.safe j p hp).more x, fun w hw => ⟨(h.waits w hw).1, (h.waits w hw).2.more x⟩⟩

/-- Bytes are appended: or the power goes. -/
theorem Going.put {D : Dsk} {n s : List UInt8} {b : Nat} (h : Going D n s b) (x : List UInt8) (hr : needP (s.length + x.length) ≤ D.room) :
    Gets (putD D n s x) (fun E => Going E n (s ++ x) b ∧ E.room = D.room) (fun E => Gone9 E n (s ++ x) b ∧ E.room = D.room) := by
  have h3 := need_lo s.length
  have h4 := need_last s x
  have h5 := needP_mono (Nat.le_add_right s.length x.length)
  obtain ⟨P, hP⟩ : ∃ y, pagesF D.now n = y := ⟨_, rfl⟩
  have hlay := h.lay
  rw [hP] at hlay
  have hPl := hlay.2
  have hlaid := laid_range (fun k => pageB (part (s ++ x) k)) (needP (lastP s ++ x).length) (s.length / 510) P (by omega) (by omega)
  rw [← chunks_range] at hlaid
  have hsub : ∀ k, k ≤ (chunksL s x).length → (laidP P ((chunksL s x).take k)).length = max P.length (s.length / 510 + k) := by
    intro k
    induction k with
    | zero => intro _; show P.length = _; omega
    | succ k ih =>
      intro hk
      have := ih (by omega)
      rw [List.take_succ_eq_append_getElem (by omega)]
      unfold laidP at this ⊢
      rw [List.foldl_append]
      show (setP _ _ _).length = _
      rw [setP_len, this, chunksL_at _ _ (by omega)]
      simp only [Int.toNat_natCast]
      omega
  have hw := out_writes (n := n) (O := fun E => Gone9 E n (s ++ x) b ∧ E.room = D.room) (chunksL s x)
    (I := fun k E => Vers E n (s ++ x) b ∧ E.room = D.room ∧ pagesF E.now n = laidP P ((chunksL s x).take k)) (D := D)
    (fun k E hk h0 hE => by
      obtain ⟨e1, e2, e3⟩ := hE
      have hlen : (pagesF E.now n).length = max P.length (s.length / 510 + k) := by rw [e3]; exact hsub k (by omega)
      have hkl : k < needP (lastP s ++ x).length := by rw [← chunksL_len]; exact hk
      rw [chunksL_at s x hk]
      have hcnt := sole_count e1.once e1.sole
      have hpl : (pageB (part (lastP s ++ x) k)).length ≤ 512 := by rw [pageB_len]; have := part_le (lastP s ++ x) k; omega
      simp only
      rw [write_is h0 (by omega) hpl (fun _ => by rw [hcnt, hlen, e2]; omega)]
      have hv1 : Vers (wrote E n (s.length / 510 + k) (pageB (part (lastP s ++ x) k))) n (s ++ x) b := by
        refine ⟨put_once e1.once _, e1.sonce, e1.sole.put rfl, e1.ssole, e1.len, e1.need, e1.safe, fun w hx => ?_⟩
        have hx : w ∈ E.waits ++ [⟨n, s.length / 510 + k, pad (pageB (part (lastP s ++ x) k))⟩] := hx
        rcases List.mem_append.1 hx with hx | hx
        · exact e1.waits w hx
        · rw [List.mem_singleton] at hx
          rw [hx]
          refine ⟨rfl, ?_⟩
          show VerP _ _ (s.length / 510 + k) (pad (pageB (part (lastP s ++ x) k)))
          rw [last_append]
          exact ver_whole e1.len _ (by rw [List.length_append]; unfold needP at h4 hkl; omega)
      refine out_ends h0 ⟨hv1, e2, ?_⟩ fun k' => ⟨hv1.lose h0 k', ((lose_is (D := wrote E n (s.length / 510 + k) (pageB (part (lastP s ++ x) k))) h0 k').2.2.2.1).trans e2⟩
      show pagesF (putF E.now ⟨n, setP (pagesF E.now n) (s.length / 510 + k) _⟩) n = _
      rw [pagesF_put, if_pos rfl]
      show setP (pagesF E.now n) (s.length / 510 + k) _ = _
      rw [e3, List.take_succ_eq_append_getElem hk]
      unfold laidP
      rw [List.foldl_append]
      show _ = setP _ _ _
      rw [chunksL_at _ _ hk]
      rfl) h.off ⟨h.vers.more x, rfl, hP⟩
  refine Gets.imp hw (fun E h0 hE => ?_) fun E _ hE => hE
  obtain ⟨e1, e2, e3⟩ := hE
  rw [List.take_length, hlaid] at e3
  exact ⟨⟨e1, h0, by rw [e3]; exact lay_grown hlay x⟩, e2⟩

/-- The file is synced: or the power goes. -/
theorem Going.sync {D : Dsk} {n s : List UInt8} {b : Nat} (h : Going D n s b) (hs : 0 < s.length) : Gets (syncD D n) (fun E => Going E n s s.length ∧ E.room = D.room) (fun E => Gone9 E n s b ∧ E.room = D.room) := by
  have hl := h.lay.2
  have his : (getF D.now n).isSome = true := by
    cases hg : (getF D.now n).isSome
    · rw [pages_of_none hg] at hl
      have := needP_pos hs
      simp only [List.length_nil] at hl
      omega
    · rfl
  unfold syncD
  refine out_act (R := mayD D n) (g := fun E => syncs E n) (out_may h.off his ?_ fun k => ⟨h.vers.act.lose h.off k, (lose_is (D := actD D) h.off k).2.2.2.1⟩) fun _ => rfl
  have hwn : (syncs (actD D) n).waits = [] := drop_waits fun w hw => (h.vers.waits w hw).1
  have hsp : pagesF (syncs (actD D) n).safe n = pagesF D.now n := by
    show pagesF (putF D.safe ⟨n, pagesF D.now n⟩) n = _
    rw [pagesF_put, if_pos rfl]
  refine ⟨⟨⟨h.vers.once, put_once h.vers.sonce _, h.vers.sole, h.vers.ssole.put rfl, Nat.le_refl _, by rw [hsp, hl]; exact Nat.le_refl _, fun j p hp => ?_, by rw [hwn]; simp⟩, h.off, h.lay⟩, rfl⟩
  rw [hsp] at hp
  refine ⟨by have := (List.getElem?_eq_some_iff.1 hp).1; unfold needP at hl; omega, s.length, Nat.le_refl _, Nat.le_refl _, ?_⟩
  rw [List.take_length]
  have hj := (List.getElem?_eq_some_iff.1 hp).1
  have hlay := h.lay.1
  have := logB_at (pagesF D.now n) j p hp (by rw [hlay]; unfold needP at hl; omega)
  rw [this, hlay]

theorem going_new (room : Int) (n : List UInt8) : Going (newD room) n [] 0 :=
  ⟨⟨once_nil, once_nil, fun m hm => (by cases hm), fun m hm => (by cases hm), Nat.le_refl _, Nat.zero_le _, fun j p hp => (by cases hp), fun w hw => (by cases hw)⟩, rfl, lay_nil⟩
theorem Going.arm {D : Dsk} {n t : List UInt8} {b : Nat} (h : Going D n t b) (a : Int) (k : Nat) : Going (armD D a k) n t b := ⟨⟨h.vers.once, h.vers.sonce, h.vers.sole, h.vers.ssole, h.vers.len, h.vers.need, h.vers.safe, h.vers.waits⟩, h.off, h.lay⟩

/-- Behind it, the power is on again, and no end of it in sight. -/
theorem Gone9.roomy {D : Dsk} {n t : List UInt8} {b : Nat} (h : Gone9 D n t b) : Roomy (armD (onD D) 0 0) D.room (pagesF D.now n).length :=
  ⟨rfl, rfl, h.vers.once, rfl, sole_count h.vers.once h.vers.sole⟩

/-- There are no more pages than the bytes take. -/
theorem Gone9.count {D : Dsk} {n t : List UInt8} {b : Nat} (h : Gone9 D n t b) : (pagesF D.now n).length ≤ needP t.length := by
  rcases Nat.eq_zero_or_pos (pagesF D.now n).length with h0 | h0
  · omega
  · have hp : (pagesF D.now n)[(pagesF D.now n).length - 1]? = some ((pagesF D.now n)[(pagesF D.now n).length - 1]'(by omega)) := List.getElem?_eq_getElem _
    have := (h.vers.safe _ _ (by rw [h.same]; exact hp)).1
    unfold needP
    omega

/-- The first records of the log's first bytes. -/
theorem cut_at (l : List (List UInt8)) (m : Nat) (hm : m ≤ (flat l).length) : ∃ k, k ≤ l.length ∧ (flat (l.take k)).length ≤ m ∧ (k < l.length → m < (flat (l.take (k + 1))).length) := by
  induction l generalizing m with
  | nil => exact ⟨0, Nat.le_refl _, by simp [flat], fun h => by simp at h⟩
  | cons x r ih =>
    rw [flat_cons, List.length_append] at hm
    by_cases hx : (frm x).length ≤ m
    · obtain ⟨k, k1, k2, k3⟩ := ih (m - (frm x).length) (by omega)
      refine ⟨k + 1, by simp; omega, ?_, fun h => ?_⟩
      · rw [List.take_succ_cons, flat_cons, List.length_append]; omega
      · have := k3 (by simpa using h)
        rw [List.take_succ_cons, flat_cons, List.length_append]; omega
    · exact ⟨0, Nat.zero_le _, by simp [flat], fun _ => by rw [List.take_succ_cons, flat_cons]; simp [flat]; omega⟩
theorem splits_at (l : List (List UInt8)) (sf m : Nat) (hb : (flat l).length < 18446744073709551616) (hm : m ≤ (flat l).length) (hsf : (flat (l.take sf)).length ≤ m) (hsl : sf ≤ l.length) :
    ∃ k cur, sf ≤ k ∧ k ≤ l.length ∧ Splits ((flat l).take m) (l.take k) cur := by
  obtain ⟨k, k1, k2, k3⟩ := cut_at l m hm
  obtain ⟨cur, hc⟩ := splits_cut l k m k1 k2 k3 hb
  refine ⟨k, cur, ?_, k1, hc⟩
  by_cases h : sf ≤ k
  · exact h
  · exfalso
    have h1 := k3 (by omega)
    have h2 := flat_mono l (k + 1) sf (by omega)
    omega

end Go.Proofs.Ythgnchgehmakjaa.Cd

/-
  What is safe of a log, with the power on and no end of it in sight; what Open finds of pages as they were laid. No Go in sight. Conditions: none.
-/
namespace Go.Proofs.Ythgnchgehmakjaa.Cd

theorem keeps_zero (ws : List Wrt) : ∀ (i : Nat) (s : List Fil), keeps 0 i ws s = s := by
  induction ws with
  | nil => intro i s; rfl
  | cons w r ih =>
    intro i s
    rw [keeps, if_neg (by simp [keepBit]), ih]
/-- With nothing kept, what is safe is there. -/
theorem lose_zero {D : Dsk} (h : D.off = false) (n : List UInt8) : pagesF (lose D 0).now n = pagesF D.safe n := by
  rw [lose_now h, keeps_zero, there_pages]

theorem writeD_safe {D : Dsk} {n b : List UInt8} {i : Int} (h : (writeD D n i b).2 = 0) : (writeD D n i b).1.safe = D.safe := by
  unfold writeD at h ⊢
  split at h
  · cases h
  · rename_i h1
    rw [if_neg h1]
    split at h
    · cases h
    · rename_i h2
      rw [if_neg h2]
      split at h
      · cases h
      · rename_i h3
        rw [if_neg h3]
        split at h
        · cases h
        · rename_i h4
          rw [if_neg h4]
          unfold ends at h ⊢
          split at h
          · cases h
          · rename_i h5
            rw [if_neg h5]
            rfl
theorem writes_safe (n : List UInt8) (l : Pgs) : ∀ {D : Dsk}, (writes D n l).2 = 0 → (writes D n l).1.safe = D.safe := by
  induction l with
  | nil => intro D _; rfl
  | cons p r ih =>
    intro D h
    by_cases hz : (writeD D n p.1 p.2).2 = 0
    · rw [writes_cons hz] at h ⊢
      rw [ih h, writeD_safe hz]
    · rw [writes_bad hz] at h
      exact absurd h hz
theorem appendD_safe {D : Dsk} {n s b : List UInt8} (h : (appendD D n s b).2 = 0) : (appendD D n s b).1.safe = D.safe := by
  unfold appendD at h ⊢
  split at h
  · rename_i h1; rw [if_pos h1]
  · rename_i h1
    rw [if_neg h1]
    split at h
    · cases h
    · rename_i h2
      rw [if_neg h2]
      exact writes_safe n _ h

/-- Pages as they were laid are left alone. -/
theorem trim_lay {D : Dsk} {n s : List UInt8} (h : Lay (pagesF D.now n) s) : trimD D n s s.length = (D, 0) := by
  have h2 := h.2
  unfold trimD
  rw [if_neg (show ¬ needP s.length < (pagesF D.now n).length by omega)]
  rw [if_neg (fun e => e rfl), if_pos (show min s.length (needP s.length * 510) = s.length by unfold needP; omega)]

/-- The file is synced, with the power on and no end of it in sight. -/
theorem Roomy.syncL {D : Dsk} {room k : Nat} (h : Roomy D room k) {n s : List UInt8} (hl : Lay (pagesF D.now n) s) :
    unless5 (syncD D n).2 = 0 ∧ Roomy (syncD D n).1 room k ∧ (syncD D n).1.now = D.now ∧ (0 < s.length → pagesF (syncD D n).1.safe n = pagesF D.now n ∧ ∀ w ∈ (syncD D n).1.waits, w.name ≠ n) := by
  cases hg : (getF D.now n).isSome
  · have he : syncD D n = (D, 5) := by
      have hm : mayD D n = (D, 5) := by unfold mayD; rw [if_neg (by rw [h.off]; simp), if_pos hg]
      unfold syncD
      rw [hm, if_neg (by simp)]
    rw [he]
    refine ⟨rfl, h, rfl, fun h0 => ?_⟩
    have h2 := hl.2
    rw [pages_of_none hg] at h2
    have := needP_pos h0
    simp only [List.length_nil] at h2
    omega
  · obtain ⟨a1, a2, a3⟩ := h.sync hg
    refine ⟨by rw [a1]; rfl, a2, a3, fun _ => ?_⟩
    rw [sync_calm h.off hg (by rw [h.fuse]; omega)]
    refine ⟨?_, fun w hw => ?_⟩
    · show pagesF (putF D.safe ⟨n, pagesF D.now n⟩) n = _
      rw [pagesF_put, if_pos rfl]
    · have hw : w ∈ dropW D.waits n 0 := hw
      unfold dropW at hw
      have := (List.mem_filter.1 hw).2
      simp only [decide_eq_true_eq] at this
      rcases this with h1 | h1
      · exact h1
      · omega

/-- What is safe comes back, if nothing waits of the file. -/
theorem lose_waits {D : Dsk} (h : D.off = false) {n : List UInt8} (hw : ∀ w ∈ D.waits, w.name ≠ n) (k : Nat) : pagesF (lose D k).now n = pagesF D.safe n := by
  rw [lose_now h, there_pages]
  exact pagesF_get (keeps_other D.waits 0 D.safe hw)

/-- The records at the beginning of bytes are the first ones that are read. -/
theorem splits_front {bs cur rest : List UInt8} : ∀ (xs ds : List (List UInt8)), bs.length < 18446744073709551616 → bs = flat xs ++ rest → Splits bs ds cur → ∃ es, ds = xs ++ es ∧ Splits rest es cur := by
  intro xs
  induction xs generalizing bs with
  | nil =>
    intro ds _ h1 h2
    rw [flat_nil, List.nil_append] at h1
    exact ⟨ds, rfl, by rw [← h1]; exact h2⟩
  | cons x xs ih =>
    intro ds hb h1 h2
    rw [flat_cons, List.append_assoc] at h1
    cases ds with
    | nil =>
      refine absurd ?_ h2.2
      have h3 := h2.1
      rw [flat_nil, List.nil_append] at h3
      exact ⟨x, by rw [← h3, h1]; exact List.prefix_append _ _⟩
    | cons d ds =>
      have hd : frm d <+: bs := by rw [h2.1, flat_cons, List.append_assoc]; exact List.prefix_append _ _
      have hx : frm x <+: bs := by rw [h1]; exact List.prefix_append _ _
      obtain rfl := pre_uniq hd hx hb
      have e2 := h2.1
      rw [flat_cons, List.append_assoc, h1] at e2
      have e3 := List.append_cancel_left e2
      have hl : (flat xs ++ rest).length < 18446744073709551616 := by rw [h1, List.length_append] at hb; omega
      obtain ⟨es, e4, e5⟩ := ih ds hl rfl ⟨e3, h2.2⟩
      exact ⟨es, by rw [e4]; rfl, e5⟩

end Go.Proofs.Ythgnchgehmakjaa.Cd

/-
  Save of a table's bytes, as the document tells of it, wherever the power goes: no Go in sight. Conditions: none.
-/
namespace Go.Proofs.Ythgnchgehmakjaa.Cd

/-- What Save leaves and answers. -/
def saveD (D : Dsk) (n b : List UInt8) : Dsk × Nat :=
  if D.off = true then (D, 8) else if (getF D.now n).isSome = true then (D, 6) else
  if freeD D < (pagesOf b.length : Nat) then (D, 7) else
  if (writes D n (chunks b)).2 ≠ 0 then writes D n (chunks b) else syncD (writes D n (chunks b)).1 n

/-- All that is there, now or safe, is this file; its pages are no more than there is room for. -/
structure Lone (D : Dsk) (n : List UInt8) : Prop where
  once : Once D.now
  sonce : Once D.safe
  sole : Sole D.now n
  ssole : Sole D.safe n
  waits : ∀ w ∈ D.waits, w.name = n ∧ w.page < D.room
  len : (pagesF D.now n).length ≤ D.room
  slen : (pagesF D.safe n).length ≤ D.room

theorem lone_new (room : Int) (n : List UInt8) : Lone (newD room) n :=
  ⟨once_nil, once_nil, fun m hm => (by cases hm), fun m hm => (by cases hm), fun w hw => (by cases hw), Nat.zero_le _, Nat.zero_le _⟩
theorem Lone.arm {D : Dsk} {n : List UInt8} (h : Lone D n) (a : Int) (k : Nat) : Lone (armD D a k) n := ⟨h.once, h.sonce, h.sole, h.ssole, h.waits, h.len, h.slen⟩
theorem Lone.on {D : Dsk} {n : List UInt8} (h : Lone D n) : Lone (onD D) n := ⟨h.once, h.sonce, h.sole, h.ssole, h.waits, h.len, h.slen⟩
theorem Lone.act {D : Dsk} {n : List UInt8} (h : Lone D n) : Lone (actD D) n := ⟨h.once, h.sonce, h.sole, h.ssole, h.waits, h.len, h.slen⟩
theorem keeps_sole {keep : Nat} {n : List UInt8} (ws : List Wrt) : ∀ (i : Nat) (s : List Fil), (∀ w ∈ ws, w.name = n) → Sole s n → Sole (keeps keep i ws s) n := by
  induction ws with
  | nil => intro i s _ h; exact h
  | cons w r ih =>
    intro i s hw h
    rw [keeps]
    refine ih _ _ (fun x hx => hw x (List.mem_cons_of_mem w hx)) ?_
    split
    · exact h.put (hw w (by simp))
    · exact h
theorem Lone.lose {D : Dsk} {n : List UInt8} (h : Lone D n) (k : Nat) : Lone (lose D k) n := by
  by_cases h0 : D.off = true
  · rw [lose_again h0]; exact h
  have h0 : D.off = false := by simpa using h0
  obtain ⟨e1, e2, e3, e4, e5⟩ := lose_is h0 k
  have hso : Sole (there D.now (keeps k 0 D.waits D.safe)) n := fun m hm => by
    rcases there_names _ _ _ hm with hm | hm
    · exact keeps_sole D.waits 0 D.safe (fun w hw => (h.waits w hw).1) h.ssole m hm
    · exact h.sole m hm
  have hl : (pagesF (there D.now (keeps k 0 D.waits D.safe)) n).length ≤ D.room := by
    rw [there_pages]
    exact keeps_short D.waits 0 D.safe (fun w hw _ => (h.waits w hw).2) h.slen
  have ho := there_once D.now _ (keeps_once (keep := k) D.waits 0 D.safe h.sonce)
  exact ⟨by rw [e1]; exact ho, by rw [e2]; exact ho, by rw [e1]; exact hso, by rw [e2]; exact hso, by rw [e3]; simp, by rw [e1, e4]; exact hl, by rw [e2, e4]; exact hl⟩
/-- Another file isn't there. -/
theorem Lone.other {D : Dsk} {n m : List UInt8} (h : Lone D n) (hm : m ≠ n) : (getF D.now m).isSome = false := by
  cases e : (getF D.now m).isSome
  · rfl
  · exact absurd (h.sole m e) hm

/-- The file is there, with these pages, and safe. -/
structure Laid1 (D : Dsk) (n : List UInt8) (P : List (List UInt8)) : Prop where
  lone : Lone D n
  pages : pagesF D.now n = P
  spages : pagesF D.safe n = P
  waits : D.waits = []
  is : (getF D.now n).isSome = true

theorem Laid1.lose {D : Dsk} {n : List UInt8} {P : List (List UInt8)} (h : Laid1 D n P) (h0 : D.off = false) (k : Nat) : Lone (lose D k) n ∧ pagesF (Cd.lose D k).now n = P :=
  ⟨h.lone.lose k, by rw [lose_waits h0 (by rw [h.waits]; simp), h.spages]⟩

theorem Lone.save {D : Dsk} {n b : List UInt8} (h : Lone D n) (h0 : D.off = false) (hn : (getF D.now n).isSome = false) (hr : pagesOf b.length ≤ D.room) (hb : 0 < b.length) :
    Gets (saveD D n b) (fun E => Laid1 E n (pagesB b) ∧ E.room = D.room) (fun E => Lone E n ∧ E.room = D.room) := by
  have hp0 : pagesF D.now n = [] := pages_of_none hn
  have hw := out_writes (n := n) (O := fun E => Lone E n ∧ E.room = D.room) (chunks b)
    (I := fun k E => Lone E n ∧ E.room = D.room ∧ pagesF E.now n = ((chunks b).take k).map (fun p => pad p.2) ∧ (0 < k → (getF E.now n).isSome = true)) (D := D)
    (fun k E hk h0 hE => by
      obtain ⟨e1, e2, e3, e4⟩ := hE
      have hlen : (pagesF E.now n).length = k := by rw [e3, List.length_map, List.length_take]; omega
      have hkl : k < pagesOf b.length := by rw [← chunks_len]; exact hk
      have hcnt := sole_count e1.once e1.sole
      rw [chunks_at b hk, write_is h0 (by omega) (chunks_short b _ (List.getElem_mem hk)) (fun _ => by rw [hcnt, hlen, e2]; omega)]
      have hset : pagesF (wrote E n k (chunks b)[k].2).now n = pagesF E.now n ++ [pad (chunks b)[k].2] := by
        show pagesF (putF E.now ⟨n, setP (pagesF E.now n) k _⟩) n = _
        rw [pagesF_put, if_pos rfl]
        show setP (pagesF E.now n) k _ = _
        have e := setP_end (pagesF E.now n) (pad (chunks b)[k].2)
        rw [hlen] at e
        exact e
      have hk1 : Lone (wrote E n k (chunks b)[k].2) n := by
        refine ⟨put_once e1.once _, e1.sonce, e1.sole.put rfl, e1.ssole, fun w hx => ?_, ?_, e1.slen⟩
        · have hx : w ∈ E.waits ++ [⟨n, k, pad (chunks b)[k].2⟩] := hx
          rcases List.mem_append.1 hx with hx | hx
          · exact e1.waits w hx
          · rw [List.mem_singleton] at hx
            rw [hx]
            exact ⟨rfl, by show k < E.room; omega⟩
        · rw [hset, List.length_append, hlen]
          show k + 1 ≤ E.room
          omega
      refine out_ends h0 ⟨hk1, e2, ?_, fun _ => ?_⟩ fun k' => ⟨hk1.lose k', ((lose_is (D := wrote E n k (chunks b)[k].2) h0 k').2.2.2.1).trans e2⟩
      · rw [hset, e3, List.take_succ_eq_append_getElem hk, List.map_append]
        rfl
      · show (getF (putF E.now _) n).isSome = true
        rw [getF_put, if_pos rfl]; rfl) h0 ⟨h, rfl, by simpa using hp0, fun h => by omega⟩
  unfold saveD
  have hfree : ¬ freeD D < (pagesOf b.length : Nat) := by
    have hcnt := sole_count h.once h.sole
    rw [hp0] at hcnt
    have hc : count D.now = 0 := hcnt
    unfold freeD
    rw [hc]
    omega
  rw [if_neg (by rw [h0]; simp), if_neg (by rw [hn]; simp), if_neg hfree]
  rcases hw with ⟨a, b1, c⟩ | ⟨a, b1, c⟩
  · rw [if_neg (fun h => h a)]
    generalize (writes D n (chunks b)).1 = E at b1 c ⊢
    obtain ⟨c1, c2, c3, c4⟩ := c
    rw [List.take_length] at c3
    have his := c4 (by rw [chunks_len]; exact pagesOf_pos hb)
    unfold syncD
    refine out_act (R := mayD E n) (g := fun E => syncs E n) (out_may b1 his ?_ fun k => ⟨c1.act.lose k, ((lose_is (D := actD E) b1 k).2.2.2.1).trans c2⟩) fun _ => rfl
    have hwn : (syncs (actD E) n).waits = [] := drop_waits fun w hw => (c1.waits w hw).1
    have hsp : pagesF (syncs (actD E) n).safe n = pagesF E.now n := by
      show pagesF (putF E.safe ⟨n, pagesF E.now n⟩) n = _
      rw [pagesF_put, if_pos rfl]
    exact ⟨⟨⟨c1.once, put_once c1.sonce _, c1.sole, c1.ssole.put rfl, by rw [hwn]; simp, c1.len, by rw [hsp]; exact c1.len⟩, c3, hsp.trans c3, hwn, his⟩, c2⟩
  · rw [if_pos (by rw [a]; omega)]
    exact .inr ⟨a, b1, c⟩

/-! ### The fuse -/

theorem writes_fuse {n : List UInt8} (ws : Pgs) : ∀ {D : Dsk}, (writes D n ws).2 = 0 → (writes D n ws).1.fuse = D.fuse - ws.length ∧ (D.fuse = 0 ∨ ws.length < D.fuse) := by
  induction ws with
  | nil => intro D _; exact ⟨rfl, by simp only [List.length_nil]; omega⟩
  | cons p r ih =>
    intro D h
    by_cases hz : (writeD D n p.1 p.2).2 = 0
    · rw [writes_cons hz] at h ⊢
      obtain ⟨h1, h2⟩ := ih h
      obtain ⟨e, h0, hb, hi, hi2⟩ := write_ok hz
      have hf : (writeD D n p.1 p.2).1.fuse = D.fuse - 1 := by rw [e]; rfl
      have hne : D.fuse ≠ 1 := fun e1 => by
        unfold writeD at hz
        rw [if_neg (by rw [h0]; simp), if_neg (by omega), if_neg (by omega)] at hz
        split at hz
        · cases hz
        · unfold ends at hz
          rw [if_pos e1] at hz
          cases hz
      rw [hf] at h1 h2
      simp only [List.length_cons]
      omega
    · rw [writes_bad hz] at h
      exact absurd h hz

/-- A Save that was OK took more acts than the fuse had, if it had any. -/
theorem save_fuse {D : Dsk} {n b : List UInt8} (h : (saveD D n b).2 = 0) : D.fuse = 0 ∨ pagesOf b.length + 1 < D.fuse := by
  unfold saveD at h
  split at h
  · cases h
  · split at h
    · cases h
    · split at h
      · cases h
      · split at h
        · rename_i e; exact absurd h e
        · rename_i e
          have e : (writes D n (chunks b)).2 = 0 := Classical.byContradiction e
          obtain ⟨h1, h2⟩ := writes_fuse (chunks b) e
          rw [chunks_len] at h1 h2
          have hm : (mayD (writes D n (chunks b)).1 n).2 = 0 := by
            unfold syncD at h
            split at h
            · assumption
            · exact h
          obtain ⟨_, h0, h3⟩ := may_is hm
          have hne : (writes D n (chunks b)).1.fuse ≠ 1 := fun e1 => by
            rw [may_ok h0 h3] at hm
            unfold ends at hm
            rw [if_pos e1] at hm
            cases hm
          omega

/-! ### What the pages tell -/

theorem pagesB_flat_aux (b : List UInt8) : ∀ (m j : Nat), b.length ≤ 512 * (j + m) → 512 * (j + m) < b.length + 512 → 512 * j ≤ b.length →
    (((List.range' j m).map fun k => pad (chunk b k)).flatten) = b.drop (512 * j) ++ List.replicate (512 * (j + m) - b.length) 0 := by
  intro m
  induction m with
  | zero =>
    intro j h1 h2 h3
    rw [List.drop_of_length_le (by omega), show 512 * (j + 0) - b.length = 0 by omega]
    rfl
  | succ m ih =>
    intro j h1 h2 h3
    rw [List.range'_succ, List.map_cons, List.flatten_cons]
    by_cases hl : b.length ≤ 512 * (j + 1)
    · have hm : m = 0 := by omega
      subst hm
      have hc : chunk b j = b.drop (512 * j) := by unfold chunk; rw [List.take_of_length_le (by simp; omega)]
      rw [hc]
      simp only [List.range'_zero, List.map_nil, List.flatten_nil, List.append_nil, pad, List.length_drop]
      congr 2
      omega
    · rw [ih (j + 1) (by omega) (by omega) (by omega)]
      have hc : (chunk b j).length = 512 := by simp [chunk]; omega
      have hp : pad (chunk b j) = chunk b j := by unfold pad; rw [hc]; simp
      rw [hp, ← List.append_assoc]
      congr 1
      · unfold chunk
        rw [show 512 * (j + 1) = 512 * j + 512 by omega, ← List.drop_drop, List.take_append_drop]
      · rw [show j + 1 + m = j + (m + 1) by omega]

theorem pagesB_flat (b : List UInt8) : (pagesB b).flatten = b ++ List.replicate (512 * pagesOf b.length - b.length) 0 := by
  have h := pagesB_flat_aux b (pagesOf b.length) 0 (by unfold pagesOf; omega) (by unfold pagesOf; omega) (by omega)
  simp only [Nat.mul_zero, List.drop_zero, Nat.zero_add] at h
  rw [← h]
  unfold pagesB chunks
  rw [List.map_map, List.range_eq_range']
  rfl
theorem pagesB_len (b : List UInt8) : (pagesB b).length = pagesOf b.length := by unfold pagesB; rw [List.length_map, chunks_len]
theorem pagesB_512 (b : List UInt8) : ∀ p ∈ pagesB b, p.length = 512 := by
  intro p hp
  unfold pagesB at hp
  obtain ⟨q, hq, rfl⟩ := List.mem_map.1 hp
  exact pad_len (chunks_short b q hq)

end Go.Proofs.Ythgnchgehmakjaa.Cd

/-
  Inside a round of a loop over a function: an operation and a region that draws its order are shown as they are elsewhere. Conditions: no statement of the region defers a call.
-/
namespace Go.Proofs.Ythgnchgehmakjaa.Cd

section
variable {P : Program} {ops : Array Oper} {Q : Exit → Act → World → Prop} {l n : Nat}

theorem calls_round {f : FuncId} {args : Array Value} {w : World} {R : Ending → World → Prop} (h : Calls P f args w R) : CallsIn (Fence.wide.inRound l) n P f args w R := CallsIn.inRound l (callsIn_wide.2 h)

theorem oper_round {o : Oper} {a : Act} {w : World} {K : Act → World → Prop} (hd : ∀ c, o.op ≠ .defer c) (h : o.wp P a w K Q) : o.wpIn (Fence.wide.inRound l) n P a w K Q := by
  unfold Oper.wpIn
  refine ⟨fun _ _ => trivial, ?_⟩
  show o.uponIn _ n P a K Q ((o.semAt (some l) a.eval).run P w)
  rw [Oper.semAt_some _ _ _ hd]
  unfold Oper.wp at h
  generalize (execOp a.eval o).run P w = r at h ⊢
  have hn : (Fence.wide.inRound l).depth.isSome = true → 1 ≤ n := fun h => by cases h
  cases r with
  | ok x w' =>
    cases x with
    | value v => exact h
    | skip => exact h
    | defer d => exact h
    | enter f args => exact ⟨hn, CallsIn.mono (calls_round h) (fun e w'' he => by cases e <;> exact he)⟩
    | row row args => exact ⟨hn, fun c cs _ => let ⟨v, w', r, s⟩ := h c cs; ⟨v, w', r, stepsIn_wide.2 s⟩⟩
    | _ => exact h.elim
  | halt x w' =>
    cases x with
    | panic v => exact h
    | _ => exact h.elim

def noDefer (ops : Array Oper) : Bool := ops.toList.all fun o => match o.op with | .defer _ => false | _ => true
theorem noDefer_at (h : noDefer ops = true) {i : Nat} {o : Oper} (ho : ops[i]? = some o) : ∀ c, o.op ≠ .defer c := by
  intro c e
  have hm : o ∈ ops.toList := by
    have := (Array.getElem?_eq_some_iff.1 ho)
    obtain ⟨hi, rfl⟩ := this
    exact Array.getElem_mem_toList hi
  have := List.all_eq_true.1 h o hm
  rw [e] at this
  cases this

theorem wpOp_round {i : Nat} {a : Act} {w : World} {K : Act → World → Prop} (hlo : ¬ LetsOut Q) (hd : noDefer ops = true) (h : wpOp P ops Q i K a w) : wpOpIn (Fence.wide.inRound l) n P ops Q i K a w := by
  unfold wpOp at h
  unfold wpOpIn
  cases ho : ops[i]? with
  | none => rw [ho] at h; exact h
  | some o =>
    rw [ho] at h
    simp only at h ⊢
    split at h
    · rename_i hw
      rw [if_pos hw]
      rcases h with h | h
      · exact oper_round (noDefer_at hd ho) h
      · exact absurd h.2 hlo
    · rename_i hw
      rw [if_neg hw]
      exact ⟨fun _ _ => trivial, h⟩

theorem wpAny_round (hlo : ¬ LetsOut Q) (hd : noDefer ops = true) : ∀ (fuel : Nat) (listed : Array Bool) (a : Act) (w : World), wpAny P .any ops Q fuel listed a w → wpAnyIn (Fence.wide.inRound l) n P .any ops Q fuel listed a w := by
  intro fuel
  induction fuel with
  | zero => intro listed a w h; exact h
  | succ fuel ih => intro listed a w h; exact ⟨h.1, fun i hi => wpOpIn_mono (fun a' w' h' => ih _ a' w' h') (wpOp_round hlo hd (h.2 i hi))⟩

/-- A region that draws its order, in a round: S holds from the draw on. -/
theorem region_round {S : World → Prop} {id : Nat} {a : Act} {w W0 : World} (hW : w.drew = W0) (hm : P.follows .mixedOrders = true) (hlo : ¬ LetsOut Q) (hd : noDefer ops = true) (hS : S W0)
    (h : S W0 → wpAnyH P .any ops Q S ops.size (Array.replicate ops.size false) a W0) : (Code.region id ops true).wpIn (Fence.wide.inRound l) n P Q a w := by
  subst hW
  exact wpIn_region_any hm (wpAny_round hlo hd _ _ _ _ (wpAny_of_held _ _ _ _ (h hS)))
end

end Go.Proofs.Ythgnchgehmakjaa.Cd

/-
  slices.Chunk of bytes by pages, and slices.Collect of what it hands over: a row of slices. Conditions: there are bytes.
-/
namespace Go.Proofs.Ythgnchgehmakjaa.Cd
open Go.RowKit Go.Shelf
attribute [local go_sem] Oper.semAt_some
set_option linter.unusedVariables false

theorem tchunk_any (A : Option Addr) (n c : Nat) (w : World) :
    Calls Try.prog 24 #[.slice A n c, .int .i64 512] w (fun e w' => e = .returned (.func (.func 47) #[] #[.pointer (some ⟨w.heap.size, 0, none⟩), .pointer (some ⟨w.heap.size + 1, 0, none⟩)]) ∧
      w' = (w.alloc (.cells #[.slice A n c] 31)).alloc (.cells #[.int .i64 512] 3)) := by
  go_enter Try.func24, Try.ntmps24
  go_wp2_with fail
  go_ret
  exact ⟨by simp, rfl⟩

/-- The k-th page of n bytes at b, off. -/
def tgV (b off n k : Nat) : Value := .slice (some ⟨b, off + 512 * k, none⟩) (min 512 (n - 512 * k)) (min 512 (n - 512 * k))
/-- The two boxes of the iterator's. -/
def BoxesT (bs bn : Nat) (b off n c : Nat) (W : World) : Prop := W.cell? ⟨bs, 0, none⟩ = some (.slice (some ⟨b, off, none⟩) n c) ∧ W.cell? ⟨bn, 0, none⟩ = some (.int .i64 512)

set_option maxRecDepth 100000 in
set_option maxHeartbeats 3200000 in
theorem tchunk_hands (m bs bn b off n c : Nat) (hn : n ≤ c) (hc : c ≤ 9223372036854775807) (hn2 : n ≤ 140737488355328) :
    Hands Fence.wide m Try.prog 47 #[.pointer (some ⟨bs, 0, none⟩), .pointer (some ⟨bn, 0, none⟩)] (fun k => #[tgV b off n k]) (List.range (pagesOf n)) (BoxesT bs bn b off n c) := by
  intro l J Jx W hJ hJx hB hY h0
  have HJ := Lib.hid hJ
  have HJX := Lib.hid hJx
  have HBX := Lib.hid hB
  have HY := Lib.hid hY
  have H0 := Lib.hid h0
  clear hJ hJx hB hY h0
  refine callsIn_of_wp Try.func47 rfl trivial ?_ rfl
  simp only [Try.ntmps47, List.size_toArray, List.length_cons, List.length_nil, Nat.reduceAdd, Nat.reduceSub, Array.replicate_succ, Array.replicate_zero, List.push_toArray, List.append_toArray, List.nil_append, List.cons_append]
  gi_wp2
  gi_loopw [4] (fun p wr => ∃ i k : Nat, p = .int .i64 i ∧ Hid (i = 512 * k) ∧ i ≤ n + 512 ∧ Hid (k ≤ pagesOf n) ∧ Hid (J k wr)) (fun p _ => n + 1024 - (intOf p).toNat)
  case atStart => exact ⟨0, 0, rfl, rfl, by omega, Nat.zero_le _, H0⟩
  case round =>
    obtain ⟨i, k, rfl, hi, hi2, hk, hJk⟩ := hrel
    obtain ⟨x1, x2⟩ := HBX.out k wr hJk.out
    have hn' : (n : Int) ≤ 140737488355328 := by omega
    by_cases hlt : i < n
    · have hlt' : (i : Int) < n := by omega
      have hJ1 : J k wr.drew := HJ.out k wr wr.drew hJk.out (Below.refl _ _).drew
      obtain ⟨y1, y2⟩ := HBX.out k wr.drew hJ1
      have hkl : k < pagesOf n := by have := hi.out; unfold pagesOf; omega
      obtain ⟨fn, tmps, assign, body, hy, hR⟩ := HY.out k k wr.drew (List.getElem?_range hkl) hJ1
      obtain ⟨e, he⟩ : ∃ e, min 512 (n - 512 * k) = e := ⟨_, rfl⟩
      have hpv : tgV b off n k = .slice (some ⟨b, off + i, none⟩) e e := by unfold tgV; rw [he, hi.out]
      have he' : e = min 512 (n - i) := by rw [hi.out]; exact he.symm
      have hmin : min (512 : Int) ((n - i : Nat) : Int) = (e : Int) := by omega
      have hsl : ((i : Int) + (e : Int)).toNat - i = e := by omega
      have he1 : i + e ≤ n := by omega
      have he2 : 1 ≤ e ∧ e ≤ 512 := by omega
      rw [hpv] at hy
      have HR := Lib.hid hR
      have HE := Lib.hid he'
      have HKL := Lib.hid hkl
      clear hR he' he hpv hJ1 hkl
      have hic : (i : Int) ≤ c := by omega
      have hcase : (e = n - i ∧ ((n - i : Nat) : Int) < 512) ∨ (e = 512 ∧ (512 : Int) ≤ ((n - i : Nat) : Int)) := by have := HE.out; omega
      have hsl2 : ((i : Int) + 512).toNat - i = 512 := by omega
      rcases hcase with ⟨rfl, hle⟩ | ⟨rfl, hle⟩
      all_goals
        clear hmin
        gi_wp2
        gi_region
        all_goals gi_wp2
        refine ⟨fun h => (by cases h), HR.out.mono ?_⟩
        rintro e2 W3 (⟨rfl, hJ3⟩ | ⟨rfl, hJx3⟩)
        · have HJ3 := Lib.hid hJ3
          obtain ⟨z1, z2⟩ := HBX.out _ W3 hJ3
          clear hJ3
          gi_wp2
          go_roundw
          case rel =>
            have h1 := hi.out
            have h2 := HKL.out
            exact ⟨i + 512, k + 1, by go_num, by unfold Hid; omega, by omega, by unfold Hid; omega, HJ3⟩
          case measure => simp [intOf]; omega
        · have HX3 := Lib.hid hJx3
          clear hJx3
          gi_wp2
          refine bodyPost_ret (results_none rfl _ _ _) rfl ?_
          exact ⟨⟨_, rfl⟩, .inr ⟨k + 1, by rw [List.length_range]; exact HKL.out, HX3.out⟩⟩
    · have hlt' : (n : Int) ≤ i := by omega
      have hke : k = pagesOf n := by
        have h1 := hi.out
        have h2 := hk.out
        unfold pagesOf at *
        omega
      gi_wp2
      go_end0
      exact ⟨⟨_, rfl⟩, .inl (by rw [List.length_range, ← hke]; exact hJk.out)⟩

theorem info_slv : (Try.prog.info? 31).map (fun i => (i.zero, i.size, i.bytes)) = some (some (.slice none 0 0), 1, 24) := by kernel_rfl

/-- A row of slices of the call's own. -/
def OwnV (w : World) (B : Nat) (v : Value) (vs : List Value) : Prop := w.ownsRow B 31 1 v vs.length vs
section
variable {w w' : World} {B : Nat} {v : Value} {vs : List Value}
theorem OwnV.nil (w : World) (B : Nat) : OwnV w B (.slice none 0 0) [] := World.ownsRow_nil _ _ _ _
theorem OwnV.keep (h : OwnV w B v vs) (hk : ∀ k, v.ownBlock = some k → w'.heap[k]? = w.heap[k]?) : OwnV w' B v vs := by
  refine ⟨h.1, ?_⟩
  rcases h.2 with h4 | ⟨g, cap, cur, rfl, hg, hh, r⟩
  · exact .inl h4
  · exact .inr ⟨g, cap, cur, rfl, hg, (hk g rfl).trans hh, r⟩
theorem OwnV.lower {B' : Nat} (h : OwnV w B v vs) (hB : B' ≤ B) : OwnV w B' v vs := by
  refine ⟨h.1, ?_⟩
  rcases h.2 with h2 | ⟨g, cap, cur, hv, hg, r⟩
  · exact .inl h2
  · exact .inr ⟨g, cap, cur, hv, Nat.le_trans hB hg, r⟩
theorem OwnV.at (h : OwnV w B v vs) {k : Nat} (hk : v.ownBlock = some k) : B ≤ k ∧ k < w.heap.size ∧ ∃ cur, w.heap[k]? = some (.cells cur 31 (0, 0)) := by
  have h1 := World.ownsRow.lt h k hk
  rcases h.2 with ⟨rfl, _⟩ | ⟨g, cap, cur, rfl, hg, hh, _⟩
  · cases hk
  · have : g = k := by simpa [Value.ownBlock] using hk
    subst this
    exact ⟨hg, h1.2, cur, hh⟩
/-- The row as a value: its block, its cells. -/
theorem OwnV.open (h : OwnV w B v vs) (h0 : 0 < vs.length) : ∃ g cap, v = .slice (some ⟨g, 0, none⟩) vs.length cap ∧ vs.length ≤ cap ∧ cap ≤ maxLen ∧ B ≤ g ∧ g < w.heap.size ∧ ∃ cur : Array Value, w.heap[g]? = some (.cells cur 31 (0, 0)) ∧ ∀ (j : Nat) u, vs[j]? = some u → cur[j]? = some u := by
  have hlt := World.ownsRow.lt h
  rcases h.2 with ⟨_, h1⟩ | ⟨g, cap, cur, rfl, hb, hh, hn, hm, hc, ht⟩
  · omega
  · refine ⟨g, cap, rfl, hn, hm, hb, (hlt g rfl).2, cur, hh, fun j u hu => ?_⟩
    have hj := (List.getElem?_eq_some_iff.1 hu).1
    rw [← ht] at hu
    rw [List.getElem?_take, if_pos (by omega)] at hu
    simpa using hu
end

/-- Between two rounds: the box at q holds a row that was laid since, of what has come. -/
def InBoxV (w0 : World) (q B : Nat) (vs : List Value) (W : World) : Prop :=
  ∃ v, W.heap[q]? = some (.cells #[v] 60 (0, 0)) ∧ OwnV W B v vs ∧ Below w0.heap.size w0 W ∧ B ≤ W.heap.size

theorem inBoxV_stays (w0 : World) (q r : Nat) (hq : w0.heap.size ≤ q) (hqr : q < r) (hx : q < r) (vs : List Value) : Stays r (InBoxV w0 q (r + 1) vs) := by
  refine ⟨fun A B hA hb => ?_, fun A o hA => ?_⟩
  · obtain ⟨v, h1, h2, h3, h4⟩ := hA
    have hlt := (Array.getElem?_eq_some_iff.1 h1).1
    exact ⟨v, (hb.block q hlt).trans h1, h2.keep fun k hk => hb.block k (h2.at hk).2.1, h3.trans (hb.mono h3.size), Nat.le_trans h4 hb.size⟩
  · obtain ⟨v, h1, h2, h3, h4⟩ := hA
    refine ⟨v, (World.putObj_heap_other (by omega)).trans h1, h2.keep fun k hk => World.putObj_heap_other (by have := (h2.at hk).1; omega), ⟨h3.os, h3.tape, h3.output, by rw [World.putObj_size]; exact h3.size, fun k hk => (World.putObj_heap_other (by omega)).trans (h3.block k hk)⟩, by rw [World.putObj_size]; exact h4⟩

set_option maxRecDepth 100000 in
set_option maxHeartbeats 3200000 in
theorem append_seq_v (n : Nat) (hn : 2 ≤ n) (g : Nat) (lb : Array Value) (eg : ∀ args w, (callFunc g args).run Try.prog w = .ok (.enter g args) w) (enc : Nat → Value) (hone : ∀ k, ∃ A n c, enc k = .slice A n c) (m : Nat) (hm : m ≤ 1099511627775) (Box : World → Prop) (w : World) (hBox : ∀ W, Below w.heap.size w W → Box W)
    (hseq : Hands Fence.wide (n - 1) Try.prog g lb (fun k => #[enc k]) (List.range m) Box) :
    CallsIn Fence.wide n Try.prog 46 #[.slice none 0 0, .func (.func g) #[] lb] w fun e w' => ∃ v, e = .returned v ∧ OwnV w' w.heap.size v ((List.range m).map enc) ∧ Below w.heap.size w w' := by
  refine callsIn_of_wp_marks Try.func46 rfl trivial ?_ rfl
  simp only [Try.ntmps46, List.size_toArray, List.length_cons, List.length_nil, Nat.reduceAdd, Nat.reduceSub, Array.replicate_succ, Array.replicate_zero, List.push_toArray, List.append_toArray, List.nil_append, List.cons_append]
  gi_wp2
  obtain ⟨W0, hW0⟩ : ∃ W0, w.alloc (.cells #[.slice none 0 0] 60) = W0 := ⟨_, rfl⟩
  have hs0 : W0.heap.size = w.heap.size + 1 := by rw [← hW0]; simp
  have hv0 : W0.heap[w.heap.size]? = some (.cells #[.slice none 0 0] 60 (0, 0)) := by rw [← hW0]; exact World.alloc_heap_new w _
  have hb0 : Below w.heap.size w W0 := by rw [← hW0]; exact (Below.refl _ w).alloc (Nat.le_refl _) _
  rw [hW0]
  clear hW0
  refine wpIn_range rfl (by omega) (gf := g) (lb := lb) rfl trivial eg (encs := fun k => #[enc k]) (fun _ => rfl) (List.range m) Box hseq
    (fun k => InBoxV w w.heap.size (W0.heap.size + 1 + 1) ((List.range k).map enc)) (fun _ _ _ => False) (fun k => inBoxV_stays w w.heap.size (W0.heap.size + 1) (Nat.le_refl _) (by omega) (by omega) _) (fun c k => ⟨fun _ _ h _ => h, fun _ _ h => h⟩) (fun k A hA => by obtain ⟨_, _, _, h3, _⟩ := hA; exact hBox A h3) ?h0
    (fun k => { tmps := #[.slice none 0 0, .func (.func g) #[] lb, .pointer (some ⟨w.heap.size, 0, none⟩), undef, .slice none 0 0, enc k, .func (.func g) #[] lb, enc k, undef, undef, undef, undef, undef], defers := [] }) ?assign ?body ?done ?stop
  case h0 =>
    intro o
    have hb : Below W0.heap.size W0 ((W0.alloc (.deferred (some []))).alloc o) := ((Below.refl _ _).alloc (Nat.le_refl _) _).alloc (by simp) _
    exact ⟨_, (hb.block _ (by omega)).trans hv0, OwnV.nil _ _, hb0.trans (hb.mono (by omega)), by simp⟩
  case assign =>
    intro l x W K hK
    gi_wp2
    exact hK
  case body =>
    rintro k x W hx ⟨v, hv, ho, hb, hB⟩ hlt
    obtain ⟨hk1, hk2⟩ := List.getElem?_eq_some_iff.1 hx
    rw [List.length_range] at hk1
    rw [List.getElem_range] at hk2
    subst hk2
    have x0 := cell_of_row _ _ 0 _ _ _ hv
    have HO := Lib.hid ho
    have HB := Lib.hid hb
    have HV := Lib.hid hv
    clear ho hb hv hx
    obtain ⟨i0, hi, hz0, hz1, hz2⟩ := info_parts info_slv
    have HI := Lib.hid hi
    obtain ⟨u, hu⟩ : ∃ u, enc k = u := ⟨_, rfl⟩
    obtain ⟨uA, un, uc, huA⟩ := hone k
    rw [hu] at huA
    have hmx : ((List.range k).map enc).length + 1 ≤ maxLen := by simp only [maxLen, List.length_map, List.length_range]; omega
    have hmy : ((List.range k).map enc).length + 1 ≤ 1099511627776 := by simp only [List.length_map, List.length_range]; omega
    have hnext : (List.range (k + 1)).map enc = (List.range k).map enc ++ [u] := by rw [List.range_succ, List.map_append, ← hu]; rfl
    have HN := Lib.hid hnext
    have hvl : ((List.range k).map enc).length = k := by simp
    obtain ⟨vs, hvs⟩ : ∃ vs, (List.range k).map enc = vs := ⟨_, rfl⟩
    rw [hvs] at HO hmx hmy HN hvl
    rw [hu]
    subst huA
    have HNV := Lib.hid hvl
    have hcells : ∀ (j : Nat) x, [Value.slice uA un uc][j]? = some x → (W.alloc (.cells #[.slice uA un uc] 31)).cell? ((⟨W.heap.size, 0, none⟩ : Addr).add j) = some x := fun j x hx => by
      have hj : j = 0 := by have := (List.getElem?_eq_some_iff.1 hx).1; simp at this; omega
      subst hj
      rw [Addr.add_lit, cell_of_row _ _ _ _ _ _ (heap_alloc_new W _)]
      simpa using hx
    have HC := Lib.hid hcells
    clear hcells hi hnext hvs hu hvl
    gi_wp2_with (gi_at_builtin
                 refine wpListIn_append_own _ rfl _ _ 60 rfl (W0.heap.size + 1 + 1) 31 i0 _ 1 24 Try.underlying60 HI.out hz0 hz1 hz2 rfl (by decide) v vs.length vs rfl (World.ownsRow.alloc HO.out _) ⟨W.heap.size, 0, none⟩ 1 1 [.slice uA un uc] rfl rfl HC.out (by simp [Value.oneCell']) hmx (by omega) (by simp; omega) ?_
                 intro v' w3 hown' hg3 hnil3
                 have hon : OwnV w3 (W0.heap.size + 1 + 1) v' (vs ++ [.slice uA un uc]) := by
                   unfold OwnV
                   rw [List.length_append]
                   exact hown'
                 have hb1 : Below W.heap.size W (W.alloc (.cells #[.slice uA un uc] 31)) := (Below.refl _ _).alloc (Nat.le_refl _) _
                 have hold : ∀ j, j ≤ W0.heap.size + 1 → w3.heap[j]? = W.heap[j]? := fun j hj => (hg3.block j (Nat.lt_of_lt_of_le (by omega) hb1.size) (fun e => by have := (HO.out.at e.symm).1; omega)).trans (hb1.block j (by omega))
                 have hv3 : w3.heap[w.heap.size]? = some (.cells #[v] 60 (0, 0)) := (hold _ (by omega)).trans HV.out
                 have y0 := cell_of_row _ _ 0 _ _ _ hv3
                 have yf := (cell_of_box_a hv3).2
                 have hb3 : Below w.heap.size w w3 := (HB.out.trans (hb1.mono (by omega))).grown hg3 (Nat.le_trans (by omega) hb1.size) (fun k e => by have := (HO.out.at e).1; omega)
                 have hsz3 : W.heap.size ≤ w3.heap.size := Nat.le_trans hb1.size hg3.size
                 obtain ⟨g', cap', rfl⟩ : ∃ g' cap', v' = .slice (some ⟨g', 0, none⟩) (vs.length + 1) cap' := by
                   rcases hon.2 with ⟨_, h0⟩ | ⟨g', cap', cur', h', _⟩
                   · simp at h0
                   · exact ⟨g', cap', by rw [h']; simp⟩
                 have HON := Lib.hid hon
                 have HOLD := Lib.hid hold
                 have HV3 := Lib.hid hv3
                 have HB3 := Lib.hid hb3
                 clear hon hold hv3 hb3 hg3 hown' hnil3)
    have hold4 : ∀ j, j ≤ W0.heap.size + 1 → j ≠ w.heap.size → (w3.setCell ⟨w.heap.size, 0, none⟩ (.slice (some ⟨g', 0, none⟩) (vs.length + 1) cap')).heap[j]? = W.heap[j]? := fun j hj hne => (heap_setCell_other _ _ _ _ hne).trans (HOLD.out j hj)
    refine ⟨⟨hold4 _ (by omega) (by omega), hold4 _ (by omega) (by omega)⟩, _, heap_setCell_box_a _ HV3.out, ?_, ?_, ?_⟩
    · rw [HN.out]
      exact HON.out.keep fun k hk => heap_setCell_other _ _ _ _ (fun e => by have e : k = w.heap.size := e; have := (HON.out.at hk).1; omega)
    · have hb := HB3.out
      exact ⟨hb.os, hb.tape, hb.output, by simpa using hb.size, fun k hk => (heap_setCell_other _ _ _ _ (fun e => by have e : k = w.heap.size := e; omega)).trans (hb.block k hk)⟩
    · simp; omega
  case done =>
    rintro W ⟨v, hv, ho, hb, hB⟩ hd
    have x0 := cell_of_row _ _ 0 _ _ _ hv
    have HO := Lib.hid ho
    have HB := Lib.hid hb
    have HD := Lib.hid hd
    clear ho hb hd hv
    gi_wp2
    refine ⟨by simp, .inl ⟨_, _, rfl, run_takeDeferred HD.out, ?_⟩⟩
    rw [List.length_range] at HO
    refine ⟨_, results_tmp rfl _ _ _, v, rfl, (HO.out.keep fun k hk => World.putObj_heap_other (by have := (HO.out.at hk).1; omega)).lower (by omega), ?_⟩
    have hb := HB.out
    exact ⟨hb.os, hb.tape, hb.output, by rw [World.putObj_size]; exact hb.size, fun k hk => (World.putObj_heap_other (by omega)).trans (hb.block k hk)⟩
  case stop =>
    intro c k W _ h
    exact h.elim

set_option maxRecDepth 100000 in
set_option maxHeartbeats 3200000 in
theorem collect_v (n : Nat) (hn : 3 ≤ n) (g : Nat) (lb : Array Value) (eg : ∀ args w, (callFunc g args).run Try.prog w = .ok (.enter g args) w) (enc : Nat → Value) (hone : ∀ k, ∃ A n c, enc k = .slice A n c) (m : Nat) (hm : m ≤ 1099511627775) (Box : World → Prop) (w : World) (hBox : ∀ W, Below w.heap.size w W → Box W)
    (hseq : Hands Fence.wide (n - 1 - 1) Try.prog g lb (fun k => #[enc k]) (List.range m) Box) :
    CallsIn Fence.wide n Try.prog 23 #[.func (.func g) #[] lb] w fun e w' => ∃ v, e = .returned v ∧ OwnV w' w.heap.size v ((List.range m).map enc) ∧ Below w.heap.size w w' := by
  have hfA : Fence.wide.fn 46 := trivial
  have h1 : 1 ≤ n := by omega
  refine callsIn_of_wp Try.func23 rfl trivial ?_ rfl
  simp only [Try.ntmps23, List.size_toArray, List.length_cons, List.length_nil, Nat.reduceAdd, Nat.reduceSub, Array.replicate_succ, Array.replicate_zero, List.push_toArray, List.append_toArray, List.nil_append, List.cons_append]
  gi_wp2_with (gi_at_call 46; refine (append_seq_v (n - 1) (by omega) g lb eg enc hone m hm Box _ hBox hseq).mono ?_; rintro e w' ⟨v, rfl, ho, hb⟩)
  go_ret
  exact ⟨v, rfl, ho, hb⟩

end Go.Proofs.Ythgnchgehmakjaa.Cd

/-
  A disk in the midst of a call that has blocks of its own: which of these are none of the disk's; bytes that lie in no block of the disk's. Conditions: none.
-/
namespace Go.Proofs.Ythgnchgehmakjaa.Cd
open Go.RowKit

/-- A slice of bytes that lies in no block of S. -/
def Far (w : World) (S : Nat → Prop) (v : Value) (bs : List UInt8) : Prop := Sl w w.heap.size v bs ∧ (0 < bs.length → ∀ A n c, v = .slice (some A) n c → ¬ S A.block)

theorem Far.apart {w w' : World} {S : Nat → Prop} {v : Value} {bs : List UInt8} (h : Far w S v bs) (ha : Apart S w w') : Far w' (since S w w') v bs := by
  obtain ⟨⟨A, c, h1, h2, h3, h4, h5, h6⟩, h7⟩ := h
  refine ⟨⟨A, c, h1, h2, h3, h4, fun ad e h0 => by have := h5 ad e h0; have := ha.size; omega, fun ad e j u hu => ?_⟩, fun h0 A' n c' e hs => ?_⟩
  · have hj : j < bs.length := by have := (List.getElem?_eq_some_iff.1 hu).1; rwa [vb_length] at this
    rw [ha.cell (p := ad.add j) (by rw [block_of_add]; exact h5 ad e (by omega)) (by rw [block_of_add]; rw [e] at h1; exact h7 (by omega) ad _ _ h1)]
    exact h6 ad e j u hu
  · rw [h1] at e
    injection e with e _ _
    rcases hs with hs | hs
    · rw [e] at h1; exact h7 h0 A' _ _ h1 hs
    · have := h5 A' e h0; omega
theorem Far.below {w w' : World} {S : Nat → Prop} {v : Value} {bs : List UInt8} (h : Far w S v bs) (hb : Below w.heap.size w w') : Far w' S v bs := ⟨(h.1.below hb).more hb.size, h.2⟩
theorem Far.less {w : World} {S T : Nat → Prop} {v : Value} {bs : List UInt8} (h : Far w S v bs) (hst : ∀ k, k < w.heap.size → T k → S k) : Far w T v bs := by
  refine ⟨h.1, fun h0 A n c e ht => h.2 h0 A n c e (hst _ ?_ ht)⟩
  obtain ⟨⟨A', c', h1, _, _, _, h5, _⟩, _⟩ := h
  rw [h1] at e
  injection e with e _ _
  exact h5 A e h0

section
variable {w w1 w2 : World} {g N M : Nat} {S : Nat → Prop} {D : Dsk} {v : Value} {e : Ending}
theorem DkS.more {T : Nat → Prop} (h : DkS w g N S D) (hs : ∀ k, S k → T k) (ht : ∀ k, T k → k < w.heap.size) : DkS w g N T D := by
  obtain ⟨P, h1, h2⟩ := h
  exact ⟨P, h1.more hs ht, h2⟩
theorem since_iff {k : Nat} (h1 : w.heap.size ≤ w1.heap.size) (h2 : w1.heap.size ≤ w2.heap.size) : since (since S w w1) w1 w2 k ↔ since S w w2 k := since_trans h1 h2 k
theorem DkS.since (h : DkS w2 g N (since (since S w w1) w1 w2) D) (h1 : w.heap.size ≤ w1.heap.size) (h2 : w1.heap.size ≤ w2.heap.size) : DkS w2 g N (Cd.since S w w2) D :=
  h.more (fun _ hk => (since_iff h1 h2).1 hk) (fun k hk => h.lt k ((since_iff h1 h2).2 hk))
theorem MakesD.up (h1 : Apart S w w1) (h : MakesD g N (Cd.since S w w1) D v w1 e w2) : MakesD g N S D v w e w2 := ⟨h.1, h.2.1.since h1.size h.2.2.size, h1.trans h.2.2⟩
theorem MakesD.grow (h : MakesD g N S D v w e w1) (hN : N ≤ M) (hM : M ≤ 137438953472) : MakesD g M S D v w e w1 := ⟨h.1, h.2.1.mono hN hM, h.2.2⟩
theorem MakesD.undrew (h : MakesD g N S D v w.drew e w1) : MakesD g N S D v w e w1 := ⟨h.1, h.2.1, ⟨h.2.2.os, h.2.2.tape, h.2.2.output, h.2.2.size, h.2.2.block⟩⟩
/-- Nothing was done to the disk. -/
theorem makesD_same (h : DkS w g N S D) (hb : Below w.heap.size w w1) (hN : N ≤ M) (hM : M ≤ 137438953472) : MakesD g M S D v w (.returned v) w1 := by
  have h2 := (h.mono hN hM).below hb
  refine ⟨rfl, h2.more (fun _ => .inl) (fun k hk => ?_), Apart.below hb⟩
  rcases hk with hk | hk
  · exact h2.lt k hk
  · exact hk.2
theorem DkS.into (h : DkS w g N S D) (hb : Below w.heap.size w w1) : DkS w1 g N (Cd.since S w w1) D := (makesD_same (v := .bool true) (M := N) h hb (Nat.le_refl _) (by obtain ⟨P, h1, _⟩ := h; exact h1.fits.top)).2.1
end

/-- A box. -/
def BoxAt (W : World) (r : Nat) (v : Value) (T : TypeId) : Prop := W.heap[r]? = some (.cells #[v] T)
section
variable {W W' : World} {r : Nat} {v u : Value} {T : TypeId}
theorem BoxAt.cell (h : BoxAt W r v T) : W.cell? ⟨r, 0, none⟩ = some v := cell_of_row _ _ 0 _ _ _ h
theorem BoxAt.frozen (h : BoxAt W r v T) : W.frozen? ⟨r, 0, none⟩ = false := by
  have h : W.heap[r]? = _ := h
  unfold World.frozen?
  simp only [h]
  rfl
theorem BoxAt.lt (h : BoxAt W r v T) : r < W.heap.size := (Array.getElem?_eq_some_iff.1 h).1
theorem BoxAt.new (W : World) (v : Value) (T : TypeId) : BoxAt (W.alloc (.cells #[v] T)) W.heap.size v T := heap_alloc_new W _
theorem BoxAt.alloc (h : BoxAt W r v T) (o : Obj) : BoxAt (W.alloc o) r v T := (Below.heap_alloc _ _ _ h.lt).trans h
theorem BoxAt.on (h : BoxAt W r v T) (he : W'.heap[r]? = W.heap[r]?) : BoxAt W' r v T := he.trans h
theorem BoxAt.set (h : BoxAt W r v T) (u : Value) : BoxAt (W.setCell ⟨r, 0, none⟩ u) r u T := by
  have h : W.heap[r]? = _ := h
  unfold BoxAt World.setCell
  simp [Array.getElem?_modify, h]
end

/-- Since w: the disk at g is D; its blocks are those of S and newer ones; the blocks of keep are none of them. -/
def InP (w : World) (S : Nat → Prop) (g : Nat) (keep : List Nat) (M : Nat) (D : Dsk) (W : World) : Prop :=
  ∃ T : Nat → Prop, DkS W g M T D ∧ (∀ j, T j → S j ∨ w.heap.size ≤ j) ∧ (∀ r ∈ keep, ¬ T r ∧ r < W.heap.size) ∧ Apart S w W

section
variable {w W W' : World} {S : Nat → Prop} {p g M N : Nat} {n bs : List UInt8} {keep : List Nat} {D D' : Dsk} {v u : Value} {e : Ending}

theorem inP_start (hd : DkS w g M S D) : InP w S g [] M D w := ⟨S, hd, fun _ => .inl, by simp, Apart.refl _ _⟩
theorem InP.size (h : InP w S g keep M D W) : w.heap.size ≤ W.heap.size := by obtain ⟨T, _, _, _, h4⟩ := h; exact h4.size
theorem InP.apartS (h : InP w S g keep M D W) : Apart S w W := by obtain ⟨T, _, _, _, h4⟩ := h; exact h4
theorem InP.below (h : InP w S g keep M D W) (hb : Below W.heap.size W W') : InP w S g keep M D W' := by
  obtain ⟨T, h1, h2, h3, h4⟩ := h
  exact ⟨T, h1.below hb, h2, fun r hr => ⟨(h3 r hr).1, Nat.lt_of_lt_of_le (h3 r hr).2 hb.size⟩, h4.trans (Apart.below hb)⟩
/-- A block that was laid a moment ago. -/
theorem InP.lay (h : InP w S g keep M D W) (o : Obj) : InP w S g (W.heap.size :: keep) M D (W.alloc o) := by
  have hb : Below W.heap.size W (W.alloc o) := (Below.refl _ _).alloc (Nat.le_refl _) _
  obtain ⟨T, h1, h2, h3, h4⟩ := h.below hb
  obtain ⟨T0, k1, k2, k3, k4⟩ := h
  refine ⟨T0, k1.below hb, k2, fun r hr => ?_, h4⟩
  rcases List.mem_cons.1 hr with rfl | hr
  · exact ⟨fun e => by have := k1.lt _ e; omega, by simp⟩
  · exact ⟨(k3 r hr).1, Nat.lt_of_lt_of_le (k3 r hr).2 hb.size⟩
theorem InP.fewer {keep' : List Nat} (h : InP w S g keep M D W) (hk : ∀ r ∈ keep', r ∈ keep) : InP w S g keep' M D W := by
  obtain ⟨T, h1, h2, h3, h4⟩ := h
  exact ⟨T, h1, h2, fun r hr => h3 r (hk r hr), h4⟩
theorem InP.grow (h : InP w S g keep M D W) (hN : M ≤ N) (hM : N ≤ 137438953472) : InP w S g keep N D W := by
  obtain ⟨T, h1, h2, h3, h4⟩ := h
  exact ⟨T, h1.mono hN hM, h2, h3, h4⟩
/-- A block of the call's own is written. -/
theorem InP.set (h : InP w S g keep M D W) {r o : Nat} (hr : r ∈ keep) (hw : w.heap.size ≤ r) (u : Value) : InP w S g keep M D (W.setCell ⟨r, o, none⟩ u) := by
  obtain ⟨T, h1, h2, h3, h4⟩ := h
  have ha : Apart (fun j => j = r) W (W.setCell ⟨r, o, none⟩ u) := ⟨rfl, rfl, rfl, by simp, fun j _ hj => heap_setCell_other _ _ _ _ hj⟩
  refine ⟨T, h1.apart ha (fun j hj e => (h3 r hr).1 (by rw [← e]; exact hj)), h2, fun q hq => ⟨(h3 q hq).1, by simpa using (h3 q hq).2⟩, ⟨h4.os, h4.tape, h4.output, by simpa using h4.size, fun j hj hn => ?_⟩⟩
  exact (heap_setCell_other _ _ _ _ (fun e => by have e : j = r := e; omega)).trans (h4.block j hj hn)
theorem InP.put (h : InP w S g keep M D W) {r : Nat} (hr : r ∈ keep) (hw : w.heap.size ≤ r) (o : Obj) : InP w S g keep M D (W.putObj r o) := by
  obtain ⟨T, h1, h2, h3, h4⟩ := h
  have ha : Apart (fun j => j = r) W (W.putObj r o) := ⟨rfl, rfl, rfl, by simp, fun j _ hj => World.putObj_heap_other hj⟩
  refine ⟨T, h1.apart ha (fun j hj e => (h3 r hr).1 (by rw [← e]; exact hj)), h2, fun q hq => ⟨(h3 q hq).1, by simpa using (h3 q hq).2⟩, ⟨h4.os, h4.tape, h4.output, by simpa using h4.size, fun j hj hn => ?_⟩⟩
  exact (World.putObj_heap_other (fun e => by omega)).trans (h4.block j hj hn)
/-- What a call leaves that did all this. -/
theorem InP.makes (h : InP w S g keep M D W) (hS : ∀ k, S k → k < w.heap.size) (v : Value) : MakesD g M S D v w (.returned v) W := by
  obtain ⟨T, h1, h2, h3, h4⟩ := h
  refine ⟨rfl, h1.more (fun k hk => ?_) (fun k hk => ?_), h4⟩
  · rcases h2 k hk with h | h
    · exact .inl h
    · exact .inr ⟨h, h1.lt k hk⟩
  · rcases hk with hk | hk
    · exact Nat.lt_of_lt_of_le (hS k hk) h4.size
    · exact hk.2
end

section
variable {w W : World} {S : Nat → Prop} {g M : Nat} {keep : List Nat} {D : Dsk}
/-- What was handed in is as it was, and what a call on the disk leaves. -/
theorem InP.go (h : InP w S g keep M D W) : ∃ T, DkS W g M T D ∧ (∀ v bs, Far w S v bs → Far W T v bs) ∧ (∀ k, k < w.heap.size → ¬ S k → W.heap[k]? = w.heap[k]? ∧ ¬ T k) ∧ (∀ j, T j → S j ∨ w.heap.size ≤ j) ∧
    ∀ e v N D' W', MakesD g N T D' v W e W' → InP w S g keep N D' W' ∧ (∀ r ∈ keep, W'.heap[r]? = W.heap[r]?) ∧ W.heap.size ≤ W'.heap.size ∧ Apart T W W' := by
  obtain ⟨T, h1, h2, h3, h4⟩ := h
  have hless : ∀ k, k < W.heap.size → T k → since S w W k := fun k hk ht => by
    rcases h2 k ht with h | h
    · exact .inl h
    · exact .inr ⟨h, hk⟩
  refine ⟨T, h1, fun v bs hf => (hf.apart h4).less hless, fun k hk hn => ⟨h4.block k hk hn, fun ht => ?_⟩, h2, fun e v N D' W' hm => ?_⟩
  · rcases h2 k ht with h | h
    · exact hn h
    · omega
  obtain ⟨_, m2, m3⟩ := hm
  refine ⟨⟨since T W W', m2, fun j hj => ?_, fun r hr => ⟨fun e => ?_, Nat.lt_of_lt_of_le (h3 r hr).2 m3.size⟩, ?_⟩, fun r hr => m3.block r (h3 r hr).2 (h3 r hr).1, m3.size, m3⟩
  · rcases hj with hj | hj
    · exact h2 j hj
    · exact .inr (by have := h4.size; omega)
  · rcases e with e | e
    · exact (h3 r hr).1 e
    · have := (h3 r hr).2; omega
  · refine ⟨m3.os.trans h4.os, m3.tape.trans h4.tape, m3.output.trans h4.output, Nat.le_trans h4.size m3.size, fun j hj hn => ?_⟩
    exact (m3.block j (Nat.lt_of_lt_of_le hj h4.size) (fun ht => by rcases h2 j ht with h | h; exact hn h; omega)).trans (h4.block j hj hn)
end

end Go.Proofs.Ythgnchgehmakjaa.Cd
