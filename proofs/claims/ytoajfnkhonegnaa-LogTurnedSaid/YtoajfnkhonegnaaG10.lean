/-
  log.read: the log's bytes that a file's pages have. Conditions: the power is on.
-/
import Derived.Test.YtoajfnkhonegnaaG9
import Derived.Test.YtoajfnkhonegnaaG1
import Derived.Test.YtoajfnkhonegnaaG8
import Derived.ChangeSame
import Derived.OpenShut
import Derived.Laws.Rows
import Derived.SizedLaws
import Derived.LoopTactic
import Derived.Test.YtoajfnkhonegnaaG6
import Derived.Test.YtoajfnkhonegnaaG7
import Derived.BigQuiet
import Derived.Laws.BitsAllLaws
/-
  A commit, and an opening, wherever the power goes: no Go in sight. Conditions: none.
-/
namespace Go.Proofs.Ytoajfnkhonegnaa.Cd

/-- An act is done, and the power is on; or it went. -/
def Gets (R : Dsk × Nat) (I O : Dsk → Prop) : Prop := (R.2 = 0 ∧ R.1.off = false ∧ I R.1) ∨ (R.2 = 8 ∧ R.1.off = true ∧ O R.1)

theorem Gets.imp {R : Dsk × Nat} {I O I' O' : Dsk → Prop} (h : Gets R I O) (hI : ∀ D, D.off = false → I D → I' D) (hO : ∀ D, D.off = true → O D → O' D) : Gets R I' O' := by
  rcases h with ⟨a, b, c⟩ | ⟨a, b, c⟩
  · exact .inl ⟨a, b, hI _ b c⟩
  · exact .inr ⟨a, b, hO _ b c⟩
theorem out_ends {D D1 : Dsk} {I O : Dsk → Prop} (h0 : D1.off = false) (hI : I D1) (hO : ∀ k, O (lose D1 k)) : Gets (ends D D1 0) I O := by
  unfold ends
  split
  · exact .inr ⟨rfl, lose_off _ _, hO _⟩
  · exact .inl ⟨rfl, h0, hI⟩
theorem out_writes {n : List UInt8} {O : Dsk → Prop} (ws : Pgs) : ∀ {I : Nat → Dsk → Prop} {D : Dsk}, (∀ k D, (hk : k < ws.length) → D.off = false → I k D → Gets (writeD D n ws[k].1 ws[k].2) (I (k + 1)) O) → D.off = false → I 0 D → Gets (writes D n ws) (I ws.length) O := by
  induction ws with
  | nil => intro I D _ h0 h; exact .inl ⟨rfl, h0, h⟩
  | cons p r ih =>
    intro I D hs h0 h
    rcases hs 0 D (by simp) h0 h with ⟨a, b, c⟩ | ⟨a, b, c⟩
    · rw [writes_cons (show (writeD D n p.1 p.2).2 = 0 from a)]
      exact ih (I := fun k => I (k + 1)) (fun k D hk h0 h => hs (k + 1) D (by simpa using hk) h0 h) b c
    · rw [writes_bad (by show (writeD D n p.1 p.2).2 ≠ 0; rw [show (writeD D n p.1 p.2).2 = 8 from a]; omega)]
      exact .inr ⟨a, b, c⟩
theorem out_may {D : Dsk} {n : List UInt8} {I O : Dsk → Prop} (h0 : D.off = false) (h1 : (getF D.now n).isSome = true) (hI : I (actD D)) (hO : ∀ k, O (lose (actD D) k)) : Gets (mayD D n) I O := by
  rw [may_ok h0 h1]
  exact out_ends h0 hI hO
theorem out_act {R : Dsk × Nat} {g : Dsk → Dsk} {I O : Dsk → Prop} (h : Gets R (fun D => I (g D)) O) (hg : ∀ D, (g D).off = D.off) : Gets (if R.2 = 0 then (g R.1, 0) else R) I O := by
  rcases h with ⟨a, b, c⟩ | ⟨a, b, c⟩
  · rw [if_pos a]; exact .inl ⟨rfl, by rw [hg]; exact b, c⟩
  · rw [if_neg (by omega)]; exact .inr ⟨a, b, c⟩

/-- Nothing but the file is there, and it is safe. -/
structure Fine (D : Dsk) (n : List UInt8) (P : List (List UInt8)) : Prop where
  kept : Kept D n P
  draft : (getF D.now (drf n)).isSome = false
  waits : D.waits = []

theorem Kept.act {D : Dsk} {n : List UInt8} {P : List (List UInt8)} (h : Kept D n P) : Kept (actD D) n P := ⟨h.once, h.sonce, h.only, h.sonly, h.pages, h.spages, h.waits⟩
theorem Kept.on {D : Dsk} {n : List UInt8} {P : List (List UInt8)} (h : Kept D n P) : Kept (onD D) n P := ⟨h.once, h.sonce, h.only, h.sonly, h.pages, h.spages, h.waits⟩
theorem Kept.arm {D : Dsk} {n : List UInt8} {P : List (List UInt8)} (h : Kept D n P) (a : Int) (k : Nat) : Kept (armD D a k) n P := ⟨h.once, h.sonce, h.only, h.sonly, h.pages, h.spages, h.waits⟩
theorem Jour.act {D : Dsk} {n : List UInt8} {R P : List (List UInt8)} {ws : Pgs} {f : Nat} (h : Jour D n R P ws f) : Jour (actD D) n R P ws f := ⟨h.once, h.sonce, h.only, h.sonly, h.jn, h.sjn, h.mix, h.smix, h.waits⟩
theorem Jour.on {D : Dsk} {n : List UInt8} {R P : List (List UInt8)} {ws : Pgs} {f : Nat} (h : Jour D n R P ws f) : Jour (onD D) n R P ws f := ⟨h.once, h.sonce, h.only, h.sonly, h.jn, h.sjn, h.mix, h.smix, h.waits⟩
theorem Jour.arm {D : Dsk} {n : List UInt8} {R P : List (List UInt8)} {ws : Pgs} {f : Nat} (h : Jour D n R P ws f) (a : Int) (k : Nat) : Jour (armD D a k) n R P ws f := ⟨h.once, h.sonce, h.only, h.sonly, h.jn, h.sjn, h.mix, h.smix, h.waits⟩
theorem Fine.arm {D : Dsk} {n : List UInt8} {P : List (List UInt8)} (h : Fine D n P) (a : Int) (k : Nat) : Fine (armD D a k) n P := ⟨h.kept.arm a k, h.draft, h.waits⟩
theorem Fine.nojournal {D : Dsk} {n : List UInt8} {P : List (List UInt8)} (h : Fine D n P) : (getF D.now (jnl n)).isSome = false := by
  cases e : (getF D.now (jnl n)).isSome
  · rfl
  · rcases h.kept.only _ e with h | h
    · exact absurd h (jnl_ne n)
    · exact absurd h (jnl_drf n)
theorem Fine.bare {D : Dsk} {n : List UInt8} {P : List (List UInt8)} (h : Fine D n P) : Bare D n := ⟨h.draft, h.nojournal⟩
theorem Kept.count {D : Dsk} {n : List UInt8} {P : List (List UInt8)} (h : Kept D n P) : count D.now = P.length + (pagesF D.now (drf n)).length := by rw [count_two h.once h.only (drf_ne n).symm, h.pages]
theorem Jour.count {D : Dsk} {n : List UInt8} {R P : List (List UInt8)} {ws : Pgs} {f : Nat} (h : Jour D n R P ws f) : count D.now = (pagesF D.now n).length + R.length := by
  rw [count_two h.once h.only (jnl_ne n).symm]
  congr 1
  unfold pagesF
  rw [h.jn]

theorem drop_waits {ws : List Wrt} {n : List UInt8} (h : ∀ w ∈ ws, w.name = n) : dropW ws n 0 = [] := by
  apply List.eq_nil_iff_forall_not_mem.2
  intro w hw
  unfold dropW at hw
  obtain ⟨h1, h2⟩ := List.mem_filter.1 hw
  simp only [decide_eq_true_eq] at h2
  rcases h2 with h2 | h2
  · exact h2 (h w h1)
  · omega

/-- The draft is thrown away, if there is one. -/
theorem Kept.discard {D : Dsk} {n : List UInt8} {P : List (List UInt8)} (h : Kept D n P) (h0 : D.off = false) (hw : D.waits = [] ∨ (getF D.now (drf n)).isSome = true) : Gets (discardD D n) (fun E => Fine E n P ∧ E.room = D.room) (fun E => Kept E n P ∧ E.room = D.room) := by
  unfold discardD
  by_cases hd : (getF D.now (drf n)).isSome = true
  · rw [if_pos hd]
    unfold removeD
    refine out_act (R := mayD D (drf n)) (g := fun E => removes E (drf n)) (out_may h0 hd ?_ fun k => ⟨h.act.lose k, ?_⟩) fun _ => rfl
    · have hs : getF (removes (actD D) (drf n)).now (drf n) = none := by
        show getF (without D.now (drf n)) (drf n) = none
        rw [getF_without, if_pos rfl]
      have hwn : (removes (actD D) (drf n)).waits = [] := drop_waits h.waits
      refine ⟨⟨⟨without_once h.once _, without_once h.sonce _, h.only.without, h.sonly.without, ?_, ?_, by rw [hwn]; simp⟩, by rw [hs]; rfl, hwn⟩, rfl⟩
      · exact (pagesF_get (by show getF (without D.now (drf n)) n = _; rw [getF_without, if_neg (drf_ne n).symm])).trans h.pages
      · exact (pagesF_get (by show getF (without D.safe (drf n)) n = _; rw [getF_without, if_neg (drf_ne n).symm])).trans h.spages
    · exact (lose_is (D := actD D) h0 k).2.2.2.1
  · rw [if_neg hd]
    have hd : (getF D.now (drf n)).isSome = false := by simpa using hd
    refine .inl ⟨rfl, h0, ⟨⟨h, hd, ?_⟩, rfl⟩⟩
    rcases hw with hw | hw
    · exact hw
    · rw [hw] at hd; cases hd

theorem write_is {D : Dsk} {n b : List UInt8} {i : Nat} (h0 : D.off = false) (hi : i ≤ (pagesF D.now n).length) (hb : b.length ≤ 512) (hr : i = (pagesF D.now n).length → count D.now < D.room) : writeD D n i b = ends D (wrote D n i b) 0 := by
  unfold writeD
  rw [if_neg (by rw [h0]; simp), if_neg (by omega), if_neg (by omega), if_neg (fun h2 => ?_), Int.toNat_natCast]
  have := hr (by omega)
  have := h2.2
  unfold freeD at this
  omega

/-- The pages of bytes, as they lie in a file. -/
def pagesB (b : List UInt8) : List (List UInt8) := (chunks b).map fun p => pad p.2

theorem chunks_at (b : List UInt8) {k : Nat} (hk : k < (chunks b).length) : (chunks b)[k].1 = (k : Int) := by simp [chunks]
/-- The record is posted: or the power goes ahead of that. -/
theorem Fine.post {D : Dsk} {n : List UInt8} {P : List (List UInt8)} {ws : Pgs} {f : Nat} (h : Fine D n P) (h0 : D.off = false) {b : List UInt8} (hb0 : 0 < b.length) (hr : P.length + pagesOf b.length ≤ D.room) :
    Gets (postD D n b) (fun E => Jour E n (pagesB b) P ws f ∧ E.waits = [] ∧ pagesF E.now n = P ∧ E.room = D.room) (fun E => Kept E n P ∧ E.room = D.room) := by
  have hd : discardD D n = (D, 0) := by unfold discardD; rw [if_neg (by rw [h.draft]; simp)]
  have hp0 : pagesF D.now (drf n) = [] := pages_of_none h.draft
  have hw := out_writes (n := drf n) (O := fun E => Kept E n P ∧ E.room = D.room) (chunks b)
    (I := fun k E => Kept E n P ∧ E.room = D.room ∧ pagesF E.now (drf n) = ((chunks b).take k).map (fun p => pad p.2) ∧ (0 < k → (getF E.now (drf n)).isSome = true)) (D := D)
    (fun k E hk h0 hE => by
      obtain ⟨e1, e2, e3, e4⟩ := hE
      have hlen : (pagesF E.now (drf n)).length = k := by rw [e3, List.length_map, List.length_take]; omega
      have hkl : k < pagesOf b.length := by rw [← chunks_len]; exact hk
      rw [chunks_at b hk, write_is h0 (by omega) (chunks_short b _ (List.getElem_mem hk)) (fun _ => by rw [e1.count, hlen, e2]; omega)]
      have hk1 : Kept (wrote E (drf n) k (chunks b)[k].2) n P := by
        refine ⟨put_once e1.once _, e1.sonce, e1.only.put (.inr rfl), e1.sonly, ?_, e1.spages, fun w hx => ?_⟩
        · show pagesF (putF E.now _) n = P
          rw [pagesF_put, if_neg (fun e => drf_ne n (by exact e.symm))]
          exact e1.pages
        · have hx : w ∈ E.waits ++ [⟨drf n, k, pad (chunks b)[k].2⟩] := hx
          rcases List.mem_append.1 hx with hx | hx
          · exact e1.waits w hx
          · rw [List.mem_singleton] at hx
            rw [hx]
      refine out_ends h0 ⟨hk1, e2, ?_, fun _ => ?_⟩ fun k' => ⟨hk1.lose k', ((lose_is (D := wrote E (drf n) k (chunks b)[k].2) h0 k').2.2.2.1).trans e2⟩
      · show pagesF (putF E.now ⟨drf n, setP (pagesF E.now (drf n)) k _⟩) (drf n) = _
        rw [pagesF_put, if_pos rfl]
        show setP (pagesF E.now (drf n)) k _ = _
        rw [List.take_succ_eq_append_getElem hk, List.map_append, ← e3]
        have e := setP_end (pagesF E.now (drf n)) (pad (chunks b)[k].2)
        rw [hlen] at e
        rw [e]
        rfl
      · show (getF (putF E.now _) (drf n)).isSome = true
        rw [getF_put, if_pos rfl]; rfl) h0 ⟨h.kept, rfl, by simpa using hp0, fun h => by omega⟩
  unfold postD
  simp only [hd, ne_eq, not_true_eq_false, if_false]
  rcases hw with ⟨a, b1, c⟩ | ⟨a, b1, c⟩
  · rw [if_neg (fun h => h a)]
    generalize (writes D (drf n) (chunks b)).1 = E at b1 c ⊢
    obtain ⟨c1, c2, c3, c4⟩ := c
    rw [List.take_length] at c3
    have his := c4 (by rw [chunks_len]; exact pagesOf_pos hb0)
    -- the draft is synced
    have hs : Gets (syncD E (drf n)) (fun E => Kept E n P ∧ E.room = D.room ∧ pagesF E.now (drf n) = pagesB b ∧ pagesF E.safe (drf n) = pagesB b ∧ (getF E.now (drf n)).isSome = true ∧ E.waits = []) (fun E => Kept E n P ∧ E.room = D.room) := by
      unfold syncD
      refine out_act (R := mayD E (drf n)) (g := fun E => syncs E (drf n)) (out_may b1 his ?_ fun k => ⟨c1.act.lose k, ((lose_is (D := actD E) b1 k).2.2.2.1).trans c2⟩) fun _ => rfl
      have hwn : (syncs (actD E) (drf n)).waits = [] := drop_waits c1.waits
      refine ⟨⟨c1.once, put_once c1.sonce _, c1.only, c1.sonly.put (.inr rfl), c1.pages, ?_, by rw [hwn]; simp⟩, c2, c3, ?_, his, hwn⟩
      · show pagesF (putF E.safe _) n = P
        rw [pagesF_put, if_neg (fun e => drf_ne n (by exact e.symm))]
        exact c1.spages
      · show pagesF (putF E.safe ⟨drf n, pagesF E.now (drf n)⟩) (drf n) = _
        rw [pagesF_put, if_pos rfl]
        exact c3
    rcases hs with ⟨a, b2, c⟩ | ⟨a, b2, c⟩
    · rw [if_neg (fun h => h a)]
      generalize (syncD E (drf n)).1 = G at b2 c ⊢
      obtain ⟨d1, d2, d3, d4, d5, d6⟩ := c
      unfold renameD
      have hne : drf n ≠ jnl n := fun e => jnl_drf n e.symm
      have hsplit : (if (mayD G (drf n)).2 = 0 ∧ drf n ≠ jnl n then (renames (mayD G (drf n)).1 (drf n) (jnl n), 0) else mayD G (drf n)) = (if (mayD G (drf n)).2 = 0 then (renames (mayD G (drf n)).1 (drf n) (jnl n), 0) else mayD G (drf n)) := by
        by_cases hm : (mayD G (drf n)).2 = 0
        · rw [if_pos ⟨hm, hne⟩, if_pos hm]
        · rw [if_neg (fun h => hm h.1), if_neg hm]
      rw [hsplit]
      refine out_act (R := mayD G (drf n)) (g := fun E => renames E (drf n) (jnl n)) (out_may b2 d5 ?_ fun k => ⟨d1.act.lose k, ((lose_is (D := actD G) b2 k).2.2.2.1).trans d2⟩) fun _ => rfl
      have hwn : (renames (actD G) (drf n) (jnl n)).waits = [] := by
        show (dropW G.waits (jnl n) 0).map _ = []
        rw [d6]
        rfl
      have p1 : ∀ l : List Fil, pagesF (putF (without l (drf n)) ⟨jnl n, pagesF l (drf n)⟩) n = pagesF l n := fun l => by
        rw [pagesF_put, if_neg (fun e => jnl_ne n (by exact e.symm))]
        exact pagesF_get (by rw [getF_without, if_neg (drf_ne n).symm])
      have p2 : ∀ l : List Fil, getF (putF (without l (drf n)) ⟨jnl n, pagesF l (drf n)⟩) (jnl n) = some ⟨jnl n, pagesF l (drf n)⟩ := fun l => by rw [getF_put, if_pos rfl]
      have hP : pagesF (renames (actD G) (drf n) (jnl n)).now n = P := (p1 G.now).trans d1.pages
      refine ⟨⟨put_once (without_once d1.once _) _, put_once (without_once d1.sonce _) _, ?_, ?_, ?_, ?_, by rw [hP]; exact Mix.start, ?_, by rw [hwn]; simp⟩, hwn, hP, d2⟩
      · exact (d1.only.gone (c := jnl n)).put (.inr rfl)
      · exact (d1.sonly.gone (c := jnl n)).put (.inr rfl)
      · show getF (putF (without G.now (drf n)) ⟨jnl n, pagesF G.now (drf n)⟩) (jnl n) = _
        rw [p2, d3]
      · show getF (putF (without G.safe (drf n)) ⟨jnl n, pagesF G.safe (drf n)⟩) (jnl n) = _
        rw [p2, d4]
      · rw [show pagesF (renames (actD G) (drf n) (jnl n)).safe n = P from (p1 G.safe).trans d1.spages]
        exact Mix.start
    · rw [if_pos (by rw [a]; omega)]
      exact .inr ⟨a, b2, c⟩
  · rw [if_pos (by rw [a]; omega)]
    exact .inr ⟨a, b1, c⟩

theorem writes_fresh_take (ws : Pgs) (k : Nat) (hk : k < ws.length) : ws.drop k = ws[k] :: ws.drop (k + 1) := List.drop_eq_getElem_cons hk

/-- The journal's pages are written: all of them, or the power goes. -/
theorem Jour.settle {D : Dsk} {n : List UInt8} {R P : List (List UInt8)} {ws : Pgs} {f : Nat} (h : Jour D n R P ws f) (h0 : D.off = false) (hf : freshN P.length ws = some f) (hws : ws ≠ []) (hl : ∀ p ∈ ws, p.2.length ≤ 512) (hr : P.length + f + R.length ≤ D.room) :
    Gets (settleD D n ws) (fun E => Fine E n (laidP P ws) ∧ E.room = D.room) (fun E => Jour E n R P ws f ∧ E.room = D.room) := by
  have hw := out_writes (n := n) (O := fun E => Jour E n R P ws f ∧ E.room = D.room) ws
    (I := fun k E => Jour E n R P ws f ∧ E.room = D.room ∧ (∃ g, freshN (pagesF E.now n).length (ws.drop k) = some g ∧ (pagesF E.now n).length + g = P.length + f) ∧ laidP (pagesF E.now n) (ws.drop k) = laidP P ws ∧ (0 < k → (getF E.now n).isSome = true)) (D := D)
    (fun k E hk h0 hE => by
      obtain ⟨e1, e2, ⟨g, e3, e3'⟩, e4, _⟩ := hE
      rw [writes_fresh_take ws k hk] at e3 e4
      have hin : InW ws ws[k].1.toNat := by
        have := (fresh_lt ws hf _ (List.getElem_mem hk)).1
        exact ⟨ws[k], List.getElem_mem hk, by omega⟩
      obtain ⟨i, hi⟩ : ∃ i : Nat, ws[k].1 = (i : Int) := ⟨ws[k].1.toNat, by have := (fresh_lt ws hf _ (List.getElem_mem hk)).1; omega⟩
      rw [hi] at hin ⊢
      rw [Int.toNat_natCast] at hin
      have hbl := hl _ (List.getElem_mem hk)
      rw [freshN, hi] at e3
      have hle : i ≤ (pagesF E.now n).length := by
        by_cases hb : (i : Int) < 0 ∨ ((pagesF E.now n).length : Int) < i
        · rw [if_pos hb] at e3; cases e3
        · omega
      rw [if_neg (by omega)] at e3
      have hg : (i = (pagesF E.now n).length → ∃ g', freshN ((pagesF E.now n).length + 1) (ws.drop (k + 1)) = some g' ∧ g' + 1 = g) ∧ (i ≠ (pagesF E.now n).length → freshN (pagesF E.now n).length (ws.drop (k + 1)) = some g) := by
        refine ⟨fun e => ?_, fun e => ?_⟩
        · rw [if_pos (by omega)] at e3
          cases hr2 : freshN ((pagesF E.now n).length + 1) (ws.drop (k + 1)) with
          | none => rw [hr2] at e3; cases e3
          | some g' => rw [hr2] at e3; injection e3 with e3; exact ⟨g', rfl, e3⟩
        · rwa [if_neg (by omega)] at e3
      rw [write_is h0 hle hbl (fun e => by
        obtain ⟨g', _, hg'⟩ := hg.1 e
        rw [e1.count, e2]; omega)]
      have hpw : pagesF (wrote E n i ws[k].2).now n = setP (pagesF E.now n) i (pad ws[k].2) := by
        show pagesF (putF E.now ⟨n, _⟩) n = _
        rw [pagesF_put, if_pos rfl]
      have hk1 : Jour (wrote E n i ws[k].2) n R P ws f := by
        refine ⟨put_once e1.once _, e1.sonce, e1.only.put (.inl rfl), e1.sonly, ?_, e1.sjn, ?_, e1.smix, fun w hx => ?_⟩
        · show getF (putF E.now _) (jnl n) = _
          rw [getF_put, if_neg (by exact jnl_ne n)]
          exact e1.jn
        · rw [hpw]
          exact e1.mix.put hf hin _
        · have hx : w ∈ E.waits ++ [⟨n, i, pad ws[k].2⟩] := hx
          rcases List.mem_append.1 hx with hx | hx
          · exact e1.waits w hx
          · rw [List.mem_singleton] at hx
            rw [hx]
            exact ⟨rfl, hin⟩
      refine out_ends h0 ⟨hk1, e2, ?_, ?_, fun _ => ?_⟩ fun k' => ⟨hk1.lose hf k', ((lose_is (D := wrote E n i ws[k].2) h0 k').2.2.2.1).trans e2⟩
      · rw [hpw, setP_len]
        by_cases e : i = (pagesF E.now n).length
        · obtain ⟨g', q1, q2⟩ := hg.1 e
          exact ⟨g', by rw [show max (pagesF E.now n).length (i + 1) = (pagesF E.now n).length + 1 by omega]; exact q1, by omega⟩
        · exact ⟨g, by rw [show max (pagesF E.now n).length (i + 1) = (pagesF E.now n).length by omega]; exact hg.2 e, by omega⟩
      · rw [hpw, ← e4]
        show _ = laidP (setP (pagesF E.now n) ws[k].1.toNat (pad ws[k].2)) _
        rw [hi, Int.toNat_natCast]
      · show (getF (putF E.now _) n).isSome = true
        rw [getF_put, if_pos rfl]; rfl) h0 ⟨h, rfl, ⟨_, h.mix.fresh hf, by have := h.mix.hi; omega⟩, h.mix.laidP, fun h => by omega⟩
  unfold settleD
  rcases hw with ⟨a, b1, c⟩ | ⟨a, b1, c⟩
  · rw [if_neg (fun h => h a)]
    generalize (writes D n ws).1 = E at b1 c ⊢
    obtain ⟨c1, c2, _, c4, c5⟩ := c
    rw [List.drop_length] at c4
    have c4 : pagesF E.now n = laidP P ws := c4
    have his := c5 (by cases ws with | nil => exact absurd rfl hws | cons _ _ => simp)
    have hs : Gets (syncIf E n) (fun E => Jour E n R P ws f ∧ E.room = D.room ∧ pagesF E.now n = laidP P ws ∧ pagesF E.safe n = laidP P ws ∧ E.waits = []) (fun E => Jour E n R P ws f ∧ E.room = D.room) := by
      unfold syncIf
      rw [if_pos his]
      unfold syncD
      refine out_act (R := mayD E n) (g := fun E => syncs E n) (out_may b1 his ?_ fun k => ⟨c1.act.lose hf k, ((lose_is (D := actD E) b1 k).2.2.2.1).trans c2⟩) fun _ => rfl
      have hwn : (syncs (actD E) n).waits = [] := drop_waits fun w hw => (c1.waits w hw).1
      have hsp : pagesF (syncs (actD E) n).safe n = laidP P ws := by
        show pagesF (putF E.safe ⟨n, pagesF E.now n⟩) n = _
        rw [pagesF_put, if_pos rfl]
        exact c4
      refine ⟨⟨c1.once, put_once c1.sonce _, c1.only, c1.sonly.put (.inl rfl), c1.jn, ?_, c1.mix, ?_, by rw [hwn]; simp⟩, c2, c4, hsp, hwn⟩
      · show getF (putF E.safe _) (jnl n) = _
        rw [getF_put, if_neg (by exact jnl_ne n)]
        exact c1.sjn
      · rw [hsp, ← c4]
        exact c1.mix
    rcases hs with ⟨a, b2, c⟩ | ⟨a, b2, c⟩
    · rw [if_neg (fun h => h a)]
      generalize (syncIf E n).1 = G at b2 c ⊢
      obtain ⟨d1, d2, d3, d4, d5⟩ := c
      unfold removeD
      refine out_act (R := mayD G (jnl n)) (g := fun E => removes E (jnl n)) (out_may b2 (by rw [d1.jn]; rfl) ?_ fun k => ⟨d1.act.lose hf k, ((lose_is (D := actD G) b2 k).2.2.2.1).trans d2⟩) fun _ => rfl
      have hwn : (removes (actD G) (jnl n)).waits = [] := by
        show dropW G.waits (jnl n) 0 = []
        rw [d5]
        rfl
      have p1 : ∀ l : List Fil, pagesF (without l (jnl n)) n = pagesF l n := fun l => pagesF_get (by rw [getF_without, if_neg (jnl_ne n).symm])
      have hdn : (getF (removes (actD G) (jnl n)).now (drf n)).isSome = false := by
        cases e : (getF (removes (actD G) (jnl n)).now (drf n)).isSome
        · rfl
        · have e : (getF (without G.now (jnl n)) (drf n)).isSome = true := e
          rcases d1.only.without (c := jnl n) _ e with h | h
          · exact absurd h (drf_ne n)
          · exact absurd h.symm (jnl_drf n)
      exact ⟨⟨⟨without_once d1.once _, without_once d1.sonce _, d1.only.gone, d1.sonly.gone, (p1 G.now).trans d3, (p1 G.safe).trans d4, by rw [hwn]; simp⟩, hdn, hwn⟩, d2⟩
    · rw [if_pos (by rw [a]; omega)]
      exact .inr ⟨a, b2, c⟩
  · rw [if_pos (by rw [a]; omega)]
    exact .inr ⟨a, b1, c⟩

/-- A commit that can be: done, or the power goes in it: with the pages as they were, or with the journal. -/
theorem Fine.commit {D : Dsk} {n : List UInt8} {P : List (List UInt8)} {ws : Pgs} {f : Nat} (h : Fine D n P) (h0 : D.off = false) (hl : hasLong ws = false) (hf : freshN P.length ws = some f) (hr : ws ≠ [] → ¬ freeD D < (pagesOf (recF ws).length + f : Nat)) :
    Gets (commitD D n ws) (fun E => Fine E n (laidP P ws) ∧ E.room = D.room) (fun E => (Kept E n P ∨ ws ≠ [] ∧ Jour E n (pagesB (recF ws)) P ws f) ∧ E.room = D.room) := by
  unfold commitD
  rw [if_neg (by rw [h0]; simp), if_neg (by rw [hl]; simp), h.kept.pages, hf]
  simp only
  by_cases hws : ws = []
  · subst hws
    rw [if_pos rfl]
    exact .inl ⟨rfl, h0, h, rfl⟩
  · have hr := hr hws
    rw [if_neg hws, if_neg hr]
    have hc := h.kept.count
    rw [pages_of_none h.draft] at hc
    simp only [List.length_nil] at hc
    have hroom : P.length + pagesOf (recF ws).length + f ≤ D.room := by unfold freeD at hr; omega
    rcases h.post (ws := ws) (f := f) h0 (b := recF ws) (frm_pos _) (by omega) with ⟨a, b1, c⟩ | ⟨a, b1, c⟩
    · rw [if_neg (fun h => h a)]
      obtain ⟨c1, c2, c3, c4⟩ := c
      have hR : (pagesB (recF ws)).length = pagesOf (recF ws).length := by simp [pagesB, chunks_len]
      refine (c1.settle b1 hf hws (hasLong_none hl) (by rw [hR, c4]; omega)).imp (fun E _ hE => ⟨hE.1, hE.2.trans c4⟩) fun E _ hE => ⟨.inr ⟨hws, hE.1⟩, hE.2.trans c4⟩
    · rw [if_pos (by rw [a]; omega)]
      exact .inr ⟨a, b1, .inl c.1, c.2⟩

end Go.Proofs.Ytoajfnkhonegnaa.Cd

/-
  A log, wherever the power goes: what the pages tell is a beginning of what was appended, with all that was synced. No Go in sight. Conditions: none.
-/
namespace Go.Proofs.Ytoajfnkhonegnaa.Cd

/-- A page as some Append from the b-th byte on made it, or none. -/
def VerP (t : List UInt8) (b j : Nat) (p : List UInt8) : Prop := 510 * j < t.length ∧ ∃ k, b ≤ k ∧ k ≤ t.length ∧ partP p = part (t.take k) j

theorem VerP.more {t : List UInt8} {b j : Nat} {p : List UInt8} (h : VerP t b j p) (x : List UInt8) : VerP (t ++ x) b j p := by
  obtain ⟨h0, k, h1, h2, h3⟩ := h
  exact ⟨by rw [List.length_append]; omega, k, h1, by rw [List.length_append]; omega, by rw [h3, List.take_append_of_le_length h2]⟩
theorem ver_nought {t : List UInt8} {b j : Nat} (hb : b ≤ t.length) (h : b ≤ 510 * j) (hj : 510 * j < t.length) : VerP t b j nought := by
  refine ⟨hj, b, Nat.le_refl _, hb, ?_⟩
  rw [part_nought]
  unfold part
  rw [List.drop_of_length_le (by rw [List.length_take]; omega)]
  rfl
theorem ver_whole {t : List UInt8} {b : Nat} (hb : b ≤ t.length) (j : Nat) (hj : 510 * j < t.length) : VerP t b j (pad (pageB (part t j))) :=
  ⟨hj, t.length, hb, Nat.le_refl _, by rw [part_pad (part_le _ _), List.take_length]⟩

theorem ver_log {t : List UInt8} {b : Nat} : ∀ (Q : List (List UInt8)) (j : Nat), (∀ i p, Q[i]? = some p → VerP t b (j + i) p) → b ≤ 510 * (j + Q.length) → 510 * j ≤ t.length →
    ∃ m, logB Q = (t.take m).drop (510 * j) ∧ b ≤ m ∧ 510 * j ≤ m ∧ m ≤ t.length := by
  intro Q
  induction Q with
  | nil =>
    intro j _ h2 h3
    refine ⟨510 * j, ?_, by simpa using h2, Nat.le_refl _, h3⟩
    rw [logB, List.drop_of_length_le (by rw [List.length_take]; omega)]
  | cons p r ih =>
    intro j h h2 h3
    obtain ⟨_, k, k1, k2, k3⟩ := h 0 p rfl
    rw [Nat.add_zero] at k3
    have hl : (partP p).length = min 510 (k - 510 * j) := by rw [k3, part_len, List.length_take]; omega
    rw [logB]
    by_cases hs : (partP p).length < 510
    · rw [if_pos hs]
      by_cases hkj : 510 * j ≤ k
      · refine ⟨k, ?_, k1, hkj, k2⟩
        rw [k3]
        unfold part
        rw [List.take_of_length_le (by rw [List.length_drop, List.length_take]; omega)]
      · refine ⟨510 * j, ?_, by omega, Nat.le_refl _, h3⟩
        rw [List.drop_of_length_le (by rw [List.length_take]; omega)]
        exact List.length_eq_zero_iff.1 (by omega)
    · rw [if_neg hs]
      simp only [List.length_cons] at h2
      obtain ⟨m, m1, m2, m3, m4⟩ := ih (j + 1) (fun i q hq => by have := h (i + 1) q (by simpa using hq); rwa [show j + (i + 1) = j + 1 + i by omega] at this) (by omega) (by omega)
      refine ⟨m, ?_, m2, by omega, m4⟩
      rw [m1, k3, show 510 * (j + 1) = 510 * j + 510 by omega, ← List.drop_drop]
      have e : part (t.take k) j = ((t.take m).drop (510 * j)).take 510 := by
        unfold part
        rw [List.drop_take, List.drop_take, List.take_take, List.take_take, Nat.min_eq_left (by omega), Nat.min_eq_left (by omega)]
      rw [e, List.take_append_drop]

/-- Nothing but the file is there. -/
def Sole (l : List Fil) (n : List UInt8) : Prop := ∀ m, (getF l m).isSome = true → m = n
theorem sole_count {l : List Fil} {n : List UInt8} (h : Once l) (hs : Sole l n) : count l = (pagesF l n).length := by
  have h1 := count_two h (a := n) (b := drf n) (fun m hm => .inl (hs m hm)) (fun e => drf_ne n e.symm)
  have h2 : pagesF l (drf n) = [] := pages_of_none (by
    cases e : (getF l (drf n)).isSome
    · rfl
    · exact absurd (hs _ e) (drf_ne n))
  rw [h1, h2]
  rfl
theorem Sole.put {l : List Fil} {n : List UInt8} (h : Sole l n) {x : Fil} (hx : x.name = n) : Sole (putF l x) n := by
  intro m hm
  rw [getF_put] at hm
  by_cases e : m = x.name
  · rw [e, hx]
  · rw [if_neg e] at hm; exact h m hm

/-- A log's file: what is safe, and what waits, are pages as Appends made them from the b-th byte on. -/
structure Vers (D : Dsk) (n t : List UInt8) (b : Nat) : Prop where
  once : Once D.now
  sonce : Once D.safe
  sole : Sole D.now n
  ssole : Sole D.safe n
  len : b ≤ t.length
  need : needP b ≤ (pagesF D.safe n).length
  safe : ∀ j p, (pagesF D.safe n)[j]? = some p → VerP t b j p
  waits : ∀ w ∈ D.waits, w.name = n ∧ VerP t b w.page w.data
/-- The power is off; what is there is safe. -/
structure Gone9 (D : Dsk) (n t : List UInt8) (b : Nat) : Prop where
  vers : Vers D n t b
  off : D.off = true
  fuse : D.fuse = 0
  same : D.safe = D.now
  none : D.waits = []

theorem need_le {b j : Nat} (h : needP b ≤ j) : b ≤ 510 * j := by unfold needP at h; omega
theorem keeps_ver {keep : Nat} {n t : List UInt8} {b : Nat} (hb : b ≤ t.length) (l : List Wrt) : ∀ (i : Nat) (s : List Fil), (∀ w ∈ l, w.name = n ∧ VerP t b w.page w.data) → Sole s n → needP b ≤ (pagesF s n).length → (∀ j p, (pagesF s n)[j]? = some p → VerP t b j p) →
    Sole (keeps keep i l s) n ∧ needP b ≤ (pagesF (keeps keep i l s) n).length ∧ ∀ j p, (pagesF (keeps keep i l s) n)[j]? = some p → VerP t b j p := by
  induction l with
  | nil => intro i s _ h1 h2 h3; exact ⟨h1, h2, h3⟩
  | cons w r ih =>
    intro i s hw h1 h2 h3
    obtain ⟨e, hv⟩ := hw w (by simp)
    rw [keeps]
    refine ih _ _ (fun x hx => hw x (List.mem_cons_of_mem _ hx)) ?_ ?_ ?_
    · split
      · exact h1.put e
      · exact h1
    · split
      · rw [pagesF_put, if_pos (by exact e.symm)]
        show _ ≤ (setP (pagesF s w.name) w.page w.data).length
        rw [setP_len, e]; omega
      · exact h2
    · split
      · rw [pagesF_put, if_pos (by exact e.symm)]
        intro j p hp
        have hp : (setP (pagesF s w.name) w.page w.data)[j]? = some p := hp
        rw [setP_at, e] at hp
        by_cases e1 : j = w.page
        · rw [if_pos e1] at hp
          injection hp with hp
          rw [e1, ← hp]
          exact hv
        · rw [if_neg e1] at hp
          split at hp
          · exact h3 j p hp
          · split at hp
            · injection hp with hp
              rw [← hp]
              exact ver_nought hb (need_le (by omega)) (by have := hv.1; omega)
            · cases hp
      · exact h3

theorem Vers.lose {D : Dsk} {n t : List UInt8} {b : Nat} (h : Vers D n t b) (ho : D.off = false) (k : Nat) : Gone9 (lose D k) n t b := by
  obtain ⟨e1, e2, e3, e4, e5⟩ := lose_is ho k
  obtain ⟨q1, q2, q3⟩ := keeps_ver (keep := k) h.len D.waits 0 D.safe h.waits h.ssole h.need h.safe
  have hso : Sole (there D.now (keeps k 0 D.waits D.safe)) n := fun m hm => by
    rcases there_names _ _ _ hm with hm | hm
    · exact q1 m hm
    · exact h.sole m hm
  have hc := there_once D.now _ (keeps_once (keep := k) D.waits 0 D.safe h.sonce)
  refine ⟨⟨by rw [e1]; exact hc, by rw [e2]; exact hc, by rw [e1]; exact hso, by rw [e2]; exact hso, h.len, ?_, ?_, by rw [e3]; simp⟩, lose_off _ _, e5, by rw [e1, e2], e3⟩
  · rw [e2, there_pages]; exact q2
  · rw [e2, there_pages]; exact q3

/-- What the pages tell. -/
theorem Gone9.log {D : Dsk} {n t : List UInt8} {b : Nat} (h : Gone9 D n t b) : ∃ m, logB (pagesF D.now n) = t.take m ∧ b ≤ m ∧ m ≤ t.length := by
  obtain ⟨m, m1, m2, _, m4⟩ := ver_log (t := t) (b := b) (pagesF D.now n) 0 (fun i p hp => by rw [Nat.zero_add]; exact h.vers.safe i p (by rw [h.same]; exact hp)) (by
    have := need_le h.vers.need
    rw [h.same] at this
    simpa using this) (by omega)
  exact ⟨m, by simpa using m1, m2, m4⟩

/-- With the power on: the pages tell all that was appended. -/
structure Going (D : Dsk) (n t : List UInt8) (b : Nat) : Prop where
  vers : Vers D n t b
  off : D.off = false
  lay : Lay (pagesF D.now n) t

theorem Vers.act {D : Dsk} {n t : List UInt8} {b : Nat} (h : Vers D n t b) : Vers (actD D) n t b := ⟨h.once, h.sonce, h.sole, h.ssole, h.len, h.need, h.safe, h.waits⟩
theorem Vers.more {D : Dsk} {n t : List UInt8} {b : Nat} (h : Vers D n t b) (x : List UInt8) : Vers D n (t ++ x) b :=
  ⟨h.once, h.sonce, h.sole, h.ssole, by have := h.len; rw [List.length_append]; omega, h.need, fun j p hp => (h.safe j p hp).more x, fun w hw => ⟨(h.waits w hw).1, (h.waits w hw).2.more x⟩⟩

/-- Bytes are appended: or the power goes. -/
theorem Going.put {D : Dsk} {n s : List UInt8} {b : Nat} (h : Going D n s b) (x : List UInt8) (hr : needP (s.length + x.length) ≤ D.room) :
    Gets (putD D n s x) (fun E => Going E n (s ++ x) b ∧ E.room = D.room) (fun E => Gone9 E n (s ++ x) b ∧ E.room = D.room) := by
  have h3 := need_lo s.length
  have h4 := need_last s x
  have h5 := needP_mono (Nat.le_add_right s.length x.length)
  obtain ⟨P, hP⟩ : ∃ y, pagesF D.now n = y := ⟨_, rfl⟩
  have hlay := h.lay
  rw [hP] at hlay
  have hPl := hlay.2
  have hlaid := laid_range (fun k => pageB (part (s ++ x) k)) (needP (lastP s ++ x).length) (s.length / 510) P (by omega) (by omega)
  rw [← chunks_range] at hlaid
  have hsub : ∀ k, k ≤ (chunksL s x).length → (laidP P ((chunksL s x).take k)).length = max P.length (s.length / 510 + k) := by
    intro k
    induction k with
    | zero => intro _; show P.length = _; omega
    | succ k ih =>
      intro hk
      have := ih (by omega)
      rw [List.take_succ_eq_append_getElem (by omega)]
      unfold laidP at this ⊢
      rw [List.foldl_append]
      show (setP _ _ _).length = _
      rw [setP_len, this, chunksL_at _ _ (by omega)]
      simp only [Int.toNat_natCast]
      omega
  have hw := out_writes (n := n) (O := fun E => Gone9 E n (s ++ x) b ∧ E.room = D.room) (chunksL s x)
    (I := fun k E => Vers E n (s ++ x) b ∧ E.room = D.room ∧ pagesF E.now n = laidP P ((chunksL s x).take k)) (D := D)
    (fun k E hk h0 hE => by
      obtain ⟨e1, e2, e3⟩ := hE
      have hlen : (pagesF E.now n).length = max P.length (s.length / 510 + k) := by rw [e3]; exact hsub k (by omega)
      have hkl : k < needP (lastP s ++ x).length := by rw [← chunksL_len]; exact hk
      rw [chunksL_at s x hk]
      have hcnt := sole_count e1.once e1.sole
      have hpl : (pageB (part (lastP s ++ x) k)).length ≤ 512 := by rw [pageB_len]; have := part_le (lastP s ++ x) k; omega
      simp only
      rw [write_is h0 (by omega) hpl (fun _ => by rw [hcnt, hlen, e2]; omega)]
      have hv1 : Vers (wrote E n (s.length / 510 + k) (pageB (part (lastP s ++ x) k))) n (s ++ x) b := by
        refine ⟨put_once e1.once _, e1.sonce, e1.sole.put rfl, e1.ssole, e1.len, e1.need, e1.safe, fun w hx => ?_⟩
        have hx : w ∈ E.waits ++ [⟨n, s.length / 510 + k, pad (pageB (part (lastP s ++ x) k))⟩] := hx
        rcases List.mem_append.1 hx with hx | hx
        · exact e1.waits w hx
        · rw [List.mem_singleton] at hx
          rw [hx]
          refine ⟨rfl, ?_⟩
          show VerP _ _ (s.length / 510 + k) (pad (pageB (part (lastP s ++ x) k)))
          rw [last_append]
          exact ver_whole e1.len _ (by rw [List.length_append]; unfold needP at h4 hkl; omega)
      refine out_ends h0 ⟨hv1, e2, ?_⟩ fun k' => ⟨hv1.lose h0 k', ((lose_is (D := wrote E n (s.length / 510 + k) (pageB (part (lastP s ++ x) k))) h0 k').2.2.2.1).trans e2⟩
      show pagesF (putF E.now ⟨n, setP (pagesF E.now n) (s.length / 510 + k) _⟩) n = _
      rw [pagesF_put, if_pos rfl]
      show setP (pagesF E.now n) (s.length / 510 + k) _ = _
      rw [e3, List.take_succ_eq_append_getElem hk]
      unfold laidP
      rw [List.foldl_append]
      show _ = setP _ _ _
      rw [chunksL_at _ _ hk]
      rfl) h.off ⟨h.vers.more x, rfl, hP⟩
  refine Gets.imp hw (fun E h0 hE => ?_) fun E _ hE => hE
  obtain ⟨e1, e2, e3⟩ := hE
  rw [List.take_length, hlaid] at e3
  exact ⟨⟨e1, h0, by rw [e3]; exact lay_grown hlay x⟩, e2⟩

/-- The file is synced: or the power goes. -/
theorem Going.sync {D : Dsk} {n s : List UInt8} {b : Nat} (h : Going D n s b) (hs : 0 < s.length) : Gets (syncD D n) (fun E => Going E n s s.length ∧ E.room = D.room) (fun E => Gone9 E n s b ∧ E.room = D.room) := by
  have hl := h.lay.2
  have his : (getF D.now n).isSome = true := by
    cases hg : (getF D.now n).isSome
    · rw [pages_of_none hg] at hl
      have := needP_pos hs
      simp only [List.length_nil] at hl
      omega
    · rfl
  unfold syncD
  refine out_act (R := mayD D n) (g := fun E => syncs E n) (out_may h.off his ?_ fun k => ⟨h.vers.act.lose h.off k, (lose_is (D := actD D) h.off k).2.2.2.1⟩) fun _ => rfl
  have hwn : (syncs (actD D) n).waits = [] := drop_waits fun w hw => (h.vers.waits w hw).1
  have hsp : pagesF (syncs (actD D) n).safe n = pagesF D.now n := by
    show pagesF (putF D.safe ⟨n, pagesF D.now n⟩) n = _
    rw [pagesF_put, if_pos rfl]
  refine ⟨⟨⟨h.vers.once, put_once h.vers.sonce _, h.vers.sole, h.vers.ssole.put rfl, Nat.le_refl _, by rw [hsp, hl]; exact Nat.le_refl _, fun j p hp => ?_, by rw [hwn]; simp⟩, h.off, h.lay⟩, rfl⟩
  rw [hsp] at hp
  refine ⟨by have := (List.getElem?_eq_some_iff.1 hp).1; unfold needP at hl; omega, s.length, Nat.le_refl _, Nat.le_refl _, ?_⟩
  rw [List.take_length]
  have hj := (List.getElem?_eq_some_iff.1 hp).1
  have hlay := h.lay.1
  have := logB_at (pagesF D.now n) j p hp (by rw [hlay]; unfold needP at hl; omega)
  rw [this, hlay]

theorem going_new (room : Int) (n : List UInt8) : Going (newD room) n [] 0 :=
  ⟨⟨once_nil, once_nil, fun m hm => (by cases hm), fun m hm => (by cases hm), Nat.le_refl _, Nat.zero_le _, fun j p hp => (by cases hp), fun w hw => (by cases hw)⟩, rfl, lay_nil⟩
theorem Going.arm {D : Dsk} {n t : List UInt8} {b : Nat} (h : Going D n t b) (a : Int) (k : Nat) : Going (armD D a k) n t b := ⟨⟨h.vers.once, h.vers.sonce, h.vers.sole, h.vers.ssole, h.vers.len, h.vers.need, h.vers.safe, h.vers.waits⟩, h.off, h.lay⟩

/-- Behind it, the power is on again, and no end of it in sight. -/
theorem Gone9.roomy {D : Dsk} {n t : List UInt8} {b : Nat} (h : Gone9 D n t b) : Roomy (armD (onD D) 0 0) D.room (pagesF D.now n).length :=
  ⟨rfl, rfl, h.vers.once, rfl, sole_count h.vers.once h.vers.sole⟩

/-- There are no more pages than the bytes take. -/
theorem Gone9.count {D : Dsk} {n t : List UInt8} {b : Nat} (h : Gone9 D n t b) : (pagesF D.now n).length ≤ needP t.length := by
  rcases Nat.eq_zero_or_pos (pagesF D.now n).length with h0 | h0
  · omega
  · have hp : (pagesF D.now n)[(pagesF D.now n).length - 1]? = some ((pagesF D.now n)[(pagesF D.now n).length - 1]'(by omega)) := List.getElem?_eq_getElem _
    have := (h.vers.safe _ _ (by rw [h.same]; exact hp)).1
    unfold needP
    omega

/-- The first records of the log's first bytes. -/
theorem cut_at (l : List (List UInt8)) (m : Nat) (hm : m ≤ (flat l).length) : ∃ k, k ≤ l.length ∧ (flat (l.take k)).length ≤ m ∧ (k < l.length → m < (flat (l.take (k + 1))).length) := by
  induction l generalizing m with
  | nil => exact ⟨0, Nat.le_refl _, by simp [flat], fun h => by simp at h⟩
  | cons x r ih =>
    rw [flat_cons, List.length_append] at hm
    by_cases hx : (frm x).length ≤ m
    · obtain ⟨k, k1, k2, k3⟩ := ih (m - (frm x).length) (by omega)
      refine ⟨k + 1, by simp; omega, ?_, fun h => ?_⟩
      · rw [List.take_succ_cons, flat_cons, List.length_append]; omega
      · have := k3 (by simpa using h)
        rw [List.take_succ_cons, flat_cons, List.length_append]; omega
    · exact ⟨0, Nat.zero_le _, by simp [flat], fun _ => by rw [List.take_succ_cons, flat_cons]; simp [flat]; omega⟩
theorem splits_at (l : List (List UInt8)) (sf m : Nat) (hb : (flat l).length < 18446744073709551616) (hm : m ≤ (flat l).length) (hsf : (flat (l.take sf)).length ≤ m) (hsl : sf ≤ l.length) :
    ∃ k cur, sf ≤ k ∧ k ≤ l.length ∧ Splits ((flat l).take m) (l.take k) cur := by
  obtain ⟨k, k1, k2, k3⟩ := cut_at l m hm
  obtain ⟨cur, hc⟩ := splits_cut l k m k1 k2 k3 hb
  refine ⟨k, cur, ?_, k1, hc⟩
  by_cases h : sf ≤ k
  · exact h
  · exfalso
    have h1 := k3 (by omega)
    have h2 := flat_mono l (k + 1) sf (by omega)
    omega

end Go.Proofs.Ytoajfnkhonegnaa.Cd

/-
  What is safe of a log, with the power on and no end of it in sight; what Open finds of pages as they were laid. No Go in sight. Conditions: none.
-/
namespace Go.Proofs.Ytoajfnkhonegnaa.Cd

theorem keeps_zero (ws : List Wrt) : ∀ (i : Nat) (s : List Fil), keeps 0 i ws s = s := by
  induction ws with
  | nil => intro i s; rfl
  | cons w r ih =>
    intro i s
    rw [keeps, if_neg (by simp [keepBit]), ih]
/-- With nothing kept, what is safe is there. -/
theorem lose_zero {D : Dsk} (h : D.off = false) (n : List UInt8) : pagesF (lose D 0).now n = pagesF D.safe n := by
  rw [lose_now h, keeps_zero, there_pages]

theorem writeD_safe {D : Dsk} {n b : List UInt8} {i : Int} (h : (writeD D n i b).2 = 0) : (writeD D n i b).1.safe = D.safe := by
  unfold writeD at h ⊢
  split at h
  · cases h
  · rename_i h1
    rw [if_neg h1]
    split at h
    · cases h
    · rename_i h2
      rw [if_neg h2]
      split at h
      · cases h
      · rename_i h3
        rw [if_neg h3]
        split at h
        · cases h
        · rename_i h4
          rw [if_neg h4]
          unfold ends at h ⊢
          split at h
          · cases h
          · rename_i h5
            rw [if_neg h5]
            rfl
theorem writes_safe (n : List UInt8) (l : Pgs) : ∀ {D : Dsk}, (writes D n l).2 = 0 → (writes D n l).1.safe = D.safe := by
  induction l with
  | nil => intro D _; rfl
  | cons p r ih =>
    intro D h
    by_cases hz : (writeD D n p.1 p.2).2 = 0
    · rw [writes_cons hz] at h ⊢
      rw [ih h, writeD_safe hz]
    · rw [writes_bad hz] at h
      exact absurd h hz
theorem appendD_safe {D : Dsk} {n s b : List UInt8} (h : (appendD D n s b).2 = 0) : (appendD D n s b).1.safe = D.safe := by
  unfold appendD at h ⊢
  split at h
  · rename_i h1; rw [if_pos h1]
  · rename_i h1
    rw [if_neg h1]
    split at h
    · cases h
    · rename_i h2
      rw [if_neg h2]
      exact writes_safe n _ h

/-- Pages as they were laid are left alone. -/
theorem trim_lay {D : Dsk} {n s : List UInt8} (h : Lay (pagesF D.now n) s) : trimD D n s s.length = (D, 0) := by
  have h2 := h.2
  unfold trimD
  rw [if_neg (show ¬ needP s.length < (pagesF D.now n).length by omega)]
  rw [if_neg (fun e => e rfl), if_pos (show min s.length (needP s.length * 510) = s.length by unfold needP; omega)]

/-- The file is synced, with the power on and no end of it in sight. -/
theorem Roomy.syncL {D : Dsk} {room k : Nat} (h : Roomy D room k) {n s : List UInt8} (hl : Lay (pagesF D.now n) s) :
    unless5 (syncD D n).2 = 0 ∧ Roomy (syncD D n).1 room k ∧ (syncD D n).1.now = D.now ∧ (0 < s.length → pagesF (syncD D n).1.safe n = pagesF D.now n ∧ ∀ w ∈ (syncD D n).1.waits, w.name ≠ n) := by
  cases hg : (getF D.now n).isSome
  · have he : syncD D n = (D, 5) := by
      have hm : mayD D n = (D, 5) := by unfold mayD; rw [if_neg (by rw [h.off]; simp), if_pos hg]
      unfold syncD
      rw [hm, if_neg (by simp)]
    rw [he]
    refine ⟨rfl, h, rfl, fun h0 => ?_⟩
    have h2 := hl.2
    rw [pages_of_none hg] at h2
    have := needP_pos h0
    simp only [List.length_nil] at h2
    omega
  · obtain ⟨a1, a2, a3⟩ := h.sync hg
    refine ⟨by rw [a1]; rfl, a2, a3, fun _ => ?_⟩
    rw [sync_calm h.off hg (by rw [h.fuse]; omega)]
    refine ⟨?_, fun w hw => ?_⟩
    · show pagesF (putF D.safe ⟨n, pagesF D.now n⟩) n = _
      rw [pagesF_put, if_pos rfl]
    · have hw : w ∈ dropW D.waits n 0 := hw
      unfold dropW at hw
      have := (List.mem_filter.1 hw).2
      simp only [decide_eq_true_eq] at this
      rcases this with h1 | h1
      · exact h1
      · omega

/-- What is safe comes back, if nothing waits of the file. -/
theorem lose_waits {D : Dsk} (h : D.off = false) {n : List UInt8} (hw : ∀ w ∈ D.waits, w.name ≠ n) (k : Nat) : pagesF (lose D k).now n = pagesF D.safe n := by
  rw [lose_now h, there_pages]
  exact pagesF_get (keeps_other D.waits 0 D.safe hw)

/-- The records at the beginning of bytes are the first ones that are read. -/
theorem splits_front {bs cur rest : List UInt8} : ∀ (xs ds : List (List UInt8)), bs.length < 18446744073709551616 → bs = flat xs ++ rest → Splits bs ds cur → ∃ es, ds = xs ++ es ∧ Splits rest es cur := by
  intro xs
  induction xs generalizing bs with
  | nil =>
    intro ds _ h1 h2
    rw [flat_nil, List.nil_append] at h1
    exact ⟨ds, rfl, by rw [← h1]; exact h2⟩
  | cons x xs ih =>
    intro ds hb h1 h2
    rw [flat_cons, List.append_assoc] at h1
    cases ds with
    | nil =>
      refine absurd ?_ h2.2
      have h3 := h2.1
      rw [flat_nil, List.nil_append] at h3
      exact ⟨x, by rw [← h3, h1]; exact List.prefix_append _ _⟩
    | cons d ds =>
      have hd : frm d <+: bs := by rw [h2.1, flat_cons, List.append_assoc]; exact List.prefix_append _ _
      have hx : frm x <+: bs := by rw [h1]; exact List.prefix_append _ _
      obtain rfl := pre_uniq hd hx hb
      have e2 := h2.1
      rw [flat_cons, List.append_assoc, h1] at e2
      have e3 := List.append_cancel_left e2
      have hl : (flat xs ++ rest).length < 18446744073709551616 := by rw [h1, List.length_append] at hb; omega
      obtain ⟨es, e4, e5⟩ := ih ds hl rfl ⟨e3, h2.2⟩
      exact ⟨es, by rw [e4]; rfl, e5⟩

end Go.Proofs.Ytoajfnkhonegnaa.Cd

/-
  Calls on a log, as the law's text has them: a slice of structs that reads; more than is played? Conditions: none.
-/
namespace Go.Proofs.Ytoajfnkhonegnaa.Cd
open Go.RowKit Go.ChangeShapes Go.WideShapes Go.Deep

/-- A call, as the law's text has it. -/
structure Cal where
  kind : Int
  list : List (List UInt8)
  n : Int
  k : Nat
  b : List UInt8

structure Cal.Ok (p : Cal) : Prop where
  list : ∀ s ∈ p.list, s.length ≤ 140737488351232
  b : p.b.length ≤ 140737488351232
structure Cal.Num (p : Cal) : Prop where
  kind : (Lit.int .i64 p.kind).wf = true
  n : (Lit.int .i64 p.n).wf = true
  k : p.k < 18446744073709551616

/-- Its cells, the list being u, the bytes' slice x. -/
def Cal.cells (p : Cal) (u x : Value) : List Value := [.int .i64 p.kind, u, .int .i64 p.n, .int .u64 p.k, x]

/-- A slice value that reads as the calls 'ps'. -/
def Cals (w : World) (B : Nat) (v : Value) (ps : List Cal) : Prop :=
  ∃ A c, v = .slice A ps.length c ∧ ps.length ≤ c ∧ c ≤ maxLen ∧ (∀ p ∈ ps, p.Num) ∧
    (0 < ps.length → ∃ b off, A = some ⟨b, off, none⟩ ∧ b < B ∧ ∀ (i : Nat) p, ps[i]? = some p → ∃ u y, Strs w B u p.list ∧ Sl w B y p.b ∧ ∀ (j : Nat) x, (p.cells u y)[j]? = some x → w.cell? ⟨b, off + i * 5 + j, none⟩ = some x)

theorem Cals.below {w w' : World} {B : Nat} {v : Value} {ps : List Cal} (h : Cals w B v ps) (hb : Below B w w') : Cals w' B v ps := by
  obtain ⟨A, c, h1, h2, h3, h4, h5⟩ := h
  refine ⟨A, c, h1, h2, h3, h4, fun hp => ?_⟩
  obtain ⟨b, off, e, hB, hc⟩ := h5 hp
  refine ⟨b, off, e, hB, fun i p hi => ?_⟩
  obtain ⟨u, y, hs, hy, hx⟩ := hc i p hi
  exact ⟨u, y, hs.below hb, hy.below hb, fun j x hj => (hb.cell (p := ⟨b, off + i * 5 + j, none⟩) hB).trans (hx j x hj)⟩

theorem cells_call9 : Try.prog.cellsOf 29 = 5 := by kernel_rfl
theorem cells_int9 : Try.prog.cellsOf 3 = 1 := by kernel_rfl
theorem cells_strings9 : Try.prog.cellsOf 22 = 1 := by kernel_rfl
theorem cells_uint9 : Try.prog.cellsOf 24 = 1 := by kernel_rfl

/-- Cells that are read as a slice of texts. -/
theorem strs_of_cells {H : Type} {enc : TypeId × Value → H} {w : World} {fuel : Nat} {cs : List Value} {x : DataW H × List MemPlace} (hf : DataW.trod enc Try.prog w 0 (fun _ => true) true fuel 22 cs = some x) :
    ∃ A n c l, cs = [.slice A n c] ∧ Strs w w.heap.size (.slice A n c) l ∧ ((∀ m ∈ x.1.weights Try.prog 22, m ≤ reachBytes) → ∀ s ∈ l, s.length ≤ 140737488351232) := by
  obtain ⟨d, pl⟩ := x
  rcases open_strs Try.underlying22 Try.underlying9 cells_str hf with ⟨hcs, _⟩ | ⟨a, n0, c0, m, Sx, hcs, _, hl, hm, hmm, hx, hi⟩
  · exact ⟨none, 0, 0, [], hcs, ⟨none, 0, rfl, by simp, by simp, fun _ => rfl, fun h => by simp at h⟩, by simp⟩
  · have hmc : m = c0 := by rw [hmm]; simp
    have hlen : ((List.range n0).map fun i => (Sx i).data.toList).length = n0 := by simp
    refine ⟨some a, n0, c0, (List.range n0).map fun i => (Sx i).data.toList, hcs, ⟨some a, c0, by rw [hlen], by rw [hlen]; exact hl, hm, (fun h => by cases h), fun hp => ?_⟩, fun hw => ?_⟩
    · rw [hlen] at hp
      obtain ⟨b, off, spot⟩ := a
      have hc := (hi 0 (by omega)).1
      have hspot : spot = none := by simpa [Addr.add] using World.cell?_spot hc
      subst hspot
      refine ⟨b, off, rfl, ?_, fun j u hu => ?_⟩
      · have := World.block_lt_of_cell? w _ hc
        rwa [block_of_add] at this
      · have hj := (List.getElem?_eq_some_iff.1 hu).1
        rw [vs_length, hlen] at hj
        have := (hi j (by omega)).1
        rw [Addr.add_lit] at this
        rw [this, ← hu]
        simp [vs, hj]
    · intro p hp
      obtain ⟨i, hi2, rfl⟩ := List.mem_map.1 hp
      have hlt := List.mem_range.1 hi2
      have hd : d = .slice ((List.range n0).map fun i => .lit (.string (Sx i).data.toList)) ((List.range (m - n0)).map fun j => .lit (.string (Sx (n0 + j)).data.toList)) := by
        simp only [Prod.mk.injEq] at hx
        exact hx.1
      refine hw _ ?_
      rw [hd]
      simp only [DataW.weights, Try.underlying22]
      refine List.mem_cons_of_mem _ (List.mem_append_left _ (weightsAll_mem (d := .lit (.string (Sx i).data.toList)) (List.mem_map.2 ⟨i, hi2, rfl⟩) ?_))
      simp [DataW.weights]

def CalAt {H : Type} (w : World) (a : Addr) (i : Nat) (d : DataW H) (p : Cal) : Prop :=
  ((∀ n ∈ d.weights Try.prog 29, n ≤ reachBytes) → p.Ok) ∧ p.Num ∧ ∃ u y, Strs w w.heap.size u p.list ∧ Sl w w.heap.size y p.b ∧ ∀ (j : Nat) v, (p.cells u y)[j]? = some v → w.cell? (a.add (i * 5 + j)) = some v

set_option maxRecDepth 100000 in
theorem cal_of {H : Type} {enc : TypeId × Value → H} {w : World} {a : Addr} {i n : Nat} {cs : List Value} {x : DataW H × List MemPlace} (hc : w.cells? 0 (a.add (i * 5)) 5 = some cs)
    (ht : DataW.trod enc Try.prog w 0 (fun _ => true) true n 29 cs = some x) : ∃ p, CalAt w a i x.1 p := by
  obtain ⟨_, hlen, hat⟩ := World.cells?_some hc
  obtain ⟨xs, m, _, hx, _, hxl, hfld⟩ := DataW.trod_struct Try.underlying29 ht
  match cs, hlen, xs, hxl with
  | [z0, z1, z2, z3, z4], _, [y0, y1, y2, y3, y4], _ =>
    have f0 : DataW.trod enc Try.prog w 0 (fun _ => true) true m 3 (([z0, z1, z2, z3, z4].drop 0).take (Try.prog.cellsOf 3)) = some y0 := hfld 0 _ rfl
    rw [cells_int9] at f0
    have f1 : DataW.trod enc Try.prog w 0 (fun _ => true) true m 22 (([z0, z1, z2, z3, z4].drop 1).take (Try.prog.cellsOf 22)) = some y1 := hfld 1 _ rfl
    rw [cells_strings9] at f1
    have f2 : DataW.trod enc Try.prog w 0 (fun _ => true) true m 3 (([z0, z1, z2, z3, z4].drop 2).take (Try.prog.cellsOf 3)) = some y2 := hfld 2 _ rfl
    rw [cells_int9] at f2
    have f3 : DataW.trod enc Try.prog w 0 (fun _ => true) true m 24 (([z0, z1, z2, z3, z4].drop 3).take (Try.prog.cellsOf 24)) = some y3 := hfld 3 _ rfl
    rw [cells_uint9] at f3
    have f4 : DataW.trod enc Try.prog w 0 (fun _ => true) true m 27 (([z0, z1, z2, z3, z4].drop 4).take (Try.prog.cellsOf 27)) = some y4 := hfld 4 _ rfl
    rw [cells_sl] at f4
    obtain ⟨x0, q0, e0, wf0⟩ := DataW.trod_int (cs := [z0]) Try.underlying3 f0
    obtain ⟨A1, n1, c1, l1, q1, s1, sw1⟩ := strs_of_cells (cs := [z1]) f1
    obtain ⟨x2, q2, e2, wf2⟩ := DataW.trod_int (cs := [z2]) Try.underlying3 f2
    obtain ⟨x3, q3, e3, wf3⟩ := DataW.trod_int (cs := [z3]) Try.underlying24 f3
    obtain ⟨A, n4, c4, bs, q4, hs, hsw⟩ := sl_of_cells (cs := [z4]) f4
    simp only [List.cons.injEq, and_true] at q0 q1 q2 q3 q4
    have b3 := bounds_u64 wf3
    obtain ⟨u, rfl⟩ := Int.eq_ofNat_of_zero_le b3.1
    have hxd : x.1 = .agg [y0.1, y1.1, y2.1, y3.1, y4.1] := by rw [hx]; rfl
    refine ⟨⟨x0, l1, x2, u, bs⟩, fun hw => ?_, ⟨wf0, wf2, by have := b3.2; show u < 18446744073709551616; omega⟩, .slice A1 n1 c1, .slice A n4 c4, s1, hs, fun j v hv => ?_⟩
    · have hw' : ∀ n ∈ DataW.weightsEach Try.prog [3, 22, 3, 24, 27] [y0.1, y1.1, y2.1, y3.1, y4.1], n ≤ reachBytes := by
        intro n hn
        refine hw n ?_
        rw [hxd]
        simpa [DataW.weights, Try.underlying29] using hn
      exact ⟨sw1 fun n hn => hw' n (DataW.weights_mem_each (j := 1) (t := 22) (d := y1.1) rfl rfl n hn), hsw fun n hn => hw' n (DataW.weights_mem_each (j := 4) (t := 27) (d := y4.1) rfl rfl n hn)⟩
    · have hj : j < 5 := (List.getElem?_eq_some_iff.1 hv).1
      rw [← Go.Deep.add_add, hat j hj]
      rw [q0, q1, q2, q3, q4]
      exact hv

instance : Inhabited Cal := ⟨⟨0, [], 0, 0, []⟩⟩

theorem cals_of_trod {H : Type} {enc : TypeId × Value → H} {w : World} {v : Value} {d : DataW H} {ps : List MemPlace} (hv : ∃ A n c, v = .slice A n c)
    (h : DataW.Trod enc Try.prog w 0 (fun _ => true) true 30 v d ps) (hw : ∀ n ∈ d.weights Try.prog 30, n ≤ reachBytes) :
    ∃ l, Cals w w.heap.size v l ∧ ∀ p ∈ l, p.Ok := by
  obtain ⟨A0, n0, c0, rfl⟩ := hv
  obtain ⟨fuel, hf⟩ := h
  rcases open_slice Try.underlying30 hf with ⟨hcs, _⟩ | ⟨a, len, cap, m, n, D, Pl, hcs, _, hl, hm, hmm, hx, hi⟩
  · simp [Value.cells] at hcs
    obtain ⟨rfl, rfl, rfl⟩ := hcs
    exact ⟨[], ⟨none, 0, rfl, by simp, by simp, (fun _ h => by cases h), fun h => by simp at h⟩, fun _ h => by cases h⟩
  · simp [Value.cells] at hcs
    obtain ⟨rfl, rfl, rfl⟩ := hcs
    have hone : ∀ i, i < n0 → ∃ p : Cal, CalAt w a i (D i) p := by
      intro i hin
      obtain ⟨cs', hcc, htt⟩ := hi i (by rw [hmm]; simp; omega)
      rw [cells_call9] at hcc
      exact cal_of hcc htt
    obtain ⟨f, hf⟩ := choose_lt hone
    have hget : ∀ (i : Nat) p, ((List.range n0).map f)[i]? = some p → i < n0 ∧ p = f i := by
      intro i p hip
      obtain ⟨hlt, rfl⟩ := List.getElem?_eq_some_iff.1 hip
      simp at hlt
      exact ⟨hlt, by simp⟩
    refine ⟨(List.range n0).map f, ⟨some a, c0, by simp, by simpa using hl, hm, ?_, fun hp => ?_⟩, ?_⟩
    · intro p hp
      obtain ⟨i, hi2, rfl⟩ := List.mem_map.1 hp
      exact (hf i (List.mem_range.1 hi2)).2.1
    · have hp0 : 0 < n0 := by simpa using hp
      obtain ⟨b, off, spot⟩ := a
      obtain ⟨u0, y0, _, _, hc0⟩ := (hf 0 hp0).2.2
      have hc := hc0 0 _ rfl
      have hspot : spot = none := by simpa [Addr.add] using World.cell?_spot hc
      subst hspot
      refine ⟨b, off, rfl, ?_, ?_⟩
      · have := World.block_lt_of_cell? w _ hc
        rwa [block_of_add] at this
      · intro i p hip
        obtain ⟨hlt, rfl⟩ := hget i p hip
        obtain ⟨u, y, h1, h2, h3⟩ := (hf i hlt).2.2
        refine ⟨u, y, h1, h2, fun j x hj => ?_⟩
        have := h3 j x hj
        rwa [Addr.add_lit, ← Nat.add_assoc] at this
    · intro p hp
      obtain ⟨i, hi2, rfl⟩ := List.mem_map.1 hp
      have hlt := List.mem_range.1 hi2
      refine (hf i hlt).1 fun n hn => hw n ?_
      have hd : d = .slice ((List.range n0).map D) ((List.range (m - n0)).map fun j => D (n0 + j)) := by
        simp only [Prod.mk.injEq] at hx
        exact hx.1
      rw [hd]
      simp only [DataW.weights, Try.underlying30]
      exact List.mem_cons_of_mem _ (List.mem_append_left _ (weightsAll_mem (d := D i) (List.mem_map.2 ⟨i, hi2, rfl⟩) hn))

end Go.Proofs.Ytoajfnkhonegnaa.Cd

/-
  All together. Conditions: none.
-/
namespace Go.Proofs.Ytoajfnkhonegnaa.Cd
end Go.Proofs.Ytoajfnkhonegnaa.Cd

/-
  append of noughts: append(own, make([]byte, n)...). Conditions: none.
-/
namespace Go.Proofs.Ytoajfnkhonegnaa.Cd
open Go.RowKit

theorem zero_cells (n : Nat) : Builtin.zeroCells (Value.int .u8 0).cells n = (vb (List.replicate n 0)).toArray := by
  apply Array.ext'
  simp [Builtin.zeroCells, Value.cells, vb, List.map_replicate, Nat.mod_one, List.map_const']

theorem vb_zeros (n : Nat) : (vb (List.replicate n 0)).length = n := by rw [vb_length, List.length_replicate]

set_option maxRecDepth 100000 in
/-- The room is enough: the noughts are stored. -/
theorem run_zeros_room (w : World) (ty : TypeId) (i : TypeInfo) (hi : Try.prog.info? 5 = some i) (hz0 : i.zero = some (.int .u8 0)) (hz1 : i.size = 1) (hz2 : i.bytes = 1)
    (g sLen sCap n : Nat) (cur : Array Value) (hg : w.heap[g]? = some (.cells cur 5 (0, 0))) (hroom : sLen + n ≤ sCap) (hcs : cur.size = sCap) (hn : n ≠ 0) (hm : n ≤ 140737488355328) :
    (Builtin.append_ #[27, 3] ty #[.slice (some ⟨g, 0, none⟩) sLen sCap, .int .i64 n]).run Try.prog w =
      .ok (.slice (some ⟨g, 0, none⟩) (sLen + n) sCap) (w.setRow g (cur.toList.take sLen ++ vb (List.replicate n 0) ++ cur.toList.drop (sLen + n)).toArray) := by
  have hst := run_storeCells_at Try.prog g sLen 5 (vb (List.replicate n 0)) 0 cur w hg (by rw [vb_zeros]; omega) (vb_one _)
  simp only [Nat.add_zero, vb_zeros] at hst
  have h1 : ¬ ((281474976710656 : Int) < n) := by omega
  have hzc := zero_cells n
  have hw : IntKind.i64.wrap (n : Int) = n := by rw [IntKind.wrap_i64]; omega
  have hneg : ¬ ((n : Int) < 0) := by omega
  have hai : (asInt (.int .i64 (n : Int))).run Try.prog w = .ok (n : Int) w := by simp [asInt, asIntOf]
  simp [Builtin.append_, run_underlying Try.underlying27, run_underlying Try.underlying3, sizeOf, typeInfo, zeroValue, hi, hz0, hz1, hz2, Builtin.lenOf, hroom, h1, hn, hw, hai, hneg, hst, hzc, Addr.add_lit]

set_option maxRecDepth 100000 in
/-- It isn't: a new row. -/
theorem run_zeros_grow (w : World) (ty : TypeId) (i : TypeInfo) (hi : Try.prog.info? 5 = some i) (hz0 : i.zero = some (.int .u8 0)) (hz1 : i.size = 1) (hz2 : i.bytes = 1)
    (b : Addr) (sLen sCap n : Nat) (olds : List Value) (hlo : olds.length = sLen) (holds : ∀ j v, olds[j]? = some v → w.cell? (b.add j) = some v) (hn : n ≠ 0) (hg : sCap < sLen + n) (hm : sLen + n ≤ 140737488355328) :
    (Builtin.append_ #[27, 3] ty #[.slice (some b) sLen sCap, .int .i64 n]).run Try.prog w =
      .ok (.slice (some ⟨w.heap.size, 0, none⟩) (sLen + n) (grownCap w (sLen + n) sCap 5))
        (w.drew.alloc (.cells (olds.toArray ++ (vb (List.replicate n 0)).toArray ++ Builtin.zeroCells (Value.int .u8 0).cells (grownCap w (sLen + n) sCap 5 - (sLen + n))) 5)) := by
  have hroom : ¬ (sLen + n ≤ sCap) := by omega
  have h1 : ¬ ((281474976710656 : Int) < n) := by omega
  have h63' : ¬ (9223372036854775807 < ((sLen : Int) + (n : Int))) := by omega
  have h48 := growslice_fits (bytes := 1) hg (by omega)
  rw [Nat.mul_one] at h48
  have h48' : ¬ (281474976710656 < Builtin.nextslicecap (sLen + n) sCap) := by omega
  have hzc := zero_cells n
  have hw : IntKind.i64.wrap (n : Int) = n := by rw [IntKind.wrap_i64]; omega
  have hneg : ¬ ((n : Int) < 0) := by omega
  have hai : (asInt (.int .i64 (n : Int))).run Try.prog w = .ok (n : Int) w := by simp [asInt, asIntOf]
  have hfo := run_firstCells_some (P := Try.prog) w.drew 1 sLen b sLen sCap olds (by omega) (by simpa using holds)
  simp [Builtin.append_, run_underlying Try.underlying27, run_underlying Try.underlying3, sizeOf, typeInfo, zeroValue, hi, hz0, hz1, hz2, Builtin.lenOf, hroom, h1, hn, hw, hai, hneg, h63', h48', Question.forced, hfo, hzc, newRow, grownCap]
  congr 2
  apply Array.ext'
  simp [List.append_assoc]

set_option maxRecDepth 100000 in
/-- Nothing was there: a new row. -/
theorem run_zeros_nil (w : World) (ty : TypeId) (i : TypeInfo) (hi : Try.prog.info? 5 = some i) (hz0 : i.zero = some (.int .u8 0)) (hz1 : i.size = 1) (hz2 : i.bytes = 1) (n : Nat) (hn : n ≠ 0) (hm : n ≤ 140737488355328) :
    (Builtin.append_ #[27, 3] ty #[.slice none 0 0, .int .i64 n]).run Try.prog w =
      .ok (.slice (some ⟨w.heap.size, 0, none⟩) n (grownCap w n 0 5))
        (w.drew.alloc (.cells ((vb (List.replicate n 0)).toArray ++ Builtin.zeroCells (Value.int .u8 0).cells (grownCap w n 0 5 - n)) 5)) := by
  have h1 : ¬ ((281474976710656 : Int) < n) := by omega
  have h63' : ¬ (9223372036854775807 < (n : Int)) := by omega
  have h48' : ¬ (281474976710656 < Builtin.nextslicecap n 0) := by rw [nextslicecap_zero (by omega)]; omega
  have hzc := zero_cells n
  have hw : IntKind.i64.wrap (n : Int) = n := by rw [IntKind.wrap_i64]; omega
  have hneg : ¬ ((n : Int) < 0) := by omega
  have hai : (asInt (.int .i64 (n : Int))).run Try.prog w = .ok (n : Int) w := by simp [asInt, asIntOf]
  simp [Builtin.append_, run_underlying Try.underlying27, run_underlying Try.underlying3, sizeOf, typeInfo, zeroValue, hi, hz0, hz1, hz2, Builtin.lenOf, h1, hn, hw, hai, hneg, h63', h48', Question.forced, run_firstCells_none, hzc, newRow, grownCap]

/-- append(own, make([]byte, n)...), n above nought. -/
theorem run_append_zeros (w : World) (B : Nat) (v : Value) (bs : List UInt8) (ho : Own w B v bs) (hB : B ≤ w.heap.size) (n : Nat) (hn : n ≠ 0) (hm : bs.length + n ≤ 140737488355328) (ty : TypeId) :
    ∃ v' w', (Builtin.append_ #[27, 3] ty #[v, .int .i64 n]).run Try.prog w = .ok v' w' ∧ Own w' B v' (bs ++ List.replicate n 0) ∧ Below B w w' := by
  obtain ⟨i0, hi, hz0, hz1, hz2⟩ := info_parts info5
  have hlen : (bs ++ List.replicate n 0).length = bs.length + n := by rw [List.length_append, List.length_replicate]
  have hlv : (vb (bs ++ List.replicate n 0)).length = bs.length + n := by rw [vb_length, hlen]
  rcases ho.2 with ⟨rfl, h0⟩ | ⟨g, cap, cur, rfl, hbg, hg, hnc, hcm, hcs, htake⟩
  · have hbs : bs = [] := List.eq_nil_of_length_eq_zero h0
    subst hbs
    have hr := run_zeros_nil w ty i0 hi hz0 hz1 hz2 n hn (by simpa using hm)
    have hge := grownCap_ge w n 0 5
    have hcm2 : grownCap w n 0 5 ≤ maxLen := grownCap_le_maxLen w n 0 5 (by simp only [maxLen]; simp at hm; omega)
    refine ⟨_, _, hr, ?_, ⟨rfl, rfl, rfl, by simp, fun k hk => heap_alloc_old w.drew _ (Nat.lt_of_lt_of_le hk hB)⟩⟩
    unfold Own
    rw [List.nil_append, List.length_replicate]
    refine ⟨by rw [vb_zeros]; simp, .inr ⟨w.heap.size, _, _, rfl, hB, heap_alloc_new w.drew _, hge, hcm2, ?_, ?_⟩⟩
    · simp only [Array.size_append, List.size_toArray, size_zeroCells, vb_length, List.length_replicate]
      simp [Value.cells]
      omega
    · simp only [Array.toList_append, Nat.mul_one]
      have := vb_zeros n
      exact List.take_left' this
  · have hcs : cur.size = cap := by simpa using hcs
    have htake : cur.toList.take bs.length = vb bs := by simpa using htake
    have hgl := (ho.lt g rfl).2
    by_cases hroom : bs.length + n ≤ cap
    · have hr := run_zeros_room w ty i0 hi hz0 hz1 hz2 g bs.length cap n cur hg hroom hcs hn (by omega)
      refine ⟨_, _, hr, ?_, (Below.refl _ _).grown (row := some g) ⟨rfl, rfl, rfl, by simp, fun k _ hk => setRow_other w g k _ (fun e => hk (by rw [e]))⟩ hB (fun k hk => by injection hk with hk; omega)⟩
      unfold Own
      rw [hlen]
      refine ⟨by rw [hlv]; simp, .inr ⟨g, cap, _, rfl, hbg, setRow_heap w g cur _ 5 _ hg, hroom, hcm, ?_, ?_⟩⟩
      · simp only [List.size_toArray, List.length_append, List.length_take, List.length_drop, Array.length_toList, vb_zeros]
        omega
      · rw [htake, Nat.mul_one]
        rw [← vb_append]
        rw [← hlv]
        exact List.take_left
    · have holds : ∀ j u, (vb bs)[j]? = some u → w.cell? ((⟨g, 0, none⟩ : Addr).add j) = some u := World.ownsRow.cells ho (g := g) rfl
      have hr := run_zeros_grow w ty i0 hi hz0 hz1 hz2 ⟨g, 0, none⟩ bs.length cap n (vb bs) (vb_length bs) holds hn (by omega) hm
      have hge := grownCap_ge w (bs.length + n) cap 5
      have hcm2 : grownCap w (bs.length + n) cap 5 ≤ maxLen := grownCap_le_maxLen w (bs.length + n) cap 5 (by simp only [maxLen]; omega)
      refine ⟨_, _, hr, ?_, ⟨rfl, rfl, rfl, by simp, fun k hk => heap_alloc_old w.drew _ (Nat.lt_of_lt_of_le hk hB)⟩⟩
      unfold Own
      rw [hlen]
      refine ⟨by rw [hlv]; simp, .inr ⟨w.heap.size, _, _, rfl, hB, heap_alloc_new w.drew _, hge, hcm2, ?_, ?_⟩⟩
      · simp only [Array.size_append, List.size_toArray, size_zeroCells, vb_length, List.length_replicate]
        simp [Value.cells]
        omega
      · simp only [Array.toList_append, Nat.mul_one]
        rw [← vb_append, ← hlv]
        exact List.take_left

/-- append of noughts, for the walk. -/
theorem wp_append_zeros {w : World} {ops : Array Oper} {rest : List Oper} {o : Oper} {a : Act} {Q : Exit → Act → World → Prop} (hgd : o.guard = none) (s x : Operand)
    (hop : o.op = .call { callee := .builtin .append, args := #[s, x], argTypes := #[27, 3] })
    (B : Nat) (v : Value) (bs : List UInt8) (hs : a.eval s = v) (ho : Own w B v bs) (hB : B ≤ w.heap.size) (n : Nat) (q : Int) (hq : q = n) (hx : a.eval x = .int .i64 q) (hn : n ≠ 0)
    (hm : bs.length + n ≤ 140737488355328)
    (hK : ∀ v' w', Own w' B v' (bs ++ List.replicate n 0) → Below B w w' → wpList Try.prog ops Q rest (a.put o.dst v') w') : wpList Try.prog ops Q (o :: rest) a w := by
  subst hq
  refine wpList_plain hgd fun K hK' => ?_
  obtain ⟨v', w', hrun, r1, r2⟩ := run_append_zeros w B v bs ho hB n hn hm o.type
  unfold Oper.wp
  simp [execOp, hop, resolve, invoke, builtin, hs, hx, hrun, Result.andThen]
  exact hK' _ _ (hK v' w' r1 r2)

end Go.Proofs.Ytoajfnkhonegnaa.Cd

/-
  A log's pages, as bytes: pageOf, partOf, ending, pagesOf, unlessNone; slices.Clone, Concat and Grow of bytes. Conditions: none.
-/
namespace Go.Proofs.Ytoajfnkhonegnaa.Cd
open Go.RowKit

theorem two_bytes (w : World) (x y : Int) (a b : UInt8) (hx : x = (a.toNat : Int)) (hy : y = (b.toNat : Int)) (B : Nat) (hB : B ≤ w.heap.size) : Own (w.alloc (.cells #[.int .u8 x, .int .u8 y] 5)) B (.slice (some ⟨w.heap.size, 0, none⟩) 2 2) [a, b] := by
  subst hx hy
  exact ⟨rfl, .inr ⟨w.heap.size, 2, _, rfl, hB, heap_alloc_new w _, Nat.le_refl _, by simp [maxLen], rfl, rfl⟩⟩
theorem ret_i64 {x y : Int} (h : x = y) : Ending.returned (.int .i64 x) = .returned (.int .i64 y) := by rw [h]

set_option maxHeartbeats 800000 in
theorem pageOf_any (v : Value) (bs : List UInt8) (w : World) (h : Sl w w.heap.size v bs) (hb : bs.length ≤ 510) :
    Calls Try.prog 53 #[v] w (Wrote w (pageB bs)) := by
  obtain ⟨A, c, rfl, h2, h3⟩ := h.len
  have h3 : c ≤ 9223372036854775807 := h3
  have H := Lib.hid h
  have e0 : Hid ((bs.length : Int) % 256 = ((b8 bs.length).toNat : Int)) := by unfold Hid; rw [b8_nat]; omega
  have e1 : Hid ((bs.length : Int) / 256 % 256 = ((b8 (bs.length / 256)).toNat : Int)) := by unfold Hid; rw [b8_nat]; omega
  clear h
  go_enter Try.func53, Try.ntmps53
  go_wp2_with (at_builtin; refine wp_append_sl rfl _ _ rfl w.heap.size _ [b8 bs.length, b8 (bs.length / 256)] rfl ?ho ?hB _ (w.heap.size + 1) bs rfl ?hn ?hm ?hK)
  case ho => exact two_bytes w _ _ _ _ (by have := e0.out; omega) (by have := e1.out; omega) _ (Nat.le_refl _)
  case hB => simp
  case hn => exact (H.out.below ((Below.refl _ _).alloc (Nat.le_refl _) _)).more (by omega)
  case hm => simp; omega
  case hK =>
    intro v' w' ho hb'
    go_wp2
    go_ret
    exact ⟨v', rfl, ho, ((Below.refl _ _).alloc (Nat.le_refl _) _).trans hb'⟩

theorem pagesOf_any (n : Nat) (w : World) (h : n ≤ 140737488355328) : Calls Try.prog 34 #[.int .i64 n] w (fun e w' => e = .returned (.int .i64 (needP n : Nat)) ∧ w = w') := by
  have hn : (n : Int) ≤ 140737488355328 := by omega
  go_enter Try.func34, Try.ntmps34
  go_wp2
  go_ret
  exact ⟨ret_i64 (by unfold needP; omega), rfl⟩

theorem unless_any (n : Nat) (w : World) (h : n ≤ 100) : Calls Try.prog 37 #[.int .i64 n] w (fun e w' => e = .returned (.int .i64 (unless5 n : Nat)) ∧ w = w') := by
  by_cases hn : n = 5
  · subst hn
    go_enter Try.func37, Try.ntmps37
    go_wp2
    go_ret
    exact ⟨rfl, rfl⟩
  · have hne : ((n : Int) == 5) = false := by rw [beq_eq_false_iff_ne]; omega
    have hu : Hid (unless5 n = n) := if_neg hn
    clear hn
    go_enter Try.func37, Try.ntmps37
    go_wp2
    go_ret
    exact ⟨by rw [hu.out]; rfl, rfl⟩

/-- A slice's end, from a letter on. -/
theorem ending_any (A : Option Addr) (c : Nat) (bs : List UInt8) (w : World) (h : Sl w w.heap.size (.slice A bs.length c) bs) (hb : bs.length ≤ 140737488355328) :
    Calls Try.prog 30 #[.slice A bs.length c] w (fun e w' => w = w' ∧ ∃ C c', e = .returned (.slice C (lastP bs).length c') ∧ Sl w w.heap.size (.slice C (lastP bs).length c') (lastP bs)) := by
  obtain ⟨k, hk⟩ : ∃ k, bs.length / 510 * 510 = k := ⟨_, rfl⟩
  have hkl : k ≤ bs.length := by omega
  have hlast : lastP bs = bs.drop k := by unfold lastP; rw [hk]
  have hr := sl_rest h k hkl
  obtain ⟨h2, h3⟩ : bs.length ≤ c ∧ c ≤ 9223372036854775807 := by
    obtain ⟨_, _, e0, h2, h3, _⟩ := h
    injection e0 with _ _ e0
    rw [e0]
    exact ⟨h2, h3⟩
  have HR := Lib.hid hr
  have HL := Lib.hid hlast
  have hkc : (k : Int) ≤ c := by omega
  have hbl : (bs.length : Int) ≤ 140737488355328 := by omega
  have HK : Hid (((bs.length : Int) / 510) * 510 = (k : Int)) := by unfold Hid; omega
  have hll : (lastP bs).length = bs.length - k := by rw [HL.out, List.length_drop]
  have HLL := Lib.hid hll
  clear hr hlast hll
  by_cases hc : c = k
  · have hcv : (c : Int) = (bs.length : Int) / 510 * 510 := by omega
    go_enter Try.func30, Try.ntmps30
    go_wp2
    go_ret
    have hS := HR.out A (fun h => absurd hc h) (fun _ => rfl)
    rw [← HL.out, ← HLL.out] at hS
    exact ⟨rfl, A, c - k, by rw [HLL.out, hk, hc]; rfl, hS⟩
  · go_enter Try.func30, Try.ntmps30
    go_wp2
    go_ret
    have hS := HR.out _ (fun _ => rfl) (fun h => absurd h hc)
    rw [← HL.out, ← HLL.out] at hS
    exact ⟨rfl, _, c - k, by rw [HLL.out, hk]; rfl, hS⟩

theorem nil_append_own (w : World) (B : Nat) : Own w B (.slice none 0 0) [] := World.ownsRow_nil _ _ _ _

set_option maxRecDepth 100000 in
/-- slices.Clone. -/
theorem clone_any (v : Value) (bs : List UInt8) (w : World) (h : Sl w w.heap.size v bs) (hb : bs.length ≤ 140737488355328) :
    Calls Try.prog 29 #[v] w (Wrote w bs) := by
  have H := Lib.hid h
  obtain ⟨A, c, rfl, h2, h3, h4, _⟩ := h
  have h3 : c ≤ 9223372036854775807 := h3
  cases A with
  | none =>
    have hc := h4 rfl
    subst hc
    have hbn : bs.length = 0 := by omega
    have hbe : Hid (bs = []) := List.length_eq_zero_iff.1 hbn
    have hq := fun W => Lib.run_eql_slice_nil (P := Try.prog) W 27 5 none 0 0 0 0 Try.underlying27
    rw [hbn]
    clear hbn h2 h3 h4 hb
    go_enter Try.func29, Try.ntmps29
    go_wp2
    go_ret
    rw [hbe.out]
    exact ⟨_, rfl, nil_append_own _ _, Below.refl _ _⟩
  | some A =>
    have hq := fun W => Lib.run_eql_slice_nil (P := Try.prog) W 27 5 (some A) bs.length c 0 0 Try.underlying27
    clear h4
    go_enter Try.func29, Try.ntmps29
    go_wp2_with (at_builtin; refine wp_append_sl rfl _ _ rfl w.heap.size _ [] rfl ?ho ?hB _ (w.heap.size + 1) bs rfl ?hn ?hm ?hK)
    case ho => exact own_new w _ (Nat.le_refl _)
    case hB => simp
    case hn => exact (H.out.below ((Below.refl _ _).alloc (Nat.le_refl _) _)).more (by omega)
    case hm => simpa using hb
    case hK =>
      intro v' w' ho hb'
      go_wp2
      go_ret
      exact ⟨v', rfl, ho, ((Below.refl _ _).alloc (Nat.le_refl _) _).trans hb'⟩

end Go.Proofs.Ytoajfnkhonegnaa.Cd

/-
  partOf: what a page tells. Conditions: none.
-/
namespace Go.Proofs.Ytoajfnkhonegnaa.Cd
open Go.RowKit

theorem ofInt_i64 (a : Nat) (h : a < 9223372036854775808) : (BitVec.ofInt 64 (a : Int)).toNat = a := by
  rw [BitVec.ofInt_natCast, BitVec.toNat_ofNat]; omega
theorem or_told (a b : Nat) (ha : a < 256) (hb : b < 256) : bits BinOp.or IntKind.i64 (a : Int) ((b : Int) * 256) = ((a + 256 * b : Nat) : Int) := by
  have h4 : a ||| b * 256 = a + 256 * b := by
    have := Nat.two_pow_add_eq_or_of_lt (i := 8) (b := a) (by omega) b
    rw [Nat.or_comm, Nat.mul_comm b 256]
    rw [show (256 : Nat) = 2 ^ 8 from rfl, ← this]
    omega
  have e : ((b : Int) * 256) = ((b * 256 : Nat) : Int) := by omega
  rw [e]
  show IntKind.i64.wrap ((BitVec.ofInt 64 (a : Int) ||| BitVec.ofInt 64 ((b * 256 : Nat) : Int)).toNat : Int) = _
  rw [BitVec.toNat_or, ofInt_i64 a (by omega), ofInt_i64 (b * 256) (by omega), h4, IntKind.wrap_i64]
  omega

set_option maxHeartbeats 800000 in
theorem partOf_any (r : Nat) (q : List UInt8) (w : World) (hr : w.heap[r]? = some (.cells (vb q).toArray 79)) (hq : q.length = 512) :
    Calls Try.prog 49 #[.slice (some ⟨r, 0, none⟩) 512 512] w (fun e w' => e = .returned (.slice (some ⟨r, 2, none⟩) (toldP q) 510) ∧ ∃ n, w' = w.drewN n) := by
  have ht : toldP q = min ((q.getD 0 0).toNat + 256 * (q.getD 1 0).toNat) 510 := rfl
  have l0 := (q.getD 0 0).toNat_lt
  have l1 := (q.getD 1 0).toNat_lt
  have d0 : w.cell? ⟨r, 0, none⟩ = some (.int .u8 (q.getD 0 0).toNat) := by
    rw [cell_of_row _ _ 0 _ _ _ hr]
    simp [vb, hq]
  have d1 : w.cell? ⟨r, 1, none⟩ = some (.int .u8 (q.getD 1 0).toNat) := by
    rw [cell_of_row _ _ 1 _ _ _ hr]
    simp [vb, hq]
  generalize (q.getD 0 0).toNat = a at *
  generalize (q.getD 1 0).toNat = b at *
  generalize toldP q = t at *
  have hor := or_told a b (by omega) (by omega)
  have hm1 : min ((a + 256 * b : Nat) : Int) 510 = (t : Int) := by omega
  have hm2 : (t : Int) ≤ 510 := by omega
  have ha : (a : Int) ≤ 255 := by omega
  have hb : (b : Int) ≤ 255 := by omega
  generalize a + 256 * b = m at *
  clear ht l0 l1 hr hq
  go_enter Try.func49, Try.ntmps49
  go_wp2
  go_quiet (fail)
  go_wp2
  all_goals go_ret
  · have e : t = 510 := by omega
    rw [e]
    exact ⟨rfl, _, rfl⟩
  · have e : (2 + (m : Int)).toNat - 2 = t := by omega
    rw [← e]
    exact ⟨rfl, _, rfl⟩

/-- What partOf answers reads as what the page tells. -/
theorem sl_part {w : World} {r : Nat} {q : List UInt8} (hr : w.heap[r]? = some (.cells (vb q).toArray 79)) (hq : q.length = 512) : Sl w w.heap.size (.slice (some ⟨r, 2, none⟩) (toldP q) 510) (partP q) := by
  have hlt : r < w.heap.size := (Array.getElem?_eq_some_iff.1 hr).1
  have hl := partP_len hq
  have ht := toldP_le q
  refine ⟨some ⟨r, 2, none⟩, 510, by rw [hl], by rw [hl]; exact ht, by simp [maxLen], (fun h => by cases h), fun ad e _ => ?_, fun ad e j u hu => ?_⟩
  · injection e with e
    subst e
    exact hlt
  · injection e with e
    subst e
    have hj := (List.getElem?_eq_some_iff.1 hu).1
    rw [vb_length, hl] at hj
    rw [Addr.add_lit, cell_of_row _ _ (2 + j) _ _ _ hr, ← hu]
    simp only [vb, partP, List.map_take, List.map_drop, List.getElem?_toArray]
    rw [List.getElem?_take, if_pos hj, List.getElem?_drop]

end Go.Proofs.Ytoajfnkhonegnaa.Cd

/-
  slices.Grow and Concat of bytes. Conditions: none.
-/
namespace Go.Proofs.Ytoajfnkhonegnaa.Cd
open Go.RowKit

/-- A row of the call's own, cut to nothing. -/
theorem own_cut {w : World} {B : Nat} {g n cap : Nat} {bs : List UInt8} (h : Own w B (.slice (some ⟨g, 0, none⟩) n cap) bs) : Own w B (.slice (some ⟨g, 0, none⟩) 0 cap) [] := by
  rcases h.2 with ⟨e, _⟩ | ⟨g', cap', cur, e, hb, hh, hn, hm, hc, ht⟩
  · cases e
  · injection e with e1 e2 e3
    injection e1 with e1
    injection e1 with e1
    subst e1 e3
    exact ⟨rfl, .inr ⟨g, cap, cur, rfl, hb, hh, Nat.zero_le _, hm, hc, by simp [vb]⟩⟩

set_option maxHeartbeats 800000 in
theorem grow_any (n : Nat) (w : World) (hn : n ≤ 140737488355328) : Calls Try.prog 77 #[.slice none 0 0, .int .i64 n] w (Wrote w []) := by
  have hn2 : (n : Int) ≤ 140737488355328 := by omega
  by_cases h0 : n = 0
  · subst h0
    go_enter Try.func77, Try.ntmps77
    go_wp2
    go_ret
    exact ⟨_, rfl, nil_append_own _ _, Below.refl _ _⟩
  · have h1 : 0 < (n : Int) := by omega
    go_enter Try.func77, Try.ntmps77
    go_wp2_with (at_builtin; refine wp_append_zeros rfl _ _ rfl w.heap.size _ [] rfl ?ho ?hB n (n : Int) rfl rfl h0 ?hm ?hK)
    case ho => exact nil_append_own _ _
    case hB => exact Nat.le_refl _
    case hm => simpa using hn
    case hK =>
      intro v' w' ho hb'
      have hl : (List.replicate n (0 : UInt8)).length = n := List.length_replicate
      obtain ⟨g, cap, cur, rfl, hg1, hg2, hg3, hg4, hg5, hg6⟩ := own_block ho (by rw [hl]; omega)
      have HO := Lib.hid (own_cut ho)
      have hg5 : cap ≤ 9223372036854775807 := hg5
      rw [hl] at hg4 ⊢
      have hg4' : (n : Int) ≤ cap := by omega
      clear ho hg6 hg3 hl
      go_wp2
      go_ret
      exact ⟨_, rfl, HO.out, hb'⟩

set_option maxRecDepth 100000 in
set_option maxHeartbeats 1600000 in
/-- slices.Concat of two. -/
theorem concat_any (r : Nat) (x y : Value) (a b : List UInt8) (w : World) (hr : r < w.heap.size) (c0 : w.cell? ⟨r, 0, none⟩ = some x) (c1 : w.cell? ⟨r, 1, none⟩ = some y) (hx : Sl w w.heap.size x a) (hy : Sl w w.heap.size y b) (hl : a.length + b.length ≤ 140737488355328) :
    Calls Try.prog 56 #[.slice (some ⟨r, 0, none⟩) 2 2] w (Wrote w (a ++ b)) := by
  obtain ⟨A, ca, rfl, ha2, ha3⟩ := hx.len
  obtain ⟨C, cb, rfl, hb2, hb3⟩ := hy.len
  have ha3 : ca ≤ 9223372036854775807 := ha3
  have hb3 : cb ≤ 9223372036854775807 := hb3
  have HX := Lib.hid hx
  have HY := Lib.hid hy
  clear hx hy
  have hla : (a.length : Int) ≤ 140737488355328 := by omega
  have hlb : (b.length : Int) ≤ 140737488355328 := by omega
  have hlab : (a.length : Int) + b.length ≤ 140737488355328 := by omega
  go_enter Try.func56, Try.ntmps56
  go_wp2
  go_loop [3, 11] (fun s i => ∃ k : Nat, i = .int .i64 k ∧ ((k = 0 ∧ s = .int .i64 0) ∨ (k = 1 ∧ s = .int .i64 a.length) ∨ (k = 2 ∧ s = .int .i64 ((a.length : Int) + b.length)))) (fun _ i => 2 - (intOf i).toNat)
  case atStart => exact ⟨0, rfl, .inl ⟨rfl, rfl⟩⟩
  case round =>
    obtain ⟨k, rfl, h⟩ := hrel
    rcases h with ⟨rfl, rfl⟩ | ⟨rfl, rfl⟩ | ⟨rfl, rfl⟩
    · go_wp2
      go_round
      case rel => exact ⟨1, rfl, .inr (.inl ⟨rfl, rfl⟩)⟩
      case measure => simp [intOf]
    · go_wp2
      go_round
      case rel => exact ⟨2, rfl, .inr (.inr ⟨rfl, rfl⟩)⟩
      case measure => simp [intOf]
    · obtain ⟨n, hn⟩ : ∃ n : Nat, (a.length : Int) + b.length = n := ⟨a.length + b.length, by omega⟩
      rw [hn]
      have hn' : n ≤ 140737488355328 := by omega
      have HN := Lib.hid hn
      clear hn
      go_wp2_with (go_at_call 77; refine (grow_any n w hn').mono ?_; rintro e w1 ⟨v1, rfl, ho1, hb1⟩; have HO1 := Lib.hid ho1; have HB1 := Lib.hid hb1; clear ho1 hb1)
      go_loopw [6, 27] (fun s i wr => ∃ k : Nat, i = .int .i64 k ∧ Hid (Below w.heap.size w wr) ∧ ((k = 0 ∧ Hid (Own wr w.heap.size s [])) ∨ (k = 1 ∧ Hid (Own wr w.heap.size s a)) ∨ (k = 2 ∧ Hid (Own wr w.heap.size s (a ++ b))))) (fun _ i _ => 2 - (intOf i).toNat)
      case atStart => exact ⟨0, rfl, HB1, .inl ⟨rfl, HO1⟩⟩
      case round =>
        obtain ⟨k, rfl, hbl, h⟩ := hrel
        have d0 : wr.cell? ⟨r, 0, none⟩ = some (.slice A a.length ca) := (hbl.out.cell (p := ⟨r, 0, none⟩) hr).trans c0
        have d1 : wr.cell? ⟨r, 1, none⟩ = some (.slice C b.length cb) := (hbl.out.cell (p := ⟨r, 1, none⟩) hr).trans c1
        rcases h with ⟨rfl, ho⟩ | ⟨rfl, ho⟩ | ⟨rfl, ho⟩
        · go_wp2_with (at_builtin; refine wp_append_sl rfl _ _ rfl w.heap.size _ [] rfl ?ho ?hB _ w.heap.size a rfl ?hn ?hm ?hK)
          case ho => exact ho.out
          case hB => exact hbl.out.size
          case hn => exact HX.out.below hbl.out
          case hm => simp; omega
          case hK =>
            intro v' w' ho' hb'
            have HO := Lib.hid ho'
            have HB := Lib.hid (hbl.out.trans hb')
            clear ho' hb'
            go_wp2
            go_roundw
            case rel => exact ⟨1, rfl, HB, .inr (.inl ⟨rfl, HO⟩)⟩
            case measure => simp [intOf]
        · go_wp2_with (at_builtin; refine wp_append_sl rfl _ _ rfl w.heap.size _ a rfl ?ho ?hB _ w.heap.size b rfl ?hn ?hm ?hK)
          case ho => exact ho.out
          case hB => exact hbl.out.size
          case hn => exact HY.out.below hbl.out
          case hm => exact hl
          case hK =>
            intro v' w' ho' hb'
            have HO := Lib.hid ho'
            have HB := Lib.hid (hbl.out.trans hb')
            clear ho' hb'
            go_wp2
            go_roundw
            case rel => exact ⟨2, rfl, HB, .inr (.inr ⟨rfl, HO⟩)⟩
            case measure => simp [intOf]
        · go_wp2
          go_ret
          exact ⟨_, rfl, ho.out, hbl.out⟩

end Go.Proofs.Ytoajfnkhonegnaa.Cd

/-
  log.read: the log's bytes that a file's pages have. Conditions: the power is on.
-/
namespace Go.Proofs.Ytoajfnkhonegnaa.Cd
open Go.RowKit

theorem reads_in {D : Dsk} {n q : List UInt8} {k : Nat} {w w' : World} {e : Ending} (ho : D.off = false) (hk : (pagesF D.now n)[k]? = some q) (h : ReadsD D n (k : Int) w e w') :
    q.length = 512 ∧ e = .returned (.tuple #[.slice (some ⟨w.heap.size, 0, none⟩) 512 512, .int .i64 0]) ∧ w' = w.alloc (.cells (vb q).toArray 79) := by
  obtain ⟨hlt, hq⟩ := List.getElem?_eq_some_iff.1 hk
  have hr : readD D n (k : Int) = (q, 0) := by
    unfold readD
    rw [if_neg (by rw [ho]; simp), if_neg (by omega), Int.toNat_natCast, List.getD_eq_getElem?_getD, hk]
    rfl
  rcases h with ⟨p, h1, h2, h3, h4⟩ | ⟨m, h1, h2, _⟩
  · rw [hr] at h1
    injection h1 with h1
    subst h1
    exact ⟨h2, h3, h4⟩
  · rw [hr] at h2
    injection h2 with _ h2
    exact absurd h2.symm h1

set_option maxRecDepth 100000 in
set_option maxHeartbeats 1600000 in
theorem read_l (g N : Nat) (n : List UInt8) (S : Nat → Prop) (D : Dsk) (w : World) (hd : DkS w g N S D) (ho : D.off = false) (hn : n.length ≤ 140737488355000) (hc : (pagesF D.now n).length ≤ 100000) :
    Calls Try.prog 27 #[.pointer (some ⟨g, 0, none⟩), .string ⟨n.toArray⟩] w (fun e w' => ∃ v, e = .returned (.tuple #[v, .int .i64 0]) ∧ Own w' w.heap.size v (logB (pagesF D.now n)) ∧ Below w.heap.size w w') := by
  have HD := Lib.hid hd
  have HC := Lib.hid (count_dks g N S D n w hd ho (by omega))
  obtain ⟨P, hP⟩ : ∃ x, pagesF D.now n = x := ⟨_, rfl⟩
  rw [hP] at hc HC
  have HP := Lib.hid hP
  rw [hP]
  have hc' : (P.length : Int) ≤ 100000 := by omega
  clear hd hP
  go_enter Try.func27, Try.ntmps27
  go_wp2_with (go_at_call 18; refine HC.out.mono ?_; rintro e w1 ⟨rfl, rfl⟩)
  go_loopw [6, 14] (fun b i wr => ∃ k : Nat, i = .int .i64 k ∧ k ≤ P.length ∧ Hid (Own wr w1.heap.size b (logB (P.take k))) ∧ Hid ((logB (P.take k)).length = 510 * k) ∧ Hid (Below w1.heap.size w1 wr)) (fun _ i _ => P.length - (intOf i).toNat)
  case atStart => exact ⟨0, rfl, by omega, nil_append_own _ _, rfl, Below.refl _ _⟩
  case round =>
    obtain ⟨k, rfl, hk, hown, hlen, hbl⟩ := hrel
    by_cases hlt : k < P.length
    · obtain ⟨q, hq⟩ : ∃ q, P[k]? = some q := ⟨P[k], List.getElem?_eq_getElem hlt⟩
      have hwf : (Lit.int .i64 (k : Int)).wf = true := WalkArith.wf_i64 (by omega)
      have HR := Lib.hid (read_dks g N S D n wr (k : Int) (HD.out.below hbl.out) (by omega) hwf)
      have hq2 : (pagesF D.now n)[k]? = some q := by rw [HP.out]; exact hq
      have HQ2 := Lib.hid hq2
      have hap := logB_append (P.take k) [q] (by rw [hlen.out, List.length_take]; omega)
      have htk : P.take (k + 1) = P.take k ++ [q] := by
        obtain ⟨h1, h2⟩ := List.getElem?_eq_some_iff.1 hq
        rw [List.take_succ_eq_append_getElem h1, h2]
      rw [logB_single] at hap
      have hbrk : (partP q).length < 510 → logB P = logB (P.take k) ++ partP q := fun hs => by
        obtain ⟨h1, h2⟩ := List.getElem?_eq_some_iff.1 hq
        have e : P = P.take k ++ (q :: P.drop (k + 1)) := by rw [← h2, List.getElem_cons_drop, List.take_append_drop]
        have := logB_append (P.take k) (q :: P.drop (k + 1)) (by rw [hlen.out, List.length_take]; omega)
        rw [← e, logB_one _ _ hs] at this
        exact this
      have HBRK := Lib.hid hbrk
      have HTK := Lib.hid htk
      have HAP := Lib.hid hap
      obtain ⟨L, hL⟩ : ∃ x, logB (P.take k) = x := ⟨_, rfl⟩
      rw [hL] at hown hlen HAP HBRK
      have hzb := hbl.out.size
      clear hwf hq hq2 hap htk hbrk hL
      go_wp2_with (first
        | (go_at_call 19; refine HR.out.mono ?_; intro e w2 hr; obtain ⟨hql, rfl, rfl⟩ := reads_in ho HQ2.out hr; have HP2 := Lib.hid (partOf_any wr.heap.size q _ (heap_alloc_new wr _) hql); have HB2 := Lib.hid ((Below.refl wr.heap.size wr).alloc (Nat.le_refl _) (.cells (vb q).toArray 79)); have HS2 := Lib.hid (sl_part (heap_alloc_new wr _) hql); have HPL := Lib.hid (partP_len hql); have htl := toldP_le q; clear hr)
        | (go_at_call 49; refine HP2.out.mono ?_; rintro e w3 ⟨rfl, m, rfl⟩)
        | (at_builtin; refine wp_append_sl rfl _ _ rfl w1.heap.size _ L rfl ?ho ?hB _ (wr.heap.size + 1) (partP q) rfl ?hn ?hm ?hK))
      case ho => exact hown.out.keep (below_drewN HB2.out m)
      case hB => simp; omega
      case hn => have := HS2.out; rw [asz] at this; exact this.below (below_drewN (Below.refl _ _) m)
      case hm => rw [hlen.out, HPL.out]; omega
      case hK =>
        intro v' w' ho' hb'
        have HO := Lib.hid ho'
        have HB := Lib.hid (hbl.out.trans ((below_drewN (HB2.out.mono hzb) m).trans hb'))
        clear ho' hb'
        by_cases hfull : toldP q < 510
        · have hF : (toldP q : Int) < 510 := by omega
          have HF := Lib.hid hfull
          clear hfull
          go_wp2
          go_ret2
          exact ⟨_, rfl, by rw [HBRK.out (by rw [HPL.out]; exact HF.out)]; exact HO.out, HB.out⟩
        · have hF : (510 : Int) ≤ toldP q := by omega
          have HF := Lib.hid hfull
          clear hfull
          go_wp2
          go_roundw
          case rel =>
            refine ⟨k + 1, by go_num, by omega, ?_, ?_, HB⟩
            · unfold Hid
              rw [HTK.out, HAP.out]
              exact HO.out
            · unfold Hid
              rw [HTK.out, HAP.out, List.length_append, hlen.out, HPL.out]
              have := HF.out
              omega
          case measure => simp [intOf]; omega
    · have hkP : k = P.length := by omega
      have htk : Hid (P.take k = P) := by unfold Hid; rw [hkP, List.take_length]
      clear hkP
      go_wp2
      go_ret2
      exact ⟨_, rfl, by have := hown.out; rw [htk.out] at this; exact this, hbl.out⟩

end Go.Proofs.Ytoajfnkhonegnaa.Cd
