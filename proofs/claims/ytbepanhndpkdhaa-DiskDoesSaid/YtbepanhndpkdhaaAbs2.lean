/-
  The calls, in both tellings. Conditions: none.
-/
import Derived.Test.YtbepanhndpkdhaaAbs
namespace Go.Proofs.Ytbepanhndpkdhaa.Cd
open Go.RowKit

theorem getF_mem {l : List Fil} {f : Fil} (h : f ∈ l) : (getF l f.name).isSome = true := by
  cases hg : getF l f.name with
  | some x => rfl
  | none => exact absurd (List.mem_map.2 ⟨f, h, rfl⟩) (getF_none.1 hg)

section
variable {P : Pd} {D : Dsk} {N : Nat}

theorem Abs.count_le (h : Abs P D) (keep : Nat) : count (keeps keep 0 D.waits D.safe) ≤ count D.now :=
  Cd.count_le _ _ (keeps_once _ _ _ h.safe.once) h.now.once (fun n => keeps_short D.waits 0 D.safe (fun w hw e => (h.runs n).len.2 w hw e) (h.runs n).len.1)
theorem Abs.room_ok (h : Abs P D) (hn : P.nn ≤ P.room) (keep : Nat) : (playS (keepSel keep) 0 P.late (P.safe, P.ns)).2 ≤ P.room := by
  have h1 := (Like.play h.inj keep _ _ 0 _ _ h.waits h.safe).num
  have h2 := h.count_le keep
  have h3 : P.nn = count D.now := h.now.num
  omega

theorem Abs.lose (h : Abs P D) (hoff : P.off = false) (keep : Nat) : Abs (loseP P keep) (Cd.lose D keep) := by
  have hl : Cd.lose D keep = { D with now := there D.now (keeps keep 0 D.waits D.safe), safe := there D.now (keeps keep 0 D.waits D.safe), waits := [], off := true, fuse := 0 } := by
    unfold Cd.lose
    rw [if_neg (by rw [h.off, hoff]; simp)]
  rw [hl]
  have hk := Like.play h.inj keep _ _ 0 _ _ h.waits h.safe
  have ht := Like.there D.now _ hk (fun f hf => h.now.has f.name (getF_mem hf))
  refine ⟨h.room, rfl, h.acts, rfl, h.keep, h.inj, ht, ht, fun n hn => ?_, trivial, fun n => rfl⟩
  show (getF (there D.now (keeps keep 0 D.waits D.safe)) n).isSome = true
  cases hg : getF (keeps keep 0 D.waits D.safe) n with
  | some x => rw [there_some _ _ _ _ hg]; rfl
  | none => rw [there_none _ _ _ hg, if_pos (h.names n hn)]; rfl

theorem Abs.tic (h : Abs P D) : Abs (ticP P) (actD D) :=
  ⟨h.room, h.off, by show D.acts + 1 = P.acts + 1; rw [h.acts], by show D.fuse - 1 = P.fuse - 1; rw [h.fuse], h.keep, h.inj, h.now, h.safe, h.names, h.waits, h.runs⟩

theorem Abs.put (h : Abs P D) (hf : Fits P N) (s : List UInt8) (i : Nat) (p : List UInt8) (hi : i ≤ (pagesF D.now s).length) :
    Abs (putP P s i p) { D with now := putF D.now ⟨s, setP (pagesF D.now s) i p⟩, waits := D.waits ++ [⟨s, i, p⟩] } := by
  have hs : upd P.files s (some (numP P s)) s = some (numP P s) := by unfold upd; rw [if_pos rfl]
  have hother : ∀ n, n ≠ s → upd P.files s (some (numP P s)) n = P.files n := fun n e => by unfold upd; rw [if_neg e]
  obtain ⟨hinj, hnow, hsafe, hext⟩ : Inj (upd P.files s (some (numP P s))) ∧ Like (upd P.files s (some (numP P s))) (P.now, P.nn) D.now ∧ Like (upd P.files s (some (numP P s))) (P.safe, P.ns) D.safe ∧
      ∀ n k, P.files n = some k → upd P.files s (some (numP P s)) n = some k := by
    cases hfs : P.files s with
    | some k =>
      have e1 : numP P s = k := by unfold numP; rw [hfs]
      have e2 : upd P.files s (some k) = P.files := by
        funext n
        unfold upd
        by_cases e : n = s
        · rw [if_pos e, e, hfs]
        · rw [if_neg e]
      rw [e1, e2]
      exact ⟨h.inj, h.now, h.safe, fun n k hk => hk⟩
    | none =>
      have e1 : numP P s = P.made + 1 := by unfold numP; rw [hfs]
      have hfr := hf.fresh (P.made + 1) (by omega)
      rw [e1]
      refine ⟨fun a b k ha hb => ?_, h.now.named hfs hfr.1, h.safe.named hfs hfr.2, fun n k hk => ?_⟩
      · unfold upd at ha hb
        by_cases ea : a = s
        · by_cases eb : b = s
          · rw [ea, eb]
          · rw [if_pos ea] at ha
            rw [if_neg eb] at hb
            injection ha with ha
            have := hf.files b k hb
            omega
        · by_cases eb : b = s
          · rw [if_neg ea] at ha
            rw [if_pos eb] at hb
            injection hb with hb
            have := hf.files a k ha
            omega
          · rw [if_neg ea] at ha
            rw [if_neg eb] at hb
            exact h.inj a b k ha hb
      · unfold upd
        by_cases e : n = s
        · rw [e, hfs] at hk; cases hk
        · rw [if_neg e]; exact hk
  refine ⟨h.room, h.off, h.acts, h.fuse, h.keep, hinj, hnow.put hinj (x := ⟨numP P s, i, p⟩) (w := ⟨s, i, p⟩) ⟨hs, rfl, rfl⟩, hsafe, fun n hn => ?_, (h.waits.turn (fun w _ k hk => hext _ _ hk)).snoc ⟨hs, rfl, rfl⟩, fun n => ?_⟩
  · show (getF (putF D.now _) n).isSome = true
    rw [getF_put]
    by_cases e : n = s
    · rw [if_pos (by exact e)]; rfl
    · rw [if_neg (by exact e)]
      refine h.names n ?_
      have hn : (upd P.files s (some (numP P s)) n).isSome = true := hn
      rw [hother n e] at hn
      exact hn
  · have := (h.runs n).snoc (w := ⟨s, i, p⟩) (fun e => by rw [← e]; exact hi)
    show Runs n (D.waits ++ [⟨s, i, p⟩]) (pagesF D.safe n) (pagesF (putF D.now ⟨s, setP (pagesF D.now s) i p⟩) n)
    rw [pagesF_put]
    by_cases e : n = s
    · rw [if_pos (by exact e)]
      rw [if_pos (by exact e.symm), e] at this
      rw [e]
      exact this
    · rw [if_neg (by exact e)]
      rw [if_neg (by exact fun h => e h.symm)] at this
      exact this

theorem Abs.count (h : Abs P D) (hoff : P.off = false) (s : List UInt8) : countR P s = (pagesF D.now s).length := by
  unfold countR
  rw [if_neg (by rw [hoff]; simp)]
  cases hq : P.files s with
  | some k => simp only; rw [show P.now k = _ from h.now.pages s k hq]
  | none =>
    have : getF D.now s = none := by
      cases hg : getF D.now s with
      | none => rfl
      | some x =>
        have := h.now.has s (by rw [hg]; rfl)
        rw [hq] at this
        cases this
    rw [pagesF_none this]
    rfl
theorem Abs.free (h : Abs P D) : (P.room : Int) - P.nn = freeD D := by unfold freeD; rw [h.room, show P.nn = Cd.count D.now from h.now.num]
theorem Abs.is (h : Abs P D) (s : List UInt8) : (P.files s).isSome = (getF D.now s).isSome := by
  cases h1 : (P.files s).isSome
  · cases h2 : (getF D.now s).isSome
    · rfl
    · rw [h.now.has s h2] at h1; cases h1
  · rw [h.names s h1]
theorem Abs.counted (h : Abs P D) (hoff : P.off = false) (s : List UInt8) : countR P s ≤ P.nn := by
  rw [h.count hoff, show P.nn = Cd.count D.now from h.now.num]
  have := count_without h.now.once s
  omega

theorem write_abs (h : Abs P D) (hf : Fits P N) (s b : List UInt8) (i : Int) : Abs (writeR P s i b).1 (writeD D s i b).1 ∧ (writeR P s i b).2 = (writeD D s i b).2 := by
  unfold writeR writeD
  rw [h.off]
  by_cases h1 : P.off = true
  · rw [if_pos h1, if_pos h1]; exact ⟨h, rfl⟩
  · rw [if_neg h1, if_neg h1]
    have hoff : P.off = false := by simpa using h1
    by_cases h2 : 512 < b.length
    · rw [if_pos h2, if_pos h2]; exact ⟨h, rfl⟩
    · rw [if_neg h2, if_neg h2, h.count hoff, h.free]
      by_cases h3 : i < 0 ∨ ((pagesF D.now s).length : Int) < i
      · rw [if_pos h3, if_pos h3]; exact ⟨h, rfl⟩
      · rw [if_neg h3, if_neg h3]
        by_cases h4 : i = ((pagesF D.now s).length : Int) ∧ freeD D = 0
        · rw [if_pos h4, if_pos h4]; exact ⟨h, rfl⟩
        · rw [if_neg h4, if_neg h4]
          have hp := (h.put hf s i.toNat (pad b) (by omega)).tic
          unfold ends
          rw [h.fuse, h.keep]
          by_cases h5 : P.fuse = 1
          · rw [if_pos h5, if_pos h5]
            exact ⟨hp.lose hoff _, rfl⟩
          · rw [if_neg h5, if_neg h5]
            exact ⟨hp, rfl⟩

theorem write_room (h : Abs P D) (hf : Fits P N) (s : List UInt8) (i : Int) (hoff : P.off = false) (hi : 0 ≤ i ∧ i ≤ countR P s) (hfull : ¬ (i = countR P s ∧ (P.room : Int) - P.nn = 0)) (x : List UInt8) :
    (playS (keepSel P.keep) 0 (P.late ++ [⟨numP P s, i.toNat, x⟩]) (P.safe, P.ns)).2 ≤ P.room := by
  have hc := h.count hoff s
  have hp := h.put hf s i.toNat x (by omega)
  refine hp.room_ok ?_ P.keep
  show P.nn + (i.toNat + 1 - (P.now (numP P s)).length) ≤ P.room
  rw [count_num hf hoff]
  have := hf.nns
  omega

theorem act_abs (h : Abs P D) (s : List UInt8) (Q : Nat → Pd) (Q' : Dsk → Dsk) (hQ : ∀ k, P.files s = some k → Abs (Q k) (Q' (actD D))) :
    Abs (actR P s Q).1 (if (mayD D s).2 = 0 then (Q' (mayD D s).1, 0) else mayD D s).1 ∧ (actR P s Q).2 = (if (mayD D s).2 = 0 then (Q' (mayD D s).1, 0) else mayD D s).2 := by
  by_cases h1 : P.off = true
  · have hm : mayD D s = (D, 8) := by unfold mayD; rw [h.off, if_pos h1]
    unfold actR
    rw [hm, if_pos h1]
    exact ⟨h, rfl⟩
  · have hoff : P.off = false := by simpa using h1
    have his := h.is s
    unfold actR
    rw [if_neg h1]
    cases hq : P.files s with
    | none =>
      rw [hq] at his
      have hm : mayD D s = (D, 5) := by unfold mayD; rw [h.off, if_neg h1, ← his]; rfl
      rw [hm]
      exact ⟨h, rfl⟩
    | some k =>
      rw [hq] at his
      have hQ := hQ k hq
      by_cases h5 : P.fuse = 1
      · have hm : mayD D s = (Cd.lose (actD D) P.keep, 8) := by unfold mayD ends; rw [h.off, if_neg h1, ← his, h.fuse, if_pos h5, h.keep]; rfl
        rw [hm]
        simp only
        rw [if_pos h5]
        exact ⟨h.tic.lose hoff _, rfl⟩
      · have hm : mayD D s = (actD D, 0) := by unfold mayD ends; rw [h.off, if_neg h1, ← his, h.fuse, if_neg h5]; rfl
        rw [hm]
        simp only
        rw [if_neg h5]
        exact ⟨hQ, rfl⟩

theorem hit_pair {q : Nums} (hq : Inj q) {s : List UInt8} {k : Nat} (hs : q s = some k) (m : Nat) (x : Pw) (w : Wrt) (e : q w.name = some x.file ∧ x.spot = w.page ∧ x.data = w.data) : (!hitP k m x) = decide (w.name ≠ s ∨ w.page < m) := by
  obtain ⟨e1, e2, _⟩ := e
  unfold hitP
  rw [e2, ← decide_not]
  congr 1
  refine propext ⟨fun h => ?_, fun h h2 => ?_⟩
  · by_cases e : w.name = s
    · rw [e, hs] at e1
      injection e1 with e1
      exact .inr (Nat.lt_of_not_le fun h3 => h ⟨e1.symm, h3⟩)
    · exact .inl e
  · rcases h with h | h
    · exact h (hq _ _ k (by rw [e1, h2.1]) hs)
    · omega

theorem Like.same {q : Nums} {s : Pages × Nat} {l l' : List Fil} (h : Like q s l') (ho : Once l) (hp : ∀ m, pagesF l m = pagesF l' m) (hh : ∀ n, (getF l n).isSome = true → (q n).isSome = true) : Like q s l :=
  ⟨fun n k hk => by rw [hp]; exact h.pages n k hk, by rw [h.num]; exact count_same h.once ho (fun n => (hp n).symm), ho, hh⟩

theorem Like.settle {q : Nums} (hq : Inj q) {n : List UInt8} {f : Nat} (hn : q n = some f) {t : List (List UInt8)} : ∀ (late : List Pw) (waits : List Wrt) (i : Nat) (s : Pages × Nat) (l : List Fil), Pairs q late waits → Like q s l → Runs n waits (pagesF l n) t →
    ∃ l', Like q (playS (ofFile f) i late s) l' ∧ pagesF l' n = t ∧ ∀ m, m ≠ n → pagesF l' m = pagesF l m := by
  intro late
  induction late with
  | nil =>
    intro waits i s l hp h hr
    cases waits with
    | nil => exact ⟨l, h, hr, fun m _ => rfl⟩
    | cons w r => exact hp.elim
  | cons x r ih =>
    intro waits i s l hp h hr
    cases waits with
    | nil => exact hp.elim
    | cons w ws =>
      rw [playS]
      show ∃ l', Like q (playS (ofFile f) (i + 1) r (if decide (x.file = f) = true then putS s x else s)) l' ∧ _
      by_cases e : w.name = n
      · have hx : x.file = f := by
          have := hp.1.1
          rw [e, hn] at this
          injection this with this
          exact this.symm
        rw [if_pos (by simp [hx])]
        obtain ⟨l', h1, h2, h3⟩ := ih ws (i + 1) _ _ hp.2 (h.put hq hp.1) (by rw [pagesF_put, if_pos (by exact e.symm)]; have := (hr.1 e).2; rw [e]; exact this)
        refine ⟨l', h1, h2, fun m hm => ?_⟩
        rw [h3 m hm, pagesF_put, if_neg (by rw [e]; exact hm)]
      · have hx : ¬ x.file = f := fun hx => e (hq _ _ f (by rw [hp.1.1, hx]) hn)
        rw [if_neg (by simp [hx])]
        exact ih ws (i + 1) _ _ hp.2 h (hr.2 e)

theorem Abs.settle (h : Abs P D) {s : List UInt8} {k : Nat} (hs : P.files s = some k) : Abs (settleP P k) (syncs D s) := by
  obtain ⟨l', h1, h2, h3⟩ := Like.settle h.inj hs _ _ 0 _ _ h.waits h.safe (h.runs s)
  have hl : Like P.files (playS (ofFile k) 0 P.late (P.safe, P.ns)) (putF D.safe ⟨s, pagesF D.now s⟩) := h1.same (put_once h.safe.once _) (fun m => by
    rw [pagesF_put]
    by_cases e : m = s
    · rw [if_pos (by exact e), e, h2]
    · rw [if_neg (by exact e), h3 m e]) (fun n hn => by
    rw [getF_put] at hn
    by_cases e : n = s
    · rw [e, hs]; rfl
    · rw [if_neg (by exact e)] at hn
      exact h.safe.has n hn)
  refine ⟨h.room, h.off, h.acts, h.fuse, h.keep, h.inj, h.now, hl, h.names, h.waits.filter (hit_pair h.inj hs 0), fun n => ?_⟩
  show Runs n (dropW D.waits s 0) (pagesF (putF D.safe ⟨s, pagesF D.now s⟩) n) (pagesF D.now n)
  rw [pagesF_put]
  by_cases e : n = s
  · rw [if_pos (by exact e), e]
    refine Runs.none _ (fun w hw => ?_)
    have := (List.mem_filter.1 hw).2
    simp only [decide_eq_true_eq] at this
    exact this.elim id (fun h => absurd h (Nat.not_lt_zero _))
  · rw [if_neg (by exact e)]
    exact (h.runs n).filter (fun w hw => decide_eq_true (.inl (by rw [hw]; exact e)))

theorem Abs.shorten (h : Abs P D) {s : List UInt8} {k : Nat} (hs : P.files s = some k) (m : Nat) : Abs (shortenP P k m) (cuts D s m) := by
  refine ⟨h.room, h.off, h.acts, h.fuse, h.keep, h.inj, h.now.cut h.inj hs m, h.safe.cut h.inj hs m, fun n hn => ?_, h.waits.filter (hit_pair h.inj hs m), fun n => ?_⟩
  · show (getF (putF D.now _) n).isSome = true
    rw [getF_put]
    by_cases e : n = s
    · rw [if_pos (by exact e)]; rfl
    · rw [if_neg (by exact e)]; exact h.names n hn
  · show Runs n (dropW D.waits s m) (pagesF (putF D.safe ⟨s, _⟩) n) (pagesF (putF D.now ⟨s, _⟩) n)
    rw [pagesF_put, pagesF_put]
    by_cases e : n = s
    · rw [if_pos (by exact e), if_pos (by exact e), e]
      exact (h.runs s).cut
    · rw [if_neg (by exact e), if_neg (by exact e)]
      exact (h.runs n).filter (fun w hw => decide_eq_true (.inl (by rw [hw]; exact e)))

theorem Abs.drop (h : Abs P D) {s : List UInt8} {k : Nat} (hs : P.files s = some k) : Abs (dropP P s) (removes D s) := by
  have hd : dropP P s = { shortenP P k 0 with files := upd P.files s none } := by unfold dropP; rw [hs]
  rw [hd]
  refine ⟨h.room, h.off, h.acts, h.fuse, h.keep, fun a b j ha hb => h.inj a b j (upd_none ha) (upd_none hb), h.now.without h.inj hs, h.safe.without h.inj hs, fun n hn => ?_, (h.waits.filter (hit_pair h.inj hs 0)).turn (fun w hw j hj => ?_), fun n => ?_⟩
  · show (getF (Cd.without D.now s) n).isSome = true
    have hn : (upd P.files s none n).isSome = true := hn
    unfold upd at hn
    by_cases e : n = s
    · rw [if_pos e] at hn; cases hn
    · rw [if_neg e] at hn
      rw [getF_without, if_neg e]
      exact h.names n hn
  · have := (List.mem_filter.1 hw).2
    simp only [decide_eq_true_eq] at this
    have hne : w.name ≠ s := this.elim id (fun h => absurd h (Nat.not_lt_zero _))
    show upd P.files s none w.name = some j
    unfold upd
    rw [if_neg hne]
    exact hj
  · show Runs n (dropW D.waits s 0) (pagesF (Cd.without D.safe s) n) (pagesF (Cd.without D.now s) n)
    rw [pagesF_without, pagesF_without]
    by_cases e : n = s
    · rw [if_pos e, if_pos e]
      refine Runs.none _ (fun w hw => ?_)
      have := (List.mem_filter.1 hw).2
      simp only [decide_eq_true_eq] at this
      rw [e]
      exact this.elim id (fun h => absurd h (Nat.not_lt_zero _))
    · rw [if_neg e, if_neg e]
      exact (h.runs n).filter (fun w hw => decide_eq_true (.inl (by rw [hw]; exact e)))
end

theorem fresh_abs (room : Int) : Abs (freshP room) (newD room) :=
  ⟨rfl, rfl, rfl, rfl, rfl, (fun a b k ha => by cases ha), ⟨(fun n k h => by cases h), rfl, once_nil, (fun n h => by cases h)⟩, ⟨(fun n k h => by cases h), rfl, once_nil, (fun n h => by cases h)⟩, (fun n h => by cases h), trivial, fun n => rfl⟩

end Go.Proofs.Ytbepanhndpkdhaa.Cd
