/-
  PagerCommits answers true. Conditions: none.
-/
import Derived.Test.YtbaimgccepjdaaaGreatDoorG11
import Derived.Test.YtbaimgccepjdaaaGreatDoorG9
import Derived.Test.YtbaimgccepjdaaaGreatDoorG7
import Derived.Test.YtbaimgccepjdaaaGreatDoorG8
import Derived.Test.YtbaimgccepjdaaaGreatDoorG10
import Derived.BigQuiet
/-
  Pages with some written: what the numbers are, where the file can have them. Conditions: none.
-/
namespace Go.Proofs.YtbaimgccepjdaaaGreatDoor.Cd
open Go.RowKit

theorem fresh_bound : ∀ (ws : Pgs) (P : List (List UInt8)) (f : Nat), freshN P.length ws = some f → ∀ (k : Nat) (hk : k < ws.length), 0 ≤ ws[k].1 ∧ ws[k].1 ≤ ((laidP P (ws.take k)).length : Int)
  | [], _, _, _, _, hk => by simp at hk
  | p :: r, P, f, h, k, hk => by
    unfold freshN at h
    split at h
    · cases h
    · rename_i h1
      have h2 : 0 ≤ p.1 ∧ p.1 ≤ (P.length : Int) := by omega
      match k with
      | 0 => exact ⟨h2.1, by simpa [laidP] using h2.2⟩
      | k + 1 =>
        have hlen := setP_len P p.1.toNat (pad p.2)
        have hr : ∃ f', freshN (setP P p.1.toNat (pad p.2)).length r = some f' := by
          rw [hlen]
          split at h
          · rename_i e
            obtain ⟨f', h3, _⟩ := Option.map_eq_some_iff.1 h
            exact ⟨f', by rw [show max P.length (p.1.toNat + 1) = P.length + 1 by omega]; exact h3⟩
          · rename_i e
            exact ⟨f, by rw [show max P.length (p.1.toNat + 1) = P.length by omega]; exact h⟩
        obtain ⟨f', hf'⟩ := hr
        have := fresh_bound r (setP P p.1.toNat (pad p.2)) f' hf' k (by simpa using hk)
        simpa [laidP] using this

theorem laidP_snoc {P : List (List UInt8)} {ws : Pgs} {k : Nat} {p : Int × List UInt8} (h : ws[k]? = some p) : laidP P (ws.take (k + 1)) = setP (laidP P (ws.take k)) p.1.toNat (pad p.2) := by
  obtain ⟨hk, rfl⟩ := List.getElem?_eq_some_iff.1 h
  unfold laidP
  rw [List.take_succ_eq_append_getElem hk, List.foldl_append]
  rfl
theorem laidP_len {P : List (List UInt8)} {ws : Pgs} : (laidP P ws).length ≥ P.length := by
  unfold laidP
  induction ws generalizing P with
  | nil => exact Nat.le_refl _
  | cons p r ih =>
    have := ih (P := setP P p.1.toNat (pad p.2))
    have h2 := setP_len P p.1.toNat (pad p.2)
    simp only [List.foldl_cons]
    omega
theorem fresh_len : ∀ (ws : Pgs) (P : List (List UInt8)) (f : Nat), freshN P.length ws = some f → (laidP P ws).length = P.length + f
  | [], P, f, h => by
    injection h with h
    subst h
    rfl
  | p :: r, P, f, h => by
    unfold freshN at h
    split at h
    · cases h
    · rename_i h1
      have hlen := setP_len P p.1.toNat (pad p.2)
      show (laidP (setP P p.1.toNat (pad p.2)) r).length = _
      split at h
      · rename_i e
        obtain ⟨f', h3, h4⟩ := Option.map_eq_some_iff.1 h
        have := fresh_len r (setP P p.1.toNat (pad p.2)) f' (by rw [hlen, show max P.length (p.1.toNat + 1) = P.length + 1 by omega]; exact h3)
        rw [this]
        omega
      · rename_i e
        have := fresh_len r (setP P p.1.toNat (pad p.2)) f (by rw [hlen, show max P.length (p.1.toNat + 1) = P.length by omega]; exact h)
        rw [this]
        omega

/-- A page's bytes in the row, or one behind its end. -/
theorem setP_one {P : List (List UInt8)} (d : List UInt8) (x : List UInt8) : setP P P.length d = (P ++ [x]).set P.length d := by
  unfold setP
  rw [show P.length + 1 - P.length = 1 by omega]
  simp

theorem pOwnS_open {w : World} {B : Nat} {v : Value} {l : List (List UInt8)} (h : OwnS w B v l) (h0 : 0 < l.length) :
    ∃ g cap cur, v = .slice (some ⟨g, 0, none⟩) l.length cap ∧ B ≤ g ∧ g < w.heap.size ∧ w.heap[g]? = some (.cells cur 9 (0, 0)) ∧ l.length ≤ cap ∧ cap ≤ maxLen ∧ ∀ k, k < l.length → ∃ u, w.cell? ⟨g, k, none⟩ = some u := by
  have hlt := h.lt
  have hc := fun g hg => h.cells (g := g) hg
  rcases h.2 with ⟨_, h1⟩ | ⟨g, cap, cur, rfl, hb, hh, hn, hm, _, _⟩
  · omega
  · refine ⟨g, cap, cur, rfl, hb, (hlt g rfl).2, hh, hn, hm, fun k hk => ?_⟩
    have := hc g rfl k _ (vs_at l k hk)
    rw [Addr.add_lit, Nat.zero_add] at this
    exact ⟨_, this⟩
theorem pOwnS_stored {w : World} {B g cap : Nat} {l : List (List UInt8)} (h : OwnS w B (.slice (some ⟨g, 0, none⟩) l.length cap) l) (k : Nat) (s : List UInt8) :
    OwnS (w.setCell ⟨g, k, none⟩ (.string ⟨s.toArray⟩)) B (.slice (some ⟨g, 0, none⟩) l.length cap) (l.set k s) := by
  have h2 := (World.ownsRow.stored h k (.string ⟨s.toArray⟩)).1
  unfold OwnS
  rw [List.length_set]
  have e : vs (l.set k s) = (vs l).set k (.string ⟨s.toArray⟩) := by simp [vs, List.map_set]
  rw [e]
  exact h2
theorem powns_new (w : World) (B : Nat) (hB : B ≤ w.heap.size) : OwnS (w.alloc (.cells #[] 9)) B (.slice (some ⟨w.heap.size, 0, none⟩) 0 0) [] :=
  World.ownsRow_made (base := B) (e := 9) (size := 1) w #[] 0 hB (by simp) rfl

/-- append of one text: nothing turns but the row's own block. -/
theorem wp_append_one {w : World} {B : Nat} {v : Value} {l : List (List UInt8)} {ops : Array Oper} {rest : List Oper} {o : Oper} {a : Act} {Q : Exit → Act → World → Prop} (hgd : o.guard = none) (s x : Operand)
    (hop : o.op = .call { callee := .builtin .append, args := #[s, x], argTypes := #[31, 31] })
    (hs : a.eval s = v) (ho : OwnS w B v l) (hB : B ≤ w.heap.size) (b off c0 : Nat) (t : List UInt8) (hx : a.eval x = .slice (some ⟨b, off, none⟩) 1 c0) (hn : w.cell? ⟨b, off, none⟩ = some (.string ⟨t.toArray⟩)) (hm : l.length ≤ 8388608)
    (hK : ∀ v' w', OwnS w' B v' (l ++ [t]) → Below B w w' → w.grownBy w' v.ownBlock → wpList Tryz.prog ops Q rest (a.put o.dst v') w') : wpList Tryz.prog ops Q (o :: rest) a w := by
  refine wpList_plain hgd fun K hK' => ?_
  obtain ⟨i0, hi, hz0, hz1, hz2⟩ := info_parts info_str
  obtain ⟨v', w', hrun, r2, r3, _⟩ := run_append_own (P := Tryz.prog) w B 31 o.type 9 i0 _ 1 16 Tryz.underlying31 hi hz0 hz1 hz2 rfl (by omega) v l.length (vs l) ho ⟨b, off, none⟩ 1 c0 [.string ⟨t.toArray⟩] rfl
    (fun j u hu => by
      rw [Addr.add_lit]
      match j with
      | 0 => rw [← Option.some.inj (show some (Value.string ⟨t.toArray⟩) = some u from hu)]; exact hn
      | j + 1 => simp at hu)
    (fun u hu => by obtain rfl := List.mem_singleton.1 hu; rfl) (by simp only [maxLen]; omega) (by omega) hB
  unfold Oper.wp
  simp [execOp, hop, resolve, invoke, builtin, hs, hx, hrun, Result.andThen]
  refine hK' _ _ (hK v' w' ?_ ((Below.refl _ _).grown r3 hB (fun k hk => (ho.lt k hk).1)) r3)
  unfold OwnS
  rw [vs_append, List.length_append]
  exact r2

/-- A row of texts is no page's box. -/
theorem ownS_ne {w : World} {B pb : Nat} {v : Value} {l : List (List UInt8)} {xs : Array Value} {fr : Nat × Nat} (h : OwnS w B v l) (hb : w.heap[pb]? = some (.cells xs 54 fr)) : v.ownBlock ≠ some pb := by
  intro e
  rcases h.2 with ⟨rfl, _⟩ | ⟨g, cap, cur, rfl, _, hg, _⟩
  · cases e
  · have e : some g = some pb := e
    injection e with e
    subst e
    rw [hg] at hb
    injection hb with hb
    injection hb with _ hb
    exact absurd hb (by decide)

/-- A slice's length. -/
def slLen : Value → Nat | .slice _ n _ => n | _ => 0

set_option maxRecDepth 100000 in
set_option maxHeartbeats 3200000 in
theorem plaid_any (v u : Value) (P : List (List UInt8)) (ws : Pgs) (f : Nat) (w : World) (hs : Strs w w.heap.size v P) (hp : PgsIn w w.heap.size u ws) (hf : freshN P.length ws = some f) (hsh : ∀ p ∈ ws, p.2.length ≤ 512) (hl : ws.length ≤ 8) (hP : P.length ≤ 1000000) :
    Calls Tryz.prog 17 #[v, u] w (fun e w' => ∃ v', e = .returned v' ∧ OwnS w' w.heap.size v' (laidP P ws) ∧ Below w.heap.size w w') := by
  obtain ⟨A, c, rfl, hc1, hc2⟩ := hs.len
  have hc2 : c ≤ 9223372036854775807 := hc2
  obtain ⟨A2, c2, rfl, hd1, hd2⟩ := hp.len
  have HS := Lib.hid hs
  have HP := Lib.hid hp
  have HF := Lib.hid (fresh_bound ws P f hf)
  have HSH := Lib.hid hsh
  have hfl := Lib.hid (fresh_len ws P f hf)
  have hfw := Lib.hid (laid_len' ws hf)
  clear hs hp hf hsh
  have hl' : (ws.length : Int) ≤ 8 := by omega
  go_enter Tryz.func17, Tryz.ntmps17
  go_wp2_with (at_builtin; refine wp_append_strs rfl _ _ rfl w.heap.size _ [] rfl (powns_new w _ (Nat.le_refl _)) (by simp) _ _ P rfl (HS.out.below ((Below.refl _ _).alloc (Nat.le_refl _) _)) (by simp; omega) ?_)
  intro v2 w2 ho2 hb2
  have HB2 := Lib.hid (((Below.refl w.heap.size w).alloc (Nat.le_refl _) (.cells #[] 9)).trans hb2)
  have HO2 : Hid (OwnS w2 w.heap.size v2 P) := ho2
  clear ho2 hb2
  go_wp2_with fail
  go_loopw [5, 13] (fun o i wr => ∃ k : Nat, i = .int .i64 k ∧ k ≤ ws.length ∧ Hid (OwnS wr w.heap.size o (laidP P (ws.take k))) ∧ Hid (Below w.heap.size w wr)) (fun _ i _ => ws.length - (intOf i).toNat)
  case atStart => exact ⟨0, rfl, by omega, HO2.out, HB2.out⟩
  case round =>
    obtain ⟨k, rfl, hk, hown, hbl⟩ := hrel
    by_cases hlt : k < ws.length
    · obtain ⟨q, hqk⟩ : ∃ q, ws[k]? = some q := ⟨ws[k], List.getElem?_eq_getElem hlt⟩
      obtain ⟨b2, off2, c2', e2, _, _, hB2, hat⟩ := (HP.out.below hbl.out).at (by omega)
      injection e2 with e2 _ e3
      subst e2 e3
      obtain ⟨d0, d1⟩ := hat k q hqk
      obtain ⟨L, hL⟩ : ∃ x, laidP P (ws.take k) = x := ⟨_, rfl⟩
      have hbd := HF.out k hlt
      have hqe : ws[k] = q := by have := List.getElem?_eq_getElem hlt; rw [hqk] at this; injection this with this; exact this.symm
      rw [hqe, hL] at hbd
      obtain ⟨x, hx⟩ := Int.eq_ofNat_of_zero_le hbd.1
      have hxL : x ≤ L.length := by omega
      have HSN : Hid (laidP P (ws.take (k + 1)) = setP L x (pad q.2)) := by
        unfold Hid
        rw [laidP_snoc hqk, hL, hx]
        rfl
      have hq5 := HSH.out q (List.mem_of_getElem? hqk)
      have hLl : L.length ≤ 1000008 := by
        have h1 : (laidP P (ws.take k)).length ≤ (laidP P ws).length := by
          have h2 := laidP_len (P := laidP P (ws.take k)) (ws := ws.drop k)
          have h3 : laidP (laidP P (ws.take k)) (ws.drop k) = laidP P ws := by unfold laidP; rw [← List.foldl_append, List.take_append_drop]
          rw [h3] at h2
          exact h2
        rw [hL] at h1
        have := hfl.out
        have := hfw.out
        omega
      obtain ⟨pi, s⟩ := q
      have hx : pi = (x : Int) := hx
      subst hx
      dsimp only at d0 d1 hq5 HSN
      rw [hL] at hown
      clear hat hqk hbd hqe hL HO2 HB2
      obtain ⟨w3, hw3⟩ : ∃ y, wr.alloc (.cells #[.int .i64 x, .string ⟨s.toArray⟩] 54) = y := ⟨_, rfl⟩
      have hb3 : Below wr.heap.size wr w3 := by rw [← hw3]; exact (Below.refl _ _).alloc (Nat.le_refl _) _
      have hrw3 : w3.heap[wr.heap.size]? = some (.cells #[.int .i64 x, .string ⟨s.toArray⟩] 54) := by rw [← hw3]; exact heap_alloc_new _ _
      have hz3 : w3.heap.size = wr.heap.size + 1 := by rw [← hw3]; simp
      have HO3 := Lib.hid (hown.out.keep hb3)
      have HLT3 : Hid (∀ (o : Value) (g : Nat), o.ownBlock = some g → OwnS wr w.heap.size o L → g < wr.heap.size) := fun o g h1 h2 => (h2.lt g h1).2
      have HB3 := Lib.hid (hbl.out.trans (hb3.mono hbl.out.size))
      have HR3 := Lib.hid hrw3
      have hwz := hbl.out.size
      clear hb3 hrw3 hown hbl
      obtain ⟨pb, hpb⟩ : ∃ y, wr.heap.size = y := ⟨_, rfl⟩
      rw [hpb] at HR3
      have hz3' : w3.heap.size = pb + 1 := by omega
      go_wp2_with fail
      clear hw3 hz3
      go_loopw [5] (fun o wr => ∃ M : List (List UInt8), Hid (OwnS wr w.heap.size o M) ∧ Hid (M = L ∨ (M = L ++ [[]] ∧ x = L.length)) ∧ Hid (wr.heap[pb]? = some (.cells #[.int .i64 x, .string ⟨s.toArray⟩] 54)) ∧ Hid (Below w.heap.size w wr)) (fun o _ => x + 1 - slLen o)
      case atStart => exact ⟨L, HO3.out, .inl rfl, HR3.out, HB3.out⟩
      case round =>
        obtain ⟨M, hown, hM, hrow, hbl⟩ := hrel
        obtain ⟨A3, c3, rfl, hm1, hm2⟩ := hown.out.strs.len
        have hm2 : c3 ≤ 9223372036854775807 := hm2
        have cb0 : ∀ o : Obj, True := fun _ => trivial
        have c0 := cell_of_row _ pb 0 _ _ _ hrow.out
        have c1 := cell_of_row _ pb 1 _ _ _ hrow.out
        have c0 : wr.cell? ⟨pb, 0, none⟩ = some (.int .i64 x) := c0
        have c1 : wr.cell? ⟨pb, 1, none⟩ = some (.string ⟨s.toArray⟩) := c1
        by_cases hin : M.length ≤ x
        · have hML : M = L ∧ x = L.length := by
            rcases hM.out with h | ⟨h, h2⟩
            · subst h; exact ⟨rfl, by omega⟩
            · rw [h] at hin; simp at hin; omega
          have HML := Lib.hid hML
          have hin' : (M.length : Int) ≤ (x : Int) := by omega
          have hM8 : M.length ≤ 8388608 := by omega
          have hal := heap_alloc_new wr (.cells #[.string ⟨#[]⟩] 9)
          have HAL := Lib.hid hal
          clear hML hal hM
          have HBA : Hid (Below wr.heap.size wr (wr.alloc (.cells #[.string ⟨#[]⟩] 9))) := (Below.refl _ _).alloc (Nat.le_refl _) _
          have hpw : pb < wr.heap.size := (Array.getElem?_eq_some_iff.1 hrow.out).1
          have hbz := hbl.out.size
          go_wp2_with (at_builtin; refine wp_append_one rfl _ _ rfl rfl (hown.out.keep HBA.out) (by simp; omega) wr.heap.size 0 _ [] rfl (cell_of_row _ _ 0 _ _ _ HAL.out) hM8 ?_)
          intro v5 w5 hov hbv hgv
          have hne := ownS_ne (hown.out.keep HBA.out) ((HBA.out.block pb hpw).trans hrow.out)
          have HR5 := Lib.hid ((hgv.block pb (by simp; omega) (fun e => hne e.symm)).trans ((HBA.out.block pb hpw).trans hrow.out))
          have HB5 := Lib.hid ((hbl.out.trans (HBA.out.mono hbz)).trans hbv)
          have HO5 := Lib.hid hov
          clear hgv hne hbv hov
          obtain ⟨A5, c5, rfl, _, _⟩ := HO5.out.strs.len
          go_wp2_with fail
          go_roundw
          case rel => exact ⟨M ++ [[]], HO5.out, .inr ⟨by rw [HML.out.1], HML.out.2⟩, HR5.out, HB5.out⟩
          case measure => simp [slLen]; omega
        · have hin' : (x : Int) < (M.length : Int) := by omega
          have hset : Hid (M.set x (pad s) = setP L x (pad s)) := by
            unfold Hid
            rcases hM.out with h | ⟨h, h2⟩
            · subst h; rw [setP_in (by omega)]
            · rw [h, h2, setP_one]
          obtain ⟨g, cap, cur, e5, hgB, hgl, hgh, hgc, hgm, hgu⟩ := pOwnS_open hown.out (by omega)
          injection e5 with e5 _ e6
          subst e5 e6
          have hne : g ≠ pb := fun e => ownS_ne hown.out hrow.out (by rw [← e]; rfl)
          obtain ⟨uu, hfc⟩ := hgu x (by omega)
          have hff : wr.frozen? ⟨g, x, none⟩ = false := by simp [World.frozen?, hgh]
          have hpw : pb < wr.heap.size := (Array.getElem?_eq_some_iff.1 hrow.out).1
          have hbz := hbl.out.size
          have HSC : Hid (∀ (W : World) (y : Value) (j : Nat), (W.setCell ⟨g, x, none⟩ y).cell? ⟨pb, j, none⟩ = W.cell? ⟨pb, j, none⟩) := fun W y j => World.cell?_of_block (a := ⟨pb, j, none⟩) (heap_setCell_other _ _ _ _ (fun e => hne e.symm))
          have HFC := Lib.hid hfc
          have HFF := Lib.hid hff
          have HOM := Lib.hid hown.out
          have hxc : x < c3 := by omega
          clear hgu hgh hfc hff hown hrow HO3 HR3 HB3 HLT3 hM
          go_wp2_with fail
          go_region_held3 (fun W => W.cell? ⟨pb, 0, none⟩ = some (.int .i64 x) ∧ W.cell? ⟨pb, 1, none⟩ = some (.string ⟨s.toArray⟩)) (first | exact hS3 | exact ⟨c0, c1⟩ | exact ⟨(HSC.out _ _ _).trans hS3.1, (HSC.out _ _ _).trans hS3.2⟩ | assumption) (first
            | (go_at_call 26; refine (filled_any s hq5 _).mono ?_; rintro e w6 ⟨rfl, hb6⟩; have hb6 : Below wr.heap.size wr w6 := (Below.refl _ _).drew.trans hb6; have hS3 : w6.cell? ⟨pb, 0, none⟩ = some (.int .i64 x) ∧ w6.cell? ⟨pb, 1, none⟩ = some (.string ⟨s.toArray⟩) := ⟨(hb6.cell (p := ⟨pb, 0, none⟩) hpw).trans c0, (hb6.cell (p := ⟨pb, 1, none⟩) hpw).trans c1⟩; have hfc : w6.cell? ⟨g, x, none⟩ = some uu := (hb6.cell (p := ⟨g, x, none⟩) hgl).trans HFC.out; have hff : w6.frozen? ⟨g, x, none⟩ = false := (World.frozen?_of_block (a := ⟨g, x, none⟩) (hb6.block g hgl)).trans HFF.out; have HB6 := Lib.hid hb6; clear hb6))
          have hown7 := pOwnS_stored (HOM.out.keep HB6.out) x (pad s)
          have hb7 := hbl.out.trans (HB6.out.mono hbz)
          have HOW7 : Hid (OwnS (w6.setCell ⟨g, x, none⟩ (.string ⟨(pad s).toArray⟩)) w.heap.size (.slice (some ⟨g, 0, none⟩) M.length c3) (laidP P (ws.take (k + 1)))) := by
            unfold Hid
            rw [HSN.out, ← hset.out]
            exact hown7
          have HB7 : Hid (Below w.heap.size w (w6.setCell ⟨g, x, none⟩ (.string ⟨(pad s).toArray⟩))) :=
            ⟨hb7.os, hb7.tape, hb7.output, by simpa using hb7.size, fun j hj => (heap_setCell_other _ _ _ _ (fun e => by have e : j = g := e; omega)).trans (hb7.block j hj)⟩
          clear hown7 hb7
          go_wp2_with fail
          go_roundw
          case rel => exact ⟨k + 1, by go_num, by omega, HOW7.out, HB7.out⟩
          case measure => simp [intOf]; omega
    · have hd : Hid (laidP P (ws.take k) = laidP P ws) := by unfold Hid; rw [List.take_of_length_le (by omega)]
      go_wp2_with fail
      go_ret
      exact ⟨_, rfl, by rw [← hd.out]; exact hown.out, hbl.out⟩

end Go.Proofs.YtbaimgccepjdaaaGreatDoor.Cd

/-
  The reference's Record. Conditions: pages of at most 512 bytes.
-/
namespace Go.Proofs.YtbaimgccepjdaaaGreatDoor.Cd
open Go.RowKit

set_option maxRecDepth 100000 in
set_option maxHeartbeats 3200000 in
theorem precord_any (u : Value) (ws : Pgs) (w : World) (hp : PgsIn w w.heap.size u ws) (hsh : ∀ p ∈ ws, p.2.length ≤ 512) (hl : ws.length ≤ 8) :
    Calls Tryz.prog 28 #[u] w (Said w (recT ws)) := by
  obtain ⟨A2, c2, rfl, hd1, hd2⟩ := hp.len
  have hwf : wfP ws := by obtain ⟨_, _, _, _, _, h4, _⟩ := hp; exact h4
  have HP := Lib.hid hp
  have HSH := Lib.hid hsh
  have HWF := Lib.hid hwf
  have hl' : (ws.length : Int) ≤ 8 := by omega
  have HI := Lib.hid (ref_int_any (ws.length : Int) w (by omega) (by omega))
  rw [← recK_zero] at HI
  clear hp hsh hwf
  go_enter Tryz.func28, Tryz.ntmps28
  go_wp2_with (go_at_call 64; refine HI.out.mono ?_; rintro e w2 ⟨rfl, hb2⟩; have HB2 := Lib.hid hb2; clear hb2)
  go_loopw [3, 11] (fun o i wr => ∃ k : Nat, i = .int .i64 k ∧ k ≤ ws.length ∧ o = .string ⟨(recK ws k).toArray⟩ ∧ Hid (Below w.heap.size w wr)) (fun _ i _ => ws.length - (intOf i).toNat)
  case atStart => exact ⟨0, rfl, by omega, rfl, HB2.out⟩
  case round =>
    obtain ⟨k, rfl, hk, rfl, hbl⟩ := hrel
    by_cases hlt : k < ws.length
    · obtain ⟨q, hqk⟩ : ∃ q, ws[k]? = some q := ⟨ws[k], List.getElem?_eq_getElem hlt⟩
      obtain ⟨b2, off2, c2', e2, _, _, hB2, hat⟩ := (HP.out.below hbl.out).at (by omega)
      injection e2 with e2 _ e3
      subst e2 e3
      obtain ⟨d0, d1⟩ := hat k q hqk
      have hqe : ws[k] = q := by have := List.getElem?_eq_getElem hlt; rw [hqk] at this; injection this with this; exact this.symm
      have hq5 := HSH.out q (List.mem_of_getElem? hqk)
      have hqw := HWF.out q (List.mem_of_getElem? hqk)
      have hbq := bounds_i64 hqw
      have hk1 := recK_len HWF.out HSH.out (by omega) k hk
      have hz := enc_u64 _ (zig_lt hbq.1 hbq.2)
      have hlen := enc_u64 q.2.length (by omega)
      obtain ⟨r, hr⟩ : ∃ x, recK ws k = x := ⟨_, rfl⟩
      obtain ⟨r1, hr1⟩ : ∃ x, r ++ enc (zig q.1) = x := ⟨_, rfl⟩
      obtain ⟨tx, htx⟩ : ∃ x, enc q.2.length ++ q.2 = x := ⟨_, rfl⟩
      obtain ⟨r2, hr2⟩ : ∃ x, r1 ++ tx = x := ⟨_, rfl⟩
      have HK1 : Hid (recK ws (k + 1) = r2) := by
        unfold Hid
        rw [recK_succ hlt, hqe, hr, ← hr2, ← hr1, ← htx, recP, List.append_assoc]
      rw [hr] at hk1 ⊢
      have l1 : r1.length = r.length + (enc (zig q.1)).length := by rw [← hr1, List.length_append]
      have l2 : tx.length = (enc q.2.length).length + q.2.length := by rw [← htx, List.length_append]
      have ha1 := fun W => add_text W r (enc (zig q.1)) (by omega)
      have ha2 := fun W => add_text W r1 tx (by omega)
      rw [hr1] at ha1
      rw [hr2] at ha2
      have HRI := Lib.hid (fun W => ref_int_any q.1 W hbq.1 hbq.2)
      have HRT := Lib.hid (fun W => ref_text_of q.2 W (by omega))
      rw [htx] at HRT
      obtain ⟨z1, hz1⟩ : ∃ x, enc (zig q.1) = x := ⟨_, rfl⟩
      rw [hz1] at ha1 HRI
      have hbz := hbl.out.size
      have hpw : wr.heap.size < (wr.alloc (.cells #[.int .i64 q.1, .string ⟨q.2.toArray⟩] 54)).heap.size := by simp
      have hrw3 := heap_alloc_new wr (.cells #[.int .i64 q.1, .string ⟨q.2.toArray⟩] 54)
      have HB3 : Hid (Below w.heap.size w (wr.alloc (.cells #[.int .i64 q.1, .string ⟨q.2.toArray⟩] 54))) := hbl.out.alloc hbz _
      have HR3 := Lib.hid hrw3
      obtain ⟨w3, hw3⟩ : ∃ y, wr.alloc (.cells #[.int .i64 q.1, .string ⟨q.2.toArray⟩] 54) = y := ⟨_, rfl⟩
      rw [hw3] at HB3 HR3 hpw
      obtain ⟨pb, hpb⟩ : ∃ y, wr.heap.size = y := ⟨_, rfl⟩
      rw [hpb] at HR3 hpw
      have c0 : w3.cell? ⟨pb, 0, none⟩ = some (.int .i64 q.1) := cell_of_row _ pb 0 _ _ _ HR3.out
      have c1 : w3.cell? ⟨pb, 1, none⟩ = some (.string ⟨q.2.toArray⟩) := cell_of_row _ pb 1 _ _ _ HR3.out
      clear hat hqk hqe hr hr1 hr2 htx hz1 hrw3 hz hlen l1 l2 hk1 hbl hbz
      go_wp2_with fail
      clear hw3
      go_region_held3 (fun W => W.cell? ⟨pb, 0, none⟩ = some (.int .i64 q.1) ∧ W.cell? ⟨pb, 1, none⟩ = some (.string ⟨q.2.toArray⟩)) (first | exact hS4 | exact hS3 | exact ⟨c0, c1⟩ | assumption) (first
        | (go_at_call 64; refine (HRI.out _).mono ?_; rintro e w4 ⟨rfl, hb4⟩; have hb4 : Below w3.heap.size w3 w4 := (Below.refl _ _).drew.trans hb4; have hS3 : w4.cell? ⟨pb, 0, none⟩ = some (.int .i64 q.1) ∧ w4.cell? ⟨pb, 1, none⟩ = some (.string ⟨q.2.toArray⟩) := ⟨(hb4.cell (p := ⟨pb, 0, none⟩) hpw).trans c0, (hb4.cell (p := ⟨pb, 1, none⟩) hpw).trans c1⟩; have HB4 := Lib.hid hb4; clear hb4)
        | (go_at_call 62; refine (HRT.out _).mono ?_; rintro e w5 ⟨rfl, hb5⟩; have hb5 : Below w3.heap.size w3 w5 := HB4.out.trans (hb5.mono HB4.out.size); have hS4 : w5.cell? ⟨pb, 0, none⟩ = some (.int .i64 q.1) ∧ w5.cell? ⟨pb, 1, none⟩ = some (.string ⟨q.2.toArray⟩) := ⟨(hb5.cell (p := ⟨pb, 0, none⟩) hpw).trans c0, (hb5.cell (p := ⟨pb, 1, none⟩) hpw).trans c1⟩; have HB5 := Lib.hid hb5; clear hb5))
      all_goals go_wp2_with fail
      all_goals go_roundw
      all_goals first
        | (case rel => exact ⟨k + 1, by go_num, by omega, by rw [HK1.out], HB3.out.trans (HB5.out.mono HB3.out.size)⟩)
        | skip
      all_goals simp [intOf]
      all_goals omega
    · have hd : Hid (recK ws k = recT ws) := by unfold Hid; rw [← recK_all]; rw [show k = ws.length by omega]
      go_wp2_with fail
      go_ret
      exact ⟨by rw [hd.out]; rfl, hbl.out⟩

end Go.Proofs.YtbaimgccepjdaaaGreatDoor.Cd

/-
  wants: what a commit must answer. Conditions: a step that is played.
-/
namespace Go.Proofs.YtbaimgccepjdaaaGreatDoor.Cd
open Go.RowKit

theorem fresh_step {c fr : Nat} {q : Int × List UInt8} {r : Pgs} : (freshN (c + fr) (q :: r)).map (· + fr) = if q.1 < 0 ∨ ((c + fr : Nat) : Int) < q.1 then none else if q.1 = ((c + fr : Nat) : Int) then (freshN (c + (fr + 1)) r).map (· + (fr + 1)) else (freshN (c + fr) r).map (· + fr) := by
  rw [freshN]
  split
  · rfl
  · split
    · rw [Option.map_map, show c + fr + 1 = c + (fr + 1) by omega]
      congr 1
      funext x
      show x + 1 + fr = x + (fr + 1)
      omega
    · rfl

set_option maxRecDepth 100000 in
set_option maxHeartbeats 3200000 in
theorem pwants_any (u : Value) (ws : Pgs) (cn : Nat) (free : Int) (w : World) (hp : PgsIn w w.heap.size u ws) (hl : ws.length ≤ 8) (hcn : cn ≤ 1000000) (hfr : -1000000 ≤ free ∧ free ≤ 1000000) (hby : ∀ p ∈ ws, p.2.length ≤ 32768) :
    Calls Tryz.prog 14 #[u, .int .i64 cn, .int .i64 free] w (Gives (.int .i64 (wantsD cn free ws : Nat)) w) := by
  obtain ⟨A2, c2, rfl, hd1, hd2⟩ := hp.len
  have hwf : wfP ws := by obtain ⟨_, _, _, _, _, h4, _⟩ := hp; exact h4
  have HP := Lib.hid hp
  have HWF := Lib.hid hwf
  have HBY := Lib.hid hby
  obtain ⟨hf1, hf2⟩ := hfr
  have hl' : (ws.length : Int) ≤ 8 := by omega
  have hcn' : (cn : Int) ≤ 1000000 := by omega
  clear hp hwf hby
  go_enter Tryz.func14, Tryz.ntmps14
  go_wp2_with fail
  go_loopw [15] (fun i wr => ∃ k : Nat, i = .int .i64 k ∧ k ≤ ws.length ∧ Hid (∀ (j : Nat) p, j < k → ws[j]? = some p → p.2.length ≤ 512) ∧ Hid (Below w.heap.size w wr)) (fun i _ => ws.length - (intOf i).toNat)
  case atStart => exact ⟨0, rfl, by omega, (fun j p hj => by omega), Below.refl _ _⟩
  case round =>
    obtain ⟨k, rfl, hk, hsh, hbl⟩ := hrel
    by_cases hlt : k < ws.length
    · obtain ⟨q, hqk⟩ : ∃ q, ws[k]? = some q := ⟨ws[k], List.getElem?_eq_getElem hlt⟩
      obtain ⟨b2, off2, c2', e2, _, _, hB2, hat⟩ := (HP.out.below hbl.out).at (by omega)
      injection e2 with e2 _ e3
      subst e2 e3
      obtain ⟨d0, d1⟩ := hat k q hqk
      have HQ := Lib.hid hqk
      have hbz := hbl.out.size
      have hqs := HBY.out q (List.mem_of_getElem? hqk)
      clear hat hqk
      by_cases hlong : 512 < q.2.length
      · have hw : Hid (wantsD cn free ws = 3) := by
          unfold Hid wantsD
          rw [if_pos]
          unfold hasLong
          rw [List.any_eq_true]
          exact ⟨q, List.mem_of_getElem? HQ.out, by simpa using hlong⟩
        go_wp2_with fail
        go_ret
        exact ⟨by rw [hw.out]; rfl, hbl.out.alloc hbz _⟩
      · have hlong' : (q.2.length : Int) ≤ 512 := by omega
        go_wp2_with fail
        go_roundw
        case rel =>
          refine ⟨k + 1, by go_num, by omega, fun j p hj hp => ?_, hbl.out.alloc hbz _⟩
          by_cases e : j = k
          · subst e
            rw [HQ.out] at hp
            injection hp with hp
            rw [← hp]
            omega
          · exact hsh.out j p (by omega) hp
        case measure => simp [intOf]; omega
    · have hshort : Hid (∀ p ∈ ws, p.2.length ≤ 512) := fun p hp => by
        obtain ⟨j, hj, rfl⟩ := List.getElem_of_mem hp
        exact hsh.out j _ (by omega) (List.getElem?_eq_getElem hj)
      have hnl : Hid (hasLong ws = false) := by
        unfold Hid hasLong
        rw [List.any_eq_false]
        intro p hp
        have := hshort.out p hp
        simp
        omega
      clear hsh
      obtain ⟨w1, hw1⟩ : ∃ x, x = wr := ⟨_, rfl⟩
      subst hw1
      go_wp2_with fail
      go_loopw [7, 26] (fun o i wr => ∃ k fr : Nat, i = .int .i64 k ∧ o = .int .i64 fr ∧ k ≤ ws.length ∧ fr ≤ k ∧ Hid (freshN cn ws = (freshN (cn + fr) (ws.drop k)).map (· + fr)) ∧ Hid (Below w.heap.size w wr)) (fun _ i _ => ws.length - (intOf i).toNat)
      case atStart => exact ⟨0, 0, rfl, rfl, by omega, by omega, (by simp [Hid]), hbl.out⟩
      case round =>
        obtain ⟨k, fr, rfl, rfl, hk, hfk, hfr, hbl2⟩ := hrel
        by_cases hlt2 : k < ws.length
        · obtain ⟨q, hqk⟩ : ∃ q, ws[k]? = some q := ⟨ws[k], List.getElem?_eq_getElem hlt2⟩
          obtain ⟨b2, off2, c2', e2, _, _, hB2, hat⟩ := (HP.out.below hbl2.out).at (by omega)
          injection e2 with e2 _ e3
          subst e2 e3
          obtain ⟨d0, d1⟩ := hat k q hqk
          have hbz := hbl2.out.size
          have hst := hfr.out
          have hqe : ws[k] = q := by have := List.getElem?_eq_getElem hlt2; rw [hqk] at this; injection this with this; exact this.symm
          rw [List.drop_eq_getElem_cons hlt2, hqe, fresh_step] at hst
          have hbq := bounds_i64 (HWF.out q (List.mem_of_getElem? hqk))
          have hfk' : (fr : Int) ≤ 8 := by omega
          obtain ⟨qi, qs⟩ := q
          dsimp only at hst d0 d1 hbq
          clear hat hqk hqe hfr
          obtain ⟨hb1, hb2⟩ := hbq
          by_cases hbad : qi < 0 ∨ ((cn + fr : Nat) : Int) < qi
          · rw [if_pos hbad] at hst
            have hw : Hid (wantsD cn free ws = 1) := by
              unfold Hid wantsD
              rw [if_neg (by rw [hnl.out]; simp), hst]
            clear hst
            rcases hbad with h0 | h0
            · go_wp2_with fail
              go_ret
              exact ⟨by rw [hw.out]; rfl, hbl2.out.alloc hbz _⟩
            · have h1 : ¬ qi < 0 := by omega
              have h2 : (cn : Int) + fr < qi := by omega
              clear h0
              go_wp2_with fail
              go_ret
              exact ⟨by rw [hw.out]; rfl, hbl2.out.alloc hbz _⟩
          · rw [if_neg hbad] at hst
            have h1 : 0 ≤ qi := by omega
            have h2 : qi ≤ (cn : Int) + fr := by omega
            by_cases heq : qi = ((cn + fr : Nat) : Int)
            · rw [if_pos heq] at hst
              have HST := Lib.hid hst
              have h3 : (qi == (cn : Int) + fr) = true := by rw [beq_iff_eq]; omega
              clear hst hbad heq
              go_wp2_with fail
              go_roundw
              case rel => exact ⟨k + 1, fr + 1, by go_num, by go_num, by omega, by omega, HST.out, hbl2.out.alloc hbz _⟩
              case measure => simp [intOf]; omega
            · rw [if_neg heq] at hst
              have HST := Lib.hid hst
              have h3 : (qi == (cn : Int) + fr) = false := by rw [beq_eq_false_iff_ne]; omega
              clear hst hbad heq
              go_wp2_with fail
              go_roundw
              case rel => exact ⟨k + 1, fr, by go_num, rfl, by omega, by omega, HST.out, hbl2.out.alloc hbz _⟩
              case measure => simp [intOf]; omega
        · have hfs : Hid (freshN cn ws = some fr) := by
            have := hfr.out
            rw [List.drop_of_length_le (by omega)] at this
            unfold Hid
            rw [this]
            simp [freshN]
          clear hfr
          by_cases h0 : ws.length = 0
          · have hw : Hid (wantsD cn free ws = 0) := by
              unfold Hid wantsD
              rw [if_neg (by rw [hnl.out]; simp), hfs.out]
              simp only
              rw [if_pos (List.eq_nil_of_length_eq_zero h0)]
            have h0' : ((ws.length : Int) == 0) = true := by rw [h0]; rfl
            clear h0
            go_wp2_with fail
            go_ret
            exact ⟨by rw [hw.out]; rfl, hbl2.out⟩
          · have h0' : ((ws.length : Int) == 0) = false := by rw [beq_eq_false_iff_ne]; omega
            obtain ⟨r0, r1⟩ := recF_len HWF.out hshort.out (by omega)
            obtain ⟨m, hm⟩ : ∃ x, (recF ws).length = x := ⟨_, rfl⟩
            have hw : Hid (wantsD cn free ws = if free < (pagesOf m + fr : Nat) then 7 else 0) := by
              unfold Hid wantsD
              rw [if_neg (by rw [hnl.out]; simp), hfs.out]
              simp only
              rw [if_neg (fun e => h0 (by rw [e]; rfl)), hm]
            obtain ⟨rf, hrf⟩ : ∃ x, recF ws = x := ⟨_, rfl⟩
            rw [hrf] at hm r0 r1
            have HRF := Lib.hid hrf
            have hfr8 : (fr : Int) ≤ 8 := by omega
            have hm' : (m : Int) ≤ 4300 := by omega
            have hmr : ((rf.length : Nat) : Int) = m := by omega
            have HRC := Lib.hid (precord_any _ ws wr (HP.out.below hbl2.out |>.more hbl2.out.size) hshort.out hl)
            have hrt : (recT ws).length ≤ 4300 := by have := frm_ge (recT ws); have e : (frm (recT ws)).length = rf.length := by rw [← hrf]; rfl
                                                     omega
            have HFM := Lib.hid (fun W => rframe_any (recT ws) W (by omega))
            have hfe : frm (recT ws) = rf := hrf
            rw [hfe] at HFM
            clear h0 hrf hfe hm
            by_cases hroom : free < (m : Int) / 512 + ((m : Int) % 512 + 511) / 512 + fr
            · have hq7 : Hid (wantsD cn free ws = 7) := by unfold Hid; rw [hw.out, if_pos (by unfold pagesOf; omega)]
              go_wp2_with (first
                | (go_at_call 28; refine HRC.out.mono ?_; rintro e w5 ⟨rfl, hb5⟩; have HB5 := Lib.hid (hbl2.out.trans (hb5.mono hbl2.out.size)); clear hb5)
                | (go_at_call 27; refine (HFM.out _).mono ?_; rintro e w6 ⟨rfl, hb6⟩; have HB6 := Lib.hid (HB5.out.trans (hb6.mono HB5.out.size)); clear hb6))
              go_ret
              exact ⟨by rw [hq7.out]; rfl, HB6.out⟩
            · have hroom' : (m : Int) / 512 + ((m : Int) % 512 + 511) / 512 + fr ≤ free := by omega
              have hq7 : Hid (wantsD cn free ws = 0) := by unfold Hid; rw [hw.out, if_neg (by unfold pagesOf; omega)]
              go_wp2_with (first
                | (go_at_call 28; refine HRC.out.mono ?_; rintro e w5 ⟨rfl, hb5⟩; have HB5 := Lib.hid (hbl2.out.trans (hb5.mono hbl2.out.size)); clear hb5)
                | (go_at_call 27; refine (HFM.out _).mono ?_; rintro e w6 ⟨rfl, hb6⟩; have HB6 := Lib.hid (HB5.out.trans (hb6.mono HB5.out.size)); clear hb6))
              go_ret
              exact ⟨by rw [hq7.out]; rfl, HB6.out⟩

end Go.Proofs.YtbaimgccepjdaaaGreatDoor.Cd

/-
  PagerCommits answers true. Conditions: none.
-/
namespace Go.Proofs.YtbaimgccepjdaaaGreatDoor.Cd
open Go.RowKit

theorem recT_le {ws : Pgs} (hw : wfP ws) (hl : ∀ p ∈ ws, p.2.length ≤ 32768) (hn : ws.length ≤ 8) : pagesOf (recF ws).length ≤ 520 := by
  have h0 := enc_u64 (zig (ws.length : Int)) (zig_lt (by omega) (by omega))
  have h1 : ∀ l : Pgs, (∀ p ∈ l, (Lit.int .i64 p.1).wf = true ∧ p.2.length ≤ 32768) → ((l.map recP).flatten).length ≤ 32788 * l.length := by
    intro l
    induction l with
    | nil => intro _; simp
    | cons p r ih =>
      intro h
      have h2 := ih fun q hq => h q (List.mem_cons_of_mem _ hq)
      obtain ⟨h3, h4⟩ := h p List.mem_cons_self
      have hb := bounds_i64 h3
      have h5 := enc_u64 _ (zig_lt hb.1 hb.2)
      have h6 := enc_u64 p.2.length (by omega)
      simp only [List.map_cons, List.flatten_cons, List.length_append, recP, List.length_cons]
      omega
  have h2 := h1 ws fun p hp => ⟨hw p hp, hl p hp⟩
  have h3 : (recT ws).length ≤ 10 + 32788 * ws.length := by
    unfold recT
    rw [List.length_append]
    omega
  have h4 := frm_le (recT ws) (by omega)
  unfold recF pagesOf
  omega

theorem OwnS.off {T : Nat → Prop} {w w' : World} {B : Nat} {v : Value} {l : List (List UInt8)} (h : OwnS w B v l) (ha : Apart T w w') (hT : ∀ b, v.ownBlock = some b → ¬ T b) : OwnS w' B v l := by
  have hlt := h.lt
  refine ⟨h.1, ?_⟩
  rcases h.2 with h2 | ⟨g, cap, cur, rfl, hg, hh, r⟩
  · exact .inl h2
  · exact .inr ⟨g, cap, cur, rfl, hg, (ha.block g (hlt g rfl).2 (hT g rfl)).trans hh, r⟩

/-- Between two steps: the pager, its disk, the pages as they must be. -/
structure Mid (w : World) (g p r k : Nat) (D : Dsk) (v : Value) (wr : World) (T : Nat → Prop) : Prop where
  disk : DkS wr g (2200 * k) T D
  pager : PgrAt wr T p g [102]
  low : ∀ j, T j → w.heap.size ≤ j
  own : OwnS wr w.heap.size v (pagesF D.now [102])
  apart : ∀ b, v.ownBlock = some b → ¬ T b
  roomy : Roomy D r (pagesF D.now [102]).length
  fits : (pagesF D.now [102]).length ≤ r
  bare : Bare D [102]
  below : Below w.heap.size w wr

section
variable {w w4 w5 : World} {g p r k : Nat} {D : Dsk} {v val : Value} {e : Ending} {T : Nat → Prop} {ws : Pgs}
theorem Mid.over (h : Mid w g p r k D v w4 T) (hb : Below w4.heap.size w4 w5) : Mid w g p r k D v w5 T :=
  ⟨h.disk.below hb, h.pager.below hb, h.low, h.own.keep hb, h.apart, h.roomy, h.fits, h.bare, h.below.trans (hb.mono h.below.size)⟩

theorem Mid.same (h : Mid w g p r k D v w4 T) (hz : (commitD D [102] ws).2 ≠ 0) (hm : MakesD g (2200 * (k + 1)) T (commitD D [102] ws).1 val w4 e w5) : Mid w g p r (k + 1) D v w5 (since T w4 w5) := by
  have hD : (commitD D [102] ws).1 = D := by
    rcases h.roomy.commit h.bare ws with ⟨_, h1⟩ | ⟨_, _, _, _, h1, _⟩
    · exact h1
    · exact absurd h1 hz
  rw [hD] at hm
  refine ⟨hm.2.1, h.pager.apart hm.2.2, fun j hj => ?_, OwnS.off h.own hm.2.2 h.apart, fun b hb ht => ?_, h.roomy, h.fits, h.bare, h.below.trans (hm.2.2.low h.below.size h.low)⟩
  · rcases hj with hj | hj
    · exact h.low j hj
    · have := h.below.size; omega
  · rcases ht with ht | ht
    · exact h.apart b hb ht
    · have := (h.own.lt b hb).2; omega

theorem Mid.done (h : Mid w g p r k D v w4 T) (hz : (commitD D [102] ws).2 = 0) (hm : MakesD g (2200 * (k + 1)) T (commitD D [102] ws).1 val w4 e w5) :
    ∃ f, freshN (pagesF D.now [102]).length ws = some f ∧ pagesF (commitD D [102] ws).1.now [102] = laidP (pagesF D.now [102]) ws ∧ (∀ q ∈ ws, q.2.length ≤ 512) ∧
      OwnS w5 w.heap.size v (pagesF D.now [102]) ∧ ∀ v' w6, OwnS w6 w5.heap.size v' (laidP (pagesF D.now [102]) ws) → Below w5.heap.size w5 w6 → Mid w g p r (k + 1) (commitD D [102] ws).1 v' w6 (since T w4 w5) := by
  rcases h.roomy.commit h.bare ws with ⟨h1, _⟩ | ⟨f, h1, h2, h3, _, h4, h5, h6⟩
  · exact absurd hz h1
  · have hpg := (h6 [102] (by decide) (by decide)).1
    rw [if_pos rfl] at hpg
    have hlen := fresh_len ws _ f h2
    have hbz := h.below.size
    refine ⟨f, h2, hpg, hasLong_none h1, OwnS.off h.own hm.2.2 h.apart, fun v' w6 ho hb => ?_⟩
    have hlow : ∀ j, since T w4 w5 j → w.heap.size ≤ j := fun j hj => by
      rcases hj with hj | hj
      · exact h.low j hj
      · omega
    have hz5 := hm.2.2.size
    refine ⟨hm.2.1.below hb, (h.pager.apart hm.2.2).below hb, hlow, by rw [hpg]; exact ho.lower (by omega), fun b hb2 ht => ?_, by rw [hpg, hlen]; exact h4, ?_, h5, (h.below.trans (hm.2.2.low hbz h.low)).trans (hb.mono (by omega))⟩
    · have h7 := (ho.lt b hb2).1
      have h8 := hm.2.1.lt b ht
      omega
    · rw [hpg, hlen]
      by_cases hws : ws = []
      · subst hws
        injection h2 with h2
        have := h.fits
        omega
      · have := h3 hws
        omega
end

set_option maxRecDepth 100000 in
set_option maxHeartbeats 6400000 in
theorem pc_main (r : Nat) (v : Value) (l : List Stp) (w : World) (hr : r ≤ 60) (h : Steps w w.heap.size v l) (hok : ∀ p ∈ l, p.Ok) :
    Calls Tryz.prog 3 #[.int .i64 r, v] w (Gives (.bool true) w) := by
  obtain ⟨A, c, rfl, hm1, hm, _, hp⟩ := id h
  have hm : c ≤ 9223372036854775807 := hm
  have H := Lib.hid h
  have HOK := Lib.hid hok
  have HP := Lib.hid hp
  have hr' : (r : Int) ≤ 60 := by omega
  clear h hok hp
  go_enter Tryz.func3, Tryz.ntmps3
  go_wp2_with fail
  refine (palive_any w).mono ?_
  rintro e w1 ⟨rfl, hb1⟩
  have HB1 := Lib.hid hb1
  have HG := Lib.hid (great6_any _ l w1 (by obtain ⟨A', c', h1, h2, h3, h4, h5⟩ := H.out.below hb1; exact ⟨A', c', h1, h2, h3, h4, fun h0 => by obtain ⟨b, off, e, hB, hc⟩ := h5 h0; exact ⟨b, off, e, Nat.lt_of_lt_of_le hB hb1.size, fun i q hi => by obtain ⟨u, hu, hx⟩ := hc i q hi; exact ⟨u, hu.more hb1.size, hx⟩⟩⟩) HOK.out)
  clear hb1
  go_wp2_with fail
  refine HG.out.mono ?_
  rintro e w2 ⟨gr, rfl, hb2, hsm⟩
  have HB2 := Lib.hid (HB1.out.trans (hb2.mono HB1.out.size))
  clear hb2
  cases gr
  · have HSM := Lib.hid (hsm rfl)
    clear hsm
    go_wp2_with fail
    refine (new_dks (r : Int) w2 (by omega) (by omega)).mono ?_
    rintro e w3 ⟨g, S, rfl, hd, hS, hb3⟩
    have HD := Lib.hid hd
    have HS := Lib.hid hS
    have HB3 := Lib.hid (HB2.out.trans (hb3.mono HB2.out.size))
    have hz3 := hb3.size
    clear hd hS hb3
    go_wp2_with fail
    refine (open_bare g 0 [102] S (newD r) w3 HD.out rfl (by simp) (bare_new _ _)).mono ?_
    rintro e w4 ⟨rfl, hpg, hb4⟩
    obtain ⟨p, hp0⟩ : ∃ x, w3.heap.size = x := ⟨_, rfl⟩
    rw [hp0] at hpg ⊢
    have hz2 := HB2.out.size
    have HMID : Hid (Mid w g p r 0 (newD r) (.slice none 0 0) w4 S) := by
      refine Lib.hid ⟨HD.out.below hb4, hpg, fun j hj => by have := HS.out j hj; omega, OwnS.nil _ _, fun b hb => (by cases hb), new_roomy (by omega), Nat.zero_le _, bare_new _ _, HB3.out.trans (hb4.mono HB3.out.size)⟩
    clear hpg hb4
    go_wp2_with fail
    go_loopw [8, 40] (fun o i wr => ∃ (k : Nat) (D : Dsk) (T : Nat → Prop), i = .int .i64 k ∧ k ≤ l.length ∧ Hid (Mid w g p r k D o wr T)) (fun _ i _ => l.length - (intOf i).toNat)
    case atStart => exact ⟨0, newD r, S, rfl, by omega, HMID.out⟩
    case round =>
      obtain ⟨k, D, T, rfl, hk, hmid⟩ := hrel
      clear HMID HD HS HB3 HB1 HG
      have hl12 : l.length ≤ 12 := HSM.out.1
      by_cases hlt : k < l.length
      · obtain ⟨b, off, rfl, hB, hc⟩ := HP.out (by omega)
        obtain ⟨s, hsk⟩ : ∃ s, l[k]? = some s := ⟨l[k], List.getElem?_eq_getElem hlt⟩
        obtain ⟨u, hsl, hcu⟩ := hc k s hsk
        have hbl := hmid.out.below
        have hbz := hbl.size
        have hpg := hsl.below hbl
        obtain ⟨Au, cu, rfl, hcu1, hcu2⟩ := hsl.len
        have hcell : ∀ (j : Nat) x, (s.cells (.slice Au s.pages.length cu))[j]? = some x → wr.cell? ⟨b, off + k * 3 + j, none⟩ = some x := fun j x hx => (hbl.cell (p := ⟨b, off + k * 3 + j, none⟩) hB).trans (hcu j x hx)
        have c0 : wr.cell? ⟨b, off + k * 3, none⟩ = some (.slice Au s.pages.length cu) := hcell 0 _ rfl
        have c1 := hcell 1 _ rfl
        have c2 := hcell 2 _ rfl
        have hsmall := HSM.out.2 s (List.mem_of_getElem? hsk)
        have hwf : wfP s.pages := by obtain ⟨_, _, _, _, _, h4, _⟩ := hsl; exact h4
        obtain ⟨w5, hw5⟩ : ∃ x, wr.alloc (.cells #[.slice Au s.pages.length cu, .int .i64 s.fuse, .int .u64 s.keep] 35) = x := ⟨_, rfl⟩
        have hb5 : Below wr.heap.size wr w5 := by rw [← hw5]; exact (Below.refl _ _).alloc (Nat.le_refl _) _
        have hrow5 : w5.heap[wr.heap.size]? = some (.cells #[.slice Au s.pages.length cu, .int .i64 s.fuse, .int .u64 s.keep] 35) := by rw [← hw5]; exact heap_alloc_new _ _
        have f0 : w5.cell? ⟨wr.heap.size, 0, none⟩ = some (.slice Au s.pages.length cu) := cell_of_row _ _ 0 _ _ _ hrow5
        have f1 : w5.cell? ⟨wr.heap.size, 1, none⟩ = some (.int .i64 s.fuse) := cell_of_row _ _ 1 _ _ _ hrow5
        have f2 : w5.cell? ⟨wr.heap.size, 2, none⟩ = some (.int .u64 s.keep) := cell_of_row _ _ 2 _ _ _ hrow5
        clear hrow5
        have HM5 := Lib.hid (hmid.out.over hb5)
        have HW := Lib.hid (writes_any s (.slice Au s.pages.length cu) w5 (by obtain ⟨A', c', h1, h2, h3, h4, h5⟩ := hpg.below (hb5.mono hbz); exact ⟨A', c', h1, h2, h3, h4, fun h0 => by obtain ⟨b', off', e, hB', hc'⟩ := h5 h0; exact ⟨b', off', e, Nat.lt_of_lt_of_le hB' (Nat.le_trans hbz hb5.size), hc'⟩⟩) hsmall)
        obtain ⟨ws, hws⟩ : ∃ x, wsOf s.pages = x := ⟨_, rfl⟩
        have hwl : ws.length ≤ 8 := by rw [← hws]; exact Nat.le_trans (wsOf_len _) hsmall.1
        have HWF : Hid (wfP ws) := by rw [← hws]; exact wsOf_wf hwf
        have HWB : Hid (∀ q ∈ ws, q.2.length ≤ 32768) := by rw [← hws]; exact fun q hq => Nat.le_trans (bytesP_mem (wsOf_sub q hq)) hsmall.2
        rw [hws] at HW
        have hrec := Lib.hid (recT_le HWF.out HWB.out hwl)
        have hP60 : (pagesF D.now [102]).length ≤ 60 := Nat.le_trans hmid.out.fits hr
        have hfree := hmid.out.roomy.free
        have hans := hmid.out.roomy.answers hmid.out.bare ws
        obtain ⟨P, hP⟩ : ∃ x, pagesF D.now [102] = x := ⟨_, rfl⟩
        obtain ⟨A8, c8, rfl, hc81, hc82⟩ := HM5.out.own.strs.len
        rw [hP] at hP60 hfree hans hc81 ⊢
        have HPP := Lib.hid hP
        obtain ⟨fr, hfr⟩ : ∃ x, freeD D = x := ⟨_, rfl⟩
        rw [hfr] at hfree hans
        have HFR := Lib.hid hfr
        have HFE := Lib.hid hfree
        obtain ⟨wa, hwa⟩ : ∃ x, wantsD P.length fr ws = x := ⟨_, rfl⟩
        rw [hwa] at hans
        have HANS := Lib.hid hans
        have HWA := Lib.hid hwa
        have hf1 : -1000000 ≤ fr := by omega
        have hf2 : fr ≤ 1000000 := by omega
        clear hc hcell hcu hsl hpg hwf hsk hP hfr hfree hans hwa hb5 hbl hmid
        by_cases hwz : wa = 0
        · have hw0 : ((wa : Int) == 0) = true := by rw [hwz]; rfl
          have HZ := Lib.hid hwz
          clear hwz
          go_wp2_with (first
            | (go_at_call 13; refine HW.out.mono ?_; rintro e w6 ⟨mb, mv, rfl, hmp, hop, hb6⟩; have HMP := Lib.hid hmp; have HOP := Lib.hid hop; have HM6 := Lib.hid (HM5.out.over hb6); have HFD := Lib.hid (free_dks g (2200 * k) T D w6 HM6.out.disk); clear hmp hop hb6)
            | (go_at_call 15; refine HFD.out.mono ?_; rintro e w7 ⟨rfl, hb7⟩; rw [HFR.out]; have HM7 := Lib.hid (HM6.out.over hb7); have HOP7 := Lib.hid (HOP.out.keep hb7); have HMP7 := Lib.hid (HMP.out.below hb7); have HWN := Lib.hid (pwants_any mv ws P.length fr w7 HOP7.out.pgs hwl (by omega) ⟨hf1, hf2⟩ HWB.out); rw [HWA.out] at HWN; clear hb7)
            | (go_at_call 14; refine HWN.out.mono ?_; rintro e w8 ⟨rfl, hb8⟩; have HM8 := Lib.hid (HM7.out.over hb8); have HOP8 := Lib.hid (HOP7.out.keep hb8); have HMP8 := Lib.hid ((HMP7.out.below hb8).less (T := T) (fun j _ ht => HM5.out.disk.lt j ht)); have HCM := Lib.hid (commit_p p g (2200 * k) (2200 * (k + 1)) mb [102] ws T D w8 HM8.out.pager HM8.out.disk (by simp) HMP8.out (by omega) (by have := hrec.out; omega) (by omega)); rw [HANS.out] at HCM; clear hb8)
            | (go_at_call 16; refine HCM.out.mono ?_; intro e w9 hm9; obtain rfl := hm9.1; have HM9 := Lib.hid hm9; clear hm9))
          obtain ⟨f, d1, d2, d3, d4, d5⟩ := HM8.out.done (HANS.out.trans HZ.out) HM9.out
          rw [HPP.out] at d1 d2 d4 d5
          have HLD := Lib.hid (plaid_any (.slice A8 P.length c8) mv P ws f w9 (d4.strs) ((HOP8.out.off HM9.out.2.2 (fun j ht => HM5.out.disk.lt j ht)).pgs) d1 d3 hwl (by omega))
          have HD5 := Lib.hid d5
          have HD2 := Lib.hid d2
          clear d1 d2 d3 d4 d5
          go_wp2_with (go_at_call 17; refine HLD.out.mono ?_; rintro e w10 ⟨v2, rfl, ho10, hb10⟩; have HM10 := Lib.hid (HD5.out v2 w10 ho10 hb10); clear ho10 hb10)
          obtain ⟨D2, hD2⟩ : ∃ x, (commitD D [102] ws).1 = x := ⟨_, rfl⟩
          obtain ⟨T2, hT2⟩ : ∃ x, since T w8 w9 = x := ⟨_, rfl⟩
          rw [hD2, hT2] at HM10
          obtain ⟨P2, hP2⟩ : ∃ x, pagesF D2.now [102] = x := ⟨_, rfl⟩
          obtain ⟨A9, c9, rfl, h91, h92⟩ := HM10.out.own.strs.len
          rw [hP2] at h91 HM10 ⊢
          have h92 : c9 ≤ 9223372036854775807 := h92
          clear HD5 HD2 HLD hD2 hT2 HM9
          have HFE2 : Hid (freeD D2 = (r : Int) - (P2.length : Nat)) := by unfold Hid; rw [HM10.out.roomy.free, hP2]
          have HH := Lib.hid (phas_any p g (2200 * (k + 1)) [102] (.slice A9 P2.length c9) P2 T2 D2 w10 HM10.out.pager HM10.out.disk HM10.out.roomy.off (by simp) (by have := HM10.out.own.strs; rw [hP2] at this; exact this))
          rw [hP2, decide_eq_true rfl] at HH
          have hP2l : (P2.length : Int) ≤ 60 := by have h1 := HM10.out.fits; rw [hP2] at h1; omega
          clear hP2
          go_wp2_with (first
            | (go_at_call 18; refine HH.out.mono ?_; rintro e w11 ⟨rfl, hb11⟩; have HM11 := Lib.hid (HM10.out.over hb11); have HF2 := Lib.hid (free_dks g (2200 * (k + 1)) T2 D2 w11 HM11.out.disk); rw [HFE2.out] at HF2; clear hb11)
            | (go_at_call 15; refine HF2.out.mono ?_; rintro e w12 ⟨rfl, hb12⟩; have HM12 := Lib.hid (HM11.out.over hb12); clear hb12))
          go_roundw
          case rel => exact ⟨k + 1, D2, T2, by go_num, by omega, HM12.out⟩
          case measure => simp [intOf]; omega
        · have hw0 : ((wa : Int) == 0) = false := by rw [beq_eq_false_iff_ne]; omega
          have HZ := Lib.hid hwz
          clear hwz
          go_wp2_with (first
            | (go_at_call 13; refine HW.out.mono ?_; rintro e w6 ⟨mb, mv, rfl, hmp, hop, hb6⟩; have HMP := Lib.hid hmp; have HOP := Lib.hid hop; have HM6 := Lib.hid (HM5.out.over hb6); have HFD := Lib.hid (free_dks g (2200 * k) T D w6 HM6.out.disk); clear hmp hop hb6)
            | (go_at_call 15; refine HFD.out.mono ?_; rintro e w7 ⟨rfl, hb7⟩; rw [HFR.out]; have HM7 := Lib.hid (HM6.out.over hb7); have HOP7 := Lib.hid (HOP.out.keep hb7); have HMP7 := Lib.hid (HMP.out.below hb7); have HWN := Lib.hid (pwants_any mv ws P.length fr w7 HOP7.out.pgs hwl (by omega) ⟨hf1, hf2⟩ HWB.out); rw [HWA.out] at HWN; clear hb7)
            | (go_at_call 14; refine HWN.out.mono ?_; rintro e w8 ⟨rfl, hb8⟩; have HM8 := Lib.hid (HM7.out.over hb8); have HOP8 := Lib.hid (HOP7.out.keep hb8); have HMP8 := Lib.hid ((HMP7.out.below hb8).less (T := T) (fun j _ ht => HM5.out.disk.lt j ht)); have HCM := Lib.hid (commit_p p g (2200 * k) (2200 * (k + 1)) mb [102] ws T D w8 HM8.out.pager HM8.out.disk (by simp) HMP8.out (by omega) (by have := hrec.out; omega) (by omega)); rw [HANS.out] at HCM; clear hb8)
            | (go_at_call 16; refine HCM.out.mono ?_; intro e w9 hm9; obtain rfl := hm9.1; have HM9 := Lib.hid hm9; clear hm9))
          have HM10 := Lib.hid (HM8.out.same (fun e => HZ.out (HANS.out.symm.trans e)) HM9.out)
          obtain ⟨T2, hT2⟩ : ∃ x, since T w8 w9 = x := ⟨_, rfl⟩
          rw [hT2] at HM10
          clear HM9 hT2
          have hP2 := HPP.out
          rw [hP2] at HM10
          have HFE2 : Hid (freeD D = (r : Int) - (P.length : Nat)) := by unfold Hid; rw [HM10.out.roomy.free, hP2]
          have HH := Lib.hid (phas_any p g (2200 * (k + 1)) [102] (.slice A8 P.length c8) P T2 D w9 HM10.out.pager HM10.out.disk HM10.out.roomy.off (by simp) (by have := HM10.out.own.strs; rw [hP2] at this; exact this))
          rw [hP2, decide_eq_true rfl] at HH
          have hP2l : (P.length : Int) ≤ 60 := by have h1 := HM10.out.fits; rw [hP2] at h1; omega
          clear hP2
          go_wp2_with (first
            | (go_at_call 18; refine HH.out.mono ?_; rintro e w11 ⟨rfl, hb11⟩; have HM11 := Lib.hid (HM10.out.over hb11); have HF2 := Lib.hid (free_dks g (2200 * (k + 1)) T2 D w11 HM11.out.disk); rw [HFE2.out] at HF2; clear hb11)
            | (go_at_call 15; refine HF2.out.mono ?_; rintro e w12 ⟨rfl, hb12⟩; have HM12 := Lib.hid (HM11.out.over hb12); clear hb12))
          go_roundw
          case rel => exact ⟨k + 1, D, T2, by go_num, by omega, HM12.out⟩
          case measure => simp [intOf]; omega
      · go_wp2_with (first
          | (go_at_call 19; refine (pread_nil _ _).mono ?_; rintro e w5 ⟨rfl, rfl⟩)
          | (go_at_call 12; refine (popen_nil _ [102]).mono ?_; rintro e w6 ⟨rfl, hb6⟩; have HB6 := Lib.hid (hmid.out.below.trans (hb6.mono hmid.out.below.size)); clear hb6)
          | (go_at_call 16; refine (pcommit_nil _ _).mono ?_; rintro e w7 ⟨rfl, rfl⟩)
          | (go_at_call 20; refine (pcount_nil _).mono ?_; rintro e w8 ⟨rfl, rfl⟩))
        go_ret
        exact ⟨rfl, HB6.out⟩
  · go_wp2_with fail
    go_ret
    exact ⟨rfl, HB2.out⟩

set_option maxRecDepth 100000 in
set_option maxHeartbeats 1600000 in
/-- No room, or too much of it. -/
theorem pc_out (r : Int) (v : Value) (l : List Stp) (w : World) (hr1 : (Lit.int .i64 r).wf = true) (hr : r < 0 ∨ 60 < r) (h : Steps w w.heap.size v l) (hok : ∀ p ∈ l, p.Ok) :
    Calls Tryz.prog 3 #[.int .i64 r, v] w (Gives (.bool true) w) := by
  have H := Lib.hid h
  have HOK := Lib.hid hok
  obtain ⟨h1, h2⟩ := bounds_i64 hr1
  clear h hok hr1
  rcases hr with hr | hr
  all_goals
    go_enter Tryz.func3, Tryz.ntmps3
    go_wp2_with fail
    refine (palive_any w).mono ?_
    rintro e w1 ⟨rfl, hb1⟩
    have HB1 := Lib.hid hb1
    have HG := Lib.hid (great6_any v l w1 (by obtain ⟨A', c', h1, h2, h3, h4, h5⟩ := H.out.below hb1; exact ⟨A', c', h1, h2, h3, h4, fun h0 => by obtain ⟨b, off, e, hB, hc⟩ := h5 h0; exact ⟨b, off, e, Nat.lt_of_lt_of_le hB hb1.size, fun i q hi => by obtain ⟨u, hu, hx⟩ := hc i q hi; exact ⟨u, hu.more hb1.size, hx⟩⟩⟩) HOK.out)
    clear hb1
    go_wp2_with fail
    refine HG.out.mono ?_
    rintro e w2 ⟨gr, rfl, hb2, _⟩
    have HB2 := Lib.hid (HB1.out.trans (hb2.mono HB1.out.size))
    clear hb2
    cases gr
    all_goals
      go_wp2_with fail
      go_ret
      exact ⟨rfl, HB2.out⟩

theorem pc_walk (r : Int) (v : Value) (l : List Stp) (w : World) (hr1 : (Lit.int .i64 r).wf = true) (h : Steps w w.heap.size v l ∧ ∀ p ∈ l, p.Ok) :
    Calls Tryz.prog 3 #[.int .i64 r, v] w (Gives (.bool true) w) := by
  by_cases hr : r < 0 ∨ 60 < r
  · exact pc_out r v l w hr1 hr h.1 h.2
  · obtain ⟨n, rfl⟩ := Int.eq_ofNat_of_zero_le (show 0 ≤ r by omega)
    exact pc_main n v l w (by omega) h.1 h.2

end Go.Proofs.YtbaimgccepjdaaaGreatDoor.Cd

namespace Go.Proofs.YtbaimgccepjdaaaGreatDoor.PagerCommits
open Go.RowKit Go.Proofs.YtbaimgccepjdaaaGreatDoor.Cd

theorem walk (r : Int) (v : Value) (l : List Stp) (w : World) (hr1 : (Lit.int .i64 r).wf = true) (h : Cd.Steps w w.heap.size v l ∧ ∀ p ∈ l, p.Ok) : Calls Tryz.prog 3 #[.int .i64 r, v] w (Gives (.bool true) w) :=
  pc_walk r v l w hr1 h

end Go.Proofs.YtbaimgccepjdaaaGreatDoor.PagerCommits
