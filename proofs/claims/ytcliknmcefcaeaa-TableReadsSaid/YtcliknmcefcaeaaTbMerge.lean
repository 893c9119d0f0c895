/-
  Merge: a table of tables. Conditions: not too many.
-/
import Derived.Test.YtcliknmcefcaeaaTbCopy
import Derived.Test.YtcliknmcefcaeaaTbOf
import Derived.Test.YtcliknmcefcaeaaTbGet
import Derived.Deep.LoopGhost
namespace Go.Proofs.Ytcliknmcefcaeaa.Cd
open Go.RowKit Go.Maps Go.Shelf Go.Sort

set_option maxRecDepth 100000 in
set_option maxHeartbeats 1600000 in
/-- The closure that Merge takes out by. -/
theorem gone_any (c : Wr) (k : Value) (w : World) : Calls Try.prog 45 #[k, .agg #[.string ⟨c.1.toArray⟩, .string ⟨c.2.1.toArray⟩, .bool c.2.2]] w fun e w' => e = .returned (.bool c.2.2) ∧ w' = w.alloc (.cells #[.string ⟨c.1.toArray⟩, .string ⟨c.2.1.toArray⟩, .bool c.2.2] 29) := by
  go_enter Try.func45, Try.ntmps45
  go_wp2_with fail
  go_ret
  exact ⟨rfl, rfl⟩

/-- What is there while those that are gone are taken out: of what has come those that aren't. -/
def midW (T : List Wr) (left : Lit → Bool) (x : List UInt8) : Option Wr := (getW T x).bind fun p => if p.2.2 && !left (.string x) then none else some p
theorem midW_start {T : List Wr} {left : Lit → Bool} (h : ∀ p ∈ T, left (.string p.1) = true) (x : List UInt8) : midW T left x = getW T x := by
  unfold midW
  cases hg : getW T x with
  | none => rfl
  | some p =>
    have := h p (getW_mem hg)
    rw [getW_key hg] at this
    simp [this]
theorem midW_end {T : List Wr} {left : Lit → Bool} (hs : SrtW T) (h : ∀ z, left z = false) (x : List UInt8) : midW T left x = getW (keepW true T) x := by
  rw [getW_keep hs]
  unfold midW
  simp [h]
theorem midW_step {T : List Wr} {left : Lit → Bool} {c : Wr} (hc : getW T c.1 = some c) (x : List UInt8) :
    midW T (fun z => left z && !z.sameKey (.string c.1)) x = if x = c.1 then (if c.2.2 then none else some c) else midW T left x := by
  unfold midW
  by_cases e : x = c.1
  · subst e
    rw [hc, if_pos rfl]
    simp [Lit.sameKey]
  · rw [if_neg e]
    have : (Lit.string x).sameKey (.string c.1) = false := by simpa [Lit.sameKey] using e
    simp [this]
def goneN (l : List Wr) : Nat := (l.filter fun w => w.2.2).length
theorem keep_len (T : List Wr) : (keepW true T).length + goneN T = T.length := by
  unfold keepW goneN
  induction T with
  | nil => rfl
  | cons p r ih =>
    simp only [Bool.not_true, Bool.false_or] at ih ⊢
    rw [List.filter_cons, List.filter_cons]
    cases hp : p.2.2 <;> simp <;> omega

set_option maxRecDepth 100000 in
set_option maxHeartbeats 3200000 in
theorem delete_tb (b : Nat) (T : List Wr) (w : World) (hd : TabM w b T) :
    Calls Try.prog 44 #[.map (some b), .func (.func 45) #[] #[]] w fun e w' => e = .returned (.tuple #[]) ∧ TabM w' b (keepW true T) ∧ w.grownBy w' (some b) := by
  have hbd := hd.lt
  have HD := Lib.hid hd
  obtain ⟨⟨D, hown, hsz, hat⟩, hsr, hfl, hft⟩ := hd
  have HAT := Lib.hid hat
  have HS := Lib.hid hsr
  have hst : ∀ p ∈ T, Maps.has D (.string p.1) = true := fun p hp => by
    have := MapF.has (M := wrK) (hat p.1 (hft p hp).key)
    rw [getW_of_mem hsr hp] at this
    exact this
  have HST : Hid (Gath T (Maps.has D) []) := Gath.start hst
  have hq0 : Hid (∀ x, wrK.ok x → ∀ z, D.atKey (wrK.lit x) z = ((midW T (Maps.has D) x).map wrK.dat).getD z) := fun x hx z => by rw [midW_start hst]; exact hat x hx z
  have hsz0 : Hid (Maps.size D = T.length) := hsz
  clear hat hsr hfl hft hst hsz
  go_enter Try.func44, Try.ntmps44
  go_wp2_with (at_range; refine wpList_range_own _ rfl _ 61 rfl 9 29 wrK.law wrK.under wrR b T.length D rfl hown ?_; intro w0 hrg0 hg0 hs0)
  go_frame
  have hG0 : Hid (w.grownBy w0 (some b)) := hg0.but _
  clear hs0 hg0
  go_loopw [4, 5] (fun _ _ wr => ∃ (left : Lit → Bool) (cnt : Nat) (xs : List Wr) (Dc : DataW Unit), wr.ranges Try.prog 9 wrR b w.heap.size T.length Dc left cnt ∧ Hid (Maps.size Dc + goneN xs = T.length) ∧ Hid (Gath T left xs) ∧ Hid (∀ x, wrK.ok x → ∀ z, Dc.atKey (wrK.lit x) z = ((midW T left x).map wrK.dat).getD z) ∧ Hid (w.grownBy wr (some b))) (fun _ _ wr => wr.rangeLeft b w.heap.size)
  case atStart => exact ⟨_, _, [], D, hrg0, by unfold Hid; rw [hsz0.out]; rfl, HST.out, hq0.out, hG0.out⟩
  case round =>
    obtain ⟨left, cnt, xs, Dc, hrg, hcs, hC, hQ, hG⟩ := hrel
    go_wp2_with (at_next; refine wpList_next_ranges _ rfl _ rfl 9 wrK.law wrR encStr wrV (fun key kl hk => by obtain ⟨x, hx, _⟩ := Maps.keyOf_str Try.underlying9 hk; exact ⟨x, hx⟩) (fun v y hv => by obtain ⟨c, rfl, _⟩ := wrR_inv hv; exact ⟨c, rfl⟩) b w.heap.size T.length _ _ _ rfl hrg ?_ ?_)
    · intro hc0 hl0
      have hxs := hC.out.all HS.out hl0
      have hfin : Hid (TabM wr b (keepW true T)) := by
        have hgn : goneN xs = goneN T := (hxs.filter _).length_eq
        have h1 := keep_len T
        have h2 := hcs.out
        have hlen : Maps.size Dc = (keepW true T).length := by omega
        have ho := ownsMap_tight hrg.owns
        rw [hlen] at ho
        exact ⟨⟨Dc, ho, hlen, fun x hx z => by rw [← midW_end HS.out hl0]; exact hQ.out x hx z⟩, keep_srt HD.out.2.1 _, keep_flat HD.out.2.2.1 _, fun p hp => HD.out.2.2.2 p (List.mem_filter.1 hp).1⟩
      clear hxs hQ hcs
      go_wp2_with fail
      go_end0
      exact ⟨rfl, hfin.out, hG.out⟩
    · intro x c kl yd yp w2 cnt2 hkey hlk hv hat2 hrg2 hlt hg2 hs2 hen
      obtain ⟨x', ex, rfl, hwx⟩ := Maps.keyOf_str Try.underlying9 hkey
      obtain rfl : x = x' := encStr_inj ex
      have hcT : c ∈ T ∧ c.1 = x := by
        rw [wrR_val] at hv
        simp only [Option.some.injEq, Prod.mk.injEq] at hv
        obtain ⟨rfl, _⟩ := hv
        have hq := hQ.out x hwx
        have h1 := (hat2 (.lit (.bool true))).symm.trans (hq (.lit (.bool true)))
        have h2 := (hat2 (.lit (.bool false))).symm.trans (hq (.lit (.bool false)))
        cases hm : midW T left x with
        | none => rw [hm] at h1 h2; rw [h1] at h2; cases h2
        | some p =>
          rw [hm] at h1
          have e2 := wrD_inj (show wrD c = wrD p from h1)
          subst e2
          unfold midW at hm
          cases hg : getW T x with
          | none => rw [hg] at hm; cases hm
          | some q =>
            rw [hg] at hm
            have : q = c := by
              simp only [Option.bind_some] at hm
              split at hm
              · cases hm
              · injection hm
            subst this
            exact ⟨getW_mem hg, getW_key hg⟩
      obtain ⟨hcT, hcx⟩ := hcT
      subst hcx
      have hgc := getW_of_mem HS.out hcT
      have hC2 := Lib.hid (hC.out.step HS.out hcT hlk)
      have hz : w.heap.size ≤ wr.heap.size := hG.out.size
      have hgn : goneN (xs ++ [c]) = goneN xs + if c.2.2 = true then 1 else 0 := by
        unfold goneN
        rw [List.filter_append, List.length_append]
        cases hc2 : c.2.2 <;> simp [hc2]
      have hgw := hG.out.andThen hg2 (fun j e => by injection e with e; exact .inl (by omega))
      have hhas : Maps.has Dc (.string c.1) = true := by
        have := MapF.has (M := wrK) (q := midW T left) (hQ.out c.1 hwx)
        have hm : midW T left c.1 = some c := by unfold midW; rw [hgc, Option.bind_some, hlk]; simp
        rw [hm] at this
        exact this
      have htd := hrg2.owns.tidy wrK.law
      have hsd : Maps.size (Dc.del (.string c.1)) + 1 = Maps.size Dc := by
        have := Maps.size_del (k := .string c.1) htd
        rw [hhas, if_pos rfl] at this
        exact this
      have HGC := Lib.hid hgc
      have HGN := Lib.hid hgn
      have HSD := Lib.hid hsd
      have HGW := Lib.hid hgw
      have HK := Lib.hid hkey
      have HWX := Lib.hid hwx
      have HLK := Lib.hid hlk
      have hms : Hid (cnt2 < wr.rangeLeft b w.heap.size) := by unfold Hid; rw [hrg.left_eq]; exact hlt
      have hrg3 := (hrg2.kept (World.grownBy_alloc w2 (.cells #[.string ⟨c.1.toArray⟩, .string ⟨c.2.1.toArray⟩, .bool c.2.2] 29) none) (by simp) (by simp)).kept (World.grownBy_alloc (w2.alloc (.cells #[.string ⟨c.1.toArray⟩, .string ⟨c.2.1.toArray⟩, .bool c.2.2] 29)) (.cells #[.string ⟨c.1.toArray⟩, .string ⟨c.2.1.toArray⟩, .bool c.2.2] 29) none) (by simp) (by simp)
      have hg3 := (hgw.andThen (World.grownBy_alloc w2 (.cells #[.string ⟨c.1.toArray⟩, .string ⟨c.2.1.toArray⟩, .bool c.2.2] 29) none) (fun j e => by cases e)).andThen (World.grownBy_alloc (w2.alloc (.cells #[.string ⟨c.1.toArray⟩, .string ⟨c.2.1.toArray⟩, .bool c.2.2] 29)) (.cells #[.string ⟨c.1.toArray⟩, .string ⟨c.2.1.toArray⟩, .bool c.2.2] 29) none) (fun j e => by cases e)
      have CG := fun W => Lib.hid (gone_any c (.string ⟨c.1.toArray⟩) W)
      have HRG3 := Lib.hid hrg3
      have HG3 := Lib.hid hg3
      clear hs2 hv hat2 hkey hlk hcT hrg hrg2 hC hG hg2 hlt hgc hgn hgw hhas htd hsd hrg3 hg3 hwx
      unfold wrV at hen ⊢
      obtain ⟨go, hgo⟩ : ∃ g, c.2.2 = g := ⟨_, rfl⟩
      cases go
      · have hq2 : Hid (∀ x, wrK.ok x → ∀ z, Dc.atKey (wrK.lit x) z = ((midW T (fun z => left z && !z.sameKey (.string c.1)) x).map wrK.dat).getD z) := fun x hx z => by
          rw [midW_step HGC.out, hgo]
          split
          · rename_i e
            have := hQ.out x hx z
            unfold midW at this
            rw [e, HGC.out, Option.bind_some, HLK.out] at this
            rw [e]
            simpa using this
          · exact hQ.out x hx z
        have hcs2 : Hid (Maps.size Dc + goneN (xs ++ [c]) = T.length) := by have := hcs.out; unfold Hid; rw [HGN.out, hgo]; exact this
        clear hQ hcs HGN HSD
        rw [hgo] at hen HRG3 HG3 CG ⊢
        go_wp2_with (go_at_call 45; refine (CG _).out.mono ?_; rintro e w3 ⟨rfl, h3⟩; obtain rfl := h3)
        go_roundw
        case rel => exact ⟨_, cnt2, xs ++ [c], Dc, HRG3.out, hcs2, hC2, hq2, HG3.out⟩
        case measure => rw [HRG3.out.left_eq]; exact hms.out
      · have hq2 : Hid (∀ x, wrK.ok x → ∀ z, (Dc.del (.string c.1)).atKey (wrK.lit x) z = ((midW T (fun z => left z && !z.sameKey (.string c.1)) x).map wrK.dat).getD z) := fun x hx z => by
          rw [midW_step HGC.out, hgo]
          split
          · rename_i e
            subst e
            rw [show (wrK.lit c.1) = .string c.1 from rfl, Maps.atKey_del_same]
            rfl
          · rename_i e
            have hne : wrK.lit x ≠ wrK.lit c.1 := fun hl => e (wrK.lit_one hx HWX.out hl)
            exact Eq.trans (Maps.atKey_del_other (D := Dc) hne _) (hQ.out x hx z)
        have hcs2 : Hid (Maps.size (Dc.del (.string c.1)) + goneN (xs ++ [c]) = T.length) := by have h1 := hcs.out; have h2 := HSD.out; unfold Hid; rw [HGN.out, hgo, if_pos rfl]; omega
        clear hQ hcs HGN HSD
        rw [hgo] at hen HRG3 HG3 CG ⊢
        go_wp2_with (first
          | (go_at_call 45; refine (CG _).out.mono ?_; rintro e w3 ⟨rfl, h3⟩; obtain rfl := h3)
          | (at_delete; refine wpList_delete_ranges _ rfl _ _ 61 9 rfl 29 wrK.law wrK.under wrR b w.heap.size T.length _ _ _ rfl HRG3.out _ _ rfl HK.out ?_; intro w5 cnt5 hrg5 hle hturn; go_frame))
        rw [strike_twice] at hrg5
        have HRG5 := Lib.hid hrg5
        have HG5 := Lib.hid (HG3.out.andThen hturn.grown (fun j hj => .inr hj))
        clear hrg5 hturn
        go_roundw
        case rel => exact ⟨_, cnt5, xs ++ [c], _, HRG5.out, hcs2, hC2, hq2, HG5.out⟩
        case measure => rw [HRG5.out.left_eq]; exact Nat.lt_of_le_of_lt hle hms.out

/-- A slice value that reads as pointers to these tables. -/
def TabsIn (w : World) (B : Nat) (v : Value) (Ts : List (List Wr)) : Prop :=
  ∃ A c, v = .slice A Ts.length c ∧ Ts.length ≤ c ∧ c ≤ maxLen ∧
    (0 < Ts.length → ∃ b off, A = some ⟨b, off, none⟩ ∧ b < B ∧ ∀ (i : Nat) T, Ts[i]? = some T → ∃ u, TabV w u T ∧ w.cell? ⟨b, off + i, none⟩ = some u)
section
variable {w w' : World} {B : Nat} {v : Value} {Ts : List (List Wr)}
theorem TabsIn.below (h : TabsIn w B v Ts) (hB : B ≤ w.heap.size) (hb : Below w.heap.size w w') : TabsIn w' B v Ts := by
  obtain ⟨A, c, h1, h2, h3, h5⟩ := h
  refine ⟨A, c, h1, h2, h3, fun hp => ?_⟩
  obtain ⟨b, off, e, hb1, hc⟩ := h5 hp
  refine ⟨b, off, e, hb1, fun i T hi => ?_⟩
  obtain ⟨u, h6, h7⟩ := hc i T hi
  exact ⟨u, h6.below hb, (hb.cell (p := ⟨b, off + i, none⟩) (Nat.lt_of_lt_of_le hb1 hB)).trans h7⟩
theorem TabsIn.len (h : TabsIn w B v Ts) : ∃ A c, v = .slice A Ts.length c ∧ Ts.length ≤ c ∧ c ≤ 9223372036854775807 := by
  obtain ⟨A, c, h1, h2, h3, _⟩ := h
  exact ⟨A, c, h1, h2, h3⟩
theorem TabsIn.at {A : Option Addr} {n c : Nat} (h : TabsIn w B (.slice A n c) Ts) {k : Nat} {T : List Wr} (hk : Ts[k]? = some T) :
    ∃ b off u, A = some ⟨b, off, none⟩ ∧ b < B ∧ TabV w u T ∧ w.cell? ⟨b, off + k, none⟩ = some u := by
  obtain ⟨A0, c0, e, _, _, h5⟩ := h
  injection e with e1 e2 e3
  have hlt := (List.getElem?_eq_some_iff.1 hk).1
  obtain ⟨b, off, e, hB, hc⟩ := h5 (by omega)
  obtain ⟨u, h6, h7⟩ := hc k T hk
  exact ⟨b, off, u, e1.trans e, hB, h6, h7⟩
end
theorem ofW_flat_take {Ts : List (List Wr)} {k : Nat} {T : List Wr} (h : Ts[k]? = some T) : ofW (Ts.take (k + 1)).flatten = ofFrom (ofW (Ts.take k).flatten) T := by
  obtain ⟨hk, rfl⟩ := List.getElem?_eq_some_iff.1 h
  rw [List.take_succ_eq_append_getElem hk, List.flatten_append]
  unfold ofW
  rw [ofFrom_append]
  simp
theorem flatG_take_len {Ts : List (List Wr)} {k : Nat} {T : List Wr} (h : Ts[k]? = some T) : (Ts.take k).flatten.length + T.length ≤ Ts.flatten.length := by
  obtain ⟨hk, rfl⟩ := List.getElem?_eq_some_iff.1 h
  have h1 : Ts.flatten.length = ((Ts.take k).flatten ++ (Ts.drop k).flatten).length := by rw [← List.flatten_append, List.take_append_drop]
  rw [h1, List.length_append, List.drop_eq_getElem_cons hk, List.flatten_cons, List.length_append]
  omega

/-- What Copy does, from a table's map, nil or not. -/
theorem copy_any (bd : Nat) (m : Value) (Td Ts : List Wr) (w : World) (hd : TabM w bd Td) (hm : MapV w m Ts) (hne : ∀ b, m = .map (some b) → bd ≠ b) (hl : Td.length + Ts.length ≤ 1099511627776) :
    Calls Try.prog 43 #[.map (some bd), m] w fun e w' => e = .returned (.tuple #[]) ∧ TabM w' bd (ofFrom Td Ts) ∧ w.grownBy w' (some bd) := by
  rcases hm with ⟨rfl, rfl⟩ | ⟨b, rfl, hM⟩
  · refine (copy_nil (some bd) w).mono ?_
    rintro e w' ⟨rfl, h⟩
    subst h
    exact ⟨rfl, hd.below ((Below.refl _ _).alloc (Nat.le_refl _) _), World.grownBy_alloc _ _ _⟩
  · exact copy_tb bd b Td Ts w hd hM (hne b rfl) hl

set_option maxRecDepth 100000 in
set_option maxHeartbeats 3200000 in
theorem tmerge_any (whole : Bool) (v : Value) (Ts : List (List Wr)) (w : World) (h : TabsIn w w.heap.size v Ts) (hl : Ts.flatten.length ≤ 1099511627776) :
    Calls Try.prog 19 #[.bool whole, v] w (Made w (mergeW whole Ts)) := by
  obtain ⟨A, c, rfl, hc1, hc2⟩ := h.len
  have H := Lib.hid h
  clear h
  have CO := Lib.hid (tof_any (.slice none 0 0) [] w (TbIn.nil _ _) (fun _ h => by cases h) (by simp))
  go_enter Try.func19, Try.ntmps19
  go_wp2_with (go_at_call 12; refine CO.out.mono ?_; rintro e w1 ⟨g, b, rfl, hg1, hg2, hgc, hb1, hbg, hbm, hb⟩; have HGC := Lib.hid hgc; have HBM := Lib.hid hbm; have HB := Lib.hid hb; clear hgc hbm hb)
  go_loopw [7, 11] (fun _ i wr => ∃ k : Nat, i = .int .i64 k ∧ k ≤ Ts.length ∧ Hid (TabM wr b (ofW (Ts.take k).flatten)) ∧ Hid (Below w.heap.size w wr) ∧ Hid (wr.cell? ⟨g, 0, none⟩ = some (.map (some b))) ∧ g < wr.heap.size) (fun _ i _ => Ts.length - (intOf i).toNat)
  case atStart => exact ⟨0, rfl, by omega, HBM.out, HB.out, HGC.out, hg2⟩
  case round =>
    obtain ⟨k, rfl, hk, hmp, hbl, hgc, hgl⟩ := hrel
    have c0 := hgc.out
    by_cases hlt : k < Ts.length
    · obtain ⟨T, hTk⟩ : ∃ T, Ts[k]? = some T := ⟨Ts[k], List.getElem?_eq_getElem hlt⟩
      obtain ⟨b2, off2, u, e2, hB2, hu, d0⟩ := H.out.at hTk
      subst e2
      have d0 : wr.cell? ⟨b2, off2 + k, none⟩ = some u := (hbl.out.cell (p := ⟨b2, off2 + k, none⟩) hB2).trans d0
      have CH := Lib.hid (held_was u T w wr.drew hu (hbl.out.trans (Below.refl _ _).drew))
      have hln := flatG_take_len hTk
      have htk := ofW_flat_take hTk
      have hlo := ofW_len (Ts.take k).flatten
      have CC : Hid (∀ m, MapV w m T → Calls Try.prog 43 #[.map (some b), m] wr.drew fun e w' => e = .returned (.tuple #[]) ∧ TabM w' b (ofW (Ts.take (k + 1)).flatten) ∧ wr.drew.grownBy w' (some b)) := fun m hm => by
        rw [htk]
        refine copy_any b m _ T wr.drew (hmp.out.below (Below.refl _ _).drew) (hm.below (hbl.out.trans (Below.refl _ _).drew)) (fun b' e => ?_) (by omega)
        rcases hm with ⟨h1, _⟩ | ⟨b3, h1, h2⟩
        · rw [h1] at e; cases e
        · rw [h1] at e
          injection e with e
          injection e with e
          have := h2.lt
          omega
      have HTK := Lib.hid hTk
      clear hu hln htk hlo hTk
      go_wp2_with fail
      go_region_held3 (fun W => W.cell? ⟨g, 0, none⟩ = some (.map (some b))) (first | exact c0 | assumption) (first
        | (go_at_call 33; refine CH.out.mono ?_; rintro e w5 ⟨m, rfl, hm, h5⟩; obtain rfl := h5; have CM := Lib.hid (CC.out m hm))
        | (go_at_call 43; refine CM.out.mono ?_; rintro e w6 ⟨rfl, hm6, hg6⟩; have HM6 := Lib.hid hm6; have HG6 := Lib.hid hg6; have c6 : w6.cell? ⟨g, 0, none⟩ = some (.map (some b)) := (World.cell?_of_block (a := ⟨g, 0, none⟩) (hg6.block g hgl (fun e => by injection e with e; omega))).trans c0; clear hm6 hg6))
      all_goals go_wp2_with fail
      all_goals go_roundw
      case rel => exact ⟨k + 1, by go_num, by omega, HM6.out, (hbl.out.trans (Below.refl _ _).drew).grown HG6.out hbl.out.size (fun j e => by injection e with e; omega), c6, Nat.lt_of_lt_of_le hgl HG6.out.size⟩
      case measure => simp [intOf]; omega
    · have hm2 : Hid (TabM wr b (ofW Ts.flatten)) := by
        have := hmp.out
        rw [List.take_of_length_le (by omega)] at this
        exact this
      clear hmp
      cases whole
      · go_wp2_with fail
        go_ret
        exact ⟨g, b, rfl, hg1, hgl, hgc.out, hb1, hbg, by unfold mergeW; rw [keep_false]; exact hm2.out, hbl.out⟩
      · have CD := Lib.hid (delete_tb b _ wr hm2.out)
        go_wp2_with (go_at_call 44; refine CD.out.mono ?_; rintro e w6 ⟨rfl, hm6, hg6⟩)
        have HG6 := Lib.hid hg6
        have HM6 := Lib.hid hm6
        clear hm6 hg6
        go_ret
        exact ⟨g, b, rfl, hg1, Nat.lt_of_lt_of_le hgl HG6.out.size, (World.cell?_of_block (a := ⟨g, 0, none⟩) (HG6.out.block g hgl (fun e => by injection e with e; omega))).trans hgc.out, hb1, hbg, HM6.out, hbl.out.grown HG6.out hbl.out.size (fun j e => by injection e with e; omega)⟩

end Go.Proofs.Ytcliknmcefcaeaa.Cd
