/-
  The document's Of and Merge. Conditions: not too many.
-/
import Derived.Test.YtcliknmcefcaeaaTbPut
namespace Go.Proofs.Ytcliknmcefcaeaa.Cd
open Go.RowKit Go.Sort

/-- What the document's calls answer: a new row. -/
def Row10 (w : World) (T : List Wr) (e : Ending) (w' : World) : Prop := ∃ v, e = .returned v ∧ OwnTb w' w.heap.size v T ∧ Below w.heap.size w w'

theorem ofW_lim {l : List Wr} {n : Nat} (h : l.length ≤ n) (k : Nat) : (ofW (l.take k)).length ≤ n := by
  have := ofW_len (l.take k)
  rw [List.length_take] at this
  omega

set_option maxRecDepth 100000 in
set_option maxHeartbeats 1600000 in
theorem rof_any (v : Value) (l : List Wr) (w : World) (h : TbIn w w.heap.size v l) (hl : l.length ≤ 1073741824) :
    Calls Try.prog 13 #[v] w (Row10 w (ofW l)) := by
  obtain ⟨A, c, rfl, hm1, hm2⟩ := h.len
  have H := Lib.hid h
  clear h
  go_enter Try.func13, Try.ntmps13
  go_wp2_with fail
  go_loopw [3, 8] (fun o i wr => ∃ (k : Nat), i = .int .i64 k ∧ k ≤ l.length ∧ Hid (OwnTb wr w.heap.size o (ofW (l.take k))) ∧ Hid (Below w.heap.size w wr)) (fun _ i _ => l.length - (intOf i).toNat)
  case atStart => exact ⟨0, rfl, by omega, OwnTb.nil _ _, Below.refl _ _⟩
  case round =>
    obtain ⟨k, rfl, hk, ho, hbl⟩ := hrel
    by_cases hlt : k < l.length
    · obtain ⟨x, hxk⟩ : ∃ x, l[k]? = some x := ⟨l[k], List.getElem?_eq_getElem hlt⟩
      obtain ⟨b2, off2, e2, hB2, d0, d1, d2⟩ := (H.out.below hbl.out).at hxk
      subst e2
      have htk := Lib.hid (ofW_take hxk)
      have hb1 : Below wr.heap.size wr (wr.alloc (.cells #[.string ⟨x.1.toArray⟩, .string ⟨x.2.1.toArray⟩, .bool x.2.2] 29)) := (Below.refl _ _).alloc (Nat.le_refl _) _
      have HB1 := Lib.hid hb1
      have CP := Lib.hid (rput_any u3 _ x _ (ho.out.keep hb1).tbIn (ofW_lim hl k))
      clear hxk hb1 ho
      have hz := hbl.out.size
      go_wp2_with (go_at_call 32; refine CP.out.mono ?_; rintro e w3 ⟨v3, rfl, ho3, hb3⟩; have HO3 := Lib.hid ho3; have HB3 := Lib.hid (HB1.out.trans (hb3.mono HB1.out.size)); clear ho3 hb3)
      go_roundw
      case rel => exact ⟨k + 1, by go_num, by omega, by unfold Hid; rw [htk.out]; exact HO3.out.lower (Nat.le_trans hz HB1.out.size), hbl.out.trans (HB3.out.mono hz)⟩
      case measure => simp [intOf]; omega
    · have hfin : Hid (OwnTb wr w.heap.size u3 (ofW l)) := by
        have := ho.out
        rw [List.take_of_length_le (by omega)] at this
        exact this
      clear ho
      go_wp2_with fail
      go_ret
      exact ⟨_, rfl, hfin.out, hbl.out⟩

theorem keepW_take {whole : Bool} {l : List Wr} {k : Nat} {x : Wr} (h : l[k]? = some x) : keepW whole (l.take (k + 1)) = keepW whole (l.take k) ++ (if !whole || !x.2.2 then [x] else []) := by
  obtain ⟨hk, rfl⟩ := List.getElem?_eq_some_iff.1 h
  rw [List.take_succ_eq_append_getElem hk]
  unfold keepW
  rw [List.filter_append, List.filter_cons]
  rfl
theorem flatten_take {ls : List (List Wr)} {k : Nat} {x : List Wr} (h : ls[k]? = some x) : (ls.take (k + 1)).flatten = (ls.take k).flatten ++ x := by
  obtain ⟨hk, rfl⟩ := List.getElem?_eq_some_iff.1 h
  rw [List.take_succ_eq_append_getElem hk, List.flatten_append]
  simp
theorem flatten_take_len {ls : List (List Wr)} {k : Nat} {x : List Wr} (h : ls[k]? = some x) : (ls.take k).flatten.length + x.length ≤ ls.flatten.length := by
  obtain ⟨hk, rfl⟩ := List.getElem?_eq_some_iff.1 h
  have h1 : ls.flatten.length = ((ls.take k).flatten ++ (ls.drop k).flatten).length := by rw [← List.flatten_append, List.take_append_drop]
  rw [h1, List.length_append, List.drop_eq_getElem_cons hk, List.flatten_cons, List.length_append]
  omega

set_option maxRecDepth 100000 in
set_option maxHeartbeats 3200000 in
theorem rmerge_any (whole : Bool) (v : Value) (ls : List (List Wr)) (w : World) (h : TbsIn w w.heap.size v ls) (hl : ls.flatten.length ≤ 1073741824) :
    Calls Try.prog 20 #[.bool whole, v] w (Row10 w (mergeW whole ls)) := by
  obtain ⟨A, c, rfl, hm1, hm2⟩ := h.len
  have H := Lib.hid h
  clear h
  go_enter Try.func20, Try.ntmps20
  go_wp2_with fail
  go_loopw [5, 13] (fun o i wr => ∃ (k : Nat), i = .int .i64 k ∧ k ≤ ls.length ∧ Hid (OwnTb wr w.heap.size o (ls.take k).flatten) ∧ Hid (Below w.heap.size w wr)) (fun _ i _ => ls.length - (intOf i).toNat)
  case atStart => exact ⟨0, rfl, by omega, OwnTb.nil _ _, Below.refl _ _⟩
  case round =>
    obtain ⟨k, rfl, hk, ho, hbl⟩ := hrel
    by_cases hlt : k < ls.length
    · obtain ⟨x, hxk⟩ : ∃ x, ls[k]? = some x := ⟨ls[k], List.getElem?_eq_getElem hlt⟩
      obtain ⟨b2, off2, u, e2, hB2, hu, d0⟩ := (H.out.below hbl.out).at hxk
      subst e2
      have htk := Lib.hid (flatten_take hxk)
      have hln := flatten_take_len hxk
      have HU := Lib.hid hu
      clear hxk hu
      have hz := hbl.out.size
      obtain ⟨xs, hxs⟩ : ∃ xs, (ls.take k).flatten = xs := ⟨_, rfl⟩
      rw [hxs] at ho hln
      have HXS := Lib.hid hxs
      clear hxs
      go_wp2_with (at_builtin; refine wp_append_tbs rfl _ _ rfl rfl ho.out hz _ _ _ rfl HU.out (by omega) ?_; intro v3 w3 ho3 hb3 _; have HO3 := Lib.hid ho3; have HB3 := Lib.hid (hbl.out.trans hb3); clear ho3 hb3)
      go_roundw
      case rel => exact ⟨k + 1, by go_num, by omega, by unfold Hid; rw [htk.out, HXS.out]; exact HO3.out, HB3.out⟩
      case measure => simp [intOf]; omega
    · have hfin : Hid (OwnTb wr w.heap.size u5 ls.flatten) := by
        have := ho.out
        rw [List.take_of_length_le (by omega)] at this
        exact this
      clear ho
      obtain ⟨w1, hw1⟩ : ∃ x, x = wr := ⟨_, rfl⟩
      subst hw1
      have CO := Lib.hid (rof_any u5 _ w1 hfin.out.tbIn hl)
      obtain ⟨T, hT⟩ : ∃ T, ofW ls.flatten = T := ⟨_, rfl⟩
      have hTl : T.length ≤ 1073741824 := by rw [← hT]; exact Nat.le_trans (ofW_len _) hl
      have hmw : Hid (mergeW whole ls = keepW whole T) := by unfold Hid mergeW; rw [hT]
      rw [hT] at CO
      clear hT hfin
      have hz1 := hbl.out.size
      go_wp2_with (go_at_call 13; refine CO.out.mono ?_; rintro e w3 ⟨v3, rfl, ho3, hb3⟩; obtain ⟨A3, c3, rfl, hc31, hc32⟩ := ho3.tbIn.len; have HO3 := Lib.hid ho3; have HB3 := Lib.hid (hbl.out.trans (hb3.mono hz1)); clear ho3 hb3)
      go_loopw [8, 24] (fun o i wr => ∃ (j : Nat), i = .int .i64 j ∧ j ≤ T.length ∧ Hid (OwnTb wr w3.heap.size o (keepW whole (T.take j))) ∧ Hid (Below w3.heap.size w3 wr)) (fun _ i _ => T.length - (intOf i).toNat)
      case atStart => exact ⟨0, rfl, by omega, OwnTb.nil _ _, Below.refl _ _⟩
      case round =>
        obtain ⟨j, rfl, hj, ho, hb⟩ := hrel
        have hz3 := hb.out.size
        by_cases hlt2 : j < T.length
        · obtain ⟨x, hxk⟩ : ∃ x, T[j]? = some x := ⟨T[j], List.getElem?_eq_getElem hlt2⟩
          obtain ⟨b4, off4, e4, hB4, d0, d1, d2⟩ := ((HO3.out.keep hb.out).tbIn).at hxk
          subst e4
          have htk := Lib.hid (keepW_take (whole := whole) hxk)
          have hln : (keepW whole (T.take j)).length + 1 ≤ 1099511627776 := by
            have h1 : (keepW whole (T.take j)).length ≤ (T.take j).length := List.length_filter_le _ _
            rw [List.length_take] at h1
            omega
          obtain ⟨xs, hxs⟩ : ∃ xs, keepW whole (T.take j) = xs := ⟨_, rfl⟩
          rw [hxs] at ho hln
          have HXS := Lib.hid hxs
          have hoa : ∀ o : Obj, OwnTb (wr.alloc o) w3.heap.size u8 xs := fun o => ho.out.alloc o
          have hza : ∀ o : Obj, (wr.alloc o).heap.size = wr.heap.size + 1 := fun o => by simp
          have HOA := Lib.hid hoa
          have hb1 : Below w3.heap.size w3 (wr.alloc (.cells #[.string ⟨x.1.toArray⟩, .string ⟨x.2.1.toArray⟩, .bool x.2.2] 29)) := hb.out.trans (((Below.refl _ _).alloc (Nat.le_refl _) _).mono hz3)
          have HB1 := Lib.hid hb1
          clear hxk hxs hb1 ho hoa
          obtain ⟨xk, xv, xg⟩ := x
          dsimp only at d0 d1 d2 HB1 htk
          cases whole
          · cases xg
            · have hst : Hid (keepW false (T.take (j + 1)) = xs ++ [⟨xk, xv, false⟩]) := by unfold Hid; rw [htk.out, HXS.out]; rfl
              clear htk HXS
              go_wp2_with (at_builtin; refine wp_append_new rfl _ _ rfl ⟨xk, xv, false⟩ rfl (HOA.out _) (by rw [hza]; omega) (by rw [hza]; rfl) hln ?_; intro v5 w5 ho5 hb5 _ _; have HO5 := Lib.hid ho5; have HB5 := Lib.hid (HB1.out.trans hb5); clear ho5 hb5)
              go_roundw
              case rel => exact ⟨j + 1, by go_num, by omega, by unfold Hid; rw [hst.out]; exact HO5.out, HB5.out⟩
              case measure => simp [intOf]; omega
            · have hst : Hid (keepW false (T.take (j + 1)) = xs ++ [⟨xk, xv, true⟩]) := by unfold Hid; rw [htk.out, HXS.out]; rfl
              clear htk HXS
              go_wp2_with (at_builtin; refine wp_append_new rfl _ _ rfl ⟨xk, xv, true⟩ rfl (HOA.out _) (by rw [hza]; omega) (by rw [hza]; rfl) hln ?_; intro v5 w5 ho5 hb5 _ _; have HO5 := Lib.hid ho5; have HB5 := Lib.hid (HB1.out.trans hb5); clear ho5 hb5)
              go_roundw
              case rel => exact ⟨j + 1, by go_num, by omega, by unfold Hid; rw [hst.out]; exact HO5.out, HB5.out⟩
              case measure => simp [intOf]; omega
          · cases xg
            · have hst : Hid (keepW true (T.take (j + 1)) = xs ++ [⟨xk, xv, false⟩]) := by unfold Hid; rw [htk.out, HXS.out]; rfl
              clear htk HXS
              go_wp2_with (at_builtin; refine wp_append_new rfl _ _ rfl ⟨xk, xv, false⟩ rfl (HOA.out _) (by rw [hza]; omega) (by rw [hza]; rfl) hln ?_; intro v5 w5 ho5 hb5 _ _; have HO5 := Lib.hid ho5; have HB5 := Lib.hid (HB1.out.trans hb5); clear ho5 hb5)
              go_roundw
              case rel => exact ⟨j + 1, by go_num, by omega, by unfold Hid; rw [hst.out]; exact HO5.out, HB5.out⟩
              case measure => simp [intOf]; omega
            · have hst : Hid (keepW true (T.take (j + 1)) = xs) := by
                unfold Hid
                rw [htk.out, HXS.out]
                exact List.append_nil _
              clear htk HXS
              go_wp2_with fail
              go_roundw
              case rel => exact ⟨j + 1, by go_num, by omega, by unfold Hid; rw [hst.out]; exact HOA.out _, HB1.out⟩
              case measure => simp [intOf]; omega
        · have hfin : Hid (OwnTb wr w3.heap.size u8 (mergeW whole ls)) := by
            have := ho.out
            rw [List.take_of_length_le (by omega)] at this
            unfold Hid
            rw [hmw.out]
            exact this
          clear ho
          have hz4 := HB3.out.size
          go_wp2_with fail
          go_ret
          exact ⟨_, rfl, hfin.out.lower hz4, HB3.out.trans (hb.out.mono hz4)⟩

end Go.Proofs.Ytcliknmcefcaeaa.Cd
