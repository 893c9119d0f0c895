/-
  TableMerges: the law's walk. Conditions: none.
-/
import Derived.Test.YtcliknmcefcaeaaTmMid
namespace Go.Proofs.Ytcliknmcefcaeaa.Cd
open Go.RowKit Go.Maps

set_option maxRecDepth 100000 in
set_option maxHeartbeats 12800000 in
theorem tm_main (whole : Bool) (va : Value) (ls : List (List Wr)) (key : List UInt8) (w : World) (ha : TbsIn w w.heap.size va ls) (Fl : ∀ l ∈ ls, FitW l) (hkey : key.length ≤ 140737488351232) :
    Calls Try.prog 4 #[.bool whole, va, .string ⟨key.toArray⟩] w (Gives (.bool true) w) := by
  obtain ⟨A0, c0, rfl, hl1, hl2⟩ := ha.len
  have Ha := Lib.hid ha
  have CA := Lib.hid (alive10 w)
  clear ha
  go_enter Try.func4, Try.ntmps4
  go_wp2_with fail
  refine CA.out.mono ?_
  rintro e w1 ⟨rfl, hb⟩
  have HB := Lib.hid hb
  clear CA hb
  by_cases h8 : ls.length ≤ 8
  case neg =>
    have h8' : (8 : Int) < ls.length := by omega
    go_wp2_with fail
    go_ret
    exact ⟨rfl, HB.out⟩
  have h8' : (ls.length : Int) ≤ 8 := by omega
  by_cases hk : key.length ≤ 1024
  case neg =>
    have hk' : (1024 : Int) < key.length := by omega
    go_wp2_with fail
    go_ret
    exact ⟨rfl, HB.out⟩
  have hk' : (key.length : Int) ≤ 1024 := by omega
  have hbx : Below w.heap.size w (w1.alloc (.cells #[.string ⟨#[]⟩, .string ⟨#[]⟩, .bool false] 29)) := HB.out.trans (((Below.refl _ _).alloc (Nat.le_refl _) _).mono HB.out.size)
  have hm0 : Mid10 key ls 0 w w1.heap.size (.slice none 0 0) (.slice none 0 0) [] [] none (w1.alloc (.cells #[.string ⟨#[]⟩, .string ⟨#[]⟩, .bool false] 29)) :=
    ⟨OwnV.nil _ _ _, OwnV.nil _ _ _, ⟨rfl, fun i g T h1 h2 => by cases h1⟩, ⟨rfl, fun i g T h1 h2 => by cases h1⟩, heap_alloc_new _ _, hbx, by simp⟩
  have HM0 := Lib.hid hm0
  have hpw := HB.out.size
  obtain ⟨p, hp⟩ : ∃ p, w1.heap.size = p := ⟨_, rfl⟩
  rw [hp] at hpw
  have hkm : key.length ≤ maxLen := by simp only [maxLen]; omega
  clear hm0 hbx
  go_wp2_with fail
  generalize w1.alloc (.cells #[.string ⟨#[]⟩, .string ⟨#[]⟩, .bool false] 29) = W0 at *
  rw [hp] at HM0
  have hls : Hid (ls.length ≤ 8) := h8
  clear HB hp hk hk' hkey h8 w1
  go_loopw [7, 8, 10, 32] (fun a7 a8 ai i wr => ∃ (k : Nat) (is : Bool) (gs : List Nat) (us : List Value), i = .int .i64 k ∧ k ≤ ls.length ∧ ai = .bool is ∧ Hid ((wantW key (ls.take k)).isSome = is) ∧ Hid (Mid10 key ls k w p a7 a8 gs us (wantW key (ls.take k)) wr) ∧ Hid (∀ x ∈ us, ∃ A n c, x = .slice A n c) ∧ Hid (∀ l ∈ ls.take k, sumW l ≤ 8192)) (fun _ _ _ i _ => ls.length - (intOf i).toNat)
  case atStart => exact ⟨0, false, [], [], rfl, by omega, rfl, rfl, HM0.out, (fun x h => by cases h), (fun l h => by simp at h)⟩
  case round =>
    obtain ⟨k, is, gs, us, rfl, hk, rfl, his, hM, hus, hsum⟩ := hrel
    by_cases hlt : k < ls.length
    case pos =>
      obtain ⟨l, hlk⟩ : ∃ l, ls[k]? = some l := ⟨ls[k], List.getElem?_eq_getElem hlt⟩
      obtain ⟨b2, off2, u, e2, hB2, hu, d0⟩ := Ha.out.at hlk
      subst e2
      have d0 : wr.cell? ⟨b2, off2 + k, none⟩ = some u := (hM.out.low.cell (p := ⟨b2, off2 + k, none⟩) hB2).trans d0
      have HU := Lib.hid hu
      have FL := Lib.hid (Fl l (List.mem_of_getElem? hlk))
      have HLK := Lib.hid hlk
      clear hu hlk
      have hk8 : k ≤ 8 := by have := hls.out; omega
      have CG := Lib.hid (great10_any u l 8192 wr ((HU.out.below hM.out.low).more hM.out.low.size) FL.out (by omega))
      obtain ⟨As, ns, cs, rfl⟩ : ∃ A n c, u = .slice A n c := by obtain ⟨A, c, h, _⟩ := HU.out; exact ⟨A, _, c, h⟩
      go_wp2_with fail
      refine CG.out.mono ?_
      rintro e w2 ⟨gr, rfl, hb, hg⟩
      have M2 := Lib.hid (hM.out.below hb)
      clear CG hM hb d0
      cases gr
      case true =>
        clear hg
        go_wp2_with fail
        go_ret
        exact ⟨rfl, M2.out.low⟩
      have hsl := hg rfl
      have hNl := len_of hsl
      have hMl := Nat.le_trans (sumW_len l) hsl
      have hsum2 : Hid (∀ l ∈ ls.take (k + 1), sumW l ≤ 8192) := fun x hx => by
        obtain ⟨h1, h2⟩ := List.getElem?_eq_some_iff.1 HLK.out
        rw [List.take_succ_eq_append_getElem h1, h2] at hx
        rcases List.mem_append.1 hx with hx | hx
        · exact hsum.out x hx
        · rw [List.mem_singleton.1 hx]; exact hsl
      clear hg hsum hsl
      have CO := Lib.hid (tof_any _ l w2 ((HU.out.below M2.out.low).more M2.out.low.size) FL.out (by omega))
      go_wp2_with fail
      refine CO.out.mono ?_
      intro e w3 h1
      obtain ⟨v1, rfl, ⟨g, rfl⟩, ht, hb⟩ := h1.tab
      obtain ⟨T, eT⟩ : ∃ res, ofW l = res := ⟨_, rfl⟩
      rw [eT] at ht hNl
      have M3 := Lib.hid (M2.out.below hb)
      have HT3 := Lib.hid ht
      have ET := Lib.hid eT
      clear CO M2 hb ht h1 eT
      have hsz3 := M3.out.size
      have hl3 : (gs.map ptrV).length + 1 ≤ 1048576 := by have := M3.out.len; rw [List.length_map]; omega
      go_wp2_with (at_builtin; refine wp_append_val rfl _ _ 39 25 (.pointer none) 8 rfl Try.underlying39 info_tptr rfl (by omega) (ptrV g) _ rfl rfl M3.out.o1 hsz3 rfl hl3 ?_; intro a7 w4 ho hb1 hg4; have HO4 := Lib.hid ho; have HG4 := Lib.hid hg4; clear ho hb1 hg4)
      obtain ⟨o1, o2, ps, rs, bx, low, sz, ht4⟩ := M3.out.tab hpw HO4.out HG4.out HT3.out
      have HO1 := Lib.hid o1
      have HO2 := Lib.hid o2
      have HPS := Lib.hid ps
      have HRS := Lib.hid rs
      have HBX := Lib.hid bx
      have HLO := Lib.hid low
      have HT4 := Lib.hid ht4
      have hlen := M3.out.len
      clear o1 o2 ps rs bx low ht4 HO4 HG4 HT3 M3 hsz3 hl3
      have CR := Lib.hid (rof_any _ l w4 ((HU.out.below HLO.out).more HLO.out.size) (by omega))
      go_wp2_with fail
      refine CR.out.mono ?_
      rintro e w5 ⟨v5, rfl, ho5, hb5⟩
      rw [ET.out] at ho5
      obtain ⟨A5, c5, rfl, _, _⟩ := ho5.tbIn.len
      have HO5 := Lib.hid (ho5.lower sz)
      replace HO1 := Lib.hid (HO1.out.keep hb5)
      replace HO2 := Lib.hid (HO2.out.keep hb5)
      replace HPS := Lib.hid (HPS.out.below hb5)
      replace HRS := Lib.hid (HRS.out.below hb5)
      replace HBX : Hid (w5.heap[p]? = some (wbox (wantW key (ls.take k)))) := (hb5.block _ sz).trans HBX.out
      replace HLO := Lib.hid (HLO.out.trans (hb5.mono HLO.out.size))
      replace HT4 := Lib.hid (HT4.out.below hb5)
      replace sz := Nat.le_trans sz hb5.size
      clear CR ho5 hb5
      have hl5 : us.length + 1 ≤ 1048576 := by omega
      go_wp2_with (at_builtin; refine wp_append_val rfl _ _ 38 22 (.slice none 0 0) 24 rfl Try.underlying38 info_tbs rfl (by omega) (.slice A5 T.length c5) _ rfl rfl HO2.out sz rfl hl5 ?_; intro a8 w6 ho hb1 hg6; have HO6 := Lib.hid ho; have HG6 := Lib.hid hg6; clear ho hb1 hg6)
      obtain ⟨o1, o2, ps, rs, bx, low, sz6⟩ := Mid10.row HO1.out HO2.out HPS.out HRS.out HBX.out HLO.out sz hpw HO6.out HG6.out HO5.out hus.out
      have ht6 : Hid (TabV w6 (.pointer (some ⟨g, 0, none⟩)) T) := ps.2 gs.length g T (by simp) (by rw [show gs.length = ((ls.take k).map ofW).length by have := ps.1; simp at this ⊢; omega]; simp)
      have hmt : Hid ((ls.take (k + 1)).map ofW = (ls.take k).map ofW ++ [T]) := by unfold Hid; rw [map_take_snoc HLK.out, ET.out]
      have hus2 : Hid (∀ x ∈ us ++ [.slice A5 T.length c5], ∃ A n c, x = .slice A n c) := fun x hx => by
        rcases List.mem_append.1 hx with hx | hx
        · exact hus.out x hx
        · exact ⟨_, _, _, List.mem_singleton.1 hx⟩
      have M6 : Hid (Mid10 key ls (k + 1) w p a7 a8 (gs ++ [g]) (us ++ [.slice A5 T.length c5]) (wantW key (ls.take k)) w6) := ⟨o1, o2, by rw [hmt.out]; exact ps, by rw [hmt.out]; exact rs, bx, low, sz6⟩
      clear o1 o2 ps rs bx low sz6 sz HO1 HO2 HPS HRS HBX HLO HT4 HO5 HO6 HG6 hl5 hmt hus
      have CT := Lib.hid (tget_any _ T key w6 ht6.out hkm)
      have hwn : Hid (wantW key (ls.take (k + 1)) = (getW T key).or (wantW key (ls.take k))) := by unfold Hid; rw [want_step HLK.out, ET.out]
      obtain ⟨o, ho⟩ : ∃ o, getW T key = o := ⟨_, rfl⟩
      rw [ho] at CT hwn
      go_wp2_with fail
      refine CT.out.mono ?_
      rintro e w7 ⟨rfl, hb7⟩
      have M7 := Lib.hid (M6.out.below hb7)
      clear CT hb7 M6 ht6 ho
      cases o
      case none =>
        have hw2 : Hid (wantW key (ls.take (k + 1)) = wantW key (ls.take k)) := hwn.out
        have M8 := Lib.hid (M7.out.below ((Below.refl _ _).alloc (Nat.le_refl w7.heap.size) (.cells #[.string ⟨#[]⟩, .string ⟨#[]⟩, .bool false] 29)))
        clear M7 hwn
        dsimp only [Option.getD_none, Option.isSome_none]
        go_wp2_with fail
        go_roundw
        case rel => exact ⟨k + 1, is, gs ++ [g], us ++ [.slice A5 T.length c5], by go_num, by omega, rfl, by unfold Hid; rw [hw2.out]; exact his.out, by unfold Hid; rw [hw2.out]; exact M8.out, hus2, hsum2⟩
        case measure => simp [intOf]; omega
      case some q =>
        have hw2 : Hid (wantW key (ls.take (k + 1)) = some q) := hwn.out
        have hr0 := M7.out.box
        have hsz7 := M7.out.size
        obtain ⟨B0, hB0⟩ : ∃ x, (wantW key (ls.take k)).getD ⟨[], [], false⟩ = x := ⟨_, rfl⟩
        unfold wbox at hr0
        rw [hB0] at hr0
        have hra : ∀ o : Obj, (w7.alloc o).heap[p]? = some (.cells #[.string ⟨B0.1.toArray⟩, .string ⟨B0.2.1.toArray⟩, .bool B0.2.2] 29) := fun o => (((Below.refl _ _).alloc (Nat.le_refl w7.heap.size) o).block p hsz7).trans hr0
        have hr1 : ∀ (x : Value) (o : Obj), ((w7.alloc o).setCell ⟨p, 0, none⟩ x).heap[p]? = some (.cells #[x, .string ⟨B0.2.1.toArray⟩, .bool B0.2.2] 29) := fun x o => by simp [World.setCell, Array.getElem?_modify, hra o]
        have hr2 : ∀ (x y : Value) (o : Obj), (((w7.alloc o).setCell ⟨p, 0, none⟩ x).setCell ⟨p, 1, none⟩ y).heap[p]? = some (.cells #[x, y, .bool B0.2.2] 29) := fun x y o => by simp [World.setCell, Array.getElem?_modify, hra o]
        have z0 : ∀ o : Obj, (w7.alloc o).cell? ⟨p, 0, none⟩ = some (.string ⟨B0.1.toArray⟩) := fun o => cell_of_row _ _ 0 _ _ _ (hra o)
        have f0 : ∀ (o : Obj), (w7.alloc o).frozen? ⟨p, 0, none⟩ = false := fun o => by simp only [World.frozen?, hra o]; rfl
        have z1 : ∀ (x : Value) (o : Obj), ((w7.alloc o).setCell ⟨p, 0, none⟩ x).cell? ⟨p, 1, none⟩ = some (.string ⟨B0.2.1.toArray⟩) := fun x o => cell_of_row _ _ 1 _ _ _ (hr1 x o)
        have f1 : ∀ (x : Value) (o : Obj), ((w7.alloc o).setCell ⟨p, 0, none⟩ x).frozen? ⟨p, 1, none⟩ = false := fun x o => by simp only [World.frozen?, hr1 x o]; rfl
        have z2 : ∀ (x y : Value) (o : Obj), (((w7.alloc o).setCell ⟨p, 0, none⟩ x).setCell ⟨p, 1, none⟩ y).cell? ⟨p, 2, none⟩ = some (.bool B0.2.2) := fun x y o => cell_of_row _ _ 2 _ _ _ (hr2 x y o)
        have f2 : ∀ (x y : Value) (o : Obj), (((w7.alloc o).setCell ⟨p, 0, none⟩ x).setCell ⟨p, 1, none⟩ y).frozen? ⟨p, 2, none⟩ = false := fun x y o => by simp only [World.frozen?, hr2 x y o]; rfl
        have hg8 : (w7.alloc (.cells #[.string ⟨q.1.toArray⟩, .string ⟨q.2.1.toArray⟩, .bool q.2.2] 29)).grownBy (((((w7.alloc (.cells #[.string ⟨q.1.toArray⟩, .string ⟨q.2.1.toArray⟩, .bool q.2.2] 29)).setCell ⟨p, 0, none⟩ (.string ⟨q.1.toArray⟩)).setCell ⟨p, 1, none⟩ (.string ⟨q.2.1.toArray⟩)).setCell ⟨p, 2, none⟩ (.bool q.2.2))) (some p) := ((set_grown _ p 0 _).andThen (set_grown _ p 1 _) (fun j e => .inr e)).andThen (set_grown _ p 2 _) (fun j e => .inr e)
        have M8 := Lib.hid ((M7.out.below ((Below.refl _ _).alloc (Nat.le_refl _) (.cells #[.string ⟨q.1.toArray⟩, .string ⟨q.2.1.toArray⟩, .bool q.2.2] 29))).put hpw (q := some q) hg8 (wr_row (hra _)))
        clear M7 hwn hr0 hra hr1 hr2 hg8
        dsimp only [Option.getD_some, Option.isSome_some]
        go_wp2_with fail
        go_roundw
        case rel => exact ⟨k + 1, true, gs ++ [g], us ++ [.slice A5 T.length c5], by go_num, by omega, rfl, by unfold Hid; rw [hw2.out]; rfl, by unfold Hid; rw [hw2.out]; exact M8.out, hus2, hsum2⟩
        case measure => simp [intOf]; omega
    case neg =>
      have hsum2 : ∀ l ∈ ls, sumW l ≤ 8192 := by
        have := hsum.out
        rwa [List.take_of_length_le (by omega)] at this
      have hM2 : Mid10 key ls k w p u7 u8 gs us (wantW key ls) wr := by
        have := hM.out
        rwa [List.take_of_length_le (by omega)] at this
      have his2 : (wantW key ls).isSome = is := by
        have := his.out
        rwa [List.take_of_length_le (by omega)] at this
      have hfin := fun wh => fin_want wh key ls
      have hTk : (ls.take k).map ofW = ls.map ofW := by rw [List.take_of_length_le (by omega)]
      obtain ⟨Ts, hTs⟩ : ∃ Ts, ls.map ofW = Ts := ⟨_, rfl⟩
      have hlen : Ts.flatten.length ≤ 65536 := by
        have h1 := sum_lim hsum2
        rw [hTs] at h1
        have h2 := hls.out
        omega
      rw [hTs] at hfin hTk
      obtain ⟨o, ho⟩ : ∃ o, wantW key ls = o := ⟨_, rfl⟩
      rw [ho] at hM2 his2 hfin
      have HT := Lib.hid hTk
      clear hsum hM his hsum2 hTs ho hTk hus
      cases o
      case none =>
        obtain rfl : false = is := his2
        cases whole
        case false =>
          have hf : getW (mergeW false Ts) key = none := hfin false
          have M := Lib.hid hM2
          clear hfin hM2
          have hTi := tabs_in M.out.o1 M.out.ps
          have hTb := tbs_in M.out.o2 M.out.rs
          rw [HT.out] at hTi hTb
          have HTB := Lib.hid hTb
          have CM := Lib.hid (tmerge_any false _ Ts wr hTi (by omega))
          obtain ⟨R, hR⟩ : ∃ R, mergeW false Ts = R := ⟨_, rfl⟩
          have hRl : R.length ≤ 65536 := by rw [← hR]; exact Nat.le_trans (merge_len _ _) hlen
          rw [hR] at CM hf
          have HR := Lib.hid hR
          have HF := Lib.hid hf
          clear hTi hTb hR hf
          go_wp2_with fail
          refine CM.out.mono ?_
          intro e w2 h1
          obtain ⟨v1, rfl, ⟨g, rfl⟩, ht, hb⟩ := h1.tab
          have M2 := Lib.hid (M.out.below hb)
          have HT2 := Lib.hid ht
          have HTB2 := Lib.hid (HTB.out.below hb)
          have hz2 := hb.size
          clear CM hb ht h1 M HTB
          have CT := Lib.hid (tget_any _ R key w2 HT2.out hkm)
          rw [HF.out] at CT
          go_wp2_with fail
          refine CT.out.mono ?_
          rintro e w3 ⟨rfl, hb⟩
          have M3 := Lib.hid (M2.out.below hb)
          have HT3 := Lib.hid (HT2.out.below hb)
          have hz3 := hb.size
          have HTB3 := Lib.hid (HTB2.out.below (hb.mono hz2))
          clear CT hb M2 HT2 HTB2
          obtain ⟨fk, hfk⟩ : ∃ x, (none : Option Wr).getD ⟨[], [], false⟩ = x := ⟨_, rfl⟩
          have hbx4 : Below w3.heap.size w3 (w3.alloc (.cells #[.string ⟨fk.1.toArray⟩, .string ⟨fk.2.1.toArray⟩, .bool fk.2.2] 29)) := (Below.refl _ _).alloc (Nat.le_refl _) _
          rw [hfk]
          dsimp only [Option.isSome_none, Option.isSome_some]
          have hbox3 := M3.out.box
          unfold wbox at hbox3
          rw [hfk] at hbox3
          have HBX := Lib.hid hbox3
          have hsz := M3.out.size
          have HLO := Lib.hid (M3.out.low.trans (hbx4.mono M3.out.low.size))
          have CA := Lib.hid (tall_any _ R _ (HT3.out.below hbx4) (by omega))
          have hrow4 : (w3.alloc (.cells #[.string ⟨fk.1.toArray⟩, .string ⟨fk.2.1.toArray⟩, .bool fk.2.2] 29)).heap[w3.heap.size]? = some (.cells #[.string ⟨fk.1.toArray⟩, .string ⟨fk.2.1.toArray⟩, .bool fk.2.2] 29) := heap_alloc_new _ _
          have hbp4 := (hbx4.block p hsz).trans hbox3
          have HTB4 := Lib.hid (HTB3.out.below (hbx4.mono (Nat.le_trans hz2 hz3)))
          have hz4 := hbx4.size
          have hw3l : w3.heap.size < (w3.alloc (.cells #[.string ⟨fk.1.toArray⟩, .string ⟨fk.2.1.toArray⟩, .bool fk.2.2] 29)).heap.size := by simp
          have HR4 := Lib.hid hrow4
          have HP4 := Lib.hid hbp4
          clear hbox3 hbx4 M3 HT3 HTB3 hrow4 hbp4 hfk
          go_wp2_with fail
          refine CA.out.mono ?_
          rintro e w5 ⟨va5, rfl, hn, hb⟩
          have HL5 := Lib.hid hn.tbIn
          have HLO5 := Lib.hid (HLO.out.trans (hb.mono HLO.out.size))
          have HTB5 := Lib.hid (HTB4.out.below (hb.mono (Nat.le_trans (Nat.le_trans hz2 hz3) hz4)))
          have HR5 : Hid (w5.heap[w3.heap.size]? = some (.cells #[.string ⟨fk.1.toArray⟩, .string ⟨fk.2.1.toArray⟩, .bool fk.2.2] 29)) := (hb.block _ hw3l).trans HR4.out
          have HP5 : Hid (w5.heap[p]? = some (.cells #[.string ⟨fk.1.toArray⟩, .string ⟨fk.2.1.toArray⟩, .bool fk.2.2] 29)) := (hb.block _ (by omega)).trans HP4.out
          have hz5 := hb.size
          clear CA hn hb HLO HTB4 HR4 HP4
          have CR := Lib.hid (rmerge_any false _ Ts w5 (by obtain ⟨A, c, h1, h2, h3, h4⟩ := HTB5.out; exact ⟨A, c, h1, h2, h3, fun hp => by obtain ⟨b, off, e, hb, hc⟩ := h4 hp; exact ⟨b, off, e, by omega, fun i l hi => by obtain ⟨x, hx, hy⟩ := hc i l hi; exact ⟨x, hx.more (by omega), hy⟩⟩⟩) (by omega))
          rw [HR.out] at CR
          go_wp2_with fail
          refine CR.out.mono ?_
          rintro e w6 ⟨va6, rfl, ho6, hb⟩
          have HL6 := Lib.hid ho6.tbIn
          have HL5b := Lib.hid (HL5.out.up hb)
          have HLO6 := Lib.hid (HLO5.out.trans (hb.mono HLO5.out.size))
          have HR6 : Hid (w6.heap[w3.heap.size]? = some (.cells #[.string ⟨fk.1.toArray⟩, .string ⟨fk.2.1.toArray⟩, .bool fk.2.2] 29)) := (hb.block _ (by omega)).trans HR5.out
          have HP6 : Hid (w6.heap[p]? = some (.cells #[.string ⟨fk.1.toArray⟩, .string ⟨fk.2.1.toArray⟩, .bool fk.2.2] 29)) := (hb.block _ (by omega)).trans HP5.out
          have hz6 := hb.size
          clear CR ho6 hb HLO5 HTB5 HR5 HP5 HL5
          have CS := Lib.hid (same10_any _ _ _ _ w6 HL5b.out HL6.out)
          go_wp2_with fail
          refine CS.out.mono ?_
          rintro e w7 ⟨sm, rfl, hs, hb⟩
          obtain rfl : sm = true := by simpa using hs
          have HLO7 := Lib.hid (HLO6.out.trans (hb.mono HLO6.out.size))
          have hr7 := (hb.block _ (by omega)).trans HR6.out
          have hp7 := (hb.block _ (by omega)).trans HP6.out
          have y0 := cell_of_row _ _ 0 _ _ _ hr7
          have y1 := cell_of_row _ _ 1 _ _ _ hr7
          have y2 := cell_of_row _ _ 2 _ _ _ hr7
          have x0 := cell_of_row _ _ 0 _ _ _ hp7
          have x1 := cell_of_row _ _ 1 _ _ _ hp7
          have x2 := cell_of_row _ _ 2 _ _ _ hp7
          have hq := eql_wr fk fk
          rw [(eqW_iff fk fk).2 rfl] at hq
          have hgd := guard_wr
          clear CS hs hb HLO6 HR6 HP6 HL5b HL6 hr7 hp7
          go_wp2_with fail
          go_ret
          exact ⟨rfl, HLO7.out⟩
        case true =>
          have hf : getW (mergeW true Ts) key = none := hfin true
          have M := Lib.hid hM2
          clear hfin hM2
          have hTi := tabs_in M.out.o1 M.out.ps
          have hTb := tbs_in M.out.o2 M.out.rs
          rw [HT.out] at hTi hTb
          have HTB := Lib.hid hTb
          have CM := Lib.hid (tmerge_any true _ Ts wr hTi (by omega))
          obtain ⟨R, hR⟩ : ∃ R, mergeW true Ts = R := ⟨_, rfl⟩
          have hRl : R.length ≤ 65536 := by rw [← hR]; exact Nat.le_trans (merge_len _ _) hlen
          rw [hR] at CM hf
          have HR := Lib.hid hR
          have HF := Lib.hid hf
          clear hTi hTb hR hf
          go_wp2_with fail
          refine CM.out.mono ?_
          intro e w2 h1
          obtain ⟨v1, rfl, ⟨g, rfl⟩, ht, hb⟩ := h1.tab
          have M2 := Lib.hid (M.out.below hb)
          have HT2 := Lib.hid ht
          have HTB2 := Lib.hid (HTB.out.below hb)
          have hz2 := hb.size
          clear CM hb ht h1 M HTB
          have CT := Lib.hid (tget_any _ R key w2 HT2.out hkm)
          rw [HF.out] at CT
          go_wp2_with fail
          refine CT.out.mono ?_
          rintro e w3 ⟨rfl, hb⟩
          have M3 := Lib.hid (M2.out.below hb)
          have HT3 := Lib.hid (HT2.out.below hb)
          have hz3 := hb.size
          have HTB3 := Lib.hid (HTB2.out.below (hb.mono hz2))
          clear CT hb M2 HT2 HTB2
          obtain ⟨fk, hfk⟩ : ∃ x, (none : Option Wr).getD ⟨[], [], false⟩ = x := ⟨_, rfl⟩
          have hbx4 : Below w3.heap.size w3 (w3.alloc (.cells #[.string ⟨fk.1.toArray⟩, .string ⟨fk.2.1.toArray⟩, .bool fk.2.2] 29)) := (Below.refl _ _).alloc (Nat.le_refl _) _
          rw [hfk]
          dsimp only [Option.isSome_none, Option.isSome_some]
          have hbox3 := M3.out.box
          unfold wbox at hbox3
          rw [hfk] at hbox3
          have HBX := Lib.hid hbox3
          have hsz := M3.out.size
          have HLO := Lib.hid (M3.out.low.trans (hbx4.mono M3.out.low.size))
          have CA := Lib.hid (tall_any _ R _ (HT3.out.below hbx4) (by omega))
          have hrow4 : (w3.alloc (.cells #[.string ⟨fk.1.toArray⟩, .string ⟨fk.2.1.toArray⟩, .bool fk.2.2] 29)).heap[w3.heap.size]? = some (.cells #[.string ⟨fk.1.toArray⟩, .string ⟨fk.2.1.toArray⟩, .bool fk.2.2] 29) := heap_alloc_new _ _
          have hbp4 := (hbx4.block p hsz).trans hbox3
          have HTB4 := Lib.hid (HTB3.out.below (hbx4.mono (Nat.le_trans hz2 hz3)))
          have hz4 := hbx4.size
          have hw3l : w3.heap.size < (w3.alloc (.cells #[.string ⟨fk.1.toArray⟩, .string ⟨fk.2.1.toArray⟩, .bool fk.2.2] 29)).heap.size := by simp
          have HR4 := Lib.hid hrow4
          have HP4 := Lib.hid hbp4
          clear hbox3 hbx4 M3 HT3 HTB3 hrow4 hbp4 hfk
          go_wp2_with fail
          refine CA.out.mono ?_
          rintro e w5 ⟨va5, rfl, hn, hb⟩
          have HL5 := Lib.hid hn.tbIn
          have HLO5 := Lib.hid (HLO.out.trans (hb.mono HLO.out.size))
          have HTB5 := Lib.hid (HTB4.out.below (hb.mono (Nat.le_trans (Nat.le_trans hz2 hz3) hz4)))
          have HR5 : Hid (w5.heap[w3.heap.size]? = some (.cells #[.string ⟨fk.1.toArray⟩, .string ⟨fk.2.1.toArray⟩, .bool fk.2.2] 29)) := (hb.block _ hw3l).trans HR4.out
          have HP5 : Hid (w5.heap[p]? = some (.cells #[.string ⟨fk.1.toArray⟩, .string ⟨fk.2.1.toArray⟩, .bool fk.2.2] 29)) := (hb.block _ (by omega)).trans HP4.out
          have hz5 := hb.size
          clear CA hn hb HLO HTB4 HR4 HP4
          have CR := Lib.hid (rmerge_any true _ Ts w5 (by obtain ⟨A, c, h1, h2, h3, h4⟩ := HTB5.out; exact ⟨A, c, h1, h2, h3, fun hp => by obtain ⟨b, off, e, hb, hc⟩ := h4 hp; exact ⟨b, off, e, by omega, fun i l hi => by obtain ⟨x, hx, hy⟩ := hc i l hi; exact ⟨x, hx.more (by omega), hy⟩⟩⟩) (by omega))
          rw [HR.out] at CR
          go_wp2_with fail
          refine CR.out.mono ?_
          rintro e w6 ⟨va6, rfl, ho6, hb⟩
          have HL6 := Lib.hid ho6.tbIn
          have HL5b := Lib.hid (HL5.out.up hb)
          have HLO6 := Lib.hid (HLO5.out.trans (hb.mono HLO5.out.size))
          have HR6 : Hid (w6.heap[w3.heap.size]? = some (.cells #[.string ⟨fk.1.toArray⟩, .string ⟨fk.2.1.toArray⟩, .bool fk.2.2] 29)) := (hb.block _ (by omega)).trans HR5.out
          have HP6 : Hid (w6.heap[p]? = some (.cells #[.string ⟨fk.1.toArray⟩, .string ⟨fk.2.1.toArray⟩, .bool fk.2.2] 29)) := (hb.block _ (by omega)).trans HP5.out
          have hz6 := hb.size
          clear CR ho6 hb HLO5 HTB5 HR5 HP5 HL5
          have CS := Lib.hid (same10_any _ _ _ _ w6 HL5b.out HL6.out)
          go_wp2_with fail
          refine CS.out.mono ?_
          rintro e w7 ⟨sm, rfl, hs, hb⟩
          obtain rfl : sm = true := by simpa using hs
          have HLO7 := Lib.hid (HLO6.out.trans (hb.mono HLO6.out.size))
          have hr7 := (hb.block _ (by omega)).trans HR6.out
          have hp7 := (hb.block _ (by omega)).trans HP6.out
          have y0 := cell_of_row _ _ 0 _ _ _ hr7
          have y1 := cell_of_row _ _ 1 _ _ _ hr7
          have y2 := cell_of_row _ _ 2 _ _ _ hr7
          have x0 := cell_of_row _ _ 0 _ _ _ hp7
          have x1 := cell_of_row _ _ 1 _ _ _ hp7
          have x2 := cell_of_row _ _ 2 _ _ _ hp7
          have hq := eql_wr fk fk
          rw [(eqW_iff fk fk).2 rfl] at hq
          have hgd := guard_wr
          clear CS hs hb HLO6 HR6 HP6 HL5b HL6 hr7 hp7
          go_wp2_with fail
          go_ret
          exact ⟨rfl, HLO7.out⟩
      case some q =>
        obtain rfl : true = is := his2
        have hbx := hM2.box
        unfold wbox at hbx
        have b0 := cell_of_row _ _ 0 _ _ _ hbx
        have b1 := cell_of_row _ _ 1 _ _ _ hbx
        have b2 := cell_of_row _ _ 2 _ _ _ hbx
        have hff : ∀ j, wr.frozen? ⟨p, j, none⟩ = false := fun j => by simp only [World.frozen?, hbx]; rfl
        dsimp only [Option.getD_some] at hbx b0 b1 b2
        cases whole
        case false =>
          have hf : getW (mergeW false Ts) key = some q := by rw [hfin]; simp
          have M := Lib.hid hM2
          clear hfin hM2 hbx hff b0 b1
          have hTi := tabs_in M.out.o1 M.out.ps
          have hTb := tbs_in M.out.o2 M.out.rs
          rw [HT.out] at hTi hTb
          have HTB := Lib.hid hTb
          have CM := Lib.hid (tmerge_any false _ Ts wr hTi (by omega))
          obtain ⟨R, hR⟩ : ∃ R, mergeW false Ts = R := ⟨_, rfl⟩
          have hRl : R.length ≤ 65536 := by rw [← hR]; exact Nat.le_trans (merge_len _ _) hlen
          rw [hR] at CM hf
          have HR := Lib.hid hR
          have HF := Lib.hid hf
          clear hTi hTb hR hf
          go_wp2_with fail
          refine CM.out.mono ?_
          intro e w2 h1
          obtain ⟨v1, rfl, ⟨g, rfl⟩, ht, hb⟩ := h1.tab
          have M2 := Lib.hid (M.out.below hb)
          have HT2 := Lib.hid ht
          have HTB2 := Lib.hid (HTB.out.below hb)
          have hz2 := hb.size
          clear CM hb ht h1 M HTB
          have CT := Lib.hid (tget_any _ R key w2 HT2.out hkm)
          rw [HF.out] at CT
          go_wp2_with fail
          refine CT.out.mono ?_
          rintro e w3 ⟨rfl, hb⟩
          have M3 := Lib.hid (M2.out.below hb)
          have HT3 := Lib.hid (HT2.out.below hb)
          have hz3 := hb.size
          have HTB3 := Lib.hid (HTB2.out.below (hb.mono hz2))
          clear CT hb M2 HT2 HTB2
          obtain ⟨fk, hfk⟩ : ∃ x, (some q : Option Wr).getD ⟨[], [], false⟩ = x := ⟨_, rfl⟩
          have hbx4 : Below w3.heap.size w3 (w3.alloc (.cells #[.string ⟨fk.1.toArray⟩, .string ⟨fk.2.1.toArray⟩, .bool fk.2.2] 29)) := (Below.refl _ _).alloc (Nat.le_refl _) _
          rw [hfk]
          dsimp only [Option.isSome_none, Option.isSome_some]
          have hbox3 := M3.out.box
          unfold wbox at hbox3
          rw [hfk] at hbox3
          have HBX := Lib.hid hbox3
          have hsz := M3.out.size
          have HLO := Lib.hid (M3.out.low.trans (hbx4.mono M3.out.low.size))
          have CA := Lib.hid (tall_any _ R _ (HT3.out.below hbx4) (by omega))
          have hrow4 : (w3.alloc (.cells #[.string ⟨fk.1.toArray⟩, .string ⟨fk.2.1.toArray⟩, .bool fk.2.2] 29)).heap[w3.heap.size]? = some (.cells #[.string ⟨fk.1.toArray⟩, .string ⟨fk.2.1.toArray⟩, .bool fk.2.2] 29) := heap_alloc_new _ _
          have hbp4 := (hbx4.block p hsz).trans hbox3
          have HTB4 := Lib.hid (HTB3.out.below (hbx4.mono (Nat.le_trans hz2 hz3)))
          have hz4 := hbx4.size
          have hw3l : w3.heap.size < (w3.alloc (.cells #[.string ⟨fk.1.toArray⟩, .string ⟨fk.2.1.toArray⟩, .bool fk.2.2] 29)).heap.size := by simp
          have HR4 := Lib.hid hrow4
          have HP4 := Lib.hid hbp4
          clear hbox3 hbx4 M3 HT3 HTB3 hrow4 hbp4 hfk
          go_wp2_with fail
          refine CA.out.mono ?_
          rintro e w5 ⟨va5, rfl, hn, hb⟩
          have HL5 := Lib.hid hn.tbIn
          have HLO5 := Lib.hid (HLO.out.trans (hb.mono HLO.out.size))
          have HTB5 := Lib.hid (HTB4.out.below (hb.mono (Nat.le_trans (Nat.le_trans hz2 hz3) hz4)))
          have HR5 : Hid (w5.heap[w3.heap.size]? = some (.cells #[.string ⟨fk.1.toArray⟩, .string ⟨fk.2.1.toArray⟩, .bool fk.2.2] 29)) := (hb.block _ hw3l).trans HR4.out
          have HP5 : Hid (w5.heap[p]? = some (.cells #[.string ⟨fk.1.toArray⟩, .string ⟨fk.2.1.toArray⟩, .bool fk.2.2] 29)) := (hb.block _ (by omega)).trans HP4.out
          have hz5 := hb.size
          clear CA hn hb HLO HTB4 HR4 HP4
          have CR := Lib.hid (rmerge_any false _ Ts w5 (by obtain ⟨A, c, h1, h2, h3, h4⟩ := HTB5.out; exact ⟨A, c, h1, h2, h3, fun hp => by obtain ⟨b, off, e, hb, hc⟩ := h4 hp; exact ⟨b, off, e, by omega, fun i l hi => by obtain ⟨x, hx, hy⟩ := hc i l hi; exact ⟨x, hx.more (by omega), hy⟩⟩⟩) (by omega))
          rw [HR.out] at CR
          go_wp2_with fail
          refine CR.out.mono ?_
          rintro e w6 ⟨va6, rfl, ho6, hb⟩
          have HL6 := Lib.hid ho6.tbIn
          have HL5b := Lib.hid (HL5.out.up hb)
          have HLO6 := Lib.hid (HLO5.out.trans (hb.mono HLO5.out.size))
          have HR6 : Hid (w6.heap[w3.heap.size]? = some (.cells #[.string ⟨fk.1.toArray⟩, .string ⟨fk.2.1.toArray⟩, .bool fk.2.2] 29)) := (hb.block _ (by omega)).trans HR5.out
          have HP6 : Hid (w6.heap[p]? = some (.cells #[.string ⟨fk.1.toArray⟩, .string ⟨fk.2.1.toArray⟩, .bool fk.2.2] 29)) := (hb.block _ (by omega)).trans HP5.out
          have hz6 := hb.size
          clear CR ho6 hb HLO5 HTB5 HR5 HP5 HL5
          have CS := Lib.hid (same10_any _ _ _ _ w6 HL5b.out HL6.out)
          go_wp2_with fail
          refine CS.out.mono ?_
          rintro e w7 ⟨sm, rfl, hs, hb⟩
          obtain rfl : sm = true := by simpa using hs
          have HLO7 := Lib.hid (HLO6.out.trans (hb.mono HLO6.out.size))
          have hr7 := (hb.block _ (by omega)).trans HR6.out
          have hp7 := (hb.block _ (by omega)).trans HP6.out
          have y0 := cell_of_row _ _ 0 _ _ _ hr7
          have y1 := cell_of_row _ _ 1 _ _ _ hr7
          have y2 := cell_of_row _ _ 2 _ _ _ hr7
          have x0 := cell_of_row _ _ 0 _ _ _ hp7
          have x1 := cell_of_row _ _ 1 _ _ _ hp7
          have x2 := cell_of_row _ _ 2 _ _ _ hp7
          have hq := eql_wr fk fk
          rw [(eqW_iff fk fk).2 rfl] at hq
          have hgd := guard_wr
          clear CS hs hb HLO6 HR6 HP6 HL5b HL6 hr7 hp7
          go_wp2_with fail
          go_ret
          exact ⟨rfl, HLO7.out⟩
        case true =>
          obtain ⟨qk, qv, qg⟩ := q
          cases qg
          case false =>
            have hf : getW (mergeW true Ts) key = some ⟨qk, qv, false⟩ := by rw [hfin]; simp
            have M := Lib.hid hM2
            clear hfin hM2 hbx hff b0 b1
            have hTi := tabs_in M.out.o1 M.out.ps
            have hTb := tbs_in M.out.o2 M.out.rs
            rw [HT.out] at hTi hTb
            have HTB := Lib.hid hTb
            have CM := Lib.hid (tmerge_any true _ Ts wr hTi (by omega))
            obtain ⟨R, hR⟩ : ∃ R, mergeW true Ts = R := ⟨_, rfl⟩
            have hRl : R.length ≤ 65536 := by rw [← hR]; exact Nat.le_trans (merge_len _ _) hlen
            rw [hR] at CM hf
            have HR := Lib.hid hR
            have HF := Lib.hid hf
            clear hTi hTb hR hf
            go_wp2_with fail
            refine CM.out.mono ?_
            intro e w2 h1
            obtain ⟨v1, rfl, ⟨g, rfl⟩, ht, hb⟩ := h1.tab
            have M2 := Lib.hid (M.out.below hb)
            have HT2 := Lib.hid ht
            have HTB2 := Lib.hid (HTB.out.below hb)
            have hz2 := hb.size
            clear CM hb ht h1 M HTB
            have CT := Lib.hid (tget_any _ R key w2 HT2.out hkm)
            rw [HF.out] at CT
            go_wp2_with fail
            refine CT.out.mono ?_
            rintro e w3 ⟨rfl, hb⟩
            have M3 := Lib.hid (M2.out.below hb)
            have HT3 := Lib.hid (HT2.out.below hb)
            have hz3 := hb.size
            have HTB3 := Lib.hid (HTB2.out.below (hb.mono hz2))
            clear CT hb M2 HT2 HTB2
            obtain ⟨fk, hfk⟩ : ∃ x, (some ⟨qk, qv, false⟩ : Option Wr).getD ⟨[], [], false⟩ = x := ⟨_, rfl⟩
            have hbx4 : Below w3.heap.size w3 (w3.alloc (.cells #[.string ⟨fk.1.toArray⟩, .string ⟨fk.2.1.toArray⟩, .bool fk.2.2] 29)) := (Below.refl _ _).alloc (Nat.le_refl _) _
            rw [hfk]
            dsimp only [Option.isSome_none, Option.isSome_some]
            have hbox3 := M3.out.box
            unfold wbox at hbox3
            rw [hfk] at hbox3
            have HBX := Lib.hid hbox3
            have hsz := M3.out.size
            have HLO := Lib.hid (M3.out.low.trans (hbx4.mono M3.out.low.size))
            have CA := Lib.hid (tall_any _ R _ (HT3.out.below hbx4) (by omega))
            have hrow4 : (w3.alloc (.cells #[.string ⟨fk.1.toArray⟩, .string ⟨fk.2.1.toArray⟩, .bool fk.2.2] 29)).heap[w3.heap.size]? = some (.cells #[.string ⟨fk.1.toArray⟩, .string ⟨fk.2.1.toArray⟩, .bool fk.2.2] 29) := heap_alloc_new _ _
            have hbp4 := (hbx4.block p hsz).trans hbox3
            have HTB4 := Lib.hid (HTB3.out.below (hbx4.mono (Nat.le_trans hz2 hz3)))
            have hz4 := hbx4.size
            have hw3l : w3.heap.size < (w3.alloc (.cells #[.string ⟨fk.1.toArray⟩, .string ⟨fk.2.1.toArray⟩, .bool fk.2.2] 29)).heap.size := by simp
            have HR4 := Lib.hid hrow4
            have HP4 := Lib.hid hbp4
            clear hbox3 hbx4 M3 HT3 HTB3 hrow4 hbp4 hfk
            go_wp2_with fail
            refine CA.out.mono ?_
            rintro e w5 ⟨va5, rfl, hn, hb⟩
            have HL5 := Lib.hid hn.tbIn
            have HLO5 := Lib.hid (HLO.out.trans (hb.mono HLO.out.size))
            have HTB5 := Lib.hid (HTB4.out.below (hb.mono (Nat.le_trans (Nat.le_trans hz2 hz3) hz4)))
            have HR5 : Hid (w5.heap[w3.heap.size]? = some (.cells #[.string ⟨fk.1.toArray⟩, .string ⟨fk.2.1.toArray⟩, .bool fk.2.2] 29)) := (hb.block _ hw3l).trans HR4.out
            have HP5 : Hid (w5.heap[p]? = some (.cells #[.string ⟨fk.1.toArray⟩, .string ⟨fk.2.1.toArray⟩, .bool fk.2.2] 29)) := (hb.block _ (by omega)).trans HP4.out
            have hz5 := hb.size
            clear CA hn hb HLO HTB4 HR4 HP4
            have CR := Lib.hid (rmerge_any true _ Ts w5 (by obtain ⟨A, c, h1, h2, h3, h4⟩ := HTB5.out; exact ⟨A, c, h1, h2, h3, fun hp => by obtain ⟨b, off, e, hb, hc⟩ := h4 hp; exact ⟨b, off, e, by omega, fun i l hi => by obtain ⟨x, hx, hy⟩ := hc i l hi; exact ⟨x, hx.more (by omega), hy⟩⟩⟩) (by omega))
            rw [HR.out] at CR
            go_wp2_with fail
            refine CR.out.mono ?_
            rintro e w6 ⟨va6, rfl, ho6, hb⟩
            have HL6 := Lib.hid ho6.tbIn
            have HL5b := Lib.hid (HL5.out.up hb)
            have HLO6 := Lib.hid (HLO5.out.trans (hb.mono HLO5.out.size))
            have HR6 : Hid (w6.heap[w3.heap.size]? = some (.cells #[.string ⟨fk.1.toArray⟩, .string ⟨fk.2.1.toArray⟩, .bool fk.2.2] 29)) := (hb.block _ (by omega)).trans HR5.out
            have HP6 : Hid (w6.heap[p]? = some (.cells #[.string ⟨fk.1.toArray⟩, .string ⟨fk.2.1.toArray⟩, .bool fk.2.2] 29)) := (hb.block _ (by omega)).trans HP5.out
            have hz6 := hb.size
            clear CR ho6 hb HLO5 HTB5 HR5 HP5 HL5
            have CS := Lib.hid (same10_any _ _ _ _ w6 HL5b.out HL6.out)
            go_wp2_with fail
            refine CS.out.mono ?_
            rintro e w7 ⟨sm, rfl, hs, hb⟩
            obtain rfl : sm = true := by simpa using hs
            have HLO7 := Lib.hid (HLO6.out.trans (hb.mono HLO6.out.size))
            have hr7 := (hb.block _ (by omega)).trans HR6.out
            have hp7 := (hb.block _ (by omega)).trans HP6.out
            have y0 := cell_of_row _ _ 0 _ _ _ hr7
            have y1 := cell_of_row _ _ 1 _ _ _ hr7
            have y2 := cell_of_row _ _ 2 _ _ _ hr7
            have x0 := cell_of_row _ _ 0 _ _ _ hp7
            have x1 := cell_of_row _ _ 1 _ _ _ hp7
            have x2 := cell_of_row _ _ 2 _ _ _ hp7
            have hq := eql_wr fk fk
            rw [(eqW_iff fk fk).2 rfl] at hq
            have hgd := guard_wr
            clear CS hs hb HLO6 HR6 HP6 HL5b HL6 hr7 hp7
            go_wp2_with fail
            go_ret
            exact ⟨rfl, HLO7.out⟩
          case true =>
            have hf : getW (mergeW true Ts) key = none := by rw [hfin]; simp
            have hg9 : wr.grownBy (((wr.setCell ⟨p, 0, none⟩ (.string ⟨#[]⟩)).setCell ⟨p, 1, none⟩ (.string ⟨#[]⟩)).setCell ⟨p, 2, none⟩ (.bool false)) (some p) := ((set_grown _ p 0 _).andThen (set_grown _ p 1 _) (fun j e => .inr e)).andThen (set_grown _ p 2 _) (fun j e => .inr e)
            have M := Lib.hid (hM2.put hpw (q := none) hg9 (wr_row hbx))
            have hr1 : ∀ x, (wr.setCell ⟨p, 0, none⟩ x).heap[p]? = some (.cells #[x, .string ⟨qv.toArray⟩, .bool true] 29) := fun x => by simp [World.setCell, Array.getElem?_modify, hbx]
            have hr2 : ∀ x y, ((wr.setCell ⟨p, 0, none⟩ x).setCell ⟨p, 1, none⟩ y).heap[p]? = some (.cells #[x, y, .bool true] 29) := fun x y => by simp [World.setCell, Array.getElem?_modify, hbx]
            have f0 := hff 0
            have s1 : ∀ x, (wr.setCell ⟨p, 0, none⟩ x).cell? ⟨p, 1, none⟩ = some (.string ⟨qv.toArray⟩) := fun x => cell_of_row _ _ 1 _ _ _ (hr1 x)
            have f1 : ∀ x, (wr.setCell ⟨p, 0, none⟩ x).frozen? ⟨p, 1, none⟩ = false := fun x => by simp only [World.frozen?, hr1 x]; rfl
            have s2 : ∀ x y, ((wr.setCell ⟨p, 0, none⟩ x).setCell ⟨p, 1, none⟩ y).cell? ⟨p, 2, none⟩ = some (.bool true) := fun x y => cell_of_row _ _ 2 _ _ _ (hr2 x y)
            have f2 : ∀ x y, ((wr.setCell ⟨p, 0, none⟩ x).setCell ⟨p, 1, none⟩ y).frozen? ⟨p, 2, none⟩ = false := fun x y => by simp only [World.frozen?, hr2 x y]; rfl
            clear hfin hM2 hbx hff hr1 hr2 hg9 b1
            go_wp2_with fail
            generalize ((wr.setCell ⟨p, 0, none⟩ (.string ⟨#[]⟩)).setCell ⟨p, 1, none⟩ (.string ⟨#[]⟩)).setCell ⟨p, 2, none⟩ (.bool false) = wt at *
            clear f0 f1 f2 s1 s2 b0 b2
            have hTi := tabs_in M.out.o1 M.out.ps
            have hTb := tbs_in M.out.o2 M.out.rs
            rw [HT.out] at hTi hTb
            have HTB := Lib.hid hTb
            have CM := Lib.hid (tmerge_any true _ Ts wt hTi (by omega))
            obtain ⟨R, hR⟩ : ∃ R, mergeW true Ts = R := ⟨_, rfl⟩
            have hRl : R.length ≤ 65536 := by rw [← hR]; exact Nat.le_trans (merge_len _ _) hlen
            rw [hR] at CM hf
            have HR := Lib.hid hR
            have HF := Lib.hid hf
            clear hTi hTb hR hf
            refine CM.out.mono ?_
            intro e w2 h1
            obtain ⟨v1, rfl, ⟨g, rfl⟩, ht, hb⟩ := h1.tab
            have M2 := Lib.hid (M.out.below hb)
            have HT2 := Lib.hid ht
            have HTB2 := Lib.hid (HTB.out.below hb)
            have hz2 := hb.size
            clear CM hb ht h1 M HTB
            have CT := Lib.hid (tget_any _ R key w2 HT2.out hkm)
            rw [HF.out] at CT
            go_wp2_with fail
            refine CT.out.mono ?_
            rintro e w3 ⟨rfl, hb⟩
            have M3 := Lib.hid (M2.out.below hb)
            have HT3 := Lib.hid (HT2.out.below hb)
            have hz3 := hb.size
            have HTB3 := Lib.hid (HTB2.out.below (hb.mono hz2))
            clear CT hb M2 HT2 HTB2
            obtain ⟨fk, hfk⟩ : ∃ x, (none : Option Wr).getD ⟨[], [], false⟩ = x := ⟨_, rfl⟩
            have hbx4 : Below w3.heap.size w3 (w3.alloc (.cells #[.string ⟨fk.1.toArray⟩, .string ⟨fk.2.1.toArray⟩, .bool fk.2.2] 29)) := (Below.refl _ _).alloc (Nat.le_refl _) _
            rw [hfk]
            dsimp only [Option.isSome_none, Option.isSome_some]
            have hbox3 := M3.out.box
            unfold wbox at hbox3
            rw [hfk] at hbox3
            have HBX := Lib.hid hbox3
            have hsz := M3.out.size
            have HLO := Lib.hid (M3.out.low.trans (hbx4.mono M3.out.low.size))
            have CA := Lib.hid (tall_any _ R _ (HT3.out.below hbx4) (by omega))
            have hrow4 : (w3.alloc (.cells #[.string ⟨fk.1.toArray⟩, .string ⟨fk.2.1.toArray⟩, .bool fk.2.2] 29)).heap[w3.heap.size]? = some (.cells #[.string ⟨fk.1.toArray⟩, .string ⟨fk.2.1.toArray⟩, .bool fk.2.2] 29) := heap_alloc_new _ _
            have hbp4 := (hbx4.block p hsz).trans hbox3
            have HTB4 := Lib.hid (HTB3.out.below (hbx4.mono (Nat.le_trans hz2 hz3)))
            have hz4 := hbx4.size
            have hw3l : w3.heap.size < (w3.alloc (.cells #[.string ⟨fk.1.toArray⟩, .string ⟨fk.2.1.toArray⟩, .bool fk.2.2] 29)).heap.size := by simp
            have HR4 := Lib.hid hrow4
            have HP4 := Lib.hid hbp4
            clear hbox3 hbx4 M3 HT3 HTB3 hrow4 hbp4 hfk
            go_wp2_with fail
            refine CA.out.mono ?_
            rintro e w5 ⟨va5, rfl, hn, hb⟩
            have HL5 := Lib.hid hn.tbIn
            have HLO5 := Lib.hid (HLO.out.trans (hb.mono HLO.out.size))
            have HTB5 := Lib.hid (HTB4.out.below (hb.mono (Nat.le_trans (Nat.le_trans hz2 hz3) hz4)))
            have HR5 : Hid (w5.heap[w3.heap.size]? = some (.cells #[.string ⟨fk.1.toArray⟩, .string ⟨fk.2.1.toArray⟩, .bool fk.2.2] 29)) := (hb.block _ hw3l).trans HR4.out
            have HP5 : Hid (w5.heap[p]? = some (.cells #[.string ⟨fk.1.toArray⟩, .string ⟨fk.2.1.toArray⟩, .bool fk.2.2] 29)) := (hb.block _ (by omega)).trans HP4.out
            have hz5 := hb.size
            clear CA hn hb HLO HTB4 HR4 HP4
            have CR := Lib.hid (rmerge_any true _ Ts w5 (by obtain ⟨A, c, h1, h2, h3, h4⟩ := HTB5.out; exact ⟨A, c, h1, h2, h3, fun hp => by obtain ⟨b, off, e, hb, hc⟩ := h4 hp; exact ⟨b, off, e, by omega, fun i l hi => by obtain ⟨x, hx, hy⟩ := hc i l hi; exact ⟨x, hx.more (by omega), hy⟩⟩⟩) (by omega))
            rw [HR.out] at CR
            go_wp2_with fail
            refine CR.out.mono ?_
            rintro e w6 ⟨va6, rfl, ho6, hb⟩
            have HL6 := Lib.hid ho6.tbIn
            have HL5b := Lib.hid (HL5.out.up hb)
            have HLO6 := Lib.hid (HLO5.out.trans (hb.mono HLO5.out.size))
            have HR6 : Hid (w6.heap[w3.heap.size]? = some (.cells #[.string ⟨fk.1.toArray⟩, .string ⟨fk.2.1.toArray⟩, .bool fk.2.2] 29)) := (hb.block _ (by omega)).trans HR5.out
            have HP6 : Hid (w6.heap[p]? = some (.cells #[.string ⟨fk.1.toArray⟩, .string ⟨fk.2.1.toArray⟩, .bool fk.2.2] 29)) := (hb.block _ (by omega)).trans HP5.out
            have hz6 := hb.size
            clear CR ho6 hb HLO5 HTB5 HR5 HP5 HL5
            have CS := Lib.hid (same10_any _ _ _ _ w6 HL5b.out HL6.out)
            go_wp2_with fail
            refine CS.out.mono ?_
            rintro e w7 ⟨sm, rfl, hs, hb⟩
            obtain rfl : sm = true := by simpa using hs
            have HLO7 := Lib.hid (HLO6.out.trans (hb.mono HLO6.out.size))
            have hr7 := (hb.block _ (by omega)).trans HR6.out
            have hp7 := (hb.block _ (by omega)).trans HP6.out
            have y0 := cell_of_row _ _ 0 _ _ _ hr7
            have y1 := cell_of_row _ _ 1 _ _ _ hr7
            have y2 := cell_of_row _ _ 2 _ _ _ hr7
            have x0 := cell_of_row _ _ 0 _ _ _ hp7
            have x1 := cell_of_row _ _ 1 _ _ _ hp7
            have x2 := cell_of_row _ _ 2 _ _ _ hp7
            have hq := eql_wr fk fk
            rw [(eqW_iff fk fk).2 rfl] at hq
            have hgd := guard_wr
            clear CS hs hb HLO6 HR6 HP6 HL5b HL6 hr7 hp7
            go_wp2_with fail
            go_ret
            exact ⟨rfl, HLO7.out⟩

end Go.Proofs.Ytcliknmcefcaeaa.Cd

namespace Go.Proofs.Ytcliknmcefcaeaa.TableMerges
open Go.RowKit Go.Proofs.Ytcliknmcefcaeaa.Cd

theorem walk (whole : Bool) (va : Value) (ls : List (List Wr)) (key : ByteArray) (w : World) (ha : Cd.TbsIn w w.heap.size va ls ∧ ∀ l ∈ ls, FitW l) (hk : key.size ≤ 140737488351232) :
    Calls Try.prog 4 #[.bool whole, va, .string key] w (Gives (.bool true) w) := by
  obtain ⟨⟨k⟩⟩ := key
  exact tm_main whole va ls k w ha.1 ha.2 hk

end Go.Proofs.Ytcliknmcefcaeaa.TableMerges
