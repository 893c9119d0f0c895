/-
  TableOf: the law's walk. Conditions: none.
-/
import Derived.Test.YtcliknmcefcaeaaTbRefBytes
import Derived.Test.YtcliknmcefcaeaaTmMid
import Derived.Test.YtcliknmcefcaeaaByHand
namespace Go.Proofs.Ytcliknmcefcaeaa.Cd
open Go.RowKit Go.Maps

theorem get_hit {T : List Wr} (hs : SrtW T) {k : Nat} {p : Wr} (h : T[k]? = some p) : getW (T.take (k + 1)) p.1 = some p := by
  refine getW_of_mem (hs.sublist (List.take_sublist _ _)) ?_
  obtain ⟨h1, h2⟩ := List.getElem?_eq_some_iff.1 h
  rw [List.take_succ_eq_append_getElem h1, h2]
  simp
theorem get_miss {T : List Wr} {k : Nat} {p : Wr} {key : List UInt8} (h : T[k]? = some p) (hne : p.1 ≠ key) : getW (T.take (k + 1)) key = getW (T.take k) key := by
  obtain ⟨h1, h2⟩ := List.getElem?_eq_some_iff.1 h
  rw [List.take_succ_eq_append_getElem h1, h2]
  unfold getW
  rw [List.find?_append]
  have : (p.1 == key) = false := by simpa using hne
  simp [this]

/-- Midway: the box of what Get answered at p, of what was found so far behind it. -/
structure MidO (W : World) (p : Nat) (fk : Wr) (o : Option Wr) (wr : World) : Prop where
  low : Below p W wr
  bw : wr.heap[p]? = some (wbox (some fk))
  bx : wr.heap[p + 1]? = some (wbox o)
  size : p + 2 ≤ wr.heap.size

theorem MidO.below {W wr w' : World} {p : Nat} {fk : Wr} {o : Option Wr} (h : MidO W p fk o wr) (hb : Below wr.heap.size wr w') : MidO W p fk o w' :=
  ⟨h.low.trans (hb.mono (by have := h.size; omega)), (hb.block _ (by have := h.size; omega)).trans h.bw, (hb.block _ (by have := h.size; omega)).trans h.bx, Nat.le_trans h.size hb.size⟩
theorem MidO.put {W wr w' : World} {p : Nat} {fk : Wr} {o : Option Wr} (h : MidO W p fk o wr) {q : Option Wr} (hg : wr.grownBy w' (some (p + 1))) (hb : w'.heap[p + 1]? = some (wbox q)) : MidO W p fk q w' := by
  have hl : Below (p + 1) wr w' := (Below.refl _ _).grown hg (by have := h.size; omega) (fun k e => by injection e with e; omega)
  exact ⟨h.low.trans (hl.mono (by omega)), (hl.block p (by omega)).trans h.bw, hb, Nat.le_trans h.size hg.size⟩

set_option maxRecDepth 100000 in
set_option maxHeartbeats 6400000 in
theorem to_main (va : Value) (l : List Wr) (key : List UInt8) (w : World) (ha : TbIn w w.heap.size va l) (Fl : FitW l) (hkey : key.length ≤ 140737488351232) :
    Calls Try.prog 3 #[va, .string ⟨key.toArray⟩] w (Gives (.bool true) w) := by
  obtain ⟨A0, c0, rfl, hl1, hl2⟩ := ha.len
  have Ha := Lib.hid ha
  have HB : Hid (Below w.heap.size w w) := Below.refl _ _
  clear ha
  go_enter Try.func3, Try.ntmps3
  have CA := Lib.hid (alive10 w)
  go_wp2_with fail
  refine CA.out.mono ?_
  rintro e w1 ⟨rfl, hb⟩
  clear CA
  replace Ha := Lib.hid (Ha.out.up hb)
  replace HB := Lib.hid (HB.out.trans (hb.mono HB.out.size))
  clear hb
  have CG := Lib.hid (great10_any _ _ 8192 w1 Ha.out Fl (by omega))
  go_wp2_with fail
  refine CG.out.mono ?_
  rintro e w2 ⟨gr, rfl, hb, hg⟩
  clear CG
  replace Ha := Lib.hid (Ha.out.up hb)
  replace HB := Lib.hid (HB.out.trans (hb.mono HB.out.size))
  clear hb
  cases gr
  case true =>
    clear hg
    go_wp2_with fail
    go_ret
    exact ⟨rfl, HB.out⟩
  have hsl := hg rfl
  have hNl := len_of hsl
  have hMl := Nat.le_trans (sumW_len l) hsl
  clear hg
  by_cases hk : key.length ≤ 1024
  case neg =>
    have hk' : (1024 : Int) < key.length := by omega
    go_wp2_with fail
    go_ret
    exact ⟨rfl, HB.out⟩
  have hk' : (key.length : Int) ≤ 1024 := by omega
  have hkm : key.length ≤ maxLen := by simp only [maxLen]; omega
  have CO := Lib.hid (tof_any _ l w2 Ha.out Fl (by omega))
  go_wp2_with fail
  refine CO.out.mono ?_
  intro e w3 h1
  obtain ⟨v1, rfl, ⟨g, rfl⟩, ht, hb⟩ := h1.tab
  obtain ⟨T, eT⟩ : ∃ res, ofW l = res := ⟨_, rfl⟩
  rw [eT] at ht hNl
  have HT := Lib.hid ht
  have ET := Lib.hid eT
  replace Ha := Lib.hid (Ha.out.up hb)
  replace HB := Lib.hid (HB.out.trans (hb.mono HB.out.size))
  clear CO hb ht h1 eT hk' hk
  have CR := Lib.hid (rof_any _ l w3 Ha.out (by omega))
  go_wp2_with fail
  refine CR.out.mono ?_
  rintro e w4 ⟨v4, rfl, ho, hb⟩
  rw [ET.out] at ho
  obtain ⟨A4, c4, rfl, hc1, hc2⟩ := ho.tbIn.len
  have HW := Lib.hid ho.tbIn
  replace HT := Lib.hid (HT.out.below hb)
  replace HB := Lib.hid (HB.out.trans (hb.mono HB.out.size))
  clear CR hb ho Ha
  have CT := Lib.hid (tget_any _ T key w4 HT.out hkm)
  obtain ⟨o, ho⟩ : ∃ o, getW T key = o := ⟨_, rfl⟩
  rw [ho] at CT
  have HO := Lib.hid ho
  clear ho
  obtain ⟨fk, hfk⟩ : ∃ x, o.getD ⟨[], [], false⟩ = x := ⟨_, rfl⟩
  obtain ⟨is, his⟩ : ∃ x, o.isSome = x := ⟨_, rfl⟩
  unfold Found at CT
  rw [hfk, his] at CT
  have HFK := Lib.hid hfk
  have HIS := Lib.hid his
  clear hfk his
  go_wp2_with fail
  refine CT.out.mono ?_
  rintro e w5 ⟨rfl, hb⟩
  replace HW := Lib.hid (HW.out.up hb)
  replace HT := Lib.hid (HT.out.below hb)
  replace HB := Lib.hid (HB.out.trans (hb.mono HB.out.size))
  clear CT hb
  have hm0 : MidO w5 w5.heap.size fk none ((w5.alloc (.cells #[.string ⟨fk.1.toArray⟩, .string ⟨fk.2.1.toArray⟩, .bool fk.2.2] 29)).alloc (.cells #[.string ⟨#[]⟩, .string ⟨#[]⟩, .bool false] 29)) := by
    have h0 := (Below.refl w5.heap.size w5).alloc (Nat.le_refl _) (.cells #[.string ⟨fk.1.toArray⟩, .string ⟨fk.2.1.toArray⟩, .bool fk.2.2] 29)
    have h1 := (Below.refl (w5.heap.size + 1) (w5.alloc (.cells #[.string ⟨fk.1.toArray⟩, .string ⟨fk.2.1.toArray⟩, .bool fk.2.2] 29))).alloc (by simp) (.cells #[.string ⟨#[]⟩, .string ⟨#[]⟩, .bool false] 29)
    refine ⟨h0.trans (h1.mono (by omega)), (h1.block _ (by omega)).trans (heap_alloc_new _ _), ?_, by simp⟩
    have := heap_alloc_new (w5.alloc (.cells #[.string ⟨fk.1.toArray⟩, .string ⟨fk.2.1.toArray⟩, .bool fk.2.2] 29)) (.cells #[.string ⟨#[]⟩, .string ⟨#[]⟩, .bool false] 29)
    rw [show (w5.alloc (.cells #[.string ⟨fk.1.toArray⟩, .string ⟨fk.2.1.toArray⟩, .bool fk.2.2] 29)).heap.size = w5.heap.size + 1 by simp] at this
    exact this
  have HM0 := Lib.hid hm0
  have HTl : Hid (T.length ≤ 8192) := hNl
  have HS8 : Hid (sumW T ≤ 8192) := by rw [← ET.out]; exact Nat.le_trans (sumW_of l) hsl
  clear hm0
  go_wp2_with fail
  generalize (w5.alloc (.cells #[.string ⟨fk.1.toArray⟩, .string ⟨fk.2.1.toArray⟩, .bool fk.2.2] 29)).alloc (.cells #[.string ⟨#[]⟩, .string ⟨#[]⟩, .bool false] 29) = W0 at *
  have hpw := HB.out.size
  generalize hp : w5.heap.size = p at *
  have HP := Lib.hid hp
  clear hp hNl hsl hMl
  go_loopw [10, 37] (fun a10 i wr => ∃ (k : Nat) (b : Bool), i = .int .i64 k ∧ k ≤ T.length ∧ a10 = .bool b ∧ Hid ((getW (T.take k) key).isSome = b) ∧ Hid (MidO w5 p fk (getW (T.take k) key) wr)) (fun _ i _ => T.length - (intOf i).toNat)
  case atStart => exact ⟨0, false, rfl, by omega, rfl, rfl, HM0.out⟩
  case round =>
    obtain ⟨k, b, rfl, hk, rfl, hisb, hM⟩ := hrel
    by_cases hlt : k < T.length
    case pos =>
      obtain ⟨q, hqk⟩ : ∃ q, T[k]? = some q := ⟨T[k], List.getElem?_eq_getElem hlt⟩
      obtain ⟨b2, off2, e2, hB2, d0, d1, d2⟩ := (HW.out.below hM.out.low).at hqk
      subst e2
      have hap : Below wr.heap.size wr (wr.alloc (.cells #[.string ⟨q.1.toArray⟩, .string ⟨q.2.1.toArray⟩, .bool q.2.2] 29)) := (Below.refl _ _).alloc (Nat.le_refl _) _
      have hM2 := hM.out.below hap
      have hsz7 := hM.out.size
      by_cases hkq : q.1 = key
      case neg =>
        have hms := get_miss hqk hkq
        have hM3 : Hid (MidO w5 p fk (getW (T.take (k + 1)) key) (wr.alloc (.cells #[.string ⟨q.1.toArray⟩, .string ⟨q.2.1.toArray⟩, .bool q.2.2] 29))) := by unfold Hid; rw [hms]; exact hM2
        have hi3 : Hid ((getW (T.take (k + 1)) key).isSome = b) := by unfold Hid; rw [hms]; exact hisb.out
        have hne : (q.1 == key) = false := by simpa using hkq
        clear hM2 hms hM hap
        go_wp2_with fail
        go_roundw
        case rel => exact ⟨k + 1, b, by go_num, by omega, rfl, hi3, hM3⟩
        case measure => simp [intOf]; omega
      case pos =>
        have hht := get_hit (ofW_srt l) (by rw [ET.out]; exact hqk)
        rw [ET.out, hkq] at hht
        have hr0 := hM.out.bx
        obtain ⟨B0, hB0⟩ : ∃ x, (getW (T.take k) key).getD ⟨[], [], false⟩ = x := ⟨_, rfl⟩
        unfold wbox at hr0
        rw [hB0] at hr0
        have hra : ∀ o : Obj, (wr.alloc o).heap[p + 1]? = some (.cells #[.string ⟨B0.1.toArray⟩, .string ⟨B0.2.1.toArray⟩, .bool B0.2.2] 29) := fun o => (((Below.refl _ _).alloc (Nat.le_refl wr.heap.size) o).block (p + 1) (by omega)).trans hr0
        have hr1 : ∀ (x : Value) (o : Obj), ((wr.alloc o).setCell ⟨p + 1, 0, none⟩ x).heap[p + 1]? = some (.cells #[x, .string ⟨B0.2.1.toArray⟩, .bool B0.2.2] 29) := fun x o => by simp [World.setCell, Array.getElem?_modify, hra o]
        have hr2 : ∀ (x y : Value) (o : Obj), (((wr.alloc o).setCell ⟨p + 1, 0, none⟩ x).setCell ⟨p + 1, 1, none⟩ y).heap[p + 1]? = some (.cells #[x, y, .bool B0.2.2] 29) := fun x y o => by simp [World.setCell, Array.getElem?_modify, hra o]
        have z0 : ∀ o : Obj, (wr.alloc o).cell? ⟨p + 1, 0, none⟩ = some (.string ⟨B0.1.toArray⟩) := fun o => cell_of_row _ _ 0 _ _ _ (hra o)
        have f0 : ∀ (o : Obj), (wr.alloc o).frozen? ⟨p + 1, 0, none⟩ = false := fun o => by simp only [World.frozen?, hra o]; rfl
        have z1 : ∀ (x : Value) (o : Obj), ((wr.alloc o).setCell ⟨p + 1, 0, none⟩ x).cell? ⟨p + 1, 1, none⟩ = some (.string ⟨B0.2.1.toArray⟩) := fun x o => cell_of_row _ _ 1 _ _ _ (hr1 x o)
        have f1 : ∀ (x : Value) (o : Obj), ((wr.alloc o).setCell ⟨p + 1, 0, none⟩ x).frozen? ⟨p + 1, 1, none⟩ = false := fun x o => by simp only [World.frozen?, hr1 x o]; rfl
        have z2 : ∀ (x y : Value) (o : Obj), (((wr.alloc o).setCell ⟨p + 1, 0, none⟩ x).setCell ⟨p + 1, 1, none⟩ y).cell? ⟨p + 1, 2, none⟩ = some (.bool B0.2.2) := fun x y o => cell_of_row _ _ 2 _ _ _ (hr2 x y o)
        have f2 : ∀ (x y : Value) (o : Obj), (((wr.alloc o).setCell ⟨p + 1, 0, none⟩ x).setCell ⟨p + 1, 1, none⟩ y).frozen? ⟨p + 1, 2, none⟩ = false := fun x y o => by simp only [World.frozen?, hr2 x y o]; rfl
        have hg8 : (wr.alloc (.cells #[.string ⟨q.1.toArray⟩, .string ⟨q.2.1.toArray⟩, .bool q.2.2] 29)).grownBy (((((wr.alloc (.cells #[.string ⟨q.1.toArray⟩, .string ⟨q.2.1.toArray⟩, .bool q.2.2] 29)).setCell ⟨p + 1, 0, none⟩ (.string ⟨q.1.toArray⟩)).setCell ⟨p + 1, 1, none⟩ (.string ⟨q.2.1.toArray⟩)).setCell ⟨p + 1, 2, none⟩ (.bool q.2.2))) (some (p + 1)) := ((set_grown _ (p + 1) 0 _).andThen (set_grown _ (p + 1) 1 _) (fun j e => .inr e)).andThen (set_grown _ (p + 1) 2 _) (fun j e => .inr e)
        have M8 := Lib.hid (hM2.put (q := some q) hg8 (wr_row (hra _)))
        have hw2 : Hid (getW (T.take (k + 1)) key = some q) := hht
        have heq : (q.1 == key) = true := by simpa using hkq
        clear hM hM2 hap hr0 hra hr1 hr2 hg8 hht
        go_wp2_with fail
        go_roundw
        case rel => exact ⟨k + 1, true, by go_num, by omega, rfl, by unfold Hid; rw [hw2.out]; rfl, by unfold Hid; rw [hw2.out]; have := M8.out; rw [hkq] at this; exact this⟩
        case measure => simp [intOf]; omega
    case neg =>
      have hke : T.take k = T := List.take_of_length_le (by omega)
      have hM2 := hM.out
      have hb2 := hisb.out
      rw [hke, HO.out] at hM2 hb2
      rw [HIS.out] at hb2
      subst hb2
      have hT6 : TabV wr (.pointer (some ⟨g, 0, none⟩)) T := HT.out.below (by rw [HP.out]; exact hM2.low)
      have hW6 : TbIn wr wr.heap.size (.slice A4 T.length c4) T := (HW.out.below hM2.low).more (by have := hM2.size; omega)
      have HT6 := Lib.hid hT6
      have HW6 := Lib.hid hW6
      have HL6 : Hid (Below w.heap.size w wr) := HB.out.trans (hM2.low.mono hpw)
      have hbw := hM2.bw
      have hbx := hM2.bx
      have hsz := hM2.size
      unfold wbox at hbw hbx
      rw [HFK.out] at hbx
      dsimp only [Option.getD_some] at hbw
      have HBW := Lib.hid hbw
      have HBX := Lib.hid hbx
      have hss : sumW T ≤ 1048576 := by have := HS8.out; omega
      have HSS := Lib.hid hss
      have hTl2 := HTl.out
      have CN := Lib.hid (tget_any (.pointer none) [] key wr (.inl ⟨rfl, rfl⟩) hkm)
      unfold Found at CN
      rw [show getW [] key = none from rfl] at CN
      dsimp only [Option.getD_none, Option.isSome_none] at CN
      clear hM hM2 hisb hT6 hW6 hbw hbx HB HW HT HO HFK HIS HM0 hss
      go_wp2_with fail
      refine CN.out.mono ?_
      rintro e w7 ⟨rfl, hb⟩
      have hz7 := hb.size
      have hal := (hb.trans (((Below.refl w7.heap.size w7).alloc (Nat.le_refl _) (.cells #[.string ⟨#[]⟩, .string ⟨#[]⟩, .bool false] 29)).mono hz7))
      have HA7 := Lib.hid hal
      clear CN hb hal
      go_wp2_with fail
      generalize w7.alloc (.cells #[.string ⟨#[]⟩, .string ⟨#[]⟩, .bool false] 29) = w8 at *
      have HDr := Lib.hid HA7.out.drew
      have KS : Hid (∀ W, Below wr.heap.size wr W → (W.cell? ⟨p, 0, none⟩ = some (.string ⟨fk.1.toArray⟩) ∧ W.cell? ⟨p, 1, none⟩ = some (.string ⟨fk.2.1.toArray⟩) ∧ W.cell? ⟨p, 2, none⟩ = some (.bool fk.2.2)) ∧ (W.cell? ⟨p + 1, 0, none⟩ = some (.string ⟨fk.1.toArray⟩) ∧ W.cell? ⟨p + 1, 1, none⟩ = some (.string ⟨fk.2.1.toArray⟩) ∧ W.cell? ⟨p + 1, 2, none⟩ = some (.bool fk.2.2))) := fun W hW => by
        have hr := (hW.block p (by omega)).trans HBW.out
        have hx := (hW.block (p + 1) (by omega)).trans HBX.out
        exact ⟨⟨cell_of_row _ _ 0 _ _ _ hr, cell_of_row _ _ 1 _ _ _ hr, cell_of_row _ _ 2 _ _ _ hr⟩, ⟨cell_of_row _ _ 0 _ _ _ hx, cell_of_row _ _ 1 _ _ _ hx, cell_of_row _ _ 2 _ _ _ hx⟩⟩
      obtain ⟨W0, hW0⟩ : ∃ x, w8.drew = x := ⟨_, rfl⟩
      rw [hW0] at HDr
      have hq := eql_wr fk fk
      rw [(eqW_iff fk fk).2 rfl] at hq
      have hgd := guard_wr
      clear HA7 HP HTl HS8 hke ET Fl HBW HBX
      refine region_begin hW0 (S := fun W => Below wr.heap.size wr W) (by kernel_rfl) HDr.out (fun hHeld => ?_)
      clear hW0
      refine take_at (i := 0) (.pointer (some ⟨g, 0, none⟩)) (some 53) (by decide) (by rfl) (by kernel_rfl) (by kernel_rfl) (by kernel_rfl) (fun _ _ _ h => h) (by rfl) (fun W hW => by go_simp) (by assumption) ?_
      simp only [Act.put, List.setIfInBounds_toArray, List.set_cons_zero, List.set_cons_succ]
      refine take_at (i := 2) (.slice A4 T.length c4) (some 55) (by decide) (by rfl) (by kernel_rfl) (by kernel_rfl) (by kernel_rfl) (fun _ _ _ h => h) (by rfl) (fun W hW => by go_simp) (by assumption) ?_
      simp only [Act.put, List.setIfInBounds_toArray, List.set_cons_zero, List.set_cons_succ]
      refine wpAnyH_ready (rs := [1]) (by kernel_rfl) (by simp) (AllReadyH.cons (Array.getElem?_eq_getElem (i := 1) (by decide)) (fun K9 hK => ?_) AllReadyH.nil)
      go_simp
      refine (tall_any _ T W0 (HT6.out.below HDr.out) (by omega)).mono ?_
      rintro e wA ⟨vA, rfl, hn, hb⟩
      have HLA := Lib.hid hn.tbIn
      have HDA := Lib.hid (HDr.out.trans (hb.mono HDr.out.size))
      clear hn hb
      have HH := HDA.out
      refine hK.out _ _ HH (fun hHeld => ?_)
      clear hK K9 HH
      try simp only [Act.put, List.setIfInBounds_toArray, List.set_cons_zero, List.set_cons_succ]
      refine wpAnyH_ready (rs := [3]) (by kernel_rfl) (by simp) (AllReadyH.cons (Array.getElem?_eq_getElem (i := 3) (by decide)) (fun K9 hK => ?_) AllReadyH.nil)
      go_simp
      refine (same10_any _ _ _ _ wA HLA.out ((HW6.out.below HDA.out).more HDA.out.size)).mono ?_
      rintro e wS ⟨sm, rfl, hs, hb⟩
      obtain rfl : sm = true := hs.2 rfl
      have HDS := Lib.hid (HDA.out.trans (hb.mono HDA.out.size))
      clear hs hb HLA
      have HH := HDS.out
      refine hK.out _ _ HH (fun hHeld => ?_)
      clear hK K9 HH
      try simp only [Act.put, List.setIfInBounds_toArray, List.set_cons_zero, List.set_cons_succ]
      refine take_at (i := 4) (.bool true) (some 57) (by decide) (by rfl) (by kernel_rfl) (by kernel_rfl) (by kernel_rfl) (fun _ _ _ h => h) (by rfl) (fun W hW => by go_simp) (by assumption) ?_
      simp only [Act.put, List.setIfInBounds_toArray, List.set_cons_zero, List.set_cons_succ]
      refine take_at (i := 5) (.bool is) (some 58) (by decide) (by rfl) (by kernel_rfl) (by kernel_rfl) (by kernel_rfl) (fun _ _ _ h => h) (by rfl) (fun W hW => by go_simp) (by assumption) ?_
      simp only [Act.put, List.setIfInBounds_toArray, List.set_cons_zero, List.set_cons_succ]
      refine take_at (i := 6) (.bool is) (some 59) (by decide) (by rfl) (by kernel_rfl) (by kernel_rfl) (by kernel_rfl) (fun _ _ _ h => h) (by rfl) (fun W hW => by go_simp) (by assumption) ?_
      simp only [Act.put, List.setIfInBounds_toArray, List.set_cons_zero, List.set_cons_succ]
      refine take_at (i := 7) (.bool true) (some 60) (by decide) (by rfl) (by kernel_rfl) (by kernel_rfl) (by kernel_rfl) (fun _ _ _ h => h) (by rfl) (fun W hW => by go_simp) (by assumption) ?_
      simp only [Act.put, List.setIfInBounds_toArray, List.set_cons_zero, List.set_cons_succ]
      refine take_at (i := 8) (.bool true) (some 61) (by decide) (by rfl) (by kernel_rfl) (by kernel_rfl) (by kernel_rfl) (fun _ _ _ h => h) (by rfl) (fun W hW => by go_simp) (by assumption) ?_
      simp only [Act.put, List.setIfInBounds_toArray, List.set_cons_zero, List.set_cons_succ]
      refine take_at (i := 9) (.bool true) (some 62) (by decide) (by rfl) (by kernel_rfl) (by kernel_rfl) (by kernel_rfl) (fun _ _ _ h => h) (by rfl) (fun W hW => by go_simp) (by assumption) ?_
      simp only [Act.put, List.setIfInBounds_toArray, List.set_cons_zero, List.set_cons_succ]
      refine take_at (i := 10) (.agg #[.string ⟨fk.1.toArray⟩, .string ⟨fk.2.1.toArray⟩, .bool fk.2.2]) (some 63) (by decide) (by rfl) (by kernel_rfl) (by kernel_rfl) (by kernel_rfl) (fun _ _ _ h => h) (by rfl) (fun W hW => by obtain ⟨⟨x0, x1, x2⟩, y0, y1, y2⟩ := KS.out W hW; go_simp) (by assumption) ?_
      simp only [Act.put, List.setIfInBounds_toArray, List.set_cons_zero, List.set_cons_succ]
      refine take_at (i := 11) (.agg #[.string ⟨fk.1.toArray⟩, .string ⟨fk.2.1.toArray⟩, .bool fk.2.2]) (some 64) (by decide) (by rfl) (by kernel_rfl) (by kernel_rfl) (by kernel_rfl) (fun _ _ _ h => h) (by rfl) (fun W hW => by obtain ⟨⟨x0, x1, x2⟩, y0, y1, y2⟩ := KS.out W hW; go_simp) (by assumption) ?_
      simp only [Act.put, List.setIfInBounds_toArray, List.set_cons_zero, List.set_cons_succ]
      refine take_at (i := 12) (.bool true) (some 65) (by decide) (by rfl) (by kernel_rfl) (by kernel_rfl) (by kernel_rfl) (fun _ _ _ h => h) (by rfl) (fun W hW => by go_simp) (by assumption) ?_
      simp only [Act.put, List.setIfInBounds_toArray, List.set_cons_zero, List.set_cons_succ]
      refine take_at (i := 13) (.bool true) (some 66) (by decide) (by rfl) (by kernel_rfl) (by kernel_rfl) (by kernel_rfl) (fun _ _ _ h => h) (by rfl) (fun W hW => by go_simp) (by assumption) ?_
      simp only [Act.put, List.setIfInBounds_toArray, List.set_cons_zero, List.set_cons_succ]
      refine take_at (i := 14) (.bool true) (some 67) (by decide) (by rfl) (by kernel_rfl) (by kernel_rfl) (by kernel_rfl) (fun _ _ _ h => h) (by rfl) (fun W hW => by go_simp) (by assumption) ?_
      simp only [Act.put, List.setIfInBounds_toArray, List.set_cons_zero, List.set_cons_succ]
      refine take_at (i := 15) (.pointer (some ⟨g, 0, none⟩)) (some 68) (by decide) (by rfl) (by kernel_rfl) (by kernel_rfl) (by kernel_rfl) (fun _ _ _ h => h) (by rfl) (fun W hW => by go_simp) (by assumption) ?_
      simp only [Act.put, List.setIfInBounds_toArray, List.set_cons_zero, List.set_cons_succ]
      refine take_at (i := 18) (.slice A4 T.length c4) (some 71) (by decide) (by rfl) (by kernel_rfl) (by kernel_rfl) (by kernel_rfl) (fun _ _ _ h => h) (by rfl) (fun W hW => by go_simp) (by assumption) ?_
      simp only [Act.put, List.setIfInBounds_toArray, List.set_cons_zero, List.set_cons_succ]
      clear hq hgd
      refine wpAnyH_ready (rs := [16]) (by kernel_rfl) (by simp) (AllReadyH.cons (Array.getElem?_eq_getElem (i := 16) (by decide)) (fun K9 hK => ?_) AllReadyH.nil)
      go_simp
      refine (tbytes_any _ T wS (HT6.out.below HDS.out) HSS.out).mono ?_
      rintro e wB ⟨vB, rfl, ho, hb⟩
      have HDB := Lib.hid (HDS.out.trans (hb.mono HDS.out.size))
      have HOB := Lib.hid ho
      have kB := run_text_of _ _ _ _ ho.sl
      clear ho hb
      have HH := HDB.out
      refine hK.out _ _ HH (fun hHeld => ?_)
      clear hK K9 HH
      try simp only [Act.put, List.setIfInBounds_toArray, List.set_cons_zero, List.set_cons_succ]
      refine wpAnyH_ready (rs := [17, 19]) (by kernel_rfl) (by simp) ?_
      refine come (i := 17) (.string ⟨(bytesW T).toArray⟩) wB (some 70) (by decide) (by rfl) (by rfl) (by go_simp) (by assumption) ?_ (AllReadyH.cons (Array.getElem?_eq_getElem (i := 19) (by decide)) (fun K9 hK => ?_) AllReadyH.nil)
      case refine_1 =>
        simp only [Act.put, List.setIfInBounds_toArray, List.set_cons_zero, List.set_cons_succ]
        refine wpAnyH_ready (rs := [19]) (by kernel_rfl) (by simp) (AllReadyH.cons (Array.getElem?_eq_getElem (i := 19) (by decide)) (fun K9 hK => ?_) AllReadyH.nil)
        go_simp
        refine (rbytes_any _ T wB ((HW6.out.below HDB.out).more HDB.out.size) HSS.out).mono ?_
        rintro e wR ⟨rfl, hb⟩
        have HDR := Lib.hid (HDB.out.trans (hb.mono HDB.out.size))
        have HH := HDR.out
        refine hK.out _ _ HH (fun hHeld => ?_)
        clear hK K9 HH
        try simp only [Act.put, List.setIfInBounds_toArray, List.set_cons_zero, List.set_cons_succ]
        refine take_at (i := 20) (.bool true) (some 73) (by decide) (by rfl) (by kernel_rfl) (by kernel_rfl) (by kernel_rfl) (fun _ _ _ h => h) (by rfl) (fun W hW => by go_simp) (by assumption) ?_
        simp only [Act.put, List.setIfInBounds_toArray, List.set_cons_zero, List.set_cons_succ]
        refine take_at (i := 21) (.bool true) (some 74) (by decide) (by rfl) (by kernel_rfl) (by kernel_rfl) (by kernel_rfl) (fun _ _ _ h => h) (by rfl) (fun W hW => by go_simp) (by assumption) ?_
        simp only [Act.put, List.setIfInBounds_toArray, List.set_cons_zero, List.set_cons_succ]
        refine take_at (i := 22) (.bool true) (some 75) (by decide) (by rfl) (by kernel_rfl) (by kernel_rfl) (by kernel_rfl) (fun _ _ _ h => h) (by rfl) (fun W hW => by go_simp) (by assumption) ?_
        simp only [Act.put, List.setIfInBounds_toArray, List.set_cons_zero, List.set_cons_succ]
        refine take_at (i := 23) (.bool false) (some 76) (by decide) (by rfl) (by kernel_rfl) (by kernel_rfl) (by kernel_rfl) (fun _ _ _ h => h) (by rfl) (fun W hW => by go_simp) (by assumption) ?_
        simp only [Act.put, List.setIfInBounds_toArray, List.set_cons_zero, List.set_cons_succ]
        refine take_at (i := 24) (.bool true) (some 77) (by decide) (by rfl) (by kernel_rfl) (by kernel_rfl) (by kernel_rfl) (fun _ _ _ h => h) (by rfl) (fun W hW => by go_simp) (by assumption) ?_
        simp only [Act.put, List.setIfInBounds_toArray, List.set_cons_zero, List.set_cons_succ]
        refine take_at (i := 25) (.bool true) (some 78) (by decide) (by rfl) (by kernel_rfl) (by kernel_rfl) (by kernel_rfl) (fun _ _ _ h => h) (by rfl) (fun W hW => by go_simp) (by assumption) ?_
        simp only [Act.put, List.setIfInBounds_toArray, List.set_cons_zero, List.set_cons_succ]
        refine take_at (i := 26) (.bool true) (some 79) (by decide) (by rfl) (by kernel_rfl) (by kernel_rfl) (by kernel_rfl) (fun _ _ _ h => h) (by rfl) (fun W hW => by go_simp) (by assumption) ?_
        simp only [Act.put, List.setIfInBounds_toArray, List.set_cons_zero, List.set_cons_succ]
        refine take_at (i := 27) (.pointer none) (some 80) (by decide) (by rfl) (by kernel_rfl) (by kernel_rfl) (by kernel_rfl) (fun _ _ _ h => h) (by rfl) (fun W hW => by go_simp) (by assumption) ?_
        simp only [Act.put, List.setIfInBounds_toArray, List.set_cons_zero, List.set_cons_succ]
        refine wpAnyH_ready (rs := [28]) (by kernel_rfl) (by simp) (AllReadyH.cons (Array.getElem?_eq_getElem (i := 28) (by decide)) (fun K9 hK => ?_) AllReadyH.nil)
        go_simp
        refine (tall_any (.pointer none) [] wR (.inl ⟨rfl, rfl⟩) (by simp)).mono ?_
        rintro e wN ⟨vN, rfl, hn, hb⟩
        obtain ⟨AN, cN, hvN, _, _⟩ := hn.tbIn.len
        rw [List.length_nil] at hvN
        subst hvN
        have HDN := Lib.hid (HDR.out.trans (hb.mono HDR.out.size))
        clear hn hb
        have HH := HDN.out
        refine hK.out _ _ HH (fun hHeld => ?_)
        clear hK K9 HH
        try simp only [Act.put, List.setIfInBounds_toArray, List.set_cons_zero, List.set_cons_succ]
        refine take_at (i := 29) (.int .i64 0) (some 82) (by decide) (by rfl) (by kernel_rfl) (by kernel_rfl) (by kernel_rfl) (fun _ _ _ h => h) (by rfl) (fun W hW => by go_simp) (by assumption) ?_
        simp only [Act.put, List.setIfInBounds_toArray, List.set_cons_zero, List.set_cons_succ]
        refine take_at (i := 30) (.bool true) (some 83) (by decide) (by rfl) (by kernel_rfl) (by kernel_rfl) (by kernel_rfl) (fun _ _ _ h => h) (by rfl) (fun W hW => by go_simp) (by assumption) ?_
        simp only [Act.put, List.setIfInBounds_toArray, List.set_cons_zero, List.set_cons_succ]
        refine take_at (i := 31) (.bool true) (some 84) (by decide) (by rfl) (by kernel_rfl) (by kernel_rfl) (by kernel_rfl) (fun _ _ _ h => h) (by rfl) (fun W hW => by go_simp) (by assumption) ?_
        simp only [Act.put, List.setIfInBounds_toArray, List.set_cons_zero, List.set_cons_succ]
        refine take_at (i := 32) (.bool true) (some 85) (by decide) (by rfl) (by kernel_rfl) (by kernel_rfl) (by kernel_rfl) (fun _ _ _ h => h) (by rfl) (fun W hW => by go_simp) (by assumption) ?_
        simp only [Act.put, List.setIfInBounds_toArray, List.set_cons_zero, List.set_cons_succ]
        refine take_at (i := 33) (.pointer none) (some 86) (by decide) (by rfl) (by kernel_rfl) (by kernel_rfl) (by kernel_rfl) (fun _ _ _ h => h) (by rfl) (fun W hW => by go_simp) (by assumption) ?_
        simp only [Act.put, List.setIfInBounds_toArray, List.set_cons_zero, List.set_cons_succ]
        refine wpAnyH_ready (rs := [34]) (by kernel_rfl) (by simp) (AllReadyH.cons (Array.getElem?_eq_getElem (i := 34) (by decide)) (fun K9 hK => ?_) AllReadyH.nil)
        go_simp
        refine (tbytes_any (.pointer none) [] wN (.inl ⟨rfl, rfl⟩) (by simp [sumW])).mono ?_
        rintro e wC ⟨vC, rfl, ho, hb⟩
        have HDC := Lib.hid (HDN.out.trans (hb.mono HDN.out.size))
        have HOC := Lib.hid ho
        have kC := run_text_of _ _ _ _ ho.sl
        clear ho hb
        have HH := HDC.out
        refine hK.out _ _ HH (fun hHeld => ?_)
        clear hK K9 HH
        try simp only [Act.put, List.setIfInBounds_toArray, List.set_cons_zero, List.set_cons_succ]
        refine wpAnyH_ready (rs := [35, 36]) (by kernel_rfl) (by simp) ?_
        refine come (i := 35) (.string ⟨(bytesW []).toArray⟩) wC (some 88) (by decide) (by rfl) (by rfl) (by go_simp) (by assumption) ?_ (AllReadyH.cons (Array.getElem?_eq_getElem (i := 36) (by decide)) (fun K9 hK => ?_) AllReadyH.nil)
        case refine_1 =>
          simp only [Act.put, List.setIfInBounds_toArray, List.set_cons_zero, List.set_cons_succ]
          refine wpAnyH_ready (rs := [36]) (by kernel_rfl) (by simp) (AllReadyH.cons (Array.getElem?_eq_getElem (i := 36) (by decide)) (fun K9 hK => ?_) AllReadyH.nil)
          go_simp
          refine (rbytes_any (.slice none 0 0) [] wC (TbIn.nil _ _) (by simp [sumW])).mono ?_
          rintro e wZ ⟨rfl, hb⟩
          have HDZ := Lib.hid (HDC.out.trans (hb.mono HDC.out.size))
          have HH := HDZ.out
          refine hK.out _ _ HH (fun hHeld => ?_)
          clear hK K9 HH
          try simp only [Act.put, List.setIfInBounds_toArray, List.set_cons_zero, List.set_cons_succ]
          refine take_at (i := 37) (.bool true) (some 90) (by decide) (by rfl) (by kernel_rfl) (by kernel_rfl) (by kernel_rfl) (fun _ _ _ h => h) (by rfl) (fun W hW => by go_simp) (by assumption) ?_
          simp only [Act.put, List.setIfInBounds_toArray, List.set_cons_zero, List.set_cons_succ]
          refine take_at (i := 38) (.bool true) (some 91) (by decide) (by rfl) (by kernel_rfl) (by kernel_rfl) (by kernel_rfl) (fun _ _ _ h => h) (by rfl) (fun W hW => by go_simp) (by assumption) ?_
          simp only [Act.put, List.setIfInBounds_toArray, List.set_cons_zero, List.set_cons_succ]
          refine take_at (i := 39) (.bool true) (some 4) (by decide) (by rfl) (by kernel_rfl) (by kernel_rfl) (by kernel_rfl) (fun _ _ _ h => h) (by rfl) (fun W hW => by go_simp) (by assumption) ?_
          simp only [Act.put, List.setIfInBounds_toArray, List.set_cons_zero, List.set_cons_succ]
          refine wpAnyH_done (by kernel_rfl) ?_ _
          go_wp2_with fail
          go_ret
          exact ⟨rfl, HL6.out.trans (HDZ.out.mono HL6.out.size)⟩
        case refine_2 =>
          go_simp
          refine (rbytes_any (.slice none 0 0) [] wC (TbIn.nil _ _) (by simp [sumW])).mono ?_
          rintro e wZ ⟨rfl, hb⟩
          have HDZ := Lib.hid (HDC.out.trans (hb.mono HDC.out.size))
          have kZ := run_text_of _ _ _ _ (HOC.out.keep hb).sl
          have HH := HDZ.out
          refine hK.out _ _ HH (fun hHeld => ?_)
          clear hK K9 HH
          try simp only [Act.put, List.setIfInBounds_toArray, List.set_cons_zero, List.set_cons_succ]
          refine wpAnyH_ready (rs := [35]) (by kernel_rfl) (by simp) (come (i := 35) (.string ⟨(bytesW []).toArray⟩) wZ (some 88) (by decide) (by rfl) (by rfl) (by go_simp) (by assumption) ?_ AllReadyH.nil)
          simp only [Act.put, List.setIfInBounds_toArray, List.set_cons_zero, List.set_cons_succ]
          clear kZ
          refine take_at (i := 37) (.bool true) (some 90) (by decide) (by rfl) (by kernel_rfl) (by kernel_rfl) (by kernel_rfl) (fun _ _ _ h => h) (by rfl) (fun W hW => by go_simp) (by assumption) ?_
          simp only [Act.put, List.setIfInBounds_toArray, List.set_cons_zero, List.set_cons_succ]
          refine take_at (i := 38) (.bool true) (some 91) (by decide) (by rfl) (by kernel_rfl) (by kernel_rfl) (by kernel_rfl) (fun _ _ _ h => h) (by rfl) (fun W hW => by go_simp) (by assumption) ?_
          simp only [Act.put, List.setIfInBounds_toArray, List.set_cons_zero, List.set_cons_succ]
          refine take_at (i := 39) (.bool true) (some 4) (by decide) (by rfl) (by kernel_rfl) (by kernel_rfl) (by kernel_rfl) (fun _ _ _ h => h) (by rfl) (fun W hW => by go_simp) (by assumption) ?_
          simp only [Act.put, List.setIfInBounds_toArray, List.set_cons_zero, List.set_cons_succ]
          refine wpAnyH_done (by kernel_rfl) ?_ _
          go_wp2_with fail
          go_ret
          exact ⟨rfl, HL6.out.trans (HDZ.out.mono HL6.out.size)⟩
      case refine_2 =>
        go_simp
        refine (rbytes_any _ T wB ((HW6.out.below HDB.out).more HDB.out.size) HSS.out).mono ?_
        rintro e wR ⟨rfl, hb⟩
        have HDR := Lib.hid (HDB.out.trans (hb.mono HDB.out.size))
        have kR := run_text_of _ _ _ _ (HOB.out.keep hb).sl
        have HH := HDR.out
        refine hK.out _ _ HH (fun hHeld => ?_)
        clear hK K9 HH
        try simp only [Act.put, List.setIfInBounds_toArray, List.set_cons_zero, List.set_cons_succ]
        refine wpAnyH_ready (rs := [17]) (by kernel_rfl) (by simp) (come (i := 17) (.string ⟨(bytesW T).toArray⟩) wR (some 70) (by decide) (by rfl) (by rfl) (by go_simp) (by assumption) ?_ AllReadyH.nil)
        simp only [Act.put, List.setIfInBounds_toArray, List.set_cons_zero, List.set_cons_succ]
        clear kR
        refine take_at (i := 20) (.bool true) (some 73) (by decide) (by rfl) (by kernel_rfl) (by kernel_rfl) (by kernel_rfl) (fun _ _ _ h => h) (by rfl) (fun W hW => by go_simp) (by assumption) ?_
        simp only [Act.put, List.setIfInBounds_toArray, List.set_cons_zero, List.set_cons_succ]
        refine take_at (i := 21) (.bool true) (some 74) (by decide) (by rfl) (by kernel_rfl) (by kernel_rfl) (by kernel_rfl) (fun _ _ _ h => h) (by rfl) (fun W hW => by go_simp) (by assumption) ?_
        simp only [Act.put, List.setIfInBounds_toArray, List.set_cons_zero, List.set_cons_succ]
        refine take_at (i := 22) (.bool true) (some 75) (by decide) (by rfl) (by kernel_rfl) (by kernel_rfl) (by kernel_rfl) (fun _ _ _ h => h) (by rfl) (fun W hW => by go_simp) (by assumption) ?_
        simp only [Act.put, List.setIfInBounds_toArray, List.set_cons_zero, List.set_cons_succ]
        refine take_at (i := 23) (.bool false) (some 76) (by decide) (by rfl) (by kernel_rfl) (by kernel_rfl) (by kernel_rfl) (fun _ _ _ h => h) (by rfl) (fun W hW => by go_simp) (by assumption) ?_
        simp only [Act.put, List.setIfInBounds_toArray, List.set_cons_zero, List.set_cons_succ]
        refine take_at (i := 24) (.bool true) (some 77) (by decide) (by rfl) (by kernel_rfl) (by kernel_rfl) (by kernel_rfl) (fun _ _ _ h => h) (by rfl) (fun W hW => by go_simp) (by assumption) ?_
        simp only [Act.put, List.setIfInBounds_toArray, List.set_cons_zero, List.set_cons_succ]
        refine take_at (i := 25) (.bool true) (some 78) (by decide) (by rfl) (by kernel_rfl) (by kernel_rfl) (by kernel_rfl) (fun _ _ _ h => h) (by rfl) (fun W hW => by go_simp) (by assumption) ?_
        simp only [Act.put, List.setIfInBounds_toArray, List.set_cons_zero, List.set_cons_succ]
        refine take_at (i := 26) (.bool true) (some 79) (by decide) (by rfl) (by kernel_rfl) (by kernel_rfl) (by kernel_rfl) (fun _ _ _ h => h) (by rfl) (fun W hW => by go_simp) (by assumption) ?_
        simp only [Act.put, List.setIfInBounds_toArray, List.set_cons_zero, List.set_cons_succ]
        refine take_at (i := 27) (.pointer none) (some 80) (by decide) (by rfl) (by kernel_rfl) (by kernel_rfl) (by kernel_rfl) (fun _ _ _ h => h) (by rfl) (fun W hW => by go_simp) (by assumption) ?_
        simp only [Act.put, List.setIfInBounds_toArray, List.set_cons_zero, List.set_cons_succ]
        refine wpAnyH_ready (rs := [28]) (by kernel_rfl) (by simp) (AllReadyH.cons (Array.getElem?_eq_getElem (i := 28) (by decide)) (fun K9 hK => ?_) AllReadyH.nil)
        go_simp
        refine (tall_any (.pointer none) [] wR (.inl ⟨rfl, rfl⟩) (by simp)).mono ?_
        rintro e wN ⟨vN, rfl, hn, hb⟩
        obtain ⟨AN, cN, hvN, _, _⟩ := hn.tbIn.len
        rw [List.length_nil] at hvN
        subst hvN
        have HDN := Lib.hid (HDR.out.trans (hb.mono HDR.out.size))
        clear hn hb
        have HH := HDN.out
        refine hK.out _ _ HH (fun hHeld => ?_)
        clear hK K9 HH
        try simp only [Act.put, List.setIfInBounds_toArray, List.set_cons_zero, List.set_cons_succ]
        refine take_at (i := 29) (.int .i64 0) (some 82) (by decide) (by rfl) (by kernel_rfl) (by kernel_rfl) (by kernel_rfl) (fun _ _ _ h => h) (by rfl) (fun W hW => by go_simp) (by assumption) ?_
        simp only [Act.put, List.setIfInBounds_toArray, List.set_cons_zero, List.set_cons_succ]
        refine take_at (i := 30) (.bool true) (some 83) (by decide) (by rfl) (by kernel_rfl) (by kernel_rfl) (by kernel_rfl) (fun _ _ _ h => h) (by rfl) (fun W hW => by go_simp) (by assumption) ?_
        simp only [Act.put, List.setIfInBounds_toArray, List.set_cons_zero, List.set_cons_succ]
        refine take_at (i := 31) (.bool true) (some 84) (by decide) (by rfl) (by kernel_rfl) (by kernel_rfl) (by kernel_rfl) (fun _ _ _ h => h) (by rfl) (fun W hW => by go_simp) (by assumption) ?_
        simp only [Act.put, List.setIfInBounds_toArray, List.set_cons_zero, List.set_cons_succ]
        refine take_at (i := 32) (.bool true) (some 85) (by decide) (by rfl) (by kernel_rfl) (by kernel_rfl) (by kernel_rfl) (fun _ _ _ h => h) (by rfl) (fun W hW => by go_simp) (by assumption) ?_
        simp only [Act.put, List.setIfInBounds_toArray, List.set_cons_zero, List.set_cons_succ]
        refine take_at (i := 33) (.pointer none) (some 86) (by decide) (by rfl) (by kernel_rfl) (by kernel_rfl) (by kernel_rfl) (fun _ _ _ h => h) (by rfl) (fun W hW => by go_simp) (by assumption) ?_
        simp only [Act.put, List.setIfInBounds_toArray, List.set_cons_zero, List.set_cons_succ]
        refine wpAnyH_ready (rs := [34]) (by kernel_rfl) (by simp) (AllReadyH.cons (Array.getElem?_eq_getElem (i := 34) (by decide)) (fun K9 hK => ?_) AllReadyH.nil)
        go_simp
        refine (tbytes_any (.pointer none) [] wN (.inl ⟨rfl, rfl⟩) (by simp [sumW])).mono ?_
        rintro e wC ⟨vC, rfl, ho, hb⟩
        have HDC := Lib.hid (HDN.out.trans (hb.mono HDN.out.size))
        have HOC := Lib.hid ho
        have kC := run_text_of _ _ _ _ ho.sl
        clear ho hb
        have HH := HDC.out
        refine hK.out _ _ HH (fun hHeld => ?_)
        clear hK K9 HH
        try simp only [Act.put, List.setIfInBounds_toArray, List.set_cons_zero, List.set_cons_succ]
        refine wpAnyH_ready (rs := [35, 36]) (by kernel_rfl) (by simp) ?_
        refine come (i := 35) (.string ⟨(bytesW []).toArray⟩) wC (some 88) (by decide) (by rfl) (by rfl) (by go_simp) (by assumption) ?_ (AllReadyH.cons (Array.getElem?_eq_getElem (i := 36) (by decide)) (fun K9 hK => ?_) AllReadyH.nil)
        case refine_1 =>
          simp only [Act.put, List.setIfInBounds_toArray, List.set_cons_zero, List.set_cons_succ]
          refine wpAnyH_ready (rs := [36]) (by kernel_rfl) (by simp) (AllReadyH.cons (Array.getElem?_eq_getElem (i := 36) (by decide)) (fun K9 hK => ?_) AllReadyH.nil)
          go_simp
          refine (rbytes_any (.slice none 0 0) [] wC (TbIn.nil _ _) (by simp [sumW])).mono ?_
          rintro e wZ ⟨rfl, hb⟩
          have HDZ := Lib.hid (HDC.out.trans (hb.mono HDC.out.size))
          have HH := HDZ.out
          refine hK.out _ _ HH (fun hHeld => ?_)
          clear hK K9 HH
          try simp only [Act.put, List.setIfInBounds_toArray, List.set_cons_zero, List.set_cons_succ]
          refine take_at (i := 37) (.bool true) (some 90) (by decide) (by rfl) (by kernel_rfl) (by kernel_rfl) (by kernel_rfl) (fun _ _ _ h => h) (by rfl) (fun W hW => by go_simp) (by assumption) ?_
          simp only [Act.put, List.setIfInBounds_toArray, List.set_cons_zero, List.set_cons_succ]
          refine take_at (i := 38) (.bool true) (some 91) (by decide) (by rfl) (by kernel_rfl) (by kernel_rfl) (by kernel_rfl) (fun _ _ _ h => h) (by rfl) (fun W hW => by go_simp) (by assumption) ?_
          simp only [Act.put, List.setIfInBounds_toArray, List.set_cons_zero, List.set_cons_succ]
          refine take_at (i := 39) (.bool true) (some 4) (by decide) (by rfl) (by kernel_rfl) (by kernel_rfl) (by kernel_rfl) (fun _ _ _ h => h) (by rfl) (fun W hW => by go_simp) (by assumption) ?_
          simp only [Act.put, List.setIfInBounds_toArray, List.set_cons_zero, List.set_cons_succ]
          refine wpAnyH_done (by kernel_rfl) ?_ _
          go_wp2_with fail
          go_ret
          exact ⟨rfl, HL6.out.trans (HDZ.out.mono HL6.out.size)⟩
        case refine_2 =>
          go_simp
          refine (rbytes_any (.slice none 0 0) [] wC (TbIn.nil _ _) (by simp [sumW])).mono ?_
          rintro e wZ ⟨rfl, hb⟩
          have HDZ := Lib.hid (HDC.out.trans (hb.mono HDC.out.size))
          have kZ := run_text_of _ _ _ _ (HOC.out.keep hb).sl
          have HH := HDZ.out
          refine hK.out _ _ HH (fun hHeld => ?_)
          clear hK K9 HH
          try simp only [Act.put, List.setIfInBounds_toArray, List.set_cons_zero, List.set_cons_succ]
          refine wpAnyH_ready (rs := [35]) (by kernel_rfl) (by simp) (come (i := 35) (.string ⟨(bytesW []).toArray⟩) wZ (some 88) (by decide) (by rfl) (by rfl) (by go_simp) (by assumption) ?_ AllReadyH.nil)
          simp only [Act.put, List.setIfInBounds_toArray, List.set_cons_zero, List.set_cons_succ]
          clear kZ
          refine take_at (i := 37) (.bool true) (some 90) (by decide) (by rfl) (by kernel_rfl) (by kernel_rfl) (by kernel_rfl) (fun _ _ _ h => h) (by rfl) (fun W hW => by go_simp) (by assumption) ?_
          simp only [Act.put, List.setIfInBounds_toArray, List.set_cons_zero, List.set_cons_succ]
          refine take_at (i := 38) (.bool true) (some 91) (by decide) (by rfl) (by kernel_rfl) (by kernel_rfl) (by kernel_rfl) (fun _ _ _ h => h) (by rfl) (fun W hW => by go_simp) (by assumption) ?_
          simp only [Act.put, List.setIfInBounds_toArray, List.set_cons_zero, List.set_cons_succ]
          refine take_at (i := 39) (.bool true) (some 4) (by decide) (by rfl) (by kernel_rfl) (by kernel_rfl) (by kernel_rfl) (fun _ _ _ h => h) (by rfl) (fun W hW => by go_simp) (by assumption) ?_
          simp only [Act.put, List.setIfInBounds_toArray, List.set_cons_zero, List.set_cons_succ]
          refine wpAnyH_done (by kernel_rfl) ?_ _
          go_wp2_with fail
          go_ret
          exact ⟨rfl, HL6.out.trans (HDZ.out.mono HL6.out.size)⟩

end Go.Proofs.Ytcliknmcefcaeaa.Cd

namespace Go.Proofs.Ytcliknmcefcaeaa.TableOf
open Go.RowKit Go.Proofs.Ytcliknmcefcaeaa.Cd

theorem walk (va : Value) (l : List Wr) (key : ByteArray) (w : World) (ha : Cd.TbIn w w.heap.size va l ∧ FitW l) (hk : key.size ≤ 140737488351232) :
    Calls Try.prog 3 #[va, .string key] w (Gives (.bool true) w) := by
  obtain ⟨⟨k⟩⟩ := key
  exact to_main va l k w ha.1 ha.2 hk

end Go.Proofs.Ytcliknmcefcaeaa.TableOf
