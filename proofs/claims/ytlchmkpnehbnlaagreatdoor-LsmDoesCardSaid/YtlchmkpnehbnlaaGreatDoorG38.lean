/-
  Open: a tree as its files tell it. Conditions: LsI; the power is on.
-/
import Derived.Test.YtlchmkpnehbnlaaGreatDoorG35
import Derived.Test.YtlchmkpnehbnlaaGreatDoorG17
import Derived.Test.YtlchmkpnehbnlaaGreatDoorG37
import Derived.Test.YtlchmkpnehbnlaaGreatDoorG31
import Derived.Deep.RegionLaw
import Derived.Test.YtlchmkpnehbnlaaGreatDoorG11
import Derived.Test.YtlchmkpnehbnlaaGreatDoorG13
import Derived.WalkMore
import Derived.Test.YtlchmkpnehbnlaaGreatDoorG29
/-
  A disk's names, the greatest number of a tree's files, and which of them are over. Conditions: names that begin with a letter.
-/
namespace Go.Proofs.YtlchmkpnehbnlaaGreatDoor.Cd
open Go.RowKit

def NamesL (D : Dsk) (w : World) (e : Ending) (w' : World) : Prop :=
  ∃ v l, e = .returned v ∧ OwnS w' w.heap.size v l ∧ Below w.heap.size w w' ∧ l.Nodup ∧ ∀ x, x ∈ l ↔ x.length ≤ maxLen ∧ (getF D.now x).isSome = true
theorem names_all (g N : Nat) (S : Nat → Prop) (D : Dsk) (w : World) (h : DkS w g N S D) (ho : D.off = false) :
    Calls Tryz.prog 51 #[.pointer (some ⟨g, 0, none⟩)] w (NamesL D w) := by
  obtain ⟨P, hR, h2⟩ := h
  refine (names_any g N S P w hR).mono ?_
  rintro e w' ⟨hb, ⟨ho2, rfl⟩ | ⟨ho2, v, l, rfl, hown, hnd, hup, hmem⟩⟩
  · rw [h2.off, ho2] at ho; cases ho
  · exact ⟨v, l, rfl, hown, hb, hnd, fun x => by rw [hmem x, h2.is]⟩

def NewestIs (D : Dsk) (n e : List UInt8) (w : World) (r : Ending) (w' : World) : Prop :=
  ∃ k : Nat, r = .returned (.int .i64 k) ∧ Below w.heap.size w w' ∧ (∀ m, (getF D.now m).isSome = true → m.length ≤ maxLen → numF n e m ≤ k) ∧ (k = 0 ∨ ∃ m, (getF D.now m).isSome = true ∧ numF n e m = k)

set_option maxRecDepth 100000 in
set_option maxHeartbeats 3200000 in
theorem newest_s (t g N : Nat) (n e : List UInt8) (S : Nat → Prop) (D : Dsk) (w : World) (h : NameAt w t n) (c0 : w.cell? ⟨t, 0, none⟩ = some (.pointer (some ⟨g, 0, none⟩))) (hd : DkS w g N S D) (ho : D.off = false) (he : ErrAt w) (hn : n.length + e.length ≤ 100)
    (hm : ∀ m, (getF D.now m).isSome = true → Nice n e m) :
    Calls Tryz.prog 25 #[.pointer (some ⟨t, 0, none⟩), .string ⟨e.toArray⟩] w (NewestIs D n e w) := by
  have CN := Lib.hid (names_all g N S D w hd ho)
  have HN := Lib.hid (fun m hm2 W (hb : Below w.heap.size w W) => numb_s t n e m W (h.below hb) (he.low hb) (hm m hm2) hn)
  clear h hd he hm
  go_enter Tryz.func25, Tryz.ntmps25
  go_wp2_with fail
  refine CN.out.mono ?_
  rintro r w1 ⟨v, l, rfl, hown, hb1, hnd, hmem⟩
  have HV := Lib.hid hown.strs
  obtain ⟨A, c, rfl, hl1, hl2⟩ := HV.out.len
  have HB1 := Lib.hid hb1
  have HM := Lib.hid hmem
  have hl3 : c ≤ 9223372036854775807 := hl2
  clear hown hb1 hnd hmem CN
  go_wp2_with fail
  go_loopw [5, 14] (fun a i wr => ∃ j k : Nat, a = .int .i64 k ∧ i = .int .i64 j ∧ j ≤ l.length ∧ k ≤ 99 ∧ Hid (∀ x ∈ l.take j, numF n e x ≤ k) ∧ Hid (k = 0 ∨ ∃ x ∈ l, numF n e x = k) ∧ Hid (Below w1.heap.size w1 wr)) (fun _ i _ => l.length - (intOf i).toNat)
  case atStart => exact ⟨0, 0, rfl, rfl, by omega, by omega, (fun x hx => by simp at hx), .inl rfl, Below.refl _ _⟩
  case round =>
    obtain ⟨j, k, rfl, rfl, hj, hk, hall, hex, hbl⟩ := hrel
    by_cases hlt : j < l.length
    · obtain ⟨b2, off2, c2', e2, _, _, hB2, hat⟩ := (HV.out.below hbl.out).at (by omega)
      injection e2 with e2 _ e3
      subst e2 e3
      have d0 := hat j hlt
      have hxl : l[j] ∈ l := List.getElem_mem hlt
      have htk := List.take_succ_eq_append_getElem hlt
      obtain ⟨x, hx⟩ : ∃ x, l[j] = x := ⟨_, rfl⟩
      rw [hx] at d0 hxl htk
      have hN := HN.out x ((HM.out x).1 hxl).2 wr (HB1.out.trans (hbl.out.mono HB1.out.size))
      have hle := numF_le n e x
      obtain ⟨f, hf⟩ : ∃ f, numF n e x = f := ⟨_, rfl⟩
      rw [hf] at hN hle
      have HN2 := Lib.hid hN
      have HTK := Lib.hid htk
      have HF := Lib.hid hf
      have HXL := Lib.hid hxl
      clear hat hx hN hf htk hxl
      by_cases hkf : k ≤ f
      all_goals
        have hkf' : (max (k : Int) (f : Int)) = ((max k f : Nat) : Int) := by omega
        go_wp2_with fail
        refine HN2.out.mono ?_
        rintro r w2 ⟨rfl, hb2⟩
        have HB2 := Lib.hid (hbl.out.trans (hb2.mono hbl.out.size))
        clear hb2
        go_wp2_with fail
        go_roundw
        case rel =>
          refine ⟨j + 1, max k f, by first | exact congrArg _ hkf' | go_num, by go_num, by omega, by omega, ?_, ?_, HB2⟩
          · intro y hy
            rw [HTK.out] at hy
            rcases List.mem_append.1 hy with hy | hy
            · have := hall.out y hy; omega
            · rw [List.mem_singleton.1 hy, HF.out]; omega
          · rcases Nat.le_total k f with h | h
            · exact .inr ⟨x, HXL.out, by rw [HF.out]; omega⟩
            · rw [Nat.max_eq_left h]; exact hex.out
        case measure => simp [intOf]; omega
    · have hal := hall.out
      rw [List.take_of_length_le (by omega)] at hal
      have HAL := Lib.hid hal
      clear hal hall
      go_wp2_with fail
      go_ret
      refine ⟨k, rfl, HB1.out.trans (hbl.out.mono HB1.out.size), fun m hm hml => HAL.out m ((HM.out m).2 ⟨hml, hm⟩), ?_⟩
      rcases hex.out with h | ⟨x, h1, h2⟩
      · exact .inl h
      · exact .inr ⟨x, ((HM.out x).1 h1).2, h2⟩

set_option maxRecDepth 100000 in
set_option maxHeartbeats 3200000 in
theorem over_s (t : Nat) (n m : List UInt8) (whole : Nat) (w : World) (h : NameAt w t n) (he : ErrAt w) (hn : n.length ≤ 50) (hp : Nice n partE m) (hq : Nice n wholeE m) (_ : whole ≤ 99) :
    Calls Tryz.prog 57 #[.pointer (some ⟨t, 0, none⟩), .string ⟨m.toArray⟩, .int .i64 whole] w (Gives (.bool (overF n whole m)) w) := by
  have HP := Lib.hid (fun W (hb : Below w.heap.size w W) => numb_s t n partE m W (h.below hb) (he.low hb) hp (by simp [partE]; omega))
  have HQ := Lib.hid (fun W (hb : Below w.heap.size w W) => numb_s t n wholeE m W (h.below hb) (he.low hb) hq (by simp [wholeE]; omega))
  have h1 := numF_le n partE m
  have h2 := numF_le n wholeE m
  have HH := Lib.hid h
  have ha := fun W => add_text W n [45, 100, 114, 97, 102, 116] (by simp; omega)
  have hz : overF n whole m = (decide (m = draftF n) || (decide (0 < numF n partE m) && decide (numF n partE m ≤ whole)) || (decide (0 < numF n wholeE m) && decide (numF n wholeE m < whole))) := rfl
  obtain ⟨p, hpp⟩ : ∃ x, numF n partE m = x := ⟨_, rfl⟩
  obtain ⟨q, hqq⟩ : ∃ x, numF n wholeE m = x := ⟨_, rfl⟩
  rw [hpp] at HP h1 hz
  rw [hqq] at HQ h2 hz
  obtain ⟨z, hzz⟩ : ∃ z, overF n whole m = z := ⟨_, rfl⟩
  rw [hzz] at hz ⊢
  have hdr : draftF n = n ++ [45, 100, 114, 97, 102, 116] := rfl
  rw [hdr] at hz
  obtain ⟨d, hd⟩ : ∃ d, n ++ [45, 100, 114, 97, 102, 116] = d := ⟨_, rfl⟩
  rw [hd] at hz
  simp only [hd] at ha
  have HZ := Lib.hid hz
  clear h he hpp hqq hzz hdr hd hz hp hq
  have hways : (m = d ∧ z = true) ∨ (m ≠ d ∧ 0 < p ∧ p ≤ whole ∧ z = true) ∨ (m ≠ d ∧ (p = 0 ∨ (0 < p ∧ whole < p)) ∧ ((0 < q ∧ q < whole ∧ z = true) ∨ (q = 0 ∧ z = false) ∨ (0 < q ∧ whole ≤ q ∧ z = false))) := by
    rw [HZ.out]
    by_cases e : m = d
    · exact .inl ⟨e, by simp [e]⟩
    · by_cases e1 : 0 < p ∧ p ≤ whole
      · exact .inr (.inl ⟨e, e1.1, e1.2, by simp [e1]⟩)
      · refine .inr (.inr ⟨e, by omega, ?_⟩)
        have e2 : (decide (0 < p) && decide (p ≤ whole)) = false := by simpa using e1
        rw [e2]
        by_cases e3 : 0 < q ∧ q < whole
        · exact .inl ⟨e3.1, e3.2, by simp [e3]⟩
        · have e4 : (decide (0 < q) && decide (q < whole)) = false := by simpa using e3
          rcases Nat.eq_zero_or_pos q with h | h
          · exact .inr (.inl ⟨h, by rw [e4]; simp [e]⟩)
          · exact .inr (.inr ⟨h, by omega, by rw [e4]; simp [e]⟩)
  clear HZ
  go_enter Tryz.func57, Tryz.ntmps57
  go_wp2_with fail
  refine (HP.out _ (Below.refl _ _)).mono ?_
  rintro r w1 ⟨rfl, hb1⟩
  have HB1 := Lib.hid hb1
  clear hb1
  go_wp2_with fail
  refine (HQ.out _ HB1.out).mono ?_
  rintro r w2 ⟨rfl, hb2⟩
  have HB2 := Lib.hid (HB1.out.trans (hb2.mono HB1.out.size))
  have c1 := (HH.out.below HB2.out).1
  clear hb2 HP HQ HH HB1
  rcases hways with ⟨e, rfl⟩ | ⟨e, e1, e2, rfl⟩ | ⟨e, e1, e2⟩
  · have hb : (m == d) = true := by simpa using e
    clear e
    go_wp2_with fail
    go_ret
    exact ⟨rfl, HB2.out⟩
  · have hb : (m == d) = false := by simpa using e
    have g1 : (0 : Int) < p := by omega
    have k1 : decide (p ≤ whole) = true := decide_eq_true (by omega)
    clear e e1 e2
    go_wp2_with fail
    go_ret
    exact ⟨rfl, HB2.out⟩
  · have hb : (m == d) = false := by simpa using e
    rcases e1 with rfl | ⟨e1, e3⟩
    · rcases e2 with ⟨e2, e4, rfl⟩ | ⟨rfl, rfl⟩ | ⟨e2, e4, rfl⟩
      · have g3 : (0 : Int) < q := by omega
        have k2 : decide (q < whole) = true := decide_eq_true (by omega)
        clear e e2 e4
        go_wp2_with fail
        go_ret
        exact ⟨rfl, HB2.out⟩
      · have k9 : True := trivial
        clear e
        go_wp2_with fail
        go_ret
        exact ⟨rfl, HB2.out⟩
      · have g3 : (0 : Int) < q := by omega
        have k2 : decide (q < whole) = false := decide_eq_false (by omega)
        clear e e2 e4
        go_wp2_with fail
        go_ret
        exact ⟨rfl, HB2.out⟩
    · rcases e2 with ⟨e2, e4, rfl⟩ | ⟨rfl, rfl⟩ | ⟨e2, e4, rfl⟩
      · have g1 : (0 : Int) < p := by omega
        have k1 : decide (p ≤ whole) = false := decide_eq_false (by omega)
        have g3 : (0 : Int) < q := by omega
        have k2 : decide (q < whole) = true := decide_eq_true (by omega)
        clear e e1 e3 e2 e4
        go_wp2_with fail
        go_ret
        exact ⟨rfl, HB2.out⟩
      · have g1 : (0 : Int) < p := by omega
        have k1 : decide (p ≤ whole) = false := decide_eq_false (by omega)
        clear e e1 e3
        go_wp2_with fail
        go_ret
        exact ⟨rfl, HB2.out⟩
      · have g1 : (0 : Int) < p := by omega
        have k1 : decide (p ≤ whole) = false := decide_eq_false (by omega)
        have g3 : (0 : Int) < q := by omega
        have k2 : decide (q < whole) = false := decide_eq_false (by omega)
        clear e e1 e3 e2 e4
        go_wp2_with fail
        go_ret
        exact ⟨rfl, HB2.out⟩

end Go.Proofs.YtlchmkpnehbnlaaGreatDoor.Cd

/-
  A table laid down in a file of its own: save; the files that are over: sweep; a record entered into the log. Conditions: the power is on, and no end of it in sight.
-/
namespace Go.Proofs.YtlchmkpnehbnlaaGreatDoor.Cd
open Go.RowKit

def SaveIs (w0 : World) (S : Nat → Prop) (t l g M room : Nat) (vt vm : Value) (n s : List UInt8) (last cnt : Nat) (tight : Int) (tabs : List (List Wr)) (mem : List Wr) (D : Dsk) (f b : List UInt8) (W : World) (e : Ending) (W' : World) : Prop :=
  (room < count D.now + pagesOf b.length ∧ e = .returned (.tuple #[.bool false, .int .i64 0]) ∧ ∃ T, DkS W' g M T D ∧ TreeAt w0 W' T t l g vt vm n s last cnt tight tabs mem ∧ (∀ k, T k → since S W W' k) ∧ Apart S W W') ∨
  (count D.now + pagesOf b.length ≤ room ∧ e = .returned (.tuple #[.bool true, .int .i64 0]) ∧ ∃ T D', DkS W' g M T D' ∧ TreeAt w0 W' T t l g vt vm n s last cnt tight tabs mem ∧ (∀ k, T k → since S W W' k) ∧ Apart S W W' ∧ Ample D' room ∧
    ∀ m, getF D'.now m = if m = f then some ⟨f, pagesB b⟩ else getF D.now m)

set_option maxRecDepth 100000 in
set_option maxHeartbeats 1600000 in
theorem save_s (q N M room : Nat) (X : List Wr) (f : List UInt8) (D : Dsk) {w0 W : World} {S : Nat → Prop} {t l g : Nat} {vt vm : Value} {n s : List UInt8} {last cnt : Nat} {tight : Int} {tabs : List (List Wr)} {mem : List Wr} (h : TreeAt w0 W S t l g vt vm n s last cnt tight tabs mem)
    (hd : DkS W g N S D) (ha : Ample D room) (hq : TabV W (.pointer (some ⟨q, 0, none⟩)) X) (hX : LimT 48 160 X) (hs : sumB X ≤ 300000) (hn : n.length ≤ 50) (hf : f.length ≤ 100) (h1 : (getF D.now (draftF n)).isSome = false) (h2 : (getF D.now f).isSome = false) (hne : draftF n ≠ f)
    (hN : N + 10000 ≤ M) (hM : M ≤ 137438953472) :
    Calls Tryz.prog 69 #[.pointer (some ⟨t, 0, none⟩), .pointer (some ⟨q, 0, none⟩), .string ⟨f.toArray⟩] W (SaveIs w0 S t l g M room vt vm n s last cnt tight tabs mem D f (bytesW X) W) := by
  obtain ⟨c0, c1, _⟩ := h.cells
  have hbl := (bytesW_len hX (by omega))
  have hdl : (draftF n).length ≤ 1000 := by simp [draftF, draftE]; omega
  have CS := tsave_any q g N (N + 5000) X (draftF n) S D W hq (by unfold sumB at hs; omega) hd (by omega) (by unfold pagesOf; omega) (by omega)
  have hw := ha.saveAs (d := draftF n) (f := f) (b := bytesW X) h1 h2 hne (by omega)
  have had := fun W => add_text W n [45, 100, 114, 97, 102, 116] (by simp; omega)
  have hdr : n ++ [45, 100, 114, 97, 102, 116] = draftF n := rfl
  simp only [hdr] at had
  obtain ⟨d, hdd⟩ : ∃ d, draftF n = d := ⟨_, rfl⟩
  rw [hdd] at CS hw had hdl
  obtain ⟨b, hbb⟩ : ∃ b, bytesW X = b := ⟨_, rfl⟩
  rw [hbb] at CS hw ⊢
  have H := Lib.hid h
  have HDS := Lib.hid hd
  rcases hw with ⟨k1, k2⟩ | ⟨k1, k2, k3, k4, k5⟩
  · rw [k2] at CS
    have CS := Lib.hid CS
    clear h hd ha hq hX hs h1 h2 hne hdr hdd hbb hbl k2
    go_enter Tryz.func69, Tryz.ntmps69
    go_wp2_with fail
    refine CS.out.mono ?_
    intro e w1 hm
    obtain rfl := hm.1
    have HM1 := Lib.hid hm.2
    clear hm CS
    go_wp2_with fail
    go_ret2
    exact .inl ⟨k1, rfl, _, HM1.out.1.mono (by omega) hM, H.out.apart HM1.out.2, fun _ => id, HM1.out.2⟩
  · obtain ⟨⟨D1, e1⟩, hD1⟩ : ∃ R, saveD D d b = R := ⟨_, rfl⟩
    rw [hD1] at CS k2 k3 k4 k5
    dsimp only at k2 k3 k4 k5
    subst k2
    obtain ⟨⟨D2, e2⟩, hD2⟩ : ∃ R, renameD D1 d f = R := ⟨_, rfl⟩
    rw [hD2] at k3 k4 k5
    dsimp only at k3 k4 k5
    subst k3
    have CS := Lib.hid CS
    have HD2 := Lib.hid hD2
    have HK := Lib.hid (And.intro k4 k5)
    clear h hd ha hq hX hs h1 h2 hne hdr hdd hbb hbl hD1 hD2 k4 k5
    go_enter Tryz.func69, Tryz.ntmps69
    go_wp2_with fail
    refine CS.out.mono ?_
    intro e w1 hm
    obtain rfl := hm.1
    have HM1 := Lib.hid hm.2
    have hT1 := H.out.apart hm.2.2
    obtain ⟨x0, _⟩ := hT1.cells
    have CR := rename_dks g (N + 5000) (since S W w1) D1 d f w1 HM1.out.1 (by omega) (by omega) (by omega)
    rw [HD2.out] at CR
    have CR := Lib.hid CR
    have HT1 := Lib.hid hT1
    clear hm CS hT1
    go_wp2_with fail
    refine CR.out.mono ?_
    intro e w2 hm
    obtain rfl := hm.1
    have HM2 := Lib.hid hm.2
    clear hm CR
    go_wp2_with fail
    go_ret2
    have hz1 := HM1.out.2.size
    have hz2 := HM2.out.2.size
    exact .inr ⟨k1, rfl, _, D2, (HM2.out.1.since hz1 hz2).mono (by omega) hM, (HT1.out.apart HM2.out.2).less (fun k _ hk => (since_iff hz1 hz2).2 hk) (fun k hk => by
        rcases hk with hk | hk
        · exact H.out.low k (.inl hk)
        · have := H.out.base.size; omega), fun _ => id, HM1.out.2.trans HM2.out.2, HK.out.1, HK.out.2⟩

end Go.Proofs.YtlchmkpnehbnlaaGreatDoor.Cd

/-
  Memory laid down as a table: lay. Conditions: the power is on, and no end of it in sight.
-/
namespace Go.Proofs.YtlchmkpnehbnlaaGreatDoor.Cd
open Go.RowKit

def LayIs (w0 : World) (S : Nat → Prop) (t l g M room : Nat) (vt vm : Value) (n s : List UInt8) (last cnt : Nat) (tight : Int) (tabs : List (List Wr)) (mem : List Wr) (D : Dsk) (W : World) (e : Ending) (W' : World) : Prop :=
  e = .returned (.int .i64 0) ∧ ((( cnt < 24 ∨ room < count D.now + pagesOf (bytesW mem).length) ∧ ∃ T, DkS W' g M T D ∧ TreeAt w0 W' T t l g vt vm n s last cnt tight tabs mem ∧ TreeTo W S t l vt W' T vt) ∨
  (24 ≤ cnt ∧ count D.now + pagesOf (bytesW mem).length ≤ room ∧ ∃ T D' vt', DkS W' g M T D' ∧ TreeAt w0 W' T t l g vt' (.slice none 0 0) n [] (last + 1) 0 0 (tabs ++ [mem]) [] ∧ TreeTo W S t l vt W' T vt' ∧ Ample D' room ∧
    ∀ m, getF D'.now m = if m = n then none else if m = partF n (last + 1) then some ⟨partF n (last + 1), pagesB (bytesW mem)⟩ else getF D.now m))

theorem SaveIs.one {w0 : World} {S : Nat → Prop} {t l g M room : Nat} {vt vm : Value} {n s : List UInt8} {last cnt : Nat} {tight : Int} {tabs : List (List Wr)} {mem : List Wr} {D : Dsk} {f b : List UInt8} {W : World} {e : Ending} {W' : World} (h : SaveIs w0 S t l g M room vt vm n s last cnt tight tabs mem D f b W e W') :
    ∃ (z : Bool) (T : Nat → Prop) (D' : Dsk), e = .returned (.tuple #[.bool z, .int .i64 0]) ∧ TreeAt w0 W' T t l g vt vm n s last cnt tight tabs mem ∧ DkS W' g M T D' ∧ (∀ k, T k → since S W W' k) ∧ Apart S W W' ∧
      ((z = false ∧ D' = D ∧ room < count D.now + pagesOf b.length) ∨ (z = true ∧ count D.now + pagesOf b.length ≤ room ∧ Ample D' room ∧ ∀ m, getF D'.now m = if m = f then some ⟨f, pagesB b⟩ else getF D.now m)) := by
  rcases h with ⟨h1, h2, T, h3, h4, h5, h6⟩ | ⟨h1, h2, T, D', h3, h4, h5, h6, h7, h8⟩
  · exact ⟨false, T, D, h2, h4, h3, h5, h6, .inl ⟨rfl, rfl, h1⟩⟩
  · exact ⟨true, T, D', h2, h4, h3, h5, h6, .inr ⟨rfl, h1, h7, h8⟩⟩

set_option maxRecDepth 100000 in
set_option maxHeartbeats 3200000 in
theorem lay_s (N M room : Nat) (D : Dsk) {w0 W : World} {S : Nat → Prop} {t l g : Nat} {vt vm : Value} {n s : List UInt8} {last cnt : Nat} {tight : Int} {tabs : List (List Wr)} {mem : List Wr} (h : TreeAt w0 W S t l g vt vm n s last cnt tight tabs mem)
    (hd : DkS W g N S D) (ha : Ample D room) (hm : GoodT mem) (hs : sumB mem ≤ 300000) (hn : n.length ≤ 50) (h1 : (getF D.now (draftF n)).isSome = false) (h2 : (getF D.now (partF n (last + 1))).isSome = false)
    (hlast : last ≤ 98) (hc : cnt ≤ 100000) (htl : tabs.length ≤ 1000) (hN : N + 20000 ≤ M) (hM : M ≤ 137438953472) :
    Calls Tryz.prog 36 #[.pointer (some ⟨t, 0, none⟩)] W (LayIs w0 S t l g M room vt vm n s last cnt tight tabs mem D W) := by
  obtain ⟨c0, c1, c2, c3, c4, c5, c6, c7⟩ := h.cells
  by_cases h24 : cnt < 24
  · have h24' : (cnt : Int) < 24 := by omega
    have H := Lib.hid h
    have HD := Lib.hid hd
    clear h hd hm hs h1 h2
    go_enter Tryz.func36, Tryz.ntmps36
    go_wp2_with fail
    go_ret
    exact ⟨rfl, .inl ⟨.inl h24, S, HD.out.mono (by omega) hM, H.out, TreeTo.refl _ _ _ _ _⟩⟩
  have h24' : ¬ (cnt : Int) < 24 := by omega
  have hml : mem.length ≤ 300000 := by unfold sumB at hs; omega
  have hmo := hm.self
  obtain ⟨Am, km, rfl, _, _⟩ := h.mem.1.len
  have CO := fun W' (hb : Below W.heap.size W W') => tof_any _ mem W' (((h.mem.1.below hb).more hb.size)) hm.lim.fit (by omega)
  rw [hmo] at CO
  have hla : (last : Int) + 1 = ((last + 1 : Nat) : Int) := by omega
  have CF := fun W' (hb : Below W.heap.size W W') => file_s t n partE (last + 1) W' (NameAt.below ⟨c1, h.lt⟩ hb) (by omega) (by simp [partE]; omega)
  have hpl : (partF n (last + 1)).length ≤ 100 := by have := dec_len (last + 1); simp only [partF, fileF, List.length_append, partE, List.length_cons, List.length_nil]; omega
  have CS := fun q W' (hb : Below W.heap.size W W') (hq : TabV W' (.pointer (some ⟨q, 0, none⟩)) mem) => save_s q N (N + 10000) room mem (partF n (last + 1)) D (h.below hb) (hd.below hb) ha hq hm.lim hs hn hpl h1 h2 (fun e => part_draft _ _ e.symm) (Nat.le_refl _) (by omega)
  obtain ⟨f, hf⟩ : ∃ f, partF n (last + 1) = f := ⟨_, rfl⟩
  obtain ⟨l1, hl1⟩ : ∃ x : Nat, last + 1 = x := ⟨_, rfl⟩
  rw [hl1] at hla
  have hf2 : partF n l1 = f := by rw [← hl1]; exact hf
  rw [hl1] at CF
  rw [show fileF n partE l1 = f from hf2] at CF
  rw [hf] at CS
  have hpe : partE = [45, 112, 97, 114, 116] := rfl
  rw [hpe] at CF
  have hwr : IntKind.i64.wrap (l1 : Int) = l1 := by rw [IntKind.wrap_i64]; omega
  have H := Lib.hid h
  have HD := Lib.hid hd
  have CO := Lib.hid CO
  have CF := Lib.hid CF
  have CS := Lib.hid CS
  have HF := Lib.hid hf
  have HM := Lib.hid (And.intro hm hs)
  obtain ⟨b, hbb⟩ : ∃ b, bytesW mem = b := ⟨_, rfl⟩
  have HBB := Lib.hid hbb
  clear hm hs h1 h2 hmo hf hf2 hpe hbb
  go_enter Tryz.func36, Tryz.ntmps36
  go_wp2_with fail
  go_region_held3 (fun W' => W'.cell? ⟨t, 4, none⟩ = some (.int .i64 last) ∧ W'.cell? ⟨t, 5, none⟩ = some (.slice Am mem.length km)) (first | exact ⟨c4, c5⟩ | assumption) (first
    | (go_at_call 32; refine (CO.out _ (Below.refl _ _).drew).mono ?_; intro e w1 hmade; obtain ⟨v1, rfl, ⟨q, rfl⟩, htv, hb1⟩ := hmade.tab
       have hb1 := (Below.refl W.heap.size W).drew.trans hb1
       have hs1 : w1.cell? ⟨t, 4, none⟩ = some (.int .i64 last) ∧ w1.cell? ⟨t, 5, none⟩ = some (.slice Am mem.length km) := ⟨(hb1.cell (p := ⟨t, 4, none⟩) H.out.lt).trans c4, (hb1.cell (p := ⟨t, 5, none⟩) H.out.lt).trans c5⟩
       have HB1 := Lib.hid hb1; have HTV := Lib.hid htv; clear hb1 htv hmade)
    | (go_at_call 54; refine (CF.out _ HB1.out).mono ?_; rintro e w2 ⟨rfl, hb2⟩
       have hb3 := HB1.out.trans (hb2.mono HB1.out.size)
       have hs2 : w2.cell? ⟨t, 4, none⟩ = some (.int .i64 last) ∧ w2.cell? ⟨t, 5, none⟩ = some (.slice Am mem.length km) := ⟨(hb3.cell (p := ⟨t, 4, none⟩) H.out.lt).trans c4, (hb3.cell (p := ⟨t, 5, none⟩) H.out.lt).trans c5⟩
       have HB2 := Lib.hid hb3; have HTV2 := Lib.hid (TabV.below HTV.out hb2); clear hb2 hb3)
    | (go_at_call 69; refine (CS.out q _ HB2.out HTV2.out).mono ?_; intro e w3 hsv
       obtain ⟨z, T, D', rfl, ht3, hd3, hs3, ha3, hz3⟩ := hsv.one
       have hs4 : w3.cell? ⟨t, 4, none⟩ = some (.int .i64 last) ∧ w3.cell? ⟨t, 5, none⟩ = some (.slice Am mem.length km) := ⟨ht3.cells.2.2.2.2.1, ht3.cells.2.2.2.2.2.1⟩
       have HT3 := Lib.hid ht3; have HD3 := Lib.hid hd3; have HS3 := Lib.hid (And.intro hs3 ha3); have HZ3 := Lib.hid hz3; clear hsv ht3 hd3 hs3 ha3 hz3))
  all_goals
    cases z
    · go_wp2_with fail
      go_ret
      have hz2 := HB2.out.size
      rcases HZ3.out with ⟨_, rfl, hfull⟩ | ⟨h, _⟩
      · refine ⟨rfl, .inl ⟨.inr hfull, T, HD3.out.mono (by omega) hM, HT3.out, fun k hk => ?_, ?_, fun _ => .inl⟩⟩
        · rcases HS3.out.1 k hk with h1 | h1
          · exact .inl h1
          · exact .inr ⟨by omega, h1.2⟩
        · exact (Apart.below HB2.out).trans (HS3.out.2.mono fun k hk => .inl (.inl hk))
      · cases h
    · have hk3 : count D.now + pagesOf (bytesW mem).length ≤ room ∧ Ample D' room ∧ ∀ m, getF D'.now m = if m = f then some ⟨f, pagesB (bytesW mem)⟩ else getF D.now m := by
        rcases HZ3.out with ⟨h, _⟩ | ⟨_, h1, h2, h3⟩
        · cases h
        · exact ⟨h1, h2, h3⟩
      have HK3 := Lib.hid hk3
      have h24n : 24 ≤ cnt := by omega
      have hTlt := HD3.out.lt
      have hl3 := HT3.out.lt
      obtain ⟨k1, _, _, k4, _⟩ := HT3.out.kinds
      -- the row that the append wants
      have hb4 : Below w3.heap.size w3 (w3.drew.alloc (.cells #[.slice Am mem.length km] 32)) := (Below.refl _ _).drew.alloc (Nat.le_refl _) _
      have hz4 : (w3.drew.alloc (.cells #[.slice Am mem.length km] 32)).heap.size = w3.heap.size + 1 := by simp
      have ht4 := HT3.out.below hb4
      have hc4 : (w3.drew.alloc (.cells #[.slice Am mem.length km] 32)).cell? ⟨w3.heap.size, 0, none⟩ = some (.slice Am mem.length km) := cell_of_row _ _ 0 _ _ _ (heap_alloc_new w3.drew _)
      have hS4 : ∀ k, T k → k < (w3.drew.alloc (.cells #[.slice Am mem.length km] 32)).heap.size := fun k hk => by have := hTlt k hk; omega
      have x3 : w3.drew.cell? ⟨t, 3, none⟩ = some vt := HT3.out.cells.2.2.2.1
      have x5 : w3.drew.cell? ⟨t, 5, none⟩ = some (.slice Am mem.length km) := HT3.out.cells.2.2.2.2.2.1
      have y3 := ht4.cells.2.2.2.1
      have y5 := ht4.cells.2.2.2.2.2.1
      have y3a : (w3.alloc (.cells #[.slice Am mem.length km] 32)).cell? ⟨t, 3, none⟩ = some vt := y3
      have y3b : (w3.alloc (.cells #[.slice Am mem.length km] 32)).drew.cell? ⟨t, 3, none⟩ = some vt := y3
      obtain ⟨Av, cv, hvt, _, _⟩ := HT3.out.tabs.len
      have HT4 := Lib.hid ht4
      have HC4 := Lib.hid hc4
      have HS4 := Lib.hid hS4
      have HB4 := Lib.hid hb4
      have HVT := Lib.hid hvt
      clear hk3 hTlt ht4 hc4 hS4 hb4 hvt
      go_wp2_with fail
      go_region_law (first
        | (refine step_append_tab (T := mem) rfl _ _ rfl rfl HT4.out.tabs rfl HC4.out HT4.out.mem HS4.out htl ?_
           intro v5 w5 hv5 ha5 hr5
           obtain ⟨h6, f3, z3, hd6, ha6⟩ := HT4.out.appended hv5 ha5 hr5
           obtain ⟨A5, c5', e5, _, _⟩ := hv5.len
           obtain ⟨k5, hk5⟩ : ∃ k, (tabs ++ [mem]).length = k := ⟨_, rfl⟩
           rw [hk5] at e5
           subst e5
           clear hk5
           have HT6 := Lib.hid h6
           have HD6 := Lib.hid (hd6 _ _ (HD3.out.below HB4.out))
           have HA6 := Lib.hid ha6
           have HR5 := Lib.hid hr5
           clear hv5 ha5 hr5 h6 hd6 ha6))
      all_goals
        obtain ⟨v5, hv5⟩ : ∃ x, Value.slice A5 k5 c5' = x := ⟨_, rfl⟩
        rw [hv5] at HT6 HD6 HA6 HR5 ⊢
        obtain ⟨w6, hw6⟩ : ∃ x, w5.setCell ⟨t, 3, none⟩ v5 = x := ⟨_, rfl⟩
        rw [hw6] at HT6 HD6 HA6 ⊢
        have h6 := HT6.out
        have x4 := h6.cells.2.2.2.2.1
        have f4 := h6.frozen 4
        have h7 := h6.set4 l1
        have x5b := h7.cells.2.2.2.2.2.1
        have f5 := h7.frozen 5
        have h8 := h7.set5 (vm' := .slice none 0 0) (mem' := []) (FarT.nil _ _)
        have x6 := h8.cells.2.2.2.2.2.2.1
        have f6 := h8.frozen 6
        have h9 : TreeAt w0 (((w6.setCell ⟨t, 4, none⟩ (.int .i64 l1)).setCell ⟨t, 5, none⟩ (.slice none 0 0)).setCell ⟨t, 6, none⟩ (.int .i64 0)) T t l g v5 (.slice none 0 0) n s l1 0 tight (tabs ++ [mem]) [] := h8.set6 0
        have x7 := h9.cells.2.2.2.2.2.2.2
        have f7 := h9.frozen 7
        have h10 := h9.set0
        have x2 := h10.cells.2.2.1
        have hd10 := (((HD6.out.put (o := 4) (x := .int .i64 l1) h6.far).put (o := 5) (x := .slice none 0 0) h6.far).put (o := 6) (x := .int .i64 0) h6.far).put (o := 7) (x := .int .i64 0) h6.far
        have ha10 : Apart (fun k => k = t) w6 ((((w6.setCell ⟨t, 4, none⟩ (.int .i64 l1)).setCell ⟨t, 5, none⟩ (.slice none 0 0)).setCell ⟨t, 6, none⟩ (.int .i64 0)).setCell ⟨t, 7, none⟩ (.int .i64 0)) :=
          ⟨rfl, rfl, rfl, by simp, fun k _ hk => (heap_setCell_other _ _ _ _ hk).trans ((heap_setCell_other _ _ _ _ hk).trans ((heap_setCell_other _ _ _ _ hk).trans (heap_setCell_other _ _ _ _ hk)))⟩
        have CC := clear_l l g (N + 10000) n s T D' _ h10.log hd10 (by omega) (by omega)
        obtain ⟨u1, u2, u3, _⟩ := HK3.out.2.1.gone n
        rw [u1, if_pos rfl] at CC
        have CC := Lib.hid CC
        have H10 := Lib.hid h10
        have HA10 := Lib.hid ha10
        have HU := Lib.hid (And.intro u2 u3)
        clear h6 h7 h8 h9 h10 hd10 ha10 hv5 hw6 u1 u2 u3
        go_wp2_with fail
        refine CC.out.mono ?_
        intro e w11 hmk
        obtain rfl := hmk.1
        have HMK := Lib.hid hmk.2
        clear hmk CC
        go_wp2_with fail
        go_ret
        obtain ⟨T2, m1, m2, m3, m4⟩ := HMK.out
        have h11 := H10.out.logged m2 m3 m4
        have hz2 := HB2.out.size
        have hz4 := HB4.out.size
        have t1 : TreeTo W S t l vt w3 T vt := ⟨fun k hk => by
          rcases HS3.out.1 k hk with h1 | h1
          · exact .inl h1
          · exact .inr ⟨by omega, h1.2⟩, (Apart.below HB2.out).trans (HS3.out.2.mono fun k hk => .inl (.inl hk)), fun _ => .inl⟩
        have t2 : TreeTo w3 T t l vt _ T v5 := ⟨fun _ => .inl, ((Apart.below HB4.out).trans (HA6.out.mono (T := since (treeU T t l vt) w3 _) fun k hk => .inl (.inr (.inr hk)))).trans (HA10.out.mono fun k hk => .inl (.inr (.inr (.inl hk)))), fun r hr => by
          rcases HR5.out with e | e
          · exact .inl (e ▸ hr)
          · rw [e] at hr; injection hr with hr; have hr2 : w3.heap.size + 1 = r := by simpa using hr
            exact .inr (by omega)⟩
        have t3 : TreeTo _ T t l v5 w11 T2 v5 := ⟨m3, m4.mono fun k hk => hk.elim .inl (fun e => .inr (.inl e)), fun _ => .inl⟩
        have hr10 := fun r hr => (H10.out.tabs.lt (r := r) hr).1
        have hr11 := fun r hr => (h11.tabs.lt (r := r) hr).1
        have tt := (t1.trans t2 hr10).trans t3 hr11
        refine ⟨rfl, .inr ⟨h24n, HK3.out.1, T2, _, v5, m1.mono (by omega) hM, by rw [hl1]; exact h11, tt, HU.out.1, fun m => ?_⟩⟩
        rw [HU.out.2, HK3.out.2.2, HF.out]

end Go.Proofs.YtlchmkpnehbnlaaGreatDoor.Cd

/-
  The files that are over are removed; a record is entered into the log. Conditions: the power is on, and no end of it in sight.
-/
namespace Go.Proofs.YtlchmkpnehbnlaaGreatDoor.Cd
open Go.RowKit

theorem nodup_len : ∀ (L l : List (List UInt8)), l.Nodup → (∀ x ∈ l, x ∈ L) → l.length ≤ L.length
  | [], l, _, h => by
    cases l with
    | nil => exact Nat.le_refl _
    | cons x r => exact absurd (h x (by simp)) (by simp)
  | y :: L, l, hn, h => by
    have h1 := nodup_len L (l.erase y) (hn.erase y) fun x hx => by
      have hx2 := (hn.mem_erase_iff).1 hx
      rcases List.mem_cons.1 (h x hx2.2) with e | e
      · exact absurd e hx2.1
      · exact e
    have h2 := List.length_erase (a := y) (l := l)
    simp only [List.length_cons]
    split at h2 <;> omega
theorem over_few {n : List UInt8} {whole : Nat} (hw : whole ≤ 99) {l : List (List UInt8)} (hn : l.Nodup) : (l.filter (overF n whole)).length ≤ 201 := by
  refine Nat.le_trans (nodup_len (draftF n :: ((List.range 100).map (partF n) ++ (List.range 100).map (wholeF n))) _ (hn.filter _) fun x hx => ?_) (by simp)
  rcases over_is (List.mem_filter.1 hx).2 with e | ⟨i, hi, e⟩ | ⟨i, hi, e⟩
  · rw [e]; simp
  · rw [e]
    exact List.mem_cons_of_mem _ (List.mem_append_left _ (List.mem_map.2 ⟨i, List.mem_range.2 (by omega), rfl⟩))
  · rw [e]
    exact List.mem_cons_of_mem _ (List.mem_append_right _ (List.mem_map.2 ⟨i, List.mem_range.2 (by omega), rfl⟩))

def SweepIs (w0 : World) (S : Nat → Prop) (t l g M room : Nat) (vt vm : Value) (n s : List UInt8) (last cnt : Nat) (tight : Int) (tabs : List (List Wr)) (mem : List Wr) (D : Dsk) (whole : Nat) (W : World) (e : Ending) (W' : World) : Prop :=
  e = .returned (.int .i64 0) ∧ ∃ T D', DkS W' g M T D' ∧ TreeAt w0 W' T t l g vt vm n s last cnt tight tabs mem ∧ (∀ k, T k → since S W W' k) ∧ Apart S W W' ∧ Ample D' room ∧
    ∀ m, getF D'.now m = if overF n whole m = true then none else getF D.now m

set_option maxRecDepth 100000 in
set_option maxHeartbeats 1600000 in
theorem sweep_s (N M room whole : Nat) (D : Dsk) {w0 W : World} {S : Nat → Prop} {t l g : Nat} {vt vm : Value} {n s : List UInt8} {last cnt : Nat} {tight : Int} {tabs : List (List Wr)} {mem : List Wr} (h : TreeAt w0 W S t l g vt vm n s last cnt tight tabs mem) (he : ErrAt w0)
    (hd : DkS W g N S D) (ha : Ample D room) (hn : n.length ≤ 50) (hm : ∀ m, (getF D.now m).isSome = true → Nice n partE m ∧ Nice n wholeE m) (hw : whole ≤ 99) (hN : N + 1000 ≤ M) (hM : M ≤ 137438953472) :
    Calls Tryz.prog 28 #[.pointer (some ⟨t, 0, none⟩), .int .i64 whole] W (SweepIs w0 S t l g M room vt vm n s last cnt tight tabs mem D whole W) := by
  obtain ⟨c0, _⟩ := h.cells
  have CN := Lib.hid (names_all g N S D W hd ha.off)
  have H := Lib.hid h
  have HE := Lib.hid he
  have HD := Lib.hid hd
  have HA := Lib.hid ha
  have HSL := Lib.hid hd.lt
  have HM := Lib.hid hm
  clear h he hd ha hm
  go_enter Tryz.func28, Tryz.ntmps28
  go_wp2_with fail
  refine CN.out.mono ?_
  rintro r w1 ⟨v, ns, rfl, hown, hb1, hnd, hmem⟩
  obtain ⟨A, c, rfl, hl1, hl2⟩ := hown.strs.len
  have hl3 : c ≤ 9223372036854775807 := hl2
  have HO := Lib.hid hown
  have HB1 := Lib.hid hb1
  have HND := Lib.hid hnd
  have HMM := Lib.hid hmem
  have HT1 := Lib.hid (H.out.below hb1)
  have HD1 := Lib.hid (HD.out.below hb1)
  clear hown hb1 hnd hmem CN hl2
  go_wp2_with fail
  go_loopw [14] (fun i wr => ∃ (j : Nat) (T : Nat → Prop) (E : Dsk), i = .int .i64 j ∧ j ≤ ns.length ∧ Hid (DkS wr g (N + 4 * ((ns.take j).filter (overF n whole)).length) T E) ∧ Hid (TreeAt w0 wr T t l g vt vm n s last cnt tight tabs mem) ∧ Hid (∀ k, T k → since S w1 wr k) ∧ Hid (Apart S w1 wr) ∧ Hid (Ample E room) ∧
    Hid (∀ m, getF E.now m = if overF n whole m = true ∧ m ∈ ns.take j then none else getF D.now m)) (fun i _ => ns.length - (intOf i).toNat)
  case atStart =>
    refine ⟨0, S, D, rfl, by omega, ?_, HT1, (fun k hk => .inl hk), Apart.refl _ _, HA, fun m => ?_⟩
    · unfold Hid; simpa using HD1.out
    · simp
  case round =>
    obtain ⟨j, T, E, rfl, hj, hdk, htr, hsets, hap1, hamp, hget⟩ := hrel
    by_cases hlt : j < ns.length
    · have hst := (HO.out.aside hap1.out (fun b hb e => by have h1 := HSL.out b e; have h2 := (HO.out.lt b hb).1; omega)).strs
      obtain ⟨b2, off2, c2', e2, _, _, hB2, hat⟩ := hst.at (by omega)
      injection e2 with e2 _ e3
      subst e2 e3
      have d0 := hat j hlt
      have hxl : ns[j] ∈ ns := List.getElem_mem hlt
      have htk := List.take_succ_eq_append_getElem hlt
      have hnot : ns[j] ∉ ns.take j := fun hx => by
        obtain ⟨i, hi, e⟩ := List.mem_take_iff_getElem.1 hx
        exact List.pairwise_iff_getElem.1 HND.out i j (by omega) hlt (by omega) e
      have hfew : ((ns.take j).filter (overF n whole)).length ≤ 201 := over_few hw (HND.out.sublist (List.take_sublist _ _))
      obtain ⟨x, hx⟩ : ∃ x, ns[j] = x := ⟨_, rfl⟩
      rw [hx] at d0 hxl htk hnot
      have hxs := ((HMM.out x).1 hxl).2
      obtain ⟨hp, hq⟩ := HM.out x hxs
      have CO := over_s t n x whole wr ⟨htr.out.cells.2.1, htr.out.lt⟩ (HE.out.low htr.out.base) hn hp hq hw
      have hxn : x.length ≤ 1000 := by obtain ⟨c, r, rfl, _, _, hr⟩ := hp.1; simp; omega
      obtain ⟨q, hqq⟩ : ∃ q, ((ns.take j).filter (overF n whole)).length = q := ⟨_, rfl⟩
      rw [hqq] at hdk hfew
      have hes : (getF E.now x).isSome = true := by rw [hget.out, if_neg (fun e => hnot e.2)]; exact hxs
      cases ho : overF n whole x
      · rw [ho] at CO
        have CO := Lib.hid CO
        have HQ : Hid (((ns.take (j + 1)).filter (overF n whole)).length = q) := by unfold Hid; rw [htk, List.filter_append, List.filter_cons_of_neg (by rw [ho]; simp), List.filter_nil, List.append_nil]; exact hqq
        have HG : Hid (∀ m, getF E.now m = if overF n whole m = true ∧ m ∈ ns.take (j + 1) then none else getF D.now m) := fun m => by
          rw [hget.out]
          by_cases e : overF n whole m = true ∧ m ∈ ns.take j
          · rw [if_pos e, if_pos ⟨e.1, by rw [htk]; exact List.mem_append_left _ e.2⟩]
          · rw [if_neg e, if_neg]
            rintro ⟨h1, h2⟩
            rw [htk] at h2
            rcases List.mem_append.1 h2 with h2 | h2
            · exact e ⟨h1, h2⟩
            · rw [List.mem_singleton.1 h2, ho] at h1; cases h1
        clear hat hx hxl htk hnot hxs hp hq hqq hes ho hst hget
        go_wp2_with fail
        refine CO.out.mono ?_
        rintro r w2 ⟨rfl, hb2⟩
        have HB2 := Lib.hid hb2
        clear hb2 CO
        go_wp2_with fail
        go_roundw
        case rel =>
          have hz2 := HB2.out.size
          refine ⟨j + 1, T, E, by go_num, by omega, ?_, htr.out.below HB2.out, fun k hk => ?_, ?_, hamp, HG.out⟩
          · unfold Hid; rw [HQ.out]; exact hdk.out.below HB2.out
          · rcases hsets.out k hk with h1 | h1
            · exact .inl h1
            · exact .inr ⟨h1.1, by omega⟩
          · exact hap1.out.trans (Apart.below HB2.out)
        case measure => simp [intOf]; omega
      · rw [ho] at CO
        have CO := Lib.hid CO
        obtain ⟨_, ga, gg, gz⟩ := hamp.out.gone x
        have gz := gz hes
        have CR := fun W' (hb : Below wr.heap.size wr W') => remove_dks g (N + 4 * q) T E x W' (hdk.out.below hb) (by omega) (by omega)
        obtain ⟨⟨E2, e2⟩, hE2⟩ : ∃ R, removeD E x = R := ⟨_, rfl⟩
        rw [hE2] at ga gg gz
        simp only [hE2] at CR
        dsimp only at ga gg gz
        subst gz
        have CR := Lib.hid CR
        have HQ : Hid (((ns.take (j + 1)).filter (overF n whole)).length = q + 1) := by unfold Hid; rw [htk, List.filter_append, List.filter_cons_of_pos (by rw [ho]), List.filter_nil, List.length_append, hqq]; rfl
        have HG : Hid (∀ m, getF E2.now m = if overF n whole m = true ∧ m ∈ ns.take (j + 1) then none else getF D.now m) := fun m => by
          rw [gg]
          by_cases e : m = x
          · rw [if_pos e, if_pos ⟨by rw [e]; exact ho, by rw [htk, e]; simp⟩]
          · rw [if_neg e, hget.out]
            by_cases e2 : overF n whole m = true ∧ m ∈ ns.take j
            · rw [if_pos e2, if_pos ⟨e2.1, by rw [htk]; exact List.mem_append_left _ e2.2⟩]
            · rw [if_neg e2, if_neg]
              rintro ⟨h1, h2⟩
              rw [htk] at h2
              rcases List.mem_append.1 h2 with h2 | h2
              · exact e2 ⟨h1, h2⟩
              · exact e (List.mem_singleton.1 h2)
        have HGA := Lib.hid ga
        clear hat hx hxl htk hnot hxs hp hq hqq hes ho hst hget gg ga hE2
        go_wp2_with fail
        refine CO.out.mono ?_
        rintro r w2 ⟨rfl, hb2⟩
        have HB2 := Lib.hid hb2
        have CR2 := Lib.hid (CR.out w2 hb2)
        have x0 := (htr.out.below hb2).cells.1
        clear hb2 CO CR
        go_wp2_with fail
        refine CR2.out.mono ?_
        intro r w3 hm
        obtain rfl := hm.1
        have HM3 := Lib.hid hm.2
        clear hm CR2
        go_wp2_with fail
        go_roundw
        case rel =>
          have hz := hap1.out.size
          have hz2 := HB2.out.size
          have hz3 := HM3.out.2.size
          refine ⟨j + 1, since T w2 w3, E2, by go_num, by omega, ?_, (htr.out.below HB2.out).apart HM3.out.2, fun k hk => ?_, ?_, HGA, HG.out⟩
          · unfold Hid; rw [HQ.out]; exact HM3.out.1
          · rcases hk with hk | hk
            · rcases hsets.out k hk with h1 | h1
              · exact .inl h1
              · exact .inr ⟨h1.1, by omega⟩
            · exact .inr ⟨by omega, hk.2⟩
          · exact (hap1.out.trans (Apart.below HB2.out)).trans (HM3.out.2.mono fun k hk => by
              rcases hsets.out k hk with h1 | h1
              · exact .inl h1
              · exact .inr ⟨h1.1, by omega⟩)
        case measure => simp [intOf]; omega
    · have hfew : ((ns.take j).filter (overF n whole)).length ≤ 201 := over_few hw (HND.out.sublist (List.take_sublist _ _))
      have hg := hget.out
      rw [List.take_of_length_le (by omega)] at hg
      have HG := Lib.hid hg
      clear hg hget
      go_wp2_with fail
      go_ret
      refine ⟨rfl, T, E, hdk.out.mono (by omega) hM, htr.out, fun k hk => ?_, ?_, hamp.out, fun m => ?_⟩
      · rcases hsets.out k hk with h1 | h1
        · exact .inl h1
        · exact .inr ⟨by have := HB1.out.size; omega, h1.2⟩
      · exact (Apart.below HB1.out).trans (hap1.out.mono fun k hk => .inl hk)
      rw [HG.out]
      by_cases e : overF n whole m = true
      · rw [if_pos e]
        by_cases e2 : m ∈ ns
        · rw [if_pos ⟨e, e2⟩]
        · rw [if_neg (fun h => e2 h.2)]
          cases hs : getF D.now m with
          | none => rfl
          | some x =>
            have h1 : (getF D.now m).isSome = true := by rw [hs]; rfl
            obtain ⟨c, r, rfl, _, _, hr⟩ := (HM.out m h1).1.1
            exact absurd ((HMM.out _).2 ⟨by simp [maxLen]; omega, h1⟩) e2
      · rw [if_neg e, if_neg (fun h => e h.1)]

end Go.Proofs.YtlchmkpnehbnlaaGreatDoor.Cd

/-
  Tables put together: join. Conditions: the power is on, and no end of it in sight.
-/
namespace Go.Proofs.YtlchmkpnehbnlaaGreatDoor.Cd
open Go.RowKit

theorem TabsAt.tbs {W : World} {S : Nat → Prop} {v : Value} {tabs : List (List Wr)} (h : TabsAt W S v tabs) : TbsIn W W.heap.size v tabs := by
  obtain ⟨A, c, rfl, h1, h2⟩ := h.len
  refine ⟨A, c, rfl, h1, h2, fun h0 => ?_⟩
  obtain ⟨T0, hT0⟩ : ∃ T, tabs[0]? = some T := ⟨tabs[0], List.getElem?_eq_getElem h0⟩
  obtain ⟨r, u, rfl, hr, _⟩ := h.at hT0
  refine ⟨r, 0, rfl, hr, fun i T hT => ?_⟩
  obtain ⟨r2, u2, e, _, hc, hf⟩ := h.at hT
  injection e with e
  injection e with e _ _
  subst e
  exact ⟨u2, hf.1, by rw [Nat.zero_add]; exact hc⟩
theorem tabsIn_one {w : World} {q : Nat} {X : List Wr} (h : TabV w (.pointer (some ⟨q, 0, none⟩)) X) : TabsIn (w.alloc (.cells #[.pointer (some ⟨q, 0, none⟩)] 75)) (w.heap.size + 1) (.slice (some ⟨w.heap.size, 0, none⟩) 1 1) [X] := by
  refine ⟨_, 1, rfl, Nat.le_refl _, by decide, fun _ => ⟨w.heap.size, 0, rfl, by omega, fun i T hi => ?_⟩⟩
  match i with
  | 0 => obtain rfl : X = T := by simpa using hi
         exact ⟨_, h.below ((Below.refl _ _).alloc (Nat.le_refl _) _), cell_of_row _ _ 0 _ _ _ (heap_alloc_new w _)⟩
  | i + 1 => simp at hi
theorem tabsAt_one {w : World} {S : Nat → Prop} {u : Value} {T : List Wr} (h : FarT w S u T) (hS : ∀ k, S k → k < w.heap.size) : TabsAt (w.alloc (.cells #[u] 32)) S (.slice (some ⟨w.heap.size, 0, none⟩) 1 1) [T] := by
  refine ⟨[u], ⟨rfl, .inr ⟨w.heap.size, 1, #[u], rfl, Nat.zero_le _, heap_alloc_new w _, Nat.le_refl _, by decide, rfl, rfl⟩⟩, fun r hr hs => ?_, fun i x U hx hU => ?_⟩
  · injection hr with hr
    have := hS r hs
    simp at hr
    omega
  · match i with
    | 0 => obtain rfl : u = x := by simpa using hx
           obtain rfl : T = U := by simpa using hU
           exact h.below ((Below.refl _ _).alloc (Nat.le_refl _) _)
    | i + 1 => simp at hx
theorem over_self (n : List UInt8) {last : Nat} (h : last ≤ 99) : overF n last (wholeF n last) = false := by
  cases ho : overF n last (wholeF n last) with
  | false => rfl
  | true =>
    rcases over_is ho with e | ⟨i, _, e⟩ | ⟨i, hi, e⟩
    · exact absurd e (whole_draft _ _)
    · exact absurd e.symm (part_whole _ _ _)
    · have := fileF_inj h (by omega) e; omega

def FarM (w : World) (S : Nat → Prop) (q : Nat) (X : List Wr) : Prop := ¬ S q ∧ ∃ b, q < w.heap.size ∧ w.cell? ⟨q, 0, none⟩ = some (.map (some b)) ∧ TabM w b X ∧ ¬ S b
theorem FarM.tab {w : World} {S : Nat → Prop} {q : Nat} {X : List Wr} (h : FarM w S q X) : TabV w (.pointer (some ⟨q, 0, none⟩)) X := by
  obtain ⟨_, b, h1, h2, h3, _⟩ := h
  exact .inr ⟨q, rfl, b, h1, h2, h3⟩
theorem FarM.below {w w' : World} {S : Nat → Prop} {q : Nat} {X : List Wr} (h : FarM w S q X) (hb : Below w.heap.size w w') : FarM w' S q X := by
  obtain ⟨h0, b, h1, h2, h3, h4⟩ := h
  exact ⟨h0, b, Nat.lt_of_lt_of_le h1 hb.size, (hb.cell (p := ⟨q, 0, none⟩) h1).trans h2, h3.below hb, h4⟩
theorem FarM.apart {w w' : World} {S : Nat → Prop} {q : Nat} {X : List Wr} (h : FarM w S q X) (ha : Apart S w w') : TabV w' (.pointer (some ⟨q, 0, none⟩)) X := by
  obtain ⟨h0, b, h1, h2, h3, h4⟩ := h
  exact .inr ⟨q, rfl, b, Nat.lt_of_lt_of_le h1 ha.size, (ha.cell (p := ⟨q, 0, none⟩) h1 h0).trans h2, h3.1.apart ha h4, h3.2⟩
theorem made_far {w w' : World} {S : Nat → Prop} {X : List Wr} {e : Ending} (h : Made w X e w') (hS : ∀ k, S k → k < w.heap.size) : ∃ q, e = .returned (.pointer (some ⟨q, 0, none⟩)) ∧ FarM w' S q X ∧ Below w.heap.size w w' := by
  obtain ⟨q, b, rfl, h1, h2, h3, h4, _, h6, h7⟩ := h
  exact ⟨q, rfl, ⟨fun e => by have := hS q e; omega, b, h2, h3, h6, fun e => by have := hS b e; omega⟩, h7⟩

def JoinIs (w0 : World) (S : Nat → Prop) (t l g M room : Nat) (vt vm : Value) (n s : List UInt8) (last cnt : Nat) (tight : Int) (tabs : List (List Wr)) (mem : List Wr) (D : Dsk) (W : World) (e : Ending) (W' : World) : Prop :=
  e = .returned (.int .i64 0) ∧ ((∃ T tight', (-1000000 ≤ tight' ∧ tight' ≤ 1000000) ∧ ((tight' = tight ∧ (tabs.length < 4 ∨ freeD D ≤ tight)) ∨ room < count D.now + pagesOf (bytesW (wholeT tabs)).length) ∧ DkS W' g M T D ∧ TreeAt w0 W' T t l g vt vm n s last cnt tight' tabs mem ∧ TreeTo W S t l vt W' T vt) ∨
  (4 ≤ tabs.length ∧ ∃ T D' vt', DkS W' g M T D' ∧ TreeAt w0 W' T t l g vt' vm n s last cnt tight [wholeT tabs] mem ∧ TreeTo W S t l vt W' T vt' ∧ Ample D' room ∧
    ∀ m, getF D'.now m = if m = wholeF n last then some ⟨wholeF n last, pagesB (bytesW (wholeT tabs))⟩ else if overF n last m = true then none else getF D.now m))

set_option maxRecDepth 100000 in
set_option maxHeartbeats 3200000 in
theorem join_s (N M room : Nat) (D : Dsk) {w0 W : World} {S : Nat → Prop} {t l g : Nat} {vt vm : Value} {n s : List UInt8} {last cnt : Nat} {tight : Int} {tabs : List (List Wr)} {mem : List Wr} (h : TreeAt w0 W S t l g vt vm n s last cnt tight tabs mem) (he : ErrAt w0)
    (hd : DkS W g N S D) (ha : Ample D room) (hg : ∀ T ∈ tabs, GoodT T) (hs : sumBs tabs ≤ 300000) (hn : n.length ≤ 50) (h1 : (getF D.now (draftF n)).isSome = false) (h2 : 4 ≤ tabs.length → (getF D.now (wholeF n last)).isSome = false)
    (hm : ∀ m, (getF D.now m).isSome = true → Nice n partE m ∧ Nice n wholeE m) (hm2 : 4 ≤ tabs.length → Nice n partE (wholeF n last) ∧ Nice n wholeE (wholeF n last))
    (hlast : last ≤ 98) (htl : tabs.length ≤ 1000) (hti : -1000000 ≤ tight ∧ tight ≤ 1000000) (hr : room ≤ 4096) (hN : N + 20000 ≤ M) (hM : M ≤ 137438953472) :
    Calls Tryz.prog 37 #[.pointer (some ⟨t, 0, none⟩)] W (JoinIs w0 S t l g M room vt vm n s last cnt tight tabs mem D W) := by
  obtain ⟨c0, c1, c2, c3, c4, c5, c6, c7⟩ := h.cells
  obtain ⟨Av, cv, rfl, hv1, hv2⟩ := h.tabs.len
  have H := Lib.hid h
  have HD := Lib.hid hd
  by_cases h4 : tabs.length < 4
  · have h4' : (tabs.length : Int) < 4 := by omega
    have k4 : decide (tabs.length < 4) = true := decide_eq_true h4
    clear h he hd hg hs h1 h2 hm hm2
    go_enter Tryz.func37, Tryz.ntmps37
    go_wp2_with fail
    go_quiet (fail)
    all_goals go_wp2_with fail
    all_goals go_ret
    all_goals exact ⟨rfl, .inl ⟨S, tight, hti, .inl ⟨rfl, .inl h4⟩, (HD.out.mono (by omega) hM).below ⟨rfl, rfl, rfl, Nat.le_refl _, fun _ _ => rfl⟩, H.out.below ⟨rfl, rfl, rfl, Nat.le_refl _, fun _ _ => rfl⟩, TreeTo.below ⟨rfl, rfl, rfl, Nat.le_refl _, fun _ _ => rfl⟩⟩⟩
  have h4' : ¬ (tabs.length : Int) < 4 := by omega
  have k4 : decide (tabs.length < 4) = false := decide_eq_false h4
  have k5 : decide ((tabs.length : Int) < 4) = false := decide_eq_false h4'
  have CF := free_dks g N S D W.drew (hd.below (Below.refl _ _).drew)
  obtain ⟨fr, hfr⟩ : ∃ fr, freeD D = fr := ⟨_, rfl⟩
  rw [hfr] at CF
  have CF := Lib.hid CF
  have HFR := Lib.hid hfr
  clear hfr
  by_cases hft : fr ≤ tight
  · have k7 : decide (fr ≤ tight) = true := decide_eq_true hft
    have q7 : W.drew.cell? ⟨t, 7, none⟩ = some (.int .i64 tight) := c7
    have q0 : W.drew.cell? ⟨t, 0, none⟩ = some (.pointer (some ⟨g, 0, none⟩)) := c0
    have q3 : W.drew.cell? ⟨t, 3, none⟩ = some (.slice Av tabs.length cv) := c3
    clear h he hd hg hs h1 h2 hm hm2
    go_enter Tryz.func37, Tryz.ntmps37
    go_wp2_with fail
    go_region_held3 (fun W' => W'.cell? ⟨t, 0, none⟩ = some (.pointer (some ⟨g, 0, none⟩)) ∧ W'.cell? ⟨t, 3, none⟩ = some (.slice Av tabs.length cv) ∧ W'.cell? ⟨t, 7, none⟩ = some (.int .i64 tight)) (first | exact ⟨c0, c3, c7⟩ | assumption) (first
      | (go_at_call 62; refine CF.out.mono ?_; rintro e w1 ⟨rfl, hb1⟩
         have hs1 : w1.cell? ⟨t, 0, none⟩ = some (.pointer (some ⟨g, 0, none⟩)) ∧ w1.cell? ⟨t, 3, none⟩ = some (.slice Av tabs.length cv) ∧ w1.cell? ⟨t, 7, none⟩ = some (.int .i64 tight) := ⟨(hb1.cell (p := ⟨t, 0, none⟩) H.out.lt).trans c0, (hb1.cell (p := ⟨t, 3, none⟩) H.out.lt).trans c3, (hb1.cell (p := ⟨t, 7, none⟩) H.out.lt).trans c7⟩
         have HB1 := Lib.hid ((Below.refl W.heap.size W).drew.trans hb1)
         clear hb1))
    all_goals go_wp2_with fail
    all_goals go_ret
    all_goals exact ⟨rfl, .inl ⟨S, tight, hti, .inl ⟨rfl, .inr (by rw [HFR.out]; exact hft)⟩, (HD.out.mono (by omega) hM).below HB1.out, H.out.below HB1.out, TreeTo.below HB1.out⟩⟩
  have k7 : decide (fr ≤ tight) = false := decide_eq_false hft
  have hfrb : -1000000 ≤ fr ∧ fr ≤ 1000000 := by have h1 := ha.roomy.free; have h2 := ha.fits; rw [HFR.out] at h1; omega
  have hSlt := Lib.hid hd.lt
  have hgw : GoodT (wholeT tabs) := (GoodT.of (lim_flat hg)).keep true
  have hsw : sumB (wholeT tabs) ≤ 300000 := by
    have e1 := sumB_of tabs.flatten
    have e2 := sumB_keep true (ofW tabs.flatten)
    rw [sumBs_flat] at e1
    unfold wholeT
    omega
  have hfl : tabs.flatten.length ≤ 300000 := by
    have e1 := sumBs_flat tabs
    unfold sumB at e1
    omega
  have hmw : mergeW true [ofW tabs.flatten] = wholeT tabs := by
    unfold mergeW wholeT
    rw [List.flatten_singleton, ofW_of]
  have hpl : (wholeF n last).length ≤ 100 := by have := dec_len last; simp only [wholeF, fileF, List.length_append, wholeE, List.length_cons, List.length_nil]; omega
  have CS := fun q W' (hb : Below W.heap.size W W') (hq : TabV W' (.pointer (some ⟨q, 0, none⟩)) (wholeT tabs)) => save_s q N (N + 10000) room (wholeT tabs) (wholeF n last) D (h.below hb) (hd.below hb) ha hq hgw.lim hsw hn hpl h1 (h2 (by omega)) (fun e => whole_draft _ _ e.symm) (Nat.le_refl _) (by omega)
  have CW := fun W' (hb : Below W.heap.size W W') => file_s t n wholeE last W' (NameAt.below ⟨c1, h.lt⟩ hb) (by omega) (by simp [wholeE]; omega)
  rw [show fileF n wholeE last = wholeF n last from rfl, show wholeE = [45, 119, 104, 111, 108, 101] from rfl] at CW
  have hff := fun p (hp : p ∈ tabs.flatten) => (lim_flat hg).fit p hp
  obtain ⟨f, hf⟩ : ∃ f, wholeF n last = f := ⟨_, rfl⟩
  rw [hf] at CS CW
  obtain ⟨Z, hZ⟩ : ∃ Z, wholeT tabs = Z := ⟨_, rfl⟩
  rw [hZ] at CS hmw hgw hsw
  obtain ⟨Y, hY⟩ : ∃ Y, tabs.flatten = Y := ⟨_, rfl⟩
  rw [hY] at hmw hfl hff
  have hX1 := ofW_len Y
  obtain ⟨X, hX⟩ : ∃ X, ofW Y = X := ⟨_, rfl⟩
  rw [hX] at hmw hX1
  have HF := Lib.hid hf
  have HZ := Lib.hid hZ
  have HY := Lib.hid hY
  have HX := Lib.hid hX
  have HMW := Lib.hid hmw
  have HFF := Lib.hid hff
  have CS := Lib.hid CS
  have CW := Lib.hid CW
  have HE := Lib.hid he
  have HNM := Lib.hid (And.intro hm hm2)
  have HGW := Lib.hid (And.intro hgw hsw)
  clear h he hd ha hg hs h1 h2 hm hm2 hf hZ hY hX hmw hff hgw hsw hpl
  go_enter Tryz.func37, Tryz.ntmps37
  go_wp2_with fail
  go_region_held3 (fun W' => W'.cell? ⟨t, 0, none⟩ = some (.pointer (some ⟨g, 0, none⟩)) ∧ W'.cell? ⟨t, 3, none⟩ = some (.slice Av tabs.length cv) ∧ W'.cell? ⟨t, 7, none⟩ = some (.int .i64 tight)) (first | exact ⟨c0, c3, c7⟩ | assumption) (first
    | (go_at_call 62; refine CF.out.mono ?_; rintro e w1 ⟨rfl, hb1⟩
       have hs1 : w1.cell? ⟨t, 0, none⟩ = some (.pointer (some ⟨g, 0, none⟩)) ∧ w1.cell? ⟨t, 3, none⟩ = some (.slice Av tabs.length cv) ∧ w1.cell? ⟨t, 7, none⟩ = some (.int .i64 tight) := ⟨(hb1.cell (p := ⟨t, 0, none⟩) H.out.lt).trans c0, (hb1.cell (p := ⟨t, 3, none⟩) H.out.lt).trans c3, (hb1.cell (p := ⟨t, 7, none⟩) H.out.lt).trans c7⟩
       have HB1 := Lib.hid ((Below.refl W.heap.size W).drew.trans hb1)
       clear hb1))
  all_goals
    have y3 : w1.cell? ⟨t, 3, none⟩ = some (.slice Av tabs.length cv) := (H.out.below HB1.out).cells.2.2.2.1
    have CC := concat_tb _ tabs w1 (H.out.below HB1.out).tabs.tbs (by rw [HY.out]; omega) (by omega)
    rw [HY.out] at CC
    have CC := Lib.hid CC
    go_wp2_with fail
    refine CC.out.mono ?_
    rintro e w2 ⟨v2, rfl, ho2, hb2⟩
    have HB2 := Lib.hid (HB1.out.trans (hb2.mono HB1.out.size))
    have CO := tof_any v2 Y w2 ho2.tbIn HFF.out (by omega)
    rw [HX.out] at CO
    have CO := Lib.hid CO
    obtain ⟨A2, k2, rfl, _, _⟩ := ho2.tbIn.len
    clear ho2 hb2 CC y3
    go_wp2_with fail
    refine CO.out.mono ?_
    intro e w3 hmade
    obtain ⟨q3, rfl, hq3, hb3⟩ := made_far (S := S) hmade (fun k hk => Nat.lt_of_lt_of_le (hSlt.out k hk) HB2.out.size)
    have htb := tabsIn_one hq3.tab
    have hb3b : Below w3.heap.size w3 (w3.alloc (.cells #[.pointer (some ⟨q3, 0, none⟩)] 75)) := (Below.refl _ _).alloc (Nat.le_refl _) _
    have hz3b : (w3.alloc (.cells #[.pointer (some ⟨q3, 0, none⟩)] 75)).heap.size = w3.heap.size + 1 := by simp
    have CM := tmerge_any true _ [X] (w3.alloc (.cells #[.pointer (some ⟨q3, 0, none⟩)] 75)) (by rw [hz3b]; exact htb) (by simp; omega)
    rw [HMW.out] at CM
    have CM := Lib.hid CM
    have HB3 := Lib.hid ((HB2.out.trans (hb3.mono HB2.out.size)).trans (hb3b.mono (Nat.le_trans HB2.out.size hb3.size)))
    clear hmade hq3 hb3 htb hb3b hz3b CO
    go_wp2_with fail
    refine CM.out.mono ?_
    intro e w4 hmade
    obtain ⟨q4, rfl, hq4, hb4⟩ := made_far (S := S) hmade (fun k hk => Nat.lt_of_lt_of_le (hSlt.out k hk) HB3.out.size)
    have hb4w := HB3.out.trans (hb4.mono HB3.out.size)
    have y4 : w4.cell? ⟨t, 4, none⟩ = some (.int .i64 last) := (H.out.below hb4w).cells.2.2.2.2.1
    have HB4 := Lib.hid hb4w
    have HQ4 := Lib.hid hq4
    have CW4 := Lib.hid (CW.out w4 hb4w)
    clear hmade hq4 hb4 hb4w CM
    go_wp2_with fail
    refine CW4.out.mono ?_
    rintro e w5 ⟨rfl, hb5⟩
    have hb5w := HB4.out.trans (hb5.mono HB4.out.size)
    have HQ5 := Lib.hid (HQ4.out.below hb5)
    have CS5 := Lib.hid (CS.out q4 w5 hb5w HQ5.out.tab)
    have HB5 := Lib.hid hb5w
    clear hb5 hb5w CW4 y4
    go_wp2_with fail
    refine CS5.out.mono ?_
    intro e w6 hsv
    obtain ⟨z, T, D', rfl, ht6, hd6, hs6, ha6, hz6⟩ := hsv.one
    have HT6 := Lib.hid ht6
    have HD6 := Lib.hid hd6
    have HS6 := Lib.hid (And.intro hs6 ha6)
    have HZ6 := Lib.hid hz6
    have x0 := ht6.cells.1
    have x4 := ht6.cells.2.2.2.2.1
    have x7 := ht6.cells.2.2.2.2.2.2.2
    have t1 : TreeTo W S t l (.slice Av tabs.length cv) w6 T (.slice Av tabs.length cv) := ⟨fun k hk => by
      have hz5 := HB5.out.size
      rcases hs6 k hk with h1 | h1
      · exact .inl h1
      · exact .inr ⟨by omega, h1.2⟩, (Apart.below HB5.out).trans (ha6.mono fun k hk => .inl (.inl hk)), fun _ => .inl⟩
    have T1 := Lib.hid t1
    clear hsv ht6 hd6 hs6 ha6 hz6 CS5 t1
    cases z
    · have hz6 : D' = D ∧ room < count D.now + pagesOf (bytesW Z).length := by
        rcases HZ6.out with ⟨_, h1, h2⟩ | ⟨h, _⟩
        · exact ⟨h1, h2⟩
        · cases h
      obtain ⟨rfl, hfull⟩ := hz6
      have CF6 := free_dks g (N + 10000) T D' w6 HD6.out
      rw [HFR.out] at CF6
      have CF6 := Lib.hid CF6
      go_wp2_with fail
      refine CF6.out.mono ?_
      rintro e w7 ⟨rfl, hb7⟩
      have h7 := HT6.out.below hb7
      have f7 := h7.frozen 7
      have y7 := h7.cells.2.2.2.2.2.2.2
      have h8 := Lib.hid (h7.set7 fr)
      have hd8 := Lib.hid ((HD6.out.below hb7).put (o := 7) (x := .int .i64 fr) HT6.out.far)
      have HB7 := Lib.hid hb7
      clear h7 hb7 CF6
      go_wp2_with fail
      go_ret
      refine ⟨rfl, .inl ⟨T, fr, hfrb, .inr (by rw [HZ.out]; exact hfull), hd8.out.mono (by omega) hM, h8.out, ?_⟩⟩
      refine T1.out.trans ⟨fun _ => .inl, (Apart.below HB7.out).trans ((apart_set w7 t 7 _).mono fun k hk => .inl (.inr (.inr (.inl hk)))), fun _ => .inl⟩ fun r hr => (h8.out.tabs.lt hr).1
    · have hk6 : Ample D' room ∧ ∀ m, getF D'.now m = if m = f then some ⟨f, pagesB (bytesW Z)⟩ else getF D.now m := by
        rcases HZ6.out with ⟨h, _⟩ | ⟨_, _, h2, h3⟩
        · cases h
        · exact ⟨h2, h3⟩
      have HK6 := Lib.hid hk6
      have CA := Lib.hid (tall_any _ Z w6 (HQ5.out.apart HS6.out.2) (by have := HGW.out.2; unfold sumB at this; omega))
      clear hk6
      go_wp2_with fail
      refine CA.out.mono ?_
      rintro e w7 ⟨v7, rfl, hn7, hb7⟩
      have hT6 := HD6.out.lt
      have hf7 := farT_new (S := T) hn7 hT6
      have h7 := HT6.out.below hb7
      have hto := tabsAt_one hf7 (fun k hk => Nat.lt_of_lt_of_le (hT6 k hk) hb7.size)
      have hb8 : Below w7.heap.size w7 (w7.alloc (.cells #[v7] 32)) := (Below.refl _ _).alloc (Nat.le_refl _) _
      have h8 := h7.below hb8
      have f3 := h8.frozen 3
      have y3 := h8.cells.2.2.2.1
      have h9 := h8.set3 hto (fun r hr => by injection hr with hr; have := h7.base.size; simp at hr; omega)
      have y4 := h9.cells.2.2.2.2.1
      have hd9 := ((HD6.out.below hb7).below hb8).put (o := 3) (x := .slice (some ⟨w7.heap.size, 0, none⟩) 1 1) HT6.out.far
      obtain ⟨A7, k7', rfl, _, _⟩ := hf7.1.len
      have hwn : overF n last f = false := by rw [← HF.out]; exact over_self n (by omega)
      have CW9 := sweep_s (N + 10000) M room last D' h9 HE.out hd9 HK6.out.1 hn (fun m hm => by
        rw [HK6.out.2] at hm
        by_cases e : m = f
        · rw [e, ← HF.out]; exact HNM.out.2 (by omega)
        · rw [if_neg e] at hm; exact HNM.out.1 m hm) (by omega) (by omega) hM
      have t2 : TreeTo w6 T t l (.slice Av tabs.length cv) ((w7.alloc (.cells #[.slice A7 Z.length k7'] 32)).setCell ⟨t, 3, none⟩ (.slice (some ⟨w7.heap.size, 0, none⟩) 1 1)) T (.slice (some ⟨w7.heap.size, 0, none⟩) 1 1) :=
        ⟨fun _ => .inl, (Apart.below (hb7.trans (hb8.mono hb7.size))).trans ((apart_set _ t 3 _).mono fun k hk => .inl (.inr (.inr (.inl hk)))), fun r hr => by injection hr with hr; have := hb7.size; simp at hr; exact .inr (by omega)⟩
      have T2 := Lib.hid (T1.out.trans t2 fun r hr => (h9.tabs.lt hr).1)
      have CW9 := Lib.hid CW9
      have HWN := Lib.hid hwn
      clear hn7 hb7 hT6 hf7 h7 hto hb8 h8 h9 hd9 CA t2 hwn
      go_wp2_with fail
      refine CW9.out.mono ?_
      rintro e w10 ⟨rfl, T3, D3, hd10, h10, hs10, ha10, hamp, hget⟩
      have H10 := Lib.hid h10
      have HD10 := Lib.hid hd10
      have HS10 := Lib.hid (And.intro hs10 ha10)
      have HG10 := Lib.hid (And.intro hamp hget)
      clear hd10 h10 hs10 ha10 hamp hget CW9
      go_wp2_with fail
      go_ret
      refine ⟨rfl, .inr ⟨by omega, T3, D3, _, HD10.out, by rw [HZ.out]; exact H10.out, T2.out.trans ⟨HS10.out.1, HS10.out.2.mono fun k hk => .inl hk, fun _ => .inl⟩ (fun r hr => (H10.out.tabs.lt hr).1), HG10.out.1, fun m => ?_⟩⟩
      rw [HG10.out.2, HK6.out.2, HF.out, HZ.out]
      by_cases e : m = f
      · rw [if_pos e, e, HWN.out]; simp
      · rw [if_neg e, if_neg e]

end Go.Proofs.YtlchmkpnehbnlaaGreatDoor.Cd

/-
  A tree and its disk between two calls: what Apply leaves. Conditions: the power is on, and no end of it in sight; few bytes, few writes.
-/
namespace Go.Proofs.YtlchmkpnehbnlaaGreatDoor.Cd
open Go.RowKit

theorem from_of {V : List Wr} (hV : SrtW V) (ws : List Wr) : ofFrom V (ofW ws) = ofFrom V ws := by
  refine srt_ext (ofFrom_srt hV _) (ofFrom_srt hV _) fun k => ?_
  rw [getW_over _ (ofW_srt ws) (ofW_flat ws), getW_from]
  unfold ofW
  rw [getW_from]
  have : getW [] k = none := rfl
  rw [this, Option.or_none]
theorem all_of (tabs : List (List Wr)) (mem ws : List Wr) : allP (treeP tabs mem) (ofW ws) = allP (treeP tabs mem) ws := by
  unfold treeP
  rw [all_live (ofW_srt _), all_live (ofW_srt _), from_of (ofW_srt _)]
theorem of_snoc (R : List (List Wr)) (X : List Wr) : ofW (R ++ [X]).flatten = ofW (ofW R.flatten ++ X) := by
  have h1 : ∀ a b : List Wr, ofW (a ++ b) = ofFrom (ofW a) b := fun a b => by unfold ofW; rw [ofFrom_append]
  rw [List.flatten_append, List.flatten_singleton, h1, h1, ofW_of]

section
variable {D : Dsk} {n : List UInt8} {whole last b c : Nat} {tabs R : List (List Wr)}
theorem LsI.mono (h : LsI D n whole last tabs R b c) {b' c' : Nat} (hb : b ≤ b') (hc : c ≤ c') (tb : b' ≤ 200000) (tc : c' ≤ 2000) : LsI D n whole last tabs R b' c' :=
  ⟨h.ne, h.short, h.letters, h.own, h.files, h.le, h.lay, h.good, h.goodr, Nat.le_trans h.bytes hb, Nat.le_trans h.few hc, tb, tc⟩
theorem pre_part {n d : List UInt8} : ¬ n ++ partE <+: n ++ wholeE ++ d := fun h => by
  rw [List.append_assoc] at h
  have := (List.prefix_append_right_inj n).1 h
  simp [partE, wholeE] at this
theorem pre_whole {n d : List UInt8} : ¬ n ++ wholeE <+: n ++ partE ++ d := fun h => by
  rw [List.append_assoc] at h
  have := (List.prefix_append_right_inj n).1 h
  simp [partE, wholeE] at this
theorem pre_self {n e : List UInt8} (he : e ≠ []) : ¬ n ++ e <+: n := fun h => by
  have h1 := h.length_le
  have := List.length_pos_iff.2 he
  rw [List.length_append] at h1
  omega
theorem pre_head {n e m : List UInt8} (hn : n ≠ []) (h : n ++ e <+: m) : m.head? = n.head? := by
  obtain ⟨r, rfl⟩ := h
  cases n with
  | nil => exact absurd rfl hn
  | cons a s => rfl
theorem LsI.nice (h : LsI D n whole last tabs R b c) : ∀ m, (getF D.now m).isSome = true → Nice n partE m ∧ Nice n wholeE m := fun m hm => by
  have ht := h.top
  have hle := h.le
  have hl := h.letters m hm
  refine ⟨⟨hl, fun hp => ?_⟩, ⟨hl, fun hp => ?_⟩⟩
  · rcases h.own m hm (pre_head h.ne.ne hp) with e | e
    · rw [e] at hp; exact absurd hp (pre_self (by simp [partE]))
    · rcases filesOf_mem e h.le with ⟨_, e⟩ | ⟨i, h1, h2, e⟩
      · rw [e] at hp; exact absurd hp pre_part
      · exact ⟨i, by omega, by omega, e⟩
  · rcases h.own m hm (pre_head h.ne.ne hp) with e | e
    · rw [e] at hp; exact absurd hp (pre_self (by simp [wholeE]))
    · rcases filesOf_mem e h.le with ⟨h1, e⟩ | ⟨i, h1, h2, e⟩
      · exact ⟨whole, by omega, by omega, e⟩
      · rw [e] at hp; exact absurd hp pre_whole
theorem LsI.nicew (h : LsI D n whole last tabs R b c) (h4 : 4 ≤ tabs.length) : Nice n partE (wholeF n last) ∧ Nice n wholeE (wholeF n last) := by
  have ht := h.top
  have hl := letter_file h.ne h.short (e := wholeE) (by simp [wholeE]) last
  have := h.tabs_len
  exact ⟨⟨hl, fun hp => absurd hp pre_part⟩, ⟨hl, fun _ => ⟨last, by split at this <;> omega, by omega, rfl⟩⟩⟩
theorem LsI.few_tabs (h : LsI D n whole last tabs R b c) : tabs.length ≤ 100 := by
  have h2 := h.top
  have h1 := h.tabs_len
  split at h1 <;> omega
end

structure Tr (w0 : World) (g N room : Nat) (n : List UInt8) (big : Prop) (P : Prs) (b c : Nat) (D : Dsk) (S : Nat → Prop) (t l : Nat) (vt : Value) (W : World) : Prop where
  disk : DkS W g N S D
  ample : Ample D room
  room : room ≤ 4096
  ex : ∃ vm whole last tight tabs R, TreeAt w0 W S t l g vt vm n (logO last R) last R.flatten.length tight tabs (ofW R.flatten) ∧ LsI D n whole last tabs R b c ∧ P = treeP tabs (ofW R.flatten) ∧ (-1000000 ≤ tight ∧ tight ≤ 1000000) ∧ (big → tight = 0 ∧ tabs.length ≤ 3)

theorem Tr.below {w0 W W' : World} {g N room : Nat} {n : List UInt8} {big : Prop} {P : Prs} {b c : Nat} {D : Dsk} {S : Nat → Prop} {t l : Nat} {vt : Value} (h : Tr w0 g N room n big P b c D S t l vt W) (hb : Below W.heap.size W W') : Tr w0 g N room n big P b c D S t l vt W' := by
  obtain ⟨h1, h2, h3, vm, whole, last, tight, tabs, R, k1, k2⟩ := h
  exact ⟨h1.below hb, h2, h3, vm, whole, last, tight, tabs, R, k1.below hb, k2⟩
theorem Tr.row {w0 W : World} {g N room : Nat} {n : List UInt8} {big : Prop} {P : Prs} {b c : Nat} {D : Dsk} {S : Nat → Prop} {t l : Nat} {vt : Value} (h : Tr w0 g N room n big P b c D S t l vt W) : ∀ k, treeU S t l vt k → k < W.heap.size := by
  obtain ⟨h1, _, _, vm, whole, last, tight, tabs, R, k1, _⟩ := h
  intro k hk
  rcases hk with hk | hk | hk | hk
  · exact h1.lt k hk
  · rw [hk]; exact k1.log.lt
  · rw [hk]; exact k1.lt
  · exact (k1.tabs.lt hk).1

def ApplyIs (w0 : World) (g M room : Nat) (n : List UInt8) (big : Prop) (P : Prs) (b c : Nat) (D : Dsk) (S : Nat → Prop) (t l : Nat) (vt : Value) (ws : List Wr) (W : World) (e : Ending) (W' : World) : Prop :=
  (e = .returned (.int .i64 7) ∧ ¬ big ∧ 510 * room < 510 * count D.now + sumB ws + 1200 ∧ ∃ T, Tr w0 g M room n big P b c D T t l vt W' ∧ TreeTo W S t l vt W' T vt) ∨
  (e = .returned (.int .i64 0) ∧ ∃ T D' vt', Tr w0 g M room n big (allP P ws) (b + sumB ws) (c + ws.length) D' T t l vt' W' ∧ TreeTo W S t l vt W' T vt' ∧ (∀ m, m.head? ≠ n.head? → getF D'.now m = getF D.now m) ∧ (c + ws.length < 24 → D'.safe = D.safe))

set_option maxRecDepth 100000 in
set_option maxHeartbeats 3200000 in
theorem apply_long (t : Nat) (v : Value) (ws : List Wr) (W : World) (h : TbIn W W.heap.size v ws) (hl : long8 ws = true) :
    Calls Tryz.prog 13 #[.pointer (some ⟨t, 0, none⟩), v] W (Gives (.int .i64 3) W) := by
  have CL := areLong_s v ws W h
  rw [hl] at CL
  have CL := Lib.hid CL
  obtain ⟨A, k, rfl, _, _⟩ := h.len
  clear h hl
  go_enter Tryz.func13, Tryz.ntmps13
  go_wp2_with fail
  refine CL.out.mono ?_
  rintro e w1 ⟨rfl, hb1⟩
  have HB1 := Lib.hid hb1
  clear hb1
  go_wp2_with fail
  go_ret
  exact ⟨rfl, HB1.out⟩
set_option maxRecDepth 100000 in
set_option maxHeartbeats 3200000 in
theorem apply_none (t : Nat) (v : Value) (W : World) (h : TbIn W W.heap.size v []) :
    Calls Tryz.prog 13 #[.pointer (some ⟨t, 0, none⟩), v] W (Gives (.int .i64 0) W) := by
  have CL := areLong_s v [] W h
  rw [show long8 [] = false from rfl] at CL
  have CL := Lib.hid CL
  obtain ⟨A, k, rfl, _, _⟩ := h.len
  clear h
  go_enter Tryz.func13, Tryz.ntmps13
  go_wp2_with fail
  refine CL.out.mono ?_
  rintro e w1 ⟨rfl, hb1⟩
  have HB1 := Lib.hid hb1
  clear hb1
  go_wp2_with fail
  go_ret
  exact ⟨rfl, HB1.out⟩

theorem limT_of_long {ws : List Wr} (h : long8 ws = false) : LimT 48 160 ws ∧ ws.length ≤ 1024 := by
  unfold long8 at h
  rw [Bool.or_eq_false_iff] at h
  refine ⟨fun p hp => ?_, by simpa using h.2⟩
  have h1 := h.1
  unfold longW at h1
  have := List.any_eq_false.1 h1 p hp
  simpa using this

set_option maxRecDepth 100000 in
set_option maxHeartbeats 6400000 in
theorem apply_s (v : Value) (ws : List Wr) {w0 W : World} {g N room : Nat} {n : List UInt8} {big : Prop} {P : Prs} {b c : Nat} {D : Dsk} {S : Nat → Prop} {t l : Nat} {vt : Value} (h : Tr w0 g N room n big P b c D S t l vt W) (he : ErrAt w0) (M : Nat)
    (hv : TbIn W W.heap.size v ws) (hl : long8 ws = false) (h0 : ws ≠ []) (hb : b + sumB ws ≤ 200000) (hc : c + ws.length ≤ 2000)
    (hbig : big → ∀ (E : Dsk) whole last tabs R, LsI E n whole last tabs R (b + sumB ws) (c + ws.length) → tabs.length ≤ 4 → (∀ m, m.head? ≠ n.head? → getF E.now m = getF D.now m) → Once E.now → count E.now + 800 ≤ room)
    (hN : N + 100000 ≤ M) (hM : M ≤ 137438953472) :
    Calls Tryz.prog 13 #[.pointer (some ⟨t, 0, none⟩), v] W (ApplyIs w0 g M room n big P b c D S t l vt ws W) := by
  have CL := areLong_s v ws W hv
  rw [hl] at CL
  have CL := Lib.hid CL
  obtain ⟨hlim, hwl⟩ := limT_of_long hl
  have hrow := h.row
  obtain ⟨hd, hamp, hroom, vm, whole, last, tight, tabs, R, ht, hi, hP, hti, hbg⟩ := h
  have hX := GoodT.of hlim
  have hXb := sumB_of ws
  have hXl := ofW_len ws
  have hX0 : ofW ws ≠ [] := fun e => by
    obtain ⟨w, hw⟩ := List.exists_mem_of_ne_nil ws h0
    have h1 : getW (ofW ws) w.1 = none := by rw [e]; rfl
    unfold ofW at h1
    rw [getW_from] at h1
    cases hf : (ws.reverse.find? fun y => y.1 == w.1) with
    | none => have := List.find?_eq_none.1 hf w (List.mem_reverse.2 hw); simp at this
    | some y => rw [hf] at h1; cases h1
  have hPX : allP P (ofW ws) = allP P ws := by rw [hP]; exact all_of _ _ _
  have hwl0 : (ws.length : Int) ≠ 0 := by have := List.length_pos_iff.2 h0; omega
  have CO := fun W' (hb2 : Below W.heap.size W W') => tof_any v ws W' ((hv.below hb2).more hb2.size) hlim.fit (by omega)
  obtain ⟨X, hXX⟩ : ∃ X, ofW ws = X := ⟨_, rfl⟩
  rw [hXX] at hX hXb hXl hX0 hPX CO
  obtain ⟨l1, hl1⟩ : ∃ x : Nat, last + 1 = x := ⟨_, rfl⟩
  have hl1i : (last : Int) + 1 = (l1 : Int) := by omega
  have htop := hi.top
  have hwr : IntKind.i64.wrap (l1 : Int) = l1 := by rw [IntKind.wrap_i64]; omega
  have hsX : sumB X ≤ 200000 := by omega
  obtain ⟨rb, hrb⟩ : ∃ x, recO l1 X = x := ⟨_, rfl⟩
  have HRB := Lib.hid hrb
  have HO := Lib.hid CO
  have HT := Lib.hid ht
  have HI := Lib.hid hi
  have HD := Lib.hid hd
  have HA := Lib.hid hamp
  have HX := Lib.hid hX
  have HX0 := Lib.hid hX0
  have HP := Lib.hid (And.intro hP hPX)
  have HBG := Lib.hid hbg
  have HBB := Lib.hid hbig
  have HE := Lib.hid he
  have HR := Lib.hid hrow
  have HTI := Lib.hid hti
  obtain ⟨Av, kv, rfl, _, _⟩ := hv.len
  have c4 := fun W' (hb2 : Below W.heap.size W W') => (ht.below hb2).cells.2.2.2.2.1
  have HC4 := Lib.hid c4
  clear hv hl hlim h0 ht hi hd hamp hX hX0 hP hPX hbg hbig he hrow hti hXX CO c4 hrb
  go_enter Tryz.func13, Tryz.ntmps13
  go_wp2_with fail
  refine CL.out.mono ?_
  rintro e w1 ⟨rfl, hb1⟩
  have HB1 := Lib.hid hb1
  have CO1 := Lib.hid (HO.out w1 hb1)
  clear hb1 HO CL
  go_wp2_with fail
  refine CO1.out.mono ?_
  intro e w2 hmade
  obtain ⟨q, rfl, hq2, hb2⟩ := made_far (S := treeU S t l vt) hmade (fun k hk => Nat.lt_of_lt_of_le (HR.out k hk) HB1.out.size)
  have hb2w := HB1.out.trans (hb2.mono HB1.out.size)
  have x4 := HC4.out w2 hb2w
  have CR := recordOf_s l1 _ X w2 (by omega) hq2.tab HX.out.lim (by omega)
  rw [HRB.out] at CR
  have CR := Lib.hid CR
  have HQ2 := Lib.hid hq2
  have HB2 := Lib.hid hb2w
  clear hmade hq2 hb2 hb2w CO1
  go_wp2_with fail
  refine CR.out.mono ?_
  rintro e w3 ⟨rfl, hb3⟩
  have hb3w := HB2.out.trans (hb3.mono HB2.out.size)
  have hll := HI.out.loglen
  have hrl := recO_len (i := l1) (by omega) HX.out.lim (by omega)
  have CE := enter_s (N := N) (N + 10000) room (recO l1 X) D (HT.out.below hb3w) (HD.out.below hb3w) HA.out hroom HI.out.lay (by have := HI.out.short; omega) (by have := HI.out.tb; have := HI.out.tc; omega) (Nat.le_refl _) (by omega)
  have HQ3 := Lib.hid (HQ2.out.below hb3)
  have HB3 := Lib.hid hb3w
  have CE := Lib.hid CE
  have hfrl := frm_le (recO l1 X) (by omega)
  rw [HRB.out] at CE hfrl hrl
  obtain ⟨s, hs⟩ : ∃ x, logO last R = x := ⟨_, rfl⟩
  have HS := Lib.hid hs
  rw [hs] at CE hll
  have HLL := Lib.hid (And.intro hll (And.intro hfrl hrl))
  clear hb3 hb3w CR x4 hs hll hfrl hrl
  go_wp2_with fail
  refine CE.out.mono ?_
  intro e w4 hen
  have hz3 := HB3.out.size
  rcases hen with ⟨hno, rfl, T, hd4, ht4, to4⟩ | ⟨hyes, rfl, T, D4, hd4, ht4, to4, ha4, hly4, hg4, hsf4⟩
  · have HD4 := Lib.hid hd4
    have HT4 := Lib.hid ht4
    have HTO := Lib.hid to4
    clear hd4 ht4 to4 CE
    go_wp2_with fail
    go_ret
    have hnb : ¬ big := fun hb => by
      have h1 := HBB.out hb D whole last tabs R (HI.out.mono (by omega) (by omega) (by omega) (by omega)) (by have := (HBG.out hb).2; omega) (fun _ _ => rfl) HA.out.roomy.once
      obtain ⟨hll, hfrl, hrl⟩ := HLL.out
      unfold needP at hno
      omega
    have hfull : 510 * room < 510 * count D.now + sumB ws + 1200 := by
      obtain ⟨hll, hfrl, hrl⟩ := HLL.out
      unfold needP at hno
      omega
    refine .inl ⟨rfl, hnb, hfull, T, ⟨HD4.out.mono (by omega) hM, HA.out, hroom, vm, whole, last, tight, tabs, R, by rw [HS.out]; exact HT4.out, HI.out, HP.out.1, HTI.out, HBG.out⟩, ?_⟩
    exact ((TreeTo.below (S := S) (t := t) (l := l) (vt := vt) HB3.out).trans HTO.out fun r hr => (HT4.out.tabs.lt hr).1)
  · obtain ⟨hll, hfrl, hrl⟩ := HLL.out
    have hly5 : Lay (pagesF D4.now n) (logO last R ++ frm (recO (last + 1) X)) := by rw [HS.out, hl1, HRB.out]; exact hly4
    have hi5 := HI.out.append HX.out HX0.out (by omega) (by omega) hly5 hg4
    have hmem := of_snoc R X
    have hcn : R.flatten.length + X.length = (R ++ [X]).flatten.length := by rw [List.flatten_append, List.flatten_singleton, List.length_append]
    have hlg : s ++ frm rb = logO last (R ++ [X]) := by rw [logO_snoc, HS.out, hl1, HRB.out]
    have hPR : treeP tabs (ofW (R ++ [X]).flatten) = allP P ws := by
      rw [← HP.out.2, hmem]
      have h1 : ofW (ofW R.flatten ++ X) = ofFrom (ofW R.flatten) X := by
        have : ∀ a b : List Wr, ofW (a ++ b) = ofFrom (ofW a) b := fun a b => by unfold ofW; rw [ofFrom_append]
        rw [this, ofW_of]
      rw [h1, treeP_remember tabs (ofW_srt _) (ofW_flat _), HP.out.1]
    have hml : (ofW R.flatten).length ≤ 2000 := by have := ofW_len R.flatten; have := HI.out.few; have := HI.out.tc; omega
    have hc5 : R.flatten.length ≤ 2000 := by have := HI.out.few; have := HI.out.tc; omega
    have CM := remember_s (.pointer (some ⟨q, 0, none⟩)) X ht4 hd4.lt (HQ3.out.apart to4.apart) HX.out.lim HI.out.goodm.lim (by omega) (by omega)
    rw [← hmem, hcn, hlg] at CM
    obtain ⟨R1, hR1⟩ : ∃ x, R ++ [X] = x := ⟨_, rfl⟩
    rw [hR1] at CM hi5 hPR hcn
    have CM := Lib.hid CM
    have HI5 := Lib.hid hi5
    have HPR := Lib.hid hPR
    have HD4 := Lib.hid (And.intro hd4 ht4.far)
    have HTO := Lib.hid ((TreeTo.below (S := S) (t := t) (l := l) (vt := vt) HB3.out).trans to4 fun r hr => (ht4.tabs.lt hr).1)
    have HG4 := Lib.hid (And.intro ha4 hg4)
    have HSF4 := Lib.hid hsf4
    have hc51 : R1.flatten.length ≤ 4000 := by omega
    clear hd4 ht4 to4 ha4 hly4 hg4 hsf4 hly5 hi5 hmem hcn hlg hPR CE hll hfrl hrl hml hc5 hR1
    go_wp2_with fail
    refine CM.out.mono ?_
    rintro e w5 ⟨rfl, vm5, ht5, ha5⟩
    have hd5 := HD4.out.1.apart ha5 (fun k hk e => HD4.out.2 (e ▸ hk))
    have hto5 : TreeTo W S t l vt w5 T vt := HTO.out.trans ⟨fun _ => .inl, ha5.mono fun k hk => .inr (.inr (.inl hk)), fun _ => .inl⟩ fun r hr => (ht5.tabs.lt hr).1
    have hsm5 := HI5.out.summ
    have htb5 := HI5.out.tb
    have CY := lay_s (N := N + 10000) (N + 40000) room D4 ht5 hd5 HG4.out.1 HI5.out.goodm (by omega) (by have := HI5.out.short; omega) HI5.out.draft_no HI5.out.next_no (by omega) (by omega) (by have := HI5.out.few_tabs; omega) (by omega) (by omega)
    have CY := Lib.hid CY
    have HT5 := Lib.hid ht5
    have HD5 := Lib.hid hd5
    have HTO5 := Lib.hid hto5
    clear ht5 hd5 ha5 hto5 CM hsm5 htb5
    go_wp2_with fail
    refine CY.out.mono ?_
    rintro e w6 ⟨rfl, hly⟩
    have hcom : ∃ T6 D6 vt6 vm6 last6 tight6 tabs6 R6, TreeAt w0 w6 T6 t l g vt6 vm6 n (logO last6 R6) last6 R6.flatten.length tight6 tabs6 (ofW R6.flatten) ∧ LsI D6 n whole last6 tabs6 R6 (b + sumB X) (c + X.length) ∧ treeP tabs6 (ofW R6.flatten) = allP P ws ∧ (-1000000 ≤ tight6 ∧ tight6 ≤ 1000000) ∧ (big → tight6 = 0 ∧ tabs6.length ≤ 4) ∧ DkS w6 g (N + 40000) T6 D6 ∧ Ample D6 room ∧ TreeTo W S t l vt w6 T6 vt6 ∧ (∀ m, m.head? ≠ n.head? → getF D6.now m = getF D.now m) ∧ (c + ws.length < 24 → D6.safe = D.safe) := by
      have hfr : ∀ m, m.head? ≠ n.head? → m ≠ n := fun m hm e => hm (by rw [e])
      rcases hly with ⟨_, T6, k1, k2, k3⟩ | ⟨h24, _, T6, D6, vt6, k1, k2, k3, k4, k5⟩
      · exact ⟨T6, D4, vt, vm5, last, tight, tabs, R1, k2, HI5.out, HPR.out, HTI.out, fun hb => ⟨(HBG.out hb).1, by have := (HBG.out hb).2; omega⟩, k1, HG4.out.1, HTO5.out.trans k3 fun r hr => (k2.tabs.lt hr).1, fun m hm => HG4.out.2 m (hfr m hm), fun _ => HSF4.out⟩
      · refine ⟨T6, D6, vt6, _, last + 1, 0, tabs ++ [ofW R1.flatten], [], k2, HI5.out.laid h24 k5, ?_, ⟨by omega, by omega⟩, fun hb => ⟨rfl, ?_⟩, k1, k4, HTO5.out.trans k3 fun r hr => (k2.tabs.lt hr).1, fun m hm => ?_, fun hlt => ?_⟩
        · rw [← HPR.out]
          exact treeP_lay tabs _
        · have := (HBG.out hb).2; simp; omega
        · rw [k5, if_neg (hfr m hm), if_neg (fun e => hm (by rw [e]; exact file_head HI5.out.ne.ne _ _)), HG4.out.2 m (hfr m hm)]
        · have := HI5.out.few; omega
    obtain ⟨T6, D6, vt6, vm6, last6, tight6, tabs6, R6, ht6, hi6, hP6, hti6, hbg6, hd6, ha6, hto6, hg6, hsf6⟩ := hcom
    have htop6 := hi6.top
    have hby6 := hi6.bytes
    have htb6 := hi6.tb
    have CJ := join_s (N := N + 40000) M room D6 ht6 HE.out hd6 ha6 hi6.good (by omega) (by have := hi6.short; omega) hi6.draft_no (fun h4 => hi6.whole_no (by have h1 := hi6.tabs_len; have h2 := hi6.le; split at h1 <;> omega)) hi6.nice hi6.nicew (by omega) (by have := hi6.few_tabs; omega) hti6 hroom (by omega) hM
    have CJ := Lib.hid CJ
    have HI6 := Lib.hid hi6
    have HP6 := Lib.hid hP6
    have HBG6 := Lib.hid hbg6
    have HA6 := Lib.hid ha6
    have HTO6 := Lib.hid hto6
    have HG6 := Lib.hid hg6
    have HSF6 := Lib.hid hsf6
    clear ht6 hi6 hP6 hbg6 hd6 ha6 hto6 hg6 hsf6 hly CY hby6 htb6
    go_wp2_with fail
    refine CJ.out.mono ?_
    rintro e w7 ⟨rfl, hj⟩
    have HJ := Lib.hid hj
    clear hj CJ
    go_wp2_with fail
    go_ret
    have hmono : ∀ {E : Dsk} {wh la : Nat} {ta Ra : List (List Wr)}, LsI E n wh la ta Ra (b + sumB X) (c + X.length) → LsI E n wh la ta Ra (b + sumB ws) (c + ws.length) := fun h => h.mono (by omega) (by omega) (by omega) (by omega)
    rcases HJ.out with ⟨T7, tight7, hti7, hwhy, k1, k2, k3⟩ | ⟨h4, T7, D7, vt7, k1, k2, k3, k4, k5⟩
    · refine .inr ⟨rfl, T7, D6, vt6, ⟨k1, HA6.out, hroom, vm6, whole, last6, tight7, tabs6, R6, k2, hmono HI6.out, HP6.out.symm, hti7, fun hb => ?_⟩, HTO6.out.trans k3 fun r hr => (k2.tabs.lt hr).1, HG6.out, HSF6.out⟩
      · have hroom6 := HBB.out hb D6 whole last6 tabs6 R6 (hmono HI6.out) (HBG6.out hb).2 HG6.out HA6.out.roomy.once
        have hfree := HA6.out.roomy.free
        rcases hwhy with ⟨e, h | h⟩ | h
        · exact ⟨by rw [e]; exact (HBG6.out hb).1, by omega⟩
        · rw [(HBG6.out hb).1] at h; omega
        · have h1 := bytesW_len HI6.out.goodw.lim (by have := HI6.out.sumw; have := HI6.out.bytes; have := HI6.out.tb; omega)
          have h2 := HI6.out.sumw
          have h3 := HI6.out.bytes
          have h5 := HI6.out.tb
          unfold pagesOf at h
          omega
    · refine .inr ⟨rfl, T7, D7, vt7, ⟨k1, k4, hroom, vm6, last6, last6, tight6, [wholeT tabs6], R6, k2, hmono (HI6.out.joined h4 k5), ?_, hti6, fun hb => ⟨(HBG6.out hb).1, by simp⟩⟩, HTO6.out.trans k3 fun r hr => (k2.tabs.lt hr).1, fun m hm => ?_, fun hlt => ?_⟩
      · rw [← HP6.out]
        exact (treeP_join tabs6 _).symm
      · rw [k5, if_neg (fun e => hm (by rw [e]; exact file_head HI6.out.ne.ne _ _)), over_head HI6.out.ne.ne hm]
        exact HG6.out m hm
      · have h1 := HI6.out.few
        have h2 := HI6.out.tabs_len
        have h3 := HI6.out.le
        split at h2 <;> omega

end Go.Proofs.YtlchmkpnehbnlaaGreatDoor.Cd

/-
  What a tree's files are when it is opened: the newest numbers, and that none is over. Conditions: LsI.
-/
namespace Go.Proofs.YtlchmkpnehbnlaaGreatDoor.Cd
open Go.RowKit

section
variable {D : Dsk} {n : List UInt8} {whole last b c : Nat} {tabs R : List (List Wr)}
theorem LsI.there (h : LsI D n whole last tabs R b c) {f : List UInt8} (hf : f ∈ filesOf n whole last) : (getF D.now f).isSome = true := by
  obtain ⟨i, hi⟩ := List.mem_iff_getElem?.1 hf
  have hlt := (List.getElem?_eq_some_iff.1 hi).1
  obtain ⟨T, hT⟩ : ∃ T, tabs[i]? = some T := ⟨tabs[i]'(by have := h.files.1; omega), List.getElem?_eq_getElem _⟩
  rw [h.files.2 i f T hi hT]
  rfl
theorem LsI.part_top (h : LsI D n whole last tabs R b c) : ∀ m, (getF D.now m).isSome = true → numF n partE m ≤ last := fun m hm => by
  refine Decidable.byContradiction fun hn => ?_
  obtain ⟨e, h9⟩ := numF_pos (n := n) (e := partE) (m := m) (by omega)
  have ht := h.top
  rcases h.own m hm (by rw [e]; exact file_head h.ne.ne _ _) with h1 | h1
  · rw [h1] at e
    exact absurd e.symm (file_log _ _ _)
  · rcases filesOf_mem h1 h.le with ⟨_, h2⟩ | ⟨i, h2, h3, h4⟩
    · exact absurd (e.symm.trans h2) (part_whole _ _ _)
    · have := fileF_inj h9 (by omega) (e.symm.trans h4)
      omega
theorem LsI.whole_top (h : LsI D n whole last tabs R b c) : ∀ m, (getF D.now m).isSome = true → numF n wholeE m ≤ whole := fun m hm => by
  refine Decidable.byContradiction fun hn => ?_
  obtain ⟨e, h9⟩ := numF_pos (n := n) (e := wholeE) (m := m) (by omega)
  have ht := h.top
  have hle := h.le
  rcases h.own m hm (by rw [e]; exact file_head h.ne.ne _ _) with h1 | h1
  · rw [h1] at e
    exact absurd e.symm (file_log _ _ _)
  · rcases filesOf_mem h1 h.le with ⟨_, h2⟩ | ⟨i, h2, h3, h4⟩
    · have := fileF_inj h9 (by omega) (e.symm.trans h2)
      omega
    · exact absurd (h4.symm.trans e) (part_whole _ _ _)
theorem LsI.newest (h : LsI D n whole last tabs R b c) {W w' : World} {r : Ending} (hn : NewestIs D n wholeE W r w') : r = .returned (.int .i64 whole) ∧ Below W.heap.size W w' := by
  obtain ⟨k, h1, h2, h3, h4⟩ := hn
  have ht := h.top
  have hle := h.le
  have hk : k ≤ whole := by
    rcases h4 with h4 | ⟨m, hm, h4⟩
    · omega
    · have := h.whole_top m hm; omega
  have hk2 : whole ≤ k := by
    by_cases h0 : whole = 0
    · omega
    · have hm : wholeF n whole ∈ filesOf n whole last := by
        unfold filesOf
        rw [if_neg h0]
        simp
      have h5 := h3 _ (h.there hm) (by
        have h6 := (dec_len whole).2
        have h7 := h.short
        simp only [fileF, List.length_append, maxLen]
        simp only [wholeE, List.length_cons, List.length_nil]
        omega)
      have h6 := numF_is (n := n) (e := wholeE) (i := whole) (by omega) (by omega)
      have h7 : numF n wholeE (wholeF n whole) = whole := h6
      omega
  obtain rfl : k = whole := by omega
  exact ⟨h1, h2⟩
theorem LsI.over_no (h : LsI D n whole last tabs R b c) : ∀ m, (getF D.now m).isSome = true → overF n whole m = false := fun m hm => by
  have ht := h.top
  have hle := h.le
  cases ho : overF n whole m with
  | false => rfl
  | true =>
    have hh : m.head? = n.head? := by
      refine Decidable.byContradiction fun hh => ?_
      have := over_head h.ne.ne (whole := whole) hh
      rw [ho] at this
      cases this
    rcases h.own m hm hh with h1 | h1
    · rw [h1, not_over_log] at ho
      cases ho
    · rcases over_is ho with h2 | ⟨i, h2, h3⟩ | ⟨i, h2, h3⟩
      · rcases filesOf_mem h1 h.le with ⟨_, h4⟩ | ⟨j, _, _, h4⟩
        · exact absurd (h4.symm.trans h2) (whole_draft _ _)
        · exact absurd (h4.symm.trans h2) (part_draft _ _)
      · rcases filesOf_mem h1 h.le with ⟨_, h4⟩ | ⟨j, h5, h6, h4⟩
        · exact absurd (h3.symm.trans h4) (part_whole _ _ _)
        · have := fileF_inj (by omega) (by omega) (h3.symm.trans h4)
          omega
      · rcases filesOf_mem h1 h.le with ⟨_, h4⟩ | ⟨j, h5, h6, h4⟩
        · have := fileF_inj (by omega) (by omega) (h3.symm.trans h4)
          omega
        · exact absurd (h4.symm.trans h3) (part_whole _ _ _)
end

end Go.Proofs.YtlchmkpnehbnlaaGreatDoor.Cd

/-
  load: the files' tables are read, in their order. Conditions: LsI; the power is on.
-/
namespace Go.Proofs.YtlchmkpnehbnlaaGreatDoor.Cd
open Go.RowKit

def LdQ (w0 : World) (S : Nat → Prop) (t l g N : Nat) (vm : Value) (n s : List UInt8) (last cnt : Nat) (tight : Int) (tabs : List (List Wr)) (mem : List Wr) (D : Dsk) (W W' : World) : Prop :=
  ∃ vt, TreeAt w0 W' S t l g vt vm n s last cnt tight tabs mem ∧ DkS W' g N S D ∧ Apart (fun k => k = t) W W' ∧ ∀ r, vt.ownBlock = some r → W.heap.size ≤ r
section
variable {w0 W W1 W2 : World} {S : Nat → Prop} {t l g N last cnt : Nat} {vm vt : Value} {n s : List UInt8} {tight : Int} {tabs tabs2 : List (List Wr)} {mem : List Wr} {D : Dsk} {e : Ending}
theorem LdQ.below (h : LdQ w0 S t l g N vm n s last cnt tight tabs mem D W W1) (hb : Below W1.heap.size W1 W2) : LdQ w0 S t l g N vm n s last cnt tight tabs mem D W W2 := by
  obtain ⟨vt, h1, h2, h3, h4⟩ := h
  exact ⟨vt, h1.below hb, h2.below hb, h3.trans (Apart.below hb), h4⟩
theorem LdQ.set4 (h : LdQ w0 S t l g N vm n s last cnt tight tabs mem D W W1) (x : Nat) : LdQ w0 S t l g N vm n s x cnt tight tabs mem D W (W1.setCell ⟨t, 4, none⟩ (.int .i64 x)) := by
  obtain ⟨vt, h1, h2, h3, h4⟩ := h
  exact ⟨vt, h1.set4 x, h2.put h1.far, h3.trans ((apart_set W1 t 4 _).mono fun _ h => .inl h), h4⟩
theorem LdQ.cells (h : LdQ w0 S t l g N vm n s last cnt tight tabs mem D W W1) : W1.cell? ⟨t, 4, none⟩ = some (.int .i64 last) ∧ W1.frozen? ⟨t, 4, none⟩ = false ∧ NameAt W1 t n ∧ W1.cell? ⟨t, 0, none⟩ = some (.pointer (some ⟨g, 0, none⟩)) := by
  obtain ⟨vt, h1, _⟩ := h
  obtain ⟨c0, c1, _, _, c4, _⟩ := h1.cells
  exact ⟨c4, h1.frozen 4, ⟨c1, h1.lt⟩, c0⟩
theorem LdQ.read {T : List Wr} (h : LdQ w0 S t l g N vm n s last cnt tight tabs mem D W W1) (f : List UInt8) (ho : D.off = false) (hf : getF D.now f = some ⟨f, pagesB (bytesW T)⟩) (hl : f.length ≤ 1000) (hT : GoodT T) (hs : sumB T ≤ 300000) (hS : ∀ k, S k → k < W1.heap.size) (hl2 : tabs.length ≤ 1000) :
    Calls Tryz.prog 53 #[.pointer (some ⟨t, 0, none⟩), .string ⟨f.toArray⟩] W1 (fun e W' => e = .returned (.int .i64 0) ∧ LdQ w0 S t l g N vm n s last cnt tight (tabs ++ [T]) mem D W W') := by
  obtain ⟨vt, h1, h2, h3, h4⟩ := h
  refine (read_yes f D h1 h2 ho hf hl hT hs hS hl2).mono ?_
  rintro e W' ⟨rfl, vt', k1, k2, k3, k4⟩
  refine ⟨rfl, vt', k1, k2, h3.trans (k3.mono fun k hk => ?_), fun r hr => ?_⟩
  · rcases hk with hk | hk
    · exact .inl hk
    · exact .inr ⟨h4 k hk, (h1.tabs.lt hk).1⟩
  · rcases k4 with e | e
    · rw [e] at hr; exact h4 r hr
    · exact Nat.le_trans h3.size (e r hr)
theorem LdQ.none (h : LdQ w0 S t l g N vm n s last cnt tight tabs mem D W W1) (f : List UInt8) (ho : D.off = false) (hf : (getF D.now f).isSome = false) (hl : f.length ≤ 1000) :
    Calls Tryz.prog 53 #[.pointer (some ⟨t, 0, none⟩), .string ⟨f.toArray⟩] W1 (Gives (.int .i64 5) W1) := by
  obtain ⟨vt, h1, h2, h3, h4⟩ := h
  exact read_no f D h1 h2 ho hf hl
end

theorem sumB_mem' {m : List Wr} : ∀ {ls : List (List Wr)}, m ∈ ls → sumB m ≤ sumBs ls
  | l :: ls, h => by
    have e : sumBs (l :: ls) = sumB l + sumBs ls := by simp [sumBs]
    rcases List.mem_cons.1 h with rfl | h
    · omega
    · have := sumB_mem' h
      omega
def cellN (w : World) (p : Addr) : Nat := match w.cell? p with
  | some v => (intOf v).toNat
  | none => 0
theorem cellN_is {w : World} {p : Addr} {x : Nat} (h : w.cell? p = some (.int .i64 x)) : cellN w p = x := by
  unfold cellN
  rw [h]
  simp [intOf]

theorem filesOf_part {n : List UInt8} {whole last k : Nat} (hk : k < last - whole) : (filesOf n whole last)[(if whole = 0 then 0 else 1) + k]? = some (partF n (whole + k + 1)) := by
  unfold filesOf
  rw [List.getElem?_append_right (by split <;> simp)]
  have e : (if whole = 0 then 0 else 1) + k - (if whole = 0 then [] else [wholeF n whole]).length = k := by split <;> simp
  rw [e, List.getElem?_map, List.getElem?_range' hk]
  simp
  congr 1
  omega
theorem take_snoc {tabs : List (List Wr)} {j : Nat} {T : List Wr} (h : tabs[j]? = some T) : tabs.take j ++ [T] = tabs.take (j + 1) := by
  obtain ⟨hj, rfl⟩ := List.getElem?_eq_some_iff.1 h
  rw [List.take_succ_eq_append_getElem hj]

set_option maxRecDepth 100000 in
set_option maxHeartbeats 3200000 in
theorem load_s {w0 W : World} {S : Nat → Prop} {t l g N last0 cnt : Nat} {vm : Value} {n s : List UInt8} {tight : Int} {mem : List Wr} {D : Dsk} {whole last b c : Nat} {tabs R : List (List Wr)} (h : LdQ w0 S t l g N vm n s last0 cnt tight [] mem D W W) (hi : LsI D n whole last tabs R b c) (he : ErrAt w0) (ho : D.off = false) (hS : ∀ k, S k → k < W.heap.size) :
    Calls Tryz.prog 26 #[.pointer (some ⟨t, 0, none⟩), .int .i64 whole] W (fun e W' => e = .returned (.int .i64 0) ∧ LdQ w0 S t l g N vm n s last cnt tight tabs mem D W W') := by
  have htop := hi.top
  have hle := hi.le
  have hsh := hi.short
  have htl := hi.tabs_len
  have htl2 : tabs.length ≤ 200 := by
    have : (if whole = 0 then 0 else 1) ≤ 1 := by split <;> omega
    omega
  have hwi : (whole : Int) ≤ 99 := by omega
  clear htl
  obtain ⟨c4, f4, nm, c0⟩ := h.cells
  have H := Lib.hid h
  have HI := Lib.hid hi
  have HSS := Lib.hid hS
  have HE := Lib.hid he
  clear h hi hS he
  by_cases h0 : whole = 0
  · subst h0
    have k0 : decide ((0 : Int) < ((0 : Nat) : Int)) = false := by decide
    have k1 : ((0 : Nat) : Int) = 0 := rfl
    rw [k1]
    go_enter Tryz.func26, Tryz.ntmps26
    go_wp2_with fail
    go_step3
    go_wp2_with fail
    have HL0 : Hid (LdQ w0 S t l g N vm n s (0 + 0) cnt tight (tabs.take (0 + 0)) mem D W (W.setCell ⟨t, 4, none⟩ (.int .i64 0))) := H.out.set4 0
    go_step3
    go_wp2_with fail
    go_loopw [] (fun wr => ∃ k x y : Nat, k ≤ last - 0 ∧ Hid (0 + k = x) ∧ Hid (0 + k = y) ∧ Hid (LdQ w0 S t l g N vm n s x cnt tight (tabs.take y) mem D W wr)) (fun wr => last - cellN wr ⟨t, 4, none⟩)
    case atStart => exact ⟨0, 0 + 0, 0 + 0, by omega, rfl, rfl, HL0.out⟩
    case round =>
      obtain ⟨k, x, y, hk, HX, HY, hq⟩ := hrel
      obtain ⟨c4, f4, nm, c0⟩ := hq.out.cells
      have hx9 : x ≤ last := by have := HX.out; omega
      have HCX : Hid (cellN wr ⟨t, 4, none⟩ = x) := cellN_is c4
      obtain ⟨x1, hx1⟩ : ∃ x1, x + 1 = x1 := ⟨_, rfl⟩
      have hx1i : (x : Int) + 1 = (x1 : Int) := by omega
      have hx1w : IntKind.i64.wrap (x1 : Int) = x1 := by rw [IntKind.wrap_i64]; omega
      have CF := file_s t n partE x1 wr nm (by omega) (by simp [partE]; omega)
      obtain ⟨f, hf⟩ : ∃ f, fileF n partE x1 = f := ⟨_, rfl⟩
      have hfl : f.length ≤ 1000 := by
        have h6 := (dec_len x1).2
        rw [← hf]
        simp only [fileF, List.length_append]
        simp only [partE, List.length_cons, List.length_nil]
        omega
      rw [hf] at CF
      replace CF := Lib.hid CF
      by_cases hlt : k < last - 0
      · have hfa := filesOf_part (n := n) (whole := 0) hlt
        rw [show 0 + k + 1 = x1 by have := HX.out; omega, show partF n x1 = f from hf, show (if (0 : Nat) = 0 then 0 else 1) + k = y from HY.out] at hfa
        obtain ⟨T, hT⟩ : ∃ T, tabs[y]? = some T := by
          have h1 := (List.getElem?_eq_some_iff.1 hfa).1
          exact ⟨tabs[y]'(by have := HI.out.files.1; exact this ▸ h1), List.getElem?_eq_getElem _⟩
        have hft := HI.out.files.2 _ f T hfa hT
        have hgT := HI.out.good T (List.mem_of_getElem? hT)
        have hsT : sumB T ≤ 300000 := by
          have h1 := sumB_mem' (List.mem_of_getElem? hT)
          have h2 := HI.out.bytes
          have h3 := HI.out.tb
          omega
        have CR := fun w1 (hb1 : Below wr.heap.size wr w1) => (hq.out.below hb1).read f ho hft hfl hgT hsT (fun j hj => Nat.lt_of_lt_of_le (HSS.out j hj) (by obtain ⟨_, _, _, ha, _⟩ := hq.out; exact Nat.le_trans ha.size hb1.size)) (by rw [List.length_take]; omega)
        rw [take_snoc hT] at CR
        replace CR := Lib.hid CR
        have HX1 : Hid (x1 = x + 1) := hx1.symm
        clear hf hfa hft hgT hT hsT hq nm hx1
        go_wp2_with fail
        refine CF.out.mono ?_
        rintro e w1 ⟨rfl, hb1⟩
        have CR1 := Lib.hid (CR.out w1 hb1)
        clear hb1 CR CF
        go_wp2_with fail
        refine CR1.out.mono ?_
        rintro e w2 ⟨rfl, hq2⟩
        obtain ⟨c4, f4, _, _⟩ := hq2.cells
        have HQ3 := Lib.hid (hq2.set4 x1)
        have hcn := cellN_is c4
        have hm3 : cellN (w2.setCell ⟨t, 4, none⟩ (.int .i64 x1)) ⟨t, 4, none⟩ = x1 := cellN_is (hq2.set4 x1).cells.1
        clear hq2 CR1
        have HCN := Lib.hid hcn
        have HM3 := Lib.hid hm3
        clear hcn hm3
        go_wp2_with fail
        go_roundw
        case rel => exact ⟨k + 1, x1, y + 1, by omega, by have h1 := HX.out; have h2 := HX1.out; unfold Hid; omega, by have h1 := HY.out; unfold Hid; omega, HQ3⟩
        case measure => rw [HM3.out, HCX.out]; have h1 := HX1.out; have h2 := HX.out; omega
      · obtain rfl : x = last := by have := HX.out; omega
        have hno := HI.out.next_no
        rw [hx1, show partF n x1 = f from hf] at hno
        have CR := Lib.hid fun w1 (hb1 : Below wr.heap.size wr w1) => (hq.out.below hb1).none f ho hno hfl
        have hyl : tabs.take y = tabs := List.take_of_length_le (by
          have h1 := HI.out.tabs_len
          rw [show (if 0 = 0 then 0 else 1) = 0 from rfl] at h1
          have h2 := HX.out
          have h3 := HY.out
          omega)
        rw [hyl] at hq
        have HQ := Lib.hid hq.out
        clear hf hno hyl hq nm hx1
        go_wp2_with fail
        refine CF.out.mono ?_
        rintro e w1 ⟨rfl, hb1⟩
        have CR1 := Lib.hid (CR.out w1 hb1)
        have HB1 := Lib.hid hb1
        clear hb1 CR CF
        go_wp2_with fail
        refine CR1.out.mono ?_
        rintro e w2 ⟨rfl, hb2⟩
        have hq2 := (HQ.out.below HB1.out).below hb2
        have HQ2 := Lib.hid hq2
        obtain ⟨c4, _, nm, c0⟩ := hq2.cells
        obtain ⟨vt, ht, hd, ha, hown⟩ := hq2
        have bd := (Below.refl w2.heap.size w2).drew
        have CN := Lib.hid (newest_s t g N n partE S D w2.drew (nm.below bd) ((bd.cell (p := ⟨t, 0, none⟩) nm.2).trans c0) (hd.below bd) ho ((HE.out.low ht.base).low bd) (by simp [partE]; omega) (fun m hm => (HI.out.nice m hm).1))
        have HLT := Lib.hid nm.2
        clear nm ht hd ha hown bd hb2 CR1
        go_wp2_with fail
        go_region_held3 (fun W' => W'.cell? ⟨t, 4, none⟩ = some (.int .i64 x)) (first | exact c4 | assumption) (first
          | (go_at_call 25; refine CN.out.mono ?_; rintro e w3 ⟨kk, rfl, hb3, _, hor⟩
             have hb3 := (Below.refl w2.heap.size w2).drew.trans hb3
             have hs3 : w3.cell? ⟨t, 4, none⟩ = some (.int .i64 x) := (hb3.cell (p := ⟨t, 4, none⟩) HLT.out).trans c4
             have hkk : kk ≤ x := by
               rcases hor with h1 | ⟨m, h1, h2⟩
               · omega
               · have := HI.out.part_top m h1; omega
             have hki : ¬ (x : Int) < kk := by omega
             have k4 : decide (x < kk) = false := decide_eq_false (by omega)
             have k5 : decide ((x : Int) < (kk : Int)) = false := decide_eq_false hki
             have HQ3 := Lib.hid (HQ2.out.below hb3)
             clear hb3 hor))
        all_goals go_wp2_with fail
        all_goals rw [Exit.noGoto_ret]
        all_goals go_ret
        all_goals exact ⟨rfl, HQ3.out⟩
  · have h0' : (0 : Int) < whole := by omega
    have h0n : 0 < whole := by omega
    have k4 : decide (0 < whole) = true := decide_eq_true h0n
    have k5 : decide ((0 : Int) < (whole : Int)) = true := decide_eq_true h0'
    have CF := Lib.hid (file_s t n wholeE whole W nm (by omega) (by simp [wholeE]; omega))
    obtain ⟨fw, hfw⟩ : ∃ f, fileF n wholeE whole = f := ⟨_, rfl⟩
    have hfwl : fw.length ≤ 1000 := by
      have h6 := (dec_len whole).2
      rw [← hfw]
      simp only [fileF, List.length_append]
      simp only [wholeE, List.length_cons, List.length_nil]
      omega
    have hfw0 : (filesOf n whole last)[0]? = some fw := by
      unfold filesOf
      rw [if_neg h0, ← hfw]
      rfl
    obtain ⟨Tw, hTw⟩ : ∃ T, tabs[0]? = some T := by
      have h1 := (List.getElem?_eq_some_iff.1 hfw0).1
      exact ⟨tabs[0]'(by have := HI.out.files.1; exact this ▸ h1), List.getElem?_eq_getElem _⟩
    have hftw := HI.out.files.2 _ fw Tw hfw0 hTw
    have hgTw := HI.out.good Tw (List.mem_of_getElem? hTw)
    have hsTw : sumB Tw ≤ 300000 := by
      have h1 := sumB_mem' (List.mem_of_getElem? hTw)
      have h2 := HI.out.bytes
      have h3 := HI.out.tb
      omega
    rw [hfw] at CF
    have CRW := fun w1 (hb1 : Below W.heap.size W w1) => (H.out.below hb1).read fw ho hftw hfwl hgTw hsTw (fun j hj => Nat.lt_of_lt_of_le (HSS.out j hj) hb1.size) (by simp)
    rw [show ([] : List (List Wr)) ++ [Tw] = tabs.take 1 from take_snoc (j := 0) hTw] at CRW
    replace CRW := Lib.hid CRW
    clear hfw hfwl hfw0 hTw hftw hgTw hsTw
    go_enter Tryz.func26, Tryz.ntmps26
    go_wp2_with fail
    go_step3
    go_wp2_with fail
    refine CF.out.mono ?_
    rintro e w1 ⟨rfl, hb1⟩
    have CRW1 := Lib.hid (CRW.out w1 hb1)
    clear hb1 CF CRW
    go_wp2_with fail
    refine CRW1.out.mono ?_
    rintro e w2 ⟨rfl, hq2⟩
    obtain ⟨c4, f4, _, _⟩ := hq2.cells
    have HL0 := Lib.hid (hq2.set4 whole)
    clear hq2 CRW1
    go_wp2_with fail
    go_step3
    go_wp2_with fail
    go_loopw [] (fun wr => ∃ k x y : Nat, k ≤ last - whole ∧ Hid (whole + k = x) ∧ Hid (1 + k = y) ∧ Hid (LdQ w0 S t l g N vm n s x cnt tight (tabs.take y) mem D W wr)) (fun wr => last - cellN wr ⟨t, 4, none⟩)
    case atStart => exact ⟨0, whole, 1, by omega, rfl, rfl, HL0.out⟩
    case round =>
      obtain ⟨k, x, y, hk, HX, HY, hq⟩ := hrel
      obtain ⟨c4, f4, nm, c0⟩ := hq.out.cells
      have hx9 : x ≤ last := by have := HX.out; omega
      have HCX : Hid (cellN wr ⟨t, 4, none⟩ = x) := cellN_is c4
      obtain ⟨x1, hx1⟩ : ∃ x1, x + 1 = x1 := ⟨_, rfl⟩
      have hx1i : (x : Int) + 1 = (x1 : Int) := by omega
      have hx1w : IntKind.i64.wrap (x1 : Int) = x1 := by rw [IntKind.wrap_i64]; omega
      have CF := file_s t n partE x1 wr nm (by omega) (by simp [partE]; omega)
      obtain ⟨f, hf⟩ : ∃ f, fileF n partE x1 = f := ⟨_, rfl⟩
      have hfl : f.length ≤ 1000 := by
        have h6 := (dec_len x1).2
        rw [← hf]
        simp only [fileF, List.length_append]
        simp only [partE, List.length_cons, List.length_nil]
        omega
      rw [hf] at CF
      replace CF := Lib.hid CF
      by_cases hlt : k < last - whole
      · have hfa := filesOf_part (n := n) (whole := whole) hlt
        rw [show whole + k + 1 = x1 by have := HX.out; omega, show partF n x1 = f from hf, show (if whole = 0 then 0 else 1) + k = y by rw [if_neg h0]; exact HY.out] at hfa
        obtain ⟨T, hT⟩ : ∃ T, tabs[y]? = some T := by
          have h1 := (List.getElem?_eq_some_iff.1 hfa).1
          exact ⟨tabs[y]'(by have := HI.out.files.1; exact this ▸ h1), List.getElem?_eq_getElem _⟩
        have hft := HI.out.files.2 _ f T hfa hT
        have hgT := HI.out.good T (List.mem_of_getElem? hT)
        have hsT : sumB T ≤ 300000 := by
          have h1 := sumB_mem' (List.mem_of_getElem? hT)
          have h2 := HI.out.bytes
          have h3 := HI.out.tb
          omega
        have CR := fun w1 (hb1 : Below wr.heap.size wr w1) => (hq.out.below hb1).read f ho hft hfl hgT hsT (fun j hj => Nat.lt_of_lt_of_le (HSS.out j hj) (by obtain ⟨_, _, _, ha, _⟩ := hq.out; exact Nat.le_trans ha.size hb1.size)) (by rw [List.length_take]; omega)
        rw [take_snoc hT] at CR
        replace CR := Lib.hid CR
        have HX1 : Hid (x1 = x + 1) := hx1.symm
        clear hf hfa hft hgT hT hsT hq nm hx1
        go_wp2_with fail
        refine CF.out.mono ?_
        rintro e w1 ⟨rfl, hb1⟩
        have CR1 := Lib.hid (CR.out w1 hb1)
        clear hb1 CR CF
        go_wp2_with fail
        refine CR1.out.mono ?_
        rintro e w2 ⟨rfl, hq2⟩
        obtain ⟨c4, f4, _, _⟩ := hq2.cells
        have HQ3 := Lib.hid (hq2.set4 x1)
        have hcn := cellN_is c4
        have hm3 : cellN (w2.setCell ⟨t, 4, none⟩ (.int .i64 x1)) ⟨t, 4, none⟩ = x1 := cellN_is (hq2.set4 x1).cells.1
        clear hq2 CR1
        have HCN := Lib.hid hcn
        have HM3 := Lib.hid hm3
        clear hcn hm3
        go_wp2_with fail
        go_roundw
        case rel => exact ⟨k + 1, x1, y + 1, by omega, by have h1 := HX.out; have h2 := HX1.out; unfold Hid; omega, by have h1 := HY.out; unfold Hid; omega, HQ3⟩
        case measure => rw [HM3.out, HCX.out]; have h1 := HX1.out; have h2 := HX.out; omega
      · obtain rfl : x = last := by have := HX.out; omega
        have hno := HI.out.next_no
        rw [hx1, show partF n x1 = f from hf] at hno
        have CR := Lib.hid fun w1 (hb1 : Below wr.heap.size wr w1) => (hq.out.below hb1).none f ho hno hfl
        have hyl : tabs.take y = tabs := List.take_of_length_le (by
          have h1 := HI.out.tabs_len
          rw [if_neg h0] at h1
          have h2 := HX.out
          have h3 := HY.out
          omega)
        rw [hyl] at hq
        have HQ := Lib.hid hq.out
        clear hf hno hyl hq nm hx1
        go_wp2_with fail
        refine CF.out.mono ?_
        rintro e w1 ⟨rfl, hb1⟩
        have CR1 := Lib.hid (CR.out w1 hb1)
        have HB1 := Lib.hid hb1
        clear hb1 CR CF
        go_wp2_with fail
        refine CR1.out.mono ?_
        rintro e w2 ⟨rfl, hb2⟩
        have hq2 := (HQ.out.below HB1.out).below hb2
        have HQ2 := Lib.hid hq2
        obtain ⟨c4, _, nm, c0⟩ := hq2.cells
        obtain ⟨vt, ht, hd, ha, hown⟩ := hq2
        have bd := (Below.refl w2.heap.size w2).drew
        have CN := Lib.hid (newest_s t g N n partE S D w2.drew (nm.below bd) ((bd.cell (p := ⟨t, 0, none⟩) nm.2).trans c0) (hd.below bd) ho ((HE.out.low ht.base).low bd) (by simp [partE]; omega) (fun m hm => (HI.out.nice m hm).1))
        have HLT := Lib.hid nm.2
        clear nm ht hd ha hown bd hb2 CR1
        go_wp2_with fail
        go_region_held3 (fun W' => W'.cell? ⟨t, 4, none⟩ = some (.int .i64 x)) (first | exact c4 | assumption) (first
          | (go_at_call 25; refine CN.out.mono ?_; rintro e w3 ⟨kk, rfl, hb3, _, hor⟩
             have hb3 := (Below.refl w2.heap.size w2).drew.trans hb3
             have hs3 : w3.cell? ⟨t, 4, none⟩ = some (.int .i64 x) := (hb3.cell (p := ⟨t, 4, none⟩) HLT.out).trans c4
             have hkk : kk ≤ x := by
               rcases hor with h1 | ⟨m, h1, h2⟩
               · omega
               · have := HI.out.part_top m h1; omega
             have hki : ¬ (x : Int) < kk := by omega
             have k4 : decide (x < kk) = false := decide_eq_false (by omega)
             have k5 : decide ((x : Int) < (kk : Int)) = false := decide_eq_false hki
             have HQ3 := Lib.hid (HQ2.out.below hb3)
             clear hb3 hor))
        all_goals go_wp2_with fail
        all_goals rw [Exit.noGoto_ret]
        all_goals go_ret
        all_goals exact ⟨rfl, HQ3.out⟩

end Go.Proofs.YtlchmkpnehbnlaaGreatDoor.Cd

/-
  Open: a tree as its files tell it. Conditions: LsI; the power is on.
-/
namespace Go.Proofs.YtlchmkpnehbnlaaGreatDoor.Cd
open Go.RowKit

theorem ownS_off {U : Nat → Prop} {w w' : World} {B : Nat} {v : Value} {l : List (List UInt8)} (h : OwnS w B v l) (ha : Apart U w w') (hU : ∀ b, v.ownBlock = some b → ¬ U b) : OwnS w' B v l := by
  have hlt := World.ownsRow.lt h
  refine ⟨h.1, ?_⟩
  rcases h.2 with h4 | ⟨g, cap, cur, rfl, hg, hh, r⟩
  · exact .inl h4
  · exact .inr ⟨g, cap, cur, rfl, hg, (ha.block g (hlt g rfl).2 (hU g rfl)).trans hh, r⟩

def OpenedIs (w0 : World) (g M room : Nat) (n : List UInt8) (big : Prop) (P : Prs) (b c : Nat) (D : Dsk) (S : Nat → Prop) (W : World) (e : Ending) (W' : World) : Prop :=
  ∃ T D' t l vt, e = .returned (.tuple #[.pointer (some ⟨t, 0, none⟩), .int .i64 0]) ∧ Tr w0 g M room n big P b c D' T t l vt W' ∧ (∀ m, getF D'.now m = getF D.now m) ∧ (∀ k, T k → since S W W' k) ∧ Apart S W W' ∧ W.heap.size ≤ t ∧ W.heap.size ≤ l ∧ ∀ r, vt.ownBlock = some r → W.heap.size ≤ r

set_option maxRecDepth 100000 in
set_option maxHeartbeats 3200000 in
theorem open_s {w0 W : World} {S : Nat → Prop} {g N room : Nat} {n : List UInt8} {D : Dsk} {whole last b c : Nat} {tabs R : List (List Wr)} (big : Prop) (hd : DkS W g N S D) (ha : Ample D room) (hroom : room ≤ 4096) (hi : LsI D n whole last tabs R b c) (he : ErrAt w0)
    (hb0 : Below w0.heap.size w0 W) (hS0 : ∀ k, S k → w0.heap.size ≤ k) (M : Nat) (hN : N + 2000 ≤ M) (hM : M ≤ 137438953472) (hbig : big → tabs.length ≤ 3) :
    Calls Tryz.prog 9 #[.pointer (some ⟨g, 0, none⟩), .string ⟨n.toArray⟩] W (OpenedIs w0 g M room n big (treeP tabs (ofW R.flatten)) b c D S W) := by
  have hsh := hi.short
  have htop := hi.top
  have hle := hi.le
  have htc := hi.tc
  have htb := hi.tb
  have hfew := hi.few
  obtain ⟨hlg1, hlg2, hlg3⟩ := hi.loglen
  have hpc : (pagesF D.now n).length ≤ 2000 := by rw [← hlg3]; unfold needP; omega
  have CO := Lib.hid (open_lay g N n (R.map (recO (last + 1))) S D W hd ha.off (by omega) hpc (by omega) hi.lay)
  have hS := hd.lt
  have HS := Lib.hid hS
  have HI := Lib.hid hi
  have HA := Lib.hid ha
  have HE := Lib.hid he
  have HB0 := Lib.hid hb0
  have HS0 := Lib.hid hS0
  have HBG := Lib.hid hbig
  clear hd ha hi he hb0 hS0 hbig hlg3 hpc hS
  go_enter Tryz.func9, Tryz.ntmps9
  go_wp2_with fail
  refine CO.out.mono ?_
  rintro e w1 ⟨l, v, T, rfl, hown, hlog, hdk, hT, hap, hl, hvb⟩
  obtain ⟨w2, hw2⟩ : ∃ x, w1.alloc (.cells #[.pointer (some ⟨g, 0, none⟩), .string ⟨n.toArray⟩, .pointer (some ⟨l, 0, none⟩), .slice none 0 0, .int .i64 0, .slice none 0 0, .int .i64 0, .int .i64 0] 61) = x := ⟨_, rfl⟩
  have hb2 : Below w1.heap.size w1 w2 := by rw [← hw2]; exact (Below.refl _ _).alloc (Nat.le_refl _) _
  have hz2 : w2.heap.size = w1.heap.size + 1 := by rw [← hw2]; simp
  have hr2 : w2.heap[w1.heap.size]? = some (.cells #[.pointer (some ⟨g, 0, none⟩), .string ⟨n.toArray⟩, .pointer (some ⟨l, 0, none⟩), .slice none 0 0, .int .i64 ((0 : Nat) : Int), .slice none 0 0, .int .i64 ((0 : Nat) : Int), .int .i64 0] 61) := by rw [← hw2]; exact heap_alloc_new _ _
  have hTl : ∀ k, T k → k < w1.heap.size := fun k hk => hdk.lt k hk
  have hT0 : ∀ k, T k → w0.heap.size ≤ k := fun k hk => by
    rcases hT k hk with h1 | h1
    · exact HS0.out k h1
    · have := HB0.out.size; omega
  have hbase : Below w0.heap.size w0 w1 := HB0.out.trans (hap.low HB0.out.size HS0.out)
  have ht2 : TreeAt w0 w2 T w1.heap.size l g (.slice none 0 0) (.slice none 0 0) n (logO last R) 0 0 0 [] [] := by
    refine ⟨hlog.below hb2, hr2, fun hk => by have := hTl _ hk; omega, FarT.nil _ _, TabsAt.nil _ _, hbase.trans (hb2.mono hbase.size), fun k hk => ?_⟩
    have := HB0.out.size
    rcases hk with hk | hk | hk | hk
    · exact hT0 k hk
    · omega
    · have := hap.size; omega
    · cases hk
  have hown2 := hown.keep hb2
  have hvt : ∀ r, v.ownBlock = some r → r < w1.heap.size := fun r hr => (World.ownsRow.lt hown r hr).2
  obtain ⟨t, ht⟩ : ∃ t, w1.heap.size = t := ⟨_, rfl⟩
  rw [ht] at ht2 hvt hz2
  have hd2 := hdk.below hb2
  have CN := newest_s t g (N + 12) n wholeE T D w2 ⟨ht2.cells.2.1, ht2.lt⟩ ht2.cells.1 hd2 HA.out.off (HE.out.low ht2.base) (by simp [wholeE]; omega) (fun m hm => (HI.out.nice m hm).2)
  have CN := Lib.hid CN
  have HT2 := Lib.hid ht2
  have HD2 := Lib.hid hd2
  have HV := Lib.hid hown2
  have HVT := Lib.hid hvt
  have HW2 := Lib.hid hw2
  have HTT := Lib.hid (And.intro hTl (And.intro hT hap))
  have HSZ := Lib.hid (And.intro hz2 (And.intro ht hl))
  have HB2 := Lib.hid hb2
  clear ht2 hd2 hown2 hvt hTl hT hap hown hlog hdk hvb hT0 hbase hr2 hz2 hb2 hl CO
  go_wp2_with fail
  refine CN.out.mono ?_
  intro e w3 hnw
  obtain ⟨rfl, hb3⟩ := HI.out.newest hnw
  have hd3 := HD2.out.below hb3
  have CLd := Lib.hid (load_s (last0 := 0) ⟨_, HT2.out.below hb3, hd3, Apart.refl _ _, fun r hr => by cases hr⟩ HI.out HE.out HA.out.off (fun k hk => hd3.lt k hk))
  have HV3 := Lib.hid (HV.out.keep hb3)
  have HB3 := Lib.hid hb3
  clear hd3 hnw hb3 CN
  go_wp2_with fail
  refine CLd.out.mono ?_
  rintro e w4 ⟨rfl, vt, h4, hd4, ha4, ho4⟩
  have hv4 := ownS_off HV3.out ha4 (fun q hq e => by have := HVT.out q hq; omega)
  have hgr : ∀ X ∈ R, GoodT X ∧ X ≠ [] ∧ sumB X ≤ 300000 := fun X hX => by
    have h1 := sumB_mem' hX
    have h2 := HI.out.bytes
    exact ⟨(HI.out.goodr X hX).1, (HI.out.goodr X hX).2, by omega⟩
  have CR := Lib.hid (replay_s v R h4 (fun k hk => hd4.lt k hk) hv4 hgr (by omega) (by omega))
  have HA4 := Lib.hid ha4
  have HO4 := Lib.hid ho4
  have HD4 := Lib.hid hd4
  have HF4 := Lib.hid h4.far
  clear hgr hv4 h4 hd4 ha4 ho4 CLd
  go_wp2_with fail
  refine CR.out.mono ?_
  rintro e w5 ⟨rfl, vm5, h5, ha5⟩
  have hd5 := HD4.out.apart ha5 (fun k hk e => HF4.out (e ▸ hk))
  have CS := Lib.hid (sweep_s (N + 12) (N + 2000) room whole D h5 HE.out hd5 HA.out (by omega) HI.out.nice (by omega) (by omega) (by omega))
  have HA5 := Lib.hid ha5
  clear h5 ha5 hd5 CR
  go_wp2_with fail
  refine CS.out.mono ?_
  rintro e w6 ⟨rfl, T6, D6, k1, k2, k3, k4, k5, k6⟩
  have K1 := Lib.hid k1
  have K2 := Lib.hid k2
  have K3 := Lib.hid k3
  have K4 := Lib.hid k4
  have K5 := Lib.hid k5
  have K6 := Lib.hid k6
  clear k1 k2 k3 k4 k5 k6 CS
  go_wp2_with fail
  go_ret2
  have hsame : ∀ m, getF D6.now m = getF D.now m := fun m => by
    rw [K6.out m]
    cases hg : overF n whole m with
    | false => simp
    | true =>
      have h1 : (getF D.now m).isSome = false := by
        cases h2 : (getF D.now m).isSome with
        | false => rfl
        | true => have := HI.out.over_no m h2; rw [hg] at this; cases this
      rw [if_pos rfl]
      exact (Option.isNone_iff_eq_none.1 (by simpa using h1)).symm
  have hi6 : LsI D6 n whole last tabs R b c := HI.out.beside (fun m hm => HI.out.letters m (by rw [← hsame m]; exact hm)) (fun m _ => hsame m)
  obtain ⟨q1, q2, q3⟩ := HTT.out
  obtain ⟨z1, z2, z3⟩ := HSZ.out
  have s1 := q3.size
  have s2 := HB2.out.size
  have s3 := HB3.out.size
  have s4 := HA4.out.size
  have s5 := HA5.out.size
  have s6 := K4.out.size
  have hsub : ∀ k, T6 k → since S W w6 k := fun k hk => by
    rcases K3.out k hk with h1 | h1
    · rcases q2 k h1 with h2 | h2
      · exact .inl h2
      · exact .inr ⟨h2.1, by have := h2.2; omega⟩
    · exact .inr ⟨by omega, h1.2⟩
  have htw : W.heap.size ≤ t := by omega
  have happ : Apart S W w6 := by
    have a1 : Apart S W w2 := q3.trans (Apart.below HB2.out)
    have a2 : Apart S W w3 := a1.trans (Apart.below HB3.out)
    have a3 : Apart S W w4 := a2.trans (HA4.out.mono fun k hk => .inr ⟨by have hk : k = t := hk; omega, by have hk : k = t := hk; omega⟩)
    have a4 : Apart S W w5 := a3.trans (HA5.out.mono fun k hk => .inr ⟨by have hk : k = t := hk; omega, by have hk : k = t := hk; omega⟩)
    refine a4.trans (K4.out.mono fun k hk => ?_)
    rcases q2 k hk with h2 | h2
    · exact .inl h2
    · exact .inr ⟨h2.1, by have := h2.2; omega⟩
  refine ⟨T6, D6, t, l, vt, rfl, ⟨K1.out.mono hN hM, K5.out, hroom, vm5, whole, last, 0, tabs, R, K2.out, hi6, rfl, by omega, fun hb => ⟨rfl, HBG.out hb⟩⟩, hsame, hsub, happ, htw, z3, fun r hr => ?_⟩
  have := HO4.out r hr
  omega

end Go.Proofs.YtlchmkpnehbnlaaGreatDoor.Cd
