/-
  TableReads: the document's Long, append of noughts, the law's walk. Conditions: none.
-/
import Derived.Test.YtcliknmcefcaeaaTbRef
import Derived.Test.YtcliknmcefcaeaaZeros
import Derived.Test.YtcliknmcefcaeaaTrRef
import Derived.Test.YtcliknmcefcaeaaTjWalk
namespace Go.Proofs.Ytcliknmcefcaeaa.Cd
open Go.RowKit

/-- What Long answers. -/
def LongIs (w : World) (l : List Wr) (e : Ending) (w' : World) : Prop := ∃ g : Bool, e = .returned (.bool g) ∧ Below w.heap.size w w' ∧ (g = false ↔ LimT 48 160 l)

set_option maxRecDepth 100000 in
set_option maxHeartbeats 1600000 in
theorem rlong_any (v : Value) (l : List Wr) (w : World) (h : TbIn w w.heap.size v l) :
    Calls Try.prog 23 #[v] w (LongIs w l) := by
  obtain ⟨A, c, rfl, hm1, hm2⟩ := h.len
  have H := Lib.hid h
  clear h
  go_enter Try.func23, Try.ntmps23
  go_wp2_with fail
  go_loopw [7] (fun i wr => ∃ (k : Nat), i = .int .i64 k ∧ k ≤ l.length ∧ Hid (LimT 48 160 (l.take k)) ∧ Hid (Below w.heap.size w wr)) (fun i _ => l.length - (intOf i).toNat)
  case atStart => exact ⟨0, rfl, by omega, fun p hp => by simp at hp, Below.refl _ _⟩
  case round =>
    obtain ⟨k, rfl, hk, hst, hb⟩ := hrel
    by_cases hlt : k < l.length
    · obtain ⟨p, hpk⟩ : ∃ p, l[k]? = some p := ⟨l[k], List.getElem?_eq_getElem hlt⟩
      obtain ⟨b2, off2, e2, hB2, d0, d1, d2⟩ := (H.out.below hb.out).at hpk
      subst e2
      have hmem := List.mem_of_getElem? hpk
      have htk : Hid (l.take (k + 1) = l.take k ++ [p]) := by
        obtain ⟨h1, h2⟩ := List.getElem?_eq_some_iff.1 hpk
        unfold Hid
        rw [List.take_succ_eq_append_getElem h1, h2]
      have hb2 : Hid (Below w.heap.size w (wr.alloc (.cells #[.string ⟨p.1.toArray⟩, .string ⟨p.2.1.toArray⟩, .bool p.2.2] 29))) := hb.out.trans (((Below.refl _ _).alloc (Nat.le_refl _) _).mono hb.out.size)
      have hno : Hid (¬ (p.1.length ≤ 48 ∧ p.2.1.length ≤ 160) → (true = false ↔ LimT 48 160 l)) := fun hn => ⟨(fun h => by cases h), fun h => absurd (h p hmem) hn⟩
      clear hpk hmem hb
      have hways : 48 < p.1.length ∨ (¬ 48 < p.1.length ∧ 160 < p.2.1.length) ∨ (¬ 48 < p.1.length ∧ ¬ 160 < p.2.1.length) := by omega
      rcases hways with h1 | ⟨h1, h2⟩ | ⟨h1, h2⟩
      · have h1' : (48 : Int) < p.1.length := by omega
        go_wp2_with fail
        go_ret
        exact ⟨true, rfl, hb2.out, hno.out (by omega)⟩
      · have h1' : ¬ (48 : Int) < p.1.length := by omega
        have h2' : (160 : Int) < p.2.1.length := by omega
        go_wp2_with fail
        go_ret
        exact ⟨true, rfl, hb2.out, hno.out (by omega)⟩
      · have h1' : ¬ (48 : Int) < p.1.length := by omega
        have h2' : ¬ (160 : Int) < p.2.1.length := by omega
        go_wp2_with fail
        go_roundw
        case rel => exact ⟨k + 1, by go_num, by omega, fun q hq => by
          rw [htk.out] at hq
          rcases List.mem_append.1 hq with hq | hq
          · exact hst.out q hq
          · rw [List.mem_singleton.1 hq]; omega, hb2.out⟩
        case measure => simp [intOf]; omega
    · go_wp2_with fail
      go_ret
      refine ⟨false, rfl, hb.out, fun _ => ?_, fun _ => rfl⟩
      have := hst.out
      rw [List.take_of_length_le (by omega)] at this
      exact this

end Go.Proofs.Ytcliknmcefcaeaa.Cd

namespace Go.Proofs.Ytcliknmcefcaeaa.Cd
open Go.RowKit

set_option maxRecDepth 100000 in
theorem run_append_none (w : World) (B : Nat) (v : Value) (bs : List UInt8) (ho : Own w B v bs) (ty : TypeId) :
    (Builtin.append_ #[34, 3] ty #[v, .int .i64 0]).run Try.prog w = .ok v w := by
  obtain ⟨i0, hi, hz0, hz1, hz2⟩ := info_parts info5
  have hai : (asInt (.int .i64 0)).run Try.prog w = .ok 0 w := by simp [asInt, asIntOf]
  have hw : IntKind.i64.wrap 0 = 0 := by rw [IntKind.wrap_i64]; rfl
  rcases ho.2 with ⟨rfl, h0⟩ | ⟨g, cap, cur, rfl, hbg, hg, hnc, hcm, hcs, htake⟩
  · simp [Builtin.append_, run_underlying Try.underlying34, run_underlying Try.underlying3, sizeOf, typeInfo, zeroValue, hi, hz0, hz1, hz2, Builtin.lenOf, hai, hw]
  · simp [Builtin.append_, run_underlying Try.underlying34, run_underlying Try.underlying3, sizeOf, typeInfo, zeroValue, hi, hz0, hz1, hz2, Builtin.lenOf, hai, hw, hnc, storeCells]

theorem wp_append_zeros_any {w : World} {ops : Array Oper} {rest : List Oper} {o : Oper} {a : Act} {Q : Exit → Act → World → Prop} (hgd : o.guard = none) (s x : Operand)
    (hop : o.op = .call { callee := .builtin .append, args := #[s, x], argTypes := #[34, 3] })
    (B : Nat) (v : Value) (bs : List UInt8) (hs : a.eval s = v) (ho : Own w B v bs) (hB : B ≤ w.heap.size) (n : Nat) (hx : a.eval x = .int .i64 n)
    (hm : bs.length + n ≤ 140737488355328)
    (hK : ∀ v' w', Own w' B v' (bs ++ List.replicate n 0) → Below B w w' → wpList Try.prog ops Q rest (a.put o.dst v') w') : wpList Try.prog ops Q (o :: rest) a w := by
  by_cases h0 : n = 0
  · subst h0
    refine wpList_plain hgd fun K hK' => ?_
    have hrun := run_append_none w B v bs ho o.type
    unfold Oper.wp
    simp [execOp, hop, resolve, invoke, builtin, hs, hx, hrun, Result.andThen]
    exact hK' _ _ (hK v w (by simpa using ho) (Below.refl _ _))
  · exact wp_append_zeros hgd s x hop B v bs hs ho hB n n rfl hx h0 hm hK

end Go.Proofs.Ytcliknmcefcaeaa.Cd

namespace Go.Proofs.Ytcliknmcefcaeaa.Cd
open Go.RowKit

set_option maxRecDepth 100000 in
set_option maxHeartbeats 6400000 in
theorem tr_main (va vb : Value) (l : List Wr) (b : List UInt8) (noughts : Int) (w : World) (ha : TbIn w w.heap.size va l) (Fl : FitW l) (hb : Sl w w.heap.size vb b) :
    Calls Try.prog 5 #[va, vb, .int .i64 noughts] w (Gives (.bool true) w) := by
  obtain ⟨A0, c0, rfl, hl1, hl2⟩ := ha.len
  obtain ⟨A1, c1, rfl, hl3, hl4⟩ := hb.len
  have Ha := Lib.hid ha
  have Hb := Lib.hid hb
  have HB : Hid (Below w.heap.size w w) := Below.refl _ _
  clear ha hb
  go_enter Try.func5, Try.ntmps5
  have CA := Lib.hid (alive10 w)
  go_wp2_with fail
  refine CA.out.mono ?_
  rintro e w1 ⟨rfl, hbw⟩
  clear CA
  replace Ha := Lib.hid (Ha.out.up hbw)
  replace Hb := Lib.hid ((Hb.out.below hbw).more hbw.size)
  replace HB := Lib.hid (HB.out.trans (hbw.mono HB.out.size))
  clear hbw
  have CG := Lib.hid (great10_any _ _ 8192 w1 Ha.out Fl (by omega))
  go_wp2_with fail
  refine CG.out.mono ?_
  rintro e w2 ⟨gr, rfl, hbw, hg⟩
  clear CG
  replace Ha := Lib.hid (Ha.out.up hbw)
  replace Hb := Lib.hid ((Hb.out.below hbw).more hbw.size)
  replace HB := Lib.hid (HB.out.trans (hbw.mono HB.out.size))
  clear hbw
  cases gr
  case true =>
    clear hg
    go_wp2_with fail
    go_ret
    exact ⟨rfl, HB.out⟩
  have hsl := hg rfl
  clear hg
  have hways : 8192 < b.length ∨ (¬ 8192 < b.length ∧ noughts < 0) ∨ (¬ 8192 < b.length ∧ ¬ noughts < 0 ∧ 1000 < noughts) ∨ (¬ 8192 < b.length ∧ 0 ≤ noughts ∧ noughts ≤ 1000) := by omega
  rcases hways with h | ⟨h1, h2⟩ | ⟨h1, h2, h3⟩ | ⟨h1, h2, h3⟩
  case inl =>
    have h : (8192 : Int) < b.length := by omega
    go_wp2_with fail
    go_ret
    exact ⟨rfl, HB.out⟩
  case inr.inl =>
    have h : ¬ (8192 : Int) < b.length := by omega
    go_wp2_with fail
    go_ret
    exact ⟨rfl, HB.out⟩
  case inr.inr.inl =>
    have h : ¬ (8192 : Int) < b.length := by omega
    go_wp2_with fail
    go_ret
    exact ⟨rfl, HB.out⟩
  obtain ⟨n, rfl⟩ := Int.eq_ofNat_of_zero_le h2
  have h : ¬ (8192 : Int) < b.length := by omega
  have hn1 : ¬ (n : Int) < 0 := by omega
  have hn2 : ¬ (1000 : Int) < n := by omega
  have hMl := Nat.le_trans (sumW_len l) hsl
  have hso := Nat.le_trans (sumW_of l) hsl
  have CT := Lib.hid (tread_any _ b w2 Hb.out (by omega))
  go_wp2_with fail
  refine CT.out.mono ?_
  rintro e w3 ⟨v3, n3, rfl, hbw, hans⟩
  clear CT
  replace Ha := Lib.hid (Ha.out.up hbw)
  replace Hb := Lib.hid ((Hb.out.below hbw).more hbw.size)
  replace HB := Lib.hid (HB.out.trans (hbw.mono HB.out.size))
  have HAN := Lib.hid hans
  clear hbw hans
  have hcv := run_text_of _ _ _ _ Hb.out
  have CR := Lib.hid (rread_any b w3 (by omega))
  go_wp2_with fail
  refine CR.out.mono ?_
  rintro e w4 ⟨v4, ok, rfl, hbw, hans⟩
  clear CR hcv
  replace Ha := Lib.hid (Ha.out.up hbw)
  replace HB := Lib.hid (HB.out.trans (hbw.mono HB.out.size))
  have HAN3 : Hid ((n3 = 0 ∧ ∃ T g, v3 = .pointer (some ⟨g, 0, none⟩) ∧ IsB b T ∧ TabV w4 v3 T) ∨ (n3 = 4 ∧ v3 = .pointer none ∧ ∀ T, ¬ IsB b T)) := by
    rcases HAN.out with ⟨h1, T, g, h2, h3, h4⟩ | h
    · exact .inl ⟨h1, T, g, h2, h3, h4.below hbw⟩
    · exact .inr h
  have HAN4 := Lib.hid hans
  clear hbw hans HAN Hb
  rcases HAN3.out with ⟨rfl, T, g, rfl, hT, ht⟩ | ⟨rfl, rfl, hno⟩
  case inl =>
    rcases HAN4.out with ⟨rfl, U, hU, hin, hUl⟩ | ⟨rfl, hno⟩
    case inr => exact absurd hT (hno T)
    have hTU := isB_uniq (by omega) hT hU
    subst hTU
    obtain ⟨A4, c4, rfl, _, _⟩ := hin.len
    have HT := Lib.hid ht
    have HIN := Lib.hid hin
    clear HAN3 HAN4 hT hU hin ht
    have CL := Lib.hid (tall_any _ T w4 HT.out (by omega))
    go_wp2_with fail
    refine CL.out.mono ?_
    rintro e w5 ⟨v5, rfl, hn5, hbw⟩
    replace Ha := Lib.hid (Ha.out.up hbw)
    replace HB := Lib.hid (HB.out.trans (hbw.mono HB.out.size))
    have HIN5 := Lib.hid (HIN.out.up hbw)
    have CS := Lib.hid (same10_any v5 _ T T w5 hn5.tbIn HIN5.out)
    clear CL hbw hn5 HIN HT
    go_wp2_with fail
    refine CS.out.mono ?_
    rintro e w6 ⟨sm, rfl, hs6, hbw⟩
    obtain rfl : sm = true := by simpa using hs6
    replace Ha := Lib.hid (Ha.out.up hbw)
    replace HB := Lib.hid (HB.out.trans (hbw.mono HB.out.size))
    clear CS hbw hs6 HIN5
    have CO := Lib.hid (tof_any _ l w6 Ha.out Fl (by omega))
    go_wp2_with fail
    refine CO.out.mono ?_
    intro e x1 h1
    obtain ⟨v1, rfl, ⟨gx, rfl⟩, ht, hbw⟩ := h1.tab
    obtain ⟨X, eX⟩ : ∃ res, ofW l = res := ⟨_, rfl⟩
    have hXX : ofW X = X := by rw [← eX]; exact ofW_self (ofW_srt l) (ofW_flat l)
    rw [eX] at ht hso
    have HX := Lib.hid ht
    have HXX := Lib.hid hXX
    have hXl := sumW_len X
    have hfl := recW_flat X (by omega)
    have hel := enc_u64 X.length (by omega)
    have hrl : (recW X).length ≤ 245800 := by unfold recW; rw [List.length_append]; omega
    have hbl : (bytesW X).length ≤ 245900 := by have := frm_le (recW X) (by omega); unfold bytesW; omega
    have HLIM : Hid (LimT 1048576 1048576 X) := fun p hp => by have := sumW_mem hp; omega
    replace HB := Lib.hid (HB.out.trans (hbw.mono HB.out.size))
    have CB := Lib.hid (tbytes_any _ X x1 ht (by omega))
    clear CO hbw ht h1 eX Ha hXX hfl hel
    go_wp2_with fail
    refine CB.out.mono ?_
    rintro e x2 ⟨vb2, rfl, ho, hbw⟩
    have HB12 := Lib.hid hbw
    have HO := Lib.hid ho
    have hz12 := hbw.size
    clear CB hbw
    have hbn : (bytesW X ++ List.replicate n (0 : UInt8)).length = (bytesW X).length + n := by rw [List.length_append, List.length_replicate]
    have HIB : Hid (∀ U, IsB (bytesW X ++ List.replicate n 0) U ↔ IsT (recW X) U) := fun U => isB_of (by have : (frm (recW X)).length = (bytesW X).length := rfl; omega)
    obtain ⟨Bs, hBs⟩ : ∃ x, bytesW X ++ List.replicate n (0 : UInt8) = x := ⟨_, rfl⟩
    rw [hBs] at hbn HIB
    have hBl : Bs.length ≤ 1048576 := by omega
    have HBs := Lib.hid hBs
    clear hbn hBs
    go_wp2_with (at_builtin; refine wp_append_zeros_any rfl _ _ rfl x1.heap.size _ (bytesW X) rfl HO.out hz12 n rfl (by omega) ?_
                 intro v6 x3 ho3 hb3
                 have HX3 := Lib.hid (HX.out.below (HB12.out.trans hb3))
                 have HB3 := Lib.hid (HB.out.trans ((HB12.out.trans hb3).mono HB.out.size))
                 rw [HBs.out] at ho3
                 have HS3 := Lib.hid ho3.sl
                 clear ho3 hb3)
    have CR2 := Lib.hid (tread_any _ Bs x3 HS3.out hBl)
    clear HX HB HO HB12
    refine CR2.out.mono ?_
    rintro e x4 ⟨v7, n7, rfl, hbw, hans⟩
    have hAN : (n7 = 0 ∧ LimT 48 160 X ∧ TabV x4 v7 X) ∨ (n7 = 4 ∧ ¬ LimT 48 160 X) := by
      rcases hans with ⟨h1, U, g7, rfl, h3, h4⟩ | ⟨h1, _, h3⟩
      · have hI := (HIB.out U).1 h3
        have hL := isT_long (by omega) HLIM.out hI
        have hU := isT_uniq hI (isT_self HXX.out (by omega) hL)
        rw [hU] at h4
        exact .inl ⟨h1, hL, h4⟩
      · exact .inr ⟨h1, fun hL => h3 X ((HIB.out X).2 (isT_self HXX.out (by omega) hL))⟩
    replace HX3 := Lib.hid (HX3.out.below hbw)
    replace HB3 := Lib.hid (HB3.out.trans (hbw.mono HB3.out.size))
    have HAN7 := Lib.hid hAN
    have CL2 := Lib.hid (tall_any _ X x4 HX3.out (by omega))
    clear CR2 hans hbw hAN HS3 HIB HLIM HBs
    go_wp2_with fail
    refine CL2.out.mono ?_
    rintro e x5 ⟨v8, rfl, hn8, hbw⟩
    have HAN8 : Hid ((n7 = 0 ∧ LimT 48 160 X ∧ TabV x5 v7 X) ∨ (n7 = 4 ∧ ¬ LimT 48 160 X)) := HAN7.out.imp (fun h => ⟨h.1, h.2.1, h.2.2.below hbw⟩) id
    replace HX3 := Lib.hid (HX3.out.below hbw)
    replace HB3 := Lib.hid (HB3.out.trans (hbw.mono HB3.out.size))
    have CG2 := Lib.hid (rlong_any v8 X x5 hn8.tbIn)
    clear CL2 hn8 hbw HAN7
    go_wp2_with fail
    refine CG2.out.mono ?_
    rintro e x6 ⟨lg, rfl, hbw, hlg⟩
    have HAN9 : Hid ((n7 = 0 ∧ LimT 48 160 X ∧ TabV x6 v7 X) ∨ (n7 = 4 ∧ ¬ LimT 48 160 X)) := HAN8.out.imp (fun h => ⟨h.1, h.2.1, h.2.2.below hbw⟩) id
    replace HX3 := Lib.hid (HX3.out.below hbw)
    replace HB3 := Lib.hid (HB3.out.trans (hbw.mono HB3.out.size))
    clear CG2 hbw HAN8
    rcases HAN9.out with ⟨rfl, hL, ht7⟩ | ⟨rfl, hL⟩
    · obtain rfl : lg = false := hlg.2 hL
      have HT7 := Lib.hid ht7
      have CL3 := Lib.hid (tall_any _ X x6 HX3.out (by omega))
      clear hlg hL ht7 HAN9
      go_wp2_with fail
      refine CL3.out.mono ?_
      rintro e x7 ⟨v9, rfl, hn9, hbw⟩
      have HT8 := Lib.hid (HT7.out.below hbw)
      have HN9 := Lib.hid hn9.tbIn
      replace HB3 := Lib.hid (HB3.out.trans (hbw.mono HB3.out.size))
      have CL4 := Lib.hid (tall_any _ X x7 HT8.out (by omega))
      clear CL3 hn9 hbw HT7 HX3
      go_wp2_with fail
      refine CL4.out.mono ?_
      rintro e x8 ⟨v10, rfl, hn10, hbw⟩
      replace HN9 := Lib.hid (HN9.out.up hbw)
      replace HB3 := Lib.hid (HB3.out.trans (hbw.mono HB3.out.size))
      have CS3 := Lib.hid (same10_any v9 v10 X X x8 HN9.out hn10.tbIn)
      clear CL4 hn10 hbw HT8 HN9
      go_wp2_with fail
      refine CS3.out.mono ?_
      rintro e x9 ⟨sm9, rfl, hs9, hbw⟩
      obtain rfl : sm9 = true := by simpa using hs9
      replace HB3 := Lib.hid (HB3.out.trans (hbw.mono HB3.out.size))
      clear CS3 hbw hs9
      go_wp2_with fail
      go_ret
      exact ⟨rfl, HB3.out⟩
    · obtain rfl : lg = true := by
        cases lg with
        | true => rfl
        | false => exact absurd (hlg.1 rfl) hL
      clear hlg hL HAN9
      go_wp2_with fail
      go_ret
      exact ⟨rfl, HB3.out⟩
  case inr =>
    rcases HAN4.out with ⟨rfl, U, hU, _, _⟩ | ⟨rfl, _⟩
    case inl => exact absurd hU (hno U)
    clear HAN3 HAN4 hno
    have CO := Lib.hid (tof_any _ l w4 Ha.out Fl (by omega))
    go_wp2_with fail
    refine CO.out.mono ?_
    intro e x1 h1
    obtain ⟨v1, rfl, ⟨gx, rfl⟩, ht, hbw⟩ := h1.tab
    obtain ⟨X, eX⟩ : ∃ res, ofW l = res := ⟨_, rfl⟩
    have hXX : ofW X = X := by rw [← eX]; exact ofW_self (ofW_srt l) (ofW_flat l)
    rw [eX] at ht hso
    have HX := Lib.hid ht
    have HXX := Lib.hid hXX
    have hXl := sumW_len X
    have hfl := recW_flat X (by omega)
    have hel := enc_u64 X.length (by omega)
    have hrl : (recW X).length ≤ 245800 := by unfold recW; rw [List.length_append]; omega
    have hbl : (bytesW X).length ≤ 245900 := by have := frm_le (recW X) (by omega); unfold bytesW; omega
    have HLIM : Hid (LimT 1048576 1048576 X) := fun p hp => by have := sumW_mem hp; omega
    replace HB := Lib.hid (HB.out.trans (hbw.mono HB.out.size))
    have CB := Lib.hid (tbytes_any _ X x1 ht (by omega))
    clear CO hbw ht h1 eX Ha hXX hfl hel
    go_wp2_with fail
    refine CB.out.mono ?_
    rintro e x2 ⟨vb2, rfl, ho, hbw⟩
    have HB12 := Lib.hid hbw
    have HO := Lib.hid ho
    have hz12 := hbw.size
    clear CB hbw
    have hbn : (bytesW X ++ List.replicate n (0 : UInt8)).length = (bytesW X).length + n := by rw [List.length_append, List.length_replicate]
    have HIB : Hid (∀ U, IsB (bytesW X ++ List.replicate n 0) U ↔ IsT (recW X) U) := fun U => isB_of (by have : (frm (recW X)).length = (bytesW X).length := rfl; omega)
    obtain ⟨Bs, hBs⟩ : ∃ x, bytesW X ++ List.replicate n (0 : UInt8) = x := ⟨_, rfl⟩
    rw [hBs] at hbn HIB
    have hBl : Bs.length ≤ 1048576 := by omega
    have HBs := Lib.hid hBs
    clear hbn hBs
    go_wp2_with (at_builtin; refine wp_append_zeros_any rfl _ _ rfl x1.heap.size _ (bytesW X) rfl HO.out hz12 n rfl (by omega) ?_
                 intro v6 x3 ho3 hb3
                 have HX3 := Lib.hid (HX.out.below (HB12.out.trans hb3))
                 have HB3 := Lib.hid (HB.out.trans ((HB12.out.trans hb3).mono HB.out.size))
                 rw [HBs.out] at ho3
                 have HS3 := Lib.hid ho3.sl
                 clear ho3 hb3)
    have CR2 := Lib.hid (tread_any _ Bs x3 HS3.out hBl)
    clear HX HB HO HB12
    refine CR2.out.mono ?_
    rintro e x4 ⟨v7, n7, rfl, hbw, hans⟩
    have hAN : (n7 = 0 ∧ LimT 48 160 X ∧ TabV x4 v7 X) ∨ (n7 = 4 ∧ ¬ LimT 48 160 X) := by
      rcases hans with ⟨h1, U, g7, rfl, h3, h4⟩ | ⟨h1, _, h3⟩
      · have hI := (HIB.out U).1 h3
        have hL := isT_long (by omega) HLIM.out hI
        have hU := isT_uniq hI (isT_self HXX.out (by omega) hL)
        rw [hU] at h4
        exact .inl ⟨h1, hL, h4⟩
      · exact .inr ⟨h1, fun hL => h3 X ((HIB.out X).2 (isT_self HXX.out (by omega) hL))⟩
    replace HX3 := Lib.hid (HX3.out.below hbw)
    replace HB3 := Lib.hid (HB3.out.trans (hbw.mono HB3.out.size))
    have HAN7 := Lib.hid hAN
    have CL2 := Lib.hid (tall_any _ X x4 HX3.out (by omega))
    clear CR2 hans hbw hAN HS3 HIB HLIM HBs
    go_wp2_with fail
    refine CL2.out.mono ?_
    rintro e x5 ⟨v8, rfl, hn8, hbw⟩
    have HAN8 : Hid ((n7 = 0 ∧ LimT 48 160 X ∧ TabV x5 v7 X) ∨ (n7 = 4 ∧ ¬ LimT 48 160 X)) := HAN7.out.imp (fun h => ⟨h.1, h.2.1, h.2.2.below hbw⟩) id
    replace HX3 := Lib.hid (HX3.out.below hbw)
    replace HB3 := Lib.hid (HB3.out.trans (hbw.mono HB3.out.size))
    have CG2 := Lib.hid (rlong_any v8 X x5 hn8.tbIn)
    clear CL2 hn8 hbw HAN7
    go_wp2_with fail
    refine CG2.out.mono ?_
    rintro e x6 ⟨lg, rfl, hbw, hlg⟩
    have HAN9 : Hid ((n7 = 0 ∧ LimT 48 160 X ∧ TabV x6 v7 X) ∨ (n7 = 4 ∧ ¬ LimT 48 160 X)) := HAN8.out.imp (fun h => ⟨h.1, h.2.1, h.2.2.below hbw⟩) id
    replace HX3 := Lib.hid (HX3.out.below hbw)
    replace HB3 := Lib.hid (HB3.out.trans (hbw.mono HB3.out.size))
    clear CG2 hbw HAN8
    rcases HAN9.out with ⟨rfl, hL, ht7⟩ | ⟨rfl, hL⟩
    · obtain rfl : lg = false := hlg.2 hL
      have HT7 := Lib.hid ht7
      have CL3 := Lib.hid (tall_any _ X x6 HX3.out (by omega))
      clear hlg hL ht7 HAN9
      go_wp2_with fail
      refine CL3.out.mono ?_
      rintro e x7 ⟨v9, rfl, hn9, hbw⟩
      have HT8 := Lib.hid (HT7.out.below hbw)
      have HN9 := Lib.hid hn9.tbIn
      replace HB3 := Lib.hid (HB3.out.trans (hbw.mono HB3.out.size))
      have CL4 := Lib.hid (tall_any _ X x7 HT8.out (by omega))
      clear CL3 hn9 hbw HT7 HX3
      go_wp2_with fail
      refine CL4.out.mono ?_
      rintro e x8 ⟨v10, rfl, hn10, hbw⟩
      replace HN9 := Lib.hid (HN9.out.up hbw)
      replace HB3 := Lib.hid (HB3.out.trans (hbw.mono HB3.out.size))
      have CS3 := Lib.hid (same10_any v9 v10 X X x8 HN9.out hn10.tbIn)
      clear CL4 hn10 hbw HT8 HN9
      go_wp2_with fail
      refine CS3.out.mono ?_
      rintro e x9 ⟨sm9, rfl, hs9, hbw⟩
      obtain rfl : sm9 = true := by simpa using hs9
      replace HB3 := Lib.hid (HB3.out.trans (hbw.mono HB3.out.size))
      clear CS3 hbw hs9
      go_wp2_with fail
      go_ret
      exact ⟨rfl, HB3.out⟩
    · obtain rfl : lg = true := by
        cases lg with
        | true => rfl
        | false => exact absurd (hlg.1 rfl) hL
      clear hlg hL HAN9
      go_wp2_with fail
      go_ret
      exact ⟨rfl, HB3.out⟩

end Go.Proofs.Ytcliknmcefcaeaa.Cd

namespace Go.Proofs.Ytcliknmcefcaeaa.TableReads
open Go.RowKit Go.Proofs.Ytcliknmcefcaeaa.Cd

theorem walk (va : Value) (l : List Wr) (vb : Value) (b : List UInt8) (n : Int) (w : World) (ha : Cd.TbIn w w.heap.size va l ∧ FitW l) (hb : Sl w w.heap.size vb b) (_ : (Lit.int .i64 n).wf = true) :
    Calls Try.prog 5 #[va, vb, .int .i64 n] w (Gives (.bool true) w) := tr_main va vb l b n w ha.1 ha.2 hb

end Go.Proofs.Ytcliknmcefcaeaa.TableReads
