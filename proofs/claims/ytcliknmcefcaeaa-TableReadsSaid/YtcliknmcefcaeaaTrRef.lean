/-
  The document's Read of a table's bytes. Conditions: not too many bytes.
-/
import Derived.Test.YtcliknmcefcaeaaTrRead
import Derived.Test.YtcliknmcefcaeaaTkWalk
import Derived.Test.YtcliknmcefcaeaaTbRefOf
import Derived.Test.YtcliknmcefcaeaaRefSplit
import Derived.Test.YtcliknmcefcaeaaRefReads
namespace Go.Proofs.Ytcliknmcefcaeaa.Cd
open Go.RowKit

/-- What the document's Read answers. -/
def RReadsT (w : World) (b : List UInt8) (e : Ending) (w' : World) : Prop :=
  ∃ v ok, e = .returned (.tuple #[v, .bool ok]) ∧ Below w.heap.size w w' ∧
    ((ok = true ∧ ∃ T, IsB b T ∧ TbIn w' w'.heap.size v T ∧ T.length ≤ 1048577) ∨ (ok = false ∧ ∀ T, ¬ IsB b T))

theorem ofE_toW {e : Ent} (h : e.u ≤ 1) : ofE (toW e) = e := by
  obtain ⟨u, k, v⟩ := e
  have h : u ≤ 1 := h
  have hu : u = 0 ∨ u = 1 := by omega
  rcases hu with rfl | rfl <;> rfl
def Neat (e : Ent) : Prop := e.u ≤ 1 ∧ (e.u = 1 → e.v = [])
theorem neat_of {s : List UInt8} {T : List Wr} (h : IsT s T) : ∀ e ∈ T.map ofE, Neat e := fun e he => by
  obtain ⟨p, hp, rfl⟩ := List.mem_map.1 he
  have hf := ofW_flat T
  rw [h.2.1] at hf
  have h2 := hf p hp
  obtain ⟨k, v, g⟩ := p
  cases g with
  | false => exact ⟨by show (0 : Nat) ≤ 1; omega, fun h => by cases h⟩
  | true =>
    refine ⟨Nat.le_refl _, fun _ => ?_⟩
    have := congrArg (fun w => w.rest.1) h2
    exact this.symm
section
variable {s cur : List UInt8} {Q : List Ent}
theorem MidQ.early (h : MidQ s Q cur) (hx : uX s = false) (hl : Q.length < nv s) (hn : ¬ Neat ⟨stU cur, stK 48 cur, stV 48 160 cur⟩) (T : List Wr) : ¬ IsT s T := fun hT => by
  cases hg : stX 48 160 cur with
  | true => exact no_raw (h.none_bad hx hl hg) T hT
  | false =>
    have hm := h.step hx hg
    obtain ⟨R, h1, _⟩ := hm.rest hx (by rw [List.length_append]; exact hl) (lim_of hT.2.2.1) (by rw [List.length_map]; exact hT.2.2.2) (by rw [rawS_of]; exact hT.1)
    exact hn (neat_of hT _ (by rw [h1]; simp))
theorem MidQ.isT (h : MidQ s Q []) (hx : uX s = false) (hl : Q.length = nv s) (hn : ∀ e ∈ Q, Neat e) : (∃ T, IsT s T) ↔ ofW (Q.map toW) = Q.map toW := by
  have hs := h.last hx hl
  have hq : (Q.map toW).map ofE = Q := by
    rw [List.map_map]
    conv => rhs; rw [← List.map_id Q]
    exact List.map_congr_left fun e he => ofE_toW (hn e he).1
  have hlq : Q.length < 18446744073709551616 := by rw [hl]; exact nv_u64 s
  constructor
  · rintro ⟨T, hT⟩
    obtain ⟨Q', h1, h2, h3, h4⟩ := isT_raw hT
    have := raw_uniq (by omega) (by omega) h.lim h1 hlq h2 (hs.symm.trans h3)
    rw [this, h4]
    exact hT.2.1
  · intro ho
    exact ⟨_, (tab_of h.lim hlq hs).1 (by rw [ho, ← rawS_of, hq]; exact hs.symm)⟩
theorem MidQ.isT2 (h : MidQ s Q []) (hx : uX s = false) (hl : Q.length = nv s) (hn : ∀ e ∈ Q, Neat e) (ho : ofW (Q.map toW) = Q.map toW) : IsT s (Q.map toW) := by
  have hs := h.last hx hl
  have hq : (Q.map toW).map ofE = Q := by
    rw [List.map_map]
    conv => rhs; rw [← List.map_id Q]
    exact List.map_congr_left fun e he => ofE_toW (hn e he).1
  exact (tab_of h.lim (by rw [hl]; exact nv_u64 s) hs).1 (by rw [ho, ← rawS_of, hq]; exact hs.symm)
end

def lenS : Value → Nat
  | .slice _ n _ => n
  | _ => 0

set_option maxRecDepth 100000 in
set_option maxHeartbeats 6400000 in
theorem rread_any (b : List UInt8) (w : World) (hb : b.length ≤ 1048576) :
    Calls Try.prog 22 #[.string ⟨b.toArray⟩] w (RReadsT w b) := by
  have CS := Lib.hid (rsplit_any b w hb)
  go_enter Try.func22, Try.ntmps22
  go_wp2_with fail
  refine CS.out.mono ?_
  rintro e w1 ⟨u, ds, cur, hsp, rfl, ho, hb1⟩
  have hlen := congrArg List.length hsp.1
  rw [List.length_append] at hlen
  have HSP := Lib.hid hsp
  have HB1 := Lib.hid hb1
  obtain ⟨Au, cu, rfl, _, _⟩ := ho.strs.len
  have HO := Lib.hid ho.strs
  clear hsp hb1 ho CS
  by_cases h1 : ds.length = 1
  case neg =>
    have hq : ((ds.length : Int) == 1) = false := by rw [beq_eq_false_iff_ne]; omega
    have HNO := Lib.hid (no_many (by omega) HSP.out h1)
    go_wp2_with fail
    go_ret2
    exact ⟨_, _, rfl, HB1.out, .inr ⟨rfl, HNO.out⟩⟩
  case pos =>
    obtain ⟨s, rfl⟩ := List.length_eq_one_iff.1 h1
    have hsn : s.length + 5 ≤ (flat [s]).length := by rw [flat_one]; exact frm_ge s
    have hs : s.length ≤ 1048576 := by omega
    have hcl : cur.length ≤ 1048576 := by omega
    clear h1 hlen hsn
    go_wp2_with fail
    go_loopw [6] (fun i wr => ∃ k : Nat, i = .int .i64 k ∧ k ≤ cur.length ∧ Hid (w1 = wr) ∧ Hid (∀ x ∈ cur.take k, x = 0)) (fun i _ => cur.length - (intOf i).toNat)
    case atStart => exact ⟨0, rfl, by omega, rfl, fun x hx => by simp at hx⟩
    case round =>
      obtain ⟨k, rfl, hk, hw, hz⟩ := hrel
      obtain rfl := hw.out
      by_cases hlt : k < cur.length
      case pos =>
        have htk : cur.take (k + 1) = cur.take k ++ [cur[k]] := List.take_succ_eq_append_getElem hlt
        obtain ⟨y, hy⟩ : ∃ y, (ByteArray.mk cur.toArray)[k]'hlt = y := ⟨_, rfl⟩
        have hy2 : cur[k] = y := hy
        have hmem : y ∈ cur := hy2 ▸ List.getElem_mem hlt
        rw [hy2] at htk
        obtain ⟨m, hm⟩ : ∃ m, y.toNat = m := ⟨_, rfl⟩
        have HT := Lib.hid htk
        clear htk hy2
        by_cases h0 : m = 0
        case pos =>
          subst h0
          have hy0 : y = 0 := UInt8.toNat_inj.1 (by rw [hm]; rfl)
          have HZ : Hid (∀ x ∈ cur.take (k + 1), x = 0) := fun x hx => by
            rw [HT.out] at hx
            rcases List.mem_append.1 hx with hx | hx
            · exact hz.out x hx
            · rw [List.mem_singleton.1 hx]; exact hy0
          clear hy0 hmem HT hz
          go_wp2_with fail
          go_roundw
          case rel => exact ⟨k + 1, by go_num, by omega, True.intro, HZ⟩
          case measure => simp [intOf]; omega
        case neg =>
          have hq : ((m : Int) == 0) = false := by simpa using h0
          have HNO := Lib.hid (no_rest (by omega) HSP.out (fun h => h0 (by rw [← hm, h y hmem]; rfl)))
          clear hmem HT hz
          go_wp2_with fail
          go_ret2
          exact ⟨_, _, rfl, HB1.out, .inr ⟨rfl, HNO.out⟩⟩
      case neg =>
        have HZ : Hid (∀ x ∈ cur, x = 0) := by
          have := hz.out
          rwa [List.take_of_length_le (by omega)] at this
        clear hz hw
        obtain ⟨rb, ro, rc, re, _, _, hrb, hcell⟩ := HO.out.at (by simp)
        injection re with re _ _
        subst re
        have d0 : w1.cell? ⟨rb, ro, none⟩ = some (.string ⟨s.toArray⟩) := hcell 0 (by simp)
        clear hcell
        have hrf := heap_alloc_new w1 (.cells #[.string ⟨s.toArray⟩, .bool false] 87)
        have CU := Lib.hid (fuint_any w1.heap.size s false _ hrf (Sane.start s) (by omega))
        have hwg := HB1.out.size
        have HB2 := Lib.hid (HB1.out.trans (((Below.refl _ _).alloc (Nat.le_refl _) (.cells #[.string ⟨s.toArray⟩, .bool false] 87)).mono hwg))
        have hz2 : w1.heap.size + 1 ≤ (w1.alloc (.cells #[.string ⟨s.toArray⟩, .bool false] 87)).heap.size := by simp
        clear hrf
        go_wp2_with fail
        generalize w1.alloc (.cells #[.string ⟨s.toArray⟩, .bool false] 87) = w2 at *
        refine CU.out.mono ?_
        rintro e w3 ⟨rfl, hr3, hg3⟩
        generalize w1.heap.size = g at *
        have HB3 : Hid (Below w.heap.size w w3) := HB2.out.grown hg3 HB2.out.size (fun k e => by injection e with e; omega)
        have hz3 := Nat.le_trans hz2 hg3.size
        have HR3 := Lib.hid hr3
        have hlu := uB_len s
        have HST : Hid (uX s = false → uX s = false ∧ ∃ Q, Q.map toW = [] ∧ MidQ s Q (uB s) ∧ ∀ e ∈ Q, Neat e) := fun h => ⟨h, [], rfl, mid_start s, fun e he => by cases he⟩
        have HSB : Hid (uX s = true → ∀ T, ¬ IsT s T) := fun h => no_raw (none_u h)
        obtain ⟨n, hnv⟩ : ∃ x, nv s = x := ⟨_, rfl⟩
        have hn : n < 18446744073709551616 := hnv ▸ nv_u64 s
        have HNV := Lib.hid hnv
        rw [hnv]
        clear CU HB2 hr3 hg3 hz2 hnv d0 HO
        go_wp2_with fail
        go_loopw [9] (fun a9 wr => ∃ (L : List Wr) (c2 : List UInt8) (bd : Bool), L.length ≤ n ∧ L.length ≤ 1048577 ∧ Hid (OwnTb wr (g + 1) a9 L) ∧ Hid (Rf wr g c2 bd) ∧ Hid (Sane bd c2) ∧ c2.length ≤ 1048576 ∧ Hid (bd = false → uX s = false ∧ ∃ Q, Q.map toW = L ∧ MidQ s Q c2 ∧ ∀ e ∈ Q, Neat e) ∧ Hid (bd = true → ∀ T, ¬ IsT s T) ∧ Hid (Below w.heap.size w wr) ∧ g + 1 ≤ wr.heap.size) (fun a9 _ => n - lenS a9)
        case atStart => exact ⟨[], uB s, uX s, by simp, by simp, OwnTb.nil _ _, HR3.out, Sane.u s, by omega, HST.out, HSB.out, HB3.out, hz3⟩
        case round =>
          clear HR3 HST HSB HB3 hz3 hlu
          obtain ⟨L, c2, bd, hLn, hLm, hO, hR, hSn, hcl2, hgood, hbad, hB, hsz⟩ := hrel
          obtain ⟨A9, c9, e9, _, _⟩ := hO.out.tbIn.len
          subst e9
          obtain ⟨k, hkL⟩ : ∃ k, L.length = k := ⟨_, rfl⟩
          have HKL := Lib.hid hkL
          rw [hkL] at hLn hLm ⊢
          clear hkL
          have hwr : IntKind.u64.wrap (k : Int) = k := by simp [IntKind.wrap, IntKind.bits, IntKind.signed]; omega
          have CE := Lib.hid (fend_any g c2 bd wr hR.out)
          by_cases hlt : k < n
          case pos =>
            have CG := Lib.hid (fgood_any g c2 bd wr hR.out)
            go_wp2_with fail
            refine CG.out.mono ?_
            rintro e w4 ⟨rfl, rfl⟩
            clear CG
            cases bd
            case true =>
              have HNO := Lib.hid (no_form (by omega) HSP.out (hbad.out rfl))
              clear hgood hbad hO hR hSn
              go_wp2_with fail
              refine CE.out.mono ?_
              rintro e w4 ⟨rfl, rfl⟩
              go_wp2_with fail
              go_ret2
              exact ⟨_, _, rfl, hB.out, .inr ⟨rfl, HNO.out⟩⟩
            case false =>
              obtain ⟨hux, Q, hQL, hM, hNeat⟩ := hgood.out rfl
              have hql : Q.length = k := by rw [← HKL.out, ← hQL, List.length_map]
              have hml := hM.len
              have CU := Lib.hid (fuint_any g c2 false wr hR.out (Sane.start c2) (by omega))
              have HM := Lib.hid hM
              have HQL := Lib.hid hQL
              have HNEAT := Lib.hid hNeat
              have HUX := Lib.hid hux
              clear CE hgood hbad hQL hM hNeat hSn hux
              go_wp2_with fail
              refine CU.out.mono ?_
              rintro e w4 ⟨rfl, hr4, hg4⟩
              have hz4 := Nat.le_trans hsz hg4.size
              have HO4 := Lib.hid (hO.out.past hg4 (by omega))
              have HB4 : Hid (Below w.heap.size w w4) := hB.out.grown hg4 hB.out.size (fun k e => by injection e with e; omega)
              have hl4 := uB_len c2
              have CT := Lib.hid (ftext_any g 48 (uB c2) (uX c2) w4 hr4 (Sane.u c2) (by omega) (by omega))
              obtain ⟨u, hu⟩ : ∃ x, nv c2 = x := ⟨_, rfl⟩
              rw [hu]
              have HU : Hid (stU c2 = u) := hu
              obtain ⟨gb, hgb⟩ : ∃ x, ((u : Int) == 1) = x := ⟨_, rfl⟩
              have HGB : Hid ((u == 1) = gb) := by
                rw [← hgb]
                unfold Hid
                cases h : (u == 1) with
                | true => have := of_decide_eq_true h; rw [this]; rfl
                | false => have := of_decide_eq_false h; symm; simp; omega
              clear CU hr4 hg4 hO hR hB hu
              go_wp2_with fail
              refine CT.out.mono ?_
              rintro e w5 ⟨rfl, hr5, hg5⟩
              have hz5 := Nat.le_trans hz4 hg5.size
              have HO5 := Lib.hid (HO4.out.past hg5 (by omega))
              have HB5 : Hid (Below w.heap.size w w5) := HB4.out.grown hg5 HB4.out.size (fun k e => by injection e with e; omega)
              have hl5 := txB_len 48 (uB c2)
              obtain ⟨pk, hpk⟩ : ∃ x, txV 48 (uB c2) = x := ⟨_, rfl⟩
              have HPK : Hid (stK 48 c2 = pk) := hpk
              rw [hpk]
              have hba : Below w5.heap.size w5 (w5.alloc (.cells #[.string ⟨pk.toArray⟩, .string ⟨#[]⟩, .bool gb] 29)) := (Below.refl _ _).alloc (Nat.le_refl _) _
              have hr6 := hr5.below hba (by omega)
              have CV := Lib.hid (ftext_any g 160 (txB 48 (uB c2)) (txX 48 (uB c2)) _ hr6 (Sane.tx 48 (uB c2)) (by omega) (by omega))
              have HO6 := Lib.hid (HO5.out.alloc (.cells #[.string ⟨pk.toArray⟩, .string ⟨#[]⟩, .bool gb] 29))
              have HB6 := Lib.hid (HB5.out.trans (hba.mono HB5.out.size))
              have hz6 := Nat.le_trans hz5 hba.size
              have hrow := heap_alloc_new w5 (.cells #[.string ⟨pk.toArray⟩, .string ⟨#[]⟩, .bool gb] 29)
              have hpl : w5.heap.size < (w5.alloc (.cells #[.string ⟨pk.toArray⟩, .string ⟨#[]⟩, .bool gb] 29)).heap.size := by simp
              have HROW := Lib.hid hrow
              clear CT hr5 hg5 HO4 HB4 HB5 hpk hba hr6 hrow
              go_wp2_with fail
              generalize w5.alloc (.cells #[.string ⟨pk.toArray⟩, .string ⟨#[]⟩, .bool gb] 29) = w6 at *
              obtain ⟨pb, hpb⟩ : ∃ x, w5.heap.size = x := ⟨_, rfl⟩
              rw [hpb] at HROW hpl ⊢
              have hpg : g < pb := by omega
              have HNE : Hid ((Value.slice A9 L.length c9).ownBlock ≠ some pb) := fun e => by have := (World.ownsRow.lt HO5.out _ e).2; omega
              clear hpb HO5
              refine CV.out.mono ?_
              rintro e w7 ⟨rfl, hr7, hg7⟩
              have hr7 : Rf w7 g (stB 48 160 c2) (stX 48 160 c2) := hr7
              have hz7 := Nat.le_trans hz6 hg7.size
              have HO7 := Lib.hid (HO6.out.past hg7 (by omega))
              have HB7 : Hid (Below w.heap.size w w7) := HB6.out.grown hg7 HB6.out.size (fun k e => by injection e with e; omega)
              have hrow7 : w7.heap[pb]? = some (.cells #[.string ⟨pk.toArray⟩, .string ⟨#[]⟩, .bool gb] 29) := (hg7.block pb hpl (fun e => by injection e with e; omega)).trans HROW.out
              have hpl7 : pb < w7.heap.size := Nat.lt_of_lt_of_le hpl hg7.size
              obtain ⟨pv, hpv⟩ : ∃ x, txV 160 (txB 48 (uB c2)) = x := ⟨_, rfl⟩
              have HPV : Hid (stV 48 160 c2 = pv) := hpv
              rw [hpv]
              have z1 := cell_of_row _ _ 1 _ _ _ hrow7
              have f1 : w7.frozen? ⟨pb, 1, none⟩ = false := by simp only [World.frozen?, hrow7]; rfl
              have hg8 := set_grown w7 pb 1 (.string ⟨pv.toArray⟩)
              have HR8 := Lib.hid (hr7.far hg8 (by omega))
              have HO8 : Hid (OwnTb (w7.setCell ⟨pb, 1, none⟩ (.string ⟨pv.toArray⟩)) (g + 1) (.slice A9 L.length c9) L) := World.ownsRow.kept HO7.out hg8 (.inr HNE.out)
              have HB8 : Hid (Below w.heap.size w (w7.setCell ⟨pb, 1, none⟩ (.string ⟨pv.toArray⟩))) := HB7.out.grown hg8 HB7.out.size (fun k e => by injection e with e; omega)
              have hz8 := Nat.le_trans hz7 hg8.size
              have HROW8 : Hid ((w7.setCell ⟨pb, 1, none⟩ (.string ⟨pv.toArray⟩)).heap[pb]? = some (.cells #[.string ⟨pk.toArray⟩, .string ⟨pv.toArray⟩, .bool gb] 29)) := by
                unfold Hid
                simp [World.setCell, Array.getElem?_modify, hrow7]
              have hl8 : (stB 48 160 c2).length ≤ 1048576 := Nat.le_trans (txB_len 160 (txB 48 (uB c2))) (by omega)
              have hlq : Q.length < nv s := by rw [HNV.out]; omega
              have HP : Hid (toW ⟨stU c2, stK 48 c2, stV 48 160 c2⟩ = ⟨pk, pv, gb⟩) := by
                unfold Hid toW
                dsimp only
                rw [HU.out, HPK.out, HPV.out, HGB.out]
              have HG8 : Hid (Neat ⟨stU c2, stK 48 c2, stV 48 160 c2⟩ → stX 48 160 c2 = false → uX s = false ∧ ∃ Q, Q.map toW = L ++ [⟨pk, pv, gb⟩] ∧ MidQ s Q (stB 48 160 c2) ∧ ∀ e ∈ Q, Neat e) := fun hne hx => ⟨HUX.out, Q ++ [⟨stU c2, stK 48 c2, stV 48 160 c2⟩], by rw [List.map_append, List.map_cons, List.map_nil, HP.out, HQL.out], HM.out.step HUX.out hx, fun e he => by
                rcases List.mem_append.1 he with he | he
                · exact HNEAT.out e he
                · rw [List.mem_singleton.1 he]; exact hne⟩
              have HX8 : Hid (stX 48 160 c2 = true → ∀ T, ¬ IsT s T) := fun hx => no_raw (HM.out.none_bad HUX.out hlq hx)
              have HE8 : Hid (¬ Neat ⟨stU c2, stK 48 c2, stV 48 160 c2⟩ → ∀ T, ¬ IsB b T) := fun hne => no_form (by omega) HSP.out (HM.out.early HUX.out hlq hne)
              have HND : Hid (Neat ⟨stU c2, stK 48 c2, stV 48 160 c2⟩ ↔ u ≤ 1 ∧ (u = 1 → pv = [])) := by
                unfold Hid Neat
                dsimp only
                rw [HU.out, HPV.out]
              have hways : 1 < u ∨ (¬ 1 < u ∧ u = 1 ∧ pv ≠ []) ∨ (¬ 1 < u ∧ u = 1 ∧ pv = []) ∨ (¬ 1 < u ∧ u = 0) := by
                by_cases h1 : 1 < u
                · exact .inl h1
                · by_cases h2 : u = 1
                  · by_cases h3 : pv = []
                    · exact .inr (.inr (.inl ⟨h1, h2, h3⟩))
                    · exact .inr (.inl ⟨h1, h2, h3⟩)
                  · exact .inr (.inr (.inr ⟨h1, by omega⟩))
              have c0 := cell_of_row _ _ 0 _ _ _ HROW8.out
              have c1 := cell_of_row _ _ 1 _ _ _ HROW8.out
              have c2' := cell_of_row _ _ 2 _ _ _ HROW8.out
              have HO8 : Hid (OwnTb (w7.setCell ⟨pb, 1, none⟩ (.string ⟨pv.toArray⟩)) (g + 1) (.slice A9 k c9) L) := by have := HO8.out; rw [HKL.out] at this; exact this
              have hk8 : k ≤ 1048576 := by omega
              clear CV hg7 hr7 hrow7 hg8 hpv HPV HPK HP HO7 HB7 HO6 HB6 hlq hml hql HU HGB
              rcases hways with h1 | ⟨h1, rfl, h3⟩ | ⟨h1, rfl, rfl⟩ | ⟨h1, rfl⟩
              · have hgt : (1 : Int) < (u : Int) := by omega
                have HNO := Lib.hid (HE8.out (fun h => by have := (HND.out.1 h).1; omega))
                clear HM HQL HNEAT HO8 HR8 HROW8 HG8 HX8 HE8 HND
                go_wp2_with fail
                go_ret2
                exact ⟨_, _, rfl, HB8.out, .inr ⟨rfl, HNO.out⟩⟩
              · obtain rfl : true = gb := hgb
                have HNO := Lib.hid (HE8.out (fun h => h3 ((HND.out.1 h).2 rfl)))
                obtain ⟨x, r, rfl⟩ : ∃ x r, pv = x :: r := by
                  cases pv with
                  | nil => exact absurd rfl h3
                  | cons x r => exact ⟨x, r, rfl⟩
                clear h1 h3
                clear HM HQL HNEAT HO8 HR8 HROW8 HG8 HX8 HE8 HND
                go_wp2_with fail
                go_ret2
                exact ⟨_, _, rfl, HB8.out, .inr ⟨rfl, HNO.out⟩⟩
              · obtain rfl : true = gb := hgb
                replace HG8 := Lib.hid (HG8.out (HND.out.2 ⟨by omega, fun _ => rfl⟩))
                clear h1 HND HE8 HM HQL HNEAT
                go_wp2_with (at_builtin; refine wp_append_new rfl _ _ rfl (⟨pk, [], true⟩ : Wr) rfl HO8.out hz8 (by rw [World.size_setCell]; rfl) (by have := HKL.out; omega) ?_
                             intro v9 w9 ho9 hb9 _ hz9
                             obtain ⟨A10, c10, e10, _, _⟩ := ho9.tbIn.len
                             subst e10
                             have HO9 := Lib.hid ho9
                             have HB9 := Lib.hid (HB8.out.trans (hb9.mono (by omega)))
                             have HR9 := Lib.hid (HR8.out.below hb9 (by omega))
                             clear ho9 hb9)
                go_roundw
                case rel => exact ⟨L ++ [(⟨pk, [], true⟩ : Wr)], stB 48 160 c2, stX 48 160 c2, by have := HKL.out; rw [List.length_append]; simp; omega, by have := HKL.out; rw [List.length_append]; simp; omega, (by have := HO9.out; rw [List.length_append] at this; exact this), HR9.out, Sane.tx 160 (txB 48 (uB c2)), hl8, HG8.out, HX8.out, HB9.out, by omega⟩
                case measure =>
                  have := HKL.out
                  simp [lenS]
                  omega
              · obtain rfl : false = gb := hgb
                replace HG8 := Lib.hid (HG8.out (HND.out.2 ⟨by omega, fun h => by cases h⟩))
                clear h1 HND HE8 HM HQL HNEAT
                go_wp2_with (at_builtin; refine wp_append_new rfl _ _ rfl (⟨pk, pv, false⟩ : Wr) rfl HO8.out hz8 (by rw [World.size_setCell]; rfl) (by have := HKL.out; omega) ?_
                             intro v9 w9 ho9 hb9 _ hz9
                             obtain ⟨A10, c10, e10, _, _⟩ := ho9.tbIn.len
                             subst e10
                             have HO9 := Lib.hid ho9
                             have HB9 := Lib.hid (HB8.out.trans (hb9.mono (by omega)))
                             have HR9 := Lib.hid (HR8.out.below hb9 (by omega))
                             clear ho9 hb9)
                go_roundw
                case rel => exact ⟨L ++ [(⟨pk, pv, false⟩ : Wr)], stB 48 160 c2, stX 48 160 c2, by have := HKL.out; rw [List.length_append]; simp; omega, by have := HKL.out; rw [List.length_append]; simp; omega, (by have := HO9.out; rw [List.length_append] at this; exact this), HR9.out, Sane.tx 160 (txB 48 (uB c2)), hl8, HG8.out, HX8.out, HB9.out, by omega⟩
                case measure =>
                  have := HKL.out
                  simp [lenS]
                  omega
          case neg =>
            have hkn : n = k := by omega
            subst hkn
            cases bd
            case true =>
              have HNO := Lib.hid (no_form (by omega) HSP.out (hbad.out rfl))
              clear hgood hbad hO hR hSn
              go_wp2_with fail
              refine CE.out.mono ?_
              rintro e w4 ⟨rfl, rfl⟩
              go_wp2_with fail
              go_ret2
              exact ⟨_, _, rfl, hB.out, .inr ⟨rfl, HNO.out⟩⟩
            case false =>
              obtain ⟨hux, Q, hQL, hM, hNeat⟩ := hgood.out rfl
              have hql : Q.length = nv s := by rw [HNV.out, ← HKL.out, ← hQL, List.length_map]
              cases c2 with
              | cons x r =>
                have HNO := Lib.hid (no_form (by omega) HSP.out (no_raw (hM.none_more hux hql (fun h => by cases h))))
                clear hgood hbad hO hR hSn hux hQL hM hNeat hql
                go_wp2_with fail
                refine CE.out.mono ?_
                rintro e w4 ⟨rfl, rfl⟩
                go_wp2_with fail
                go_ret2
                exact ⟨_, _, rfl, hB.out, .inr ⟨rfl, HNO.out⟩⟩
              | nil =>
                have hIS := hM.isT hux hql hNeat
                have hI2 := hM.isT2 hux hql hNeat
                rw [hQL] at hIS hI2
                have HIS := Lib.hid hIS
                have HI2 := Lib.hid hI2
                have CO := Lib.hid (rof_any _ L wr hO.out.tbIn (by have := HKL.out; omega))
                have HT := Lib.hid hO.out.tbIn
                clear hgood hbad hO hR hSn hux hQL hM hNeat hql hIS hI2
                go_wp2_with fail
                refine CE.out.mono ?_
                rintro e w4 ⟨rfl, rfl⟩
                clear CE
                have hkL := HKL.out
                rw [hkL] at CO
                clear hkL
                go_wp2_with fail
                refine CO.out.mono ?_
                rintro e w5 ⟨v5, rfl, ho5, hb5⟩
                have HB5 := Lib.hid (hB.out.trans (hb5.mono hB.out.size))
                have HT5 := Lib.hid (HT.out.up hb5)
                have HO5 := Lib.hid ho5.tbIn
                have CS := Lib.hid (same10_any v5 _ (ofW L) L w5 HO5.out HT5.out)
                rw [HKL.out] at CS
                clear CO hb5 ho5 hB HT
                go_wp2_with fail
                refine CS.out.mono ?_
                rintro e w6 ⟨sm, rfl, hs6, hb6⟩
                have HB6 := Lib.hid (HB5.out.trans (hb6.mono HB5.out.size))
                have HT6 := Lib.hid (HT5.out.up hb6)
                have HS6 := Lib.hid hs6
                clear CS hb6 HB5 HT5 hs6 HO5
                cases sm
                case true =>
                  have HI : Hid (IsB b L) := ⟨_, _, HSP.out, HZ.out, HI2.out (HS6.out.1 rfl)⟩
                  go_wp2_with fail
                  go_ret2
                  exact ⟨_, _, rfl, HB6.out, .inl ⟨rfl, L, HI.out, by have := HT6.out; rw [HKL.out] at this; exact this, by have := HKL.out; omega⟩⟩
                case false =>
                  have HNO := Lib.hid (no_form (by omega) HSP.out (fun T hT => by have := HS6.out.2 (HIS.out.1 ⟨T, hT⟩); cases this))
                  go_wp2_with fail
                  go_ret2
                  exact ⟨_, _, rfl, HB6.out, .inr ⟨rfl, HNO.out⟩⟩

end Go.Proofs.Ytcliknmcefcaeaa.Cd
