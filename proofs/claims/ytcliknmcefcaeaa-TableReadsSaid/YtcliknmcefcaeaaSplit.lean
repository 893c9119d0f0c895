/-
  frame.Split. Conditions: none.
-/
import Derived.Test.YtcliknmcefcaeaaStrs
import Derived.Test.YtcliknmcefcaeaaFirst
namespace Go.Proofs.Ytcliknmcefcaeaa.Cd
open Go.RowKit

/-- What Split answers. -/
def SplitIs (w : World) (bs : List UInt8) (e : Ending) (w' : World) : Prop :=
  ∃ u ds cur, Splits bs ds cur ∧ e = .returned (.tuple #[u, .int .i64 ((flat ds).length : Nat)]) ∧ OwnS w' w.heap.size u ds ∧ Below w.heap.size w w'

/-- What is left of a slice reads as what is left of the bytes. -/
theorem sl_rest {w : World} {B : Nat} {A : Option Addr} {c : Nat} {bs : List UInt8} (h : Sl w B (.slice A bs.length c) bs) (n : Nat) (hn : n ≤ bs.length) (C : Option Addr) (hC : c ≠ n → C = A.map (·.add n)) (hC2 : c = n → C = A) :
    Sl w B (.slice C (bs.length - n) (c - n)) (bs.drop n) := by
  obtain ⟨A', c', e, h2, h3, h4, h5, h6⟩ := h
  injection e with e1 _ e3
  subst e1 e3
  refine ⟨C, c - n, by rw [List.length_drop], by rw [List.length_drop]; omega, by omega, fun hnone => ?_, fun ad e h0 => ?_, fun ad e j u hu => ?_⟩
  · by_cases hcn : c = n
    · omega
    · have := hC hcn
      rw [hnone] at this
      have hA : A = none := by cases A with
        | none => rfl
        | some _ => cases this
      have := h4 hA
      omega
  · rw [List.length_drop] at h0
    have hcn : c ≠ n := by omega
    have := hC hcn
    rw [e] at this
    cases A with
    | none => cases this
    | some a =>
      injection this with this
      rw [this, block_of_add]
      exact h5 a rfl (by omega)
  · have hj := (List.getElem?_eq_some_iff.1 hu).1
    rw [vb_length, List.length_drop] at hj
    have hcn : c ≠ n := by omega
    have := hC hcn
    rw [e] at this
    cases A with
    | none => cases this
    | some a =>
      injection this with this
      have hu2 : (vb bs)[n + j]? = some u := by
        rw [← hu]
        simp only [vb, List.map_drop, List.getElem?_drop]
      have h7 := h6 a rfl (n + j) u hu2
      rw [this, Go.Deep.add_add]
      exact h7

set_option maxRecDepth 100000 in
set_option maxHeartbeats 1600000 in
theorem split_any (v : Value) (bs : List UInt8) (w : World) (h : Sl w w.heap.size v bs) (hb : bs.length ≤ 1048576) :
    Calls Try.prog 46 #[v] w (SplitIs w bs) := by
  obtain ⟨A, c, rfl, h2, h3⟩ := h.len
  have h3 : c ≤ 9223372036854775807 := h3
  have H := Lib.hid h
  clear h
  go_enter Try.func46, Try.ntmps46
  go_wp2_with fail
  refine (read_any _ bs w H.out).mono ?_
  rintro e w1 ⟨rfl, hr1, hb1⟩
  have HR1 := Lib.hid hr1
  have hlt1 := hr1.lt
  clear hr1
  go_wp2_with fail
  go_loopw [4, 5] (fun o t wr => ∃ ds cur, Hid (bs = flat ds ++ cur) ∧ t = .int .i64 ((flat ds).length : Nat) ∧ Hid (OwnS wr (w.heap.size + 1) o ds) ∧ Hid (Rd wr w.heap.size cur false) ∧ Below w.heap.size w wr) (fun _ t _ => bs.length - (intOf t).toNat)
  case atStart => exact ⟨[], bs, rfl, rfl, OwnS.nil _ _, HR1.out, hb1⟩
  case round =>
    obtain ⟨ds, cur, he, rfl, ho, hr, hbel⟩ := hrel
    have hsz := hbel.size
    have hlen : (flat ds).length + cur.length = bs.length := by have := congrArg List.length he.out; rw [List.length_append] at this; omega
    have hdrop : Hid (bs.drop (flat ds).length = cur) := by unfold Hid; rw [he.out, List.drop_left]
    have hds := flat_ge ds
    generalize hn : (flat ds).length = n at *
    have HN := Lib.hid hn
    clear hn
    by_cases hcn : c = n
    · have hsl := sl_rest (H.out.below hbel) n (by omega) A (fun hq => absurd hcn hq) (fun _ => rfl)
      subst hcn
      rw [hdrop.out, Nat.sub_self, show bs.length - c = 0 by omega] at hsl
      have hf := Lib.hid (first_at _ cur wr w.heap.size hr.out hsl (by omega))
      clear hsl
      go_wp2_with fail
      refine hf.out.mono ?_
      rintro e w2 ⟨⟨x, hx, rfl, hr2⟩ | ⟨hno, rfl⟩, hg⟩
      · exfalso
        have := hx.length_le
        have := frm_ge x
        omega
      · have HB := Lib.hid (below_grown hbel hg hsz (Nat.le_refl _))
        have HNO := Lib.hid hno
        have HO := Lib.hid ((OwnS.far ho.out hg (Nat.lt_succ_self _)).lower (Nat.le_succ _))
        clear hno hg
        go_wp2_with fail
        go_ret2
        exact ⟨_, ds, cur, ⟨he.out, HNO.out⟩, by rw [HN.out]; rfl, HO.out, HB.out⟩
    · have hsl := sl_rest (H.out.below hbel) n (by omega) (A.map (fun x => x.add n)) (fun _ => rfl) (fun hq => absurd hq hcn)
      rw [hdrop.out] at hsl
      have hf := Lib.hid (first_at _ cur wr w.heap.size hr.out hsl (by omega))
      clear hsl
      go_wp2_with fail
      refine hf.out.mono ?_
      rintro e w2 ⟨⟨x, hx, rfl, hr2⟩ | ⟨hno, rfl⟩, hg⟩
      · have hxl := hx.length_le
        have hge := frm_ge x
        have HO := Lib.hid (OwnS.far ho.out hg (Nat.lt_succ_self _))
        have hs2 := hg.size
        have HB := Lib.hid (below_grown hbel hg hsz (Nat.le_refl _))
        have HR2 := Lib.hid hr2
        have hz : (((frm x).length : Int) == 0) = false := by rw [beq_eq_false_iff_ne]; omega
        have HF : Hid ((flat (ds ++ [x])).length = n + (frm x).length) := by unfold Hid; rw [flat_append, flat_one, List.length_append, HN.out]
        have HE : Hid (bs = flat (ds ++ [x]) ++ cur.drop (frm x).length) := by
          unfold Hid
          obtain ⟨t, ht⟩ := hx
          rw [flat_append, flat_one, List.append_assoc, ← ht, List.drop_left, ht]
          exact he.out
        clear hx hr2 hg
        generalize (frm x).length = m at *
        go_wp2_with (at_builtin; refine wp_append_strs rfl _ _ rfl (w.heap.size + 1) _ ds rfl ?ho ?hB _ (w2.heap.size + 1) [x] rfl ?hn ?hm ?hK)
        case ho => exact HO.out.alloc _
        case hB => simp; omega
        case hn => exact strs_one _ _ _
        case hm => simp; omega
        case hK =>
          intro v3 w3 ho3 hb3
          go_wp2_with fail
          go_roundw
          case rel => exact ⟨ds ++ [x], cur.drop m, HE.out, by rw [HF.out]; go_num, ho3, (HR2.out.below ((Below.refl _ _).alloc (Nat.le_refl _) _) HR2.out.lt).below hb3 (Nat.lt_succ_self _), (HB.out.alloc (by omega) _).trans (hb3.mono (by omega))⟩
          case measure => simp [intOf]; omega
      · have HB := Lib.hid (below_grown hbel hg hsz (Nat.le_refl _))
        have HNO := Lib.hid hno
        have HO := Lib.hid ((OwnS.far ho.out hg (Nat.lt_succ_self _)).lower (Nat.le_succ _))
        clear hno hg
        go_wp2_with fail
        go_ret2
        exact ⟨_, ds, cur, ⟨he.out, HNO.out⟩, by rw [HN.out]; rfl, HO.out, HB.out⟩

end Go.Proofs.Ytcliknmcefcaeaa.Cd
