/-
  The document's Same of pairs. Conditions: none.
-/
import Derived.Test.YtabogconbjdcgaaObPars
import Derived.Test.YtabogconbjdcgaaObTop
import Derived.ChangeKeysEq
import Derived.Lib.Hide
import Derived.BigQuiet
import Derived.Laws.StructEq
import Derived.Deep.QuietTactic
namespace Go.Proofs.Ytabogconbjdcgaa.Cd
open Go.RowKit

def ppV (p : Bp) : Value := .agg #[.string ⟨p.1.toArray⟩, .string ⟨p.2.toArray⟩]
def eqPp (p q : Bp) : Bool := p.1 == q.1 && p.2 == q.2
theorem eqPp_iff (p q : Bp) : eqPp p q = true ↔ p = q := by
  unfold eqPp
  rw [Bool.and_eq_true, beq_iff_eq, beq_iff_eq]
  exact ⟨fun h => Prod.ext h.1 h.2, fun h => by rw [h]; exact ⟨rfl, rfl⟩⟩
theorem fields_pp : Try.prog.underlying 56 = some (.struct (Try.prog.fieldsOf 56)) := by kernel_rfl
theorem held_pp : Try.prog.stoodInHeld 56 = false := by kernel_rfl
theorem guard_pp : Try.prog.eqGuardType Try.prog.depth 56 = false := by kernel_rfl
theorem equal_pp (p q : Bp) (W : World) : (Op.equalIn 10000 56 (ppV p) (ppV q)).run Try.prog W = .ok (eqPp p q) W := by
  unfold ppV
  rw [run_equalIn_struct W 9999 _ _ _ fields_pp held_pp]
  simp [Program.fieldsOf, Try.underlying56, Op.eqFields, go_sem]
  unfold eqPp
  by_cases h1 : p.1 = q.1
  · by_cases h2 : p.2 = q.2
    · simp [h1, h2]
    · simp [h1, h2]
  · simp [h1]
theorem neq_pp (p q : Bp) (W : World) : (binOp .neq 56 (.agg #[.string ⟨p.1.toArray⟩, .string ⟨p.2.toArray⟩]) (.agg #[.string ⟨q.1.toArray⟩, .string ⟨q.2.toArray⟩])).run Try.prog W = .ok (.bool (!eqPp p q)) W := by
  have h := equal_pp p q W
  unfold ppV at h
  rw [run_neq_struct, h]
  rfl

set_option maxRecDepth 100000 in
set_option maxHeartbeats 3200000 in
theorem same8_any (u v : Value) (a b : List Bp) (w : World) (hu : PsIn w w.heap.size u a) (hv : PsIn w w.heap.size v b) :
    Calls Try.prog 41 #[u, v] w fun e w' => ∃ s : Bool, e = .returned (.bool s) ∧ (s = true ↔ a = b) ∧ Below w.heap.size w w' := by
  obtain ⟨A, c, rfl, ha1, ha2⟩ := hu.len
  obtain ⟨A2, c2, rfl, hb1, hb2⟩ := hv.len
  have HU := Lib.hid hu
  have HV := Lib.hid hv
  clear hu hv
  by_cases hl : a.length = b.length
  · have HLB := Lib.hid hl
    rw [← hl] at hb1 HV ⊢
    clear hl
    go_enter Try.func41, Try.ntmps41
    go_wp2_with fail
    go_loopw [5, 13] (fun _ i wr => ∃ k : Nat, i = .int .i64 k ∧ k ≤ a.length ∧ Hid (a.take k = b.take k) ∧ Hid (Below w.heap.size w wr)) (fun _ i _ => a.length - (intOf i).toNat)
    case atStart => exact ⟨0, rfl, by omega, rfl, Below.refl _ _⟩
    case round =>
      obtain ⟨k, rfl, hk, hst, hb⟩ := hrel
      by_cases hlt : k < a.length
      · obtain ⟨p, hpk⟩ : ∃ p, a[k]? = some p := ⟨a[k], List.getElem?_eq_getElem hlt⟩
        obtain ⟨q, hqk⟩ : ∃ q, b[k]? = some q := ⟨b[k]'(by rw [← HLB.out]; exact hlt), List.getElem?_eq_getElem (by rw [← HLB.out]; exact hlt)⟩
        obtain ⟨b2, off2, e2, hB2, d0, d1⟩ := PsIn.at2 (HU.out.below hb.out) hpk
        obtain ⟨b3, off3, e3, hB3, f0, f1⟩ := PsIn.at2 (HV.out.below hb.out) hqk
        subst e2 e3
        have hd : Hid (∀ n, Below w.heap.size w (wr.drewN n)) := fun n => hb.out.trans ⟨rfl, rfl, rfl, Nat.le_refl _, fun _ _ => rfl⟩
        have HP := Lib.hid hpk
        have HQ := Lib.hid hqk
        clear hpk hqk
        have hne := neq_pp p q
        have hgd := guard_pp
        obtain ⟨s, hs⟩ : ∃ s, eqPp p q = s := ⟨_, rfl⟩
        rw [hs] at hne
        have HS : Hid (s = true ↔ p = q) := by rw [← hs]; exact eqPp_iff p q
        clear hs
        cases s
        · have hno : Hid (a ≠ b) := fun e => by
            have h1 := HP.out
            rw [e, HQ.out] at h1
            injection h1 with h1
            exact absurd (HS.out.2 h1.symm) (by simp)
          go_wp2_with fail
          go_quiet (fail)
          all_goals go_wp2_with fail
          all_goals go_ret
          exact ⟨false, rfl, ⟨(fun h => by cases h), fun h => absurd h hno.out⟩, hd.out _⟩
        · have hst2 : Hid (a.take (k + 1) = b.take (k + 1)) := by
            obtain ⟨h1, rfl⟩ := List.getElem?_eq_some_iff.1 HP.out
            obtain ⟨h2, h3⟩ := List.getElem?_eq_some_iff.1 HQ.out
            unfold Hid
            rw [List.take_succ_eq_append_getElem h1, List.take_succ_eq_append_getElem h2, hst.out, h3, HS.out.1 rfl]
          go_wp2_with fail
          go_quiet (fail)
          all_goals go_wp2_with fail
          all_goals go_roundw
          case rel => exact ⟨k + 1, by go_num, by omega, hst2, hd.out _⟩
          case measure => simp [intOf]; omega
      · have he : Hid (a = b) := by
          have := hst.out
          rwa [List.take_of_length_le (by omega), List.take_of_length_le (by rw [← HLB.out]; omega)] at this
        go_wp2_with fail
        go_ret
        exact ⟨true, rfl, ⟨fun _ => he.out, fun _ => rfl⟩, hb.out⟩
  · have hl' : (a.length : Int) ≠ b.length := by omega
    go_enter Try.func41, Try.ntmps41
    go_wp2_with fail
    go_ret
    exact ⟨false, rfl, ⟨(fun h => by cases h), fun h => absurd (congrArg List.length h) hl⟩, Below.refl _ _⟩

/-! ### Kids -/

theorem part_key (p : Kd) (w : World) : (part 9 (kkC p).toArray 0).run Try.prog w = .ok (.string ⟨p.1.toArray⟩) w := by
  simp [part, isAgg, run_underlying Try.underlying9, kkC]
theorem part_id (p : Kd) (w : World) : (part 41 (kkC p).toArray 1).run Try.prog w = .ok (idV p.2.1) w := by
  have hs : (Try.prog.info? 41).map (·.size) = some 33 := cells_id
  have hl : (vb p.2.1).length = 33 := by rw [vb_length, p.2.2]
  have ht : List.take 33 (vb p.2.1) = vb p.2.1 := List.take_of_length_le (by omega)
  cases hq : Try.prog.info? 41 with
  | none => simp [hq] at hs
  | some i =>
    have hs2 : i.size = 33 := by simpa [hq] using hs
    simp [part, isAgg, run_underlying Try.underlying41, sizeOf, typeInfo, hq, hs2, kkC, ht, idV]

theorem fields_kk : (Try.prog.fieldsOf 59).toList.map (fun f => (f.name == "_", f.type, f.offset)) = [(false, 9, 0), (false, 41, 1)] := by kernel_rfl
theorem equal_id_at (d : Nat) (x y : List UInt8) (hx : x.length = 33) (hy : y.length = 33) (w : World) : (Op.equalIn (d + 4) 41 (idV x) (idV y)).run Try.prog w = .ok (x == y) w := by
  unfold idV
  rw [run_equalIn_struct w (d + 3) 41 _ _ (by kernel_rfl) (by kernel_rfl)]
  have hf := fields_id
  generalize (Try.prog.fieldsOf 41).toList = fs at hf
  obtain ⟨f, g, rfl⟩ : ∃ f g, fs = [f, g] := by
    have hl : fs.length = 2 := by simpa using congrArg List.length hf
    match fs, hl with
    | [f, g], _ => exact ⟨f, g, rfl⟩
  simp only [List.map_cons, List.map_nil, List.cons.injEq, Prod.mk.injEq, and_true, beq_eq_false_iff_ne] at hf
  obtain ⟨⟨f1, f2, f3⟩, g1, g2, g3⟩ := hf
  have e := run_equalIn_int (P := Try.prog) w (d + 2) 5 .u8 _ ((x[0]).toNat : Int) ((y[0]).toNat : Int) Try.underlying5
  have e2 := equal_sum (d + 1) (x.drop 1) (y.drop 1) (by simp [hx]) (by simp [hy]) w
  have hb : (((x[0]).toNat : Int) == ((y[0]).toNat : Int)) = (x[0] == y[0]) := by
    rw [Bool.eq_iff_iff]
    simp only [beq_iff_eq, ← UInt8.toNat_inj]
    omega
  have hxy : (x == y) = (x[0] == y[0] && x.drop 1 == y.drop 1) := by
    obtain ⟨a, x, rfl⟩ := List.exists_cons_of_length_pos (l := x) (by omega)
    obtain ⟨b, y, rfl⟩ := List.exists_cons_of_length_pos (l := y) (by omega)
    rfl
  rw [hb] at e
  rw [hxy]
  simp only [Op.eqFields, f1, f2, f3, g1, g2, g3, ne_eq, not_false_eq_true, if_true, Sem.run_bind, ipart_byte x 0 (by omega), ipart_byte y 0 (by omega), Result.andThen_ok, e]
  cases x[0] == y[0]
  · simp
  · simp only [Bool.not_true, Bool.false_eq_true, if_false, Sem.run_bind, part_sum x hx, part_sum y hy, Result.andThen_ok, e2]
    cases x.drop 1 == y.drop 1 <;> simp

theorem equal_kk (p q : Kd) (w : World) : (Op.equalIn 10000 59 (.agg (kkC p).toArray) (.agg (kkC q).toArray)).run Try.prog w = .ok (p.1 == q.1 && p.2.1 == q.2.1) w := by
  rw [run_equalIn_struct w 9999 59 _ _ (by kernel_rfl) (by kernel_rfl)]
  have hf := fields_kk
  generalize (Try.prog.fieldsOf 59).toList = fs at hf
  obtain ⟨f, g, rfl⟩ : ∃ f g, fs = [f, g] := by
    have hl : fs.length = 2 := by simpa using congrArg List.length hf
    match fs, hl with
    | [f, g], _ => exact ⟨f, g, rfl⟩
  simp only [List.map_cons, List.map_nil, List.cons.injEq, Prod.mk.injEq, and_true, beq_eq_false_iff_ne] at hf
  obtain ⟨⟨f1, f2, f3⟩, g1, g2, g3⟩ := hf
  have e := run_equalIn_string (P := Try.prog) w 9998 9 (⟨p.1.toArray⟩ : ByteArray) ⟨q.1.toArray⟩ Try.underlying9
  have e2 := equal_id_at 9995 p.2.1 q.2.1 p.2.2 q.2.2 w
  have hb : ((⟨p.1.toArray⟩ : ByteArray).toList == (⟨q.1.toArray⟩ : ByteArray).toList) = (p.1 == q.1) := by
    by_cases h : p.1 = q.1
    · simp [h]
    · simp [h, go_sem]
  rw [hb] at e
  simp only [Op.eqFields, f1, f2, f3, g1, g2, g3, ne_eq, not_false_eq_true, if_true, Sem.run_bind, part_key, Result.andThen_ok, e]
  cases p.1 == q.1
  · simp
  · simp only [Bool.not_true, Bool.false_eq_true, if_false, Sem.run_bind, part_id, Result.andThen_ok, e2]
    cases p.2.1 == q.2.1 <;> simp
def eqKk (p q : Kd) : Bool := p.1 == q.1 && p.2.1 == q.2.1
theorem eqKk_iff (p q : Kd) : eqKk p q = true ↔ p = q := by
  unfold eqKk
  rw [Bool.and_eq_true, beq_iff_eq, beq_iff_eq]
  exact ⟨fun h => Prod.ext h.1 (Subtype.ext h.2), fun h => by rw [h]; exact ⟨rfl, rfl⟩⟩
theorem eqGuard_kk (op : BinOp) (p q : Operand) (x y : Kd) (w : World) : (eqGuard op 59 p q (.agg (kkC x).toArray) (.agg (kkC y).toArray)).run Try.prog w = .ok () w := run_eqGuard_agg w op _ p q _ _ (by kernel_rfl)
theorem neq_kk (p q : Kd) (w : World) : (binOp .neq 59 (.agg (kkC p).toArray) (.agg (kkC q).toArray)).run Try.prog w = .ok (.bool (!eqKk p q)) w := by
  rw [run_neq_struct, equal_kk]
  rfl

end Go.Proofs.Ytabogconbjdcgaa.Cd
