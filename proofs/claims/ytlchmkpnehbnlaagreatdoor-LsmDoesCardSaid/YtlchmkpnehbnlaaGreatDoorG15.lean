/-
  Two rows of texts of the call's own, side by side: one grows, the other stays. Conditions: none.
-/
import Derived.Test.YtlchmkpnehbnlaaGreatDoorG3
import Derived.Deep.Strs
import Derived.RegionTactic
import Derived.ChangeSame
import Derived.OpenShut
import Derived.Laws.Rows
import Derived.SizedLaws
import Derived.LoopTactic
/-
  Slices of strings: how they read, how they grow. Conditions: none.
-/
namespace Go.Proofs.YtlchmkpnehbnlaaGreatDoor.Cd
open Go.RowKit Go.ChangeShapes Go.WideShapes Go.Deep

def vs (l : List (List UInt8)) : List Value := l.map fun s => Value.string ⟨s.toArray⟩
theorem vs_length (l : List (List UInt8)) : (vs l).length = l.length := by simp [vs]
theorem vs_append (a b : List (List UInt8)) : vs (a ++ b) = vs a ++ vs b := by simp [vs]
theorem vs_at (l : List (List UInt8)) (j : Nat) (hj : j < l.length) : (vs l)[j]? = some (.string ⟨l[j].toArray⟩) := by simp [vs, hj]
theorem vs_one (l : List (List UInt8)) : ∀ u ∈ vs l, u.oneCell' = true := by
  intro u hu
  simp only [vs, List.mem_map] at hu
  obtain ⟨b, _, rfl⟩ := hu
  rfl

def Strs (w : World) (B : Nat) (v : Value) (l : List (List UInt8)) : Prop :=
  ∃ A c, v = .slice A l.length c ∧ l.length ≤ c ∧ c ≤ maxLen ∧ (A = none → c = 0) ∧
    (0 < l.length → ∃ b off, A = some ⟨b, off, none⟩ ∧ b < B ∧ ∀ j u, (vs l)[j]? = some u → w.cell? ⟨b, off + j, none⟩ = some u)

theorem Strs.below {w w' : World} {B : Nat} {v : Value} {l : List (List UInt8)} (h : Strs w B v l) (hb : Below B w w') : Strs w' B v l := by
  obtain ⟨A, c, h1, h2, h3, h4, h5⟩ := h
  refine ⟨A, c, h1, h2, h3, h4, fun h0 => ?_⟩
  obtain ⟨b, off, e, hB, hc⟩ := h5 h0
  exact ⟨b, off, e, hB, fun j u hu => (hb.cell (p := ⟨b, off + j, none⟩) hB).trans (hc j u hu)⟩

theorem Strs.len {w : World} {B : Nat} {v : Value} {l : List (List UInt8)} (h : Strs w B v l) : ∃ A c, v = .slice A l.length c ∧ l.length ≤ c ∧ c ≤ maxLen := by
  obtain ⟨A, c, h1, h2, h3, _⟩ := h
  exact ⟨A, c, h1, h2, h3⟩

theorem Strs.at {w : World} {B : Nat} {v : Value} {l : List (List UInt8)} (h : Strs w B v l) (h0 : 0 < l.length) :
    ∃ b off c, v = .slice (some ⟨b, off, none⟩) l.length c ∧ l.length ≤ c ∧ c ≤ maxLen ∧ b < B ∧ ∀ j (hj : j < l.length), w.cell? ⟨b, off + j, none⟩ = some (.string ⟨l[j].toArray⟩) := by
  obtain ⟨A, c, rfl, h2, h3, h4, h5⟩ := h
  obtain ⟨b, off, rfl, hB, hc⟩ := h5 h0
  exact ⟨b, off, c, rfl, h2, h3, hB, fun j hj => hc j _ (vs_at l j hj)⟩

def OwnS (w : World) (B : Nat) (v : Value) (l : List (List UInt8)) : Prop := w.ownsRow B 9 1 v l.length (vs l)

theorem OwnS.nil (w : World) (B : Nat) : OwnS w B (.slice none 0 0) [] := World.ownsRow_nil _ _ _ _
theorem OwnS.alloc {w : World} {B : Nat} {v : Value} {l : List (List UInt8)} (h : OwnS w B v l) (o : Obj) : OwnS (w.alloc o) B v l := World.ownsRow.alloc h o
theorem OwnS.lower {w : World} {B B' : Nat} {v : Value} {l : List (List UInt8)} (h : OwnS w B v l) (hB : B' ≤ B) : OwnS w B' v l := by
  refine ⟨h.1, ?_⟩
  rcases h.2 with h2 | ⟨g, cap, cur, hv, hg, r⟩
  · exact .inl h2
  · exact .inr ⟨g, cap, cur, hv, Nat.le_trans hB hg, r⟩
theorem OwnS.keep {w w' : World} {B : Nat} {v : Value} {l : List (List UInt8)} (h : OwnS w B v l) (hb : Below w.heap.size w w') : OwnS w' B v l := by
  have hlt := h.lt
  refine ⟨h.1, ?_⟩
  rcases h.2 with h2 | ⟨g, cap, cur, rfl, hg, hh, r⟩
  · exact .inl h2
  · exact .inr ⟨g, cap, cur, rfl, hg, (hb.block g (hlt g rfl).2).trans hh, r⟩
theorem OwnS.far {w w' : World} {B g : Nat} {v : Value} {l : List (List UInt8)} (h : OwnS w B v l) (hg : w.grownBy w' (some g)) (hlt0 : g < B) : OwnS w' B v l := by
  have hlt := h.lt
  refine ⟨h.1, ?_⟩
  rcases h.2 with h2 | ⟨g', cap, cur, rfl, hb, hh, r⟩
  · exact .inl h2
  · exact .inr ⟨g', cap, cur, rfl, hb, (hg.block g' (hlt g' rfl).2 (fun e => by injection e with e; omega)).trans hh, r⟩

theorem OwnS.strs {w : World} {B : Nat} {v : Value} {l : List (List UInt8)} (h : OwnS w B v l) : Strs w w.heap.size v l := by
  have hlt := h.lt
  have hc := fun g hg => h.cells (g := g) hg
  rcases h.2 with ⟨rfl, h0⟩ | ⟨g, cap, cur, rfl, _, hg, hn, hm, _, _⟩
  · have : l = [] := List.eq_nil_of_length_eq_zero h0
    subst this
    exact ⟨none, 0, rfl, by simp, by simp, fun _ => rfl, fun h => by simp at h⟩
  · refine ⟨_, cap, rfl, hn, hm, (fun h => by cases h), fun _ => ⟨g, 0, rfl, (hlt g rfl).2, fun j u hu => ?_⟩⟩
    have := hc g rfl j u hu
    rwa [Addr.add_lit] at this

theorem info_str : (Tryz.prog.info? 9).map (fun i => (i.zero, i.size, i.bytes)) = some (some (.string ByteArray.empty), 1, 16) := by kernel_rfl

theorem run_append_strs (w : World) (B : Nat) (v : Value) (l : List (List UInt8)) (ho : OwnS w B v l) (hB : B ≤ w.heap.size) (x : Value) (B' : Nat) (ns : List (List UInt8)) (hx : Strs w B' x ns)
    (hm : l.length + ns.length ≤ 8796093022208) (ty : TypeId) :
    ∃ v' w', (Builtin.append_ #[56, 56] ty #[v, x]).run Tryz.prog w = .ok v' w' ∧ OwnS w' B v' (l ++ ns) ∧ Below B w w' := by
  obtain ⟨i0, hi, hz0, hz1, hz2⟩ := info_parts info_str
  have hmax : l.length + ns.length ≤ maxLen := by simp only [maxLen]; omega
  obtain ⟨A, c, rfl, _, _, h4, h6⟩ := hx
  by_cases h0 : 0 < ns.length
  · obtain ⟨b, off, rfl, _, hc⟩ := h6 h0
    obtain ⟨v', w', hr, h2, h3, _⟩ := run_append_own (P := Tryz.prog) w B 56 ty 9 i0 _ 1 16 Tryz.underlying56 hi hz0 hz1 hz2 rfl (by omega) v l.length (vs l) ho ⟨b, off, none⟩ ns.length c (vs ns) (by simp [vs]) (fun j u hu => by rw [Addr.add_lit]; exact hc j u hu) (vs_one ns) hmax (by omega) hB
    refine ⟨v', w', hr, ?_, (Below.refl _ _).grown h3 hB (fun k hk => (ho.lt k hk).1)⟩
    unfold OwnS
    rw [vs_append, List.length_append]
    exact h2
  · have hns : ns = [] := List.eq_nil_of_length_eq_zero (by omega)
    subst hns
    cases A with
    | some ad =>
      obtain ⟨v', w', hr, h2, h3, _⟩ := run_append_own (P := Tryz.prog) w B 56 ty 9 i0 _ 1 16 Tryz.underlying56 hi hz0 hz1 hz2 rfl (by omega) v l.length (vs l) ho ad 0 c [] rfl (fun j u hu => by simp at hu) (by simp) hmax (by simpa using by omega) hB
      refine ⟨v', w', hr, ?_, (Below.refl _ _).grown h3 hB (fun k hk => (ho.lt k hk).1)⟩
      unfold OwnS
      rw [vs_append, List.length_append]
      exact h2
    | none =>
      have hc := h4 rfl
      subst hc
      refine ⟨v, w, ?_, by simpa using ho, Below.refl _ _⟩
      rcases ho.2 with ⟨rfl, h0⟩ | ⟨g, cap, cur, rfl, _, _, hnc, _⟩
      · simp [Builtin.append_, run_underlying Tryz.underlying56, sizeOf, typeInfo, hi, Builtin.lenOf, Builtin.firstCells]
      · simp [Builtin.append_, run_underlying Tryz.underlying56, sizeOf, typeInfo, hi, Builtin.lenOf, Builtin.firstCells, hnc, storeCells]

theorem wp_append_strs {w : World} {ops : Array Oper} {rest : List Oper} {o : Oper} {a : Act} {Q : Exit → Act → World → Prop} (hgd : o.guard = none) (s x : Operand)
    (hop : o.op = .call { callee := .builtin .append, args := #[s, x], argTypes := #[56, 56] })
    (B : Nat) (v : Value) (l : List (List UInt8)) (hs : a.eval s = v) (ho : OwnS w B v l) (hB : B ≤ w.heap.size) (y : Value) (B' : Nat) (ns : List (List UInt8)) (hx : a.eval x = y) (hy : Strs w B' y ns)
    (hm : l.length + ns.length ≤ 8796093022208)
    (hK : ∀ v' w', OwnS w' B v' (l ++ ns) → Below B w w' → wpList Tryz.prog ops Q rest (a.put o.dst v') w') : wpList Tryz.prog ops Q (o :: rest) a w := by
  refine wpList_plain hgd fun K hK' => ?_
  obtain ⟨v', w', hrun, r1, r2⟩ := run_append_strs w B v l ho hB y B' ns hy hm o.type
  unfold Oper.wp
  simp [execOp, hop, resolve, invoke, builtin, hs, hx, hrun, Result.andThen]
  exact hK' _ _ (hK v' w' r1 r2)

theorem strs_one (w : World) (s : List UInt8) (T : TypeId) : Strs (w.alloc (.cells #[.string ⟨s.toArray⟩] T)) (w.heap.size + 1) (.slice (some ⟨w.heap.size, 0, none⟩) 1 1) [s] :=
  ⟨_, 1, rfl, by simp, by simp [maxLen], (fun h => by cases h), fun _ => ⟨w.heap.size, 0, rfl, by omega, fun j u hu => by
    have hj := (List.getElem?_eq_some_iff.1 hu).1
    rw [vs_length] at hj
    obtain rfl : j = 0 := by simp at hj; omega
    have := cell_of_row (w.alloc (.cells #[.string ⟨s.toArray⟩] T)) w.heap.size 0 #[.string ⟨s.toArray⟩] T (0, 0) (heap_alloc_new w _)
    rw [this]
    simpa [vs] using hu⟩⟩

end Go.Proofs.YtlchmkpnehbnlaaGreatDoor.Cd

/-
  frame.Split. Conditions: none.
-/
namespace Go.Proofs.YtlchmkpnehbnlaaGreatDoor.Cd
open Go.RowKit

def SplitIs (w : World) (bs : List UInt8) (e : Ending) (w' : World) : Prop :=
  ∃ u ds cur, Splits bs ds cur ∧ e = .returned (.tuple #[u, .int .i64 ((flat ds).length : Nat)]) ∧ OwnS w' w.heap.size u ds ∧ Below w.heap.size w w'

theorem sl_rest {w : World} {B : Nat} {A : Option Addr} {c : Nat} {bs : List UInt8} (h : Sl w B (.slice A bs.length c) bs) (n : Nat) (hn : n ≤ bs.length) (C : Option Addr) (hC : c ≠ n → C = A.map (·.add n)) (hC2 : c = n → C = A) :
    Sl w B (.slice C (bs.length - n) (c - n)) (bs.drop n) := by
  obtain ⟨A', c', e, h2, h3, h4, h5, h6⟩ := h
  injection e with e1 _ e3
  subst e1 e3
  refine ⟨C, c - n, by rw [List.length_drop], by rw [List.length_drop]; omega, by omega, fun hnone => ?_, fun ad e h0 => ?_, fun ad e j u hu => ?_⟩
  · by_cases hcn : c = n
    · omega
    · have := hC hcn
      rw [hnone] at this
      have hA : A = none := by cases A with
        | none => rfl
        | some _ => cases this
      have := h4 hA
      omega
  · rw [List.length_drop] at h0
    have hcn : c ≠ n := by omega
    have := hC hcn
    rw [e] at this
    cases A with
    | none => cases this
    | some a =>
      injection this with this
      rw [this, block_of_add]
      exact h5 a rfl (by omega)
  · have hj := (List.getElem?_eq_some_iff.1 hu).1
    rw [vb_length, List.length_drop] at hj
    have hcn : c ≠ n := by omega
    have := hC hcn
    rw [e] at this
    cases A with
    | none => cases this
    | some a =>
      injection this with this
      have hu2 : (vb bs)[n + j]? = some u := by
        rw [← hu]
        simp only [vb, List.map_drop, List.getElem?_drop]
      have h7 := h6 a rfl (n + j) u hu2
      rw [this, Go.Deep.add_add]
      exact h7

set_option maxRecDepth 100000 in
set_option maxHeartbeats 1600000 in
theorem split_any (v : Value) (bs : List UInt8) (w : World) (h : Sl w w.heap.size v bs) (hb : bs.length ≤ 1048576) :
    Calls Tryz.prog 47 #[v] w (SplitIs w bs) := by
  obtain ⟨A, c, rfl, h2, h3⟩ := h.len
  have h3 : c ≤ 9223372036854775807 := h3
  have H := Lib.hid h
  clear h
  go_enter Tryz.func47, Tryz.ntmps47
  go_wp2_with fail
  refine (read_any _ bs w H.out).mono ?_
  rintro e w1 ⟨rfl, hr1, hb1⟩
  have HR1 := Lib.hid hr1
  have hlt1 := hr1.lt
  clear hr1
  go_wp2_with fail
  go_loopw [4, 5] (fun o t wr => ∃ ds cur, Hid (bs = flat ds ++ cur) ∧ t = .int .i64 ((flat ds).length : Nat) ∧ Hid (OwnS wr (w.heap.size + 1) o ds) ∧ Hid (Rd wr w.heap.size cur false) ∧ Below w.heap.size w wr) (fun _ t _ => bs.length - (intOf t).toNat)
  case atStart => exact ⟨[], bs, rfl, rfl, OwnS.nil _ _, HR1.out, hb1⟩
  case round =>
    obtain ⟨ds, cur, he, rfl, ho, hr, hbel⟩ := hrel
    have hsz := hbel.size
    have hlen : (flat ds).length + cur.length = bs.length := by have := congrArg List.length he.out; rw [List.length_append] at this; omega
    have hdrop : Hid (bs.drop (flat ds).length = cur) := by unfold Hid; rw [he.out, List.drop_left]
    have hds := flat_ge ds
    generalize hn : (flat ds).length = n at *
    have HN := Lib.hid hn
    clear hn
    by_cases hcn : c = n
    · have hsl := sl_rest (H.out.below hbel) n (by omega) A (fun hq => absurd hcn hq) (fun _ => rfl)
      subst hcn
      rw [hdrop.out, Nat.sub_self, show bs.length - c = 0 by omega] at hsl
      have hf := Lib.hid (first_at _ cur wr w.heap.size hr.out hsl (by omega))
      clear hsl
      go_wp2_with fail
      refine hf.out.mono ?_
      rintro e w2 ⟨⟨x, hx, rfl, hr2⟩ | ⟨hno, rfl⟩, hg⟩
      · exfalso
        have := hx.length_le
        have := frm_ge x
        omega
      · have HB := Lib.hid (below_grown hbel hg hsz (Nat.le_refl _))
        have HNO := Lib.hid hno
        have HO := Lib.hid ((OwnS.far ho.out hg (Nat.lt_succ_self _)).lower (Nat.le_succ _))
        clear hno hg
        go_wp2_with fail
        go_ret2
        exact ⟨_, ds, cur, ⟨he.out, HNO.out⟩, by rw [HN.out]; rfl, HO.out, HB.out⟩
    · have hsl := sl_rest (H.out.below hbel) n (by omega) (A.map (fun x => x.add n)) (fun _ => rfl) (fun hq => absurd hq hcn)
      rw [hdrop.out] at hsl
      have hf := Lib.hid (first_at _ cur wr w.heap.size hr.out hsl (by omega))
      clear hsl
      go_wp2_with fail
      refine hf.out.mono ?_
      rintro e w2 ⟨⟨x, hx, rfl, hr2⟩ | ⟨hno, rfl⟩, hg⟩
      · have hxl := hx.length_le
        have hge := frm_ge x
        have HO := Lib.hid (OwnS.far ho.out hg (Nat.lt_succ_self _))
        have hs2 := hg.size
        have HB := Lib.hid (below_grown hbel hg hsz (Nat.le_refl _))
        have HR2 := Lib.hid hr2
        have hz : (((frm x).length : Int) == 0) = false := by rw [beq_eq_false_iff_ne]; omega
        have HF : Hid ((flat (ds ++ [x])).length = n + (frm x).length) := by unfold Hid; rw [flat_append, flat_one, List.length_append, HN.out]
        have HE : Hid (bs = flat (ds ++ [x]) ++ cur.drop (frm x).length) := by
          unfold Hid
          obtain ⟨t, ht⟩ := hx
          rw [flat_append, flat_one, List.append_assoc, ← ht, List.drop_left, ht]
          exact he.out
        clear hx hr2 hg
        generalize (frm x).length = m at *
        go_wp2_with (at_builtin; refine wp_append_strs rfl _ _ rfl (w.heap.size + 1) _ ds rfl ?ho ?hB _ (w2.heap.size + 1) [x] rfl ?hn ?hm ?hK)
        case ho => exact HO.out.alloc _
        case hB => simp; omega
        case hn => exact strs_one _ _ _
        case hm => simp; omega
        case hK =>
          intro v3 w3 ho3 hb3
          go_wp2_with fail
          go_roundw
          case rel => exact ⟨ds ++ [x], cur.drop m, HE.out, by rw [HF.out]; go_num, ho3, (HR2.out.below ((Below.refl _ _).alloc (Nat.le_refl _) _) HR2.out.lt).below hb3 (Nat.lt_succ_self _), (HB.out.alloc (by omega) _).trans (hb3.mono (by omega))⟩
          case measure => simp [intOf]; omega
      · have HB := Lib.hid (below_grown hbel hg hsz (Nat.le_refl _))
        have HNO := Lib.hid hno
        have HO := Lib.hid ((OwnS.far ho.out hg (Nat.lt_succ_self _)).lower (Nat.le_succ _))
        clear hno hg
        go_wp2_with fail
        go_ret2
        exact ⟨_, ds, cur, ⟨he.out, HNO.out⟩, by rw [HN.out]; rfl, HO.out, HB.out⟩

end Go.Proofs.YtlchmkpnehbnlaaGreatDoor.Cd

/-
  The document's Same: two lists of texts. Conditions: none.
-/
namespace Go.Proofs.YtlchmkpnehbnlaaGreatDoor.Cd
open Go.RowKit

end Go.Proofs.YtlchmkpnehbnlaaGreatDoor.Cd

/-
  Calls on a log, as the law's text has them: a slice of structs that reads; more than is played? Conditions: none.
-/
namespace Go.Proofs.YtlchmkpnehbnlaaGreatDoor.Cd
open Go.RowKit Go.ChangeShapes Go.WideShapes Go.Deep

end Go.Proofs.YtlchmkpnehbnlaaGreatDoor.Cd

/-
  append of noughts: append(own, make([]byte, n)...). Conditions: none.
-/
namespace Go.Proofs.YtlchmkpnehbnlaaGreatDoor.Cd
open Go.RowKit

theorem zero_cells (n : Nat) : Builtin.zeroCells (Value.int .u8 0).cells n = (vb (List.replicate n 0)).toArray := by
  apply Array.ext'
  simp [Builtin.zeroCells, Value.cells, vb, List.map_replicate, Nat.mod_one, List.map_const']

theorem vb_zeros (n : Nat) : (vb (List.replicate n 0)).length = n := by rw [vb_length, List.length_replicate]

set_option maxRecDepth 100000 in
theorem run_zeros_room (w : World) (ty : TypeId) (i : TypeInfo) (hi : Tryz.prog.info? 5 = some i) (hz0 : i.zero = some (.int .u8 0)) (hz1 : i.size = 1) (hz2 : i.bytes = 1)
    (g sLen sCap n : Nat) (cur : Array Value) (hg : w.heap[g]? = some (.cells cur 5 (0, 0))) (hroom : sLen + n ≤ sCap) (hcs : cur.size = sCap) (hn : n ≠ 0) (hm : n ≤ 140737488355328) :
    (Builtin.append_ #[88, 3] ty #[.slice (some ⟨g, 0, none⟩) sLen sCap, .int .i64 n]).run Tryz.prog w =
      .ok (.slice (some ⟨g, 0, none⟩) (sLen + n) sCap) (w.setRow g (cur.toList.take sLen ++ vb (List.replicate n 0) ++ cur.toList.drop (sLen + n)).toArray) := by
  have hst := run_storeCells_at Tryz.prog g sLen 5 (vb (List.replicate n 0)) 0 cur w hg (by rw [vb_zeros]; omega) (vb_one _)
  simp only [Nat.add_zero, vb_zeros] at hst
  have h1 : ¬ ((281474976710656 : Int) < n) := by omega
  have hzc := zero_cells n
  have hw : IntKind.i64.wrap (n : Int) = n := by rw [IntKind.wrap_i64]; omega
  have hneg : ¬ ((n : Int) < 0) := by omega
  have hai : (asInt (.int .i64 (n : Int))).run Tryz.prog w = .ok (n : Int) w := by simp [asInt, asIntOf]
  simp [Builtin.append_, run_underlying Tryz.underlying88, run_underlying Tryz.underlying3, sizeOf, typeInfo, zeroValue, hi, hz0, hz1, hz2, Builtin.lenOf, hroom, h1, hn, hw, hai, hneg, hst, hzc, Addr.add_lit]

set_option maxRecDepth 100000 in
theorem run_zeros_grow (w : World) (ty : TypeId) (i : TypeInfo) (hi : Tryz.prog.info? 5 = some i) (hz0 : i.zero = some (.int .u8 0)) (hz1 : i.size = 1) (hz2 : i.bytes = 1)
    (b : Addr) (sLen sCap n : Nat) (olds : List Value) (hlo : olds.length = sLen) (holds : ∀ j v, olds[j]? = some v → w.cell? (b.add j) = some v) (hn : n ≠ 0) (hg : sCap < sLen + n) (hm : sLen + n ≤ 140737488355328) :
    (Builtin.append_ #[88, 3] ty #[.slice (some b) sLen sCap, .int .i64 n]).run Tryz.prog w =
      .ok (.slice (some ⟨w.heap.size, 0, none⟩) (sLen + n) (grownCap w (sLen + n) sCap 5))
        (w.drew.alloc (.cells (olds.toArray ++ (vb (List.replicate n 0)).toArray ++ Builtin.zeroCells (Value.int .u8 0).cells (grownCap w (sLen + n) sCap 5 - (sLen + n))) 5)) := by
  have hroom : ¬ (sLen + n ≤ sCap) := by omega
  have h1 : ¬ ((281474976710656 : Int) < n) := by omega
  have h63' : ¬ (9223372036854775807 < ((sLen : Int) + (n : Int))) := by omega
  have h48 := growslice_fits (bytes := 1) hg (by omega)
  rw [Nat.mul_one] at h48
  have h48' : ¬ (281474976710656 < Builtin.nextslicecap (sLen + n) sCap) := by omega
  have hzc := zero_cells n
  have hw : IntKind.i64.wrap (n : Int) = n := by rw [IntKind.wrap_i64]; omega
  have hneg : ¬ ((n : Int) < 0) := by omega
  have hai : (asInt (.int .i64 (n : Int))).run Tryz.prog w = .ok (n : Int) w := by simp [asInt, asIntOf]
  have hfo := run_firstCells_some (P := Tryz.prog) w.drew 1 sLen b sLen sCap olds (by omega) (by simpa using holds)
  simp [Builtin.append_, run_underlying Tryz.underlying88, run_underlying Tryz.underlying3, sizeOf, typeInfo, zeroValue, hi, hz0, hz1, hz2, Builtin.lenOf, hroom, h1, hn, hw, hai, hneg, h63', h48', Question.forced, hfo, hzc, newRow, grownCap]
  congr 2
  apply Array.ext'
  simp [List.append_assoc]

set_option maxRecDepth 100000 in
theorem run_zeros_nil (w : World) (ty : TypeId) (i : TypeInfo) (hi : Tryz.prog.info? 5 = some i) (hz0 : i.zero = some (.int .u8 0)) (hz1 : i.size = 1) (hz2 : i.bytes = 1) (n : Nat) (hn : n ≠ 0) (hm : n ≤ 140737488355328) :
    (Builtin.append_ #[88, 3] ty #[.slice none 0 0, .int .i64 n]).run Tryz.prog w =
      .ok (.slice (some ⟨w.heap.size, 0, none⟩) n (grownCap w n 0 5))
        (w.drew.alloc (.cells ((vb (List.replicate n 0)).toArray ++ Builtin.zeroCells (Value.int .u8 0).cells (grownCap w n 0 5 - n)) 5)) := by
  have h1 : ¬ ((281474976710656 : Int) < n) := by omega
  have h63' : ¬ (9223372036854775807 < (n : Int)) := by omega
  have h48' : ¬ (281474976710656 < Builtin.nextslicecap n 0) := by rw [nextslicecap_zero (by omega)]; omega
  have hzc := zero_cells n
  have hw : IntKind.i64.wrap (n : Int) = n := by rw [IntKind.wrap_i64]; omega
  have hneg : ¬ ((n : Int) < 0) := by omega
  have hai : (asInt (.int .i64 (n : Int))).run Tryz.prog w = .ok (n : Int) w := by simp [asInt, asIntOf]
  simp [Builtin.append_, run_underlying Tryz.underlying88, run_underlying Tryz.underlying3, sizeOf, typeInfo, zeroValue, hi, hz0, hz1, hz2, Builtin.lenOf, h1, hn, hw, hai, hneg, h63', h48', Question.forced, run_firstCells_none, hzc, newRow, grownCap]

theorem run_append_zeros (w : World) (B : Nat) (v : Value) (bs : List UInt8) (ho : Own w B v bs) (hB : B ≤ w.heap.size) (n : Nat) (hn : n ≠ 0) (hm : bs.length + n ≤ 140737488355328) (ty : TypeId) :
    ∃ v' w', (Builtin.append_ #[88, 3] ty #[v, .int .i64 n]).run Tryz.prog w = .ok v' w' ∧ Own w' B v' (bs ++ List.replicate n 0) ∧ Below B w w' := by
  obtain ⟨i0, hi, hz0, hz1, hz2⟩ := info_parts info5
  have hlen : (bs ++ List.replicate n 0).length = bs.length + n := by rw [List.length_append, List.length_replicate]
  have hlv : (vb (bs ++ List.replicate n 0)).length = bs.length + n := by rw [vb_length, hlen]
  rcases ho.2 with ⟨rfl, h0⟩ | ⟨g, cap, cur, rfl, hbg, hg, hnc, hcm, hcs, htake⟩
  · have hbs : bs = [] := List.eq_nil_of_length_eq_zero h0
    subst hbs
    have hr := run_zeros_nil w ty i0 hi hz0 hz1 hz2 n hn (by simpa using hm)
    have hge := grownCap_ge w n 0 5
    have hcm2 : grownCap w n 0 5 ≤ maxLen := grownCap_le_maxLen w n 0 5 (by simp only [maxLen]; simp at hm; omega)
    refine ⟨_, _, hr, ?_, ⟨rfl, rfl, rfl, by simp, fun k hk => heap_alloc_old w.drew _ (Nat.lt_of_lt_of_le hk hB)⟩⟩
    unfold Own
    rw [List.nil_append, List.length_replicate]
    refine ⟨by rw [vb_zeros]; simp, .inr ⟨w.heap.size, _, _, rfl, hB, heap_alloc_new w.drew _, hge, hcm2, ?_, ?_⟩⟩
    · simp only [Array.size_append, List.size_toArray, size_zeroCells, vb_length, List.length_replicate]
      simp [Value.cells]
      omega
    · simp only [Array.toList_append, Nat.mul_one]
      have := vb_zeros n
      exact List.take_left' this
  · have hcs : cur.size = cap := by simpa using hcs
    have htake : cur.toList.take bs.length = vb bs := by simpa using htake
    have hgl := (ho.lt g rfl).2
    by_cases hroom : bs.length + n ≤ cap
    · have hr := run_zeros_room w ty i0 hi hz0 hz1 hz2 g bs.length cap n cur hg hroom hcs hn (by omega)
      refine ⟨_, _, hr, ?_, (Below.refl _ _).grown (row := some g) ⟨rfl, rfl, rfl, by simp, fun k _ hk => setRow_other w g k _ (fun e => hk (by rw [e]))⟩ hB (fun k hk => by injection hk with hk; omega)⟩
      unfold Own
      rw [hlen]
      refine ⟨by rw [hlv]; simp, .inr ⟨g, cap, _, rfl, hbg, setRow_heap w g cur _ 5 _ hg, hroom, hcm, ?_, ?_⟩⟩
      · simp only [List.size_toArray, List.length_append, List.length_take, List.length_drop, Array.length_toList, vb_zeros]
        omega
      · rw [htake, Nat.mul_one]
        rw [← vb_append]
        rw [← hlv]
        exact List.take_left
    · have holds : ∀ j u, (vb bs)[j]? = some u → w.cell? ((⟨g, 0, none⟩ : Addr).add j) = some u := World.ownsRow.cells ho (g := g) rfl
      have hr := run_zeros_grow w ty i0 hi hz0 hz1 hz2 ⟨g, 0, none⟩ bs.length cap n (vb bs) (vb_length bs) holds hn (by omega) hm
      have hge := grownCap_ge w (bs.length + n) cap 5
      have hcm2 : grownCap w (bs.length + n) cap 5 ≤ maxLen := grownCap_le_maxLen w (bs.length + n) cap 5 (by simp only [maxLen]; omega)
      refine ⟨_, _, hr, ?_, ⟨rfl, rfl, rfl, by simp, fun k hk => heap_alloc_old w.drew _ (Nat.lt_of_lt_of_le hk hB)⟩⟩
      unfold Own
      rw [hlen]
      refine ⟨by rw [hlv]; simp, .inr ⟨w.heap.size, _, _, rfl, hB, heap_alloc_new w.drew _, hge, hcm2, ?_, ?_⟩⟩
      · simp only [Array.size_append, List.size_toArray, size_zeroCells, vb_length, List.length_replicate]
        simp [Value.cells]
        omega
      · simp only [Array.toList_append, Nat.mul_one]
        rw [← vb_append, ← hlv]
        exact List.take_left

theorem wp_append_zeros {w : World} {ops : Array Oper} {rest : List Oper} {o : Oper} {a : Act} {Q : Exit → Act → World → Prop} (hgd : o.guard = none) (s x : Operand)
    (hop : o.op = .call { callee := .builtin .append, args := #[s, x], argTypes := #[88, 3] })
    (B : Nat) (v : Value) (bs : List UInt8) (hs : a.eval s = v) (ho : Own w B v bs) (hB : B ≤ w.heap.size) (n : Nat) (q : Int) (hq : q = n) (hx : a.eval x = .int .i64 q) (hn : n ≠ 0)
    (hm : bs.length + n ≤ 140737488355328)
    (hK : ∀ v' w', Own w' B v' (bs ++ List.replicate n 0) → Below B w w' → wpList Tryz.prog ops Q rest (a.put o.dst v') w') : wpList Tryz.prog ops Q (o :: rest) a w := by
  subst hq
  refine wpList_plain hgd fun K hK' => ?_
  obtain ⟨v', w', hrun, r1, r2⟩ := run_append_zeros w B v bs ho hB n hn hm o.type
  unfold Oper.wp
  simp [execOp, hop, resolve, invoke, builtin, hs, hx, hrun, Result.andThen]
  exact hK' _ _ (hK v' w' r1 r2)

end Go.Proofs.YtlchmkpnehbnlaaGreatDoor.Cd

/-
  Two rows of texts of the call's own, side by side: one grows, the other stays. Conditions: none.
-/
namespace Go.Proofs.YtlchmkpnehbnlaaGreatDoor.Cd
open Go.RowKit

end Go.Proofs.YtlchmkpnehbnlaaGreatDoor.Cd
