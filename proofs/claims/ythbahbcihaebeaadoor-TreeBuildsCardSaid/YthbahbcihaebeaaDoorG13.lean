/-
  object.PutCommit. Conditions: none.
-/
import Derived.Test.YthbahbcihaebeaaDoorG11
import Derived.Lib.Hide
import Derived.BigQuiet
import Derived.Sort.Walk0
import Derived.Deep.MidRow
import Derived.Test.YthbahbcihaebeaaDoorG5
import Derived.Test.YthbahbcihaebeaaDoorG12
import Derived.Deep.RegionWith
/-
  object.goodPairs. Conditions: none.
-/
namespace Go.Proofs.YthbahbcihaebeaaDoor.Cd
open Go.RowKit

theorem less_of (a b : List UInt8) : Op.bytesLess a b = decide (a < b) := Go.Proofs.bytesLess_eq a b

/-! ### Pairs, kids, names as cells -/

def ppC (p : Bp) : List Value := [.string ⟨p.1.toArray⟩, .string ⟨p.2.toArray⟩]
def kkC (p : Kd) : List Value := .string ⟨p.1.toArray⟩ :: vb p.2.1
def iiC (p : Idn) : List Value := vb p.1

theorem kind_pp : Kind ppC 2 38 22 32 (.agg #[.string ByteArray.empty, .string ByteArray.empty]) where
  pos := by omega
  len := fun _ => rfl
  one := by
    intro x u hu
    simp only [ppC, List.mem_cons, List.not_mem_nil, or_false] at hu
    rcases hu with rfl | rfl <;> rfl
  slice := Tryd.underlying22
  info := by kernel_rfl
  zero := rfl
  few := by omega

theorem kind_kk : Kind kkC 34 52 48 56 (.agg (Value.string ByteArray.empty :: vb (zer 33)).toArray) where
  pos := by omega
  len := fun x => by simp [kkC, vb_length, x.2.2]
  one := by
    intro x u hu
    simp only [kkC, List.mem_cons] at hu
    rcases hu with rfl | hu
    · rfl
    · exact vb_one _ u hu
  slice := Tryd.underlying48
  info := by kernel_rfl
  zero := by simp [Value.cells, vb_length, zer_length]
  few := by omega

abbrev PsIn := RwIn ppC 2
abbrev KsIn := RwIn kkC 34
abbrev IsIn := RwIn iiC 33

theorem PsIn.at2 {w : World} {B : Nat} {l : List Bp} {A : Option Addr} {m c : Nat} (h : PsIn w B (.slice A m c) l) {k : Nat} {p : Bp} (hk : l[k]? = some p) :
    ∃ b off, A = some ⟨b, off, none⟩ ∧ b < B ∧ w.cell? ⟨b, off + k * 2, none⟩ = some (.string ⟨p.1.toArray⟩) ∧ w.cell? ⟨b, off + k * 2 + 1, none⟩ = some (.string ⟨p.2.toArray⟩) := by
  obtain ⟨b, off, e, hB, hc⟩ := RwIn.at h hk
  exact ⟨b, off, e, hB, hc 0 _ rfl, hc 1 _ rfl⟩

/-- What a question answers. -/
def Says (P : Prop) (w : World) (e : Ending) (w' : World) : Prop := ∃ s : Bool, e = .returned (.bool s) ∧ (s = true ↔ P) ∧ Below w.heap.size w w'

theorem rises_of2 {α : Type} {l : List (List UInt8 × α)} (h : ∀ (j : Nat) a b, l[j]? = some a → l[j + 1]? = some b → a.1 < b.1) : Rises (l.map (·.1)) := by
  intro j a b ha hb
  rw [List.getElem?_map] at ha hb
  obtain ⟨p, hp, rfl⟩ := Option.map_eq_some_iff.1 ha
  obtain ⟨q, hq, rfl⟩ := Option.map_eq_some_iff.1 hb
  exact h j p q hp hq
theorem rises_of {l : List Bp} (h : ∀ (j : Nat) a b, l[j]? = some a → l[j + 1]? = some b → a.1 < b.1) : Rises (l.map (·.1)) := by
  intro j a b ha hb
  rw [List.getElem?_map] at ha hb
  obtain ⟨p, hp, rfl⟩ := Option.map_eq_some_iff.1 ha
  obtain ⟨q, hq, rfl⟩ := Option.map_eq_some_iff.1 hb
  exact h j p q hp hq
theorem rises_to {α : Type} {l : List (List UInt8 × α)} (h : Rises (l.map (·.1))) {j : Nat} {a b : List UInt8 × α} (ha : l[j]? = some a) (hb : l[j + 1]? = some b) : a.1 < b.1 :=
  h j a.1 b.1 (by rw [List.getElem?_map, ha]; rfl) (by rw [List.getElem?_map, hb]; rfl)

set_option maxRecDepth 100000 in
set_option maxHeartbeats 1600000 in
theorem goodps_any (v : Value) (l : List Bp) (w : World) (h : PsIn w w.heap.size v l) : Calls Tryd.prog 45 #[v] w (Says (GoodPs l) w) := by
  obtain ⟨A, c, rfl, hm1, hm2⟩ := h.len
  have H := Lib.hid h
  clear h
  by_cases hbig : 4 < l.length
  · have hno : Hid (¬ GoodPs l) := fun h => by have := h.few; omega
    have hbig' : (4 : Int) < l.length := by omega
    go_enter Tryd.func45, Tryd.ntmps45
    go_wp2_with fail
    go_ret
    exact ⟨false, rfl, ⟨(fun h => by cases h), fun h => absurd h hno.out⟩, Below.refl _ _⟩
  have hbig' : ¬ (4 : Int) < l.length := by omega
  go_enter Tryd.func45, Tryd.ntmps45
  go_wp2_with fail
  go_loopw [10] (fun i wr => ∃ k : Nat, i = .int .i64 k ∧ k ≤ l.length ∧ Hid (∀ (j : Nat) p, j < k → l[j]? = some p → p.1.length ≤ 16 ∧ p.2.length ≤ 16) ∧ Hid (∀ (j : Nat) a b, j + 1 < k → l[j]? = some a → l[j + 1]? = some b → a.1 < b.1) ∧ Hid (Below w.heap.size w wr)) (fun i _ => l.length - (intOf i).toNat)
  case atStart => exact ⟨0, rfl, by omega, fun j _ h => by omega, fun j _ _ h => by omega, Below.refl _ _⟩
  case round =>
    obtain ⟨k, rfl, hk, hp, hq, hbl⟩ := hrel
    by_cases hlt : k < l.length
    · obtain ⟨x, hxk⟩ : ∃ x, l[k]? = some x := ⟨l[k], List.getElem?_eq_getElem hlt⟩
      obtain ⟨b2, off2, e2, hB2, d0, d1⟩ := PsIn.at2 (H.out.below hbl.out) hxk
      subst e2
      have HX := Lib.hid hxk
      clear hxk
      have hb3 : Below w.heap.size w (wr.alloc (.cells #[.string ⟨x.1.toArray⟩, .string ⟨x.2.toArray⟩] 38)) := hbl.out.alloc hbl.out.size _
      have HB3 := Lib.hid hb3
      clear hb3
      have hz1 : (ByteArray.mk x.1.toArray).size = x.1.length := rfl
      have hz2 : (ByteArray.mk x.2.toArray).size = x.2.length := rfl
      by_cases hs : x.1.length ≤ 16 ∧ x.2.length ≤ 16
      · obtain ⟨hs1, hs2⟩ := hs
        have hp2 : Hid (∀ (j : Nat) p, j < k + 1 → l[j]? = some p → p.1.length ≤ 16 ∧ p.2.length ≤ 16) := fun j p hj hjp => by
          by_cases e : j = k
          · subst e
            rw [HX.out] at hjp
            injection hjp with hjp
            subst hjp
            exact ⟨hs1, hs2⟩
          · exact hp.out j p (by omega) hjp
        have hn1 : ¬ (16 : Int) < x.1.length := by omega
        have hn2 : ¬ (16 : Int) < x.2.length := by omega
        have hn3 : decide ((16 : Int) < x.2.length) = false := decide_eq_false hn2
        have hn4 : decide ((16 : Int) < x.1.length) = false := decide_eq_false hn1
        by_cases h0 : 0 < k
        · obtain ⟨j, rfl⟩ : ∃ j, k = j + 1 := ⟨k - 1, by omega⟩
          obtain ⟨y, hyk⟩ : ∃ y, l[j]? = some y := ⟨l[j], List.getElem?_eq_getElem (by omega)⟩
          obtain ⟨b3, off3, e3, hB3, f0, f1⟩ := PsIn.at2 (H.out.below hbl.out) hyk
          injection e3 with e3
          injection e3 with e3 e4
          subst e3 e4
          have f0a : ∀ o : Obj, (wr.alloc o).cell? ⟨b2, off2 + j * 2, none⟩ = some (.string ⟨y.1.toArray⟩) := fun o => cell_kept (new_below wr o) f0
          have HY := Lib.hid hyk
          clear hyk f0 f1
          have hgd : decide ((0 : Int) < (j : Int) + 1) = true := decide_eq_true (by omega)
          have hle := less_of y.1 x.1
          by_cases hov : y.1 < x.1
          · rw [decide_eq_true hov] at hle
            have hq2 : Hid (∀ (i : Nat) a b, i + 1 < j + 1 + 1 → l[i]? = some a → l[i + 1]? = some b → a.1 < b.1) := fun i a b hi ha hb => by
              by_cases e : i = j
              · subst e
                rw [HY.out] at ha
                rw [HX.out] at hb
                injection ha with ha
                injection hb with hb
                subst ha hb
                exact hov
              · exact hq.out i a b (by omega) ha hb
            clear hov
            go_wp2_with fail
            go_quiet (fail)
            go_wp2_with fail
            go_roundw
            case rel => exact ⟨j + 1 + 1, by go_num, by omega, hp2, hq2, below_drewN HB3.out _⟩
            case measure => simp [intOf]; omega
          · rw [decide_eq_false hov] at hle
            have hno : Hid (¬ GoodPs l) := fun h => hov (rises_to h.rise HY.out HX.out)
            clear hov
            go_wp2_with fail
            go_quiet (fail)
            go_wp2_with fail
            go_ret
            exact ⟨false, rfl, ⟨(fun h => by cases h), fun h => absurd h hno.out⟩, below_drewN HB3.out _⟩
        · obtain rfl : k = 0 := by omega
          rw [show off2 + 0 * 2 = off2 by omega] at d0 d1
          have hgd : decide ((0 : Int) < ((0 : Nat) : Int)) = false := rfl
          have hq2 : Hid (∀ (i : Nat) a b, i + 1 < 0 + 1 → l[i]? = some a → l[i + 1]? = some b → a.1 < b.1) := fun i a b hi => by omega
          go_wp2_with fail
          go_quiet (fail)
          go_wp2_with fail
          go_roundw
          case rel => exact ⟨0 + 1, by go_num, by omega, hp2, hq2, below_drewN HB3.out _⟩
          case measure => simp [intOf]; omega
      · have hno : Hid (¬ GoodPs l) := fun h => hs ⟨h.key _ (List.mem_of_getElem? HX.out), h.val _ (List.mem_of_getElem? HX.out)⟩
        have hways : 16 < x.1.length ∨ (¬ 16 < x.1.length ∧ 16 < x.2.length) := by omega
        clear hs
        rcases hways with h1 | ⟨h1, h2⟩
        all_goals
          go_wp2_with fail
          go_ret
          exact ⟨false, rfl, ⟨(fun h => by cases h), fun h => absurd h hno.out⟩, HB3.out⟩
    · have hyes : Hid (GoodPs l) := ⟨by omega, fun p hpl => by
        obtain ⟨j, hj, rfl⟩ := List.getElem_of_mem hpl
        exact (hp.out j _ (by omega) (List.getElem?_eq_getElem hj)).1, fun p hpl => by
        obtain ⟨j, hj, rfl⟩ := List.getElem_of_mem hpl
        exact (hp.out j _ (by omega) (List.getElem?_eq_getElem hj)).2, rises_of fun j a b ha hb => hq.out j a b (by have := (List.getElem?_eq_some_iff.1 hb).1; omega) ha hb⟩
      clear hp hq
      go_wp2_with fail
      go_ret
      exact ⟨true, rfl, ⟨fun _ => hyes.out, fun _ => rfl⟩, hbl.out⟩

end Go.Proofs.YthbahbcihaebeaaDoor.Cd

/-
  object.goodKids. Conditions: none.
-/
namespace Go.Proofs.YthbahbcihaebeaaDoor.Cd
open Go.RowKit

theorem exec_load_mid {op : Oper} {a : Act} {w : World} (ty : TypeId) (x : Operand) (ho : op.op = .load ty x)
    (b o : Nat) (hx : a.eval x = .pointer (some ⟨b, o, none⟩)) (cs : List Value) (d : TypeDesc) (hS : w.rangeAt b o cs)
    (hu : Tryd.prog.underlying ty = some d) (hd : d.isRow = true) (hi : (Tryd.prog.info? ty).map (·.size) = some cs.length) : (execOp a.eval op).run Tryd.prog w = .ok (.value (.agg cs.toArray)) w := by
  unfold execOp
  simp only [ho, hx, Instr.loadAt, Instr.sureAddr, Sem.run_bind, Sem.run_pure, Result.andThen_ok, run_loadVar_mid w b o ty cs d hS hu hd hi]

theorem cells_kk (p : Kd) : (Tryd.prog.info? 52).map (·.size) = some (kkC p).length := by
  rw [kind_kk.len]
  kernel_rfl
theorem cells_ii (p : Idn) : (Tryd.prog.info? 27).map (·.size) = some (vb p.1).length := by
  rw [vb_length, p.2]
  exact cells_id
theorem zero_kk (W : World) : (zeroValue 52).run Tryd.prog W = .ok (.agg (Value.string ByteArray.empty :: vb (zer 33)).toArray) W := by kernel_rfl
theorem size_kk : (Tryd.prog.info? 52).map (·.size) = some 34 := by kernel_rfl

/-- A kid in a block of its own. -/
def KidAt (w : World) (b : Nat) (p : Kd) : Prop := w.heap[b]? = some (.cells (kkC p).toArray 52)
section
variable {w w' : World} {b B : Nat} {p : Kd}
theorem KidAt.below (h : KidAt w b p) (hb : Below B w w') (hB : b < B) : KidAt w' b p := (hb.block b hB).trans h
theorem KidAt.key (h : KidAt w b p) : w.cell? ⟨b, 0, none⟩ = some (.string ⟨p.1.toArray⟩) := cell_of_row _ _ _ _ _ _ h
theorem vb_kd (i : Idn) : (vb i.1)[0]? = some (.int .u8 (kd i).toNat) := by
  obtain ⟨k, s, e, _, hk⟩ := idn_cons i
  rw [e, hk]
  rfl
theorem KidAt.kind (h : KidAt w b p) : w.cell? ⟨b, 1, none⟩ = some (.int .u8 (kd p.2).toNat) :=
  (cell_of_row _ _ _ _ _ _ h).trans (by
    show (kkC p).toArray[1]? = _
    rw [List.getElem?_toArray]
    exact vb_kd p.2)
theorem KidAt.id (h : KidAt w b p) : w.rangeAt b 1 (vb p.2.1) := fun j v hv => by
  rw [cell_of_row _ _ _ _ _ _ h, List.getElem?_toArray, Nat.add_comm]
  exact hv
end
theorem KidAt.new (w : World) (p : Kd) : KidAt (w.alloc (.cells (kkC p).toArray 52)) w.heap.size p := heap_alloc_new _ _

theorem wp_fill_kk {ops : Array Oper} {rest : List Oper} {o : Oper} {a : Act} {W w : World} {Q : Exit → Act → World → Prop} (hgd : o.guard = none) (x y : Operand) (ho : o.op = .store 52 x y)
    (hW : W = w.alloc (.cells (Value.string ByteArray.empty :: vb (zer 33)).toArray 52))
    (hx : a.eval x = .pointer (some ⟨w.heap.size, 0, none⟩)) (p : Kd) (hy : a.eval y = .agg (kkC p).toArray)
    (h : wpList Tryd.prog ops Q rest (a.put o.dst undef) (w.alloc (.cells (kkC p).toArray 52))) : wpList Tryd.prog ops Q (o :: rest) a W := by
  subst hW
  exact wp_fill_row size_kk hgd x y ho _ (by simp [vb_length, zer_length]) _ hx hy (by simp [kind_kk.len p]) (fun u hu => kind_kk.one p u (by simpa using hu)) h
theorem KsIn.range {w : World} {B : Nat} {l : List Kd} {A : Option Addr} {m c : Nat} (h : KsIn w B (.slice A m c) l) {k : Nat} {p : Kd} (hk : l[k]? = some p) :
    ∃ b off, A = some ⟨b, off, none⟩ ∧ b < B ∧ w.rangeAt b (off + k * 34) (kkC p) := RwIn.at h hk
theorem range_key {w : World} {b off : Nat} {p : Kd} (h : w.rangeAt b off (kkC p)) : w.cell? ⟨b, off, none⟩ = some (.string ⟨p.1.toArray⟩) := h 0 _ rfl
theorem range_kind {w : World} {b off : Nat} {p : Kd} (h : w.rangeAt b off (kkC p)) : w.cell? ⟨b, off + 1, none⟩ = some (.int .u8 (kd p.2).toNat) := h 1 _ (by
    show (vb p.2.1)[0]? = _
    exact vb_kd p.2)

set_option maxRecDepth 100000 in
set_option maxHeartbeats 3200000 in
theorem goodks_any (v : Value) (l : List Kd) (w : World) (h : KsIn w w.heap.size v l) : Calls Tryd.prog 47 #[v] w (Says (GoodKs l) w) := by
  obtain ⟨A, c, rfl, hm1, hm2⟩ := h.len
  have H := Lib.hid h
  clear h
  by_cases hbig : l.length < 2 ∨ 3 < l.length
  · have hno : Hid (¬ GoodKs l) := fun h => by have := h.few; have := h.more; omega
    have hways : (l.length : Int) < 2 ∨ (¬ (l.length : Int) < 2 ∧ (3 : Int) < l.length) := by omega
    clear hbig
    rcases hways with h1 | ⟨h1, h2⟩
    all_goals
      go_enter Tryd.func47, Tryd.ntmps47
      go_wp2_with fail
      go_ret
      exact ⟨false, rfl, ⟨(fun h => by cases h), fun h => absurd h hno.out⟩, Below.refl _ _⟩
  have hb1 : ¬ (l.length : Int) < 2 := by omega
  have hb2 : ¬ (3 : Int) < l.length := by omega
  obtain ⟨y0, hy0⟩ : ∃ x, l[0]? = some x := ⟨l[0]'(by omega), List.getElem?_eq_getElem (by omega)⟩
  have HY0 := Lib.hid hy0
  clear hy0 hbig
  obtain ⟨b2, off2, e2, hB2, r0⟩ := KsIn.range H.out HY0.out
  subst e2
  rw [show off2 + 0 * 34 = off2 by omega] at r0
  have R0 := Lib.hid r0
  clear r0
  go_enter Tryd.func47, Tryd.ntmps47
  go_wp2_with fail
  go_loopw [15] (fun i wr => ∃ k : Nat, i = .int .i64 k ∧ k ≤ l.length ∧ Hid (∀ (j : Nat) p, j < k → l[j]? = some p → p.1.length ≤ 16 ∧ goodI p.2.1 = true ∧ kd p.2 = kd y0.2) ∧ Hid (∀ (j : Nat) a b, j + 1 < k → l[j]? = some a → l[j + 1]? = some b → a.1 < b.1) ∧ Hid (Below w.heap.size w wr)) (fun i _ => l.length - (intOf i).toNat)
  case atStart => exact ⟨0, rfl, by omega, fun j _ h => by omega, fun j _ _ h => by omega, Below.refl _ _⟩
  case round =>
    obtain ⟨k, rfl, hk, hp, hq, hbl⟩ := hrel
    by_cases hlt : k < l.length
    · obtain ⟨x, hxk⟩ : ∃ x, l[k]? = some x := ⟨l[k], List.getElem?_eq_getElem hlt⟩
      obtain ⟨b3, off3, e3, hB3, rx⟩ := KsIn.range (H.out.below hbl.out) hxk
      injection e3 with e3
      injection e3 with e3 e4
      subst e3 e4
      have HX := Lib.hid hxk
      have RX := Lib.hid rx
      clear hxk rx hB3
      go_wp2_with (first
        | (refine wpList_load_mid rfl 52 _ rfl b2 (off2 + k * 34) rfl (kkC x) _ RX.out Tryd.underlying52 rfl (cells_kk x) ?_)
        | (refine wp_alloc_row zero_kk rfl rfl ?_)
        | (refine wp_fill_kk rfl _ _ rfl rfl (by simp [Act.eval]) x rfl ?_))
      have HK : Hid (KidAt (wr.alloc (.cells (kkC x).toArray 52)) wr.heap.size x) := KidAt.new _ _
      have hz1 : (wr.alloc (.cells (kkC x).toArray 52)).heap.size = wr.heap.size + 1 := asz _ _
      have HB1 : Hid (Below w.heap.size w (wr.alloc (.cells (kkC x).toArray 52))) := hbl.out.alloc hbl.out.size _
      generalize wr.alloc (.cells (kkC x).toArray 52) = W1 at HK hz1 HB1 ⊢
      have hzr := hbl.out.size
      clear RX
      obtain ⟨W0, hW0⟩ : ∃ x, W1.drew = x := ⟨_, rfl⟩
      have hS0 : KidAt W0 wr.heap.size x ∧ W0.rangeAt b2 off2 (kkC y0) := by
        rw [← hW0]
        exact ⟨HK.out, fun j v hv => (HB1.out.drew.cell (p := ⟨b2, off2 + j, none⟩) hB2).trans (R0.out j v hv)⟩
      have HBD : Hid (Below w.heap.size w W0) := by rw [← hW0]; exact HB1.out.drew
      have hsz0 : W0.heap.size = wr.heap.size + 1 := by rw [← hW0]; exact hz1
      clear HB1 hz1 HK
      have hzk : (ByteArray.mk x.1.toArray).size = x.1.length := rfl
      have hl0 : (0 : Int) < l.length := by omega
      by_cases hs1 : 16 < x.1.length
      · have hno : Hid (¬ GoodKs l) := fun h => by have := h.key _ (List.mem_of_getElem? HX.out); omega
        have hd1 : decide ((16 : Int) < x.1.length) = true := decide_eq_true (by omega)
        refine region_begin hW0 (S := fun W => KidAt W wr.heap.size x ∧ W.rangeAt b2 off2 (kkC y0)) (by kernel_rfl) hS0 (fun hHeld => ?_)
        clear hW0 hS0
        refine take_at (i := 0) (.pointer (some ⟨wr.heap.size, 0, none⟩)) (some 20) (by decide) (by rfl) (by kernel_rfl) (by kernel_rfl) (by kernel_rfl) (fun _ _ _ h => h) (by rfl) (fun W hW => by go_simp) (by assumption) ?_
        try simp only [Act.put, List.setIfInBounds_toArray, List.set_cons_zero, List.set_cons_succ]
        refine take_at (i := 1) (.string ⟨x.1.toArray⟩) (some 21) (by decide) (by rfl) (by kernel_rfl) (by kernel_rfl) (by kernel_rfl) (fun _ _ _ h => h) (by rfl) (fun W hW => by have := hW.1.key; go_simp) (by assumption) ?_
        try simp only [Act.put, List.setIfInBounds_toArray, List.set_cons_zero, List.set_cons_succ]
        refine take_at (i := 2) (.int .i64 x.1.length) (some 22) (by decide) (by rfl) (by kernel_rfl) (by kernel_rfl) (by kernel_rfl) (fun _ _ _ h => h) (by rfl) (fun W hW => by go_simp) (by assumption) ?_
        try simp only [Act.put, List.setIfInBounds_toArray, List.set_cons_zero, List.set_cons_succ]
        refine take_at (i := 3) (.bool true) (some 23) (by decide) (by rfl) (by kernel_rfl) (by kernel_rfl) (by kernel_rfl) (fun _ _ _ h => h) (by rfl) (fun W hW => by go_simp) (by assumption) ?_
        try simp only [Act.put, List.setIfInBounds_toArray, List.set_cons_zero, List.set_cons_succ]
        refine take_at (i := 4) (.bool true) (some 24) (by decide) (by rfl) (by kernel_rfl) (by kernel_rfl) (by kernel_rfl) (fun _ _ _ h => h) (by rfl) (fun W hW => by go_simp) (by assumption) ?_
        try simp only [Act.put, List.setIfInBounds_toArray, List.set_cons_zero, List.set_cons_succ]
        refine skip_at (i := 5) (some 25) (by decide) (by rfl) (by kernel_rfl) (by kernel_rfl) (by kernel_rfl) (fun _ _ _ h => h) (by rfl) (by assumption) ?_
        try simp only [Act.put, List.setIfInBounds_toArray, List.set_cons_zero, List.set_cons_succ]
        refine skip_at (i := 6) (some 26) (by decide) (by rfl) (by kernel_rfl) (by kernel_rfl) (by kernel_rfl) (fun _ _ _ h => h) (by rfl) (by assumption) ?_
        try simp only [Act.put, List.setIfInBounds_toArray, List.set_cons_zero, List.set_cons_succ]
        refine skip_at (i := 7) (some 27) (by decide) (by rfl) (by kernel_rfl) (by kernel_rfl) (by kernel_rfl) (fun _ _ _ h => h) (by rfl) (by assumption) ?_
        try simp only [Act.put, List.setIfInBounds_toArray, List.set_cons_zero, List.set_cons_succ]
        refine skip_at (i := 8) (some 28) (by decide) (by rfl) (by kernel_rfl) (by kernel_rfl) (by kernel_rfl) (fun _ _ _ h => h) (by rfl) (by assumption) ?_
        try simp only [Act.put, List.setIfInBounds_toArray, List.set_cons_zero, List.set_cons_succ]
        refine take_at (i := 9) (.bool true) (some 29) (by decide) (by rfl) (by kernel_rfl) (by kernel_rfl) (by kernel_rfl) (fun _ _ _ h => h) (by rfl) (fun W hW => by go_simp) (by assumption) ?_
        try simp only [Act.put, List.setIfInBounds_toArray, List.set_cons_zero, List.set_cons_succ]
        refine take_at (i := 10) (.bool true) (some 30) (by decide) (by rfl) (by kernel_rfl) (by kernel_rfl) (by kernel_rfl) (fun _ _ _ h => h) (by rfl) (fun W hW => by go_simp) (by assumption) ?_
        try simp only [Act.put, List.setIfInBounds_toArray, List.set_cons_zero, List.set_cons_succ]
        refine skip_at (i := 11) (some 31) (by decide) (by rfl) (by kernel_rfl) (by kernel_rfl) (by kernel_rfl) (fun _ _ _ h => h) (by rfl) (by assumption) ?_
        try simp only [Act.put, List.setIfInBounds_toArray, List.set_cons_zero, List.set_cons_succ]
        refine skip_at (i := 12) (some 32) (by decide) (by rfl) (by kernel_rfl) (by kernel_rfl) (by kernel_rfl) (fun _ _ _ h => h) (by rfl) (by assumption) ?_
        try simp only [Act.put, List.setIfInBounds_toArray, List.set_cons_zero, List.set_cons_succ]
        refine skip_at (i := 13) (some 33) (by decide) (by rfl) (by kernel_rfl) (by kernel_rfl) (by kernel_rfl) (fun _ _ _ h => h) (by rfl) (by assumption) ?_
        try simp only [Act.put, List.setIfInBounds_toArray, List.set_cons_zero, List.set_cons_succ]
        refine skip_at (i := 14) (some 34) (by decide) (by rfl) (by kernel_rfl) (by kernel_rfl) (by kernel_rfl) (fun _ _ _ h => h) (by rfl) (by assumption) ?_
        try simp only [Act.put, List.setIfInBounds_toArray, List.set_cons_zero, List.set_cons_succ]
        refine skip_at (i := 15) (some 35) (by decide) (by rfl) (by kernel_rfl) (by kernel_rfl) (by kernel_rfl) (fun _ _ _ h => h) (by rfl) (by assumption) ?_
        try simp only [Act.put, List.setIfInBounds_toArray, List.set_cons_zero, List.set_cons_succ]
        refine skip_at (i := 16) (some 36) (by decide) (by rfl) (by kernel_rfl) (by kernel_rfl) (by kernel_rfl) (fun _ _ _ h => h) (by rfl) (by assumption) ?_
        try simp only [Act.put, List.setIfInBounds_toArray, List.set_cons_zero, List.set_cons_succ]
        refine skip_at (i := 17) (some 37) (by decide) (by rfl) (by kernel_rfl) (by kernel_rfl) (by kernel_rfl) (fun _ _ _ h => h) (by rfl) (by assumption) ?_
        try simp only [Act.put, List.setIfInBounds_toArray, List.set_cons_zero, List.set_cons_succ]
        refine skip_at (i := 18) (some 38) (by decide) (by rfl) (by kernel_rfl) (by kernel_rfl) (by kernel_rfl) (fun _ _ _ h => h) (by rfl) (by assumption) ?_
        try simp only [Act.put, List.setIfInBounds_toArray, List.set_cons_zero, List.set_cons_succ]
        refine skip_at (i := 19) (some 39) (by decide) (by rfl) (by kernel_rfl) (by kernel_rfl) (by kernel_rfl) (fun _ _ _ h => h) (by rfl) (by assumption) ?_
        try simp only [Act.put, List.setIfInBounds_toArray, List.set_cons_zero, List.set_cons_succ]
        refine take_at (i := 20) (.bool true) (some 40) (by decide) (by rfl) (by kernel_rfl) (by kernel_rfl) (by kernel_rfl) (fun _ _ _ h => h) (by rfl) (fun W hW => by go_simp) (by assumption) ?_
        try simp only [Act.put, List.setIfInBounds_toArray, List.set_cons_zero, List.set_cons_succ]
        refine wpAnyH_done (by kernel_rfl) ?_ _
        try simp only [Act.put, List.setIfInBounds_toArray, List.set_cons_zero, List.set_cons_succ]
        go_wp2_with fail
        go_ret
        exact ⟨false, rfl, ⟨(fun h => by cases h), fun h => absurd h hno.out⟩, HBD.out⟩
      have hd1 : decide ((16 : Int) < x.1.length) = false := decide_eq_false (by omega)
      have hgood := fun W => good_l x.2.1 W x.2.2
      cases hg : goodI x.2.1
      · have hno : Hid (¬ GoodKs l) := fun h => by have := h.name _ (List.mem_of_getElem? HX.out); rw [hg] at this; cases this
        rw [hg] at hgood
        have HGOOD := Lib.hid hgood
        clear hgood hg
        refine region_begin hW0 (S := fun W => KidAt W wr.heap.size x ∧ W.rangeAt b2 off2 (kkC y0)) (by kernel_rfl) hS0 (fun hHeld => ?_)
        clear hW0 hS0
        refine take_at (i := 0) (.pointer (some ⟨wr.heap.size, 0, none⟩)) (some 20) (by decide) (by rfl) (by kernel_rfl) (by kernel_rfl) (by kernel_rfl) (fun _ _ _ h => h) (by rfl) (fun W hW => by go_simp) (by assumption) ?_
        try simp only [Act.put, List.setIfInBounds_toArray, List.set_cons_zero, List.set_cons_succ]
        refine take_at (i := 1) (.string ⟨x.1.toArray⟩) (some 21) (by decide) (by rfl) (by kernel_rfl) (by kernel_rfl) (by kernel_rfl) (fun _ _ _ h => h) (by rfl) (fun W hW => by have := hW.1.key; go_simp) (by assumption) ?_
        try simp only [Act.put, List.setIfInBounds_toArray, List.set_cons_zero, List.set_cons_succ]
        refine take_at (i := 2) (.int .i64 x.1.length) (some 22) (by decide) (by rfl) (by kernel_rfl) (by kernel_rfl) (by kernel_rfl) (fun _ _ _ h => h) (by rfl) (fun W hW => by go_simp) (by assumption) ?_
        try simp only [Act.put, List.setIfInBounds_toArray, List.set_cons_zero, List.set_cons_succ]
        refine take_at (i := 3) (.bool false) (some 23) (by decide) (by rfl) (by kernel_rfl) (by kernel_rfl) (by kernel_rfl) (fun _ _ _ h => h) (by rfl) (fun W hW => by go_simp) (by assumption) ?_
        try simp only [Act.put, List.setIfInBounds_toArray, List.set_cons_zero, List.set_cons_succ]
        refine take_at (i := 4) (.bool false) (some 24) (by decide) (by rfl) (by kernel_rfl) (by kernel_rfl) (by kernel_rfl) (fun _ _ _ h => h) (by rfl) (fun W hW => by go_simp) (by assumption) ?_
        try simp only [Act.put, List.setIfInBounds_toArray, List.set_cons_zero, List.set_cons_succ]
        refine take_at (i := 5) (.pointer (some ⟨wr.heap.size, 1, none⟩)) (some 25) (by decide) (by rfl) (by kernel_rfl) (by kernel_rfl) (by kernel_rfl) (fun _ _ _ h => h) (by rfl) (fun W hW => by go_simp) (by assumption) ?_
        try simp only [Act.put, List.setIfInBounds_toArray, List.set_cons_zero, List.set_cons_succ]
        refine take_at (i := 6) (idV x.2.1) (some 26) (by decide) (by rfl) (by kernel_rfl) (by kernel_rfl) (by kernel_rfl) (fun _ _ _ h => h) (by rfl) (fun W hW => by exact exec_load_mid _ _ rfl wr.heap.size 1 rfl (vb x.2.1) _ hW.1.id Tryd.underlying27 rfl (cells_ii x.2)) (by assumption) ?_
        try simp only [Act.put, List.setIfInBounds_toArray, List.set_cons_zero, List.set_cons_succ]
        refine wpAnyH_ready (rs := [7]) (by kernel_rfl) (by simp) (AllReadyH.cons (Array.getElem?_eq_getElem (i := 7) (by decide)) (fun K9 hK => ?_) AllReadyH.nil)
        go_simp
        refine (HGOOD.out _).mono ?_
        rintro e w3 ⟨rfl, hb3⟩
        have HB3 := Lib.hid (HBD.out.trans (hb3.mono (by omega)))
        have hs3 := hb3.size
        refine hK.out _ _ (⟨hHeld.1.below hb3 (by omega), fun j v hv => (hb3.cell (p := ⟨b2, off2 + j, none⟩) (by show b2 < W0.heap.size; omega)).trans (hHeld.2 j v hv)⟩) (fun hHeld => ?_)
        clear hK K9
        try simp only [Act.put, List.setIfInBounds_toArray, List.set_cons_zero, List.set_cons_succ]
        clear hb3
        refine take_at (i := 8) (.bool true) (some 28) (by decide) (by rfl) (by kernel_rfl) (by kernel_rfl) (by kernel_rfl) (fun _ _ _ h => h) (by rfl) (fun W hW => by go_simp) (by assumption) ?_
        try simp only [Act.put, List.setIfInBounds_toArray, List.set_cons_zero, List.set_cons_succ]
        refine take_at (i := 9) (.bool true) (some 29) (by decide) (by rfl) (by kernel_rfl) (by kernel_rfl) (by kernel_rfl) (fun _ _ _ h => h) (by rfl) (fun W hW => by go_simp) (by assumption) ?_
        try simp only [Act.put, List.setIfInBounds_toArray, List.set_cons_zero, List.set_cons_succ]
        refine take_at (i := 10) (.bool true) (some 30) (by decide) (by rfl) (by kernel_rfl) (by kernel_rfl) (by kernel_rfl) (fun _ _ _ h => h) (by rfl) (fun W hW => by go_simp) (by assumption) ?_
        try simp only [Act.put, List.setIfInBounds_toArray, List.set_cons_zero, List.set_cons_succ]
        refine skip_at (i := 11) (some 31) (by decide) (by rfl) (by kernel_rfl) (by kernel_rfl) (by kernel_rfl) (fun _ _ _ h => h) (by rfl) (by assumption) ?_
        try simp only [Act.put, List.setIfInBounds_toArray, List.set_cons_zero, List.set_cons_succ]
        refine skip_at (i := 12) (some 32) (by decide) (by rfl) (by kernel_rfl) (by kernel_rfl) (by kernel_rfl) (fun _ _ _ h => h) (by rfl) (by assumption) ?_
        try simp only [Act.put, List.setIfInBounds_toArray, List.set_cons_zero, List.set_cons_succ]
        refine skip_at (i := 13) (some 33) (by decide) (by rfl) (by kernel_rfl) (by kernel_rfl) (by kernel_rfl) (fun _ _ _ h => h) (by rfl) (by assumption) ?_
        try simp only [Act.put, List.setIfInBounds_toArray, List.set_cons_zero, List.set_cons_succ]
        refine skip_at (i := 14) (some 34) (by decide) (by rfl) (by kernel_rfl) (by kernel_rfl) (by kernel_rfl) (fun _ _ _ h => h) (by rfl) (by assumption) ?_
        try simp only [Act.put, List.setIfInBounds_toArray, List.set_cons_zero, List.set_cons_succ]
        refine skip_at (i := 15) (some 35) (by decide) (by rfl) (by kernel_rfl) (by kernel_rfl) (by kernel_rfl) (fun _ _ _ h => h) (by rfl) (by assumption) ?_
        try simp only [Act.put, List.setIfInBounds_toArray, List.set_cons_zero, List.set_cons_succ]
        refine skip_at (i := 16) (some 36) (by decide) (by rfl) (by kernel_rfl) (by kernel_rfl) (by kernel_rfl) (fun _ _ _ h => h) (by rfl) (by assumption) ?_
        try simp only [Act.put, List.setIfInBounds_toArray, List.set_cons_zero, List.set_cons_succ]
        refine skip_at (i := 17) (some 37) (by decide) (by rfl) (by kernel_rfl) (by kernel_rfl) (by kernel_rfl) (fun _ _ _ h => h) (by rfl) (by assumption) ?_
        try simp only [Act.put, List.setIfInBounds_toArray, List.set_cons_zero, List.set_cons_succ]
        refine skip_at (i := 18) (some 38) (by decide) (by rfl) (by kernel_rfl) (by kernel_rfl) (by kernel_rfl) (fun _ _ _ h => h) (by rfl) (by assumption) ?_
        try simp only [Act.put, List.setIfInBounds_toArray, List.set_cons_zero, List.set_cons_succ]
        refine skip_at (i := 19) (some 39) (by decide) (by rfl) (by kernel_rfl) (by kernel_rfl) (by kernel_rfl) (fun _ _ _ h => h) (by rfl) (by assumption) ?_
        try simp only [Act.put, List.setIfInBounds_toArray, List.set_cons_zero, List.set_cons_succ]
        refine take_at (i := 20) (.bool true) (some 40) (by decide) (by rfl) (by kernel_rfl) (by kernel_rfl) (by kernel_rfl) (fun _ _ _ h => h) (by rfl) (fun W hW => by go_simp) (by assumption) ?_
        try simp only [Act.put, List.setIfInBounds_toArray, List.set_cons_zero, List.set_cons_succ]
        refine wpAnyH_done (by kernel_rfl) ?_ _
        try simp only [Act.put, List.setIfInBounds_toArray, List.set_cons_zero, List.set_cons_succ]
        go_wp2_with fail
        go_ret
        exact ⟨false, rfl, ⟨(fun h => by cases h), fun h => absurd h hno.out⟩, HB3.out⟩
      · have HG := Lib.hid hg
        rw [hg] at hgood
        have HGOOD := Lib.hid hgood
        clear hgood hg
        by_cases hkk : kd x.2 = kd y0.2
        · have hp2 : Hid (∀ (j : Nat) p, j < k + 1 → l[j]? = some p → p.1.length ≤ 16 ∧ goodI p.2.1 = true ∧ kd p.2 = kd y0.2) := fun j p hj hjp => by
            by_cases e : j = k
            · subst e
              rw [HX.out] at hjp
              injection hjp with hjp
              subst hjp
              exact ⟨by omega, HG.out, hkk⟩
            · exact hp.out j p (by omega) hjp
          have hnq : (((kd x.2).toNat : Int) != ((kd y0.2).toNat : Int)) = false := by rw [hkk]; simp
          clear hkk
          refine region_begin hW0 (S := fun W => KidAt W wr.heap.size x ∧ W.rangeAt b2 off2 (kkC y0)) (by kernel_rfl) hS0 (fun hHeld => ?_)
          clear hW0 hS0
          refine take_at (i := 0) (.pointer (some ⟨wr.heap.size, 0, none⟩)) (some 20) (by decide) (by rfl) (by kernel_rfl) (by kernel_rfl) (by kernel_rfl) (fun _ _ _ h => h) (by rfl) (fun W hW => by go_simp) (by assumption) ?_
          try simp only [Act.put, List.setIfInBounds_toArray, List.set_cons_zero, List.set_cons_succ]
          refine take_at (i := 1) (.string ⟨x.1.toArray⟩) (some 21) (by decide) (by rfl) (by kernel_rfl) (by kernel_rfl) (by kernel_rfl) (fun _ _ _ h => h) (by rfl) (fun W hW => by have := hW.1.key; go_simp) (by assumption) ?_
          try simp only [Act.put, List.setIfInBounds_toArray, List.set_cons_zero, List.set_cons_succ]
          refine take_at (i := 2) (.int .i64 x.1.length) (some 22) (by decide) (by rfl) (by kernel_rfl) (by kernel_rfl) (by kernel_rfl) (fun _ _ _ h => h) (by rfl) (fun W hW => by go_simp) (by assumption) ?_
          try simp only [Act.put, List.setIfInBounds_toArray, List.set_cons_zero, List.set_cons_succ]
          refine take_at (i := 3) (.bool false) (some 23) (by decide) (by rfl) (by kernel_rfl) (by kernel_rfl) (by kernel_rfl) (fun _ _ _ h => h) (by rfl) (fun W hW => by go_simp) (by assumption) ?_
          try simp only [Act.put, List.setIfInBounds_toArray, List.set_cons_zero, List.set_cons_succ]
          refine take_at (i := 4) (.bool false) (some 24) (by decide) (by rfl) (by kernel_rfl) (by kernel_rfl) (by kernel_rfl) (fun _ _ _ h => h) (by rfl) (fun W hW => by go_simp) (by assumption) ?_
          try simp only [Act.put, List.setIfInBounds_toArray, List.set_cons_zero, List.set_cons_succ]
          refine take_at (i := 5) (.pointer (some ⟨wr.heap.size, 1, none⟩)) (some 25) (by decide) (by rfl) (by kernel_rfl) (by kernel_rfl) (by kernel_rfl) (fun _ _ _ h => h) (by rfl) (fun W hW => by go_simp) (by assumption) ?_
          try simp only [Act.put, List.setIfInBounds_toArray, List.set_cons_zero, List.set_cons_succ]
          refine take_at (i := 6) (idV x.2.1) (some 26) (by decide) (by rfl) (by kernel_rfl) (by kernel_rfl) (by kernel_rfl) (fun _ _ _ h => h) (by rfl) (fun W hW => by exact exec_load_mid _ _ rfl wr.heap.size 1 rfl (vb x.2.1) _ hW.1.id Tryd.underlying27 rfl (cells_ii x.2)) (by assumption) ?_
          try simp only [Act.put, List.setIfInBounds_toArray, List.set_cons_zero, List.set_cons_succ]
          refine wpAnyH_ready (rs := [7]) (by kernel_rfl) (by simp) (AllReadyH.cons (Array.getElem?_eq_getElem (i := 7) (by decide)) (fun K9 hK => ?_) AllReadyH.nil)
          go_simp
          refine (HGOOD.out _).mono ?_
          rintro e w3 ⟨rfl, hb3⟩
          have HB3 := Lib.hid (HBD.out.trans (hb3.mono (by omega)))
          have hs3 := hb3.size
          refine hK.out _ _ (⟨hHeld.1.below hb3 (by omega), fun j v hv => (hb3.cell (p := ⟨b2, off2 + j, none⟩) (by show b2 < W0.heap.size; omega)).trans (hHeld.2 j v hv)⟩) (fun hHeld => ?_)
          clear hK K9
          try simp only [Act.put, List.setIfInBounds_toArray, List.set_cons_zero, List.set_cons_succ]
          clear hb3
          refine take_at (i := 8) (.bool false) (some 28) (by decide) (by rfl) (by kernel_rfl) (by kernel_rfl) (by kernel_rfl) (fun _ _ _ h => h) (by rfl) (fun W hW => by go_simp) (by assumption) ?_
          try simp only [Act.put, List.setIfInBounds_toArray, List.set_cons_zero, List.set_cons_succ]
          refine take_at (i := 9) (.bool false) (some 29) (by decide) (by rfl) (by kernel_rfl) (by kernel_rfl) (by kernel_rfl) (fun _ _ _ h => h) (by rfl) (fun W hW => by go_simp) (by assumption) ?_
          try simp only [Act.put, List.setIfInBounds_toArray, List.set_cons_zero, List.set_cons_succ]
          refine take_at (i := 10) (.bool false) (some 30) (by decide) (by rfl) (by kernel_rfl) (by kernel_rfl) (by kernel_rfl) (fun _ _ _ h => h) (by rfl) (fun W hW => by go_simp) (by assumption) ?_
          try simp only [Act.put, List.setIfInBounds_toArray, List.set_cons_zero, List.set_cons_succ]
          refine take_at (i := 11) (.pointer (some ⟨wr.heap.size, 1, none⟩)) (some 31) (by decide) (by rfl) (by kernel_rfl) (by kernel_rfl) (by kernel_rfl) (fun _ _ _ h => h) (by rfl) (fun W hW => by go_simp) (by assumption) ?_
          try simp only [Act.put, List.setIfInBounds_toArray, List.set_cons_zero, List.set_cons_succ]
          refine take_at (i := 12) (.pointer (some ⟨wr.heap.size, 1, none⟩)) (some 32) (by decide) (by rfl) (by kernel_rfl) (by kernel_rfl) (by kernel_rfl) (fun _ _ _ h => h) (by rfl) (fun W hW => by go_simp) (by assumption) ?_
          try simp only [Act.put, List.setIfInBounds_toArray, List.set_cons_zero, List.set_cons_succ]
          refine take_at (i := 13) (.int .u8 (kd x.2).toNat) (some 33) (by decide) (by rfl) (by kernel_rfl) (by kernel_rfl) (by kernel_rfl) (fun _ _ _ h => h) (by rfl) (fun W hW => by have := hW.1.kind; go_simp) (by assumption) ?_
          try simp only [Act.put, List.setIfInBounds_toArray, List.set_cons_zero, List.set_cons_succ]
          refine take_at (i := 14) (.slice (some ⟨b2, off2, none⟩) l.length c) (some 34) (by decide) (by rfl) (by kernel_rfl) (by kernel_rfl) (by kernel_rfl) (fun _ _ _ h => h) (by rfl) (fun W hW => by go_simp) (by assumption) ?_
          try simp only [Act.put, List.setIfInBounds_toArray, List.set_cons_zero, List.set_cons_succ]
          refine take_at (i := 15) (.pointer (some ⟨b2, off2, none⟩)) (some 35) (by decide) (by rfl) (by kernel_rfl) (by kernel_rfl) (by kernel_rfl) (fun _ _ _ h => h) (by rfl) (fun W hW => by go_simp; intro he; rw [he] at hlt; simp at hlt) (by assumption) ?_
          try simp only [Act.put, List.setIfInBounds_toArray, List.set_cons_zero, List.set_cons_succ]
          refine take_at (i := 16) (.pointer (some ⟨b2, off2 + 1, none⟩)) (some 36) (by decide) (by rfl) (by kernel_rfl) (by kernel_rfl) (by kernel_rfl) (fun _ _ _ h => h) (by rfl) (fun W hW => by go_simp) (by assumption) ?_
          try simp only [Act.put, List.setIfInBounds_toArray, List.set_cons_zero, List.set_cons_succ]
          refine take_at (i := 17) (.pointer (some ⟨b2, off2 + 1, none⟩)) (some 37) (by decide) (by rfl) (by kernel_rfl) (by kernel_rfl) (by kernel_rfl) (fun _ _ _ h => h) (by rfl) (fun W hW => by go_simp) (by assumption) ?_
          try simp only [Act.put, List.setIfInBounds_toArray, List.set_cons_zero, List.set_cons_succ]
          refine take_at (i := 18) (.int .u8 (kd y0.2).toNat) (some 38) (by decide) (by rfl) (by kernel_rfl) (by kernel_rfl) (by kernel_rfl) (fun _ _ _ h => h) (by rfl) (fun W hW => by have := range_kind hW.2; go_simp) (by assumption) ?_
          try simp only [Act.put, List.setIfInBounds_toArray, List.set_cons_zero, List.set_cons_succ]
          refine take_at (i := 19) (.bool false) (some 39) (by decide) (by rfl) (by kernel_rfl) (by kernel_rfl) (by kernel_rfl) (fun _ _ _ h => h) (by rfl) (fun W hW => by go_simp) (by assumption) ?_
          try simp only [Act.put, List.setIfInBounds_toArray, List.set_cons_zero, List.set_cons_succ]
          refine take_at (i := 20) (.bool false) (some 40) (by decide) (by rfl) (by kernel_rfl) (by kernel_rfl) (by kernel_rfl) (fun _ _ _ h => h) (by rfl) (fun W hW => by go_simp) (by assumption) ?_
          try simp only [Act.put, List.setIfInBounds_toArray, List.set_cons_zero, List.set_cons_succ]
          refine wpAnyH_done (by kernel_rfl) ?_ _
          try simp only [Act.put, List.setIfInBounds_toArray, List.set_cons_zero, List.set_cons_succ]
          go_wp2_with fail
          have d3 := hHeld.1.key
          by_cases h0 : 0 < k
          · obtain ⟨j, rfl⟩ : ∃ j, k = j + 1 := ⟨k - 1, by omega⟩
            obtain ⟨y, hyk⟩ : ∃ y, l[j]? = some y := ⟨l[j], List.getElem?_eq_getElem (by omega)⟩
            obtain ⟨b3, off3, e3, hB3, ry⟩ := KsIn.range (H.out.below HB3.out) hyk
            injection e3 with e3
            injection e3 with e3 e4
            subst e3 e4
            have f0 := range_key ry
            have HY := Lib.hid hyk
            clear hyk ry
            have hgd : decide ((0 : Int) < (j : Int) + 1) = true := decide_eq_true (by omega)
            have hle := less_of y.1 x.1
            by_cases hov : y.1 < x.1
            · rw [decide_eq_true hov] at hle
              have hq2 : Hid (∀ (i : Nat) a b, i + 1 < j + 1 + 1 → l[i]? = some a → l[i + 1]? = some b → a.1 < b.1) := fun i a b hi ha hb => by
                by_cases e : i = j
                · subst e
                  rw [HY.out] at ha
                  rw [HX.out] at hb
                  injection ha with ha
                  injection hb with hb
                  subst ha hb
                  exact hov
                · exact hq.out i a b (by omega) ha hb
              clear hov
              go_quiet (fail)
              go_wp2_with fail
              go_roundw
              case rel => exact ⟨j + 1 + 1, by go_num, by omega, hp2, hq2, below_drewN HB3.out _⟩
              case measure => simp [intOf]; omega
            · rw [decide_eq_false hov] at hle
              have hno : Hid (¬ GoodKs l) := fun h => hov (rises_to h.rise HY.out HX.out)
              clear hov
              go_quiet (fail)
              go_wp2_with fail
              go_ret
              exact ⟨false, rfl, ⟨(fun h => by cases h), fun h => absurd h hno.out⟩, below_drewN HB3.out _⟩
          · obtain rfl : k = 0 := by omega
            have hgd : decide ((0 : Int) < ((0 : Nat) : Int)) = false := rfl
            have hq2 : Hid (∀ (i : Nat) a b, i + 1 < 0 + 1 → l[i]? = some a → l[i + 1]? = some b → a.1 < b.1) := fun i a b hi => by omega
            go_quiet (fail)
            go_wp2_with fail
            go_roundw
            case rel => exact ⟨0 + 1, by go_num, by omega, hp2, hq2, below_drewN HB3.out _⟩
            case measure => simp [intOf]; omega
        · have hno : Hid (¬ GoodKs l) := fun h => hkk (h.kind _ (List.mem_of_getElem? HX.out) _ HY0.out)
          have hnq : (((kd x.2).toNat : Int) != ((kd y0.2).toNat : Int)) = true := by
            rw [bne_iff_ne]
            exact fun e => hkk (UInt8.toNat_inj.1 (by omega))
          clear hkk
          refine region_begin hW0 (S := fun W => KidAt W wr.heap.size x ∧ W.rangeAt b2 off2 (kkC y0)) (by kernel_rfl) hS0 (fun hHeld => ?_)
          clear hW0 hS0
          refine take_at (i := 0) (.pointer (some ⟨wr.heap.size, 0, none⟩)) (some 20) (by decide) (by rfl) (by kernel_rfl) (by kernel_rfl) (by kernel_rfl) (fun _ _ _ h => h) (by rfl) (fun W hW => by go_simp) (by assumption) ?_
          try simp only [Act.put, List.setIfInBounds_toArray, List.set_cons_zero, List.set_cons_succ]
          refine take_at (i := 1) (.string ⟨x.1.toArray⟩) (some 21) (by decide) (by rfl) (by kernel_rfl) (by kernel_rfl) (by kernel_rfl) (fun _ _ _ h => h) (by rfl) (fun W hW => by have := hW.1.key; go_simp) (by assumption) ?_
          try simp only [Act.put, List.setIfInBounds_toArray, List.set_cons_zero, List.set_cons_succ]
          refine take_at (i := 2) (.int .i64 x.1.length) (some 22) (by decide) (by rfl) (by kernel_rfl) (by kernel_rfl) (by kernel_rfl) (fun _ _ _ h => h) (by rfl) (fun W hW => by go_simp) (by assumption) ?_
          try simp only [Act.put, List.setIfInBounds_toArray, List.set_cons_zero, List.set_cons_succ]
          refine take_at (i := 3) (.bool false) (some 23) (by decide) (by rfl) (by kernel_rfl) (by kernel_rfl) (by kernel_rfl) (fun _ _ _ h => h) (by rfl) (fun W hW => by go_simp) (by assumption) ?_
          try simp only [Act.put, List.setIfInBounds_toArray, List.set_cons_zero, List.set_cons_succ]
          refine take_at (i := 4) (.bool false) (some 24) (by decide) (by rfl) (by kernel_rfl) (by kernel_rfl) (by kernel_rfl) (fun _ _ _ h => h) (by rfl) (fun W hW => by go_simp) (by assumption) ?_
          try simp only [Act.put, List.setIfInBounds_toArray, List.set_cons_zero, List.set_cons_succ]
          refine take_at (i := 5) (.pointer (some ⟨wr.heap.size, 1, none⟩)) (some 25) (by decide) (by rfl) (by kernel_rfl) (by kernel_rfl) (by kernel_rfl) (fun _ _ _ h => h) (by rfl) (fun W hW => by go_simp) (by assumption) ?_
          try simp only [Act.put, List.setIfInBounds_toArray, List.set_cons_zero, List.set_cons_succ]
          refine take_at (i := 6) (idV x.2.1) (some 26) (by decide) (by rfl) (by kernel_rfl) (by kernel_rfl) (by kernel_rfl) (fun _ _ _ h => h) (by rfl) (fun W hW => by exact exec_load_mid _ _ rfl wr.heap.size 1 rfl (vb x.2.1) _ hW.1.id Tryd.underlying27 rfl (cells_ii x.2)) (by assumption) ?_
          try simp only [Act.put, List.setIfInBounds_toArray, List.set_cons_zero, List.set_cons_succ]
          refine wpAnyH_ready (rs := [7]) (by kernel_rfl) (by simp) (AllReadyH.cons (Array.getElem?_eq_getElem (i := 7) (by decide)) (fun K9 hK => ?_) AllReadyH.nil)
          go_simp
          refine (HGOOD.out _).mono ?_
          rintro e w3 ⟨rfl, hb3⟩
          have HB3 := Lib.hid (HBD.out.trans (hb3.mono (by omega)))
          have hs3 := hb3.size
          refine hK.out _ _ (⟨hHeld.1.below hb3 (by omega), fun j v hv => (hb3.cell (p := ⟨b2, off2 + j, none⟩) (by show b2 < W0.heap.size; omega)).trans (hHeld.2 j v hv)⟩) (fun hHeld => ?_)
          clear hK K9
          try simp only [Act.put, List.setIfInBounds_toArray, List.set_cons_zero, List.set_cons_succ]
          clear hb3
          refine take_at (i := 8) (.bool false) (some 28) (by decide) (by rfl) (by kernel_rfl) (by kernel_rfl) (by kernel_rfl) (fun _ _ _ h => h) (by rfl) (fun W hW => by go_simp) (by assumption) ?_
          try simp only [Act.put, List.setIfInBounds_toArray, List.set_cons_zero, List.set_cons_succ]
          refine take_at (i := 9) (.bool false) (some 29) (by decide) (by rfl) (by kernel_rfl) (by kernel_rfl) (by kernel_rfl) (fun _ _ _ h => h) (by rfl) (fun W hW => by go_simp) (by assumption) ?_
          try simp only [Act.put, List.setIfInBounds_toArray, List.set_cons_zero, List.set_cons_succ]
          refine take_at (i := 10) (.bool false) (some 30) (by decide) (by rfl) (by kernel_rfl) (by kernel_rfl) (by kernel_rfl) (fun _ _ _ h => h) (by rfl) (fun W hW => by go_simp) (by assumption) ?_
          try simp only [Act.put, List.setIfInBounds_toArray, List.set_cons_zero, List.set_cons_succ]
          refine take_at (i := 11) (.pointer (some ⟨wr.heap.size, 1, none⟩)) (some 31) (by decide) (by rfl) (by kernel_rfl) (by kernel_rfl) (by kernel_rfl) (fun _ _ _ h => h) (by rfl) (fun W hW => by go_simp) (by assumption) ?_
          try simp only [Act.put, List.setIfInBounds_toArray, List.set_cons_zero, List.set_cons_succ]
          refine take_at (i := 12) (.pointer (some ⟨wr.heap.size, 1, none⟩)) (some 32) (by decide) (by rfl) (by kernel_rfl) (by kernel_rfl) (by kernel_rfl) (fun _ _ _ h => h) (by rfl) (fun W hW => by go_simp) (by assumption) ?_
          try simp only [Act.put, List.setIfInBounds_toArray, List.set_cons_zero, List.set_cons_succ]
          refine take_at (i := 13) (.int .u8 (kd x.2).toNat) (some 33) (by decide) (by rfl) (by kernel_rfl) (by kernel_rfl) (by kernel_rfl) (fun _ _ _ h => h) (by rfl) (fun W hW => by have := hW.1.kind; go_simp) (by assumption) ?_
          try simp only [Act.put, List.setIfInBounds_toArray, List.set_cons_zero, List.set_cons_succ]
          refine take_at (i := 14) (.slice (some ⟨b2, off2, none⟩) l.length c) (some 34) (by decide) (by rfl) (by kernel_rfl) (by kernel_rfl) (by kernel_rfl) (fun _ _ _ h => h) (by rfl) (fun W hW => by go_simp) (by assumption) ?_
          try simp only [Act.put, List.setIfInBounds_toArray, List.set_cons_zero, List.set_cons_succ]
          refine take_at (i := 15) (.pointer (some ⟨b2, off2, none⟩)) (some 35) (by decide) (by rfl) (by kernel_rfl) (by kernel_rfl) (by kernel_rfl) (fun _ _ _ h => h) (by rfl) (fun W hW => by go_simp; intro he; rw [he] at hlt; simp at hlt) (by assumption) ?_
          try simp only [Act.put, List.setIfInBounds_toArray, List.set_cons_zero, List.set_cons_succ]
          refine take_at (i := 16) (.pointer (some ⟨b2, off2 + 1, none⟩)) (some 36) (by decide) (by rfl) (by kernel_rfl) (by kernel_rfl) (by kernel_rfl) (fun _ _ _ h => h) (by rfl) (fun W hW => by go_simp) (by assumption) ?_
          try simp only [Act.put, List.setIfInBounds_toArray, List.set_cons_zero, List.set_cons_succ]
          refine take_at (i := 17) (.pointer (some ⟨b2, off2 + 1, none⟩)) (some 37) (by decide) (by rfl) (by kernel_rfl) (by kernel_rfl) (by kernel_rfl) (fun _ _ _ h => h) (by rfl) (fun W hW => by go_simp) (by assumption) ?_
          try simp only [Act.put, List.setIfInBounds_toArray, List.set_cons_zero, List.set_cons_succ]
          refine take_at (i := 18) (.int .u8 (kd y0.2).toNat) (some 38) (by decide) (by rfl) (by kernel_rfl) (by kernel_rfl) (by kernel_rfl) (fun _ _ _ h => h) (by rfl) (fun W hW => by have := range_kind hW.2; go_simp) (by assumption) ?_
          try simp only [Act.put, List.setIfInBounds_toArray, List.set_cons_zero, List.set_cons_succ]
          refine take_at (i := 19) (.bool true) (some 39) (by decide) (by rfl) (by kernel_rfl) (by kernel_rfl) (by kernel_rfl) (fun _ _ _ h => h) (by rfl) (fun W hW => by go_simp) (by assumption) ?_
          try simp only [Act.put, List.setIfInBounds_toArray, List.set_cons_zero, List.set_cons_succ]
          refine take_at (i := 20) (.bool true) (some 40) (by decide) (by rfl) (by kernel_rfl) (by kernel_rfl) (by kernel_rfl) (fun _ _ _ h => h) (by rfl) (fun W hW => by go_simp) (by assumption) ?_
          try simp only [Act.put, List.setIfInBounds_toArray, List.set_cons_zero, List.set_cons_succ]
          refine wpAnyH_done (by kernel_rfl) ?_ _
          try simp only [Act.put, List.setIfInBounds_toArray, List.set_cons_zero, List.set_cons_succ]
          go_wp2_with fail
          go_ret
          exact ⟨false, rfl, ⟨(fun h => by cases h), fun h => absurd h hno.out⟩, HB3.out⟩
    · have hyes : Hid (GoodKs l) := ⟨by omega, by omega, fun p hpl => by
        obtain ⟨j, hj, rfl⟩ := List.getElem_of_mem hpl
        exact (hp.out j _ (by omega) (List.getElem?_eq_getElem hj)).1, fun p hpl => by
        obtain ⟨j, hj, rfl⟩ := List.getElem_of_mem hpl
        exact (hp.out j _ (by omega) (List.getElem?_eq_getElem hj)).2.1, fun p hpl q hq0 => by
        obtain ⟨j, hj, rfl⟩ := List.getElem_of_mem hpl
        rw [HY0.out] at hq0
        injection hq0 with hq0
        subst hq0
        exact (hp.out j _ (by omega) (List.getElem?_eq_getElem hj)).2.2, rises_of2 fun j a b ha hb => hq.out j a b (by have := (List.getElem?_eq_some_iff.1 hb).1; omega) ha hb⟩
      clear hp hq
      go_wp2_with fail
      go_ret
      exact ⟨true, rfl, ⟨fun _ => hyes.out, fun _ => rfl⟩, hbl.out⟩

end Go.Proofs.YthbahbcihaebeaaDoor.Cd

/-
  object.goodParents. Conditions: none.
-/
namespace Go.Proofs.YthbahbcihaebeaaDoor.Cd
open Go.RowKit

theorem IsIn.range {w : World} {B : Nat} {l : List Idn} {A : Option Addr} {m c : Nat} (h : IsIn w B (.slice A m c) l) {k : Nat} {p : Idn} (hk : l[k]? = some p) :
    ∃ b off, A = some ⟨b, off, none⟩ ∧ b < B ∧ w.rangeAt b (off + k * 33) (vb p.1) := RwIn.at h hk
theorem idAt_kind {w : World} {b : Nat} {x : Idn} (h : IdAt w b x.1) : w.cell? ⟨b, 0, none⟩ = some (.int .u8 (kd x).toNat) :=
  (cell_of_row _ _ _ _ _ _ h).trans (by rw [List.getElem?_toArray]; exact vb_kd x)

end Go.Proofs.YthbahbcihaebeaaDoor.Cd

/-
  object.GoodTree, object.GoodCommit. Conditions: none.
-/
namespace Go.Proofs.YthbahbcihaebeaaDoor.Cd
open Go.RowKit

/-- A tree by value. -/
def TreIn (w : World) (B : Nat) (v : Value) (t : Tre) : Prop := ∃ vp vk, v = .agg #[vp, vk] ∧ PsIn w B vp t.ps ∧ KsIn w B vk t.ks
/-- A commit's cells, its parents' slice given. -/
def cmC (c : Cmt) (vi : Value) : List Value := vb c.root.1 ++ [vi, .string ⟨c.note.toArray⟩, .int .i64 c.num]
/-- A commit by value. -/
def CmtIn (w : World) (B : Nat) (v : Value) (c : Cmt) : Prop := ∃ vi, v = .agg (cmC c vi).toArray ∧ IsIn w B vi c.is
theorem cmC_len (c : Cmt) (vi : Value) : (cmC c vi).length = 36 := by simp [cmC, vb_length, c.root.2]
theorem cmC_33 (c : Cmt) (vi : Value) : (cmC c vi)[33]? = some vi := by
  unfold cmC
  rw [List.getElem?_append_right (by rw [vb_length, c.root.2]; omega), vb_length, c.root.2]
  rfl
theorem cmC_34 (c : Cmt) (vi : Value) : (cmC c vi)[34]? = some (.string ⟨c.note.toArray⟩) := by
  unfold cmC
  rw [List.getElem?_append_right (by rw [vb_length, c.root.2]; omega), vb_length, c.root.2]
  rfl
theorem cmC_35 (c : Cmt) (vi : Value) : (cmC c vi)[35]? = some (.int .i64 c.num) := by
  unfold cmC
  rw [List.getElem?_append_right (by rw [vb_length, c.root.2]; omega), vb_length, c.root.2]
  rfl
theorem cmC_id (c : Cmt) (vi : Value) (j : Nat) (v : Value) (h : (vb c.root.1)[j]? = some v) : (cmC c vi)[j]? = some v := by
  have hj := (List.getElem?_eq_some_iff.1 h).1
  unfold cmC
  rw [List.getElem?_append_left hj]
  exact h
theorem cmC_one (c : Cmt) (vi : Value) (hv : vi.oneCell' = true) : ∀ u ∈ cmC c vi, u.oneCell' = true := by
  intro u hu
  unfold cmC at hu
  rw [List.mem_append] at hu
  rcases hu with hu | hu
  · exact vb_one _ u hu
  · simp only [List.mem_cons, List.not_mem_nil, or_false] at hu
    rcases hu with rfl | rfl | rfl
    · exact hv
    · rfl
    · rfl

set_option maxRecDepth 100000 in
set_option maxHeartbeats 1600000 in
theorem goodt_any (v : Value) (t : Tre) (w : World) (h : TreIn w w.heap.size v t) : Calls Tryd.prog 48 #[v] w (Says (GoodT t) w) := by
  obtain ⟨ps, ks⟩ := t
  obtain ⟨vp, vk, rfl, h1, h2⟩ := h
  have h1 : PsIn w w.heap.size vp ps := h1
  have h2 : KsIn w w.heap.size vk ks := h2
  obtain ⟨A1, c1, e1, k1, l1⟩ := h1.len
  obtain ⟨A2, c2, e2, k2, l2⟩ := h2.len
  have hb1 : Below w.heap.size w (w.alloc (.cells #[vp, vk] 56)) := new_below _ _
  have hz1 : (w.alloc (.cells #[vp, vk] 56)).heap.size = w.heap.size + 1 := asz _ _
  have H1 : Hid (PsIn (w.alloc (.cells #[vp, vk] 56)) (w.alloc (.cells #[vp, vk] 56)).heap.size vp ps) := h1.on hb1
  have H2 : Hid (KsIn (w.alloc (.cells #[vp, vk] 56)) (w.alloc (.cells #[vp, vk] 56)).heap.size vk ks) := h2.on hb1
  have HB1 := Lib.hid hb1
  have HZ1 := Lib.hid hz1
  clear h1 h2 hb1 hz1
  subst e1 e2
  by_cases hk : ks.length = 0
  · have hks : ks = [] := List.eq_nil_of_length_eq_zero hk
    subst hks
    have hiff : Hid (GoodPs ps ↔ GoodT ⟨ps, []⟩) := ⟨fun h => .inl ⟨rfl, h⟩, fun h => h.elim (fun h => h.2) (fun h => absurd rfl (goodKs_ne h.2))⟩
    go_enter Tryd.func48, Tryd.ntmps48
    go_wp2_with fail
    refine (goodps_any _ ps _ H1.out).mono ?_
    rintro e w2 ⟨s, rfl, hs, hb2⟩
    have HB2 := Lib.hid (HB1.out.trans (hb2.mono (by have := HZ1.out; omega)))
    have HS := Lib.hid hs
    clear hs hb2
    go_wp2_with fail
    go_ret
    exact ⟨s, rfl, HS.out.trans hiff.out, HB2.out⟩
  · have hkq : ((ks.length : Int) == 0) = false := by rw [beq_eq_false_iff_ne]; omega
    have hkne : Hid (ks ≠ []) := fun e => hk (by rw [e]; rfl)
    by_cases hp : ps.length = 0
    · have hps : ps = [] := List.eq_nil_of_length_eq_zero hp
      subst hps
      have hiff : Hid (GoodKs ks ↔ GoodT ⟨[], ks⟩) := ⟨fun h => .inr ⟨rfl, h⟩, fun h => h.elim (fun h => absurd h.1 hkne.out) (fun h => h.2)⟩
      clear hk hp
      go_enter Tryd.func48, Tryd.ntmps48
      go_wp2_with fail
      refine (goodks_any _ ks _ H2.out).mono ?_
      rintro e w2 ⟨s, rfl, hs, hb2⟩
      have HB2 := Lib.hid (HB1.out.trans (hb2.mono (by have := HZ1.out; omega)))
      clear hb2
      cases s
      · have hno : Hid (¬ GoodT ⟨[], ks⟩) := fun h => by have := (hs.trans hiff.out).2 h; cases this
        clear hs
        go_wp2_with fail
        go_ret
        exact ⟨false, rfl, ⟨(fun h => by cases h), fun h => absurd h hno.out⟩, HB2.out⟩
      · have hyes : Hid (GoodT ⟨[], ks⟩) := (hs.trans hiff.out).1 rfl
        clear hs
        go_wp2_with fail
        go_ret
        exact ⟨true, rfl, ⟨fun _ => hyes.out, fun _ => rfl⟩, HB2.out⟩
    · have hpq : ((ps.length : Int) == 0) = false := by rw [beq_eq_false_iff_ne]; omega
      have hno : Hid (¬ GoodT ⟨ps, ks⟩) := fun h => h.elim (fun h => hkne.out h.1) (fun h => hp (by have e : ps = [] := h.1; rw [e]; rfl))
      clear hk hp
      go_enter Tryd.func48, Tryd.ntmps48
      go_wp2_with fail
      go_ret
      exact ⟨false, rfl, ⟨(fun h => by cases h), fun h => absurd h hno.out⟩, HB1.out⟩

end Go.Proofs.YthbahbcihaebeaaDoor.Cd

/-
  object.putPairs. Conditions: not too many bytes.
-/
namespace Go.Proofs.YthbahbcihaebeaaDoor.Cd
open Go.RowKit

/-- Two bytes that were laid out a moment ago, a row of the call's own. -/
theorem own_two (w : World) (B : Nat) (hB : B ≤ w.heap.size) (a b : UInt8) (x y : Int) (hx : x = a.toNat) (hy : y = b.toNat) : Own (w.alloc (.cells #[.int .u8 x, .int .u8 y] 5)) B (.slice (some ⟨w.heap.size, 0, none⟩) 2 2) [a, b] := by
  subst hx hy
  exact ⟨by simp [vb_length], .inr ⟨w.heap.size, 2, _, rfl, hB, heap_alloc_new w _, Nat.le_refl _, by simp [maxLen], rfl, rfl⟩⟩
theorem own_sl {w : World} {B : Nat} {v : Value} {bs : List UInt8} (h : Own w B v bs) : Sl w w.heap.size v bs := h.sl
theorem wrap_len (n : Nat) : IntKind.u8.wrap (n : Int) = ((UInt8.ofNat n).toNat : Int) := by
  rw [UInt8.toNat_ofNat', IntKind.wrap_u8']
  omega
theorem psB_len {l : List Bp} {m : Nat} (h : (psB l).length ≤ m) {k : Nat} : (psB (l.take k)).length ≤ m := by
  refine Nat.le_trans ?_ h
  conv => rhs; rw [← List.take_append_drop k l]
  unfold psB
  rw [List.map_append, List.flatten_append, List.length_append]
  omega
theorem psB_take {l : List Bp} {k : Nat} {p : Bp} (h : l[k]? = some p) : psB (l.take (k + 1)) = psB (l.take k) ++ (txt p.1 ++ txt p.2) := by
  obtain ⟨hk, rfl⟩ := List.getElem?_eq_some_iff.1 h
  rw [List.take_succ_eq_append_getElem hk, psB_snoc]

/-- Block g is a pair. -/
def PairAt (w : World) (g : Nat) (p : Bp) : Prop := w.heap[g]? = some (.cells (ppC p).toArray 38)
theorem PairAt.key {w : World} {g : Nat} {p : Bp} (h : PairAt w g p) : w.cell? ⟨g, 0, none⟩ = some (.string ⟨p.1.toArray⟩) := cell_of_row _ _ _ _ _ _ h
theorem PairAt.val {w : World} {g : Nat} {p : Bp} (h : PairAt w g p) : w.cell? ⟨g, 1, none⟩ = some (.string ⟨p.2.toArray⟩) := cell_of_row _ _ _ _ _ _ h

theorem text_l2 (v : Value) (bs s : List UInt8) (w : World) (hs : Sl w w.heap.size v bs) (hb : bs.length + s.length ≤ 100000000) :
    Calls Tryd.prog 63 #[v, .string ⟨s.toArray⟩] w (Wrote w (bs ++ txt s)) := by
  have := text_any v bs ⟨s.toArray⟩ w hs (by have : (ByteArray.mk s.toArray).size = s.length := rfl; omega)
  exact this

set_option maxRecDepth 100000 in
set_option maxHeartbeats 3200000 in
theorem putps_any (v : Value) (l : List Bp) (w : World) (h : PsIn w w.heap.size v l) (hl : (psB l).length ≤ 1000000) : Calls Tryd.prog 50 #[v] w (Wrote w (1 :: UInt8.ofNat l.length :: psB l)) := by
  obtain ⟨A, c, rfl, hm1, hm2⟩ := h.len
  have H := Lib.hid h
  clear h
  have hwl := wrap_len l.length
  have hfin : Hid (psB (l.take l.length) = psB l) := by unfold Hid; rw [List.take_length]
  generalize UInt8.ofNat l.length = n8 at *
  have hO : Own (w.alloc (.cells #[.int .u8 1, .int .u8 n8.toNat] 5)) w.heap.size (.slice (some ⟨w.heap.size, 0, none⟩) 2 2) [1, n8] := own_two w _ (Nat.le_refl _) 1 n8 _ _ rfl rfl
  have HO := Lib.hid hO
  clear hO
  go_enter Tryd.func50, Tryd.ntmps50
  go_wp2_with fail
  go_loopw [3, 12] (fun u i wr => ∃ k : Nat, i = .int .i64 k ∧ k ≤ l.length ∧ Hid (Own wr w.heap.size u (1 :: n8 :: psB (l.take k))) ∧ Hid (Below w.heap.size w wr)) (fun _ i _ => l.length - (intOf i).toNat)
  case atStart => exact ⟨0, rfl, by omega, HO.out, new_below _ _⟩
  case round =>
    obtain ⟨k, rfl, hk, ho, hbl⟩ := hrel
    by_cases hlt : k < l.length
    · obtain ⟨x, hxk⟩ : ∃ x, l[k]? = some x := ⟨l[k], List.getElem?_eq_getElem hlt⟩
      obtain ⟨b2, off2, e2, hB2, d0, d1⟩ := PsIn.at2 (H.out.below hbl.out) hxk
      subst e2
      have hnx := psB_take hxk
      have hlk1 := psB_len hl (k := k + 1)
      rw [hnx] at hlk1
      have HNX := Lib.hid hnx
      clear hnx hxk
      generalize psB (l.take k) = R at *
      have hlk : R.length + ((enc x.1.length).length + x.1.length + ((enc x.2.length).length + x.2.length)) ≤ 1000000 := by simpa [txt_len] using hlk1
      clear hlk1
      have HP : Hid (PairAt (wr.alloc (.cells #[.string ⟨x.1.toArray⟩, .string ⟨x.2.toArray⟩] 38)) wr.heap.size x) := heap_alloc_new _ _
      have hz1 : (wr.alloc (.cells #[.string ⟨x.1.toArray⟩, .string ⟨x.2.toArray⟩] 38)).heap.size = wr.heap.size + 1 := asz _ _
      have HB1 : Hid (Below w.heap.size w (wr.alloc (.cells #[.string ⟨x.1.toArray⟩, .string ⟨x.2.toArray⟩] 38))) := hbl.out.alloc hbl.out.size _
      have HO1 : Hid (Own (wr.alloc (.cells #[.string ⟨x.1.toArray⟩, .string ⟨x.2.toArray⟩] 38)) w.heap.size u3 (1 :: n8 :: R)) := ho.out.alloc _
      have hzr := hbl.out.size
      go_wp2_with fail
      generalize wr.alloc (.cells #[.string ⟨x.1.toArray⟩, .string ⟨x.2.toArray⟩] 38) = W1 at *
      obtain ⟨W0, hW0⟩ : ∃ x, W1.drew = x := ⟨_, rfl⟩
      have hS0 : PairAt W0 wr.heap.size x := by rw [← hW0]; exact HP.out
      have HBD : Hid (Below w.heap.size w W0) := by rw [← hW0]; exact HB1.out.drew
      have HOD : Hid (Own W0 w.heap.size u3 (1 :: n8 :: R)) := by rw [← hW0]; exact HO1.out.drew
      have hs0 : W0.heap.size = wr.heap.size + 1 := by rw [← hW0]; exact hz1
      clear HP HB1 HO1 hz1
      refine region_begin hW0 (S := fun W => PairAt W wr.heap.size x) (by kernel_rfl) hS0 (fun hHeld => ?_)
      clear hW0 hS0
      refine take_at (i := 0) (u3) (some 16) (by decide) (by rfl) (by kernel_rfl) (by kernel_rfl) (by kernel_rfl) (fun _ _ _ h => h) (by rfl) (fun W hW => by go_simp) (by assumption) ?_
      try simp only [Act.put, List.setIfInBounds_toArray, List.set_cons_zero, List.set_cons_succ]
      refine take_at (i := 1) (.pointer (some ⟨wr.heap.size, 0, none⟩)) (some 17) (by decide) (by rfl) (by kernel_rfl) (by kernel_rfl) (by kernel_rfl) (fun _ _ _ h => h) (by rfl) (fun W hW => by go_simp) (by assumption) ?_
      try simp only [Act.put, List.setIfInBounds_toArray, List.set_cons_zero, List.set_cons_succ]
      refine take_at (i := 2) (.string ⟨x.1.toArray⟩) (some 18) (by decide) (by rfl) (by kernel_rfl) (by kernel_rfl) (by kernel_rfl) (fun _ _ _ h => h) (by rfl) (fun W hW => by have := hW.key; go_simp) (by assumption) ?_
      try simp only [Act.put, List.setIfInBounds_toArray, List.set_cons_zero, List.set_cons_succ]
      refine take_at (i := 4) (.pointer (some ⟨wr.heap.size, 1, none⟩)) (some 20) (by decide) (by rfl) (by kernel_rfl) (by kernel_rfl) (by kernel_rfl) (fun _ _ _ h => h) (by rfl) (fun W hW => by go_simp) (by assumption) ?_
      try simp only [Act.put, List.setIfInBounds_toArray, List.set_cons_zero, List.set_cons_succ]
      refine take_at (i := 5) (.string ⟨x.2.toArray⟩) (some 21) (by decide) (by rfl) (by kernel_rfl) (by kernel_rfl) (by kernel_rfl) (fun _ _ _ h => h) (by rfl) (fun W hW => by have := hW.val; go_simp) (by assumption) ?_
      try simp only [Act.put, List.setIfInBounds_toArray, List.set_cons_zero, List.set_cons_succ]
      refine wpAnyH_ready (rs := [3]) (by kernel_rfl) (by simp) (AllReadyH.cons (Array.getElem?_eq_getElem (i := 3) (by decide)) (fun K9 hK => ?_) AllReadyH.nil)
      go_simp
      refine (text_l2 u3 (1 :: n8 :: R) x.1 _ (HOD.out.sl) (by simp only [List.length_cons]; omega)).mono ?_
      rintro e w3 ⟨v3, rfl, ho3, hb3⟩
      have HB3 := Lib.hid (HBD.out.trans (hb3.mono (by omega)))
      have HO3 := Lib.hid (ho3.lower (by omega : w.heap.size ≤ W0.heap.size))
      have hs3 := hb3.size
      refine hK.out _ _ (hb3.block _ (by omega) |>.trans hHeld) (fun hHeld => ?_)
      clear hK K9
      try simp only [Act.put, List.setIfInBounds_toArray, List.set_cons_zero, List.set_cons_succ]
      clear hb3 ho3
      refine wpAnyH_ready (rs := [6]) (by kernel_rfl) (by simp) (AllReadyH.cons (Array.getElem?_eq_getElem (i := 6) (by decide)) (fun K9 hK => ?_) AllReadyH.nil)
      go_simp
      refine (text_l2 v3 ((1 :: n8 :: R) ++ txt x.1) x.2 _ (HO3.out.sl) (by simp only [List.length_cons, List.length_append, txt_len]; omega)).mono ?_
      rintro e w5 ⟨v5, rfl, ho5, hb5⟩
      have HB5 := Lib.hid (HB3.out.trans (hb5.mono (by omega)))
      have HO5 := Lib.hid (ho5.lower (by omega : w.heap.size ≤ w3.heap.size))
      refine hK.out _ _ (hb5.block _ (by omega) |>.trans hHeld) (fun hHeld => ?_)
      clear hK K9
      try simp only [Act.put, List.setIfInBounds_toArray, List.set_cons_zero, List.set_cons_succ]
      clear hb5 ho5
      refine take_at (i := 7) (v5) (some 3) (by decide) (by rfl) (by kernel_rfl) (by kernel_rfl) (by kernel_rfl) (fun _ _ _ h => h) (by rfl) (fun W hW => by go_simp) (by assumption) ?_
      try simp only [Act.put, List.setIfInBounds_toArray, List.set_cons_zero, List.set_cons_succ]
      refine wpAnyH_done (by kernel_rfl) ?_ _
      try simp only [Act.put, List.setIfInBounds_toArray, List.set_cons_zero, List.set_cons_succ]
      go_wp2_with fail
      go_roundw
      case rel => exact ⟨k + 1, by go_num, by omega, by rw [HNX.out]; show Own w5 w.heap.size v5 _; have := HO5.out; simpa using this, HB5.out⟩
      case measure => simp [intOf]; omega
    · have hkk : k = l.length := by omega
      subst hkk
      go_wp2_with fail
      go_ret
      have h1 := ho.out
      rw [hfin.out] at h1
      exact ⟨_, rfl, h1, hbl.out⟩

end Go.Proofs.YthbahbcihaebeaaDoor.Cd

/-
  object.putKids. Conditions: not too many bytes.
-/
namespace Go.Proofs.YthbahbcihaebeaaDoor.Cd
open Go.RowKit

theorem ksB_len {l : List Kd} {m : Nat} (h : (ksB l).length ≤ m) {k : Nat} : (ksB (l.take k)).length ≤ m := by
  refine Nat.le_trans ?_ h
  conv => rhs; rw [← List.take_append_drop k l]
  unfold ksB
  rw [List.map_append, List.flatten_append, List.length_append]
  omega
theorem ksB_take {l : List Kd} {k : Nat} {p : Kd} (h : l[k]? = some p) : ksB (l.take (k + 1)) = ksB (l.take k) ++ (txt p.1 ++ textI p.2.1) := by
  obtain ⟨hk, rfl⟩ := List.getElem?_eq_some_iff.1 h
  rw [List.take_succ_eq_append_getElem hk, ksB_snoc]

set_option maxRecDepth 100000 in
set_option maxHeartbeats 3200000 in
theorem putks_any (v : Value) (l : List Kd) (w : World) (h : KsIn w w.heap.size v l) (hl : (ksB l).length ≤ 1000000) : Calls Tryd.prog 49 #[v] w (Wrote w (2 :: UInt8.ofNat l.length :: ksB l)) := by
  obtain ⟨A, c, rfl, hm1, hm2⟩ := h.len
  have H := Lib.hid h
  clear h
  have hwl := wrap_len l.length
  have hfin : Hid (ksB (l.take l.length) = ksB l) := by unfold Hid; rw [List.take_length]
  generalize UInt8.ofNat l.length = n8 at *
  have hO : Own (w.alloc (.cells #[.int .u8 2, .int .u8 n8.toNat] 5)) w.heap.size (.slice (some ⟨w.heap.size, 0, none⟩) 2 2) [2, n8] := own_two w _ (Nat.le_refl _) 2 n8 _ _ rfl rfl
  have HO := Lib.hid hO
  clear hO
  go_enter Tryd.func49, Tryd.ntmps49
  go_wp2_with fail
  go_loopw [3, 12] (fun u i wr => ∃ k : Nat, i = .int .i64 k ∧ k ≤ l.length ∧ Hid (Own wr w.heap.size u (2 :: n8 :: ksB (l.take k))) ∧ Hid (Below w.heap.size w wr)) (fun _ i _ => l.length - (intOf i).toNat)
  case atStart => exact ⟨0, rfl, by omega, HO.out, new_below _ _⟩
  case round =>
    obtain ⟨k, rfl, hk, ho, hbl⟩ := hrel
    by_cases hlt : k < l.length
    · obtain ⟨x, hxk⟩ : ∃ x, l[k]? = some x := ⟨l[k], List.getElem?_eq_getElem hlt⟩
      obtain ⟨b2, off2, e2, hB2, rx⟩ := KsIn.range (H.out.below hbl.out) hxk
      subst e2
      have RX := Lib.hid rx
      clear rx
      have hnx := ksB_take hxk
      have hlk1 := ksB_len hl (k := k + 1)
      rw [hnx] at hlk1
      have HNX := Lib.hid hnx
      clear hnx hxk
      generalize ksB (l.take k) = R at *
      have hlk : R.length + ((enc x.1.length).length + x.1.length + (textI x.2.1).length) ≤ 1000000 := by simpa [txt_len] using hlk1
      clear hlk1
      have HK : Hid (KidAt (wr.alloc (.cells (kkC x).toArray 52)) wr.heap.size x) := KidAt.new _ _
      have hz1 : (wr.alloc (.cells (kkC x).toArray 52)).heap.size = wr.heap.size + 1 := asz _ _
      have HB1 : Hid (Below w.heap.size w (wr.alloc (.cells (kkC x).toArray 52))) := hbl.out.alloc hbl.out.size _
      have HO1 : Hid (Own (wr.alloc (.cells (kkC x).toArray 52)) w.heap.size u3 (2 :: n8 :: R)) := ho.out.alloc _
      have hzr := hbl.out.size
      go_wp2_with (first
        | (refine wpList_load_mid rfl 52 _ rfl b2 (off2 + k * 34) rfl (kkC x) _ RX.out Tryd.underlying52 rfl (cells_kk x) ?_)
        | (refine wp_alloc_row zero_kk rfl rfl ?_)
        | (refine wp_fill_kk rfl _ _ rfl rfl (by simp [Act.eval, Act.put]) x rfl ?_))
      generalize wr.alloc (.cells (kkC x).toArray 52) = W1 at *
      obtain ⟨W0, hW0⟩ : ∃ x, W1.drew = x := ⟨_, rfl⟩
      have hS0 : KidAt W0 wr.heap.size x := by rw [← hW0]; exact HK.out
      have HBD : Hid (Below w.heap.size w W0) := by rw [← hW0]; exact HB1.out.drew
      have HOD : Hid (Own W0 w.heap.size u3 (2 :: n8 :: R)) := by rw [← hW0]; exact HO1.out.drew
      have hs0 : W0.heap.size = wr.heap.size + 1 := by rw [← hW0]; exact hz1
      clear HK HB1 HO1 hz1
      refine region_begin hW0 (S := fun W => KidAt W wr.heap.size x) (by kernel_rfl) hS0 (fun hHeld => ?_)
      clear hW0 hS0
      refine take_at (i := 0) (u3) (some 16) (by decide) (by rfl) (by kernel_rfl) (by kernel_rfl) (by kernel_rfl) (fun _ _ _ h => h) (by rfl) (fun W hW => by go_simp) (by assumption) ?_
      try simp only [Act.put, List.setIfInBounds_toArray, List.set_cons_zero, List.set_cons_succ]
      refine take_at (i := 1) (.pointer (some ⟨wr.heap.size, 0, none⟩)) (some 17) (by decide) (by rfl) (by kernel_rfl) (by kernel_rfl) (by kernel_rfl) (fun _ _ _ h => h) (by rfl) (fun W hW => by go_simp) (by assumption) ?_
      try simp only [Act.put, List.setIfInBounds_toArray, List.set_cons_zero, List.set_cons_succ]
      refine take_at (i := 2) (.string ⟨x.1.toArray⟩) (some 18) (by decide) (by rfl) (by kernel_rfl) (by kernel_rfl) (by kernel_rfl) (fun _ _ _ h => h) (by rfl) (fun W hW => by have := hW.key; go_simp) (by assumption) ?_
      try simp only [Act.put, List.setIfInBounds_toArray, List.set_cons_zero, List.set_cons_succ]
      refine take_at (i := 4) (.pointer (some ⟨wr.heap.size, 1, none⟩)) (some 20) (by decide) (by rfl) (by kernel_rfl) (by kernel_rfl) (by kernel_rfl) (fun _ _ _ h => h) (by rfl) (fun W hW => by go_simp) (by assumption) ?_
      try simp only [Act.put, List.setIfInBounds_toArray, List.set_cons_zero, List.set_cons_succ]
      refine take_at (i := 5) (idV x.2.1) (some 21) (by decide) (by rfl) (by kernel_rfl) (by kernel_rfl) (by kernel_rfl) (fun _ _ _ h => h) (by rfl) (fun W hW => by exact exec_load_mid _ _ rfl wr.heap.size 1 rfl (vb x.2.1) _ hW.id Tryd.underlying27 rfl (cells_ii x.2)) (by assumption) ?_
      try simp only [Act.put, List.setIfInBounds_toArray, List.set_cons_zero, List.set_cons_succ]
      refine wpAnyH_ready (rs := [3]) (by kernel_rfl) (by simp) (AllReadyH.cons (Array.getElem?_eq_getElem (i := 3) (by decide)) (fun K9 hK => ?_) AllReadyH.nil)
      go_simp
      refine (text_l2 u3 (2 :: n8 :: R) x.1 _ (HOD.out.sl) (by simp only [List.length_cons]; omega)).mono ?_
      rintro e w3 ⟨v3, rfl, ho3, hb3⟩
      have HB3 := Lib.hid (HBD.out.trans (hb3.mono (by omega)))
      have HO3 := Lib.hid ho3
      have hs3 := hb3.size
      refine hK.out _ _ (hb3.block _ (by omega) |>.trans hHeld) (fun hHeld => ?_)
      clear hK K9
      try simp only [Act.put, List.setIfInBounds_toArray, List.set_cons_zero, List.set_cons_succ]
      clear hb3 ho3
      refine wpAnyH_ready (rs := [6]) (by kernel_rfl) (by simp) (AllReadyH.cons (Array.getElem?_eq_getElem (i := 6) (by decide)) (fun K9 hK => ?_) AllReadyH.nil)
      go_simp
      refine (text_l x.2.1 _ x.2.2).mono ?_
      rintro e w4 ⟨rfl, hb4⟩
      have HB4 := Lib.hid (HB3.out.trans (hb4.mono (by omega)))
      have HO4 := Lib.hid (HO3.out.keep hb4)
      have hs4 := hb4.size
      refine hK.out _ _ (hb4.block _ (by omega) |>.trans hHeld) (fun hHeld => ?_)
      clear hK K9
      try simp only [Act.put, List.setIfInBounds_toArray, List.set_cons_zero, List.set_cons_succ]
      clear hb4
      refine wpAnyH_ready (rs := [7]) (by kernel_rfl) (by simp) (AllReadyH.cons (Array.getElem?_eq_getElem (i := 7) (by decide)) (fun K9 hK => ?_) AllReadyH.nil)
      refine step_append_text rfl (.tmp 19) (.tmp 22) rfl W0.heap.size v3 ((2 :: n8 :: R) ++ txt x.1) rfl HO4.out (by omega) (textI x.2.1) rfl (by simp only [List.length_cons, List.length_append, txt_len]; omega) ?_
      intro v5 w5 ho5 hb5
      have HB5 := Lib.hid (HB4.out.trans (hb5.mono (by omega)))
      have HO5 := Lib.hid (ho5.lower (by omega : w.heap.size ≤ W0.heap.size))
      refine hK.out _ _ (hb5.block _ (by omega) |>.trans hHeld) (fun hHeld => ?_)
      clear hK K9
      try simp only [Act.put, List.setIfInBounds_toArray, List.set_cons_zero, List.set_cons_succ]
      refine take_at (i := 8) (v5) (some 3) (by decide) (by rfl) (by kernel_rfl) (by kernel_rfl) (by kernel_rfl) (fun _ _ _ h => h) (by rfl) (fun W hW => by go_simp) (by assumption) ?_
      try simp only [Act.put, List.setIfInBounds_toArray, List.set_cons_zero, List.set_cons_succ]
      refine wpAnyH_done (by kernel_rfl) ?_ _
      try simp only [Act.put, List.setIfInBounds_toArray, List.set_cons_zero, List.set_cons_succ]
      go_wp2_with fail
      go_roundw
      case rel => exact ⟨k + 1, by go_num, by omega, by rw [HNX.out]; show Own w5 w.heap.size v5 _; have := HO5.out; simpa using this, HB5.out⟩
      case measure => simp [intOf]; omega
    · have hkk : k = l.length := by omega
      subst hkk
      go_wp2_with fail
      go_ret
      have h1 := ho.out
      rw [hfin.out] at h1
      exact ⟨_, rfl, h1, hbl.out⟩

end Go.Proofs.YthbahbcihaebeaaDoor.Cd

/-
  object.PutTree; how many bytes there are. Conditions: none.
-/
namespace Go.Proofs.YthbahbcihaebeaaDoor.Cd
open Go.RowKit

theorem txt_short {s : List UInt8} (h : s.length ≤ 127) : (txt s).length = 1 + s.length := by
  rw [txt_len, enc_lo (by omega)]
  rfl
theorem textI_len (l : List UInt8) : (textI l).length ≤ 33 := textI_length l
theorem flat_le {α : Type} (f : α → List UInt8) (m : Nat) (l : List α) (h : ∀ p ∈ l, (f p).length ≤ m) : ((l.map f).flatten).length ≤ l.length * m := by
  induction l with
  | nil => simp
  | cons p r ih =>
    have h1 := ih (fun q hq => h q (List.mem_cons_of_mem _ hq))
    have h2 := h p List.mem_cons_self
    rw [List.map_cons, List.flatten_cons, List.length_append, List.length_cons, Nat.add_mul]
    omega
theorem psB_small {l : List Bp} (h : GoodPs l) : (psB l).length ≤ 136 := by
  have h1 := flat_le (fun p : Bp => txt p.1 ++ txt p.2) 34 l (fun p hp => by
    have a := h.key p hp
    have b := h.val p hp
    rw [List.length_append, txt_short (by omega), txt_short (by omega)]
    omega)
  have h2 := h.few
  unfold psB
  omega
theorem ksB_small {l : List Kd} (h : GoodKs l) : (ksB l).length ≤ 150 := by
  have h1 := flat_le (fun p : Kd => txt p.1 ++ textI p.2.1) 50 l (fun p hp => by
    have a := h.key p hp
    have b := textI_len p.2.1
    rw [List.length_append, txt_short (by omega)]
    omega)
  have h2 := h.few
  unfold ksB
  omega
theorem isB_small {r : UInt8} {l : List Idn} (h : GoodIs r l) : (isB l).length ≤ 66 := by
  have h1 := flat_le (fun p : Idn => textI p.1) 33 l (fun p _ => textI_len p.1)
  have h2 := h.few
  unfold isB
  omega
theorem treeB_small {t : Tre} (h : GoodT t) : (treeB t).length ≤ 152 := by
  rcases h with ⟨h1, h2⟩ | ⟨_, h2⟩
  · rw [treeB_ps h1]
    have := psB_small h2
    simp only [List.length_cons]
    omega
  · rw [treeB_ks h2]
    have := ksB_small h2
    simp only [List.length_cons]
    omega
theorem num_small {z : Int} (h0 : 1 ≤ z) (h1 : z ≤ 1024) : (enc (zig z)).length ≤ 2 := by
  refine enc_len 2 _ ?_ (by omega)
  unfold zig
  rw [if_pos (by omega)]
  omega
theorem comB_small {c : Cmt} (h : GoodC c) : (comB c).length ≤ 136 := by
  have h1 := textI_len c.root.1
  have h2 := isB_small h.is
  have h3 := num_small h.low h.high
  have h4 := h.note
  unfold comB
  simp only [List.length_cons, List.length_append]
  rw [txt_short (by omega)]
  omega

/-- What Put leaves: bytes of the call's own, or ErrArg. -/
def Puts (P : Prop) (bs : List UInt8) (w : World) (e : Ending) (w' : World) : Prop :=
  ∃ v n, e = .returned (.tuple #[v, .int .i64 n]) ∧ Below w.heap.size w w' ∧ ((P ∧ n = 0 ∧ Own w' w.heap.size v bs) ∨ (¬ P ∧ n = 1 ∧ v = .slice none 0 0))

set_option maxRecDepth 100000 in
set_option maxHeartbeats 1600000 in
theorem putt_any (v : Value) (t : Tre) (w : World) (h : TreIn w w.heap.size v t) : Calls Tryd.prog 31 #[v] w (Puts (GoodT t) (treeB t) w) := by
  obtain ⟨ps, ks⟩ := t
  obtain ⟨vp, vk, rfl, h1, h2⟩ := h
  have h1 : PsIn w w.heap.size vp ps := h1
  have h2 : KsIn w w.heap.size vk ks := h2
  obtain ⟨A1, c1, e1, k1, l1⟩ := h1.len
  obtain ⟨A2, c2, e2, k2, l2⟩ := h2.len
  have hb1 : Below w.heap.size w (w.alloc (.cells #[vp, vk] 56)) := new_below _ _
  have hz1 : (w.alloc (.cells #[vp, vk] 56)).heap.size = w.heap.size + 1 := asz _ _
  have H1 : Hid (PsIn (w.alloc (.cells #[vp, vk] 56)) (w.alloc (.cells #[vp, vk] 56)).heap.size vp ps) := h1.on hb1
  have H2 : Hid (KsIn (w.alloc (.cells #[vp, vk] 56)) (w.alloc (.cells #[vp, vk] 56)).heap.size vk ks) := h2.on hb1
  have HR : Hid ((w.alloc (.cells #[vp, vk] 56)).heap[w.heap.size]? = some (.cells #[vp, vk] 56)) := heap_alloc_new _ _
  have HB1 := Lib.hid hb1
  have HZ1 := Lib.hid hz1
  clear h1 h2 hb1 hz1
  subst e1 e2
  go_enter Tryd.func31, Tryd.ntmps31
  go_wp2_with fail
  generalize w.alloc (.cells #[.slice A1 ps.length c1, .slice A2 ks.length c2] 56) = W1 at *
  refine (goodt_any _ ⟨ps, ks⟩ W1 ⟨_, _, rfl, H1.out, H2.out⟩).mono ?_
  rintro e w2 ⟨s, rfl, hs, hb2⟩
  have hz0 : w.heap.size + 1 ≤ W1.heap.size := by have := HZ1.out; omega
  have HB2 := Lib.hid (HB1.out.trans (hb2.mono (by omega)))
  have HR2 : Hid (w2.heap[w.heap.size]? = some (.cells #[.slice A1 ps.length c1, .slice A2 ks.length c2] 56)) := (hb2.block _ (by omega)).trans HR.out
  have HP2 : Hid (PsIn w2 w2.heap.size (.slice A1 ps.length c1) ps) := H1.out.on hb2
  have HK2 : Hid (KsIn w2 w2.heap.size (.slice A2 ks.length c2) ks) := H2.out.on hb2
  have hz2 : w.heap.size ≤ w2.heap.size := by have := hb2.size; omega
  clear hb2
  have d0 := cell_of_row _ _ 0 _ _ _ HR2.out
  have d1 := cell_of_row _ _ 1 _ _ _ HR2.out
  cases s
  · have hno : Hid (¬ GoodT ⟨ps, ks⟩) := fun h => by have := hs.2 h; cases this
    clear hs
    go_wp2_with fail
    go_ret2
    exact ⟨_, _, rfl, HB2.out, .inr ⟨hno.out, rfl, rfl⟩⟩
  · have hyes : Hid (GoodT ⟨ps, ks⟩) := hs.1 rfl
    clear hs
    by_cases hk : ks.length = 0
    · have hks : ks = [] := List.eq_nil_of_length_eq_zero hk
      subst hks
      have hps : (psB ps).length ≤ 1000000 := by
        rcases hyes.out with h | h
        · have := psB_small h.2; simp only at this; omega
        · exact absurd rfl (goodKs_ne h.2)
      have HT : Hid (treeB ⟨ps, []⟩ = 1 :: UInt8.ofNat ps.length :: psB ps) := treeB_ps rfl
      clear hk
      go_wp2_with fail
      refine (putps_any _ ps w2 HP2.out hps).mono ?_
      rintro e w3 ⟨v3, rfl, ho3, hb3⟩
      have HB3 := Lib.hid (HB2.out.trans (hb3.mono hz2))
      have HO3 := Lib.hid (ho3.lower hz2)
      clear hb3 ho3
      go_wp2_with fail
      go_ret2
      exact ⟨_, _, rfl, HB3.out, .inl ⟨hyes.out, rfl, by rw [HT.out]; exact HO3.out⟩⟩
    · have hkpos : (0 : Int) < ks.length := by omega
      have hgk : GoodKs ks := hyes.out.elim (fun h => absurd (by have e : ks = [] := h.1; rw [e]; rfl) hk) (fun h => h.2)
      have hks : (ksB ks).length ≤ 1000000 := by have := ksB_small hgk; omega
      have HT : Hid (treeB ⟨ps, ks⟩ = 2 :: UInt8.ofNat ks.length :: ksB ks) := treeB_ks hgk
      clear hgk hk
      go_wp2_with fail
      refine (putks_any _ ks w2 HK2.out hks).mono ?_
      rintro e w3 ⟨v3, rfl, ho3, hb3⟩
      have HB3 := Lib.hid (HB2.out.trans (hb3.mono hz2))
      have HO3 := Lib.hid (ho3.lower hz2)
      clear hb3 ho3
      go_wp2_with fail
      go_ret2
      exact ⟨_, _, rfl, HB3.out, .inl ⟨hyes.out, rfl, by rw [HT.out]; exact HO3.out⟩⟩

end Go.Proofs.YthbahbcihaebeaaDoor.Cd

/-
  tree.Good, tree.nextOf. Conditions: none.
-/
namespace Go.Proofs.YthbahbcihaebeaaDoor.Cd
open Go.RowKit

/-- Pairs that can be a tree. -/
structure GoodW (l : List Bp) : Prop where
  few : l.length ≤ 256
  key : ∀ p ∈ l, p.1.length ≤ 16
  val : ∀ p ∈ l, p.2.length ≤ 16
  rise : Rises (l.map (·.1))

/-- How many are put together next. -/
def nextN (n : Nat) : Nat := if n = 4 then 2 else min n 3

set_option maxRecDepth 100000 in
set_option maxHeartbeats 800000 in
theorem nextof_any (n : Nat) (w : World) (hn : n ≤ 1048576) : Calls Tryd.prog 25 #[.int .i64 n] w fun e w' => e = .returned (.int .i64 (nextN n : Nat)) ∧ w = w' := by
  by_cases h4 : n = 4
  · subst h4
    go_enter Tryd.func25, Tryd.ntmps25
    go_wp2_with fail
    go_ret
    exact ⟨rfl, rfl⟩
  · have hq : ((n : Int) == 4) = false := by rw [beq_eq_false_iff_ne]; omega
    have hN : Hid ((nextN n : Nat) = min n 3) := by unfold Hid nextN; rw [if_neg h4]
    rw [hN.out]
    by_cases h3 : n ≤ 3
    · have hm : min n 3 = n := by omega
      have hmi : min (n : Int) 3 = (n : Int) := by omega
      rw [hm]
      clear hN hm
      go_enter Tryd.func25, Tryd.ntmps25
      go_wp2_with fail
      go_ret
      exact ⟨rfl, rfl⟩
    · have hm : min n 3 = 3 := by omega
      have hmi : min (n : Int) 3 = 3 := by omega
      rw [hm]
      clear hN hm
      go_enter Tryd.func25, Tryd.ntmps25
      go_wp2_with fail
      go_ret
      exact ⟨rfl, rfl⟩

set_option maxRecDepth 100000 in
set_option maxHeartbeats 1600000 in
theorem goodw_any (v : Value) (l : List Bp) (w : World) (h : PsIn w w.heap.size v l) : Calls Tryd.prog 9 #[v] w (Says (GoodW l) w) := by
  obtain ⟨A, c, rfl, hm1, hm2⟩ := h.len
  have H := Lib.hid h
  clear h
  by_cases hbig : 256 < l.length
  · have hno : Hid (¬ GoodW l) := fun h => by have := h.few; omega
    have hbig' : (256 : Int) < l.length := by omega
    go_enter Tryd.func9, Tryd.ntmps9
    go_wp2_with fail
    go_ret
    exact ⟨false, rfl, ⟨(fun h => by cases h), fun h => absurd h hno.out⟩, Below.refl _ _⟩
  have hbig' : ¬ (256 : Int) < l.length := by omega
  go_enter Tryd.func9, Tryd.ntmps9
  go_wp2_with fail
  go_loopw [10] (fun i wr => ∃ k : Nat, i = .int .i64 k ∧ k ≤ l.length ∧ Hid (∀ (j : Nat) p, j < k → l[j]? = some p → p.1.length ≤ 16 ∧ p.2.length ≤ 16) ∧ Hid (∀ (j : Nat) a b, j + 1 < k → l[j]? = some a → l[j + 1]? = some b → a.1 < b.1) ∧ Hid (Below w.heap.size w wr)) (fun i _ => l.length - (intOf i).toNat)
  case atStart => exact ⟨0, rfl, by omega, fun j _ h => by omega, fun j _ _ h => by omega, Below.refl _ _⟩
  case round =>
    obtain ⟨k, rfl, hk, hp, hq, hbl⟩ := hrel
    by_cases hlt : k < l.length
    · obtain ⟨x, hxk⟩ : ∃ x, l[k]? = some x := ⟨l[k], List.getElem?_eq_getElem hlt⟩
      obtain ⟨b2, off2, e2, hB2, d0, d1⟩ := PsIn.at2 (H.out.below hbl.out) hxk
      subst e2
      have HX := Lib.hid hxk
      clear hxk
      have hb3 : Below w.heap.size w (wr.alloc (.cells #[.string ⟨x.1.toArray⟩, .string ⟨x.2.toArray⟩] 38)) := hbl.out.alloc hbl.out.size _
      have HB3 := Lib.hid hb3
      clear hb3
      have hz1 : (ByteArray.mk x.1.toArray).size = x.1.length := rfl
      have hz2 : (ByteArray.mk x.2.toArray).size = x.2.length := rfl
      by_cases hs : x.1.length ≤ 16 ∧ x.2.length ≤ 16
      · obtain ⟨hs1, hs2⟩ := hs
        have hp2 : Hid (∀ (j : Nat) p, j < k + 1 → l[j]? = some p → p.1.length ≤ 16 ∧ p.2.length ≤ 16) := fun j p hj hjp => by
          by_cases e : j = k
          · subst e
            rw [HX.out] at hjp
            injection hjp with hjp
            subst hjp
            exact ⟨hs1, hs2⟩
          · exact hp.out j p (by omega) hjp
        have hn1 : ¬ (16 : Int) < x.1.length := by omega
        have hn2 : ¬ (16 : Int) < x.2.length := by omega
        have hn3 : decide ((16 : Int) < x.2.length) = false := decide_eq_false hn2
        have hn4 : decide ((16 : Int) < x.1.length) = false := decide_eq_false hn1
        by_cases h0 : 0 < k
        · obtain ⟨j, rfl⟩ : ∃ j, k = j + 1 := ⟨k - 1, by omega⟩
          obtain ⟨y, hyk⟩ : ∃ y, l[j]? = some y := ⟨l[j], List.getElem?_eq_getElem (by omega)⟩
          obtain ⟨b3, off3, e3, hB3, f0, f1⟩ := PsIn.at2 (H.out.below hbl.out) hyk
          injection e3 with e3
          injection e3 with e3 e4
          subst e3 e4
          have f0a : ∀ o : Obj, (wr.alloc o).cell? ⟨b2, off2 + j * 2, none⟩ = some (.string ⟨y.1.toArray⟩) := fun o => cell_kept (new_below wr o) f0
          have HY := Lib.hid hyk
          clear hyk f0 f1
          have hgd : decide ((0 : Int) < (j : Int) + 1) = true := decide_eq_true (by omega)
          have hle := less_of y.1 x.1
          by_cases hov : y.1 < x.1
          · rw [decide_eq_true hov] at hle
            have hq2 : Hid (∀ (i : Nat) a b, i + 1 < j + 1 + 1 → l[i]? = some a → l[i + 1]? = some b → a.1 < b.1) := fun i a b hi ha hb => by
              by_cases e : i = j
              · subst e
                rw [HY.out] at ha
                rw [HX.out] at hb
                injection ha with ha
                injection hb with hb
                subst ha hb
                exact hov
              · exact hq.out i a b (by omega) ha hb
            clear hov
            go_wp2_with fail
            go_quiet (fail)
            go_wp2_with fail
            go_roundw
            case rel => exact ⟨j + 1 + 1, by go_num, by omega, hp2, hq2, below_drewN HB3.out _⟩
            case measure => simp [intOf]; omega
          · rw [decide_eq_false hov] at hle
            have hno : Hid (¬ GoodW l) := fun h => hov (rises_to h.rise HY.out HX.out)
            clear hov
            go_wp2_with fail
            go_quiet (fail)
            go_wp2_with fail
            go_ret
            exact ⟨false, rfl, ⟨(fun h => by cases h), fun h => absurd h hno.out⟩, below_drewN HB3.out _⟩
        · obtain rfl : k = 0 := by omega
          rw [show off2 + 0 * 2 = off2 by omega] at d0 d1
          have hgd : decide ((0 : Int) < ((0 : Nat) : Int)) = false := rfl
          have hq2 : Hid (∀ (i : Nat) a b, i + 1 < 0 + 1 → l[i]? = some a → l[i + 1]? = some b → a.1 < b.1) := fun i a b hi => by omega
          go_wp2_with fail
          go_quiet (fail)
          go_wp2_with fail
          go_roundw
          case rel => exact ⟨0 + 1, by go_num, by omega, hp2, hq2, below_drewN HB3.out _⟩
          case measure => simp [intOf]; omega
      · have hno : Hid (¬ GoodW l) := fun h => hs ⟨h.key _ (List.mem_of_getElem? HX.out), h.val _ (List.mem_of_getElem? HX.out)⟩
        have hways : 16 < x.1.length ∨ (¬ 16 < x.1.length ∧ 16 < x.2.length) := by omega
        clear hs
        rcases hways with h1 | ⟨h1, h2⟩
        all_goals
          go_wp2_with fail
          go_ret
          exact ⟨false, rfl, ⟨(fun h => by cases h), fun h => absurd h hno.out⟩, HB3.out⟩
    · have hyes : Hid (GoodW l) := ⟨by omega, fun p hpl => by
        obtain ⟨j, hj, rfl⟩ := List.getElem_of_mem hpl
        exact (hp.out j _ (by omega) (List.getElem?_eq_getElem hj)).1, fun p hpl => by
        obtain ⟨j, hj, rfl⟩ := List.getElem_of_mem hpl
        exact (hp.out j _ (by omega) (List.getElem?_eq_getElem hj)).2, rises_of fun j a b ha hb => hq.out j a b (by have := (List.getElem?_eq_some_iff.1 hb).1; omega) ha hb⟩
      clear hp hq
      go_wp2_with fail
      go_ret
      exact ⟨true, rfl, ⟨fun _ => hyes.out, fun _ => rfl⟩, hbl.out⟩

end Go.Proofs.YthbahbcihaebeaaDoor.Cd

/-
  object.getPairs. Conditions: none.
-/
namespace Go.Proofs.YthbahbcihaebeaaDoor.Cd
open Go.RowKit

/-- What reading a list leaves: a row of the call's own, and the reader. -/
def GotPs (w : World) (g : Nat) (s : StP) (e : Ending) (w' : World) : Prop := ∃ v, e = .returned v ∧ OwnRw ppC 2 38 w' w.heap.size v s.l ∧ Left w g s.bs s.bad w'

theorem byte_lt (c : UInt8) : c.toNat < 256 := c.toNat_lt

set_option maxRecDepth 100000 in
set_option maxHeartbeats 1600000 in
theorem getps_any (g : Nat) (bs : List UInt8) (bad : Bool) (w : World) (hr : Rd w g bs bad) (hbb : Sane bad bs) (hs : bs.length ≤ 1000000) :
    Calls Tryd.prog 43 #[.pointer (some ⟨g, 0, none⟩)] w (GotPs w g (atP ⟨[], gbB bad bs, gbX bad bs⟩ (gbV bad bs).toNat)) := by
  have hg0 := hr.lt
  have hgb := getb_any g bs bad w hr hbb (by omega)
  have hsn := sane_gb bad bs
  have hbs : (gbB bad bs).length ≤ 1000000 := Nat.le_trans (tkB_len _ _ _) hs
  have hcb := byte_lt (gbV bad bs)
  generalize (gbV bad bs).toNat = n at *
  obtain ⟨s0, hs0⟩ : ∃ s, (⟨[], gbB bad bs, gbX bad bs⟩ : StP) = s := ⟨_, rfl⟩
  have e1 : gbB bad bs = s0.bs := by rw [← hs0]
  have e2 : gbX bad bs = s0.bad := by rw [← hs0]
  have e3 : s0.l = [] := by rw [← hs0]
  rw [hs0]
  rw [e1, e2] at hgb hsn
  rw [e1] at hbs
  have HGB := Lib.hid hgb
  have HSN := Lib.hid hsn
  have HL0 := Lib.hid e3
  clear hgb hsn hs0 e1 e2 e3 hr hbb
  go_enter Tryd.func43, Tryd.ntmps43
  go_wp2_with fail
  refine HGB.out.mono ?_
  rintro e w1 ⟨rfl, hl1⟩
  have HR1 := Lib.hid hl1.1
  have HW1 := Lib.hid hl1.2
  have hz1 := hl1.2.size
  clear hl1
  go_wp2_with fail
  go_loopw [3, 7] (fun v i wr => ∃ k : Nat, i = .int .u8 k ∧ k ≤ n ∧ Hid (OwnRw ppC 2 38 wr w.heap.size v (atP s0 k).l) ∧ Hid (Rd wr g (atP s0 k).bs (atP s0 k).bad) ∧ Hid (w.grownBy wr (some g))) (fun _ i _ => n - (intOf i).toNat)
  case atStart => exact ⟨0, rfl, by omega, (by unfold Hid; show OwnRw _ _ _ _ _ _ s0.l; rw [HL0.out]; exact OwnRw.nil _ _), HR1.out, HW1.out⟩
  case round =>
    clear HR1 HW1 hz1
    obtain ⟨k, rfl, hk, ho, hrd, hw⟩ := hrel
    have hsq := sane_atP HSN.out k
    have hlq := len_atP s0 k
    have hl0 : s0.l.length = 0 := by rw [HL0.out]; rfl
    have hlk : (atP s0 k).l.length ≤ 256 := by omega
    have hlb : (atP s0 k).bs.length ≤ 1000000 := by omega
    have hzr := hw.out.size
    by_cases hlt : k < n
    · have hnx : Hid (atP s0 (k + 1) = ⟨(atP s0 k).l ++ [(txV 16 (atP s0 k).bs, txV 16 (txB 16 (atP s0 k).bs))], txB 16 (txB 16 (atP s0 k).bs), txX 16 (txB 16 (atP s0 k).bs)⟩) := rfl
      generalize atP s0 k = q at *
      obtain ⟨l, b, x⟩ := q
      simp only at *
      have hb2 := txB_len 16 b
      have HT1 := Lib.hid (rtext_any g 16 b x wr hrd.out hsq (by omega) (by omega))
      have HS2 : Hid (Sane (txX 16 b) (txB 16 b)) := Sane.tx 16 b
      generalize txX 16 b = x1 at *
      generalize txB 16 b = b1 at *
      generalize txV 16 b = s1 at *
      have hT2 := fun W h => rtext_any g 16 b1 x1 W h HS2.out (by omega) (by omega)
      have HT2 := Lib.hid hT2
      clear hT2
      generalize txX 16 b1 = x2 at *
      generalize txB 16 b1 = b2 at *
      generalize txV 16 b1 = s2 at *
      clear hsq hlq
      go_wp2_with fail
      refine HT1.out.mono ?_
      rintro e w2 ⟨rfl, hl2⟩
      have HR2 := Lib.hid hl2.1
      have HW2 := Lib.hid (grown_then hw.out hl2.2)
      have HO2 := Lib.hid (ho.out.far hl2.2 (by omega))
      clear hl2
      go_wp2_with fail
      refine (HT2.out _ HR2.out).mono ?_
      rintro e w3 ⟨rfl, hl3⟩
      have HR3 := Lib.hid hl3.1
      have HW3 := Lib.hid (grown_then HW2.out hl3.2)
      have HO3 := Lib.hid (HO2.out.far hl3.2 (by omega))
      clear hl3
      have hz3 := HW3.out.size
      go_wp2_with (refine wp_append_rw kind_pp rfl _ _ rfl rfl (HO3.out.alloc _) (by simp; omega) _ _ [(s1, s2)] rfl (rw_one kind_pp w3 (s1, s2) 38 _ rfl) (by simp only [List.length_singleton]; omega) ?_)
      intro v4 w4 ho4 hb4 hg4
      have HO4 := Lib.hid ho4
      have hb5 : Below w.heap.size w3 w4 := ((Below.refl w.heap.size w3).alloc hz3 _).trans hb4
      have HW4 : Hid (w.grownBy w4 (some g)) := grown_low HW3.out hb5 (Nat.le_refl _)
      have HR4 : Hid (Rd w4 g b2 x2) := HR3.out.below hb5 hg0
      clear hb4 hg4 hb5 ho4
      go_wp2_with fail
      go_roundw
      case rel => exact ⟨k + 1, by go_num, by omega, by rw [hnx.out]; exact HO4.out, by rw [hnx.out]; exact HR4.out, HW4.out⟩
      case measure => simp [intOf]; omega
    · have hkn : k = n := by omega
      subst hkn
      go_wp2_with fail
      go_ret
      exact ⟨_, rfl, ho.out, hrd.out, hw.out⟩

end Go.Proofs.YthbahbcihaebeaaDoor.Cd

/-
  tree.wayTo. Conditions: none.
-/
namespace Go.Proofs.YthbahbcihaebeaaDoor.Cd
open Go.RowKit

/-- The name under which a key lies. -/
def wayI (key : List UInt8) (k0 : Kd) (r : List Kd) : Idn := r.foldl (fun i k => if key < k.1 then i else k.2) k0.2
theorem wayI_take {key : List UInt8} {k0 x : Kd} {r : List Kd} {k : Nat} (h : r[k]? = some x) : wayI key k0 (r.take (k + 1)) = if key < x.1 then wayI key k0 (r.take k) else x.2 := by
  have e : r.take (k + 1) = r.take k ++ [x] := by rw [List.take_add_one, h]; rfl
  unfold wayI
  rw [e, List.foldl_append]
  rfl
theorem range_id {w : World} {b off : Nat} {p : Kd} (h : w.rangeAt b off (kkC p)) : w.rangeAt b (off + 1) (vb p.2.1) := fun j v hv => by
  have h1 := h (j + 1) v hv
  rwa [show off + (j + 1) = off + 1 + j by omega] at h1

set_option maxRecDepth 100000 in
set_option maxHeartbeats 1600000 in
theorem wayto_any (v : Value) (k0 : Kd) (r : List Kd) (key : List UInt8) (w : World) (h : KsIn w w.heap.size v (k0 :: r)) :
    Calls Tryd.prog 22 #[v, .string ⟨key.toArray⟩] w fun e w' => e = .returned (idV (wayI key k0 r).1) ∧ Below w.heap.size w w' := by
  obtain ⟨A, c, rfl, hm1, hm2⟩ := h.len
  have H := Lib.hid h
  obtain ⟨b, off, e, hB, hr⟩ := KsIn.range h (k := 0) rfl
  subst e
  rw [show off + 0 * 34 = off by omega] at hr
  have hri := range_id hr
  have hz1 : (w.alloc (.cells (vb (zer 33)).toArray 27)).heap.size = w.heap.size + 1 := asz _ _
  have HO : Hid ((w.alloc (.cells (vb (zer 33)).toArray 27)).heap[w.heap.size]? = some (.cells (vb (zer 33)).toArray 27)) := heap_alloc_new _ _
  have HB0 : Hid (Below w.heap.size w (w.alloc (.cells (vb (zer 33)).toArray 27))) := new_below _ _
  have HR : Hid ((w.alloc (.cells (vb (zer 33)).toArray 27)).rangeAt b (off + 1) (vb k0.2.1)) := fun j v hv => ((new_below w _).cell (p := ⟨b, off + 1 + j, none⟩) hB).trans (hri j v hv)
  have h33 : k0.2.1.length = 33 := k0.2.2
  have hlen : (k0 :: r).length = r.length + 1 := rfl
  have hc1 : c = 1 → r = [] := fun e => by
    rw [hlen] at hm1
    exact List.length_eq_zero_iff.1 (by omega)
  have HC1 := Lib.hid hc1
  clear h hr hri hc1
  have HB1 : Hid (Below w.heap.size w ((w.alloc (.cells (vb (zer 33)).toArray 27)).alloc (.cells (vb k0.2.1).toArray 27))) := HB0.out.trans ((new_below _ _).mono (by omega))
  have HI1 : Hid (IdAt ((w.alloc (.cells (vb (zer 33)).toArray 27)).alloc (.cells (vb k0.2.1).toArray 27)) (w.heap.size + 1) k0.2.1) := by
    have h9 := IdAt.new (w.alloc (.cells (vb (zer 33)).toArray 27)) k0.2.1
    rwa [hz1] at h9
  have HO1 : Hid (((w.alloc (.cells (vb (zer 33)).toArray 27)).alloc (.cells (vb k0.2.1).toArray 27)).heap[w.heap.size]? = some (.cells (vb (zer 33)).toArray 27)) := ((new_below _ _).block _ (by omega)).trans HO.out
  have hz2 : ((w.alloc (.cells (vb (zer 33)).toArray 27)).alloc (.cells (vb k0.2.1).toArray 27)).heap.size = (w.alloc (.cells (vb (zer 33)).toArray 27)).heap.size + 1 := asz _ _
  go_enter Tryd.func22, Tryd.ntmps22
  go_wp2_with (first
    | (refine wp_alloc_row zero_id rfl rfl ?_)
    | (refine wpList_load_mid rfl 27 _ rfl b (off + 1) rfl (vb k0.2.1) _ HR.out Tryd.underlying27 rfl (cells_ii k0.2) ?_)
    | (refine wp_fill_id rfl _ _ rfl rfl (by simp [Act.eval, Act.put]) k0.2.1 h33 rfl ?_))
  all_goals generalize (w.alloc (.cells (vb (zer 33)).toArray 27)).alloc (.cells (vb k0.2.1).toArray 27) = w2 at *
  all_goals
    have HL : Hid (IdAt w2 (w.heap.size + 1) (wayI key k0 (r.take 0)).1) := HI1.out
    clear HI1 HR HO HB0 hz1
    go_loopw [15] (fun i wr => ∃ k : Nat, i = .int .i64 k ∧ k ≤ r.length ∧ Hid (IdAt wr (w.heap.size + 1) (wayI key k0 (r.take k)).1) ∧ Hid (wr.heap[w.heap.size]? = some (.cells (vb (zer 33)).toArray 27)) ∧ Hid (Below w.heap.size w wr)) (fun i _ => r.length - (intOf i).toNat)
    case atStart => exact ⟨0, rfl, by omega, HL.out, HO1.out, HB1.out⟩
    case round =>
      obtain ⟨k, rfl, hk, hi, ho, hbl⟩ := hrel
      by_cases hlt : k < r.length
      · first
        | (exfalso; have hne : r = [] := HC1.out (by first | rfl | assumption); subst hne; simp at hlt; done)
        | (obtain ⟨x, hxk⟩ : ∃ x, r[k]? = some x := ⟨r[k], List.getElem?_eq_getElem hlt⟩
           obtain ⟨b3, off3, e3, hB3, rx⟩ := KsIn.range (H.out.below hbl.out) (k := k + 1) (p := x) (by simpa using hxk)
           injection e3 with e3
           injection e3 with e3 e4
           subst e3 e4
           rw [show off + (k + 1) * 34 = off + 34 + k * 34 by omega] at rx
           have HX := Lib.hid (wayI_take (key := key) (k0 := k0) hxk)
           have RX := Lib.hid rx
           have hzs : (wr.alloc (.cells (kkC x).toArray 52)).heap.size = wr.heap.size + 1 := asz _ _
           have hK := KidAt.new wr x
           have d0 := hK.key
           have RI := Lib.hid hK.id
           have HI2 : Hid (IdAt (wr.alloc (.cells (kkC x).toArray 52)) (w.heap.size + 1) (wayI key k0 (r.take k)).1) := hi.out.below (new_below _ _) (Array.getElem?_eq_some_iff.1 hi.out).1
           have HO2 : Hid ((wr.alloc (.cells (kkC x).toArray 52)).heap[w.heap.size]? = some (.cells (vb (zer 33)).toArray 27)) := ((new_below _ _).block _ (Array.getElem?_eq_some_iff.1 ho.out).1).trans ho.out
           have HB2 : Hid (Below w.heap.size w (wr.alloc (.cells (kkC x).toArray 52))) := hbl.out.alloc hbl.out.size _
           have hx33 : x.2.1.length = 33 := x.2.2
           have hw33 : (wayI key k0 (r.take k)).1.length = 33 := (wayI key k0 (r.take k)).2
           clear hxk rx hK
           by_cases hov : key < x.1
           · have hA : Op.bytesLess x.1 key = false := (less_of x.1 key).trans (decide_eq_false (List.lt_asymm hov))
             have hE : (x.1 == key) = false := by
               rw [beq_eq_false_iff_ne]
               intro e
               rw [e] at hov
               exact List.lt_irrefl key hov
             rw [if_pos hov] at HX
             go_wp2_with (first
               | (refine wpList_load_mid rfl 52 _ rfl b (off + 34 + k * 34) rfl (kkC x) _ RX.out Tryd.underlying52 rfl (cells_kk x) ?_)
               | (refine wp_alloc_row zero_kk rfl rfl ?_)
               | (refine wp_fill_kk rfl _ _ rfl rfl (by simp [Act.eval, Act.put]) x rfl ?_))
             go_roundw
             case rel => exact ⟨k + 1, by go_num, by omega, by rw [HX.out]; exact HI2.out, HO2.out, HB2.out⟩
             case measure => simp [intOf]; omega
           · rw [if_neg hov] at HX
             have hways : (Op.bytesLess x.1 key = true) ∨ (Op.bytesLess x.1 key = false ∧ (x.1 == key) = true) := by
               by_cases h2 : x.1 < key
               · exact .inl ((less_of x.1 key).trans (decide_eq_true h2))
               · exact .inr ⟨(less_of x.1 key).trans (decide_eq_false h2), by have e9 : x.1 = key := List.le_antisymm hov h2; rw [e9]; simp⟩
             clear hov
             rcases hways with hA | ⟨hA, hE⟩
             all_goals
               go_wp2_with (first
                 | (refine wpList_load_mid rfl 52 _ rfl b (off + 34 + k * 34) rfl (kkC x) _ RX.out Tryd.underlying52 rfl (cells_kk x) ?_)
                 | (refine wp_alloc_row zero_kk rfl rfl ?_)
                 | (refine wp_fill_kk rfl _ _ rfl rfl (by simp [Act.eval, Act.put]) x rfl ?_)
                 | (refine wpList_load_mid rfl 27 _ rfl wr.heap.size 1 rfl (vb x.2.1) _ RI.out Tryd.underlying27 rfl (cells_ii x.2) ?_)
                 | (refine wp_put_row cells_id rfl _ _ rfl (w.heap.size + 1) rfl rfl (by rw [vb_size, hx33]) (id_one x.2.1) (vb (wayI key k0 (r.take k)).1).toArray (by rw [vb_size, hw33]) 27 HI2.out ?_))
               intro w5 h5 hg5
               have HB5 : Hid (Below w.heap.size w w5) := HB2.out.grown hg5 (by have := hbl.out.size; omega) (fun k hk => by injection hk with hk; omega)
               have HO5 : Hid (w5.heap[w.heap.size]? = some (.cells (vb (zer 33)).toArray 27)) := (hg5.block _ (Array.getElem?_eq_some_iff.1 HO2.out).1 (fun e => by injection e with e; omega)).trans HO2.out
               have H5 : Hid (IdAt w5 (w.heap.size + 1) x.2.1) := h5
               clear h5 hg5
               go_wp2_with fail
               go_roundw
               case rel => exact ⟨k + 1, by go_num, by omega, by rw [HX.out]; exact H5.out, HO5.out, HB5.out⟩
               case measure => simp [intOf]; omega)
      · obtain rfl : k = r.length := by omega
        rw [List.take_length] at hi
        have hw33 : (wayI key k0 r).1.length = 33 := (wayI key k0 r).2
        go_wp2_with (first
          | (refine wpList_load_row rfl 27 _ rfl (w.heap.size + 1) rfl 27 (vb (wayI key k0 r).1).toArray (0, 0) _ hi.out Tryd.underlying27 rfl (by rw [vb_size, hw33]; exact cells_id) ?_)
          | (refine wp_put_row cells_id rfl _ _ rfl w.heap.size rfl rfl (by rw [vb_size, hw33]) (id_one _) (vb (zer 33)).toArray (by rw [vb_size, zer_length]) 27 ho.out ?_))
        intro w5 h5 hg5
        go_wp2_with fail
        exact bodyPost_ret (results_cell_row Tryd.results22 _ w5 w.heap.size 27 (vb (wayI key k0 r).1).toArray (0, 0) _ rfl h5 Tryd.underlying27 rfl (by rw [vb_size, hw33]; exact cells_id)) rfl ⟨rfl, hbl.out.grown hg5 (by have := hbl.out.size; omega) (fun k hk => by injection hk with hk; omega)⟩

end Go.Proofs.YthbahbcihaebeaaDoor.Cd

/-
  tree.valueOf. Conditions: none.
-/
namespace Go.Proofs.YthbahbcihaebeaaDoor.Cd
open Go.RowKit

/-- A key's value among pairs, and whether it has one. -/
def valP (l : List Bp) (key : List UInt8) : List UInt8 × Bool := match l.find? (fun p => p.1 == key) with | some p => (p.2, true) | none => ([], false)
theorem valP_none {l : List Bp} {key : List UInt8} (h : ∀ (j : Nat) p, l[j]? = some p → (p.1 == key) = false) : valP l key = ([], false) := by
  have : l.find? (fun p => p.1 == key) = none := by
    rw [List.find?_eq_none]
    intro p hp
    obtain ⟨j, hj, rfl⟩ := List.getElem_of_mem hp
    rw [h j _ (List.getElem?_eq_getElem hj)]
    simp
  unfold valP
  rw [this]
theorem valP_some {l : List Bp} {key : List UInt8} {k : Nat} {x : Bp} (h : ∀ (j : Nat) p, j < k → l[j]? = some p → (p.1 == key) = false) (hx : l[k]? = some x) (he : (x.1 == key) = true) : valP l key = (x.2, true) := by
  have hk := (List.getElem?_eq_some_iff.1 hx).1
  have e : l = l.take k ++ x :: l.drop (k + 1) := by
    have h1 := List.take_append_drop k l
    rw [List.drop_eq_getElem_cons hk, (List.getElem?_eq_some_iff.1 hx).2] at h1
    exact h1.symm
  have h2 : (l.take k).find? (fun p => p.1 == key) = none := by
    rw [List.find?_eq_none]
    intro p hp
    obtain ⟨j, hj, rfl⟩ := List.getElem_of_mem hp
    have hjk : j < k := by rw [List.length_take] at hj; omega
    rw [List.getElem_take, h j _ hjk (List.getElem?_eq_getElem (by omega))]
    simp
  unfold valP
  rw [e, List.find?_append, h2]
  simp [he]

set_option maxRecDepth 100000 in
set_option maxHeartbeats 1600000 in
theorem valueof_any (v : Value) (l : List Bp) (key : List UInt8) (w : World) (h : PsIn w w.heap.size v l) :
    Calls Tryd.prog 21 #[v, .string ⟨key.toArray⟩] w fun e w' => e = .returned (.tuple #[.string ⟨(valP l key).1.toArray⟩, .bool (valP l key).2]) ∧ Below w.heap.size w w' := by
  obtain ⟨A, c, rfl, hm1, hm2⟩ := h.len
  have H := Lib.hid h
  clear h
  obtain ⟨V, hV⟩ : ∃ V, valP l key = V := ⟨_, rfl⟩
  rw [hV]
  have HV := Lib.hid hV
  clear hV
  go_enter Tryd.func21, Tryd.ntmps21
  go_wp2_with fail
  go_loopw [10] (fun i wr => ∃ k : Nat, i = .int .i64 k ∧ k ≤ l.length ∧ Hid (∀ (j : Nat) p, j < k → l[j]? = some p → (p.1 == key) = false) ∧ Hid (Below w.heap.size w wr)) (fun i _ => l.length - (intOf i).toNat)
  case atStart => exact ⟨0, rfl, by omega, fun j _ h => by omega, Below.refl _ _⟩
  case round =>
    obtain ⟨k, rfl, hk, hp, hbl⟩ := hrel
    by_cases hlt : k < l.length
    · obtain ⟨x, hxk⟩ : ∃ x, l[k]? = some x := ⟨l[k], List.getElem?_eq_getElem hlt⟩
      obtain ⟨b2, off2, e2, hB2, d0, d1⟩ := PsIn.at2 (H.out.below hbl.out) hxk
      subst e2
      have hb3 : Below w.heap.size w (wr.alloc (.cells #[.string ⟨x.1.toArray⟩, .string ⟨x.2.toArray⟩] 38)) := hbl.out.alloc hbl.out.size _
      have HB3 := Lib.hid hb3
      have HX := Lib.hid hxk
      clear hb3 hxk
      obtain ⟨x1, x2⟩ := x
      by_cases he : (x1 == key) = true
      · have HF := Lib.hid (valP_some hp.out HX.out he)
        rw [HV.out] at HF
        have hs1 : V.1 = x2 := by rw [HF.out]
        have hs2 : V.2 = true := by rw [HF.out]
        have HS1 := Lib.hid hs1
        have HS2 := Lib.hid hs2
        clear hs1 hs2
        go_wp2_with fail
        go_ret2
        rw [HS1.out, HS2.out]
        exact ⟨rfl, HB3.out⟩
      · have hef : (x1 == key) = false := by simpa using he
        have hp2 : Hid (∀ (j : Nat) p, j < k + 1 → l[j]? = some p → (p.1 == key) = false) := fun j p hj hjp => by
          by_cases e : j = k
          · subst e
            rw [HX.out] at hjp
            injection hjp with hjp
            subst hjp
            exact hef
          · exact hp.out j p (by omega) hjp
        clear he
        go_wp2_with fail
        go_roundw
        case rel => exact ⟨k + 1, by go_num, by omega, hp2, HB3.out⟩
        case measure => simp [intOf]; omega
    · have HF := Lib.hid (valP_none (l := l) (key := key) fun j p hj => hp.out j p (by have := (List.getElem?_eq_some_iff.1 hj).1; omega) hj)
      rw [HV.out] at HF
      have hs1 : V.1 = [] := by rw [HF.out]
      have hs2 : V.2 = false := by rw [HF.out]
      have HS1 := Lib.hid hs1
      have HS2 := Lib.hid hs2
      clear hs1 hs2
      go_wp2_with fail
      go_ret2
      rw [HS1.out, HS2.out]
      exact ⟨rfl, hbl.out⟩

end Go.Proofs.YthbahbcihaebeaaDoor.Cd

/-
  What law16 asks first: great (only that it answers, and that its no bounds the number). Conditions: none.
-/
namespace Go.Proofs.YthbahbcihaebeaaDoor.Cd
open Go.RowKit

set_option maxRecDepth 100000 in
set_option maxHeartbeats 3200000 in
theorem great16_any (v : Value) (l : List Bp) (w : World) (h : PsIn w w.heap.size v l) :
    Calls Tryd.prog 6 #[v] w fun e w' => ∃ s : Bool, e = .returned (.bool s) ∧ (s = false → l.length ≤ 300) ∧ Below w.heap.size w w' := by
  obtain ⟨A, c, rfl, hm1, hm2⟩ := h.len
  have H := Lib.hid h
  clear h
  by_cases hbig : 300 < l.length
  · have hb : (300 : Int) < l.length := by omega
    clear hbig
    go_enter Tryd.func6, Tryd.ntmps6
    go_wp2_with fail
    go_ret
    exact ⟨true, rfl, (fun h => by cases h), Below.refl _ _⟩
  have hb : ¬ (300 : Int) < l.length := by omega
  have h300 : l.length ≤ 300 := by omega
  clear hbig
  go_enter Tryd.func6, Tryd.ntmps6
  go_wp2_with fail
  go_loopw [3, 11] (fun n i wr => ∃ (k : Nat) (z : Int), i = .int .i64 k ∧ n = .int .i64 z ∧ k ≤ l.length ∧ Hid (Below w.heap.size w wr)) (fun _ i _ => l.length - (intOf i).toNat)
  case atStart => exact ⟨0, 0, rfl, rfl, by omega, Below.refl _ _⟩
  case round =>
    obtain ⟨k, z, rfl, rfl, hk, hbl⟩ := hrel
    by_cases hlt : k < l.length
    · obtain ⟨x, hxk⟩ : ∃ x, l[k]? = some x := ⟨l[k], List.getElem?_eq_getElem hlt⟩
      obtain ⟨b2, off2, e2, hB2, d0, d1⟩ := PsIn.at2 (H.out.below hbl.out) hxk
      subst e2
      have HB3 : Hid (Below w.heap.size w (wr.alloc (.cells #[.string ⟨x.1.toArray⟩, .string ⟨x.2.toArray⟩] 38))) := hbl.out.alloc hbl.out.size _
      have hz1 : (ByteArray.mk x.1.toArray).size = x.1.length := rfl
      have hz2 : (ByteArray.mk x.2.toArray).size = x.2.length := rfl
      clear hxk
      obtain ⟨s, hs⟩ : ∃ s, wrap64 (z + wrap64 ((x.1.length : Int) + (x.2.length : Int))) = s := ⟨_, rfl⟩
      by_cases hov : 8192 < s
      · go_wp2_with fail
        go_ret
        exact ⟨true, rfl, (fun h => by cases h), HB3.out⟩
      · go_wp2_with fail
        go_roundw
        case rel => exact ⟨k + 1, s, by go_num, by rw [hs], by omega, HB3.out⟩
        case measure => simp [intOf]; omega
    · go_wp2_with fail
      go_ret
      exact ⟨false, rfl, fun _ => h300, hbl.out⟩

end Go.Proofs.YthbahbcihaebeaaDoor.Cd

/-
  object.PutCommit. Conditions: none.
-/
namespace Go.Proofs.YthbahbcihaebeaaDoor.Cd
open Go.RowKit

end Go.Proofs.YthbahbcihaebeaaDoor.Cd
