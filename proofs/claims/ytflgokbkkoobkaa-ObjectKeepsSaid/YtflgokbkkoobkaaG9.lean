/-
  The document's Tree: a tree's bytes. Conditions: not too many bytes.
-/
import Derived.Test.YtflgokbkkoobkaaG7
import Derived.Lib.Hide
import Derived.BigQuiet
import Derived.Sort.Walk0
import Derived.Deep.MidRow
import Derived.Test.YtflgokbkkoobkaaG5
import Derived.Test.YtflgokbkkoobkaaG8
import Derived.Deep.RegionWith
import Derived.ChangeKeysEq
import Derived.Laws.StructEq
import Derived.Deep.QuietTactic
/-
  object.goodPairs. Conditions: none.
-/
namespace Go.Proofs.Ytflgokbkkoobkaa.Cd
open Go.RowKit

theorem less_of (a b : List UInt8) : Op.bytesLess a b = decide (a < b) := Go.Proofs.bytesLess_eq a b

/-! ### Pairs, kids, names as cells -/

def ppC (p : Bp) : List Value := [.string ⟨p.1.toArray⟩, .string ⟨p.2.toArray⟩]
def kkC (p : Kd) : List Value := .string ⟨p.1.toArray⟩ :: vb p.2.1
def iiC (p : Idn) : List Value := vb p.1

theorem kind_pp : Kind ppC 2 43 22 32 (.agg #[.string ByteArray.empty, .string ByteArray.empty]) where
  pos := by omega
  len := fun _ => rfl
  one := by
    intro x u hu
    simp only [ppC, List.mem_cons, List.not_mem_nil, or_false] at hu
    rcases hu with rfl | rfl <;> rfl
  slice := Try.underlying22
  info := by kernel_rfl
  zero := rfl
  few := by omega

theorem kind_kk : Kind kkC 34 48 23 56 (.agg (Value.string ByteArray.empty :: vb (zer 33)).toArray) where
  pos := by omega
  len := fun x => by simp [kkC, vb_length, x.2.2]
  one := by
    intro x u hu
    simp only [kkC, List.mem_cons] at hu
    rcases hu with rfl | hu
    · rfl
    · exact vb_one _ u hu
  slice := Try.underlying23
  info := by kernel_rfl
  zero := by simp [Value.cells, vb_length, zer_length]
  few := by omega

theorem kind_ii : Kind iiC 33 28 29 33 (.agg (vb (zer 33)).toArray) where
  pos := by omega
  len := fun x => by simp [iiC, vb_length, x.2]
  one := fun x u hu => vb_one _ u hu
  slice := Try.underlying29
  info := by kernel_rfl
  zero := by simp [Value.cells, vb_length, zer_length]
  few := by omega

abbrev PsIn := RwIn ppC 2
abbrev KsIn := RwIn kkC 34
abbrev IsIn := RwIn iiC 33

theorem PsIn.at2 {w : World} {B : Nat} {l : List Bp} {A : Option Addr} {m c : Nat} (h : PsIn w B (.slice A m c) l) {k : Nat} {p : Bp} (hk : l[k]? = some p) :
    ∃ b off, A = some ⟨b, off, none⟩ ∧ b < B ∧ w.cell? ⟨b, off + k * 2, none⟩ = some (.string ⟨p.1.toArray⟩) ∧ w.cell? ⟨b, off + k * 2 + 1, none⟩ = some (.string ⟨p.2.toArray⟩) := by
  obtain ⟨b, off, e, hB, hc⟩ := RwIn.at h hk
  exact ⟨b, off, e, hB, hc 0 _ rfl, hc 1 _ rfl⟩

/-- What a question answers. -/
def Says (P : Prop) (w : World) (e : Ending) (w' : World) : Prop := ∃ s : Bool, e = .returned (.bool s) ∧ (s = true ↔ P) ∧ Below w.heap.size w w'

theorem rises_of2 {α : Type} {l : List (List UInt8 × α)} (h : ∀ (j : Nat) a b, l[j]? = some a → l[j + 1]? = some b → a.1 < b.1) : Rises (l.map (·.1)) := by
  intro j a b ha hb
  rw [List.getElem?_map] at ha hb
  obtain ⟨p, hp, rfl⟩ := Option.map_eq_some_iff.1 ha
  obtain ⟨q, hq, rfl⟩ := Option.map_eq_some_iff.1 hb
  exact h j p q hp hq
theorem rises_of {l : List Bp} (h : ∀ (j : Nat) a b, l[j]? = some a → l[j + 1]? = some b → a.1 < b.1) : Rises (l.map (·.1)) := by
  intro j a b ha hb
  rw [List.getElem?_map] at ha hb
  obtain ⟨p, hp, rfl⟩ := Option.map_eq_some_iff.1 ha
  obtain ⟨q, hq, rfl⟩ := Option.map_eq_some_iff.1 hb
  exact h j p q hp hq
theorem rises_to {α : Type} {l : List (List UInt8 × α)} (h : Rises (l.map (·.1))) {j : Nat} {a b : List UInt8 × α} (ha : l[j]? = some a) (hb : l[j + 1]? = some b) : a.1 < b.1 :=
  h j a.1 b.1 (by rw [List.getElem?_map, ha]; rfl) (by rw [List.getElem?_map, hb]; rfl)

set_option maxRecDepth 100000 in
set_option maxHeartbeats 1600000 in
theorem goodps_any (v : Value) (l : List Bp) (w : World) (h : PsIn w w.heap.size v l) : Calls Try.prog 24 #[v] w (Says (GoodPs l) w) := by
  obtain ⟨A, c, rfl, hm1, hm2⟩ := h.len
  have H := Lib.hid h
  clear h
  by_cases hbig : 4 < l.length
  · have hno : Hid (¬ GoodPs l) := fun h => by have := h.few; omega
    have hbig' : (4 : Int) < l.length := by omega
    go_enter Try.func24, Try.ntmps24
    go_wp2_with fail
    go_ret
    exact ⟨false, rfl, ⟨(fun h => by cases h), fun h => absurd h hno.out⟩, Below.refl _ _⟩
  have hbig' : ¬ (4 : Int) < l.length := by omega
  go_enter Try.func24, Try.ntmps24
  go_wp2_with fail
  go_loopw [10] (fun i wr => ∃ k : Nat, i = .int .i64 k ∧ k ≤ l.length ∧ Hid (∀ (j : Nat) p, j < k → l[j]? = some p → p.1.length ≤ 16 ∧ p.2.length ≤ 16) ∧ Hid (∀ (j : Nat) a b, j + 1 < k → l[j]? = some a → l[j + 1]? = some b → a.1 < b.1) ∧ Hid (Below w.heap.size w wr)) (fun i _ => l.length - (intOf i).toNat)
  case atStart => exact ⟨0, rfl, by omega, fun j _ h => by omega, fun j _ _ h => by omega, Below.refl _ _⟩
  case round =>
    obtain ⟨k, rfl, hk, hp, hq, hbl⟩ := hrel
    by_cases hlt : k < l.length
    · obtain ⟨x, hxk⟩ : ∃ x, l[k]? = some x := ⟨l[k], List.getElem?_eq_getElem hlt⟩
      obtain ⟨b2, off2, e2, hB2, d0, d1⟩ := PsIn.at2 (H.out.below hbl.out) hxk
      subst e2
      have HX := Lib.hid hxk
      clear hxk
      have hb3 : Below w.heap.size w (wr.alloc (.cells #[.string ⟨x.1.toArray⟩, .string ⟨x.2.toArray⟩] 43)) := hbl.out.alloc hbl.out.size _
      have HB3 := Lib.hid hb3
      clear hb3
      have hz1 : (ByteArray.mk x.1.toArray).size = x.1.length := rfl
      have hz2 : (ByteArray.mk x.2.toArray).size = x.2.length := rfl
      by_cases hs : x.1.length ≤ 16 ∧ x.2.length ≤ 16
      · obtain ⟨hs1, hs2⟩ := hs
        have hp2 : Hid (∀ (j : Nat) p, j < k + 1 → l[j]? = some p → p.1.length ≤ 16 ∧ p.2.length ≤ 16) := fun j p hj hjp => by
          by_cases e : j = k
          · subst e
            rw [HX.out] at hjp
            injection hjp with hjp
            subst hjp
            exact ⟨hs1, hs2⟩
          · exact hp.out j p (by omega) hjp
        have hn1 : ¬ (16 : Int) < x.1.length := by omega
        have hn2 : ¬ (16 : Int) < x.2.length := by omega
        have hn3 : decide ((16 : Int) < x.2.length) = false := decide_eq_false hn2
        have hn4 : decide ((16 : Int) < x.1.length) = false := decide_eq_false hn1
        by_cases h0 : 0 < k
        · obtain ⟨j, rfl⟩ : ∃ j, k = j + 1 := ⟨k - 1, by omega⟩
          obtain ⟨y, hyk⟩ : ∃ y, l[j]? = some y := ⟨l[j], List.getElem?_eq_getElem (by omega)⟩
          obtain ⟨b3, off3, e3, hB3, f0, f1⟩ := PsIn.at2 (H.out.below hbl.out) hyk
          injection e3 with e3
          injection e3 with e3 e4
          subst e3 e4
          have f0a : ∀ o : Obj, (wr.alloc o).cell? ⟨b2, off2 + j * 2, none⟩ = some (.string ⟨y.1.toArray⟩) := fun o => cell_kept (new_below wr o) f0
          have HY := Lib.hid hyk
          clear hyk f0 f1
          have hgd : decide ((0 : Int) < (j : Int) + 1) = true := decide_eq_true (by omega)
          have hle := less_of y.1 x.1
          by_cases hov : y.1 < x.1
          · rw [decide_eq_true hov] at hle
            have hq2 : Hid (∀ (i : Nat) a b, i + 1 < j + 1 + 1 → l[i]? = some a → l[i + 1]? = some b → a.1 < b.1) := fun i a b hi ha hb => by
              by_cases e : i = j
              · subst e
                rw [HY.out] at ha
                rw [HX.out] at hb
                injection ha with ha
                injection hb with hb
                subst ha hb
                exact hov
              · exact hq.out i a b (by omega) ha hb
            clear hov
            go_wp2_with fail
            go_quiet (fail)
            go_wp2_with fail
            go_roundw
            case rel => exact ⟨j + 1 + 1, by go_num, by omega, hp2, hq2, below_drewN HB3.out _⟩
            case measure => simp [intOf]; omega
          · rw [decide_eq_false hov] at hle
            have hno : Hid (¬ GoodPs l) := fun h => hov (rises_to h.rise HY.out HX.out)
            clear hov
            go_wp2_with fail
            go_quiet (fail)
            go_wp2_with fail
            go_ret
            exact ⟨false, rfl, ⟨(fun h => by cases h), fun h => absurd h hno.out⟩, below_drewN HB3.out _⟩
        · obtain rfl : k = 0 := by omega
          rw [show off2 + 0 * 2 = off2 by omega] at d0 d1
          have hgd : decide ((0 : Int) < ((0 : Nat) : Int)) = false := rfl
          have hq2 : Hid (∀ (i : Nat) a b, i + 1 < 0 + 1 → l[i]? = some a → l[i + 1]? = some b → a.1 < b.1) := fun i a b hi => by omega
          go_wp2_with fail
          go_quiet (fail)
          go_wp2_with fail
          go_roundw
          case rel => exact ⟨0 + 1, by go_num, by omega, hp2, hq2, below_drewN HB3.out _⟩
          case measure => simp [intOf]; omega
      · have hno : Hid (¬ GoodPs l) := fun h => hs ⟨h.key _ (List.mem_of_getElem? HX.out), h.val _ (List.mem_of_getElem? HX.out)⟩
        have hways : 16 < x.1.length ∨ (¬ 16 < x.1.length ∧ 16 < x.2.length) := by omega
        clear hs
        rcases hways with h1 | ⟨h1, h2⟩
        all_goals
          go_wp2_with fail
          go_ret
          exact ⟨false, rfl, ⟨(fun h => by cases h), fun h => absurd h hno.out⟩, HB3.out⟩
    · have hyes : Hid (GoodPs l) := ⟨by omega, fun p hpl => by
        obtain ⟨j, hj, rfl⟩ := List.getElem_of_mem hpl
        exact (hp.out j _ (by omega) (List.getElem?_eq_getElem hj)).1, fun p hpl => by
        obtain ⟨j, hj, rfl⟩ := List.getElem_of_mem hpl
        exact (hp.out j _ (by omega) (List.getElem?_eq_getElem hj)).2, rises_of fun j a b ha hb => hq.out j a b (by have := (List.getElem?_eq_some_iff.1 hb).1; omega) ha hb⟩
      clear hp hq
      go_wp2_with fail
      go_ret
      exact ⟨true, rfl, ⟨fun _ => hyes.out, fun _ => rfl⟩, hbl.out⟩

end Go.Proofs.Ytflgokbkkoobkaa.Cd

/-
  object.goodKids. Conditions: none.
-/
namespace Go.Proofs.Ytflgokbkkoobkaa.Cd
open Go.RowKit

theorem exec_load_mid {op : Oper} {a : Act} {w : World} (ty : TypeId) (x : Operand) (ho : op.op = .load ty x)
    (b o : Nat) (hx : a.eval x = .pointer (some ⟨b, o, none⟩)) (cs : List Value) (d : TypeDesc) (hS : w.rangeAt b o cs)
    (hu : Try.prog.underlying ty = some d) (hd : d.isRow = true) (hi : (Try.prog.info? ty).map (·.size) = some cs.length) : (execOp a.eval op).run Try.prog w = .ok (.value (.agg cs.toArray)) w := by
  unfold execOp
  simp only [ho, hx, Instr.loadAt, Instr.sureAddr, Sem.run_bind, Sem.run_pure, Result.andThen_ok, run_loadVar_mid w b o ty cs d hS hu hd hi]

theorem cells_kk (p : Kd) : (Try.prog.info? 48).map (·.size) = some (kkC p).length := by
  rw [kind_kk.len]
  kernel_rfl
theorem cells_ii (p : Idn) : (Try.prog.info? 28).map (·.size) = some (vb p.1).length := by
  rw [vb_length, p.2]
  exact cells_id
theorem zero_kk (W : World) : (zeroValue 48).run Try.prog W = .ok (.agg (Value.string ByteArray.empty :: vb (zer 33)).toArray) W := by kernel_rfl
theorem size_kk : (Try.prog.info? 48).map (·.size) = some 34 := by kernel_rfl

/-- A kid in a block of its own. -/
def KidAt (w : World) (b : Nat) (p : Kd) : Prop := w.heap[b]? = some (.cells (kkC p).toArray 48)
section
variable {w w' : World} {b B : Nat} {p : Kd}
theorem KidAt.below (h : KidAt w b p) (hb : Below B w w') (hB : b < B) : KidAt w' b p := (hb.block b hB).trans h
theorem KidAt.key (h : KidAt w b p) : w.cell? ⟨b, 0, none⟩ = some (.string ⟨p.1.toArray⟩) := cell_of_row _ _ _ _ _ _ h
theorem vb_kd (i : Idn) : (vb i.1)[0]? = some (.int .u8 (kd i).toNat) := by
  obtain ⟨k, s, e, _, hk⟩ := idn_cons i
  rw [e, hk]
  rfl
theorem KidAt.kind (h : KidAt w b p) : w.cell? ⟨b, 1, none⟩ = some (.int .u8 (kd p.2).toNat) :=
  (cell_of_row _ _ _ _ _ _ h).trans (by
    show (kkC p).toArray[1]? = _
    rw [List.getElem?_toArray]
    exact vb_kd p.2)
theorem KidAt.id (h : KidAt w b p) : w.rangeAt b 1 (vb p.2.1) := fun j v hv => by
  rw [cell_of_row _ _ _ _ _ _ h, List.getElem?_toArray, Nat.add_comm]
  exact hv
end
theorem KidAt.new (w : World) (p : Kd) : KidAt (w.alloc (.cells (kkC p).toArray 48)) w.heap.size p := heap_alloc_new _ _

theorem wp_fill_kk {ops : Array Oper} {rest : List Oper} {o : Oper} {a : Act} {W w : World} {Q : Exit → Act → World → Prop} (hgd : o.guard = none) (x y : Operand) (ho : o.op = .store 48 x y)
    (hW : W = w.alloc (.cells (Value.string ByteArray.empty :: vb (zer 33)).toArray 48))
    (hx : a.eval x = .pointer (some ⟨w.heap.size, 0, none⟩)) (p : Kd) (hy : a.eval y = .agg (kkC p).toArray)
    (h : wpList Try.prog ops Q rest (a.put o.dst undef) (w.alloc (.cells (kkC p).toArray 48))) : wpList Try.prog ops Q (o :: rest) a W := by
  subst hW
  exact wp_fill_row size_kk hgd x y ho _ (by simp [vb_length, zer_length]) _ hx hy (by simp [kind_kk.len p]) (fun u hu => kind_kk.one p u (by simpa using hu)) h
theorem KsIn.range {w : World} {B : Nat} {l : List Kd} {A : Option Addr} {m c : Nat} (h : KsIn w B (.slice A m c) l) {k : Nat} {p : Kd} (hk : l[k]? = some p) :
    ∃ b off, A = some ⟨b, off, none⟩ ∧ b < B ∧ w.rangeAt b (off + k * 34) (kkC p) := RwIn.at h hk
theorem range_key {w : World} {b off : Nat} {p : Kd} (h : w.rangeAt b off (kkC p)) : w.cell? ⟨b, off, none⟩ = some (.string ⟨p.1.toArray⟩) := h 0 _ rfl
theorem range_kind {w : World} {b off : Nat} {p : Kd} (h : w.rangeAt b off (kkC p)) : w.cell? ⟨b, off + 1, none⟩ = some (.int .u8 (kd p.2).toNat) := h 1 _ (by
    show (vb p.2.1)[0]? = _
    exact vb_kd p.2)

set_option maxRecDepth 100000 in
set_option maxHeartbeats 3200000 in
theorem goodks_any (v : Value) (l : List Kd) (w : World) (h : KsIn w w.heap.size v l) : Calls Try.prog 25 #[v] w (Says (GoodKs l) w) := by
  obtain ⟨A, c, rfl, hm1, hm2⟩ := h.len
  have H := Lib.hid h
  clear h
  by_cases hbig : l.length < 2 ∨ 3 < l.length
  · have hno : Hid (¬ GoodKs l) := fun h => by have := h.few; have := h.more; omega
    have hways : (l.length : Int) < 2 ∨ (¬ (l.length : Int) < 2 ∧ (3 : Int) < l.length) := by omega
    clear hbig
    rcases hways with h1 | ⟨h1, h2⟩
    all_goals
      go_enter Try.func25, Try.ntmps25
      go_wp2_with fail
      go_ret
      exact ⟨false, rfl, ⟨(fun h => by cases h), fun h => absurd h hno.out⟩, Below.refl _ _⟩
  have hb1 : ¬ (l.length : Int) < 2 := by omega
  have hb2 : ¬ (3 : Int) < l.length := by omega
  obtain ⟨y0, hy0⟩ : ∃ x, l[0]? = some x := ⟨l[0]'(by omega), List.getElem?_eq_getElem (by omega)⟩
  have HY0 := Lib.hid hy0
  clear hy0 hbig
  obtain ⟨b2, off2, e2, hB2, r0⟩ := KsIn.range H.out HY0.out
  subst e2
  rw [show off2 + 0 * 34 = off2 by omega] at r0
  have R0 := Lib.hid r0
  clear r0
  go_enter Try.func25, Try.ntmps25
  go_wp2_with fail
  go_loopw [15] (fun i wr => ∃ k : Nat, i = .int .i64 k ∧ k ≤ l.length ∧ Hid (∀ (j : Nat) p, j < k → l[j]? = some p → p.1.length ≤ 16 ∧ goodI p.2.1 = true ∧ kd p.2 = kd y0.2) ∧ Hid (∀ (j : Nat) a b, j + 1 < k → l[j]? = some a → l[j + 1]? = some b → a.1 < b.1) ∧ Hid (Below w.heap.size w wr)) (fun i _ => l.length - (intOf i).toNat)
  case atStart => exact ⟨0, rfl, by omega, fun j _ h => by omega, fun j _ _ h => by omega, Below.refl _ _⟩
  case round =>
    obtain ⟨k, rfl, hk, hp, hq, hbl⟩ := hrel
    by_cases hlt : k < l.length
    · obtain ⟨x, hxk⟩ : ∃ x, l[k]? = some x := ⟨l[k], List.getElem?_eq_getElem hlt⟩
      obtain ⟨b3, off3, e3, hB3, rx⟩ := KsIn.range (H.out.below hbl.out) hxk
      injection e3 with e3
      injection e3 with e3 e4
      subst e3 e4
      have HX := Lib.hid hxk
      have RX := Lib.hid rx
      clear hxk rx hB3
      go_wp2_with (first
        | (refine wpList_load_mid rfl 48 _ rfl b2 (off2 + k * 34) rfl (kkC x) _ RX.out Try.underlying48 rfl (cells_kk x) ?_)
        | (refine wp_alloc_row zero_kk rfl rfl ?_)
        | (refine wp_fill_kk rfl _ _ rfl rfl (by simp [Act.eval]) x rfl ?_))
      have HK : Hid (KidAt (wr.alloc (.cells (kkC x).toArray 48)) wr.heap.size x) := KidAt.new _ _
      have hz1 : (wr.alloc (.cells (kkC x).toArray 48)).heap.size = wr.heap.size + 1 := asz _ _
      have HB1 : Hid (Below w.heap.size w (wr.alloc (.cells (kkC x).toArray 48))) := hbl.out.alloc hbl.out.size _
      generalize wr.alloc (.cells (kkC x).toArray 48) = W1 at HK hz1 HB1 ⊢
      have hzr := hbl.out.size
      clear RX
      obtain ⟨W0, hW0⟩ : ∃ x, W1.drew = x := ⟨_, rfl⟩
      have hS0 : KidAt W0 wr.heap.size x ∧ W0.rangeAt b2 off2 (kkC y0) := by
        rw [← hW0]
        exact ⟨HK.out, fun j v hv => (HB1.out.drew.cell (p := ⟨b2, off2 + j, none⟩) hB2).trans (R0.out j v hv)⟩
      have HBD : Hid (Below w.heap.size w W0) := by rw [← hW0]; exact HB1.out.drew
      have hsz0 : W0.heap.size = wr.heap.size + 1 := by rw [← hW0]; exact hz1
      clear HB1 hz1 HK
      have hzk : (ByteArray.mk x.1.toArray).size = x.1.length := rfl
      have hl0 : (0 : Int) < l.length := by omega
      by_cases hs1 : 16 < x.1.length
      · have hno : Hid (¬ GoodKs l) := fun h => by have := h.key _ (List.mem_of_getElem? HX.out); omega
        have hd1 : decide ((16 : Int) < x.1.length) = true := decide_eq_true (by omega)
        refine region_begin hW0 (S := fun W => KidAt W wr.heap.size x ∧ W.rangeAt b2 off2 (kkC y0)) (by kernel_rfl) hS0 (fun hHeld => ?_)
        clear hW0 hS0
        refine take_at (i := 0) (.pointer (some ⟨wr.heap.size, 0, none⟩)) (some 20) (by decide) (by rfl) (by kernel_rfl) (by kernel_rfl) (by kernel_rfl) (fun _ _ _ h => h) (by rfl) (fun W hW => by go_simp) (by assumption) ?_
        try simp only [Act.put, List.setIfInBounds_toArray, List.set_cons_zero, List.set_cons_succ]
        refine take_at (i := 1) (.string ⟨x.1.toArray⟩) (some 21) (by decide) (by rfl) (by kernel_rfl) (by kernel_rfl) (by kernel_rfl) (fun _ _ _ h => h) (by rfl) (fun W hW => by have := hW.1.key; go_simp) (by assumption) ?_
        try simp only [Act.put, List.setIfInBounds_toArray, List.set_cons_zero, List.set_cons_succ]
        refine take_at (i := 2) (.int .i64 x.1.length) (some 22) (by decide) (by rfl) (by kernel_rfl) (by kernel_rfl) (by kernel_rfl) (fun _ _ _ h => h) (by rfl) (fun W hW => by go_simp) (by assumption) ?_
        try simp only [Act.put, List.setIfInBounds_toArray, List.set_cons_zero, List.set_cons_succ]
        refine take_at (i := 3) (.bool true) (some 23) (by decide) (by rfl) (by kernel_rfl) (by kernel_rfl) (by kernel_rfl) (fun _ _ _ h => h) (by rfl) (fun W hW => by go_simp) (by assumption) ?_
        try simp only [Act.put, List.setIfInBounds_toArray, List.set_cons_zero, List.set_cons_succ]
        refine take_at (i := 4) (.bool true) (some 24) (by decide) (by rfl) (by kernel_rfl) (by kernel_rfl) (by kernel_rfl) (fun _ _ _ h => h) (by rfl) (fun W hW => by go_simp) (by assumption) ?_
        try simp only [Act.put, List.setIfInBounds_toArray, List.set_cons_zero, List.set_cons_succ]
        refine skip_at (i := 5) (some 25) (by decide) (by rfl) (by kernel_rfl) (by kernel_rfl) (by kernel_rfl) (fun _ _ _ h => h) (by rfl) (by assumption) ?_
        try simp only [Act.put, List.setIfInBounds_toArray, List.set_cons_zero, List.set_cons_succ]
        refine skip_at (i := 6) (some 26) (by decide) (by rfl) (by kernel_rfl) (by kernel_rfl) (by kernel_rfl) (fun _ _ _ h => h) (by rfl) (by assumption) ?_
        try simp only [Act.put, List.setIfInBounds_toArray, List.set_cons_zero, List.set_cons_succ]
        refine skip_at (i := 7) (some 27) (by decide) (by rfl) (by kernel_rfl) (by kernel_rfl) (by kernel_rfl) (fun _ _ _ h => h) (by rfl) (by assumption) ?_
        try simp only [Act.put, List.setIfInBounds_toArray, List.set_cons_zero, List.set_cons_succ]
        refine skip_at (i := 8) (some 28) (by decide) (by rfl) (by kernel_rfl) (by kernel_rfl) (by kernel_rfl) (fun _ _ _ h => h) (by rfl) (by assumption) ?_
        try simp only [Act.put, List.setIfInBounds_toArray, List.set_cons_zero, List.set_cons_succ]
        refine take_at (i := 9) (.bool true) (some 29) (by decide) (by rfl) (by kernel_rfl) (by kernel_rfl) (by kernel_rfl) (fun _ _ _ h => h) (by rfl) (fun W hW => by go_simp) (by assumption) ?_
        try simp only [Act.put, List.setIfInBounds_toArray, List.set_cons_zero, List.set_cons_succ]
        refine take_at (i := 10) (.bool true) (some 30) (by decide) (by rfl) (by kernel_rfl) (by kernel_rfl) (by kernel_rfl) (fun _ _ _ h => h) (by rfl) (fun W hW => by go_simp) (by assumption) ?_
        try simp only [Act.put, List.setIfInBounds_toArray, List.set_cons_zero, List.set_cons_succ]
        refine skip_at (i := 11) (some 31) (by decide) (by rfl) (by kernel_rfl) (by kernel_rfl) (by kernel_rfl) (fun _ _ _ h => h) (by rfl) (by assumption) ?_
        try simp only [Act.put, List.setIfInBounds_toArray, List.set_cons_zero, List.set_cons_succ]
        refine skip_at (i := 12) (some 32) (by decide) (by rfl) (by kernel_rfl) (by kernel_rfl) (by kernel_rfl) (fun _ _ _ h => h) (by rfl) (by assumption) ?_
        try simp only [Act.put, List.setIfInBounds_toArray, List.set_cons_zero, List.set_cons_succ]
        refine skip_at (i := 13) (some 33) (by decide) (by rfl) (by kernel_rfl) (by kernel_rfl) (by kernel_rfl) (fun _ _ _ h => h) (by rfl) (by assumption) ?_
        try simp only [Act.put, List.setIfInBounds_toArray, List.set_cons_zero, List.set_cons_succ]
        refine skip_at (i := 14) (some 34) (by decide) (by rfl) (by kernel_rfl) (by kernel_rfl) (by kernel_rfl) (fun _ _ _ h => h) (by rfl) (by assumption) ?_
        try simp only [Act.put, List.setIfInBounds_toArray, List.set_cons_zero, List.set_cons_succ]
        refine skip_at (i := 15) (some 35) (by decide) (by rfl) (by kernel_rfl) (by kernel_rfl) (by kernel_rfl) (fun _ _ _ h => h) (by rfl) (by assumption) ?_
        try simp only [Act.put, List.setIfInBounds_toArray, List.set_cons_zero, List.set_cons_succ]
        refine skip_at (i := 16) (some 36) (by decide) (by rfl) (by kernel_rfl) (by kernel_rfl) (by kernel_rfl) (fun _ _ _ h => h) (by rfl) (by assumption) ?_
        try simp only [Act.put, List.setIfInBounds_toArray, List.set_cons_zero, List.set_cons_succ]
        refine skip_at (i := 17) (some 37) (by decide) (by rfl) (by kernel_rfl) (by kernel_rfl) (by kernel_rfl) (fun _ _ _ h => h) (by rfl) (by assumption) ?_
        try simp only [Act.put, List.setIfInBounds_toArray, List.set_cons_zero, List.set_cons_succ]
        refine skip_at (i := 18) (some 38) (by decide) (by rfl) (by kernel_rfl) (by kernel_rfl) (by kernel_rfl) (fun _ _ _ h => h) (by rfl) (by assumption) ?_
        try simp only [Act.put, List.setIfInBounds_toArray, List.set_cons_zero, List.set_cons_succ]
        refine skip_at (i := 19) (some 39) (by decide) (by rfl) (by kernel_rfl) (by kernel_rfl) (by kernel_rfl) (fun _ _ _ h => h) (by rfl) (by assumption) ?_
        try simp only [Act.put, List.setIfInBounds_toArray, List.set_cons_zero, List.set_cons_succ]
        refine take_at (i := 20) (.bool true) (some 40) (by decide) (by rfl) (by kernel_rfl) (by kernel_rfl) (by kernel_rfl) (fun _ _ _ h => h) (by rfl) (fun W hW => by go_simp) (by assumption) ?_
        try simp only [Act.put, List.setIfInBounds_toArray, List.set_cons_zero, List.set_cons_succ]
        refine wpAnyH_done (by kernel_rfl) ?_ _
        try simp only [Act.put, List.setIfInBounds_toArray, List.set_cons_zero, List.set_cons_succ]
        go_wp2_with fail
        go_ret
        exact ⟨false, rfl, ⟨(fun h => by cases h), fun h => absurd h hno.out⟩, HBD.out⟩
      have hd1 : decide ((16 : Int) < x.1.length) = false := decide_eq_false (by omega)
      have hgood := fun W => good_l x.2.1 W x.2.2
      cases hg : goodI x.2.1
      · have hno : Hid (¬ GoodKs l) := fun h => by have := h.name _ (List.mem_of_getElem? HX.out); rw [hg] at this; cases this
        rw [hg] at hgood
        have HGOOD := Lib.hid hgood
        clear hgood hg
        refine region_begin hW0 (S := fun W => KidAt W wr.heap.size x ∧ W.rangeAt b2 off2 (kkC y0)) (by kernel_rfl) hS0 (fun hHeld => ?_)
        clear hW0 hS0
        refine take_at (i := 0) (.pointer (some ⟨wr.heap.size, 0, none⟩)) (some 20) (by decide) (by rfl) (by kernel_rfl) (by kernel_rfl) (by kernel_rfl) (fun _ _ _ h => h) (by rfl) (fun W hW => by go_simp) (by assumption) ?_
        try simp only [Act.put, List.setIfInBounds_toArray, List.set_cons_zero, List.set_cons_succ]
        refine take_at (i := 1) (.string ⟨x.1.toArray⟩) (some 21) (by decide) (by rfl) (by kernel_rfl) (by kernel_rfl) (by kernel_rfl) (fun _ _ _ h => h) (by rfl) (fun W hW => by have := hW.1.key; go_simp) (by assumption) ?_
        try simp only [Act.put, List.setIfInBounds_toArray, List.set_cons_zero, List.set_cons_succ]
        refine take_at (i := 2) (.int .i64 x.1.length) (some 22) (by decide) (by rfl) (by kernel_rfl) (by kernel_rfl) (by kernel_rfl) (fun _ _ _ h => h) (by rfl) (fun W hW => by go_simp) (by assumption) ?_
        try simp only [Act.put, List.setIfInBounds_toArray, List.set_cons_zero, List.set_cons_succ]
        refine take_at (i := 3) (.bool false) (some 23) (by decide) (by rfl) (by kernel_rfl) (by kernel_rfl) (by kernel_rfl) (fun _ _ _ h => h) (by rfl) (fun W hW => by go_simp) (by assumption) ?_
        try simp only [Act.put, List.setIfInBounds_toArray, List.set_cons_zero, List.set_cons_succ]
        refine take_at (i := 4) (.bool false) (some 24) (by decide) (by rfl) (by kernel_rfl) (by kernel_rfl) (by kernel_rfl) (fun _ _ _ h => h) (by rfl) (fun W hW => by go_simp) (by assumption) ?_
        try simp only [Act.put, List.setIfInBounds_toArray, List.set_cons_zero, List.set_cons_succ]
        refine take_at (i := 5) (.pointer (some ⟨wr.heap.size, 1, none⟩)) (some 25) (by decide) (by rfl) (by kernel_rfl) (by kernel_rfl) (by kernel_rfl) (fun _ _ _ h => h) (by rfl) (fun W hW => by go_simp) (by assumption) ?_
        try simp only [Act.put, List.setIfInBounds_toArray, List.set_cons_zero, List.set_cons_succ]
        refine take_at (i := 6) (idV x.2.1) (some 26) (by decide) (by rfl) (by kernel_rfl) (by kernel_rfl) (by kernel_rfl) (fun _ _ _ h => h) (by rfl) (fun W hW => by exact exec_load_mid _ _ rfl wr.heap.size 1 rfl (vb x.2.1) _ hW.1.id Try.underlying28 rfl (cells_ii x.2)) (by assumption) ?_
        try simp only [Act.put, List.setIfInBounds_toArray, List.set_cons_zero, List.set_cons_succ]
        refine wpAnyH_ready (rs := [7]) (by kernel_rfl) (by simp) (AllReadyH.cons (Array.getElem?_eq_getElem (i := 7) (by decide)) (fun K9 hK => ?_) AllReadyH.nil)
        go_simp
        refine (HGOOD.out _).mono ?_
        rintro e w3 ⟨rfl, hb3⟩
        have HB3 := Lib.hid (HBD.out.trans (hb3.mono (by omega)))
        have hs3 := hb3.size
        refine hK.out _ _ (⟨hHeld.1.below hb3 (by omega), fun j v hv => (hb3.cell (p := ⟨b2, off2 + j, none⟩) (by show b2 < W0.heap.size; omega)).trans (hHeld.2 j v hv)⟩) (fun hHeld => ?_)
        clear hK K9
        try simp only [Act.put, List.setIfInBounds_toArray, List.set_cons_zero, List.set_cons_succ]
        clear hb3
        refine take_at (i := 8) (.bool true) (some 28) (by decide) (by rfl) (by kernel_rfl) (by kernel_rfl) (by kernel_rfl) (fun _ _ _ h => h) (by rfl) (fun W hW => by go_simp) (by assumption) ?_
        try simp only [Act.put, List.setIfInBounds_toArray, List.set_cons_zero, List.set_cons_succ]
        refine take_at (i := 9) (.bool true) (some 29) (by decide) (by rfl) (by kernel_rfl) (by kernel_rfl) (by kernel_rfl) (fun _ _ _ h => h) (by rfl) (fun W hW => by go_simp) (by assumption) ?_
        try simp only [Act.put, List.setIfInBounds_toArray, List.set_cons_zero, List.set_cons_succ]
        refine take_at (i := 10) (.bool true) (some 30) (by decide) (by rfl) (by kernel_rfl) (by kernel_rfl) (by kernel_rfl) (fun _ _ _ h => h) (by rfl) (fun W hW => by go_simp) (by assumption) ?_
        try simp only [Act.put, List.setIfInBounds_toArray, List.set_cons_zero, List.set_cons_succ]
        refine skip_at (i := 11) (some 31) (by decide) (by rfl) (by kernel_rfl) (by kernel_rfl) (by kernel_rfl) (fun _ _ _ h => h) (by rfl) (by assumption) ?_
        try simp only [Act.put, List.setIfInBounds_toArray, List.set_cons_zero, List.set_cons_succ]
        refine skip_at (i := 12) (some 32) (by decide) (by rfl) (by kernel_rfl) (by kernel_rfl) (by kernel_rfl) (fun _ _ _ h => h) (by rfl) (by assumption) ?_
        try simp only [Act.put, List.setIfInBounds_toArray, List.set_cons_zero, List.set_cons_succ]
        refine skip_at (i := 13) (some 33) (by decide) (by rfl) (by kernel_rfl) (by kernel_rfl) (by kernel_rfl) (fun _ _ _ h => h) (by rfl) (by assumption) ?_
        try simp only [Act.put, List.setIfInBounds_toArray, List.set_cons_zero, List.set_cons_succ]
        refine skip_at (i := 14) (some 34) (by decide) (by rfl) (by kernel_rfl) (by kernel_rfl) (by kernel_rfl) (fun _ _ _ h => h) (by rfl) (by assumption) ?_
        try simp only [Act.put, List.setIfInBounds_toArray, List.set_cons_zero, List.set_cons_succ]
        refine skip_at (i := 15) (some 35) (by decide) (by rfl) (by kernel_rfl) (by kernel_rfl) (by kernel_rfl) (fun _ _ _ h => h) (by rfl) (by assumption) ?_
        try simp only [Act.put, List.setIfInBounds_toArray, List.set_cons_zero, List.set_cons_succ]
        refine skip_at (i := 16) (some 36) (by decide) (by rfl) (by kernel_rfl) (by kernel_rfl) (by kernel_rfl) (fun _ _ _ h => h) (by rfl) (by assumption) ?_
        try simp only [Act.put, List.setIfInBounds_toArray, List.set_cons_zero, List.set_cons_succ]
        refine skip_at (i := 17) (some 37) (by decide) (by rfl) (by kernel_rfl) (by kernel_rfl) (by kernel_rfl) (fun _ _ _ h => h) (by rfl) (by assumption) ?_
        try simp only [Act.put, List.setIfInBounds_toArray, List.set_cons_zero, List.set_cons_succ]
        refine skip_at (i := 18) (some 38) (by decide) (by rfl) (by kernel_rfl) (by kernel_rfl) (by kernel_rfl) (fun _ _ _ h => h) (by rfl) (by assumption) ?_
        try simp only [Act.put, List.setIfInBounds_toArray, List.set_cons_zero, List.set_cons_succ]
        refine skip_at (i := 19) (some 39) (by decide) (by rfl) (by kernel_rfl) (by kernel_rfl) (by kernel_rfl) (fun _ _ _ h => h) (by rfl) (by assumption) ?_
        try simp only [Act.put, List.setIfInBounds_toArray, List.set_cons_zero, List.set_cons_succ]
        refine take_at (i := 20) (.bool true) (some 40) (by decide) (by rfl) (by kernel_rfl) (by kernel_rfl) (by kernel_rfl) (fun _ _ _ h => h) (by rfl) (fun W hW => by go_simp) (by assumption) ?_
        try simp only [Act.put, List.setIfInBounds_toArray, List.set_cons_zero, List.set_cons_succ]
        refine wpAnyH_done (by kernel_rfl) ?_ _
        try simp only [Act.put, List.setIfInBounds_toArray, List.set_cons_zero, List.set_cons_succ]
        go_wp2_with fail
        go_ret
        exact ⟨false, rfl, ⟨(fun h => by cases h), fun h => absurd h hno.out⟩, HB3.out⟩
      · have HG := Lib.hid hg
        rw [hg] at hgood
        have HGOOD := Lib.hid hgood
        clear hgood hg
        by_cases hkk : kd x.2 = kd y0.2
        · have hp2 : Hid (∀ (j : Nat) p, j < k + 1 → l[j]? = some p → p.1.length ≤ 16 ∧ goodI p.2.1 = true ∧ kd p.2 = kd y0.2) := fun j p hj hjp => by
            by_cases e : j = k
            · subst e
              rw [HX.out] at hjp
              injection hjp with hjp
              subst hjp
              exact ⟨by omega, HG.out, hkk⟩
            · exact hp.out j p (by omega) hjp
          have hnq : (((kd x.2).toNat : Int) != ((kd y0.2).toNat : Int)) = false := by rw [hkk]; simp
          clear hkk
          refine region_begin hW0 (S := fun W => KidAt W wr.heap.size x ∧ W.rangeAt b2 off2 (kkC y0)) (by kernel_rfl) hS0 (fun hHeld => ?_)
          clear hW0 hS0
          refine take_at (i := 0) (.pointer (some ⟨wr.heap.size, 0, none⟩)) (some 20) (by decide) (by rfl) (by kernel_rfl) (by kernel_rfl) (by kernel_rfl) (fun _ _ _ h => h) (by rfl) (fun W hW => by go_simp) (by assumption) ?_
          try simp only [Act.put, List.setIfInBounds_toArray, List.set_cons_zero, List.set_cons_succ]
          refine take_at (i := 1) (.string ⟨x.1.toArray⟩) (some 21) (by decide) (by rfl) (by kernel_rfl) (by kernel_rfl) (by kernel_rfl) (fun _ _ _ h => h) (by rfl) (fun W hW => by have := hW.1.key; go_simp) (by assumption) ?_
          try simp only [Act.put, List.setIfInBounds_toArray, List.set_cons_zero, List.set_cons_succ]
          refine take_at (i := 2) (.int .i64 x.1.length) (some 22) (by decide) (by rfl) (by kernel_rfl) (by kernel_rfl) (by kernel_rfl) (fun _ _ _ h => h) (by rfl) (fun W hW => by go_simp) (by assumption) ?_
          try simp only [Act.put, List.setIfInBounds_toArray, List.set_cons_zero, List.set_cons_succ]
          refine take_at (i := 3) (.bool false) (some 23) (by decide) (by rfl) (by kernel_rfl) (by kernel_rfl) (by kernel_rfl) (fun _ _ _ h => h) (by rfl) (fun W hW => by go_simp) (by assumption) ?_
          try simp only [Act.put, List.setIfInBounds_toArray, List.set_cons_zero, List.set_cons_succ]
          refine take_at (i := 4) (.bool false) (some 24) (by decide) (by rfl) (by kernel_rfl) (by kernel_rfl) (by kernel_rfl) (fun _ _ _ h => h) (by rfl) (fun W hW => by go_simp) (by assumption) ?_
          try simp only [Act.put, List.setIfInBounds_toArray, List.set_cons_zero, List.set_cons_succ]
          refine take_at (i := 5) (.pointer (some ⟨wr.heap.size, 1, none⟩)) (some 25) (by decide) (by rfl) (by kernel_rfl) (by kernel_rfl) (by kernel_rfl) (fun _ _ _ h => h) (by rfl) (fun W hW => by go_simp) (by assumption) ?_
          try simp only [Act.put, List.setIfInBounds_toArray, List.set_cons_zero, List.set_cons_succ]
          refine take_at (i := 6) (idV x.2.1) (some 26) (by decide) (by rfl) (by kernel_rfl) (by kernel_rfl) (by kernel_rfl) (fun _ _ _ h => h) (by rfl) (fun W hW => by exact exec_load_mid _ _ rfl wr.heap.size 1 rfl (vb x.2.1) _ hW.1.id Try.underlying28 rfl (cells_ii x.2)) (by assumption) ?_
          try simp only [Act.put, List.setIfInBounds_toArray, List.set_cons_zero, List.set_cons_succ]
          refine wpAnyH_ready (rs := [7]) (by kernel_rfl) (by simp) (AllReadyH.cons (Array.getElem?_eq_getElem (i := 7) (by decide)) (fun K9 hK => ?_) AllReadyH.nil)
          go_simp
          refine (HGOOD.out _).mono ?_
          rintro e w3 ⟨rfl, hb3⟩
          have HB3 := Lib.hid (HBD.out.trans (hb3.mono (by omega)))
          have hs3 := hb3.size
          refine hK.out _ _ (⟨hHeld.1.below hb3 (by omega), fun j v hv => (hb3.cell (p := ⟨b2, off2 + j, none⟩) (by show b2 < W0.heap.size; omega)).trans (hHeld.2 j v hv)⟩) (fun hHeld => ?_)
          clear hK K9
          try simp only [Act.put, List.setIfInBounds_toArray, List.set_cons_zero, List.set_cons_succ]
          clear hb3
          refine take_at (i := 8) (.bool false) (some 28) (by decide) (by rfl) (by kernel_rfl) (by kernel_rfl) (by kernel_rfl) (fun _ _ _ h => h) (by rfl) (fun W hW => by go_simp) (by assumption) ?_
          try simp only [Act.put, List.setIfInBounds_toArray, List.set_cons_zero, List.set_cons_succ]
          refine take_at (i := 9) (.bool false) (some 29) (by decide) (by rfl) (by kernel_rfl) (by kernel_rfl) (by kernel_rfl) (fun _ _ _ h => h) (by rfl) (fun W hW => by go_simp) (by assumption) ?_
          try simp only [Act.put, List.setIfInBounds_toArray, List.set_cons_zero, List.set_cons_succ]
          refine take_at (i := 10) (.bool false) (some 30) (by decide) (by rfl) (by kernel_rfl) (by kernel_rfl) (by kernel_rfl) (fun _ _ _ h => h) (by rfl) (fun W hW => by go_simp) (by assumption) ?_
          try simp only [Act.put, List.setIfInBounds_toArray, List.set_cons_zero, List.set_cons_succ]
          refine take_at (i := 11) (.pointer (some ⟨wr.heap.size, 1, none⟩)) (some 31) (by decide) (by rfl) (by kernel_rfl) (by kernel_rfl) (by kernel_rfl) (fun _ _ _ h => h) (by rfl) (fun W hW => by go_simp) (by assumption) ?_
          try simp only [Act.put, List.setIfInBounds_toArray, List.set_cons_zero, List.set_cons_succ]
          refine take_at (i := 12) (.pointer (some ⟨wr.heap.size, 1, none⟩)) (some 32) (by decide) (by rfl) (by kernel_rfl) (by kernel_rfl) (by kernel_rfl) (fun _ _ _ h => h) (by rfl) (fun W hW => by go_simp) (by assumption) ?_
          try simp only [Act.put, List.setIfInBounds_toArray, List.set_cons_zero, List.set_cons_succ]
          refine take_at (i := 13) (.int .u8 (kd x.2).toNat) (some 33) (by decide) (by rfl) (by kernel_rfl) (by kernel_rfl) (by kernel_rfl) (fun _ _ _ h => h) (by rfl) (fun W hW => by have := hW.1.kind; go_simp) (by assumption) ?_
          try simp only [Act.put, List.setIfInBounds_toArray, List.set_cons_zero, List.set_cons_succ]
          refine take_at (i := 14) (.slice (some ⟨b2, off2, none⟩) l.length c) (some 34) (by decide) (by rfl) (by kernel_rfl) (by kernel_rfl) (by kernel_rfl) (fun _ _ _ h => h) (by rfl) (fun W hW => by go_simp) (by assumption) ?_
          try simp only [Act.put, List.setIfInBounds_toArray, List.set_cons_zero, List.set_cons_succ]
          refine take_at (i := 15) (.pointer (some ⟨b2, off2, none⟩)) (some 35) (by decide) (by rfl) (by kernel_rfl) (by kernel_rfl) (by kernel_rfl) (fun _ _ _ h => h) (by rfl) (fun W hW => by go_simp; intro he; rw [he] at hlt; simp at hlt) (by assumption) ?_
          try simp only [Act.put, List.setIfInBounds_toArray, List.set_cons_zero, List.set_cons_succ]
          refine take_at (i := 16) (.pointer (some ⟨b2, off2 + 1, none⟩)) (some 36) (by decide) (by rfl) (by kernel_rfl) (by kernel_rfl) (by kernel_rfl) (fun _ _ _ h => h) (by rfl) (fun W hW => by go_simp) (by assumption) ?_
          try simp only [Act.put, List.setIfInBounds_toArray, List.set_cons_zero, List.set_cons_succ]
          refine take_at (i := 17) (.pointer (some ⟨b2, off2 + 1, none⟩)) (some 37) (by decide) (by rfl) (by kernel_rfl) (by kernel_rfl) (by kernel_rfl) (fun _ _ _ h => h) (by rfl) (fun W hW => by go_simp) (by assumption) ?_
          try simp only [Act.put, List.setIfInBounds_toArray, List.set_cons_zero, List.set_cons_succ]
          refine take_at (i := 18) (.int .u8 (kd y0.2).toNat) (some 38) (by decide) (by rfl) (by kernel_rfl) (by kernel_rfl) (by kernel_rfl) (fun _ _ _ h => h) (by rfl) (fun W hW => by have := range_kind hW.2; go_simp) (by assumption) ?_
          try simp only [Act.put, List.setIfInBounds_toArray, List.set_cons_zero, List.set_cons_succ]
          refine take_at (i := 19) (.bool false) (some 39) (by decide) (by rfl) (by kernel_rfl) (by kernel_rfl) (by kernel_rfl) (fun _ _ _ h => h) (by rfl) (fun W hW => by go_simp) (by assumption) ?_
          try simp only [Act.put, List.setIfInBounds_toArray, List.set_cons_zero, List.set_cons_succ]
          refine take_at (i := 20) (.bool false) (some 40) (by decide) (by rfl) (by kernel_rfl) (by kernel_rfl) (by kernel_rfl) (fun _ _ _ h => h) (by rfl) (fun W hW => by go_simp) (by assumption) ?_
          try simp only [Act.put, List.setIfInBounds_toArray, List.set_cons_zero, List.set_cons_succ]
          refine wpAnyH_done (by kernel_rfl) ?_ _
          try simp only [Act.put, List.setIfInBounds_toArray, List.set_cons_zero, List.set_cons_succ]
          go_wp2_with fail
          have d3 := hHeld.1.key
          by_cases h0 : 0 < k
          · obtain ⟨j, rfl⟩ : ∃ j, k = j + 1 := ⟨k - 1, by omega⟩
            obtain ⟨y, hyk⟩ : ∃ y, l[j]? = some y := ⟨l[j], List.getElem?_eq_getElem (by omega)⟩
            obtain ⟨b3, off3, e3, hB3, ry⟩ := KsIn.range (H.out.below HB3.out) hyk
            injection e3 with e3
            injection e3 with e3 e4
            subst e3 e4
            have f0 := range_key ry
            have HY := Lib.hid hyk
            clear hyk ry
            have hgd : decide ((0 : Int) < (j : Int) + 1) = true := decide_eq_true (by omega)
            have hle := less_of y.1 x.1
            by_cases hov : y.1 < x.1
            · rw [decide_eq_true hov] at hle
              have hq2 : Hid (∀ (i : Nat) a b, i + 1 < j + 1 + 1 → l[i]? = some a → l[i + 1]? = some b → a.1 < b.1) := fun i a b hi ha hb => by
                by_cases e : i = j
                · subst e
                  rw [HY.out] at ha
                  rw [HX.out] at hb
                  injection ha with ha
                  injection hb with hb
                  subst ha hb
                  exact hov
                · exact hq.out i a b (by omega) ha hb
              clear hov
              go_quiet (fail)
              go_wp2_with fail
              go_roundw
              case rel => exact ⟨j + 1 + 1, by go_num, by omega, hp2, hq2, below_drewN HB3.out _⟩
              case measure => simp [intOf]; omega
            · rw [decide_eq_false hov] at hle
              have hno : Hid (¬ GoodKs l) := fun h => hov (rises_to h.rise HY.out HX.out)
              clear hov
              go_quiet (fail)
              go_wp2_with fail
              go_ret
              exact ⟨false, rfl, ⟨(fun h => by cases h), fun h => absurd h hno.out⟩, below_drewN HB3.out _⟩
          · obtain rfl : k = 0 := by omega
            have hgd : decide ((0 : Int) < ((0 : Nat) : Int)) = false := rfl
            have hq2 : Hid (∀ (i : Nat) a b, i + 1 < 0 + 1 → l[i]? = some a → l[i + 1]? = some b → a.1 < b.1) := fun i a b hi => by omega
            go_quiet (fail)
            go_wp2_with fail
            go_roundw
            case rel => exact ⟨0 + 1, by go_num, by omega, hp2, hq2, below_drewN HB3.out _⟩
            case measure => simp [intOf]; omega
        · have hno : Hid (¬ GoodKs l) := fun h => hkk (h.kind _ (List.mem_of_getElem? HX.out) _ HY0.out)
          have hnq : (((kd x.2).toNat : Int) != ((kd y0.2).toNat : Int)) = true := by
            rw [bne_iff_ne]
            exact fun e => hkk (UInt8.toNat_inj.1 (by omega))
          clear hkk
          refine region_begin hW0 (S := fun W => KidAt W wr.heap.size x ∧ W.rangeAt b2 off2 (kkC y0)) (by kernel_rfl) hS0 (fun hHeld => ?_)
          clear hW0 hS0
          refine take_at (i := 0) (.pointer (some ⟨wr.heap.size, 0, none⟩)) (some 20) (by decide) (by rfl) (by kernel_rfl) (by kernel_rfl) (by kernel_rfl) (fun _ _ _ h => h) (by rfl) (fun W hW => by go_simp) (by assumption) ?_
          try simp only [Act.put, List.setIfInBounds_toArray, List.set_cons_zero, List.set_cons_succ]
          refine take_at (i := 1) (.string ⟨x.1.toArray⟩) (some 21) (by decide) (by rfl) (by kernel_rfl) (by kernel_rfl) (by kernel_rfl) (fun _ _ _ h => h) (by rfl) (fun W hW => by have := hW.1.key; go_simp) (by assumption) ?_
          try simp only [Act.put, List.setIfInBounds_toArray, List.set_cons_zero, List.set_cons_succ]
          refine take_at (i := 2) (.int .i64 x.1.length) (some 22) (by decide) (by rfl) (by kernel_rfl) (by kernel_rfl) (by kernel_rfl) (fun _ _ _ h => h) (by rfl) (fun W hW => by go_simp) (by assumption) ?_
          try simp only [Act.put, List.setIfInBounds_toArray, List.set_cons_zero, List.set_cons_succ]
          refine take_at (i := 3) (.bool false) (some 23) (by decide) (by rfl) (by kernel_rfl) (by kernel_rfl) (by kernel_rfl) (fun _ _ _ h => h) (by rfl) (fun W hW => by go_simp) (by assumption) ?_
          try simp only [Act.put, List.setIfInBounds_toArray, List.set_cons_zero, List.set_cons_succ]
          refine take_at (i := 4) (.bool false) (some 24) (by decide) (by rfl) (by kernel_rfl) (by kernel_rfl) (by kernel_rfl) (fun _ _ _ h => h) (by rfl) (fun W hW => by go_simp) (by assumption) ?_
          try simp only [Act.put, List.setIfInBounds_toArray, List.set_cons_zero, List.set_cons_succ]
          refine take_at (i := 5) (.pointer (some ⟨wr.heap.size, 1, none⟩)) (some 25) (by decide) (by rfl) (by kernel_rfl) (by kernel_rfl) (by kernel_rfl) (fun _ _ _ h => h) (by rfl) (fun W hW => by go_simp) (by assumption) ?_
          try simp only [Act.put, List.setIfInBounds_toArray, List.set_cons_zero, List.set_cons_succ]
          refine take_at (i := 6) (idV x.2.1) (some 26) (by decide) (by rfl) (by kernel_rfl) (by kernel_rfl) (by kernel_rfl) (fun _ _ _ h => h) (by rfl) (fun W hW => by exact exec_load_mid _ _ rfl wr.heap.size 1 rfl (vb x.2.1) _ hW.1.id Try.underlying28 rfl (cells_ii x.2)) (by assumption) ?_
          try simp only [Act.put, List.setIfInBounds_toArray, List.set_cons_zero, List.set_cons_succ]
          refine wpAnyH_ready (rs := [7]) (by kernel_rfl) (by simp) (AllReadyH.cons (Array.getElem?_eq_getElem (i := 7) (by decide)) (fun K9 hK => ?_) AllReadyH.nil)
          go_simp
          refine (HGOOD.out _).mono ?_
          rintro e w3 ⟨rfl, hb3⟩
          have HB3 := Lib.hid (HBD.out.trans (hb3.mono (by omega)))
          have hs3 := hb3.size
          refine hK.out _ _ (⟨hHeld.1.below hb3 (by omega), fun j v hv => (hb3.cell (p := ⟨b2, off2 + j, none⟩) (by show b2 < W0.heap.size; omega)).trans (hHeld.2 j v hv)⟩) (fun hHeld => ?_)
          clear hK K9
          try simp only [Act.put, List.setIfInBounds_toArray, List.set_cons_zero, List.set_cons_succ]
          clear hb3
          refine take_at (i := 8) (.bool false) (some 28) (by decide) (by rfl) (by kernel_rfl) (by kernel_rfl) (by kernel_rfl) (fun _ _ _ h => h) (by rfl) (fun W hW => by go_simp) (by assumption) ?_
          try simp only [Act.put, List.setIfInBounds_toArray, List.set_cons_zero, List.set_cons_succ]
          refine take_at (i := 9) (.bool false) (some 29) (by decide) (by rfl) (by kernel_rfl) (by kernel_rfl) (by kernel_rfl) (fun _ _ _ h => h) (by rfl) (fun W hW => by go_simp) (by assumption) ?_
          try simp only [Act.put, List.setIfInBounds_toArray, List.set_cons_zero, List.set_cons_succ]
          refine take_at (i := 10) (.bool false) (some 30) (by decide) (by rfl) (by kernel_rfl) (by kernel_rfl) (by kernel_rfl) (fun _ _ _ h => h) (by rfl) (fun W hW => by go_simp) (by assumption) ?_
          try simp only [Act.put, List.setIfInBounds_toArray, List.set_cons_zero, List.set_cons_succ]
          refine take_at (i := 11) (.pointer (some ⟨wr.heap.size, 1, none⟩)) (some 31) (by decide) (by rfl) (by kernel_rfl) (by kernel_rfl) (by kernel_rfl) (fun _ _ _ h => h) (by rfl) (fun W hW => by go_simp) (by assumption) ?_
          try simp only [Act.put, List.setIfInBounds_toArray, List.set_cons_zero, List.set_cons_succ]
          refine take_at (i := 12) (.pointer (some ⟨wr.heap.size, 1, none⟩)) (some 32) (by decide) (by rfl) (by kernel_rfl) (by kernel_rfl) (by kernel_rfl) (fun _ _ _ h => h) (by rfl) (fun W hW => by go_simp) (by assumption) ?_
          try simp only [Act.put, List.setIfInBounds_toArray, List.set_cons_zero, List.set_cons_succ]
          refine take_at (i := 13) (.int .u8 (kd x.2).toNat) (some 33) (by decide) (by rfl) (by kernel_rfl) (by kernel_rfl) (by kernel_rfl) (fun _ _ _ h => h) (by rfl) (fun W hW => by have := hW.1.kind; go_simp) (by assumption) ?_
          try simp only [Act.put, List.setIfInBounds_toArray, List.set_cons_zero, List.set_cons_succ]
          refine take_at (i := 14) (.slice (some ⟨b2, off2, none⟩) l.length c) (some 34) (by decide) (by rfl) (by kernel_rfl) (by kernel_rfl) (by kernel_rfl) (fun _ _ _ h => h) (by rfl) (fun W hW => by go_simp) (by assumption) ?_
          try simp only [Act.put, List.setIfInBounds_toArray, List.set_cons_zero, List.set_cons_succ]
          refine take_at (i := 15) (.pointer (some ⟨b2, off2, none⟩)) (some 35) (by decide) (by rfl) (by kernel_rfl) (by kernel_rfl) (by kernel_rfl) (fun _ _ _ h => h) (by rfl) (fun W hW => by go_simp; intro he; rw [he] at hlt; simp at hlt) (by assumption) ?_
          try simp only [Act.put, List.setIfInBounds_toArray, List.set_cons_zero, List.set_cons_succ]
          refine take_at (i := 16) (.pointer (some ⟨b2, off2 + 1, none⟩)) (some 36) (by decide) (by rfl) (by kernel_rfl) (by kernel_rfl) (by kernel_rfl) (fun _ _ _ h => h) (by rfl) (fun W hW => by go_simp) (by assumption) ?_
          try simp only [Act.put, List.setIfInBounds_toArray, List.set_cons_zero, List.set_cons_succ]
          refine take_at (i := 17) (.pointer (some ⟨b2, off2 + 1, none⟩)) (some 37) (by decide) (by rfl) (by kernel_rfl) (by kernel_rfl) (by kernel_rfl) (fun _ _ _ h => h) (by rfl) (fun W hW => by go_simp) (by assumption) ?_
          try simp only [Act.put, List.setIfInBounds_toArray, List.set_cons_zero, List.set_cons_succ]
          refine take_at (i := 18) (.int .u8 (kd y0.2).toNat) (some 38) (by decide) (by rfl) (by kernel_rfl) (by kernel_rfl) (by kernel_rfl) (fun _ _ _ h => h) (by rfl) (fun W hW => by have := range_kind hW.2; go_simp) (by assumption) ?_
          try simp only [Act.put, List.setIfInBounds_toArray, List.set_cons_zero, List.set_cons_succ]
          refine take_at (i := 19) (.bool true) (some 39) (by decide) (by rfl) (by kernel_rfl) (by kernel_rfl) (by kernel_rfl) (fun _ _ _ h => h) (by rfl) (fun W hW => by go_simp) (by assumption) ?_
          try simp only [Act.put, List.setIfInBounds_toArray, List.set_cons_zero, List.set_cons_succ]
          refine take_at (i := 20) (.bool true) (some 40) (by decide) (by rfl) (by kernel_rfl) (by kernel_rfl) (by kernel_rfl) (fun _ _ _ h => h) (by rfl) (fun W hW => by go_simp) (by assumption) ?_
          try simp only [Act.put, List.setIfInBounds_toArray, List.set_cons_zero, List.set_cons_succ]
          refine wpAnyH_done (by kernel_rfl) ?_ _
          try simp only [Act.put, List.setIfInBounds_toArray, List.set_cons_zero, List.set_cons_succ]
          go_wp2_with fail
          go_ret
          exact ⟨false, rfl, ⟨(fun h => by cases h), fun h => absurd h hno.out⟩, HB3.out⟩
    · have hyes : Hid (GoodKs l) := ⟨by omega, by omega, fun p hpl => by
        obtain ⟨j, hj, rfl⟩ := List.getElem_of_mem hpl
        exact (hp.out j _ (by omega) (List.getElem?_eq_getElem hj)).1, fun p hpl => by
        obtain ⟨j, hj, rfl⟩ := List.getElem_of_mem hpl
        exact (hp.out j _ (by omega) (List.getElem?_eq_getElem hj)).2.1, fun p hpl q hq0 => by
        obtain ⟨j, hj, rfl⟩ := List.getElem_of_mem hpl
        rw [HY0.out] at hq0
        injection hq0 with hq0
        subst hq0
        exact (hp.out j _ (by omega) (List.getElem?_eq_getElem hj)).2.2, rises_of2 fun j a b ha hb => hq.out j a b (by have := (List.getElem?_eq_some_iff.1 hb).1; omega) ha hb⟩
      clear hp hq
      go_wp2_with fail
      go_ret
      exact ⟨true, rfl, ⟨fun _ => hyes.out, fun _ => rfl⟩, hbl.out⟩

end Go.Proofs.Ytflgokbkkoobkaa.Cd

/-
  object.goodParents. Conditions: none.
-/
namespace Go.Proofs.Ytflgokbkkoobkaa.Cd
open Go.RowKit

theorem IsIn.range {w : World} {B : Nat} {l : List Idn} {A : Option Addr} {m c : Nat} (h : IsIn w B (.slice A m c) l) {k : Nat} {p : Idn} (hk : l[k]? = some p) :
    ∃ b off, A = some ⟨b, off, none⟩ ∧ b < B ∧ w.rangeAt b (off + k * 33) (vb p.1) := RwIn.at h hk
theorem idAt_kind {w : World} {b : Nat} {x : Idn} (h : IdAt w b x.1) : w.cell? ⟨b, 0, none⟩ = some (.int .u8 (kd x).toNat) :=
  (cell_of_row _ _ _ _ _ _ h).trans (by rw [List.getElem?_toArray]; exact vb_kd x)

set_option maxRecDepth 100000 in
set_option maxHeartbeats 3200000 in
theorem goodis_any (v : Value) (l : List Idn) (c0 : UInt8) (w : World) (h : IsIn w w.heap.size v l) : Calls Try.prog 27 #[v, .int .u8 c0.toNat] w (Says (GoodIs c0 l) w) := by
  obtain ⟨A, c, rfl, hm1, hm2⟩ := h.len
  have H := Lib.hid h
  clear h
  by_cases hbig : 2 < l.length
  · have hno : Hid (¬ GoodIs c0 l) := fun h => by have := h.few; omega
    have hbig' : (2 : Int) < l.length := by omega
    clear hbig
    go_enter Try.func27, Try.ntmps27
    go_wp2_with fail
    go_ret
    exact ⟨false, rfl, ⟨(fun h => by cases h), fun h => absurd h hno.out⟩, Below.refl _ _⟩
  have hb2 : ¬ (2 : Int) < l.length := by omega
  go_enter Try.func27, Try.ntmps27
  go_wp2_with fail
  go_loopw [12] (fun i wr => ∃ k : Nat, i = .int .i64 k ∧ k ≤ l.length ∧ Hid (∀ (j : Nat) p, j < k → l[j]? = some p → goodI p.1 = true ∧ kd p = c0) ∧ Hid (1 < k → ∀ a b, l[0]? = some a → l[1]? = some b → a ≠ b) ∧ Hid (Below w.heap.size w wr)) (fun i _ => l.length - (intOf i).toNat)
  case atStart => exact ⟨0, rfl, by omega, fun j _ h => by omega, fun h => by omega, Below.refl _ _⟩
  case round =>
    obtain ⟨k, rfl, hk, hp, hq, hbl⟩ := hrel
    by_cases hlt : k < l.length
    · obtain ⟨x, hxk⟩ : ∃ x, l[k]? = some x := ⟨l[k], List.getElem?_eq_getElem hlt⟩
      obtain ⟨b2, off2, e2, hB2, rx⟩ := IsIn.range (H.out.below hbl.out) hxk
      subst e2
      have HX := Lib.hid hxk
      have RX := Lib.hid rx
      clear hxk rx
      have HI : Hid (IdAt (wr.alloc (.cells (vb x.1).toArray 28)) wr.heap.size x.1) := IdAt.new _ _
      have hz1 : (wr.alloc (.cells (vb x.1).toArray 28)).heap.size = wr.heap.size + 1 := asz _ _
      have HB1 : Hid (Below w.heap.size w (wr.alloc (.cells (vb x.1).toArray 28))) := hbl.out.alloc hbl.out.size _
      have hzr := hbl.out.size
      have hx33 : Hid (x.1.length = 33) := x.2
      go_wp2_with (first
        | (refine wpList_load_mid rfl 28 _ rfl b2 (off2 + k * 33) rfl (vb x.1) _ RX.out Try.underlying28 rfl (cells_ii x) ?_)
        | (refine wp_alloc_row zero_id rfl rfl ?_)
        | (refine wp_fill_id rfl _ _ rfl rfl (by simp [Act.eval, Act.put]) x.1 hx33.out rfl ?_)
        | (refine wp_load_id rfl _ rfl wr.heap.size rfl x.1 hx33.out HI.out ?_))
      generalize wr.alloc (.cells (vb x.1).toArray 28) = W1 at *
      have hgood := good_l x.1 W1 hx33.out
      have hidx := idAt_kind HI.out
      cases hg : goodI x.1
      · have hno : Hid (¬ GoodIs c0 l) := fun h => by have := h.name _ (List.mem_of_getElem? HX.out); rw [hg] at this; cases this
        rw [hg] at hgood
        clear hg
        refine hgood.mono ?_
        rintro e w2 ⟨rfl, hb3⟩
        have HB2 := Lib.hid (HB1.out.trans (hb3.mono (by omega)))
        clear hb3
        go_wp2_with fail
        go_ret
        exact ⟨false, rfl, ⟨(fun h => by cases h), fun h => absurd h hno.out⟩, HB2.out⟩
      · have HG := Lib.hid hg
        rw [hg] at hgood
        clear hg
        refine hgood.mono ?_
        rintro e w2 ⟨rfl, hb3⟩
        have HB2 := Lib.hid (HB1.out.trans (hb3.mono (by omega)))
        have HI2 := Lib.hid (HI.out.below hb3 (by omega))
        have hs2 := hb3.size
        clear hb3 hidx
        have hidx := idAt_kind HI2.out
        by_cases hkk : kd x = c0
        · have hp2 : Hid (∀ (j : Nat) p, j < k + 1 → l[j]? = some p → goodI p.1 = true ∧ kd p = c0) := fun j p hj hjp => by
            by_cases e : j = k
            · subst e
              rw [HX.out] at hjp
              injection hjp with hjp
              subst hjp
              exact ⟨HG.out, hkk⟩
            · exact hp.out j p (by omega) hjp
          have hnq : (((kd x).toNat : Int) != (c0.toNat : Int)) = false := by rw [hkk]; simp
          clear hkk
          go_wp2_with fail
          by_cases h0 : 0 < k
          · obtain ⟨j, rfl⟩ : ∃ j, k = j + 1 := ⟨k - 1, by omega⟩
            obtain ⟨y, hyk⟩ : ∃ y, l[j]? = some y := ⟨l[j], List.getElem?_eq_getElem (by omega)⟩
            obtain ⟨b3, off3, e3, hB3, ry⟩ := IsIn.range (H.out.below HB2.out) hyk
            injection e3 with e3
            injection e3 with e3 e4
            subst e3 e4
            have HY := Lib.hid hyk
            clear hyk
            have hj0 : Hid (j = 0) := by show j = 0; omega
            have hjl : (j : Int) < l.length := by omega
            have hwj : IntKind.i64.wrap (j : Int) = (j : Int) := IntWalk.i64_in _ (by omega)
            have HLE : Hid (¬ 2 < l.length) := hbig
            clear hbig hb2
            have hgd : decide ((0 : Int) < (j : Int) + 1) = true := decide_eq_true (by omega)
            have heg := fun p q W => eqGuard_id .eql p q y.1 x.1 W
            have heq := fun W => eql_id y.1 x.1 y.2 hx33.out W
            obtain ⟨W0, hW0⟩ : ∃ x, w2.drew = x := ⟨_, rfl⟩
            have hS0 : IdAt W0 wr.heap.size x.1 ∧ W0.rangeAt b2 (off2 + j * 33) (vb y.1) := by
              rw [← hW0]
              exact ⟨HI2.out, ry⟩
            have HBD : Hid (Below w.heap.size w W0) := by rw [← hW0]; exact HB2.out.drew
            clear HB2 HB1 hz1 HI HI2 hidx
            cases hs : (y.1 == x.1)
            · have hq2 : Hid (1 < j + 1 + 1 → ∀ a b, l[0]? = some a → l[1]? = some b → a ≠ b) := fun _ a b ha hb e => by
                obtain rfl : j = 0 := hj0.out
                rw [HY.out] at ha
                rw [HX.out] at hb
                injection ha with ha
                injection hb with hb
                subst ha hb e
                simp at hs
              rw [hs] at heq
              refine region_begin hW0 (S := fun W => IdAt W wr.heap.size x.1 ∧ W.rangeAt b2 (off2 + j * 33) (vb y.1)) (by kernel_rfl) hS0 (fun hHeld => ?_)
              clear hW0 hS0 hs
              refine take_at (i := 0) (.int .i64 ((j : Int) + 1)) (some 26) (by decide) (by rfl) (by kernel_rfl) (by kernel_rfl) (by kernel_rfl) (fun _ _ _ h => h) (by rfl) (fun W hW => by go_simp) (by assumption) ?_
              try simp only [Act.put, List.setIfInBounds_toArray, List.set_cons_zero, List.set_cons_succ]
              refine take_at (i := 1) (.bool true) (some 27) (by decide) (by rfl) (by kernel_rfl) (by kernel_rfl) (by kernel_rfl) (fun _ _ _ h => h) (by rfl) (fun W hW => by go_simp) (by assumption) ?_
              try simp only [Act.put, List.setIfInBounds_toArray, List.set_cons_zero, List.set_cons_succ]
              refine take_at (i := 2) (.bool true) (some 28) (by decide) (by rfl) (by kernel_rfl) (by kernel_rfl) (by kernel_rfl) (fun _ _ _ h => h) (by rfl) (fun W hW => by go_simp) (by assumption) ?_
              try simp only [Act.put, List.setIfInBounds_toArray, List.set_cons_zero, List.set_cons_succ]
              refine take_at (i := 3) (.slice (some ⟨b2, off2, none⟩) l.length c) (some 29) (by decide) (by rfl) (by kernel_rfl) (by kernel_rfl) (by kernel_rfl) (fun _ _ _ h => h) (by rfl) (fun W hW => by go_simp) (by assumption) ?_
              try simp only [Act.put, List.setIfInBounds_toArray, List.set_cons_zero, List.set_cons_succ]
              refine take_at (i := 4) (.int .i64 ((j : Int) + 1)) (some 30) (by decide) (by rfl) (by kernel_rfl) (by kernel_rfl) (by kernel_rfl) (fun _ _ _ h => h) (by rfl) (fun W hW => by go_simp) (by assumption) ?_
              try simp only [Act.put, List.setIfInBounds_toArray, List.set_cons_zero, List.set_cons_succ]
              refine take_at (i := 5) (.int .i64 (j : Int)) (some 31) (by decide) (by rfl) (by kernel_rfl) (by kernel_rfl) (by kernel_rfl) (fun _ _ _ h => h) (by rfl) (fun W hW => by go_simp) (by assumption) ?_
              try simp only [Act.put, List.setIfInBounds_toArray, List.set_cons_zero, List.set_cons_succ]
              refine take_at (i := 6) (.pointer (some ⟨b2, off2 + j * 33, none⟩)) (some 32) (by decide) (by rfl) (by kernel_rfl) (by kernel_rfl) (by kernel_rfl) (fun _ _ _ h => h) (by rfl) (fun W hW => by go_simp) (by assumption) ?_
              try simp only [Act.put, List.setIfInBounds_toArray, List.set_cons_zero, List.set_cons_succ]
              refine take_at (i := 7) (idV y.1) (some 33) (by decide) (by rfl) (by kernel_rfl) (by kernel_rfl) (by kernel_rfl) (fun _ _ _ h => h) (by rfl) (fun W hW => by exact exec_load_mid _ _ rfl b2 (off2 + j * 33) rfl (vb y.1) _ hW.2 Try.underlying28 rfl (cells_ii y)) (by assumption) ?_
              try simp only [Act.put, List.setIfInBounds_toArray, List.set_cons_zero, List.set_cons_succ]
              refine take_at (i := 8) (idV x.1) (some 34) (by decide) (by rfl) (by kernel_rfl) (by kernel_rfl) (by kernel_rfl) (fun _ _ _ h => h) (by rfl) (fun W hW => by exact exec_load_id hW.1 hx33.out _ rfl rfl) (by assumption) ?_
              try simp only [Act.put, List.setIfInBounds_toArray, List.set_cons_zero, List.set_cons_succ]
              refine take_at (i := 9) (.bool false) (some 35) (by decide) (by rfl) (by kernel_rfl) (by kernel_rfl) (by kernel_rfl) (fun _ _ _ h => h) (by rfl) (fun W hW => by go_simp) (by assumption) ?_
              try simp only [Act.put, List.setIfInBounds_toArray, List.set_cons_zero, List.set_cons_succ]
              refine take_at (i := 10) (.bool false) (some 36) (by decide) (by rfl) (by kernel_rfl) (by kernel_rfl) (by kernel_rfl) (fun _ _ _ h => h) (by rfl) (fun W hW => by go_simp) (by assumption) ?_
              try simp only [Act.put, List.setIfInBounds_toArray, List.set_cons_zero, List.set_cons_succ]
              refine wpAnyH_done (by kernel_rfl) ?_ _
              try simp only [Act.put, List.setIfInBounds_toArray, List.set_cons_zero, List.set_cons_succ]
              go_wp2_with fail
              go_roundw
              case rel => exact ⟨j + 1 + 1, by go_num, by omega, hp2, hq2, HBD.out⟩
              case measure => simp [intOf]; omega
            · have hno : Hid (¬ GoodIs c0 l) := fun h => by
                have hxy : y.1 = x.1 := by simpa using hs
                obtain rfl : j = 0 := hj0.out
                exact h.two y x HY.out HX.out (Subtype.ext hxy)
              rw [hs] at heq
              refine region_begin hW0 (S := fun W => IdAt W wr.heap.size x.1 ∧ W.rangeAt b2 (off2 + j * 33) (vb y.1)) (by kernel_rfl) hS0 (fun hHeld => ?_)
              clear hW0 hS0 hs
              refine take_at (i := 0) (.int .i64 ((j : Int) + 1)) (some 26) (by decide) (by rfl) (by kernel_rfl) (by kernel_rfl) (by kernel_rfl) (fun _ _ _ h => h) (by rfl) (fun W hW => by go_simp) (by assumption) ?_
              try simp only [Act.put, List.setIfInBounds_toArray, List.set_cons_zero, List.set_cons_succ]
              refine take_at (i := 1) (.bool true) (some 27) (by decide) (by rfl) (by kernel_rfl) (by kernel_rfl) (by kernel_rfl) (fun _ _ _ h => h) (by rfl) (fun W hW => by go_simp) (by assumption) ?_
              try simp only [Act.put, List.setIfInBounds_toArray, List.set_cons_zero, List.set_cons_succ]
              refine take_at (i := 2) (.bool true) (some 28) (by decide) (by rfl) (by kernel_rfl) (by kernel_rfl) (by kernel_rfl) (fun _ _ _ h => h) (by rfl) (fun W hW => by go_simp) (by assumption) ?_
              try simp only [Act.put, List.setIfInBounds_toArray, List.set_cons_zero, List.set_cons_succ]
              refine take_at (i := 3) (.slice (some ⟨b2, off2, none⟩) l.length c) (some 29) (by decide) (by rfl) (by kernel_rfl) (by kernel_rfl) (by kernel_rfl) (fun _ _ _ h => h) (by rfl) (fun W hW => by go_simp) (by assumption) ?_
              try simp only [Act.put, List.setIfInBounds_toArray, List.set_cons_zero, List.set_cons_succ]
              refine take_at (i := 4) (.int .i64 ((j : Int) + 1)) (some 30) (by decide) (by rfl) (by kernel_rfl) (by kernel_rfl) (by kernel_rfl) (fun _ _ _ h => h) (by rfl) (fun W hW => by go_simp) (by assumption) ?_
              try simp only [Act.put, List.setIfInBounds_toArray, List.set_cons_zero, List.set_cons_succ]
              refine take_at (i := 5) (.int .i64 (j : Int)) (some 31) (by decide) (by rfl) (by kernel_rfl) (by kernel_rfl) (by kernel_rfl) (fun _ _ _ h => h) (by rfl) (fun W hW => by go_simp) (by assumption) ?_
              try simp only [Act.put, List.setIfInBounds_toArray, List.set_cons_zero, List.set_cons_succ]
              refine take_at (i := 6) (.pointer (some ⟨b2, off2 + j * 33, none⟩)) (some 32) (by decide) (by rfl) (by kernel_rfl) (by kernel_rfl) (by kernel_rfl) (fun _ _ _ h => h) (by rfl) (fun W hW => by go_simp) (by assumption) ?_
              try simp only [Act.put, List.setIfInBounds_toArray, List.set_cons_zero, List.set_cons_succ]
              refine take_at (i := 7) (idV y.1) (some 33) (by decide) (by rfl) (by kernel_rfl) (by kernel_rfl) (by kernel_rfl) (fun _ _ _ h => h) (by rfl) (fun W hW => by exact exec_load_mid _ _ rfl b2 (off2 + j * 33) rfl (vb y.1) _ hW.2 Try.underlying28 rfl (cells_ii y)) (by assumption) ?_
              try simp only [Act.put, List.setIfInBounds_toArray, List.set_cons_zero, List.set_cons_succ]
              refine take_at (i := 8) (idV x.1) (some 34) (by decide) (by rfl) (by kernel_rfl) (by kernel_rfl) (by kernel_rfl) (fun _ _ _ h => h) (by rfl) (fun W hW => by exact exec_load_id hW.1 hx33.out _ rfl rfl) (by assumption) ?_
              try simp only [Act.put, List.setIfInBounds_toArray, List.set_cons_zero, List.set_cons_succ]
              refine take_at (i := 9) (.bool true) (some 35) (by decide) (by rfl) (by kernel_rfl) (by kernel_rfl) (by kernel_rfl) (fun _ _ _ h => h) (by rfl) (fun W hW => by go_simp) (by assumption) ?_
              try simp only [Act.put, List.setIfInBounds_toArray, List.set_cons_zero, List.set_cons_succ]
              refine take_at (i := 10) (.bool true) (some 36) (by decide) (by rfl) (by kernel_rfl) (by kernel_rfl) (by kernel_rfl) (fun _ _ _ h => h) (by rfl) (fun W hW => by go_simp) (by assumption) ?_
              try simp only [Act.put, List.setIfInBounds_toArray, List.set_cons_zero, List.set_cons_succ]
              refine wpAnyH_done (by kernel_rfl) ?_ _
              try simp only [Act.put, List.setIfInBounds_toArray, List.set_cons_zero, List.set_cons_succ]
              go_wp2_with fail
              go_ret
              exact ⟨false, rfl, ⟨(fun h => by cases h), fun h => absurd h hno.out⟩, HBD.out⟩
          · obtain rfl : k = 0 := by omega
            have hgd : decide ((0 : Int) < ((0 : Nat) : Int)) = false := rfl
            have hq2 : Hid (1 < 0 + 1 → ∀ a b, l[0]? = some a → l[1]? = some b → a ≠ b) := fun h => by omega
            go_quiet (fail)
            go_wp2_with fail
            go_roundw
            case rel => exact ⟨0 + 1, by go_num, by omega, hp2, hq2, below_drewN HB2.out _⟩
            case measure => simp [intOf]; omega
        · have hno : Hid (¬ GoodIs c0 l) := fun h => hkk (h.kind _ (List.mem_of_getElem? HX.out))
          have hnq : (((kd x).toNat : Int) != (c0.toNat : Int)) = true := by
            rw [bne_iff_ne]
            exact fun e => hkk (UInt8.toNat_inj.1 (by omega))
          clear hkk
          go_wp2_with fail
          go_ret
          exact ⟨false, rfl, ⟨(fun h => by cases h), fun h => absurd h hno.out⟩, HB2.out⟩
    · have hyes : Hid (GoodIs c0 l) := ⟨by omega, fun p hpl => by
        obtain ⟨j, hj, rfl⟩ := List.getElem_of_mem hpl
        exact (hp.out j _ (by omega) (List.getElem?_eq_getElem hj)).1, fun p hpl => by
        obtain ⟨j, hj, rfl⟩ := List.getElem_of_mem hpl
        exact (hp.out j _ (by omega) (List.getElem?_eq_getElem hj)).2, fun a b ha hb => hq.out (by have := (List.getElem?_eq_some_iff.1 hb).1; omega) a b ha hb⟩
      clear hp hq
      go_wp2_with fail
      go_ret
      exact ⟨true, rfl, ⟨fun _ => hyes.out, fun _ => rfl⟩, hbl.out⟩

end Go.Proofs.Ytflgokbkkoobkaa.Cd

/-
  object.GoodTree, object.GoodCommit. Conditions: none.
-/
namespace Go.Proofs.Ytflgokbkkoobkaa.Cd
open Go.RowKit

/-- A tree by value. -/
def TreIn (w : World) (B : Nat) (v : Value) (t : Tre) : Prop := ∃ vp vk, v = .agg #[vp, vk] ∧ PsIn w B vp t.ps ∧ KsIn w B vk t.ks
/-- A commit's cells, its parents' slice given. -/
def cmC (c : Cmt) (vi : Value) : List Value := vb c.root.1 ++ [vi, .string ⟨c.note.toArray⟩, .int .i64 c.num]
/-- A commit by value. -/
def CmtIn (w : World) (B : Nat) (v : Value) (c : Cmt) : Prop := ∃ vi, v = .agg (cmC c vi).toArray ∧ IsIn w B vi c.is
theorem cmC_len (c : Cmt) (vi : Value) : (cmC c vi).length = 36 := by simp [cmC, vb_length, c.root.2]
theorem cmC_33 (c : Cmt) (vi : Value) : (cmC c vi)[33]? = some vi := by
  unfold cmC
  rw [List.getElem?_append_right (by rw [vb_length, c.root.2]; omega), vb_length, c.root.2]
  rfl
theorem cmC_34 (c : Cmt) (vi : Value) : (cmC c vi)[34]? = some (.string ⟨c.note.toArray⟩) := by
  unfold cmC
  rw [List.getElem?_append_right (by rw [vb_length, c.root.2]; omega), vb_length, c.root.2]
  rfl
theorem cmC_35 (c : Cmt) (vi : Value) : (cmC c vi)[35]? = some (.int .i64 c.num) := by
  unfold cmC
  rw [List.getElem?_append_right (by rw [vb_length, c.root.2]; omega), vb_length, c.root.2]
  rfl
theorem cmC_id (c : Cmt) (vi : Value) (j : Nat) (v : Value) (h : (vb c.root.1)[j]? = some v) : (cmC c vi)[j]? = some v := by
  have hj := (List.getElem?_eq_some_iff.1 h).1
  unfold cmC
  rw [List.getElem?_append_left hj]
  exact h
theorem cmC_one (c : Cmt) (vi : Value) (hv : vi.oneCell' = true) : ∀ u ∈ cmC c vi, u.oneCell' = true := by
  intro u hu
  unfold cmC at hu
  rw [List.mem_append] at hu
  rcases hu with hu | hu
  · exact vb_one _ u hu
  · simp only [List.mem_cons, List.not_mem_nil, or_false] at hu
    rcases hu with rfl | rfl | rfl
    · exact hv
    · rfl
    · rfl

/-- Block g is a commit. -/
def ComAt (w : World) (g : Nat) (c : Cmt) (vi : Value) : Prop := w.heap[g]? = some (.cells (cmC c vi).toArray 31)
section
variable {w w' : World} {g B : Nat} {c : Cmt} {vi : Value}
theorem ComAt.lt (h : ComAt w g c vi) : g < w.heap.size := (Array.getElem?_eq_some_iff.1 h).1
theorem ComAt.below (h : ComAt w g c vi) (hb : Below B w w') (hB : g < B) : ComAt w' g c vi := (hb.block g hB).trans h
theorem ComAt.id (h : ComAt w g c vi) : w.rangeAt g 0 (vb c.root.1) := fun j v hv => by
  rw [cell_of_row _ _ _ _ _ _ h, List.getElem?_toArray, Nat.zero_add]
  exact cmC_id c vi j v hv
theorem ComAt.kind (h : ComAt w g c vi) : w.cell? ⟨g, 0, none⟩ = some (.int .u8 (kd c.root).toNat) := h.id 0 _ (vb_kd c.root)
theorem ComAt.is (h : ComAt w g c vi) : w.cell? ⟨g, 33, none⟩ = some vi := (cell_of_row _ _ _ _ _ _ h).trans (by rw [List.getElem?_toArray]; exact cmC_33 c vi)
theorem ComAt.note (h : ComAt w g c vi) : w.cell? ⟨g, 34, none⟩ = some (.string ⟨c.note.toArray⟩) := (cell_of_row _ _ _ _ _ _ h).trans (by rw [List.getElem?_toArray]; exact cmC_34 c vi)
theorem ComAt.num (h : ComAt w g c vi) : w.cell? ⟨g, 35, none⟩ = some (.int .i64 c.num) := (cell_of_row _ _ _ _ _ _ h).trans (by rw [List.getElem?_toArray]; exact cmC_35 c vi)
end
theorem ComAt.new (w : World) (c : Cmt) (vi : Value) : ComAt (w.alloc (.cells (cmC c vi).toArray 31)) w.heap.size c vi := heap_alloc_new _ _

set_option maxRecDepth 100000 in
set_option maxHeartbeats 1600000 in
theorem goodt_any (v : Value) (t : Tre) (w : World) (h : TreIn w w.heap.size v t) : Calls Try.prog 13 #[v] w (Says (GoodT t) w) := by
  obtain ⟨ps, ks⟩ := t
  obtain ⟨vp, vk, rfl, h1, h2⟩ := h
  have h1 : PsIn w w.heap.size vp ps := h1
  have h2 : KsIn w w.heap.size vk ks := h2
  obtain ⟨A1, c1, e1, k1, l1⟩ := h1.len
  obtain ⟨A2, c2, e2, k2, l2⟩ := h2.len
  have hb1 : Below w.heap.size w (w.alloc (.cells #[vp, vk] 25)) := new_below _ _
  have hz1 : (w.alloc (.cells #[vp, vk] 25)).heap.size = w.heap.size + 1 := asz _ _
  have H1 : Hid (PsIn (w.alloc (.cells #[vp, vk] 25)) (w.alloc (.cells #[vp, vk] 25)).heap.size vp ps) := h1.on hb1
  have H2 : Hid (KsIn (w.alloc (.cells #[vp, vk] 25)) (w.alloc (.cells #[vp, vk] 25)).heap.size vk ks) := h2.on hb1
  have HB1 := Lib.hid hb1
  have HZ1 := Lib.hid hz1
  clear h1 h2 hb1 hz1
  subst e1 e2
  by_cases hk : ks.length = 0
  · have hks : ks = [] := List.eq_nil_of_length_eq_zero hk
    subst hks
    have hiff : Hid (GoodPs ps ↔ GoodT ⟨ps, []⟩) := ⟨fun h => .inl ⟨rfl, h⟩, fun h => h.elim (fun h => h.2) (fun h => absurd rfl (goodKs_ne h.2))⟩
    go_enter Try.func13, Try.ntmps13
    go_wp2_with fail
    refine (goodps_any _ ps _ H1.out).mono ?_
    rintro e w2 ⟨s, rfl, hs, hb2⟩
    have HB2 := Lib.hid (HB1.out.trans (hb2.mono (by have := HZ1.out; omega)))
    have HS := Lib.hid hs
    clear hs hb2
    go_wp2_with fail
    go_ret
    exact ⟨s, rfl, HS.out.trans hiff.out, HB2.out⟩
  · have hkq : ((ks.length : Int) == 0) = false := by rw [beq_eq_false_iff_ne]; omega
    have hkne : Hid (ks ≠ []) := fun e => hk (by rw [e]; rfl)
    by_cases hp : ps.length = 0
    · have hps : ps = [] := List.eq_nil_of_length_eq_zero hp
      subst hps
      have hiff : Hid (GoodKs ks ↔ GoodT ⟨[], ks⟩) := ⟨fun h => .inr ⟨rfl, h⟩, fun h => h.elim (fun h => absurd h.1 hkne.out) (fun h => h.2)⟩
      clear hk hp
      go_enter Try.func13, Try.ntmps13
      go_wp2_with fail
      refine (goodks_any _ ks _ H2.out).mono ?_
      rintro e w2 ⟨s, rfl, hs, hb2⟩
      have HB2 := Lib.hid (HB1.out.trans (hb2.mono (by have := HZ1.out; omega)))
      clear hb2
      cases s
      · have hno : Hid (¬ GoodT ⟨[], ks⟩) := fun h => by have := (hs.trans hiff.out).2 h; cases this
        clear hs
        go_wp2_with fail
        go_ret
        exact ⟨false, rfl, ⟨(fun h => by cases h), fun h => absurd h hno.out⟩, HB2.out⟩
      · have hyes : Hid (GoodT ⟨[], ks⟩) := (hs.trans hiff.out).1 rfl
        clear hs
        go_wp2_with fail
        go_ret
        exact ⟨true, rfl, ⟨fun _ => hyes.out, fun _ => rfl⟩, HB2.out⟩
    · have hpq : ((ps.length : Int) == 0) = false := by rw [beq_eq_false_iff_ne]; omega
      have hno : Hid (¬ GoodT ⟨ps, ks⟩) := fun h => h.elim (fun h => hkne.out h.1) (fun h => hp (by have e : ps = [] := h.1; rw [e]; rfl))
      clear hk hp
      go_enter Try.func13, Try.ntmps13
      go_wp2_with fail
      go_ret
      exact ⟨false, rfl, ⟨(fun h => by cases h), fun h => absurd h hno.out⟩, HB1.out⟩

set_option maxRecDepth 100000 in
set_option maxHeartbeats 1600000 in
theorem goodc_any (v : Value) (c : Cmt) (w : World) (h : CmtIn w w.heap.size v c) : Calls Try.prog 16 #[v] w (Says (GoodC c) w) := by
  obtain ⟨vi, rfl, hi⟩ := h
  have hb1 : Below w.heap.size w (w.alloc (.cells (cmC c vi).toArray 31)) := new_below _ _
  have hz1 : (w.alloc (.cells (cmC c vi).toArray 31)).heap.size = w.heap.size + 1 := asz _ _
  have HC : Hid (ComAt (w.alloc (.cells (cmC c vi).toArray 31)) w.heap.size c vi) := ComAt.new _ _ _
  have HI : Hid (IsIn (w.alloc (.cells (cmC c vi).toArray 31)) (w.alloc (.cells (cmC c vi).toArray 31)).heap.size vi c.is) := hi.on hb1
  have HB1 := Lib.hid hb1
  have hr33 : Hid (c.root.1.length = 33) := c.root.2
  go_enter Try.func16, Try.ntmps16
  go_wp2_with (first
    | (refine wp_box_row rfl _ rfl rfl ?_)
    | (refine wpList_load_mid rfl 28 _ rfl w.heap.size 0 rfl (vb c.root.1) _ HC.out.id Try.underlying28 rfl (cells_ii c.root) ?_))
  clear hb1 hi
  generalize w.alloc (.cells (cmC c vi).toArray 31) = W1 at *
  have hgood := good_l c.root.1 W1 hr33.out
  cases hg : goodI c.root.1
  · have hno : Hid (¬ GoodC c) := fun h => by have := h.root; rw [hg] at this; cases this
    rw [hg] at hgood
    clear hg
    refine hgood.mono ?_
    rintro e w2 ⟨rfl, hb2⟩
    have HB2 := Lib.hid (HB1.out.trans (hb2.mono (by omega)))
    clear hb2
    go_wp2_with fail
    go_ret
    exact ⟨false, rfl, ⟨(fun h => by cases h), fun h => absurd h hno.out⟩, HB2.out⟩
  rw [hg] at hgood
  have HG := Lib.hid hg
  clear hg
  refine hgood.mono ?_
  rintro e w2 ⟨rfl, hb2⟩
  have HB2 := Lib.hid (HB1.out.trans (hb2.mono (by omega)))
  have HC2 := Lib.hid (HC.out.below hb2 (by omega))
  have HI2 : Hid (IsIn w2 w2.heap.size vi c.is) := HI.out.on hb2
  have hs2 := hb2.size
  clear hb2
  have d33 := HC2.out.is
  have d0 := HC2.out.kind
  go_wp2_with fail
  refine (goodis_any vi c.is (kd c.root) w2 HI2.out).mono ?_
  rintro e w3 ⟨s, rfl, hs, hb3⟩
  have HB3 := Lib.hid (HB2.out.trans (hb3.mono (by omega)))
  have HC3 := Lib.hid (HC2.out.below hb3 (by omega))
  clear hb3 d33 d0
  cases s
  · have hno : Hid (¬ GoodC c) := fun h => by have := hs.2 h.is; cases this
    clear hs
    go_wp2_with fail
    go_ret
    exact ⟨false, rfl, ⟨(fun h => by cases h), fun h => absurd h hno.out⟩, HB3.out⟩
  have HIS := Lib.hid (hs.1 rfl)
  clear hs
  have d34 := HC3.out.note
  have d35 := HC3.out.num
  have hzn : (ByteArray.mk c.note.toArray).size = c.note.length := rfl
  by_cases hn : c.note.length ≤ 32
  · have hn1 : decide ((c.note.length : Int) ≤ 32) = true := decide_eq_true (by omega)
    by_cases h0 : 1 ≤ c.num
    · have h01 : decide (1 ≤ c.num) = true := decide_eq_true h0
      by_cases h1 : c.num ≤ 1024
      · have h11 : decide (c.num ≤ 1024) = true := decide_eq_true h1
        have hyes : Hid (GoodC c) := ⟨HG.out, HIS.out, hn, h0, h1⟩
        clear hn h0 h1
        go_wp2_with fail
        go_ret
        exact ⟨true, rfl, ⟨fun _ => hyes.out, fun _ => rfl⟩, HB3.out⟩
      · have h11 : decide (c.num ≤ 1024) = false := decide_eq_false h1
        have hno : Hid (¬ GoodC c) := fun h => h1 h.high
        clear hn h0 h1
        go_wp2_with fail
        go_ret
        exact ⟨false, rfl, ⟨(fun h => by cases h), fun h => absurd h hno.out⟩, HB3.out⟩
    · have h01 : decide (1 ≤ c.num) = false := decide_eq_false h0
      have hno : Hid (¬ GoodC c) := fun h => h0 h.low
      clear hn h0
      go_wp2_with fail
      go_ret
      exact ⟨false, rfl, ⟨(fun h => by cases h), fun h => absurd h hno.out⟩, HB3.out⟩
  · have hn1 : decide ((c.note.length : Int) ≤ 32) = false := decide_eq_false (by omega)
    have hno : Hid (¬ GoodC c) := fun h => hn h.note
    clear hn
    go_wp2_with fail
    go_ret
    exact ⟨false, rfl, ⟨(fun h => by cases h), fun h => absurd h hno.out⟩, HB3.out⟩

end Go.Proofs.Ytflgokbkkoobkaa.Cd

/-
  object.putPairs. Conditions: not too many bytes.
-/
namespace Go.Proofs.Ytflgokbkkoobkaa.Cd
open Go.RowKit

/-- Two bytes that were laid out a moment ago, a row of the call's own. -/
theorem own_two (w : World) (B : Nat) (hB : B ≤ w.heap.size) (a b : UInt8) (x y : Int) (hx : x = a.toNat) (hy : y = b.toNat) : Own (w.alloc (.cells #[.int .u8 x, .int .u8 y] 5)) B (.slice (some ⟨w.heap.size, 0, none⟩) 2 2) [a, b] := by
  subst hx hy
  exact ⟨by simp [vb_length], .inr ⟨w.heap.size, 2, _, rfl, hB, heap_alloc_new w _, Nat.le_refl _, by simp [maxLen], rfl, rfl⟩⟩
theorem own_sl {w : World} {B : Nat} {v : Value} {bs : List UInt8} (h : Own w B v bs) : Sl w w.heap.size v bs := h.sl
theorem wrap_len (n : Nat) : IntKind.u8.wrap (n : Int) = ((UInt8.ofNat n).toNat : Int) := by
  rw [UInt8.toNat_ofNat', IntKind.wrap_u8']
  omega
theorem psB_len {l : List Bp} {m : Nat} (h : (psB l).length ≤ m) {k : Nat} : (psB (l.take k)).length ≤ m := by
  refine Nat.le_trans ?_ h
  conv => rhs; rw [← List.take_append_drop k l]
  unfold psB
  rw [List.map_append, List.flatten_append, List.length_append]
  omega
theorem psB_take {l : List Bp} {k : Nat} {p : Bp} (h : l[k]? = some p) : psB (l.take (k + 1)) = psB (l.take k) ++ (txt p.1 ++ txt p.2) := by
  obtain ⟨hk, rfl⟩ := List.getElem?_eq_some_iff.1 h
  rw [List.take_succ_eq_append_getElem hk, psB_snoc]

/-- Block g is a pair. -/
def PairAt (w : World) (g : Nat) (p : Bp) : Prop := w.heap[g]? = some (.cells (ppC p).toArray 43)
theorem PairAt.key {w : World} {g : Nat} {p : Bp} (h : PairAt w g p) : w.cell? ⟨g, 0, none⟩ = some (.string ⟨p.1.toArray⟩) := cell_of_row _ _ _ _ _ _ h
theorem PairAt.val {w : World} {g : Nat} {p : Bp} (h : PairAt w g p) : w.cell? ⟨g, 1, none⟩ = some (.string ⟨p.2.toArray⟩) := cell_of_row _ _ _ _ _ _ h

theorem text_l2 (v : Value) (bs s : List UInt8) (w : World) (hs : Sl w w.heap.size v bs) (hb : bs.length + s.length ≤ 100000000) :
    Calls Try.prog 19 #[v, .string ⟨s.toArray⟩] w (Wrote w (bs ++ txt s)) := by
  have := text_any v bs ⟨s.toArray⟩ w hs (by have : (ByteArray.mk s.toArray).size = s.length := rfl; omega)
  exact this

set_option maxRecDepth 100000 in
set_option maxHeartbeats 3200000 in
theorem putps_any (v : Value) (l : List Bp) (w : World) (h : PsIn w w.heap.size v l) (hl : (psB l).length ≤ 1000000) : Calls Try.prog 15 #[v] w (Wrote w (1 :: UInt8.ofNat l.length :: psB l)) := by
  obtain ⟨A, c, rfl, hm1, hm2⟩ := h.len
  have H := Lib.hid h
  clear h
  have hwl := wrap_len l.length
  have hfin : Hid (psB (l.take l.length) = psB l) := by unfold Hid; rw [List.take_length]
  generalize UInt8.ofNat l.length = n8 at *
  have hO : Own (w.alloc (.cells #[.int .u8 1, .int .u8 n8.toNat] 5)) w.heap.size (.slice (some ⟨w.heap.size, 0, none⟩) 2 2) [1, n8] := own_two w _ (Nat.le_refl _) 1 n8 _ _ rfl rfl
  have HO := Lib.hid hO
  clear hO
  go_enter Try.func15, Try.ntmps15
  go_wp2_with fail
  go_loopw [3, 12] (fun u i wr => ∃ k : Nat, i = .int .i64 k ∧ k ≤ l.length ∧ Hid (Own wr w.heap.size u (1 :: n8 :: psB (l.take k))) ∧ Hid (Below w.heap.size w wr)) (fun _ i _ => l.length - (intOf i).toNat)
  case atStart => exact ⟨0, rfl, by omega, HO.out, new_below _ _⟩
  case round =>
    obtain ⟨k, rfl, hk, ho, hbl⟩ := hrel
    by_cases hlt : k < l.length
    · obtain ⟨x, hxk⟩ : ∃ x, l[k]? = some x := ⟨l[k], List.getElem?_eq_getElem hlt⟩
      obtain ⟨b2, off2, e2, hB2, d0, d1⟩ := PsIn.at2 (H.out.below hbl.out) hxk
      subst e2
      have hnx := psB_take hxk
      have hlk1 := psB_len hl (k := k + 1)
      rw [hnx] at hlk1
      have HNX := Lib.hid hnx
      clear hnx hxk
      generalize psB (l.take k) = R at *
      have hlk : R.length + ((enc x.1.length).length + x.1.length + ((enc x.2.length).length + x.2.length)) ≤ 1000000 := by simpa [txt_len] using hlk1
      clear hlk1
      have HP : Hid (PairAt (wr.alloc (.cells #[.string ⟨x.1.toArray⟩, .string ⟨x.2.toArray⟩] 43)) wr.heap.size x) := heap_alloc_new _ _
      have hz1 : (wr.alloc (.cells #[.string ⟨x.1.toArray⟩, .string ⟨x.2.toArray⟩] 43)).heap.size = wr.heap.size + 1 := asz _ _
      have HB1 : Hid (Below w.heap.size w (wr.alloc (.cells #[.string ⟨x.1.toArray⟩, .string ⟨x.2.toArray⟩] 43))) := hbl.out.alloc hbl.out.size _
      have HO1 : Hid (Own (wr.alloc (.cells #[.string ⟨x.1.toArray⟩, .string ⟨x.2.toArray⟩] 43)) w.heap.size u3 (1 :: n8 :: R)) := ho.out.alloc _
      have hzr := hbl.out.size
      go_wp2_with fail
      generalize wr.alloc (.cells #[.string ⟨x.1.toArray⟩, .string ⟨x.2.toArray⟩] 43) = W1 at *
      obtain ⟨W0, hW0⟩ : ∃ x, W1.drew = x := ⟨_, rfl⟩
      have hS0 : PairAt W0 wr.heap.size x := by rw [← hW0]; exact HP.out
      have HBD : Hid (Below w.heap.size w W0) := by rw [← hW0]; exact HB1.out.drew
      have HOD : Hid (Own W0 w.heap.size u3 (1 :: n8 :: R)) := by rw [← hW0]; exact HO1.out.drew
      have hs0 : W0.heap.size = wr.heap.size + 1 := by rw [← hW0]; exact hz1
      clear HP HB1 HO1 hz1
      refine region_begin hW0 (S := fun W => PairAt W wr.heap.size x) (by kernel_rfl) hS0 (fun hHeld => ?_)
      clear hW0 hS0
      refine take_at (i := 0) (u3) (some 16) (by decide) (by rfl) (by kernel_rfl) (by kernel_rfl) (by kernel_rfl) (fun _ _ _ h => h) (by rfl) (fun W hW => by go_simp) (by assumption) ?_
      try simp only [Act.put, List.setIfInBounds_toArray, List.set_cons_zero, List.set_cons_succ]
      refine take_at (i := 1) (.pointer (some ⟨wr.heap.size, 0, none⟩)) (some 17) (by decide) (by rfl) (by kernel_rfl) (by kernel_rfl) (by kernel_rfl) (fun _ _ _ h => h) (by rfl) (fun W hW => by go_simp) (by assumption) ?_
      try simp only [Act.put, List.setIfInBounds_toArray, List.set_cons_zero, List.set_cons_succ]
      refine take_at (i := 2) (.string ⟨x.1.toArray⟩) (some 18) (by decide) (by rfl) (by kernel_rfl) (by kernel_rfl) (by kernel_rfl) (fun _ _ _ h => h) (by rfl) (fun W hW => by have := hW.key; go_simp) (by assumption) ?_
      try simp only [Act.put, List.setIfInBounds_toArray, List.set_cons_zero, List.set_cons_succ]
      refine take_at (i := 4) (.pointer (some ⟨wr.heap.size, 1, none⟩)) (some 20) (by decide) (by rfl) (by kernel_rfl) (by kernel_rfl) (by kernel_rfl) (fun _ _ _ h => h) (by rfl) (fun W hW => by go_simp) (by assumption) ?_
      try simp only [Act.put, List.setIfInBounds_toArray, List.set_cons_zero, List.set_cons_succ]
      refine take_at (i := 5) (.string ⟨x.2.toArray⟩) (some 21) (by decide) (by rfl) (by kernel_rfl) (by kernel_rfl) (by kernel_rfl) (fun _ _ _ h => h) (by rfl) (fun W hW => by have := hW.val; go_simp) (by assumption) ?_
      try simp only [Act.put, List.setIfInBounds_toArray, List.set_cons_zero, List.set_cons_succ]
      refine wpAnyH_ready (rs := [3]) (by kernel_rfl) (by simp) (AllReadyH.cons (Array.getElem?_eq_getElem (i := 3) (by decide)) (fun K9 hK => ?_) AllReadyH.nil)
      go_simp
      refine (text_l2 u3 (1 :: n8 :: R) x.1 _ (HOD.out.sl) (by simp only [List.length_cons]; omega)).mono ?_
      rintro e w3 ⟨v3, rfl, ho3, hb3⟩
      have HB3 := Lib.hid (HBD.out.trans (hb3.mono (by omega)))
      have HO3 := Lib.hid (ho3.lower (by omega : w.heap.size ≤ W0.heap.size))
      have hs3 := hb3.size
      refine hK.out _ _ (hb3.block _ (by omega) |>.trans hHeld) (fun hHeld => ?_)
      clear hK K9
      try simp only [Act.put, List.setIfInBounds_toArray, List.set_cons_zero, List.set_cons_succ]
      clear hb3 ho3
      refine wpAnyH_ready (rs := [6]) (by kernel_rfl) (by simp) (AllReadyH.cons (Array.getElem?_eq_getElem (i := 6) (by decide)) (fun K9 hK => ?_) AllReadyH.nil)
      go_simp
      refine (text_l2 v3 ((1 :: n8 :: R) ++ txt x.1) x.2 _ (HO3.out.sl) (by simp only [List.length_cons, List.length_append, txt_len]; omega)).mono ?_
      rintro e w5 ⟨v5, rfl, ho5, hb5⟩
      have HB5 := Lib.hid (HB3.out.trans (hb5.mono (by omega)))
      have HO5 := Lib.hid (ho5.lower (by omega : w.heap.size ≤ w3.heap.size))
      refine hK.out _ _ (hb5.block _ (by omega) |>.trans hHeld) (fun hHeld => ?_)
      clear hK K9
      try simp only [Act.put, List.setIfInBounds_toArray, List.set_cons_zero, List.set_cons_succ]
      clear hb5 ho5
      refine take_at (i := 7) (v5) (some 3) (by decide) (by rfl) (by kernel_rfl) (by kernel_rfl) (by kernel_rfl) (fun _ _ _ h => h) (by rfl) (fun W hW => by go_simp) (by assumption) ?_
      try simp only [Act.put, List.setIfInBounds_toArray, List.set_cons_zero, List.set_cons_succ]
      refine wpAnyH_done (by kernel_rfl) ?_ _
      try simp only [Act.put, List.setIfInBounds_toArray, List.set_cons_zero, List.set_cons_succ]
      go_wp2_with fail
      go_roundw
      case rel => exact ⟨k + 1, by go_num, by omega, by rw [HNX.out]; show Own w5 w.heap.size v5 _; have := HO5.out; simpa using this, HB5.out⟩
      case measure => simp [intOf]; omega
    · have hkk : k = l.length := by omega
      subst hkk
      go_wp2_with fail
      go_ret
      have h1 := ho.out
      rw [hfin.out] at h1
      exact ⟨_, rfl, h1, hbl.out⟩

end Go.Proofs.Ytflgokbkkoobkaa.Cd

/-
  object.putKids. Conditions: not too many bytes.
-/
namespace Go.Proofs.Ytflgokbkkoobkaa.Cd
open Go.RowKit

theorem ksB_len {l : List Kd} {m : Nat} (h : (ksB l).length ≤ m) {k : Nat} : (ksB (l.take k)).length ≤ m := by
  refine Nat.le_trans ?_ h
  conv => rhs; rw [← List.take_append_drop k l]
  unfold ksB
  rw [List.map_append, List.flatten_append, List.length_append]
  omega
theorem ksB_take {l : List Kd} {k : Nat} {p : Kd} (h : l[k]? = some p) : ksB (l.take (k + 1)) = ksB (l.take k) ++ (txt p.1 ++ textI p.2.1) := by
  obtain ⟨hk, rfl⟩ := List.getElem?_eq_some_iff.1 h
  rw [List.take_succ_eq_append_getElem hk, ksB_snoc]

set_option maxRecDepth 100000 in
set_option maxHeartbeats 3200000 in
theorem putks_any (v : Value) (l : List Kd) (w : World) (h : KsIn w w.heap.size v l) (hl : (ksB l).length ≤ 1000000) : Calls Try.prog 14 #[v] w (Wrote w (2 :: UInt8.ofNat l.length :: ksB l)) := by
  obtain ⟨A, c, rfl, hm1, hm2⟩ := h.len
  have H := Lib.hid h
  clear h
  have hwl := wrap_len l.length
  have hfin : Hid (ksB (l.take l.length) = ksB l) := by unfold Hid; rw [List.take_length]
  generalize UInt8.ofNat l.length = n8 at *
  have hO : Own (w.alloc (.cells #[.int .u8 2, .int .u8 n8.toNat] 5)) w.heap.size (.slice (some ⟨w.heap.size, 0, none⟩) 2 2) [2, n8] := own_two w _ (Nat.le_refl _) 2 n8 _ _ rfl rfl
  have HO := Lib.hid hO
  clear hO
  go_enter Try.func14, Try.ntmps14
  go_wp2_with fail
  go_loopw [3, 12] (fun u i wr => ∃ k : Nat, i = .int .i64 k ∧ k ≤ l.length ∧ Hid (Own wr w.heap.size u (2 :: n8 :: ksB (l.take k))) ∧ Hid (Below w.heap.size w wr)) (fun _ i _ => l.length - (intOf i).toNat)
  case atStart => exact ⟨0, rfl, by omega, HO.out, new_below _ _⟩
  case round =>
    obtain ⟨k, rfl, hk, ho, hbl⟩ := hrel
    by_cases hlt : k < l.length
    · obtain ⟨x, hxk⟩ : ∃ x, l[k]? = some x := ⟨l[k], List.getElem?_eq_getElem hlt⟩
      obtain ⟨b2, off2, e2, hB2, rx⟩ := KsIn.range (H.out.below hbl.out) hxk
      subst e2
      have RX := Lib.hid rx
      clear rx
      have hnx := ksB_take hxk
      have hlk1 := ksB_len hl (k := k + 1)
      rw [hnx] at hlk1
      have HNX := Lib.hid hnx
      clear hnx hxk
      generalize ksB (l.take k) = R at *
      have hlk : R.length + ((enc x.1.length).length + x.1.length + (textI x.2.1).length) ≤ 1000000 := by simpa [txt_len] using hlk1
      clear hlk1
      have HK : Hid (KidAt (wr.alloc (.cells (kkC x).toArray 48)) wr.heap.size x) := KidAt.new _ _
      have hz1 : (wr.alloc (.cells (kkC x).toArray 48)).heap.size = wr.heap.size + 1 := asz _ _
      have HB1 : Hid (Below w.heap.size w (wr.alloc (.cells (kkC x).toArray 48))) := hbl.out.alloc hbl.out.size _
      have HO1 : Hid (Own (wr.alloc (.cells (kkC x).toArray 48)) w.heap.size u3 (2 :: n8 :: R)) := ho.out.alloc _
      have hzr := hbl.out.size
      go_wp2_with (first
        | (refine wpList_load_mid rfl 48 _ rfl b2 (off2 + k * 34) rfl (kkC x) _ RX.out Try.underlying48 rfl (cells_kk x) ?_)
        | (refine wp_alloc_row zero_kk rfl rfl ?_)
        | (refine wp_fill_kk rfl _ _ rfl rfl (by simp [Act.eval, Act.put]) x rfl ?_))
      generalize wr.alloc (.cells (kkC x).toArray 48) = W1 at *
      obtain ⟨W0, hW0⟩ : ∃ x, W1.drew = x := ⟨_, rfl⟩
      have hS0 : KidAt W0 wr.heap.size x := by rw [← hW0]; exact HK.out
      have HBD : Hid (Below w.heap.size w W0) := by rw [← hW0]; exact HB1.out.drew
      have HOD : Hid (Own W0 w.heap.size u3 (2 :: n8 :: R)) := by rw [← hW0]; exact HO1.out.drew
      have hs0 : W0.heap.size = wr.heap.size + 1 := by rw [← hW0]; exact hz1
      clear HK HB1 HO1 hz1
      refine region_begin hW0 (S := fun W => KidAt W wr.heap.size x) (by kernel_rfl) hS0 (fun hHeld => ?_)
      clear hW0 hS0
      refine take_at (i := 0) (u3) (some 16) (by decide) (by rfl) (by kernel_rfl) (by kernel_rfl) (by kernel_rfl) (fun _ _ _ h => h) (by rfl) (fun W hW => by go_simp) (by assumption) ?_
      try simp only [Act.put, List.setIfInBounds_toArray, List.set_cons_zero, List.set_cons_succ]
      refine take_at (i := 1) (.pointer (some ⟨wr.heap.size, 0, none⟩)) (some 17) (by decide) (by rfl) (by kernel_rfl) (by kernel_rfl) (by kernel_rfl) (fun _ _ _ h => h) (by rfl) (fun W hW => by go_simp) (by assumption) ?_
      try simp only [Act.put, List.setIfInBounds_toArray, List.set_cons_zero, List.set_cons_succ]
      refine take_at (i := 2) (.string ⟨x.1.toArray⟩) (some 18) (by decide) (by rfl) (by kernel_rfl) (by kernel_rfl) (by kernel_rfl) (fun _ _ _ h => h) (by rfl) (fun W hW => by have := hW.key; go_simp) (by assumption) ?_
      try simp only [Act.put, List.setIfInBounds_toArray, List.set_cons_zero, List.set_cons_succ]
      refine take_at (i := 4) (.pointer (some ⟨wr.heap.size, 1, none⟩)) (some 20) (by decide) (by rfl) (by kernel_rfl) (by kernel_rfl) (by kernel_rfl) (fun _ _ _ h => h) (by rfl) (fun W hW => by go_simp) (by assumption) ?_
      try simp only [Act.put, List.setIfInBounds_toArray, List.set_cons_zero, List.set_cons_succ]
      refine take_at (i := 5) (idV x.2.1) (some 21) (by decide) (by rfl) (by kernel_rfl) (by kernel_rfl) (by kernel_rfl) (fun _ _ _ h => h) (by rfl) (fun W hW => by exact exec_load_mid _ _ rfl wr.heap.size 1 rfl (vb x.2.1) _ hW.id Try.underlying28 rfl (cells_ii x.2)) (by assumption) ?_
      try simp only [Act.put, List.setIfInBounds_toArray, List.set_cons_zero, List.set_cons_succ]
      refine wpAnyH_ready (rs := [3]) (by kernel_rfl) (by simp) (AllReadyH.cons (Array.getElem?_eq_getElem (i := 3) (by decide)) (fun K9 hK => ?_) AllReadyH.nil)
      go_simp
      refine (text_l2 u3 (2 :: n8 :: R) x.1 _ (HOD.out.sl) (by simp only [List.length_cons]; omega)).mono ?_
      rintro e w3 ⟨v3, rfl, ho3, hb3⟩
      have HB3 := Lib.hid (HBD.out.trans (hb3.mono (by omega)))
      have HO3 := Lib.hid ho3
      have hs3 := hb3.size
      refine hK.out _ _ (hb3.block _ (by omega) |>.trans hHeld) (fun hHeld => ?_)
      clear hK K9
      try simp only [Act.put, List.setIfInBounds_toArray, List.set_cons_zero, List.set_cons_succ]
      clear hb3 ho3
      refine wpAnyH_ready (rs := [6]) (by kernel_rfl) (by simp) (AllReadyH.cons (Array.getElem?_eq_getElem (i := 6) (by decide)) (fun K9 hK => ?_) AllReadyH.nil)
      go_simp
      refine (text_l x.2.1 _ x.2.2).mono ?_
      rintro e w4 ⟨rfl, hb4⟩
      have HB4 := Lib.hid (HB3.out.trans (hb4.mono (by omega)))
      have HO4 := Lib.hid (HO3.out.keep hb4)
      have hs4 := hb4.size
      refine hK.out _ _ (hb4.block _ (by omega) |>.trans hHeld) (fun hHeld => ?_)
      clear hK K9
      try simp only [Act.put, List.setIfInBounds_toArray, List.set_cons_zero, List.set_cons_succ]
      clear hb4
      refine wpAnyH_ready (rs := [7]) (by kernel_rfl) (by simp) (AllReadyH.cons (Array.getElem?_eq_getElem (i := 7) (by decide)) (fun K9 hK => ?_) AllReadyH.nil)
      refine step_append_text rfl (.tmp 19) (.tmp 22) rfl W0.heap.size v3 ((2 :: n8 :: R) ++ txt x.1) rfl HO4.out (by omega) (textI x.2.1) rfl (by simp only [List.length_cons, List.length_append, txt_len]; omega) ?_
      intro v5 w5 ho5 hb5
      have HB5 := Lib.hid (HB4.out.trans (hb5.mono (by omega)))
      have HO5 := Lib.hid (ho5.lower (by omega : w.heap.size ≤ W0.heap.size))
      refine hK.out _ _ (hb5.block _ (by omega) |>.trans hHeld) (fun hHeld => ?_)
      clear hK K9
      try simp only [Act.put, List.setIfInBounds_toArray, List.set_cons_zero, List.set_cons_succ]
      refine take_at (i := 8) (v5) (some 3) (by decide) (by rfl) (by kernel_rfl) (by kernel_rfl) (by kernel_rfl) (fun _ _ _ h => h) (by rfl) (fun W hW => by go_simp) (by assumption) ?_
      try simp only [Act.put, List.setIfInBounds_toArray, List.set_cons_zero, List.set_cons_succ]
      refine wpAnyH_done (by kernel_rfl) ?_ _
      try simp only [Act.put, List.setIfInBounds_toArray, List.set_cons_zero, List.set_cons_succ]
      go_wp2_with fail
      go_roundw
      case rel => exact ⟨k + 1, by go_num, by omega, by rw [HNX.out]; show Own w5 w.heap.size v5 _; have := HO5.out; simpa using this, HB5.out⟩
      case measure => simp [intOf]; omega
    · have hkk : k = l.length := by omega
      subst hkk
      go_wp2_with fail
      go_ret
      have h1 := ho.out
      rw [hfin.out] at h1
      exact ⟨_, rfl, h1, hbl.out⟩

end Go.Proofs.Ytflgokbkkoobkaa.Cd

/-
  object.PutTree; how many bytes there are. Conditions: none.
-/
namespace Go.Proofs.Ytflgokbkkoobkaa.Cd
open Go.RowKit

theorem txt_short {s : List UInt8} (h : s.length ≤ 127) : (txt s).length = 1 + s.length := by
  rw [txt_len, enc_lo (by omega)]
  rfl
theorem textI_len (l : List UInt8) : (textI l).length ≤ 33 := textI_length l
theorem flat_le {α : Type} (f : α → List UInt8) (m : Nat) (l : List α) (h : ∀ p ∈ l, (f p).length ≤ m) : ((l.map f).flatten).length ≤ l.length * m := by
  induction l with
  | nil => simp
  | cons p r ih =>
    have h1 := ih (fun q hq => h q (List.mem_cons_of_mem _ hq))
    have h2 := h p List.mem_cons_self
    rw [List.map_cons, List.flatten_cons, List.length_append, List.length_cons, Nat.add_mul]
    omega
theorem psB_small {l : List Bp} (h : GoodPs l) : (psB l).length ≤ 136 := by
  have h1 := flat_le (fun p : Bp => txt p.1 ++ txt p.2) 34 l (fun p hp => by
    have a := h.key p hp
    have b := h.val p hp
    rw [List.length_append, txt_short (by omega), txt_short (by omega)]
    omega)
  have h2 := h.few
  unfold psB
  omega
theorem ksB_small {l : List Kd} (h : GoodKs l) : (ksB l).length ≤ 150 := by
  have h1 := flat_le (fun p : Kd => txt p.1 ++ textI p.2.1) 50 l (fun p hp => by
    have a := h.key p hp
    have b := textI_len p.2.1
    rw [List.length_append, txt_short (by omega)]
    omega)
  have h2 := h.few
  unfold ksB
  omega
theorem isB_small {r : UInt8} {l : List Idn} (h : GoodIs r l) : (isB l).length ≤ 66 := by
  have h1 := flat_le (fun p : Idn => textI p.1) 33 l (fun p _ => textI_len p.1)
  have h2 := h.few
  unfold isB
  omega
theorem treeB_small {t : Tre} (h : GoodT t) : (treeB t).length ≤ 152 := by
  rcases h with ⟨h1, h2⟩ | ⟨_, h2⟩
  · rw [treeB_ps h1]
    have := psB_small h2
    simp only [List.length_cons]
    omega
  · rw [treeB_ks h2]
    have := ksB_small h2
    simp only [List.length_cons]
    omega
theorem num_small {z : Int} (h0 : 1 ≤ z) (h1 : z ≤ 1024) : (enc (zig z)).length ≤ 2 := by
  refine enc_len 2 _ ?_ (by omega)
  unfold zig
  rw [if_pos (by omega)]
  omega
theorem comB_small {c : Cmt} (h : GoodC c) : (comB c).length ≤ 136 := by
  have h1 := textI_len c.root.1
  have h2 := isB_small h.is
  have h3 := num_small h.low h.high
  have h4 := h.note
  unfold comB
  simp only [List.length_cons, List.length_append]
  rw [txt_short (by omega)]
  omega

/-- What Put leaves: bytes of the call's own, or ErrArg. -/
def Puts (P : Prop) (bs : List UInt8) (w : World) (e : Ending) (w' : World) : Prop :=
  ∃ v n, e = .returned (.tuple #[v, .int .i64 n]) ∧ Below w.heap.size w w' ∧ ((P ∧ n = 0 ∧ Own w' w.heap.size v bs) ∨ (¬ P ∧ n = 1 ∧ v = .slice none 0 0))

set_option maxRecDepth 100000 in
set_option maxHeartbeats 1600000 in
theorem putt_any (v : Value) (t : Tre) (w : World) (h : TreIn w w.heap.size v t) : Calls Try.prog 7 #[v] w (Puts (GoodT t) (treeB t) w) := by
  obtain ⟨ps, ks⟩ := t
  obtain ⟨vp, vk, rfl, h1, h2⟩ := h
  have h1 : PsIn w w.heap.size vp ps := h1
  have h2 : KsIn w w.heap.size vk ks := h2
  obtain ⟨A1, c1, e1, k1, l1⟩ := h1.len
  obtain ⟨A2, c2, e2, k2, l2⟩ := h2.len
  have hb1 : Below w.heap.size w (w.alloc (.cells #[vp, vk] 25)) := new_below _ _
  have hz1 : (w.alloc (.cells #[vp, vk] 25)).heap.size = w.heap.size + 1 := asz _ _
  have H1 : Hid (PsIn (w.alloc (.cells #[vp, vk] 25)) (w.alloc (.cells #[vp, vk] 25)).heap.size vp ps) := h1.on hb1
  have H2 : Hid (KsIn (w.alloc (.cells #[vp, vk] 25)) (w.alloc (.cells #[vp, vk] 25)).heap.size vk ks) := h2.on hb1
  have HR : Hid ((w.alloc (.cells #[vp, vk] 25)).heap[w.heap.size]? = some (.cells #[vp, vk] 25)) := heap_alloc_new _ _
  have HB1 := Lib.hid hb1
  have HZ1 := Lib.hid hz1
  clear h1 h2 hb1 hz1
  subst e1 e2
  go_enter Try.func7, Try.ntmps7
  go_wp2_with fail
  generalize w.alloc (.cells #[.slice A1 ps.length c1, .slice A2 ks.length c2] 25) = W1 at *
  refine (goodt_any _ ⟨ps, ks⟩ W1 ⟨_, _, rfl, H1.out, H2.out⟩).mono ?_
  rintro e w2 ⟨s, rfl, hs, hb2⟩
  have hz0 : w.heap.size + 1 ≤ W1.heap.size := by have := HZ1.out; omega
  have HB2 := Lib.hid (HB1.out.trans (hb2.mono (by omega)))
  have HR2 : Hid (w2.heap[w.heap.size]? = some (.cells #[.slice A1 ps.length c1, .slice A2 ks.length c2] 25)) := (hb2.block _ (by omega)).trans HR.out
  have HP2 : Hid (PsIn w2 w2.heap.size (.slice A1 ps.length c1) ps) := H1.out.on hb2
  have HK2 : Hid (KsIn w2 w2.heap.size (.slice A2 ks.length c2) ks) := H2.out.on hb2
  have hz2 : w.heap.size ≤ w2.heap.size := by have := hb2.size; omega
  clear hb2
  have d0 := cell_of_row _ _ 0 _ _ _ HR2.out
  have d1 := cell_of_row _ _ 1 _ _ _ HR2.out
  cases s
  · have hno : Hid (¬ GoodT ⟨ps, ks⟩) := fun h => by have := hs.2 h; cases this
    clear hs
    go_wp2_with fail
    go_ret2
    exact ⟨_, _, rfl, HB2.out, .inr ⟨hno.out, rfl, rfl⟩⟩
  · have hyes : Hid (GoodT ⟨ps, ks⟩) := hs.1 rfl
    clear hs
    by_cases hk : ks.length = 0
    · have hks : ks = [] := List.eq_nil_of_length_eq_zero hk
      subst hks
      have hps : (psB ps).length ≤ 1000000 := by
        rcases hyes.out with h | h
        · have := psB_small h.2; simp only at this; omega
        · exact absurd rfl (goodKs_ne h.2)
      have HT : Hid (treeB ⟨ps, []⟩ = 1 :: UInt8.ofNat ps.length :: psB ps) := treeB_ps rfl
      clear hk
      go_wp2_with fail
      refine (putps_any _ ps w2 HP2.out hps).mono ?_
      rintro e w3 ⟨v3, rfl, ho3, hb3⟩
      have HB3 := Lib.hid (HB2.out.trans (hb3.mono hz2))
      have HO3 := Lib.hid (ho3.lower hz2)
      clear hb3 ho3
      go_wp2_with fail
      go_ret2
      exact ⟨_, _, rfl, HB3.out, .inl ⟨hyes.out, rfl, by rw [HT.out]; exact HO3.out⟩⟩
    · have hkpos : (0 : Int) < ks.length := by omega
      have hgk : GoodKs ks := hyes.out.elim (fun h => absurd (by have e : ks = [] := h.1; rw [e]; rfl) hk) (fun h => h.2)
      have hks : (ksB ks).length ≤ 1000000 := by have := ksB_small hgk; omega
      have HT : Hid (treeB ⟨ps, ks⟩ = 2 :: UInt8.ofNat ks.length :: ksB ks) := treeB_ks hgk
      clear hgk hk
      go_wp2_with fail
      refine (putks_any _ ks w2 HK2.out hks).mono ?_
      rintro e w3 ⟨v3, rfl, ho3, hb3⟩
      have HB3 := Lib.hid (HB2.out.trans (hb3.mono hz2))
      have HO3 := Lib.hid (ho3.lower hz2)
      clear hb3 ho3
      go_wp2_with fail
      go_ret2
      exact ⟨_, _, rfl, HB3.out, .inl ⟨hyes.out, rfl, by rw [HT.out]; exact HO3.out⟩⟩

end Go.Proofs.Ytflgokbkkoobkaa.Cd

/-
  object.PutCommit. Conditions: none.
-/
namespace Go.Proofs.Ytflgokbkkoobkaa.Cd
open Go.RowKit

theorem isB_take {l : List Idn} {k : Nat} {p : Idn} (h : l[k]? = some p) : isB (l.take (k + 1)) = isB (l.take k) ++ textI p.1 := by
  obtain ⟨hk, rfl⟩ := List.getElem?_eq_some_iff.1 h
  rw [List.take_succ_eq_append_getElem hk, isB_snoc]
theorem isB_takelen {l : List Idn} {m : Nat} (h : (isB l).length ≤ m) {k : Nat} : (isB (l.take k)).length ≤ m := by
  refine Nat.le_trans ?_ h
  conv => rhs; rw [← List.take_append_drop k l]
  unfold isB
  rw [List.map_append, List.flatten_append, List.length_append]
  omega
theorem int_l2 (v : Value) (bs : List UInt8) (n : Int) (w : World) (hs : Sl w w.heap.size v bs) (h0 : 1 ≤ n) (h1 : n ≤ 1024) (hb : bs.length ≤ 100000000) :
    Calls Try.prog 18 #[v, .int .i64 n] w (Wrote w (bs ++ enc (zig n))) := int_any v bs n w hs (by omega) (by omega) (by omega)
theorem cells_com (c : Cmt) (vi : Value) : (Try.prog.info? 31).map (·.size) = some (cmC c vi).length := by
  rw [cmC_len]
  kernel_rfl
theorem ComAt.whole {w : World} {g : Nat} {c : Cmt} {vi : Value} (h : ComAt w g c vi) : w.rangeAt g 0 (cmC c vi) := fun j v hv => by
  rw [cell_of_row _ _ _ _ _ _ h, List.getElem?_toArray, Nat.zero_add]
  exact hv

set_option maxRecDepth 100000 in
set_option maxHeartbeats 3200000 in
theorem putc_any (v : Value) (c : Cmt) (w : World) (h : CmtIn w w.heap.size v c) : Calls Try.prog 8 #[v] w (Puts (GoodC c) (comB c) w) := by
  obtain ⟨vi, rfl, hi⟩ := h
  obtain ⟨A, cc, rfl, k1, l1⟩ := hi.len
  have hb1 : Below w.heap.size w (w.alloc (.cells (cmC c (.slice A c.is.length cc)).toArray 31)) := new_below _ _
  have hz1 : (w.alloc (.cells (cmC c (.slice A c.is.length cc)).toArray 31)).heap.size = w.heap.size + 1 := asz _ _
  have HC : Hid (ComAt (w.alloc (.cells (cmC c (.slice A c.is.length cc)).toArray 31)) w.heap.size c (.slice A c.is.length cc)) := ComAt.new _ _ _
  have HI : Hid (IsIn (w.alloc (.cells (cmC c (.slice A c.is.length cc)).toArray 31)) (w.alloc (.cells (cmC c (.slice A c.is.length cc)).toArray 31)).heap.size (.slice A c.is.length cc) c.is) := hi.on hb1
  have HI0 : Hid (IsIn w w.heap.size (.slice A c.is.length cc) c.is) := hi
  have HB1 := Lib.hid hb1
  have hr33 : Hid (c.root.1.length = 33) := c.root.2
  have hcw := cells_com c (.slice A c.is.length cc)
  obtain ⟨CW, hCW⟩ : ∃ x, (cmC c (.slice A c.is.length cc)).toArray = x := ⟨_, rfl⟩
  have HWH : Hid ((w.alloc (.cells (cmC c (.slice A c.is.length cc)).toArray 31)).rangeAt w.heap.size 0 (cmC c (.slice A c.is.length cc))) := ComAt.whole HC.out
  clear hCW
  go_enter Try.func8, Try.ntmps8
  go_wp2_with (first
    | (refine wp_box_row rfl _ rfl rfl ?_)
    | (refine wpList_load_mid rfl 31 _ rfl w.heap.size 0 rfl (cmC c (.slice A c.is.length cc)) _ HWH.out Try.underlying31 rfl hcw ?_))
  clear hb1 hi HWH
  generalize w.alloc (.cells (cmC c (.slice A c.is.length cc)).toArray 31) = W1 at *
  refine (goodc_any _ c W1 ⟨_, rfl, HI.out⟩).mono ?_
  rintro e w2 ⟨s, rfl, hs, hb2⟩
  have HB2 := Lib.hid (HB1.out.trans (hb2.mono (by omega)))
  have HC2 := Lib.hid (HC.out.below hb2 (by omega))
  have HI2 : Hid (IsIn w2 w2.heap.size (.slice A c.is.length cc) c.is) := HI.out.on hb2
  have hs2 : w.heap.size + 1 ≤ w2.heap.size := by have := hb2.size; omega
  clear hb2 HB1 HC HI hcw hz1
  cases s
  · have hno : Hid (¬ GoodC c) := fun h => by have := hs.2 h; cases this
    clear hs
    go_wp2_with fail
    go_ret2
    exact ⟨_, _, rfl, HB2.out, .inr ⟨hno.out, rfl, rfl⟩⟩
  have hyes : Hid (GoodC c) := hs.1 rfl
  clear hs
  have hcb : Hid (comB c = 3 :: UInt8.ofNat c.is.length :: (textI c.root.1 ++ (isB c.is ++ (txt c.note ++ enc (zig c.num))))) := rfl
  have hl1 := isB_small hyes.out.is
  have hl2 := textI_len c.root.1
  have hl3 := hyes.out.note
  have hn0 := hyes.out.low
  have hn1 := hyes.out.high
  have hwl := wrap_len c.is.length
  have hfin : Hid (isB (c.is.take c.is.length) = isB c.is) := by unfold Hid; rw [List.take_length]
  generalize UInt8.ofNat c.is.length = n8 at *
  have d33 := HC2.out.is
  have HO2 : Hid (Own (w2.alloc (.cells #[.int .u8 3, .int .u8 n8.toNat] 5)) w2.heap.size (.slice (some ⟨w2.heap.size, 0, none⟩) 2 2) [3, n8]) := own_two w2 _ (Nat.le_refl _) 3 n8 _ _ rfl rfl
  have hb3 : Below w2.heap.size w2 (w2.alloc (.cells #[.int .u8 3, .int .u8 n8.toNat] 5)) := new_below _ _
  have hz3 : (w2.alloc (.cells #[.int .u8 3, .int .u8 n8.toNat] 5)).heap.size = w2.heap.size + 1 := asz _ _
  have HC3 := Lib.hid (HC2.out.below hb3 (by omega))
  have HI3 : Hid (IsIn (w2.alloc (.cells #[.int .u8 3, .int .u8 n8.toNat] 5)) (w2.alloc (.cells #[.int .u8 3, .int .u8 n8.toNat] 5)).heap.size (.slice A c.is.length cc) c.is) := HI2.out.on hb3
  have HB3 := Lib.hid (HB2.out.trans (hb3.mono (by omega)))
  go_wp2_with (first
    | (refine wpList_load_mid rfl 28 _ rfl w.heap.size 0 rfl (vb c.root.1) _ HC3.out.id Try.underlying28 rfl (cells_ii c.root) ?_))
  clear hb3 HC2 HI2 d33 HB2
  generalize w2.alloc (.cells #[.int .u8 3, .int .u8 n8.toNat] 5) = w3 at *
  refine (text_l c.root.1 w3 hr33.out).mono ?_
  rintro e w4 ⟨rfl, hb4⟩
  have HB4 := Lib.hid (HB3.out.trans (hb4.mono (by omega)))
  have HC4 := Lib.hid (HC3.out.below hb4 (by omega))
  have HI4 : Hid (IsIn w4 w4.heap.size (.slice A c.is.length cc) c.is) := HI3.out.on hb4
  have HO4 := Lib.hid (HO2.out.keep hb4)
  have hs4 : w2.heap.size ≤ w4.heap.size := by have := hb4.size; omega
  clear hb4 HB3 HC3 HI3 HO2
  go_wp2_with (refine wp_append_text rfl _ _ rfl w2.heap.size _ [3, n8] rfl HO4.out hs4 ⟨(textI c.root.1).toArray⟩ rfl (by have : (ByteArray.mk (textI c.root.1).toArray).size = (textI c.root.1).length := rfl; simp only [List.length_cons, List.length_nil]; omega) ?_)
  intro v5 w5 ho5 hb5
  have HO5 : Hid (Own w5 w2.heap.size v5 (3 :: n8 :: textI c.root.1)) := ho5
  have HB5 := Lib.hid (HB4.out.trans (hb5.mono (by omega)))
  have HC5 := Lib.hid (HC4.out.below hb5 (by omega))
  have HI5 : Hid (IsIn w5 w.heap.size (.slice A c.is.length cc) c.is) := (HI0.out).below HB5.out
  have d33 := HC5.out.is
  have hs5 : w2.heap.size ≤ w5.heap.size := by have := hb5.size; omega
  clear hb5 ho5 HB4 HC4 HI4 HO4
  generalize textI c.root.1 = R0 at *
  go_wp2_with fail
  go_loopw [4, 23] (fun u i wr => ∃ k : Nat, i = .int .i64 k ∧ k ≤ c.is.length ∧ Hid (Own wr w2.heap.size u (3 :: n8 :: (R0 ++ isB (c.is.take k)))) ∧ Hid (ComAt wr w.heap.size c (.slice A c.is.length cc)) ∧ Hid (Below w.heap.size w wr) ∧ w2.heap.size ≤ wr.heap.size) (fun _ i _ => c.is.length - (intOf i).toNat)
  case atStart => exact ⟨0, rfl, by omega, (by unfold Hid; have := HO5.out; simpa [isB] using this), HC5.out, HB5.out, hs5⟩
  case round =>
    obtain ⟨k, rfl, hk, ho, hcm, hbl, hsr⟩ := hrel
    clear HO5 HC5 HB5 HI5 d33
    by_cases hlt : k < c.is.length
    · obtain ⟨x, hxk⟩ : ∃ x, c.is[k]? = some x := ⟨c.is[k], List.getElem?_eq_getElem hlt⟩
      obtain ⟨b2, off2, e2, hB2, rx⟩ := IsIn.range (HI0.out.below hbl.out) hxk
      subst e2
      have RX := Lib.hid rx
      clear rx
      have hnx := isB_take hxk
      have hlk1 := isB_takelen hl1 (k := k + 1)
      rw [hnx] at hlk1
      have HNX := Lib.hid hnx
      clear hnx hxk
      generalize isB (c.is.take k) = R at *
      rw [List.length_append] at hlk1
      have hx33 : Hid (x.1.length = 33) := x.2
      have HX : Hid (IdAt (wr.alloc (.cells (vb x.1).toArray 28)) wr.heap.size x.1) := IdAt.new _ _
      have HO1 : Hid (Own (wr.alloc (.cells (vb x.1).toArray 28)) w2.heap.size u4 (3 :: n8 :: (R0 ++ R))) := ho.out.alloc _
      have hb6 : Below wr.heap.size wr (wr.alloc (.cells (vb x.1).toArray 28)) := new_below _ _
      have hz6 : (wr.alloc (.cells (vb x.1).toArray 28)).heap.size = wr.heap.size + 1 := asz _ _
      have HB6 := Lib.hid (hbl.out.trans (hb6.mono (by omega)))
      have HC6 := Lib.hid (hcm.out.below hb6 (by omega))
      clear hb6
      go_wp2_with (first
        | (refine wpList_load_mid rfl 28 _ rfl b2 (off2 + k * 33) rfl (vb x.1) _ RX.out Try.underlying28 rfl (cells_ii x) ?_)
        | (refine wp_alloc_row zero_id rfl rfl ?_)
        | (refine wp_fill_id rfl _ _ rfl rfl (by simp [Act.eval, Act.put]) x.1 hx33.out rfl ?_)
        | (refine wp_load_id rfl _ rfl wr.heap.size rfl x.1 hx33.out HX.out ?_))
      generalize wr.alloc (.cells (vb x.1).toArray 28) = W6 at *
      refine (text_l x.1 W6 hx33.out).mono ?_
      rintro e w7 ⟨rfl, hb7⟩
      have HB7 := Lib.hid (HB6.out.trans (hb7.mono (by omega)))
      have HC7 := Lib.hid (HC6.out.below hb7 (by omega))
      have HO7 := Lib.hid (HO1.out.keep hb7)
      have hs7 : w2.heap.size ≤ w7.heap.size := by have := hb7.size; omega
      clear hb7 HB6 HC6 HO1
      go_wp2_with (refine wp_append_text rfl _ _ rfl w2.heap.size _ (3 :: n8 :: (R0 ++ R)) rfl HO7.out hs7 ⟨(textI x.1).toArray⟩ rfl (by have : (ByteArray.mk (textI x.1).toArray).size = (textI x.1).length := rfl; simp only [List.length_cons, List.length_append]; omega) ?_)
      intro v8 w8 ho8 hb8
      have HB8 := Lib.hid (HB7.out.trans (hb8.mono (by omega)))
      have HC8 := Lib.hid (HC7.out.below hb8 (by omega))
      have HO8 := Lib.hid ho8
      have hs8 : w2.heap.size ≤ w8.heap.size := by have := hb8.size; omega
      clear hb8 ho8
      go_wp2_with fail
      go_roundw
      case rel => exact ⟨k + 1, by go_num, by omega, by rw [HNX.out]; show Own w8 w2.heap.size v8 _; have := HO8.out; simpa using this, HC8.out, HB8.out, hs8⟩
      case measure => simp [intOf]; omega
    · have hkk : k = c.is.length := by omega
      subst hkk
      rw [hfin.out] at ho
      generalize isB c.is = R at *
      have hzn : (ByteArray.mk c.note.toArray).size = c.note.length := rfl
      go_wp2_with fail
      obtain ⟨W0, hW0⟩ : ∃ x, wr.drew = x := ⟨_, rfl⟩
      have hS0 : ComAt W0 w.heap.size c (.slice A c.is.length cc) := by rw [← hW0]; exact hcm.out
      have HBD : Hid (Below w.heap.size w W0) := by rw [← hW0]; exact hbl.out.drew
      have HOD : Hid (Own W0 w2.heap.size u4 (3 :: n8 :: (R0 ++ R))) := by rw [← hW0]; exact ho.out.drew
      have hs0 : w2.heap.size ≤ W0.heap.size := by rw [← hW0]; simpa using hsr
      refine region_begin hW0 (S := fun W => ComAt W w.heap.size c (.slice A c.is.length cc)) (by kernel_rfl) hS0 (fun hHeld => ?_)
      clear hW0 hS0
      refine take_at (i := 0) (u4) (some 32) (by decide) (by rfl) (by kernel_rfl) (by kernel_rfl) (by kernel_rfl) (fun _ _ _ h => h) (by rfl) (fun W hW => by go_simp) (by assumption) ?_
      try simp only [Act.put, List.setIfInBounds_toArray, List.set_cons_zero, List.set_cons_succ]
      refine take_at (i := 1) (.pointer (some ⟨w.heap.size, 34, none⟩)) (some 33) (by decide) (by rfl) (by kernel_rfl) (by kernel_rfl) (by kernel_rfl) (fun _ _ _ h => h) (by rfl) (fun W hW => by go_simp) (by assumption) ?_
      try simp only [Act.put, List.setIfInBounds_toArray, List.set_cons_zero, List.set_cons_succ]
      refine take_at (i := 2) (.string ⟨c.note.toArray⟩) (some 34) (by decide) (by rfl) (by kernel_rfl) (by kernel_rfl) (by kernel_rfl) (fun _ _ _ h => h) (by rfl) (fun W hW => by have := hW.note; go_simp) (by assumption) ?_
      try simp only [Act.put, List.setIfInBounds_toArray, List.set_cons_zero, List.set_cons_succ]
      refine take_at (i := 4) (.pointer (some ⟨w.heap.size, 35, none⟩)) (some 36) (by decide) (by rfl) (by kernel_rfl) (by kernel_rfl) (by kernel_rfl) (fun _ _ _ h => h) (by rfl) (fun W hW => by go_simp) (by assumption) ?_
      try simp only [Act.put, List.setIfInBounds_toArray, List.set_cons_zero, List.set_cons_succ]
      refine take_at (i := 5) (.int .i64 c.num) (some 37) (by decide) (by rfl) (by kernel_rfl) (by kernel_rfl) (by kernel_rfl) (fun _ _ _ h => h) (by rfl) (fun W hW => by have := hW.num; go_simp) (by assumption) ?_
      try simp only [Act.put, List.setIfInBounds_toArray, List.set_cons_zero, List.set_cons_succ]
      refine wpAnyH_ready (rs := [3]) (by kernel_rfl) (by simp) (AllReadyH.cons (Array.getElem?_eq_getElem (i := 3) (by decide)) (fun K9 hK => ?_) AllReadyH.nil)
      go_simp
      refine (text_l2 u4 (3 :: n8 :: (R0 ++ R)) c.note _ (HOD.out.sl) (by simp only [List.length_cons, List.length_append]; omega)).mono ?_
      rintro e w9 ⟨v9, rfl, ho9, hb9⟩
      have HB9 := Lib.hid (HBD.out.trans (hb9.mono (by omega)))
      have HO9 := Lib.hid ho9
      have hs9 := hb9.size
      refine hK.out _ _ (hHeld.below hb9 (by omega)) (fun hHeld => ?_)
      clear hK K9
      try simp only [Act.put, List.setIfInBounds_toArray, List.set_cons_zero, List.set_cons_succ]
      clear hb9 ho9
      refine wpAnyH_ready (rs := [6]) (by kernel_rfl) (by simp) (AllReadyH.cons (Array.getElem?_eq_getElem (i := 6) (by decide)) (fun K9 hK => ?_) AllReadyH.nil)
      go_simp
      refine (int_l2 v9 ((3 :: n8 :: (R0 ++ R)) ++ txt c.note) c.num _ (HO9.out.sl) hn0 hn1 (by simp only [List.length_cons, List.length_append, txt_short (Nat.le_trans hl3 (by omega))]; omega)).mono ?_
      rintro e wa ⟨va, rfl, hoa, hba⟩
      have HBa := Lib.hid (HB9.out.trans (hba.mono (by omega)))
      have HOa := Lib.hid (hoa.lower (by omega : w.heap.size ≤ w9.heap.size))
      refine hK.out _ _ (hHeld.below hba (by omega)) (fun hHeld => ?_)
      clear hK K9
      try simp only [Act.put, List.setIfInBounds_toArray, List.set_cons_zero, List.set_cons_succ]
      clear hba hoa
      refine take_at (i := 7) (va) (some 2) (by decide) (by rfl) (by kernel_rfl) (by kernel_rfl) (by kernel_rfl) (fun _ _ _ h => h) (by rfl) (fun W hW => by go_simp) (by assumption) ?_
      try simp only [Act.put, List.setIfInBounds_toArray, List.set_cons_zero, List.set_cons_succ]
      refine take_at (i := 8) (.int .i64 0) (some 3) (by decide) (by rfl) (by kernel_rfl) (by kernel_rfl) (by kernel_rfl) (fun _ _ _ h => h) (by rfl) (fun W hW => by go_simp) (by assumption) ?_
      try simp only [Act.put, List.setIfInBounds_toArray, List.set_cons_zero, List.set_cons_succ]
      refine wpAnyH_done (by kernel_rfl) ?_ _
      try simp only [Act.put, List.setIfInBounds_toArray, List.set_cons_zero, List.set_cons_succ]
      go_wp2_with fail
      go_ret2
      exact ⟨_, _, rfl, HBa.out, .inl ⟨hyes.out, rfl, by rw [hcb.out]; have := HOa.out; simpa using this⟩⟩

end Go.Proofs.Ytflgokbkkoobkaa.Cd

/-
  object.getPairs. Conditions: none.
-/
namespace Go.Proofs.Ytflgokbkkoobkaa.Cd
open Go.RowKit

theorem byte_lt (c : UInt8) : c.toNat < 256 := c.toNat_lt

end Go.Proofs.Ytflgokbkkoobkaa.Cd

/-
  The document's Same of pairs. Conditions: none.
-/
namespace Go.Proofs.Ytflgokbkkoobkaa.Cd
open Go.RowKit

def ppV (p : Bp) : Value := .agg #[.string ⟨p.1.toArray⟩, .string ⟨p.2.toArray⟩]
def eqPp (p q : Bp) : Bool := p.1 == q.1 && p.2 == q.2
theorem eqPp_iff (p q : Bp) : eqPp p q = true ↔ p = q := by
  unfold eqPp
  rw [Bool.and_eq_true, beq_iff_eq, beq_iff_eq]
  exact ⟨fun h => Prod.ext h.1 h.2, fun h => by rw [h]; exact ⟨rfl, rfl⟩⟩
theorem fields_pp : Try.prog.underlying 43 = some (.struct (Try.prog.fieldsOf 43)) := by kernel_rfl
theorem held_pp : Try.prog.stoodInHeld 43 = false := by kernel_rfl
theorem guard_pp : Try.prog.eqGuardType Try.prog.depth 43 = false := by kernel_rfl
theorem equal_pp (p q : Bp) (W : World) : (Op.equalIn 10000 43 (ppV p) (ppV q)).run Try.prog W = .ok (eqPp p q) W := by
  unfold ppV
  rw [run_equalIn_struct W 9999 _ _ _ fields_pp held_pp]
  simp [Program.fieldsOf, Try.underlying43, Op.eqFields, go_sem]
  unfold eqPp
  by_cases h1 : p.1 = q.1
  · by_cases h2 : p.2 = q.2
    · simp [h1, h2]
    · simp [h1, h2]
  · simp [h1]
theorem neq_pp (p q : Bp) (W : World) : (binOp .neq 43 (.agg #[.string ⟨p.1.toArray⟩, .string ⟨p.2.toArray⟩]) (.agg #[.string ⟨q.1.toArray⟩, .string ⟨q.2.toArray⟩])).run Try.prog W = .ok (.bool (!eqPp p q)) W := by
  have h := equal_pp p q W
  unfold ppV at h
  rw [run_neq_struct, h]
  rfl

set_option maxRecDepth 100000 in
set_option maxHeartbeats 3200000 in
theorem same8_any (u v : Value) (a b : List Bp) (w : World) (hu : PsIn w w.heap.size u a) (hv : PsIn w w.heap.size v b) :
    Calls Try.prog 20 #[u, v] w fun e w' => ∃ s : Bool, e = .returned (.bool s) ∧ (s = true ↔ a = b) ∧ Below w.heap.size w w' := by
  obtain ⟨A, c, rfl, ha1, ha2⟩ := hu.len
  obtain ⟨A2, c2, rfl, hb1, hb2⟩ := hv.len
  have HU := Lib.hid hu
  have HV := Lib.hid hv
  clear hu hv
  by_cases hl : a.length = b.length
  · have HLB := Lib.hid hl
    rw [← hl] at hb1 HV ⊢
    clear hl
    go_enter Try.func20, Try.ntmps20
    go_wp2_with fail
    go_loopw [5, 13] (fun _ i wr => ∃ k : Nat, i = .int .i64 k ∧ k ≤ a.length ∧ Hid (a.take k = b.take k) ∧ Hid (Below w.heap.size w wr)) (fun _ i _ => a.length - (intOf i).toNat)
    case atStart => exact ⟨0, rfl, by omega, rfl, Below.refl _ _⟩
    case round =>
      obtain ⟨k, rfl, hk, hst, hb⟩ := hrel
      by_cases hlt : k < a.length
      · obtain ⟨p, hpk⟩ : ∃ p, a[k]? = some p := ⟨a[k], List.getElem?_eq_getElem hlt⟩
        obtain ⟨q, hqk⟩ : ∃ q, b[k]? = some q := ⟨b[k]'(by rw [← HLB.out]; exact hlt), List.getElem?_eq_getElem (by rw [← HLB.out]; exact hlt)⟩
        obtain ⟨b2, off2, e2, hB2, d0, d1⟩ := PsIn.at2 (HU.out.below hb.out) hpk
        obtain ⟨b3, off3, e3, hB3, f0, f1⟩ := PsIn.at2 (HV.out.below hb.out) hqk
        subst e2 e3
        have hd : Hid (∀ n, Below w.heap.size w (wr.drewN n)) := fun n => hb.out.trans ⟨rfl, rfl, rfl, Nat.le_refl _, fun _ _ => rfl⟩
        have HP := Lib.hid hpk
        have HQ := Lib.hid hqk
        clear hpk hqk
        have hne := neq_pp p q
        have hgd := guard_pp
        obtain ⟨s, hs⟩ : ∃ s, eqPp p q = s := ⟨_, rfl⟩
        rw [hs] at hne
        have HS : Hid (s = true ↔ p = q) := by rw [← hs]; exact eqPp_iff p q
        clear hs
        cases s
        · have hno : Hid (a ≠ b) := fun e => by
            have h1 := HP.out
            rw [e, HQ.out] at h1
            injection h1 with h1
            exact absurd (HS.out.2 h1.symm) (by simp)
          go_wp2_with fail
          go_quiet (fail)
          all_goals go_wp2_with fail
          all_goals go_ret
          exact ⟨false, rfl, ⟨(fun h => by cases h), fun h => absurd h hno.out⟩, hd.out _⟩
        · have hst2 : Hid (a.take (k + 1) = b.take (k + 1)) := by
            obtain ⟨h1, rfl⟩ := List.getElem?_eq_some_iff.1 HP.out
            obtain ⟨h2, h3⟩ := List.getElem?_eq_some_iff.1 HQ.out
            unfold Hid
            rw [List.take_succ_eq_append_getElem h1, List.take_succ_eq_append_getElem h2, hst.out, h3, HS.out.1 rfl]
          go_wp2_with fail
          go_quiet (fail)
          all_goals go_wp2_with fail
          all_goals go_roundw
          case rel => exact ⟨k + 1, by go_num, by omega, hst2, hd.out _⟩
          case measure => simp [intOf]; omega
      · have he : Hid (a = b) := by
          have := hst.out
          rwa [List.take_of_length_le (by omega), List.take_of_length_le (by rw [← HLB.out]; omega)] at this
        go_wp2_with fail
        go_ret
        exact ⟨true, rfl, ⟨fun _ => he.out, fun _ => rfl⟩, hb.out⟩
  · have hl' : (a.length : Int) ≠ b.length := by omega
    go_enter Try.func20, Try.ntmps20
    go_wp2_with fail
    go_ret
    exact ⟨false, rfl, ⟨(fun h => by cases h), fun h => absurd (congrArg List.length h) hl⟩, Below.refl _ _⟩

/-! ### Kids -/

theorem part_key (p : Kd) (w : World) : (part 9 (kkC p).toArray 0).run Try.prog w = .ok (.string ⟨p.1.toArray⟩) w := by
  simp [part, isAgg, run_underlying Try.underlying9, kkC]
theorem part_id (p : Kd) (w : World) : (part 28 (kkC p).toArray 1).run Try.prog w = .ok (idV p.2.1) w := by
  have hs : (Try.prog.info? 28).map (·.size) = some 33 := cells_id
  have hl : (vb p.2.1).length = 33 := by rw [vb_length, p.2.2]
  have ht : List.take 33 (vb p.2.1) = vb p.2.1 := List.take_of_length_le (by omega)
  cases hq : Try.prog.info? 28 with
  | none => simp [hq] at hs
  | some i =>
    have hs2 : i.size = 33 := by simpa [hq] using hs
    simp [part, isAgg, run_underlying Try.underlying28, sizeOf, typeInfo, hq, hs2, kkC, ht, idV]

theorem fields_kk : (Try.prog.fieldsOf 48).toList.map (fun f => (f.name == "_", f.type, f.offset)) = [(false, 9, 0), (false, 28, 1)] := by kernel_rfl
theorem equal_id_at (d : Nat) (x y : List UInt8) (hx : x.length = 33) (hy : y.length = 33) (w : World) : (Op.equalIn (d + 4) 28 (idV x) (idV y)).run Try.prog w = .ok (x == y) w := by
  unfold idV
  rw [run_equalIn_struct w (d + 3) 28 _ _ (by kernel_rfl) (by kernel_rfl)]
  have hf := fields_id
  generalize (Try.prog.fieldsOf 28).toList = fs at hf
  obtain ⟨f, g, rfl⟩ : ∃ f g, fs = [f, g] := by
    have hl : fs.length = 2 := by simpa using congrArg List.length hf
    match fs, hl with
    | [f, g], _ => exact ⟨f, g, rfl⟩
  simp only [List.map_cons, List.map_nil, List.cons.injEq, Prod.mk.injEq, and_true, beq_eq_false_iff_ne] at hf
  obtain ⟨⟨f1, f2, f3⟩, g1, g2, g3⟩ := hf
  have e := run_equalIn_int (P := Try.prog) w (d + 2) 5 .u8 _ ((x[0]).toNat : Int) ((y[0]).toNat : Int) Try.underlying5
  have e2 := equal_sum (d + 1) (x.drop 1) (y.drop 1) (by simp [hx]) (by simp [hy]) w
  have hb : (((x[0]).toNat : Int) == ((y[0]).toNat : Int)) = (x[0] == y[0]) := by
    rw [Bool.eq_iff_iff]
    simp only [beq_iff_eq, ← UInt8.toNat_inj]
    omega
  have hxy : (x == y) = (x[0] == y[0] && x.drop 1 == y.drop 1) := by
    obtain ⟨a, x, rfl⟩ := List.exists_cons_of_length_pos (l := x) (by omega)
    obtain ⟨b, y, rfl⟩ := List.exists_cons_of_length_pos (l := y) (by omega)
    rfl
  rw [hb] at e
  rw [hxy]
  simp only [Op.eqFields, f1, f2, f3, g1, g2, g3, ne_eq, not_false_eq_true, if_true, Sem.run_bind, ipart_byte x 0 (by omega), ipart_byte y 0 (by omega), Result.andThen_ok, e]
  cases x[0] == y[0]
  · simp
  · simp only [Bool.not_true, Bool.false_eq_true, if_false, Sem.run_bind, part_sum x hx, part_sum y hy, Result.andThen_ok, e2]
    cases x.drop 1 == y.drop 1 <;> simp

theorem equal_kk (p q : Kd) (w : World) : (Op.equalIn 10000 48 (.agg (kkC p).toArray) (.agg (kkC q).toArray)).run Try.prog w = .ok (p.1 == q.1 && p.2.1 == q.2.1) w := by
  rw [run_equalIn_struct w 9999 48 _ _ (by kernel_rfl) (by kernel_rfl)]
  have hf := fields_kk
  generalize (Try.prog.fieldsOf 48).toList = fs at hf
  obtain ⟨f, g, rfl⟩ : ∃ f g, fs = [f, g] := by
    have hl : fs.length = 2 := by simpa using congrArg List.length hf
    match fs, hl with
    | [f, g], _ => exact ⟨f, g, rfl⟩
  simp only [List.map_cons, List.map_nil, List.cons.injEq, Prod.mk.injEq, and_true, beq_eq_false_iff_ne] at hf
  obtain ⟨⟨f1, f2, f3⟩, g1, g2, g3⟩ := hf
  have e := run_equalIn_string (P := Try.prog) w 9998 9 (⟨p.1.toArray⟩ : ByteArray) ⟨q.1.toArray⟩ Try.underlying9
  have e2 := equal_id_at 9995 p.2.1 q.2.1 p.2.2 q.2.2 w
  have hb : ((⟨p.1.toArray⟩ : ByteArray).toList == (⟨q.1.toArray⟩ : ByteArray).toList) = (p.1 == q.1) := by
    by_cases h : p.1 = q.1
    · simp [h]
    · simp [h, go_sem]
  rw [hb] at e
  simp only [Op.eqFields, f1, f2, f3, g1, g2, g3, ne_eq, not_false_eq_true, if_true, Sem.run_bind, part_key, Result.andThen_ok, e]
  cases p.1 == q.1
  · simp
  · simp only [Bool.not_true, Bool.false_eq_true, if_false, Sem.run_bind, part_id, Result.andThen_ok, e2]
    cases p.2.1 == q.2.1 <;> simp
def eqKk (p q : Kd) : Bool := p.1 == q.1 && p.2.1 == q.2.1
theorem eqKk_iff (p q : Kd) : eqKk p q = true ↔ p = q := by
  unfold eqKk
  rw [Bool.and_eq_true, beq_iff_eq, beq_iff_eq]
  exact ⟨fun h => Prod.ext h.1 (Subtype.ext h.2), fun h => by rw [h]; exact ⟨rfl, rfl⟩⟩
theorem eqGuard_kk (op : BinOp) (p q : Operand) (x y : Kd) (w : World) : (eqGuard op 48 p q (.agg (kkC x).toArray) (.agg (kkC y).toArray)).run Try.prog w = .ok () w := run_eqGuard_agg w op _ p q _ _ (by kernel_rfl)
theorem neq_kk (p q : Kd) (w : World) : (binOp .neq 48 (.agg (kkC p).toArray) (.agg (kkC q).toArray)).run Try.prog w = .ok (.bool (!eqKk p q)) w := by
  rw [run_neq_struct, equal_kk]
  rfl

end Go.Proofs.Ytflgokbkkoobkaa.Cd

/-
  The document's Tree: a tree's bytes. Conditions: not too many bytes.
-/
namespace Go.Proofs.Ytflgokbkkoobkaa.Cd
open Go.RowKit

theorem rtxt_any (s : List UInt8) (w : World) (hs : s.length ≤ 100000000) : Calls Try.prog 21 #[.string ⟨s.toArray⟩] w (Gives (.string ⟨(txt s).toArray⟩) w) := by
  have := ref_text_any ⟨s.toArray⟩ w (by have : (ByteArray.mk s.toArray).size = s.length := rfl; omega)
  exact this

set_option maxRecDepth 100000 in
set_option maxHeartbeats 6400000 in
theorem rtree_any (v : Value) (t : Tre) (w : World) (h : TreIn w w.heap.size v t) (hl1 : (psB t.ps).length ≤ 100000000) (hl2 : (ksB t.ks).length ≤ 100000000) : Calls Try.prog 11 #[v] w (Gives (.string ⟨(treeB t).toArray⟩) w) := by
  obtain ⟨ps, ks⟩ := t
  obtain ⟨vp, vk, rfl, h1, h2⟩ := h
  have h1 : PsIn w w.heap.size vp ps := h1
  have h2 : KsIn w w.heap.size vk ks := h2
  simp only at hl1 hl2
  obtain ⟨A1, c1, e1, k1, l1⟩ := h1.len
  obtain ⟨A2, c2, e2, k2, l2⟩ := h2.len
  have H1 := Lib.hid h1
  have H2 := Lib.hid h2
  clear h1 h2
  subst e1 e2
  have hb1 : Below w.heap.size w (w.alloc (.cells #[.slice A1 ps.length c1, .slice A2 ks.length c2] 25)) := new_below _ _
  have HTR : Hid ((w.alloc (.cells #[.slice A1 ps.length c1, .slice A2 ks.length c2] 25)).heap[w.heap.size]? = some (.cells #[.slice A1 ps.length c1, .slice A2 ks.length c2] 25)) := heap_alloc_new _ _
  have HB1 := Lib.hid hb1
  have hzz : (w.alloc (.cells #[.slice A1 ps.length c1, .slice A2 ks.length c2] 25)).heap.size = w.heap.size + 1 := asz _ _
  clear hb1
  by_cases hk : ks.length = 0
  · have hks : ks = [] := List.eq_nil_of_length_eq_zero hk
    have HT : Hid (treeB ⟨ps, ks⟩ = 1 :: UInt8.ofNat ps.length :: psB ps) := if_pos hks
    have hkq : ((ks.length : Int) == 0) = true := by rw [hk]; rfl
    have hl := hl1
    have hwl := wrap_len ps.length
    generalize UInt8.ofNat ps.length = n8 at *
    clear hk hks hl1 hl2
    have hcv := run_text_of _ _ _ _ (own_two (w.alloc (.cells #[.slice A1 ps.length c1, .slice A2 ks.length c2] 25)) 0 (Nat.zero_le _) 1 n8 1 n8.toNat rfl rfl).sl
    rw [hzz] at hcv
    have HB0 : Hid (Below w.heap.size w ((w.alloc (.cells #[.slice A1 ps.length c1, .slice A2 ks.length c2] 25)).alloc (.cells #[.int .u8 1, .int .u8 n8.toNat] 5))) := HB1.out.alloc (by omega) _
    have d0 : ((w.alloc (.cells #[.slice A1 ps.length c1, .slice A2 ks.length c2] 25)).alloc (.cells #[.int .u8 1, .int .u8 n8.toNat] 5)).cell? ⟨w.heap.size, 0, none⟩ = some (.slice A1 ps.length c1) := cell_kept (new_below _ _) (cell_of_row _ _ 0 _ _ _ HTR.out)
    clear HTR
    go_enter Try.func11, Try.ntmps11
    go_wp2_with fail
    generalize (w.alloc (.cells #[.slice A1 ps.length c1, .slice A2 ks.length c2] 25)).alloc (.cells #[.int .u8 1, .int .u8 n8.toNat] 5) = w0 at *
    clear hcv d0
    go_loopw [3, 22] (fun u i wr => ∃ k : Nat, i = .int .i64 k ∧ k ≤ ps.length ∧ u = .string ⟨(1 :: n8 :: psB (ps.take k)).toArray⟩ ∧ Hid (Below w.heap.size w wr)) (fun _ i _ => ps.length - (intOf i).toNat)
    case atStart => exact ⟨0, rfl, by omega, rfl, HB0.out⟩
    case round =>
      clear HB0
      obtain ⟨k, rfl, hk, rfl, hbl⟩ := hrel
      by_cases hlt : k < ps.length
      · obtain ⟨x, hxk⟩ : ∃ x, ps[k]? = some x := ⟨ps[k], List.getElem?_eq_getElem hlt⟩
        obtain ⟨b2, off2, e2, hB2, d0, d1⟩ := PsIn.at2 (H1.out.below hbl.out) hxk
        subst e2
        have hnx := psB_take hxk
        have hlk1 := psB_len hl (k := k + 1)
        rw [hnx] at hlk1
        have HNX := Lib.hid hnx
        clear hnx hxk
        generalize psB (ps.take k) = R at *
        have hlk : R.length + ((enc x.1.length).length + x.1.length + ((enc x.2.length).length + x.2.length)) ≤ 100000000 := by simpa [txt_len] using hlk1
        clear hlk1
        have HP : Hid (PairAt (wr.alloc (.cells #[.string ⟨x.1.toArray⟩, .string ⟨x.2.toArray⟩] 43)) wr.heap.size x) := heap_alloc_new _ _
        have hz1 : (wr.alloc (.cells #[.string ⟨x.1.toArray⟩, .string ⟨x.2.toArray⟩] 43)).heap.size = wr.heap.size + 1 := asz _ _
        have HB1 : Hid (Below w.heap.size w (wr.alloc (.cells #[.string ⟨x.1.toArray⟩, .string ⟨x.2.toArray⟩] 43))) := hbl.out.alloc hbl.out.size _
        have hzr := hbl.out.size
        have HX1 := Lib.hid (fun W => rtxt_any x.1 W (by omega))
        have HX2 := Lib.hid (fun W => rtxt_any x.2 W (by omega))
        have hT1 := txt_len x.1
        have hT2 : (txt x.2).length ≤ (enc x.2.length).length + x.2.length := Nat.le_of_eq (txt_len x.2)
        generalize txt x.1 = T1 at *
        generalize txt x.2 = T2 at *
        obtain ⟨L0, hL0⟩ : ∃ L, (1 :: n8 :: R : List UInt8) = L := ⟨_, rfl⟩
        have hL0l : L0.length = R.length + 2 := by rw [← hL0]; rfl
        obtain ⟨L1, hL1⟩ : ∃ L, L0 ++ T1 = L := ⟨_, rfl⟩
        have hL1l : L1.length = L0.length + T1.length := by rw [← hL1, List.length_append]
        obtain ⟨L2, hL2⟩ : ∃ L, L1 ++ T2 = L := ⟨_, rfl⟩
        have hadd1 := fun W => add_text W L0 T1 (by omega)
        have hadd2 := fun W => add_text W L1 T2 (by omega)
        rw [hL1] at hadd1
        rw [hL2] at hadd2
        have HL0 := Lib.hid hL0
        have HL1 := Lib.hid hL1
        have HL2 := Lib.hid hL2
        rw [hL0]
        clear hL0 hL1 hL2 hL0l hL1l hT1 hT2 hlk
        go_wp2_with fail
        generalize wr.alloc (.cells #[.string ⟨x.1.toArray⟩, .string ⟨x.2.toArray⟩] 43) = W1 at *
        obtain ⟨W0, hW0⟩ : ∃ x, W1.drew = x := ⟨_, rfl⟩
        have hS0 : PairAt W0 wr.heap.size x := by rw [← hW0]; exact HP.out
        have HBD : Hid (Below w.heap.size w W0) := by rw [← hW0]; exact HB1.out.drew
        have hs0 : W0.heap.size = wr.heap.size + 1 := by rw [← hW0]; exact hz1
        clear HP HB1 hz1
        refine region_begin hW0 (S := fun W => PairAt W wr.heap.size x) (by kernel_rfl) hS0 (fun hHeld => ?_)
        clear hW0 hS0
        refine take_at (i := 0) (.string ⟨L0.toArray⟩) (some 26) (by decide) (by rfl) (by kernel_rfl) (by kernel_rfl) (by kernel_rfl) (fun _ _ _ h => h) (by rfl) (fun W hW => by go_simp) (by assumption) ?_
        try simp only [Act.put, List.setIfInBounds_toArray, List.set_cons_zero, List.set_cons_succ]
        refine take_at (i := 1) (.pointer (some ⟨wr.heap.size, 0, none⟩)) (some 27) (by decide) (by rfl) (by kernel_rfl) (by kernel_rfl) (by kernel_rfl) (fun _ _ _ h => h) (by rfl) (fun W hW => by go_simp) (by assumption) ?_
        try simp only [Act.put, List.setIfInBounds_toArray, List.set_cons_zero, List.set_cons_succ]
        refine take_at (i := 2) (.string ⟨x.1.toArray⟩) (some 28) (by decide) (by rfl) (by kernel_rfl) (by kernel_rfl) (by kernel_rfl) (fun _ _ _ h => h) (by rfl) (fun W hW => by have := hW.key; go_simp) (by assumption) ?_
        try simp only [Act.put, List.setIfInBounds_toArray, List.set_cons_zero, List.set_cons_succ]
        refine take_at (i := 5) (.pointer (some ⟨wr.heap.size, 1, none⟩)) (some 31) (by decide) (by rfl) (by kernel_rfl) (by kernel_rfl) (by kernel_rfl) (fun _ _ _ h => h) (by rfl) (fun W hW => by go_simp) (by assumption) ?_
        try simp only [Act.put, List.setIfInBounds_toArray, List.set_cons_zero, List.set_cons_succ]
        refine take_at (i := 6) (.string ⟨x.2.toArray⟩) (some 32) (by decide) (by rfl) (by kernel_rfl) (by kernel_rfl) (by kernel_rfl) (fun _ _ _ h => h) (by rfl) (fun W hW => by have := hW.val; go_simp) (by assumption) ?_
        try simp only [Act.put, List.setIfInBounds_toArray, List.set_cons_zero, List.set_cons_succ]
        refine wpAnyH_ready (rs := [3]) (by kernel_rfl) (by simp) (AllReadyH.cons (Array.getElem?_eq_getElem (i := 3) (by decide)) (fun K9 hK => ?_) AllReadyH.nil)
        go_simp
        refine (HX1.out _).mono ?_
        rintro e w3 ⟨rfl, hb3⟩
        have HB3 := Lib.hid (HBD.out.trans (hb3.mono (by omega)))
        have hs3 := hb3.size
        refine hK.out _ _ (hb3.block _ (by omega) |>.trans hHeld) (fun hHeld => ?_)
        clear hK K9
        try simp only [Act.put, List.setIfInBounds_toArray, List.set_cons_zero, List.set_cons_succ]
        clear hb3
        refine take_at (i := 4) (.string ⟨L1.toArray⟩) (some 30) (by decide) (by rfl) (by kernel_rfl) (by kernel_rfl) (by kernel_rfl) (fun _ _ _ h => h) (by rfl) (fun W hW => by go_simp) (by assumption) ?_
        try simp only [Act.put, List.setIfInBounds_toArray, List.set_cons_zero, List.set_cons_succ]
        refine wpAnyH_ready (rs := [7]) (by kernel_rfl) (by simp) (AllReadyH.cons (Array.getElem?_eq_getElem (i := 7) (by decide)) (fun K9 hK => ?_) AllReadyH.nil)
        go_simp
        refine (HX2.out _).mono ?_
        rintro e w4 ⟨rfl, hb4⟩
        have HB4 := Lib.hid (HB3.out.trans (hb4.mono (by omega)))
        refine hK.out _ _ (hb4.block _ (by omega) |>.trans hHeld) (fun hHeld => ?_)
        clear hK K9
        try simp only [Act.put, List.setIfInBounds_toArray, List.set_cons_zero, List.set_cons_succ]
        clear hb4
        refine take_at (i := 8) (.string ⟨L2.toArray⟩) (some 34) (by decide) (by rfl) (by kernel_rfl) (by kernel_rfl) (by kernel_rfl) (fun _ _ _ h => h) (by rfl) (fun W hW => by go_simp) (by assumption) ?_
        try simp only [Act.put, List.setIfInBounds_toArray, List.set_cons_zero, List.set_cons_succ]
        refine take_at (i := 9) (.string ⟨L2.toArray⟩) (some 3) (by decide) (by rfl) (by kernel_rfl) (by kernel_rfl) (by kernel_rfl) (fun _ _ _ h => h) (by rfl) (fun W hW => by go_simp) (by assumption) ?_
        try simp only [Act.put, List.setIfInBounds_toArray, List.set_cons_zero, List.set_cons_succ]
        refine wpAnyH_done (by kernel_rfl) ?_ _
        try simp only [Act.put, List.setIfInBounds_toArray, List.set_cons_zero, List.set_cons_succ]
        go_wp2_with fail
        go_roundw
        case rel => exact ⟨k + 1, by go_num, by omega, by rw [HNX.out]; show Value.string ⟨L2.toArray⟩ = _; rw [← HL2.out, ← HL1.out, ← HL0.out]; simp, HB4.out⟩
        case measure => simp [intOf]; omega
      · have hkk : k = ps.length := by omega
        subst hkk
        rw [List.take_length]
        go_wp2_with fail
        go_ret
        exact ⟨by rw [HT.out]; rfl, hbl.out⟩
  · have hks : ks ≠ [] := fun e => hk (by rw [e]; rfl)
    have HT : Hid (treeB ⟨ps, ks⟩ = 2 :: UInt8.ofNat ks.length :: ksB ks) := if_neg hks
    have hkq : ((ks.length : Int) == 0) = false := by rw [beq_eq_false_iff_ne]; omega
    have hl := hl2
    have hwl := wrap_len ks.length
    generalize UInt8.ofNat ks.length = n8 at *
    clear hk hks hl1 hl2
    have hcv := run_text_of _ _ _ _ (own_two (w.alloc (.cells #[.slice A1 ps.length c1, .slice A2 ks.length c2] 25)) 0 (Nat.zero_le _) 2 n8 2 n8.toNat rfl rfl).sl
    rw [hzz] at hcv
    have HB0 : Hid (Below w.heap.size w ((w.alloc (.cells #[.slice A1 ps.length c1, .slice A2 ks.length c2] 25)).alloc (.cells #[.int .u8 2, .int .u8 n8.toNat] 5))) := HB1.out.alloc (by omega) _
    have d0 : ((w.alloc (.cells #[.slice A1 ps.length c1, .slice A2 ks.length c2] 25)).alloc (.cells #[.int .u8 2, .int .u8 n8.toNat] 5)).cell? ⟨w.heap.size, 1, none⟩ = some (.slice A2 ks.length c2) := cell_kept (new_below _ _) (cell_of_row _ _ 1 _ _ _ HTR.out)
    clear HTR
    go_enter Try.func11, Try.ntmps11
    go_wp2_with fail
    generalize (w.alloc (.cells #[.slice A1 ps.length c1, .slice A2 ks.length c2] 25)).alloc (.cells #[.int .u8 2, .int .u8 n8.toNat] 5) = w0 at *
    clear hcv d0
    go_loopw [6, 46] (fun u i wr => ∃ k : Nat, i = .int .i64 k ∧ k ≤ ks.length ∧ u = .string ⟨(2 :: n8 :: ksB (ks.take k)).toArray⟩ ∧ Hid (Below w.heap.size w wr)) (fun _ i _ => ks.length - (intOf i).toNat)
    case atStart => exact ⟨0, rfl, by omega, rfl, HB0.out⟩
    case round =>
      clear HB0
      obtain ⟨k, rfl, hk, rfl, hbl⟩ := hrel
      by_cases hlt : k < ks.length
      · obtain ⟨x, hxk⟩ : ∃ x, ks[k]? = some x := ⟨ks[k], List.getElem?_eq_getElem hlt⟩
        obtain ⟨b2, off2, e2, hB2, rx⟩ := KsIn.range (H2.out.below hbl.out) hxk
        subst e2
        have RX := Lib.hid rx
        clear rx
        have hnx := ksB_take hxk
        have hlk1 := ksB_len hl (k := k + 1)
        rw [hnx] at hlk1
        have HNX := Lib.hid hnx
        clear hnx hxk
        generalize ksB (ks.take k) = R at *
        have hlk : R.length + ((enc x.1.length).length + x.1.length + (textI x.2.1).length) ≤ 100000000 := by simpa [txt_len] using hlk1
        clear hlk1
        have HP : Hid (KidAt (wr.alloc (.cells (kkC x).toArray 48)) wr.heap.size x) := KidAt.new _ _
        have hz1 : (wr.alloc (.cells (kkC x).toArray 48)).heap.size = wr.heap.size + 1 := asz _ _
        have HB1 : Hid (Below w.heap.size w (wr.alloc (.cells (kkC x).toArray 48))) := hbl.out.alloc hbl.out.size _
        have hzr := hbl.out.size
        have HX1 := Lib.hid (fun W => rtxt_any x.1 W (by omega))
        have HX2 := Lib.hid (fun W => name_l x.2.1 W x.2.2)
        have hT1 := txt_len x.1
        have hT2 : (textI x.2.1).length ≤ 33 := textI_len _
        generalize txt x.1 = T1 at *
        generalize textI x.2.1 = T2 at *
        obtain ⟨L0, hL0⟩ : ∃ L, (2 :: n8 :: R : List UInt8) = L := ⟨_, rfl⟩
        have hL0l : L0.length = R.length + 2 := by rw [← hL0]; rfl
        obtain ⟨L1, hL1⟩ : ∃ L, L0 ++ T1 = L := ⟨_, rfl⟩
        have hL1l : L1.length = L0.length + T1.length := by rw [← hL1, List.length_append]
        obtain ⟨L2, hL2⟩ : ∃ L, L1 ++ T2 = L := ⟨_, rfl⟩
        have hadd1 := fun W => add_text W L0 T1 (by omega)
        have hadd2 := fun W => add_text W L1 T2 (by omega)
        rw [hL1] at hadd1
        rw [hL2] at hadd2
        have HL0 := Lib.hid hL0
        have HL1 := Lib.hid hL1
        have HL2 := Lib.hid hL2
        rw [hL0]
        clear hL0 hL1 hL2 hL0l hL1l hT1 hT2 hlk
        go_wp2_with (first
          | (refine wpList_load_mid rfl 48 _ rfl b2 (off2 + k * 34) rfl (kkC x) _ RX.out Try.underlying48 rfl (cells_kk x) ?_)
          | (refine wp_alloc_row zero_kk rfl rfl ?_)
          | (refine wp_fill_kk rfl _ _ rfl rfl (by simp [Act.eval, Act.put]) x rfl ?_))
        generalize wr.alloc (.cells (kkC x).toArray 48) = W1 at *
        obtain ⟨W0, hW0⟩ : ∃ x, W1.drew = x := ⟨_, rfl⟩
        have hS0 : KidAt W0 wr.heap.size x := by rw [← hW0]; exact HP.out
        have HBD : Hid (Below w.heap.size w W0) := by rw [← hW0]; exact HB1.out.drew
        have hs0 : W0.heap.size = wr.heap.size + 1 := by rw [← hW0]; exact hz1
        clear HP HB1 hz1
        refine region_begin hW0 (S := fun W => KidAt W wr.heap.size x) (by kernel_rfl) hS0 (fun hHeld => ?_)
        clear hW0 hS0
        refine take_at (i := 0) (.string ⟨L0.toArray⟩) (some 50) (by decide) (by rfl) (by kernel_rfl) (by kernel_rfl) (by kernel_rfl) (fun _ _ _ h => h) (by rfl) (fun W hW => by go_simp) (by assumption) ?_
        try simp only [Act.put, List.setIfInBounds_toArray, List.set_cons_zero, List.set_cons_succ]
        refine take_at (i := 1) (.pointer (some ⟨wr.heap.size, 0, none⟩)) (some 51) (by decide) (by rfl) (by kernel_rfl) (by kernel_rfl) (by kernel_rfl) (fun _ _ _ h => h) (by rfl) (fun W hW => by go_simp) (by assumption) ?_
        try simp only [Act.put, List.setIfInBounds_toArray, List.set_cons_zero, List.set_cons_succ]
        refine take_at (i := 2) (.string ⟨x.1.toArray⟩) (some 52) (by decide) (by rfl) (by kernel_rfl) (by kernel_rfl) (by kernel_rfl) (fun _ _ _ h => h) (by rfl) (fun W hW => by have := hW.key; go_simp) (by assumption) ?_
        try simp only [Act.put, List.setIfInBounds_toArray, List.set_cons_zero, List.set_cons_succ]
        refine take_at (i := 5) (.pointer (some ⟨wr.heap.size, 1, none⟩)) (some 55) (by decide) (by rfl) (by kernel_rfl) (by kernel_rfl) (by kernel_rfl) (fun _ _ _ h => h) (by rfl) (fun W hW => by go_simp) (by assumption) ?_
        try simp only [Act.put, List.setIfInBounds_toArray, List.set_cons_zero, List.set_cons_succ]
        refine take_at (i := 6) (idV x.2.1) (some 56) (by decide) (by rfl) (by kernel_rfl) (by kernel_rfl) (by kernel_rfl) (fun _ _ _ h => h) (by rfl) (fun W hW => by exact exec_load_mid _ _ rfl wr.heap.size 1 rfl (vb x.2.1) _ hW.id Try.underlying28 rfl (cells_ii x.2)) (by assumption) ?_
        try simp only [Act.put, List.setIfInBounds_toArray, List.set_cons_zero, List.set_cons_succ]
        refine wpAnyH_ready (rs := [3]) (by kernel_rfl) (by simp) (AllReadyH.cons (Array.getElem?_eq_getElem (i := 3) (by decide)) (fun K9 hK => ?_) AllReadyH.nil)
        go_simp
        refine (HX1.out _).mono ?_
        rintro e w3 ⟨rfl, hb3⟩
        have HB3 := Lib.hid (HBD.out.trans (hb3.mono (by omega)))
        have hs3 := hb3.size
        refine hK.out _ _ (hb3.block _ (by omega) |>.trans hHeld) (fun hHeld => ?_)
        clear hK K9
        try simp only [Act.put, List.setIfInBounds_toArray, List.set_cons_zero, List.set_cons_succ]
        clear hb3
        refine take_at (i := 4) (.string ⟨L1.toArray⟩) (some 54) (by decide) (by rfl) (by kernel_rfl) (by kernel_rfl) (by kernel_rfl) (fun _ _ _ h => h) (by rfl) (fun W hW => by go_simp) (by assumption) ?_
        try simp only [Act.put, List.setIfInBounds_toArray, List.set_cons_zero, List.set_cons_succ]
        refine wpAnyH_ready (rs := [7]) (by kernel_rfl) (by simp) (AllReadyH.cons (Array.getElem?_eq_getElem (i := 7) (by decide)) (fun K9 hK => ?_) AllReadyH.nil)
        go_simp
        refine (HX2.out _).mono ?_
        rintro e w4 ⟨rfl, hb4⟩
        have HB4 := Lib.hid (HB3.out.trans (hb4.mono (by omega)))
        refine hK.out _ _ (hb4.block _ (by omega) |>.trans hHeld) (fun hHeld => ?_)
        clear hK K9
        try simp only [Act.put, List.setIfInBounds_toArray, List.set_cons_zero, List.set_cons_succ]
        clear hb4
        refine take_at (i := 8) (.string ⟨L2.toArray⟩) (some 58) (by decide) (by rfl) (by kernel_rfl) (by kernel_rfl) (by kernel_rfl) (fun _ _ _ h => h) (by rfl) (fun W hW => by go_simp) (by assumption) ?_
        try simp only [Act.put, List.setIfInBounds_toArray, List.set_cons_zero, List.set_cons_succ]
        refine take_at (i := 9) (.string ⟨L2.toArray⟩) (some 6) (by decide) (by rfl) (by kernel_rfl) (by kernel_rfl) (by kernel_rfl) (fun _ _ _ h => h) (by rfl) (fun W hW => by go_simp) (by assumption) ?_
        try simp only [Act.put, List.setIfInBounds_toArray, List.set_cons_zero, List.set_cons_succ]
        refine wpAnyH_done (by kernel_rfl) ?_ _
        try simp only [Act.put, List.setIfInBounds_toArray, List.set_cons_zero, List.set_cons_succ]
        go_wp2_with fail
        go_roundw
        case rel => exact ⟨k + 1, by go_num, by omega, by rw [HNX.out]; show Value.string ⟨L2.toArray⟩ = _; rw [← HL2.out, ← HL1.out, ← HL0.out]; simp, HB4.out⟩
        case measure => simp [intOf]; omega
      · have hkk : k = ks.length := by omega
        subst hkk
        rw [List.take_length]
        go_wp2_with fail
        go_ret
        exact ⟨by rw [HT.out]; rfl, hbl.out⟩

end Go.Proofs.Ytflgokbkkoobkaa.Cd
