/-
  place: where a key's write stands in a list, or would. Conditions: the list's keys rise; strings.Compare's contract is handed in.
-/
import Derived.Test.YtlchmkpnehbnlaaGreatDoorG12
import Derived.Sort.Walk0
import Derived.Maps.AppendAt
import Derived.Test.YtlchmkpnehbnlaaGreatDoorG3
import Derived.Lib.Hide
import Derived.BigQuiet
import Derived.Test.YtlchmkpnehbnlaaGreatDoorG1
/-
  The document's Put and Of: a table's writes by rising keys. Conditions: not too many.
-/
namespace Go.Proofs.YtlchmkpnehbnlaaGreatDoor.Cd
open Go.RowKit Go.Sort

section
variable {w w' : World} {B : Nat} {v : Value} {l : List Wr}
theorem wp_append_new {ops : Array Oper} {rest : List Oper} {o : Oper} {a : Act} {Q : Exit → Act → World → Prop} (hgd : o.guard = none) (s x : Operand)
    (hop : o.op = .call { callee := .builtin .append, args := #[s, x], argTypes := #[32, 32] }) (p : Wr)
    (hs : a.eval s = v) (ho : OwnTb w B v l) (hB : B ≤ w.heap.size) (hx : a.eval x = .slice (some ⟨w.heap.size, 0, none⟩) 1 1)
    (hm : l.length + 1 ≤ 1099511627776)
    (hK : ∀ v' w', OwnTb w' B v' (l ++ [p]) → Below B w w' → (∀ k, k < w.heap.size → some k ≠ v.ownBlock → w'.heap[k]? = w.heap[k]?) → w.heap.size ≤ w'.heap.size → wpList Tryz.prog ops Q rest (a.put o.dst v') w') : wpList Tryz.prog ops Q (o :: rest) a (w.alloc (.cells #[.string ⟨p.1.toArray⟩, .string ⟨p.2.1.toArray⟩, .bool p.2.2] 52)) := by
  have hb := (Below.refl w.heap.size w).alloc (Nat.le_refl _) (.cells #[.string ⟨p.1.toArray⟩, .string ⟨p.2.1.toArray⟩, .bool p.2.2] 52)
  refine wp_append_tbs hgd s x hop hs (ho.alloc _) (Nat.le_trans hB hb.size) _ _ [p] hx (tb_one w p _) hm fun v' w' h1 h2 h3 => hK v' w' h1 ((hb.mono hB).trans h2) (fun k hk hne => (h3.block k (Nat.lt_of_lt_of_le hk hb.size) hne).trans (hb.block k hk)) (Nat.le_trans hb.size h3.size)
end

end Go.Proofs.YtlchmkpnehbnlaaGreatDoor.Cd

/-
  The document's Of and Merge. Conditions: not too many.
-/
namespace Go.Proofs.YtlchmkpnehbnlaaGreatDoor.Cd
open Go.RowKit Go.Sort

end Go.Proofs.YtlchmkpnehbnlaaGreatDoor.Cd

/-
  The document's pairs behind a write, and behind writes. Conditions: not too many.
-/
namespace Go.Proofs.YtlchmkpnehbnlaaGreatDoor.Cd
open Go.RowKit Go.Sort

def stepD8 (w : Wr) (s : Prs × Bool) (x : List UInt8 × List UInt8) : Prs × Bool :=
  let s1 := if !s.2 && !decide (x.1 < w.1) then (s.1 ++ [(w.1, w.2.1)], true) else s
  if x.1 = w.1 then s1 else (s1.1 ++ [x], s1.2)
def runD (w : Wr) (l : Prs) : Prs × Bool := l.foldl (stepD8 w) ([], w.2.2)
theorem runD_true (w : Wr) (l : Prs) (acc : Prs) : l.foldl (stepD8 w) (acc, true) = (acc ++ l.filter (fun y => y.1 != w.1), true) := by
  induction l generalizing acc with
  | nil => simp
  | cons x r ih =>
    rw [List.foldl_cons]
    by_cases e : x.1 = w.1
    · have hb : (x.1 != w.1) = false := by simpa using e
      rw [show stepD8 w (acc, true) x = (acc, true) by simp [stepD8, e], ih, List.filter_cons, hb]
      simp
    · have hb : (x.1 != w.1) = true := by simpa using e
      rw [show stepD8 w (acc, true) x = (acc ++ [x], true) by simp [stepD8, e], ih, List.filter_cons, hb]
      simp
def finD8 (w : Wr) (s : Prs × Bool) : Prs := if s.2 then s.1 else s.1 ++ [(w.1, w.2.1)]
theorem runD_from (w : Wr) (l : Prs) (acc : Prs) : finD8 w (l.foldl (stepD8 w) (acc, false)) = acc ++ putQ l w.1 w.2.1 := by
  induction l generalizing acc with
  | nil => simp [putQ, finD8]
  | cons x r ih =>
    rw [List.foldl_cons]
    unfold putQ
    by_cases h : x.1 < w.1
    · have hne : x.1 ≠ w.1 := less_ne h
      rw [if_pos h, show stepD8 w (acc, false) x = (acc ++ [x], false) by simp [stepD8, h, hne], ih]
      simp
    · rw [if_neg h]
      by_cases e : x.1 = w.1
      · have hb : (x.1 != w.1) = false := by simpa using e
        rw [show stepD8 w (acc, false) x = (acc ++ [(w.1, w.2.1)], true) by simp [stepD8, e], runD_true, List.filter_cons, hb]
        simp [finD8]
      · have hb : (x.1 != w.1) = true := by simpa using e
        rw [show stepD8 w (acc, false) x = (acc ++ [(w.1, w.2.1)] ++ [x], true) by simp [stepD8, h, e], runD_true, List.filter_cons, hb]
        simp [finD8]
theorem runD_done (w : Wr) (l : Prs) : finD8 w (runD w l) = doneP l w := by
  unfold runD doneP
  cases hg : w.2.2
  · have := runD_from w l []
    simpa using this
  · rw [runD_true]
    simp [finD8]
theorem runD_take {w : Wr} {l : Prs} {k : Nat} {x : List UInt8 × List UInt8} (h : l[k]? = some x) : runD w (l.take (k + 1)) = stepD8 w (runD w (l.take k)) x := by
  obtain ⟨hk, rfl⟩ := List.getElem?_eq_some_iff.1 h
  unfold runD
  rw [List.take_succ_eq_append_getElem hk, List.foldl_append]
  rfl
theorem stepD8_len (w : Wr) (s : Prs × Bool) (x : List UInt8 × List UInt8) : (stepD8 w s x).1.length ≤ s.1.length + 2 := by
  unfold stepD8
  obtain ⟨a, b⟩ := s
  cases b <;> by_cases h1 : x.1 < w.1 <;> by_cases h2 : x.1 = w.1 <;> simp [h1, h2]
theorem runD_len (w : Wr) (l : Prs) : (runD w l).1.length ≤ l.length * 2 := by
  unfold runD
  have : ∀ (s : Prs × Bool), (l.foldl (stepD8 w) s).1.length ≤ s.1.length + l.length * 2 := by
    induction l with
    | nil => intro s; simp
    | cons x r ih =>
      intro s
      have h1 := ih (stepD8 w s x)
      have h2 := stepD8_len w s x
      simp only [List.foldl_cons, List.length_cons]
      omega
  have := this ([], w.2.2)
  simpa using this

section
variable {w w' : World} {B : Nat} {v : Value} {l : Prs}
theorem wp_append_newp {ops : Array Oper} {rest : List Oper} {o : Oper} {a : Act} {Q : Exit → Act → World → Prop} (hgd : o.guard = none) (s x : Operand)
    (hop : o.op = .call { callee := .builtin .append, args := #[s, x], argTypes := #[31, 31] }) (p : List UInt8 × List UInt8)
    (hs : a.eval s = v) (ho : OwnPr w B v l) (hB : B ≤ w.heap.size) (hx : a.eval x = .slice (some ⟨w.heap.size, 0, none⟩) 1 1)
    (hm : l.length + 1 ≤ 1099511627776)
    (hK : ∀ v' w', OwnPr w' B v' (l ++ [p]) → Below B w w' → (∀ k, k < w.heap.size → some k ≠ v.ownBlock → w'.heap[k]? = w.heap[k]?) → w.heap.size ≤ w'.heap.size → wpList Tryz.prog ops Q rest (a.put o.dst v') w') : wpList Tryz.prog ops Q (o :: rest) a (w.alloc (.cells #[.string ⟨p.1.toArray⟩, .string ⟨p.2.toArray⟩] 49)) := by
  have hb := (Below.refl w.heap.size w).alloc (Nat.le_refl _) (.cells #[.string ⟨p.1.toArray⟩, .string ⟨p.2.toArray⟩] 49)
  refine wp_append_prs hgd s x hop hs (ho.alloc _) (Nat.le_trans hB hb.size) _ _ [p] hx (pr_one w p _) hm fun v' w' h1 h2 h3 => hK v' w' h1 ((hb.mono hB).trans h2) (fun k hk hne => (h3.block k (Nat.lt_of_lt_of_le hk hb.size) hne).trans (hb.block k hk)) (Nat.le_trans hb.size h3.size)
end
theorem own_notp {w : World} {B : Nat} {v : Value} {l : Prs} (ho : OwnPr w B v l) {k : Nat} (hk : k < B ∨ w.heap.size ≤ k) : some k ≠ v.ownBlock := fun e => by
  have h1 := World.ownsRow.lt ho k e.symm
  omega

set_option maxRecDepth 100000 in
set_option maxHeartbeats 6400000 in
theorem rdone_any (v : Value) (l : Prs) (q : Wr) (w : World) (h : PrIn w w.heap.size v l) (hl : l.length ≤ 1073741824) :
    Calls Tryz.prog 30 #[v, .agg #[.string ⟨q.1.toArray⟩, .string ⟨q.2.1.toArray⟩, .bool q.2.2]] w fun e w' => ∃ v', e = .returned v' ∧ OwnPr w' w.heap.size v' (doneP l q) ∧ Below w.heap.size w w' := by
  obtain ⟨A, c, rfl, hm1, hm2⟩ := h.len
  have H := Lib.hid h
  clear h
  have hb1 : Below w.heap.size w (w.alloc (.cells #[.string ⟨q.1.toArray⟩, .string ⟨q.2.1.toArray⟩, .bool q.2.2] 52)) := (Below.refl _ _).alloc (Nat.le_refl _) _
  have hz1 : (w.alloc (.cells #[.string ⟨q.1.toArray⟩, .string ⟨q.2.1.toArray⟩, .bool q.2.2] 52)).heap.size = w.heap.size + 1 := by simp
  have hr1 : (w.alloc (.cells #[.string ⟨q.1.toArray⟩, .string ⟨q.2.1.toArray⟩, .bool q.2.2] 52)).heap[w.heap.size]? = some (.cells #[.string ⟨q.1.toArray⟩, .string ⟨q.2.1.toArray⟩, .bool q.2.2] 52) := heap_alloc_new _ _
  have HB1 := Lib.hid hb1
  have HR := Lib.hid hr1
  have HZ1 := Lib.hid hz1
  clear hb1 hr1 hz1
  go_enter Tryz.func30, Tryz.ntmps30
  go_wp2_with fail
  generalize w.alloc (.cells #[.string ⟨q.1.toArray⟩, .string ⟨q.2.1.toArray⟩, .bool q.2.2] 52) = W1 at *
  have hz0 : w.heap.size + 1 ≤ W1.heap.size := by have := HZ1.out; omega
  go_loopw [5, 6, 13] (fun o dn i wr => ∃ (k : Nat) (d : Bool), i = .int .i64 k ∧ k ≤ l.length ∧ dn = .bool d ∧ Hid ((runD q (l.take k)).2 = d) ∧ Hid (OwnPr wr (w.heap.size + 1) o (runD q (l.take k)).1) ∧ Hid (Below w.heap.size w wr) ∧ Hid (wr.heap[w.heap.size]? = some (.cells #[.string ⟨q.1.toArray⟩, .string ⟨q.2.1.toArray⟩, .bool q.2.2] 52)) ∧ w.heap.size + 1 ≤ wr.heap.size) (fun _ _ i _ => l.length - (intOf i).toNat)
  case atStart => exact ⟨0, q.2.2, rfl, by omega, rfl, rfl, OwnPr.nil _ _, HB1.out, HR.out, hz0⟩
  case round =>
    obtain ⟨k, d, rfl, hk, rfl, hd, ho, hbl, hrw, hsz⟩ := hrel
    have hro := hrw.out
    by_cases hlt : k < l.length
    · obtain ⟨x, hxk⟩ : ∃ x, l[k]? = some x := ⟨l[k], List.getElem?_eq_getElem hlt⟩
      obtain ⟨b2, off2, e2, hB2, d0, d1⟩ := (H.out.below hbl.out).at hxk
      subst e2
      have htk := Lib.hid (runD_take (w := q) hxk)
      have hln : (runD q (l.take k)).1.length ≤ 2147483648 := by have := runD_len q (l.take k); rw [List.length_take] at this; omega
      obtain ⟨out, hout⟩ : ∃ o, (runD q (l.take k)).1 = o := ⟨_, rfl⟩
      have hrun : Hid (runD q (l.take k) = (out, d)) := Prod.ext hout hd.out
      rw [hout] at ho hln
      clear hout hd hxk
      have hb3 : Below w.heap.size w (wr.alloc (.cells #[.string ⟨x.1.toArray⟩, .string ⟨x.2.toArray⟩] 49)) := hbl.out.trans (((Below.refl _ _).alloc (Nat.le_refl _) _).mono (by omega))
      have HB3 := Lib.hid hb3
      have hxr : ∀ o : Obj, (wr.alloc o).heap[wr.heap.size]? = some o := fun o => heap_alloc_new wr o
      have hqr : ∀ o : Obj, (wr.alloc o).heap[w.heap.size]? = some (.cells #[.string ⟨q.1.toArray⟩, .string ⟨q.2.1.toArray⟩, .bool q.2.2] 52) := fun o => (((Below.refl _ _).alloc (Nat.le_refl wr.heap.size) o).block _ (by omega)).trans hro
      have q0 : ∀ o : Obj, (wr.alloc o).cell? ⟨w.heap.size, 0, none⟩ = some (.string ⟨q.1.toArray⟩) := fun o => cell_of_row _ _ 0 _ _ _ (hqr o)
      have q1 : ∀ o : Obj, (wr.alloc o).cell? ⟨w.heap.size, 1, none⟩ = some (.string ⟨q.2.1.toArray⟩) := fun o => cell_of_row _ _ 1 _ _ _ (hqr o)
      have q2 : ∀ o : Obj, (wr.alloc o).cell? ⟨w.heap.size, 2, none⟩ = some (.bool q.2.2) := fun o => cell_of_row _ _ 2 _ _ _ (hqr o)
      have hoa : ∀ o : Obj, OwnPr (wr.alloc o) (w.heap.size + 1) u5 out := fun o => ho.out.alloc o
      have hza : ∀ o : Obj, (wr.alloc o).heap.size = wr.heap.size + 1 := fun o => by simp
      have HOA := Lib.hid hoa
      have HXR := Lib.hid hxr
      have HQR := Lib.hid hqr
      clear hb3 hxr hqr hro hoa
      have ho0 := ho.out
      clear ho
      have hbx : Op.bytesLess x.1 q.1 = decide (x.1 < q.1) := bytesLess_eq _ _
      by_cases heq : x.1 = q.1
      · have e2 : (x.1 == q.1) = true := by simpa using heq
        have hnl : ¬ x.1 < q.1 := by rw [heq]; exact less_irrefl _
        have e1 : Op.bytesLess x.1 q.1 = false := by rw [hbx]; simpa using hnl
        cases d
        · have hst : Hid (runD q (l.take (k + 1)) = (out ++ [(q.1, q.2.1)], true)) := by unfold Hid; rw [htk.out, hrun.out]; simp [stepD8, heq]
          clear hbx heq hnl htk hrun
          go_wp2_with (at_builtin; refine wp_append_newp rfl _ _ rfl (q.1, q.2.1) rfl (HOA.out _) (by rw [hza]; omega) (by rw [hza]; rfl) (by omega) ?_
                       intro v3 w3 ho3 hb3 hk3 hz3
                       have hx3 : w3.heap[wr.heap.size]? = some (.cells #[.string ⟨x.1.toArray⟩, .string ⟨x.2.toArray⟩] 49) := (hk3 _ (by rw [hza]; omega) (own_notp ho0 (.inr (Nat.le_refl _)))).trans (HXR.out _)
                       have hq3 : w3.heap[w.heap.size]? = some (.cells #[.string ⟨q.1.toArray⟩, .string ⟨q.2.1.toArray⟩, .bool q.2.2] 52) := (hk3 _ (by rw [hza]; omega) (own_notp ho0 (.inl (Nat.lt_succ_self _)))).trans (HQR.out _)
                       have x0 := cell_of_row _ _ 0 _ _ _ hx3
                       have x1 := cell_of_row _ _ 1 _ _ _ hx3
                       have y0 := cell_of_row _ _ 0 _ _ _ hq3
                       have hz4 : w.heap.size + 1 ≤ w3.heap.size := Nat.le_trans (by rw [hza]; omega) hz3
                       have HO3 := Lib.hid ho3
                       have HB3' := Lib.hid (HB3.out.trans (hb3.mono (by omega)))
                       have HQ3 := Lib.hid hq3
                       clear ho3 hb3 hk3 hx3 hq3 q0 q1 q2)
          go_roundw
          case rel => exact ⟨k + 1, true, by go_num, by omega, rfl, by unfold Hid; rw [hst.out], by unfold Hid; rw [hst.out]; exact HO3.out, HB3'.out, HQ3.out, hz4⟩
          case measure => simp [intOf]; omega
        · have hst : Hid (runD q (l.take (k + 1)) = (out, true)) := by unfold Hid; rw [htk.out, hrun.out]; simp [stepD8, heq]
          clear hbx heq hnl htk hrun e1
          go_wp2_with fail
          go_roundw
          case rel => exact ⟨k + 1, true, by go_num, by omega, rfl, by unfold Hid; rw [hst.out], by unfold Hid; rw [hst.out]; exact HOA.out _, HB3.out, HQR.out _, by rw [hza]; omega⟩
          case measure => simp [intOf]; omega
      · have e2 : (x.1 == q.1) = false := by simpa using heq
        cases d
        · by_cases hl2 : x.1 < q.1
          · have e1 : Op.bytesLess x.1 q.1 = true := by rw [hbx]; simpa using hl2
            have hst : Hid (runD q (l.take (k + 1)) = (out ++ [x], false)) := by unfold Hid; rw [htk.out, hrun.out]; simp [stepD8, hl2, heq]
            clear hbx heq hl2 htk hrun
            go_wp2_with (at_builtin; refine wp_append_newp rfl _ _ rfl x rfl (HOA.out _) (by rw [hza]; omega) (by rw [hza]; rfl) (by omega) ?_
                         intro v3 w3 ho3 hb3 hk3 hz3
                         have hq3 : w3.heap[w.heap.size]? = some (.cells #[.string ⟨q.1.toArray⟩, .string ⟨q.2.1.toArray⟩, .bool q.2.2] 52) := (hk3 _ (by rw [hza]; omega) (own_notp ho0 (.inl (Nat.lt_succ_self _)))).trans (HQR.out _)
                         have hz4 : w.heap.size + 1 ≤ w3.heap.size := Nat.le_trans (by rw [hza]; omega) hz3
                         have HO3 := Lib.hid ho3
                         have HB3' := Lib.hid (HB3.out.trans (hb3.mono (by omega)))
                         have HQ3 := Lib.hid hq3
                         clear ho3 hb3 hk3 hq3)
            go_roundw
            case rel => exact ⟨k + 1, false, by go_num, by omega, rfl, by unfold Hid; rw [hst.out], by unfold Hid; rw [hst.out]; exact HO3.out, HB3'.out, HQ3.out, hz4⟩
            case measure => simp [intOf]; omega
          · have e1 : Op.bytesLess x.1 q.1 = false := by rw [hbx]; simpa using hl2
            have hst : Hid (runD q (l.take (k + 1)) = (out ++ [(q.1, q.2.1)] ++ [x], true)) := by unfold Hid; rw [htk.out, hrun.out]; simp [stepD8, hl2, heq]
            clear hbx heq hl2 htk hrun
            have hln2 : (out ++ [(q.1, q.2.1)]).length + 1 ≤ 1099511627776 := by simp; omega
            go_wp2_with (first
              | (at_builtin; refine wp_append_newp rfl _ _ rfl (q.1, q.2.1) rfl (HOA.out _) (by rw [hza]; omega) (by rw [hza]; rfl) (by omega) ?_
                 intro v3 w3 ho3 hb3 hk3 hz3
                 have hx3 : w3.heap[wr.heap.size]? = some (.cells #[.string ⟨x.1.toArray⟩, .string ⟨x.2.toArray⟩] 49) := (hk3 _ (by rw [hza]; omega) (own_notp ho0 (.inr (Nat.le_refl _)))).trans (HXR.out _)
                 have hq3 : w3.heap[w.heap.size]? = some (.cells #[.string ⟨q.1.toArray⟩, .string ⟨q.2.1.toArray⟩, .bool q.2.2] 52) := (hk3 _ (by rw [hza]; omega) (own_notp ho0 (.inl (Nat.lt_succ_self _)))).trans (HQR.out _)
                 have x0 := cell_of_row _ _ 0 _ _ _ hx3
                 have x1 := cell_of_row _ _ 1 _ _ _ hx3
                 have y0 := cell_of_row _ _ 0 _ _ _ hq3
                 have hz4 : w.heap.size + 1 ≤ w3.heap.size := Nat.le_trans (by rw [hza]; omega) hz3
                 have HO3 := Lib.hid ho3
                 have HB3' := Lib.hid (HB3.out.trans (hb3.mono (by omega)))
                 have HQ3 := Lib.hid hq3
                 clear ho3 hb3 hk3 hx3 hq3 q0 q1 q2)
              | (at_builtin; refine wp_append_newp rfl _ _ rfl x rfl HO3.out hz4 rfl hln2 ?_
                 intro v5 w5 ho5 hb5 hk5 hz5
                 have hq5 : w5.heap[w.heap.size]? = some (.cells #[.string ⟨q.1.toArray⟩, .string ⟨q.2.1.toArray⟩, .bool q.2.2] 52) := (hk5 _ (by omega) (own_notp HO3.out (.inl (Nat.lt_succ_self _)))).trans HQ3.out
                 have hz6 : w.heap.size + 1 ≤ w5.heap.size := Nat.le_trans hz4 hz5
                 have HO5 := Lib.hid ho5
                 have HB5 := Lib.hid (HB3'.out.trans (hb5.mono (by omega)))
                 have HQ5 := Lib.hid hq5
                 clear ho5 hb5 hk5 hq5))
            go_roundw
            case rel => exact ⟨k + 1, true, by go_num, by omega, rfl, by unfold Hid; rw [hst.out], by unfold Hid; rw [hst.out]; exact HO5.out, HB5.out, HQ5.out, hz6⟩
            case measure => simp [intOf]; omega
        · have hst : Hid (runD q (l.take (k + 1)) = (out ++ [x], true)) := by unfold Hid; rw [htk.out, hrun.out]; simp [stepD8, heq]
          clear hbx heq htk hrun
          go_wp2_with (at_builtin; refine wp_append_newp rfl _ _ rfl x rfl (HOA.out _) (by rw [hza]; omega) (by rw [hza]; rfl) (by omega) ?_
                       intro v3 w3 ho3 hb3 hk3 hz3
                       have hq3 : w3.heap[w.heap.size]? = some (.cells #[.string ⟨q.1.toArray⟩, .string ⟨q.2.1.toArray⟩, .bool q.2.2] 52) := (hk3 _ (by rw [hza]; omega) (own_notp ho0 (.inl (Nat.lt_succ_self _)))).trans (HQR.out _)
                       have hz4 : w.heap.size + 1 ≤ w3.heap.size := Nat.le_trans (by rw [hza]; omega) hz3
                       have HO3 := Lib.hid ho3
                       have HB3' := Lib.hid (HB3.out.trans (hb3.mono (by omega)))
                       have HQ3 := Lib.hid hq3
                       clear ho3 hb3 hk3 hq3)
          go_roundw
          case rel => exact ⟨k + 1, true, by go_num, by omega, rfl, by unfold Hid; rw [hst.out], by unfold Hid; rw [hst.out]; exact HO3.out, HB3'.out, HQ3.out, hz4⟩
          case measure => simp [intOf]; omega
    · have hfin : Hid (finD8 q (runD q l) = doneP l q) := runD_done q l
      have hd2 := hd.out
      have ho2 := ho.out
      rw [List.take_of_length_le (by omega)] at hd2 ho2
      have HD2 := Lib.hid hd2
      have HO2 := Lib.hid ho2
      have hln : (runD q l).1.length ≤ 2147483648 := by have := runD_len q l; omega
      have q0 := cell_of_row _ _ 0 _ _ _ hro
      have q1 := cell_of_row _ _ 1 _ _ _ hro
      have q2 := cell_of_row _ _ 2 _ _ _ hro
      clear hd ho hd2 ho2 hro
      cases d
      · go_wp2_with (at_builtin; refine wp_append_newp rfl _ _ rfl (q.1, q.2.1) rfl HO2.out (by omega) rfl (by omega) ?_; intro v3 w3 ho3 hb3 _ _; have HO3 := Lib.hid ho3; have HB3 := Lib.hid hb3; clear ho3 hb3)
        go_ret
        refine ⟨_, rfl, ?_, hbl.out.trans (HB3.out.mono (by omega))⟩
        have h1 := hfin.out
        unfold finD8 at h1
        rw [HD2.out] at h1
        rw [← h1]
        exact HO3.out.lower (by omega)
      · go_wp2_with fail
        go_ret
        refine ⟨_, rfl, ?_, hbl.out⟩
        have h1 := hfin.out
        unfold finD8 at h1
        rw [HD2.out] at h1
        rw [← h1]
        exact HO2.out.lower (by omega)

end Go.Proofs.YtlchmkpnehbnlaaGreatDoor.Cd

/-
  The document's pairs: All, Get, Long, Scan. Conditions: not too many.
-/
namespace Go.Proofs.YtlchmkpnehbnlaaGreatDoor.Cd
open Go.RowKit Go.Sort

theorem putQ_len (P : Prs) (k v : List UInt8) : (putQ P k v).length ≤ P.length + 1 := by
  induction P with
  | nil => simp [putQ]
  | cons p r ih =>
    unfold putQ
    split
    · simp only [List.length_cons]; omega
    · have := List.length_filter_le (fun q : List UInt8 × List UInt8 => q.1 != k) (p :: r)
      simp only [List.length_cons] at this ⊢
      omega
theorem doneP_len (P : Prs) (w : Wr) : (doneP P w).length ≤ P.length + 1 := by
  unfold doneP
  split
  · have := List.length_filter_le (fun q : List UInt8 × List UInt8 => q.1 != w.1) P; omega
  · exact putQ_len P _ _
theorem allP_len (P : Prs) (ws : List Wr) : (allP P ws).length ≤ P.length + ws.length := by
  induction ws generalizing P with
  | nil => exact Nat.le_refl _
  | cons w r ih =>
    have h1 := ih (doneP P w)
    have h2 := doneP_len P w
    show (allP (doneP P w) r).length ≤ _
    simp only [List.length_cons]
    omega
theorem allP_take {P : Prs} {ws : List Wr} {k : Nat} {x : Wr} (h : ws[k]? = some x) : allP P (ws.take (k + 1)) = doneP (allP P (ws.take k)) x := by
  obtain ⟨hk, rfl⟩ := List.getElem?_eq_some_iff.1 h
  unfold allP
  rw [List.take_succ_eq_append_getElem hk, List.foldl_append]
  rfl

def AllIs (w : World) (v : Value) (ws : List Wr) (P : Prs) (e : Ending) (w' : World) : Prop :=
  ∃ v', e = .returned v' ∧ ((ws = [] ∧ v' = v) ∨ OwnPr w' w.heap.size v' (allP P ws)) ∧ PrIn w' w'.heap.size v' (allP P ws) ∧ Below w.heap.size w w'

set_option maxRecDepth 100000 in
set_option maxHeartbeats 3200000 in
theorem rall_any (v u : Value) (P : Prs) (ws : List Wr) (w : World) (h : PrIn w w.heap.size v P) (hu : TbIn w w.heap.size u ws) (hl : P.length + ws.length ≤ 1073741824) :
    Calls Tryz.prog 12 #[v, u] w (AllIs w v ws P) := by
  obtain ⟨A, c, rfl, hm1, hm2⟩ := hu.len
  have H := Lib.hid h
  have HU := Lib.hid hu
  clear h hu
  go_enter Tryz.func12, Tryz.ntmps12
  go_wp2_with fail
  go_loopw [0, 9] (fun s i wr => ∃ k : Nat, i = .int .i64 k ∧ k ≤ ws.length ∧ Hid ((k = 0 ∧ s = v) ∨ OwnPr wr w.heap.size s (allP P (ws.take k))) ∧ Hid (PrIn wr wr.heap.size s (allP P (ws.take k))) ∧ Hid (Below w.heap.size w wr)) (fun _ i _ => ws.length - (intOf i).toNat)
  case atStart => exact ⟨0, rfl, by omega, .inl ⟨rfl, rfl⟩, H.out, Below.refl _ _⟩
  case round =>
    obtain ⟨k, rfl, hk, ho, hin, hbl⟩ := hrel
    have hz := hbl.out.size
    by_cases hlt : k < ws.length
    · obtain ⟨x, hxk⟩ : ∃ x, ws[k]? = some x := ⟨ws[k], List.getElem?_eq_getElem hlt⟩
      obtain ⟨b2, off2, e2, hB2, d0, d1, d2⟩ := (HU.out.below hbl.out).at hxk
      subst e2
      have hb3 : Below wr.heap.size wr (wr.alloc (.cells #[.string ⟨x.1.toArray⟩, .string ⟨x.2.1.toArray⟩, .bool x.2.2] 52)) := (Below.refl _ _).alloc (Nat.le_refl _) _
      have hrow := heap_alloc_new wr (.cells #[.string ⟨x.1.toArray⟩, .string ⟨x.2.1.toArray⟩, .bool x.2.2] 52)
      have HTK := Lib.hid (allP_take (P := P) hxk)
      have hln := allP_len P (ws.take k)
      rw [List.length_take] at hln
      obtain ⟨w3, hw3⟩ : ∃ y, wr.alloc (.cells #[.string ⟨x.1.toArray⟩, .string ⟨x.2.1.toArray⟩, .bool x.2.2] 52) = y := ⟨_, rfl⟩
      rw [hw3] at hb3 hrow
      obtain ⟨xb, hxb⟩ : ∃ y, wr.heap.size = y := ⟨_, rfl⟩
      rw [hxb] at hrow
      have c0 : w3.cell? ⟨xb, 0, none⟩ = some (.string ⟨x.1.toArray⟩) := cell_of_row _ _ 0 _ _ _ hrow
      have c1 : w3.cell? ⟨xb, 1, none⟩ = some (.string ⟨x.2.1.toArray⟩) := cell_of_row _ _ 1 _ _ _ hrow
      have c2 : w3.cell? ⟨xb, 2, none⟩ = some (.bool x.2.2) := cell_of_row _ _ 2 _ _ _ hrow
      have HC := Lib.hid (rdone_any u0 (allP P (ws.take k)) x w3 ((hin.out.below hb3).more hb3.size) (by omega))
      have HB3 := Lib.hid (hbl.out.trans (hb3.mono hz))
      clear hb3 hrow hln hxk hin ho
      go_wp2_with fail
      refine HC.out.mono ?_
      rintro e w4 ⟨v', rfl, ho4, hb4⟩
      have HB4 := Lib.hid (HB3.out.trans (hb4.mono HB3.out.size))
      have HO4 : Hid (OwnPr w4 w.heap.size v' (allP P (ws.take (k + 1)))) := by unfold Hid; rw [HTK.out]; exact ho4.lower HB3.out.size
      clear ho4 hb4 HC c0 c1 c2 hw3
      go_wp2_with fail
      go_roundw
      case rel => exact ⟨k + 1, by go_num, by omega, .inr HO4.out, HO4.out.prIn, HB4.out⟩
      case measure => simp [intOf]; omega
    · have h1 := ho.out
      have h2 := hin.out
      rw [List.take_of_length_le (by omega)] at h1 h2
      have H1 := Lib.hid h1
      have H2 := Lib.hid h2
      clear h1 h2 ho hin
      go_wp2_with fail
      go_ret
      refine ⟨_, rfl, ?_, H2.out, hbl.out⟩
      rcases H1.out with ⟨h, e⟩ | h
      · exact .inl ⟨List.eq_nil_of_length_eq_zero (by omega), e⟩
      · exact .inr h

def placeP (P : Prs) (k : List UInt8) : Int := match P.findIdx? fun p => p.1 == k with | some i => (i : Nat) | none => -1
theorem placeP_some {P : Prs} {k : List UInt8} {i : Nat} {p : List UInt8 × List UInt8} (h : P[i]? = some p) (hp : p.1 = k) (hb : ∀ q ∈ P.take i, q.1 ≠ k) : placeP P k = (i : Nat) := by
  obtain ⟨hi, rfl⟩ := List.getElem?_eq_some_iff.1 h
  unfold placeP
  rw [show P.findIdx? (fun p => p.1 == k) = some i from List.findIdx?_eq_some_iff_getElem.2 ⟨hi, by simpa using hp, fun j hj => by
    have := hb P[j] (by rw [List.mem_take_iff_getElem]; exact ⟨j, by omega, rfl⟩)
    simpa using this⟩]
theorem placeP_none {P : Prs} {k : List UInt8} (h : ∀ q ∈ P, q.1 ≠ k) : placeP P k = -1 := by
  unfold placeP
  rw [List.findIdx?_eq_none_iff.2 fun q hq => by simpa using h q hq]

set_option maxRecDepth 100000 in
set_option maxHeartbeats 3200000 in
theorem rget_any (v : Value) (P : Prs) (key : List UInt8) (w : World) (h : PrIn w w.heap.size v P) :
    Calls Tryz.prog 17 #[v, .string ⟨key.toArray⟩] w (Gives (.int .i64 (placeP P key)) w) := by
  obtain ⟨A, c, rfl, hm1, hm2⟩ := h.len
  have H := Lib.hid h
  clear h
  obtain ⟨z, hz⟩ : ∃ z, placeP P key = z := ⟨_, rfl⟩
  have HZ := Lib.hid hz
  rw [hz]
  clear hz
  go_enter Tryz.func17, Tryz.ntmps17
  go_wp2_with fail
  go_loopw [9] (fun i wr => ∃ k : Nat, i = .int .i64 k ∧ k ≤ P.length ∧ Hid (∀ q ∈ P.take k, q.1 ≠ key) ∧ Hid (Below w.heap.size w wr)) (fun i _ => P.length - (intOf i).toNat)
  case atStart => exact ⟨0, rfl, by omega, (fun q hq => by simp at hq), Below.refl _ _⟩
  case round =>
    obtain ⟨k, rfl, hk, hno, hbl⟩ := hrel
    by_cases hlt : k < P.length
    · obtain ⟨x, hxk⟩ : ∃ x, P[k]? = some x := ⟨P[k], List.getElem?_eq_getElem hlt⟩
      obtain ⟨b2, off2, e2, hB2, d0, d1⟩ := (H.out.below hbl.out).at hxk
      subst e2
      have HB3 : Hid (Below w.heap.size w (wr.alloc (.cells #[.string ⟨x.1.toArray⟩, .string ⟨x.2.toArray⟩] 49))) := hbl.out.alloc hbl.out.size _
      have HX := Lib.hid hxk
      clear hxk
      by_cases he : x.1 = key
      · have e2 : (x.1 == key) = true := by simpa using he
        have HK : Hid (z = (k : Nat)) := HZ.out.symm.trans (placeP_some HX.out he hno.out)
        clear he
        go_wp2_with fail
        go_ret
        exact ⟨by rw [HK.out]; rfl, HB3.out⟩
      · have e2 : (x.1 == key) = false := by simpa using he
        have HN : Hid (∀ q ∈ P.take (k + 1), q.1 ≠ key) := fun q hq => by
          obtain ⟨hi, e⟩ := List.getElem?_eq_some_iff.1 HX.out
          rw [List.take_succ_eq_append_getElem hi, List.mem_append] at hq
          rcases hq with hq | hq
          · exact hno.out q hq
          · rw [List.mem_singleton.1 hq, e]; exact he
        clear he
        go_wp2_with fail
        go_roundw
        case rel => exact ⟨k + 1, by go_num, by omega, HN.out, HB3.out⟩
        case measure => simp [intOf]; omega
    · have HK : Hid (z = -1) := HZ.out.symm.trans (placeP_none (by have := hno.out; rwa [List.take_of_length_le (by omega)] at this))
      go_wp2_with fail
      go_ret
      exact ⟨by rw [HK.out]; rfl, hbl.out⟩

theorem scanP_take {P : Prs} {k : Nat} {x : List UInt8 × List UInt8} (h : P[k]? = some x) (f : List UInt8) (n : Nat) :
    scanP (P.take (k + 1)) f n = if ¬ x.1 < f ∧ (scanP (P.take k) f n).length < n then scanP (P.take k) f n ++ [x] else scanP (P.take k) f n := by
  obtain ⟨hk, rfl⟩ := List.getElem?_eq_some_iff.1 h
  unfold scanP
  rw [List.take_succ_eq_append_getElem hk, List.filter_append]
  by_cases hx : P[k].1 < f
  · rw [if_neg (fun h => h.1 hx)]
    simp [hx]
  · rw [show [P[k]].filter (fun p => decide (¬ p.1 < f)) = [P[k]] by rw [List.filter_cons, if_pos (by simpa using hx)]; rfl, List.take_append, List.length_take]
    by_cases hn : ((P.take k).filter fun p => decide (¬ p.1 < f)).length < n
    · rw [if_pos ⟨hx, Nat.lt_of_le_of_lt (Nat.min_le_right _ _) hn⟩, List.take_of_length_le (l := [P[k]]) (by show 1 ≤ n - _; omega)]
    · rw [if_neg (fun h => by have := h.2; have : min n _ < n := this; omega), show n - ((P.take k).filter fun p => decide (¬ p.1 < f)).length = 0 by omega]
      simp

set_option maxRecDepth 100000 in
set_option maxHeartbeats 3200000 in
theorem rscan_any (v : Value) (P : Prs) (f : List UInt8) (n : Int) (w : World) (h : PrIn w w.heap.size v P) (hl : P.length ≤ 1073741824) (hn1 : -9223372036854775808 ≤ n) (hn2 : n ≤ 9223372036854775807) :
    Calls Tryz.prog 21 #[v, .string ⟨f.toArray⟩, .int .i64 n] w fun e w' => ∃ v', e = .returned v' ∧ OwnPr w' w.heap.size v' (scanP P f n.toNat) ∧ Below w.heap.size w w' := by
  obtain ⟨A, c, rfl, hm1, hm2⟩ := h.len
  have H := Lib.hid h
  clear h
  go_enter Tryz.func21, Tryz.ntmps21
  go_wp2_with fail
  go_loopw [7, 12] (fun o i wr => ∃ k : Nat, i = .int .i64 k ∧ k ≤ P.length ∧ Hid (OwnPr wr w.heap.size o (scanP (P.take k) f n.toNat)) ∧ Hid (Below w.heap.size w wr)) (fun _ i _ => P.length - (intOf i).toNat)
  case atStart => exact ⟨0, rfl, by omega, by unfold Hid; rw [List.take_zero, show scanP [] f n.toNat = [] by simp [scanP]]; exact OwnPr.nil _ _, Below.refl _ _⟩
  case round =>
    obtain ⟨k, rfl, hk, ho, hbl⟩ := hrel
    have hz := hbl.out.size
    obtain ⟨out, hout⟩ : ∃ o, scanP (P.take k) f n.toNat = o := ⟨_, rfl⟩
    rw [hout] at ho
    have hol : out.length ≤ 1073741824 := by rw [← hout]; unfold scanP; have h1 := List.length_filter_le (fun p : List UInt8 × List UInt8 => decide (¬ p.1 < f)) (P.take k); rw [List.length_take] at h1 ⊢; omega
    have HOUT := Lib.hid hout
    clear hout
    obtain ⟨A8, c8, rfl, hc1, hc2⟩ := ho.out.prIn.len
    by_cases hlt : k < P.length
    · obtain ⟨x, hxk⟩ : ∃ x, P[k]? = some x := ⟨P[k], List.getElem?_eq_getElem hlt⟩
      obtain ⟨b2, off2, e2, hB2, d0, d1⟩ := (H.out.below hbl.out).at hxk
      subst e2
      have HTK := Lib.hid (scanP_take hxk f n.toNat)
      have hza : ∀ o : Obj, (wr.alloc o).heap.size = wr.heap.size + 1 := fun o => by simp
      have HOA : Hid (∀ o : Obj, OwnPr (wr.alloc o) w.heap.size (.slice A8 out.length c8) out) := fun o => ho.out.alloc o
      have HB3 : Hid (Below w.heap.size w (wr.alloc (.cells #[.string ⟨x.1.toArray⟩, .string ⟨x.2.toArray⟩] 49))) := hbl.out.alloc hz _
      have hbx : Op.bytesLess x.1 f = decide (x.1 < f) := bytesLess_eq _ _
      clear hxk
      by_cases hl2 : x.1 < f
      · have e1 : Op.bytesLess x.1 f = true := by rw [hbx]; simpa using hl2
        have HN : Hid (scanP (P.take (k + 1)) f n.toNat = out) := by unfold Hid; rw [HTK.out, HOUT.out, if_neg (fun h => h.1 hl2)]
        clear hbx hl2
        go_wp2_with fail
        go_roundw
        case rel => exact ⟨k + 1, by go_num, by omega, by unfold Hid; rw [HN.out]; exact HOA.out _, HB3.out⟩
        case measure => simp [intOf]; omega
      · have e1 : Op.bytesLess x.1 f = false := by rw [hbx]; simpa using hl2
        by_cases hno : (out.length : Int) < n
        · have HN : Hid (scanP (P.take (k + 1)) f n.toNat = out ++ [x]) := by unfold Hid; rw [HTK.out, HOUT.out, if_pos ⟨hl2, by omega⟩]
          clear hbx hl2
          go_wp2_with (at_builtin; refine wp_append_newp rfl _ _ rfl x rfl (HOA.out _) (by rw [hza]; omega) (by rw [hza]; rfl) (by omega) ?_; intro v3 w3 ho3 hb3 _ _; have HO3 := Lib.hid ho3; have HB4 := Lib.hid (HB3.out.trans hb3); clear ho3 hb3)
          go_roundw
          case rel => exact ⟨k + 1, by go_num, by omega, by unfold Hid; rw [HN.out]; exact HO3.out, HB4.out⟩
          case measure => simp [intOf]; omega
        · have HN : Hid (scanP (P.take (k + 1)) f n.toNat = out) := by unfold Hid; rw [HTK.out, HOUT.out, if_neg (fun h => by have := h.2; omega)]
          clear hbx hl2
          go_wp2_with fail
          go_roundw
          case rel => exact ⟨k + 1, by go_num, by omega, by unfold Hid; rw [HN.out]; exact HOA.out _, HB3.out⟩
          case measure => simp [intOf]; omega
    · have HN : Hid (scanP P f n.toNat = out) := by unfold Hid; rw [← HOUT.out, List.take_of_length_le (by omega)]
      go_wp2_with fail
      go_ret
      exact ⟨_, rfl, by rw [HN.out]; exact ho.out, hbl.out⟩

def long8 (ws : List Wr) : Bool := longW ws || decide (1024 < ws.length)
set_option maxRecDepth 100000 in
set_option maxHeartbeats 3200000 in
theorem rlong8_any (u : Value) (ws : List Wr) (w : World) (h : TbIn w w.heap.size u ws) : Calls Tryz.prog 11 #[u] w (Gives (.bool (long8 ws)) w) := by
  obtain ⟨A, c, rfl, hm1, hm2⟩ := h.len
  have H := Lib.hid h
  clear h
  obtain ⟨z, hz⟩ : ∃ z, long8 ws = z := ⟨_, rfl⟩
  have HZ := Lib.hid hz
  rw [hz]
  clear hz
  go_enter Tryz.func11, Tryz.ntmps11
  go_wp2_with fail
  go_loopw [7] (fun i wr => ∃ k : Nat, i = .int .i64 k ∧ k ≤ ws.length ∧ Hid (longW (ws.take k) = false) ∧ Hid (Below w.heap.size w wr)) (fun i _ => ws.length - (intOf i).toNat)
  case atStart => exact ⟨0, rfl, by omega, rfl, Below.refl _ _⟩
  case round =>
    obtain ⟨k, rfl, hk, hno, hbl⟩ := hrel
    by_cases hlt : k < ws.length
    · obtain ⟨x, hxk⟩ : ∃ x, ws[k]? = some x := ⟨ws[k], List.getElem?_eq_getElem hlt⟩
      obtain ⟨b2, off2, e2, hB2, d0, d1, d2⟩ := (H.out.below hbl.out).at hxk
      subst e2
      have HB3 : Hid (Below w.heap.size w (wr.alloc (.cells #[.string ⟨x.1.toArray⟩, .string ⟨x.2.1.toArray⟩, .bool x.2.2] 52))) := hbl.out.alloc hbl.out.size _
      have HX := Lib.hid hxk
      clear hxk
      have HT : Hid (48 < x.1.length ∨ 160 < x.2.1.length → z = true) := fun hh => by
        rw [← HZ.out]
        unfold long8 longW
        rw [List.any_eq_true.2 ⟨x, List.mem_of_getElem? HX.out, by simpa using hh⟩]
        rfl
      by_cases h1 : 48 < x.1.length
      · have h1' : (48 : Int) < x.1.length := by omega
        have HK := Lib.hid (HT.out (.inl h1))
        go_wp2_with fail
        go_ret
        exact ⟨by rw [HK.out]; rfl, HB3.out⟩
      · have h1' : ¬ (48 : Int) < x.1.length := by omega
        by_cases h2 : 160 < x.2.1.length
        · have h2' : (160 : Int) < x.2.1.length := by omega
          have HK := Lib.hid (HT.out (.inr h2))
          go_wp2_with fail
          go_ret
          exact ⟨by rw [HK.out]; rfl, HB3.out⟩
        · have h2' : ¬ (160 : Int) < x.2.1.length := by omega
          have HN : Hid (longW (ws.take (k + 1)) = false) := by
            obtain ⟨hi, e⟩ := List.getElem?_eq_some_iff.1 HX.out
            have h3 := hno.out
            unfold Hid longW at *
            rw [List.take_succ_eq_append_getElem hi, List.any_append, h3, e]
            simp [h1, h2]
          go_wp2_with fail
          go_roundw
          case rel => exact ⟨k + 1, by go_num, by omega, HN.out, HB3.out⟩
          case measure => simp [intOf]; omega
    · have HN : Hid (z = decide ((1024 : Int) < ws.length)) := by
        have h3 := hno.out
        rw [List.take_of_length_le (by omega)] at h3
        unfold Hid
        rw [← HZ.out]
        unfold long8
        rw [h3, Bool.false_or]
        exact decide_eq_decide.2 (by omega)
      go_wp2_with fail
      go_ret
      exact ⟨by rw [HN.out]; rfl, hbl.out⟩

end Go.Proofs.YtlchmkpnehbnlaaGreatDoor.Cd

/-
  areLong. Conditions: none.
-/
namespace Go.Proofs.YtlchmkpnehbnlaaGreatDoor.Cd
open Go.RowKit Go.Sort

def long1 (p : Wr) : Bool := decide (48 < p.1.length) || decide (160 < p.2.1.length)
set_option maxRecDepth 100000 in
set_option maxHeartbeats 800000 in
theorem long1_s (p : Wr) (w : World) : Calls Tryz.prog 59 #[.agg #[.string ⟨p.1.toArray⟩, .string ⟨p.2.1.toArray⟩, .bool p.2.2]] w (Gives (.bool (long1 p)) w) := by
  have hb := (Below.refl w.heap.size w).alloc (Nat.le_refl _) (.cells #[.string ⟨p.1.toArray⟩, .string ⟨p.2.1.toArray⟩, .bool p.2.2] 52)
  have hz : long1 p = (decide (48 < p.1.length) || decide (160 < p.2.1.length)) := rfl
  by_cases h1 : 48 < p.1.length
  · have e : long1 p = true := by rw [hz]; simp [h1]
    have h1' : (48 : Int) < p.1.length := by omega
    rw [e]
    clear hz e
    go_enter Tryz.func59, Tryz.ntmps59
    go_wp2_with fail
    go_ret
    exact ⟨rfl, hb⟩
  · have h1' : ¬ (48 : Int) < p.1.length := by omega
    by_cases h2 : 160 < p.2.1.length
    · have e : long1 p = true := by rw [hz]; simp [h2]
      have h2' : (160 : Int) < p.2.1.length := by omega
      have k2 : decide (160 < p.2.1.length) = true := decide_eq_true h2
      rw [e]
      clear hz e
      go_enter Tryz.func59, Tryz.ntmps59
      go_wp2_with fail
      go_ret
      exact ⟨rfl, hb⟩
    · have e : long1 p = false := by rw [hz]; simp [h1, h2]
      have h2' : ¬ (160 : Int) < p.2.1.length := by omega
      have k2 : decide (160 < p.2.1.length) = false := decide_eq_false h2
      rw [e]
      clear hz e
      go_enter Tryz.func59, Tryz.ntmps59
      go_wp2_with fail
      go_ret
      exact ⟨rfl, hb⟩

def IdxIs (z : Bool) (w : World) (e : Ending) (w' : World) : Prop := ∃ i : Int, e = .returned (.int .i64 i) ∧ ((z = true ∧ 0 ≤ i) ∨ (z = false ∧ i = -1)) ∧ Below w.heap.size w w'

set_option maxRecDepth 100000 in
set_option maxHeartbeats 1600000 in
theorem index_s (v : Value) (l : List Wr) (w : World) (h : TbIn w w.heap.size v l) :
    Calls Tryz.prog 105 #[v, .func (.func 59) #[] #[]] w (IdxIs (longW l) w) := by
  obtain ⟨A, c, rfl, hm1, hm2⟩ := h.len
  have H := Lib.hid h
  clear h
  go_enter Tryz.func105, Tryz.ntmps105
  go_wp2_with fail
  go_loopw [8] (fun i wr => ∃ k : Nat, i = .int .i64 k ∧ k ≤ l.length ∧ Hid (longW (l.take k) = false) ∧ Hid (Below w.heap.size w wr)) (fun i _ => l.length - (intOf i).toNat)
  case atStart => exact ⟨0, rfl, by omega, rfl, Below.refl _ _⟩
  case round =>
    obtain ⟨k, rfl, hk, hno, hbl⟩ := hrel
    by_cases hlt : k < l.length
    · obtain ⟨x, hxk⟩ : ∃ x, l[k]? = some x := ⟨l[k], List.getElem?_eq_getElem hlt⟩
      obtain ⟨b2, off2, e2, hB2, d0, d1, d2⟩ := (H.out.below hbl.out).at hxk
      subst e2
      have CL := long1_s x wr
      have HX := Lib.hid hxk
      obtain ⟨z, hz⟩ : ∃ z, long1 x = z := ⟨_, rfl⟩
      rw [hz] at CL
      have CL := Lib.hid CL
      have HZ := Lib.hid hz
      clear hxk hz
      cases z
      · have HN : Hid (longW (l.take (k + 1)) = false) := by
          obtain ⟨hi, e⟩ := List.getElem?_eq_some_iff.1 HX.out
          have h3 := hno.out
          have h4 := HZ.out
          unfold Hid long1 longW at *
          rw [List.take_succ_eq_append_getElem hi, List.any_append, h3, e]
          simpa using h4
        go_wp2_with fail
        refine CL.out.mono ?_
        rintro e w1 ⟨rfl, hb1⟩
        have HB1 := Lib.hid (hbl.out.trans (hb1.mono hbl.out.size))
        clear hb1
        go_wp2_with fail
        go_roundw
        case rel => exact ⟨k + 1, by go_num, by omega, HN.out, HB1.out⟩
        case measure => simp [intOf]; omega
      · have HN : Hid (longW l = true) := by
          have h4 := HZ.out
          have h5 := HX.out
          unfold Hid longW
          exact List.any_eq_true.2 ⟨x, List.mem_of_getElem? h5, h4⟩
        go_wp2_with fail
        refine CL.out.mono ?_
        rintro e w1 ⟨rfl, hb1⟩
        have HB1 := Lib.hid (hbl.out.trans (hb1.mono hbl.out.size))
        clear hb1
        go_wp2_with fail
        go_ret
        exact ⟨k, rfl, .inl ⟨HN.out, by omega⟩, HB1.out⟩
    · have HN : Hid (longW l = false) := by
        have := hno.out
        rwa [List.take_of_length_le (by omega)] at this
      go_wp2_with fail
      go_ret
      exact ⟨-1, rfl, .inr ⟨HN.out, rfl⟩, hbl.out⟩

set_option maxRecDepth 100000 in
set_option maxHeartbeats 800000 in
theorem areLong_s (v : Value) (l : List Wr) (w : World) (h : TbIn w w.heap.size v l) :
    Calls Tryz.prog 31 #[v] w (Gives (.bool (long8 l)) w) := by
  have CI := Lib.hid (index_s v l w h)
  have CC : Calls Tryz.prog 60 #[v, .func (.func 59) #[] #[]] w (Gives (.bool (longW l)) w) := by
    obtain ⟨z, hz⟩ : ∃ z, longW l = z := ⟨_, rfl⟩
    rw [hz] at CI ⊢
    clear hz h
    go_enter Tryz.func60, Tryz.ntmps60
    go_wp2_with fail
    refine CI.out.mono ?_
    rintro e w1 ⟨i, rfl, ⟨rfl, hi⟩ | ⟨rfl, rfl⟩, hb1⟩
    · have HB1 := Lib.hid hb1
      have hd : decide (0 ≤ i) = true := decide_eq_true hi
      clear hb1
      go_wp2_with fail
      go_ret
      exact ⟨by simp, HB1.out⟩
    · have HB1 := Lib.hid hb1
      clear hb1
      go_wp2_with fail
      go_ret
      exact ⟨rfl, HB1.out⟩
  obtain ⟨A, c, rfl, hm1, hm2⟩ := h.len
  have CC := Lib.hid CC
  have hz : long8 l = (longW l || decide (1024 < l.length)) := rfl
  obtain ⟨z, hzz⟩ : ∃ z, longW l = z := ⟨_, rfl⟩
  rw [hzz] at CC hz
  obtain ⟨y, hy⟩ : ∃ y, long8 l = y := ⟨_, rfl⟩
  rw [hy] at hz ⊢
  have HY := Lib.hid hz
  clear h CI hz hzz hy
  by_cases h1 : 1024 < l.length
  · have h1' : (1024 : Int) < l.length := by omega
    have e : Hid (y = true) := by unfold Hid; rw [HY.out]; simp [h1]
    go_enter Tryz.func31, Tryz.ntmps31
    go_wp2_with fail
    go_ret
    exact ⟨by rw [e.out]; rfl, Below.refl _ _⟩
  · have h1' : ¬ (1024 : Int) < l.length := by omega
    have e : Hid (y = z) := by unfold Hid; rw [HY.out]; simp [h1]
    go_enter Tryz.func31, Tryz.ntmps31
    go_wp2_with fail
    refine CC.out.mono ?_
    rintro r w1 ⟨rfl, hb1⟩
    have HB1 := Lib.hid hb1
    clear hb1
    go_wp2_with fail
    go_ret
    exact ⟨by rw [e.out]; rfl, HB1.out⟩

end Go.Proofs.YtlchmkpnehbnlaaGreatDoor.Cd

/-
  place: where a key's write stands in a list, or would. Conditions: the list's keys rise; strings.Compare's contract is handed in.
-/
namespace Go.Proofs.YtlchmkpnehbnlaaGreatDoor.Cd
open Go.RowKit Go.Sort

def lessW (t : List Wr) (k : List UInt8) : Nat := (t.takeWhile fun w => decide (w.1 < k)).length
def cmpB (a b : List UInt8) : Int := if a < b then -1 else if b < a then 1 else 0
theorem cmpB_less {a b : List UInt8} : cmpB a b < 0 ↔ a < b := by
  unfold cmpB
  by_cases h : a < b
  · rw [if_pos h]; simp [h]
  · rw [if_neg h]
    split <;> simp [h]
theorem cmpB_same {a b : List UInt8} : cmpB a b = 0 ↔ a = b := by
  unfold cmpB
  by_cases h : a < b
  · rw [if_pos h]; simp; exact less_ne h
  · rw [if_neg h]
    by_cases h2 : b < a
    · rw [if_pos h2]; simp; exact fun e => less_ne h2 e.symm
    · rw [if_neg h2]; simp; exact less_tri h h2
theorem lessW_is {t : List Wr} {k : List UInt8} {i : Nat} (hi : i ≤ t.length) (h1 : ∀ a x, a < i → t[a]? = some x → x.1 < k) (h2 : ∀ x, t[i]? = some x → ¬ x.1 < k) : lessW t k = i := by
  induction t generalizing i with
  | nil => simp at hi; subst hi; rfl
  | cons y r ih =>
    unfold lessW at ih ⊢
    cases i with
    | zero =>
      rw [List.takeWhile_cons, if_neg (by simpa using h2 y rfl)]
      rfl
    | succ i =>
      rw [List.takeWhile_cons, if_pos (by simpa using h1 0 y (by omega) rfl), List.length_cons]
      rw [ih (by simpa using hi) (fun a x ha hx => h1 (a + 1) x (by omega) (by simpa using hx)) (fun x hx => h2 x (by simpa using hx))]

theorem srt_at {t : List Wr} (h : SrtW t) {i j : Nat} {x y : Wr} (hij : i < j) (hx : t[i]? = some x) (hy : t[j]? = some y) : x.1 < y.1 := by
  obtain ⟨h1, rfl⟩ := List.getElem?_eq_some_iff.1 hx
  obtain ⟨h2, rfl⟩ := List.getElem?_eq_some_iff.1 hy
  exact List.pairwise_iff_getElem.1 h i j h1 h2 hij
def CmpOk : Prop := ∀ (a b : List UInt8) (W : World), Calls Tryz.prog 78 #[.string ⟨a.toArray⟩, .string ⟨b.toArray⟩] W fun e w' => e = .returned (.int .i64 (cmpB a b)) ∧ w' = W

set_option maxRecDepth 100000 in
set_option maxHeartbeats 1600000 in
theorem place1_any (hc : CmpOk) (p : Wr) (key : List UInt8) (w : World) :
    Calls Tryz.prog 77 #[.agg #[.string ⟨p.1.toArray⟩, .string ⟨p.2.1.toArray⟩, .bool p.2.2], .string ⟨key.toArray⟩] w (Gives (.int .i64 (cmpB p.1 key)) w) := by
  have HC := Lib.hid hc
  have hb := (Below.refl w.heap.size w).alloc (Nat.le_refl _) (.cells #[.string ⟨p.1.toArray⟩, .string ⟨p.2.1.toArray⟩, .bool p.2.2] 52)
  clear hc
  go_enter Tryz.func77, Tryz.ntmps77
  go_wp2_with fail
  refine (HC.out p.1 key _).mono ?_
  rintro e w1 ⟨rfl, h⟩
  obtain rfl := h.symm
  clear h
  go_wp2_with fail
  go_ret
  exact ⟨rfl, hb⟩

set_option maxRecDepth 100000 in
set_option maxHeartbeats 3200000 in
theorem search_any (hc : CmpOk) (v : Value) (t : List Wr) (key : List UInt8) (w : World) (h : TbIn w w.heap.size v t) (hs : SrtW t) (hl : t.length ≤ 1073741824) :
    Calls Tryz.prog 76 #[v, .string ⟨key.toArray⟩, .func (.func 77) #[] #[]] w (Gives (.tuple #[.int .i64 (lessW t key : Nat), .bool (getW t key).isSome]) w) := by
  obtain ⟨A, c, rfl, hm1, hm2⟩ := h.len
  have H := Lib.hid h
  have HC := Lib.hid hc
  have HS := Lib.hid hs
  clear h hc hs
  go_enter Tryz.func76, Tryz.ntmps76
  go_wp2_with fail
  go_loopw [9, 10] (fun i j wr => ∃ a b : Nat, i = .int .i64 a ∧ j = .int .i64 b ∧ a ≤ b ∧ b ≤ t.length ∧ Hid (∀ m x, m < a → t[m]? = some x → x.1 < key) ∧ Hid (∀ m x, b ≤ m → t[m]? = some x → ¬ x.1 < key) ∧ Hid (Below w.heap.size w wr)) (fun i j _ => (intOf j).toNat - (intOf i).toNat)
  case atStart => exact ⟨0, t.length, rfl, rfl, by omega, by omega, (fun m x hm => by omega), (fun m x hm hx => by have := (List.getElem?_eq_some_iff.1 hx).1; omega), Below.refl _ _⟩
  case round =>
    obtain ⟨a, b, rfl, rfl, hab, hbt, hlo, hhi, hbl⟩ := hrel
    by_cases hlt : a < b
    · obtain ⟨m, hm⟩ : ∃ m, (a + b) / 2 = m := ⟨_, rfl⟩
      have hmid : ((a : Int) + (b : Int)) / 2 = (m : Int) := by omega
      have hm1 : a ≤ m ∧ m < b := by omega
      obtain ⟨x, hxm⟩ : ∃ x, t[m]? = some x := ⟨t[m], List.getElem?_eq_getElem (by omega)⟩
      obtain ⟨b2, off2, e2, hB2, d0, d1, d2⟩ := (H.out.below hbl.out).at hxm
      subst e2
      have HX := Lib.hid hxm
      have HP := place1_any HC.out x key wr
      obtain ⟨z, hz⟩ : ∃ z, cmpB x.1 key = z := ⟨_, rfl⟩
      rw [hz] at HP
      have HP := Lib.hid HP
      clear hm hxm
      by_cases hlk : x.1 < key
      · have hneg : z < 0 := by rw [← hz]; exact cmpB_less.2 hlk
        have HLO : Hid (∀ q y, q < m + 1 → t[q]? = some y → y.1 < key) := fun q y hq hy => by
          by_cases e : q = m
          · subst e; rw [HX.out] at hy; injection hy with hy; exact hy ▸ hlk
          · exact less_trans (srt_at HS.out (by omega) hy HX.out) hlk
        clear hz hlk
        go_wp2_with fail
        refine HP.out.mono ?_
        rintro e w1 ⟨rfl, hb1⟩
        have HB1 := Lib.hid (hbl.out.trans (hb1.mono hbl.out.size))
        clear hb1
        go_wp2_with fail
        go_roundw
        case rel => exact ⟨m + 1, b, by go_num, rfl, by omega, by omega, HLO.out, hhi.out, HB1.out⟩
        case measure => simp [intOf]; omega
      · have hneg : ¬ z < 0 := by rw [← hz]; exact fun h => hlk (cmpB_less.1 h)
        have HHI : Hid (∀ q y, m ≤ q → t[q]? = some y → ¬ y.1 < key) := fun q y hq hy => by
          by_cases e : q = m
          · subst e; rw [HX.out] at hy; injection hy with hy; exact hy ▸ hlk
          · exact fun h => hlk (less_trans (srt_at HS.out (by omega) HX.out hy) h)
        clear hz hlk
        go_wp2_with fail
        refine HP.out.mono ?_
        rintro e w1 ⟨rfl, hb1⟩
        have HB1 := Lib.hid (hbl.out.trans (hb1.mono hbl.out.size))
        clear hb1
        go_wp2_with fail
        go_roundw
        case rel => exact ⟨a, m, rfl, rfl, by omega, by omega, hlo.out, HHI.out, HB1.out⟩
        case measure => simp [intOf]; omega
    · obtain rfl : a = b := by omega
      have HK : Hid (lessW t key = a) := lessW_is hbt hlo.out (fun x hx => hhi.out a x (Nat.le_refl _) hx)
      by_cases hat : a < t.length
      · obtain ⟨x, hxm⟩ : ∃ x, t[a]? = some x := ⟨t[a], List.getElem?_eq_getElem hat⟩
        obtain ⟨b2, off2, e2, hB2, d0, d1, d2⟩ := (H.out.below hbl.out).at hxm
        subst e2
        have HX := Lib.hid hxm
        have HP := place1_any HC.out x key wr
        obtain ⟨z, hz⟩ : ∃ z, cmpB x.1 key = z := ⟨_, rfl⟩
        rw [hz] at HP
        have HP := Lib.hid HP
        have HF : Hid ((getW t key).isSome = (z == 0)) := by
          unfold Hid
          rw [← hz]
          by_cases e : x.1 = key
          · rw [← e, getW_of_mem HS.out (List.mem_of_getElem? HX.out), cmpB_same.2 rfl]; rfl
          · rw [getW_none.2 fun y hy => ?_, beq_eq_false_iff_ne.2 fun h => e (cmpB_same.1 h)]
            · rfl
            · obtain ⟨q, hq, rfl⟩ := List.getElem_of_mem hy
              have hq2 : t[q]? = some t[q] := List.getElem?_eq_getElem hq
              rcases Nat.lt_trichotomy q a with h | h | h
              · exact less_ne (hlo.out q _ h hq2)
              · subst h; rw [HX.out] at hq2; injection hq2 with hq2; rw [← hq2]; exact e
              · have h1 := srt_at HS.out h HX.out hq2
                have h2 := hhi.out a x (Nat.le_refl _) HX.out
                exact fun h3 => h2 (h3 ▸ h1)
        clear hxm hz
        go_wp2_with fail
        refine HP.out.mono ?_
        rintro e w1 ⟨rfl, hb1⟩
        have HB1 := Lib.hid (hbl.out.trans (hb1.mono hbl.out.size))
        clear hb1
        go_wp2_with fail
        go_ret2
        exact ⟨by rw [HK.out, HF.out]; simp, HB1.out⟩
      · have HF : Hid ((getW t key).isSome = false) := by
          unfold Hid
          rw [getW_none.2 fun y hy => by
            obtain ⟨q, hq, rfl⟩ := List.getElem_of_mem hy
            exact less_ne (hlo.out q _ (by omega) (List.getElem?_eq_getElem hq))]
          rfl
        go_wp2_with fail
        go_ret2
        exact ⟨by rw [HK.out, HF.out]; rfl, hbl.out⟩

theorem place_any (hc : CmpOk) (v : Value) (t : List Wr) (key : List UInt8) (w : World) (h : TbIn w w.heap.size v t) (hs : SrtW t) (hl : t.length ≤ 1073741824) :
    Calls Tryz.prog 41 #[v, .string ⟨key.toArray⟩] w (Gives (.tuple #[.int .i64 (lessW t key : Nat), .bool (getW t key).isSome]) w) := by
  have HP := Lib.hid (search_any hc v t key w h hs hl)
  clear h hs hc
  obtain ⟨n, hn⟩ : ∃ n, lessW t key = n := ⟨_, rfl⟩
  obtain ⟨z, hz⟩ : ∃ z, (getW t key).isSome = z := ⟨_, rfl⟩
  rw [hn, hz] at HP ⊢
  clear hn hz
  go_enter Tryz.func41, Tryz.ntmps41
  go_wp2_with fail
  refine HP.out.mono ?_
  rintro e w1 ⟨rfl, hb1⟩
  go_wp2_with fail
  go_ret2
  exact ⟨rfl, hb1⟩

end Go.Proofs.YtlchmkpnehbnlaaGreatDoor.Cd
