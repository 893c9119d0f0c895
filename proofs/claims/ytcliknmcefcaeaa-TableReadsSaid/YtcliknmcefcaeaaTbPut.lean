/-
  The document's Put and Of: a table's writes by rising keys. Conditions: not too many.
-/
import Derived.Test.YtcliknmcefcaeaaTbRef
import Derived.Sort.Walk0
import Derived.Maps.AppendAt
namespace Go.Proofs.Ytcliknmcefcaeaa.Cd
open Go.RowKit Go.Sort

/-- What a round of Put's adds. -/
def stepP (w : Wr) (s : List Wr × Bool) (x : Wr) : List Wr × Bool :=
  let s1 := if !s.2 && !decide (x.1 < w.1) then (s.1 ++ [w], true) else s
  if x.1 = w.1 then s1 else (s1.1 ++ [x], s1.2)
def runP (w : Wr) (l : List Wr) : List Wr × Bool := l.foldl (stepP w) ([], false)
theorem runP_true (w : Wr) (l : List Wr) (acc : List Wr) : l.foldl (stepP w) (acc, true) = (acc ++ l.filter (fun y => y.1 != w.1), true) := by
  induction l generalizing acc with
  | nil => simp
  | cons x r ih =>
    rw [List.foldl_cons]
    by_cases e : x.1 = w.1
    · have hb : (x.1 != w.1) = false := by simpa using e
      rw [show stepP w (acc, true) x = (acc, true) by simp [stepP, e], ih, List.filter_cons, hb]
      simp
    · have hb : (x.1 != w.1) = true := by simpa using e
      rw [show stepP w (acc, true) x = (acc ++ [x], true) by simp [stepP, e], ih, List.filter_cons, hb]
      simp
def finP (w : Wr) (s : List Wr × Bool) : List Wr := if s.2 then s.1 else s.1 ++ [w]
theorem runP_from (w : Wr) (l : List Wr) (acc : List Wr) : finP w (l.foldl (stepP w) (acc, false)) = acc ++ insW l w := by
  induction l generalizing acc with
  | nil => simp [insW, finP]
  | cons x r ih =>
    rw [List.foldl_cons]
    unfold insW
    by_cases h : x.1 < w.1
    · have hne : x.1 ≠ w.1 := less_ne h
      rw [if_pos h, show stepP w (acc, false) x = (acc ++ [x], false) by simp [stepP, h, hne], ih]
      simp
    · rw [if_neg h]
      by_cases e : x.1 = w.1
      · have hb : (x.1 != w.1) = false := by simpa using e
        rw [show stepP w (acc, false) x = (acc ++ [w], true) by simp [stepP, e], runP_true, List.filter_cons, hb]
        simp [finP]
      · have hb : (x.1 != w.1) = true := by simpa using e
        rw [show stepP w (acc, false) x = (acc ++ [w] ++ [x], true) by simp [stepP, h, e], runP_true, List.filter_cons, hb]
        simp [finP]
theorem runP_ins (w : Wr) (l : List Wr) : finP w (runP w l) = insW l w := by
  have := runP_from w l []
  simpa [runP] using this
theorem runP_take {w : Wr} {l : List Wr} {k : Nat} {x : Wr} (h : l[k]? = some x) : runP w (l.take (k + 1)) = stepP w (runP w (l.take k)) x := by
  obtain ⟨hk, rfl⟩ := List.getElem?_eq_some_iff.1 h
  unfold runP
  rw [List.take_succ_eq_append_getElem hk, List.foldl_append]
  rfl
theorem stepP_len (w : Wr) (s : List Wr × Bool) (x : Wr) : (stepP w s x).1.length ≤ s.1.length + 2 := by
  unfold stepP
  obtain ⟨a, b⟩ := s
  cases b <;> by_cases h1 : x.1 < w.1 <;> by_cases h2 : x.1 = w.1 <;> simp [h1, h2]
theorem runP_len (w : Wr) (l : List Wr) : (runP w l).1.length ≤ l.length * 2 := by
  unfold runP
  have : ∀ (s : List Wr × Bool), (l.foldl (stepP w) s).1.length ≤ s.1.length + l.length * 2 := by
    induction l with
    | nil => intro s; simp
    | cons x r ih =>
      intro s
      have h1 := ih (stepP w s x)
      have h2 := stepP_len w s x
      simp only [List.foldl_cons, List.length_cons]
      omega
  have := this ([], false)
  simpa using this

section
variable {w w' : World} {B : Nat} {v : Value} {l : List Wr}
/-- The row grows by one write that was laid out a moment ago. -/
theorem wp_append_new {ops : Array Oper} {rest : List Oper} {o : Oper} {a : Act} {Q : Exit → Act → World → Prop} (hgd : o.guard = none) (s x : Operand)
    (hop : o.op = .call { callee := .builtin .append, args := #[s, x], argTypes := #[22, 22] }) (p : Wr)
    (hs : a.eval s = v) (ho : OwnTb w B v l) (hB : B ≤ w.heap.size) (hx : a.eval x = .slice (some ⟨w.heap.size, 0, none⟩) 1 1)
    (hm : l.length + 1 ≤ 1099511627776)
    (hK : ∀ v' w', OwnTb w' B v' (l ++ [p]) → Below B w w' → (∀ k, k < w.heap.size → some k ≠ v.ownBlock → w'.heap[k]? = w.heap[k]?) → w.heap.size ≤ w'.heap.size → wpList Try.prog ops Q rest (a.put o.dst v') w') : wpList Try.prog ops Q (o :: rest) a (w.alloc (.cells #[.string ⟨p.1.toArray⟩, .string ⟨p.2.1.toArray⟩, .bool p.2.2] 29)) := by
  have hb := (Below.refl w.heap.size w).alloc (Nat.le_refl _) (.cells #[.string ⟨p.1.toArray⟩, .string ⟨p.2.1.toArray⟩, .bool p.2.2] 29)
  refine wp_append_tbs hgd s x hop hs (ho.alloc _) (Nat.le_trans hB hb.size) _ _ [p] hx (tb_one w p _) hm fun v' w' h1 h2 h3 => hK v' w' h1 ((hb.mono hB).trans h2) (fun k hk hne => (h3.block k (Nat.lt_of_lt_of_le hk hb.size) hne).trans (hb.block k hk)) (Nat.le_trans hb.size h3.size)
end

/-- What lies in a block that was there when the row was not yet as it is: it is none of the row's. -/
theorem own_not {w : World} {B : Nat} {v : Value} {l : List Wr} (ho : OwnTb w B v l) {k : Nat} (hk : k < B ∨ w.heap.size ≤ k) : some k ≠ v.ownBlock := fun e => by
  have h1 := World.ownsRow.lt ho k e.symm
  omega

set_option maxRecDepth 100000 in
set_option maxHeartbeats 6400000 in
theorem rput_any (v : Value) (l : List Wr) (p : Wr) (w : World) (h : TbIn w w.heap.size v l) (hl : l.length ≤ 1073741824) :
    Calls Try.prog 32 #[v, .agg #[.string ⟨p.1.toArray⟩, .string ⟨p.2.1.toArray⟩, .bool p.2.2]] w fun e w' => ∃ v', e = .returned v' ∧ OwnTb w' w.heap.size v' (insW l (flatG p)) ∧ Below w.heap.size w w' := by
  obtain ⟨A, c, rfl, hm1, hm2⟩ := h.len
  have H := Lib.hid h
  clear h
  obtain ⟨q, hq⟩ : ∃ q, flatG p = q := ⟨_, rfl⟩
  have hb1 : Below w.heap.size w (w.alloc (.cells #[.string ⟨q.1.toArray⟩, .string ⟨q.2.1.toArray⟩, .bool q.2.2] 29)) := (Below.refl _ _).alloc (Nat.le_refl _) _
  have hz1 : (w.alloc (.cells #[.string ⟨q.1.toArray⟩, .string ⟨q.2.1.toArray⟩, .bool q.2.2] 29)).heap.size = w.heap.size + 1 := by simp
  have hr1 : (w.alloc (.cells #[.string ⟨q.1.toArray⟩, .string ⟨q.2.1.toArray⟩, .bool q.2.2] 29)).heap[w.heap.size]? = some (.cells #[.string ⟨q.1.toArray⟩, .string ⟨q.2.1.toArray⟩, .bool q.2.2] 29) := heap_alloc_new _ _
  have HB1 := Lib.hid hb1
  have HR1 := Lib.hid hr1
  have HZ1 := Lib.hid hz1
  rw [hq]
  have HQ := Lib.hid hq
  clear hb1 hr1 hz1 hq
  go_enter Try.func32, Try.ntmps32
  obtain ⟨key, val, gone⟩ := p
  cases gone
  case' false =>
    have hq2 : Hid (q = ⟨key, val, false⟩) := HQ.out.symm
    rw [hq2.out] at HB1 HR1 HZ1
  case' true =>
    have hq2 : Hid (q = ⟨key, [], true⟩) := HQ.out.symm
    rw [hq2.out] at HB1 HR1 HZ1
  all_goals clear HQ
  all_goals go_wp2_with fail
  all_goals try dsimp only at HB1 HR1 HZ1
  generalize w.alloc (.cells #[.string ⟨key.toArray⟩, .string ⟨#[]⟩, .bool true] 29) = W1 at *
  have HR : Hid (W1.heap[w.heap.size]? = some (.cells #[.string ⟨q.1.toArray⟩, .string ⟨q.2.1.toArray⟩, .bool q.2.2] 29)) := by rw [hq2.out]; exact HR1.out
  rotate_left
  generalize w.alloc (.cells #[.string ⟨key.toArray⟩, .string ⟨val.toArray⟩, .bool false] 29) = W1 at *
  have HR : Hid (W1.heap[w.heap.size]? = some (.cells #[.string ⟨q.1.toArray⟩, .string ⟨q.2.1.toArray⟩, .bool q.2.2] 29)) := by rw [hq2.out]; exact HR1.out
  all_goals
    clear hq2 HR1
    have hz0 : w.heap.size + 1 ≤ W1.heap.size := by have := HZ1.out; omega
    go_loopw [5, 6, 14] (fun o dn i wr => ∃ (k : Nat) (d : Bool), i = .int .i64 k ∧ k ≤ l.length ∧ dn = .bool d ∧ Hid ((runP q (l.take k)).2 = d) ∧ Hid (OwnTb wr (w.heap.size + 1) o (runP q (l.take k)).1) ∧ Hid (Below w.heap.size w wr) ∧ Hid (wr.heap[w.heap.size]? = some (.cells #[.string ⟨q.1.toArray⟩, .string ⟨q.2.1.toArray⟩, .bool q.2.2] 29)) ∧ w.heap.size + 1 ≤ wr.heap.size) (fun _ _ i _ => l.length - (intOf i).toNat)
    case atStart => exact ⟨0, false, rfl, by omega, rfl, rfl, OwnTb.nil _ _, HB1.out, HR.out, hz0⟩
    case round =>
      obtain ⟨k, d, rfl, hk, rfl, hd, ho, hbl, hrw, hsz⟩ := hrel
      have hro := hrw.out
      by_cases hlt : k < l.length
      · obtain ⟨x, hxk⟩ : ∃ x, l[k]? = some x := ⟨l[k], List.getElem?_eq_getElem hlt⟩
        obtain ⟨b2, off2, e2, hB2, d0, d1, d2⟩ := (H.out.below hbl.out).at hxk
        subst e2
        have htk := Lib.hid (runP_take (w := q) hxk)
        have hln : (runP q (l.take k)).1.length ≤ 2147483648 := by have := runP_len q (l.take k); rw [List.length_take] at this; omega
        obtain ⟨out, hout⟩ : ∃ o, (runP q (l.take k)).1 = o := ⟨_, rfl⟩
        have hrun : Hid (runP q (l.take k) = (out, d)) := Prod.ext hout hd.out
        rw [hout] at ho hln
        clear hout hd hxk
        have hb3 : Below w.heap.size w (wr.alloc (.cells #[.string ⟨x.1.toArray⟩, .string ⟨x.2.1.toArray⟩, .bool x.2.2] 29)) := hbl.out.trans (((Below.refl _ _).alloc (Nat.le_refl _) _).mono (by omega))
        have HB3 := Lib.hid hb3
        have hxr : ∀ o : Obj, (wr.alloc o).heap[wr.heap.size]? = some o := fun o => heap_alloc_new wr o
        have hqr : ∀ o : Obj, (wr.alloc o).heap[w.heap.size]? = some (.cells #[.string ⟨q.1.toArray⟩, .string ⟨q.2.1.toArray⟩, .bool q.2.2] 29) := fun o => (((Below.refl _ _).alloc (Nat.le_refl wr.heap.size) o).block _ (by omega)).trans hro
        have q0 : ∀ o : Obj, (wr.alloc o).cell? ⟨w.heap.size, 0, none⟩ = some (.string ⟨q.1.toArray⟩) := fun o => cell_of_row _ _ 0 _ _ _ (hqr o)
        have q1 : ∀ o : Obj, (wr.alloc o).cell? ⟨w.heap.size, 1, none⟩ = some (.string ⟨q.2.1.toArray⟩) := fun o => cell_of_row _ _ 1 _ _ _ (hqr o)
        have q2 : ∀ o : Obj, (wr.alloc o).cell? ⟨w.heap.size, 2, none⟩ = some (.bool q.2.2) := fun o => cell_of_row _ _ 2 _ _ _ (hqr o)
        have hoa : ∀ o : Obj, OwnTb (wr.alloc o) (w.heap.size + 1) u5 out := fun o => ho.out.alloc o
        have hza : ∀ o : Obj, (wr.alloc o).heap.size = wr.heap.size + 1 := fun o => by simp
        have HOA := Lib.hid hoa
        have HXR := Lib.hid hxr
        have HQR := Lib.hid hqr
        clear hb3 hxr hqr hro hoa
        have ho0 := ho.out
        clear ho
        have hbx : Op.bytesLess x.1 q.1 = decide (x.1 < q.1) := bytesLess_eq _ _
        by_cases heq : x.1 = q.1
        · have e2 : (x.1 == q.1) = true := by simpa using heq
          have hnl : ¬ x.1 < q.1 := by rw [heq]; exact less_irrefl _
          have e1 : Op.bytesLess x.1 q.1 = false := by rw [hbx]; simpa using hnl
          cases d
          · have hst : Hid (runP q (l.take (k + 1)) = (out ++ [q], true)) := by unfold Hid; rw [htk.out, hrun.out]; simp [stepP, heq]
            clear hbx heq hnl htk hrun
            go_wp2_with (at_builtin; refine wp_append_new rfl _ _ rfl q rfl (HOA.out _) (by rw [hza]; omega) (by rw [hza]; rfl) (by omega) ?_
                         intro v3 w3 ho3 hb3 hk3 hz3
                         have hx3 : w3.heap[wr.heap.size]? = some (.cells #[.string ⟨x.1.toArray⟩, .string ⟨x.2.1.toArray⟩, .bool x.2.2] 29) := (hk3 _ (by rw [hza]; omega) (own_not ho0 (.inr (Nat.le_refl _)))).trans (HXR.out _)
                         have hq3 : w3.heap[w.heap.size]? = some (.cells #[.string ⟨q.1.toArray⟩, .string ⟨q.2.1.toArray⟩, .bool q.2.2] 29) := (hk3 _ (by rw [hza]; omega) (own_not ho0 (.inl (Nat.lt_succ_self _)))).trans (HQR.out _)
                         have x0 := cell_of_row _ _ 0 _ _ _ hx3
                         have x1 := cell_of_row _ _ 1 _ _ _ hx3
                         have x2 := cell_of_row _ _ 2 _ _ _ hx3
                         have y0 := cell_of_row _ _ 0 _ _ _ hq3
                         have hz4 : w.heap.size + 1 ≤ w3.heap.size := Nat.le_trans (by rw [hza]; omega) hz3
                         have HO3 := Lib.hid ho3
                         have HB3' := Lib.hid (HB3.out.trans (hb3.mono (by omega)))
                         have HQ3 := Lib.hid hq3
                         clear ho3 hb3 hk3 hx3 hq3 q0 q1 q2)
            go_roundw
            case rel => exact ⟨k + 1, true, by go_num, by omega, rfl, by unfold Hid; rw [hst.out], by unfold Hid; rw [hst.out]; exact HO3.out, HB3'.out, HQ3.out, hz4⟩
            case measure => simp [intOf]; omega
          · have hst : Hid (runP q (l.take (k + 1)) = (out, true)) := by unfold Hid; rw [htk.out, hrun.out]; simp [stepP, heq]
            clear hbx heq hnl htk hrun e1
            go_wp2_with fail
            go_roundw
            case rel => exact ⟨k + 1, true, by go_num, by omega, rfl, by unfold Hid; rw [hst.out], by unfold Hid; rw [hst.out]; exact HOA.out _, HB3.out, HQR.out _, by rw [hza]; omega⟩
            case measure => simp [intOf]; omega
        · have e2 : (x.1 == q.1) = false := by simpa using heq
          cases d
          · by_cases hl2 : x.1 < q.1
            · have e1 : Op.bytesLess x.1 q.1 = true := by rw [hbx]; simpa using hl2
              have hst : Hid (runP q (l.take (k + 1)) = (out ++ [x], false)) := by unfold Hid; rw [htk.out, hrun.out]; simp [stepP, hl2, heq]
              clear hbx heq hl2 htk hrun
              go_wp2_with (at_builtin; refine wp_append_new rfl _ _ rfl x rfl (HOA.out _) (by rw [hza]; omega) (by rw [hza]; rfl) (by omega) ?_
                           intro v3 w3 ho3 hb3 hk3 hz3
                           have hq3 : w3.heap[w.heap.size]? = some (.cells #[.string ⟨q.1.toArray⟩, .string ⟨q.2.1.toArray⟩, .bool q.2.2] 29) := (hk3 _ (by rw [hza]; omega) (own_not ho0 (.inl (Nat.lt_succ_self _)))).trans (HQR.out _)
                           have hz4 : w.heap.size + 1 ≤ w3.heap.size := Nat.le_trans (by rw [hza]; omega) hz3
                           have HO3 := Lib.hid ho3
                           have HB3' := Lib.hid (HB3.out.trans (hb3.mono (by omega)))
                           have HQ3 := Lib.hid hq3
                           clear ho3 hb3 hk3 hq3)
              go_roundw
              case rel => exact ⟨k + 1, false, by go_num, by omega, rfl, by unfold Hid; rw [hst.out], by unfold Hid; rw [hst.out]; exact HO3.out, HB3'.out, HQ3.out, hz4⟩
              case measure => simp [intOf]; omega
            · have e1 : Op.bytesLess x.1 q.1 = false := by rw [hbx]; simpa using hl2
              have hst : Hid (runP q (l.take (k + 1)) = (out ++ [q] ++ [x], true)) := by unfold Hid; rw [htk.out, hrun.out]; simp [stepP, hl2, heq]
              clear hbx heq hl2 htk hrun
              have hln2 : (out ++ [q]).length + 1 ≤ 1099511627776 := by simp; omega
              go_wp2_with (first
                | (at_builtin; refine wp_append_new rfl _ _ rfl q rfl (HOA.out _) (by rw [hza]; omega) (by rw [hza]; rfl) (by omega) ?_
                   intro v3 w3 ho3 hb3 hk3 hz3
                   have hx3 : w3.heap[wr.heap.size]? = some (.cells #[.string ⟨x.1.toArray⟩, .string ⟨x.2.1.toArray⟩, .bool x.2.2] 29) := (hk3 _ (by rw [hza]; omega) (own_not ho0 (.inr (Nat.le_refl _)))).trans (HXR.out _)
                   have hq3 : w3.heap[w.heap.size]? = some (.cells #[.string ⟨q.1.toArray⟩, .string ⟨q.2.1.toArray⟩, .bool q.2.2] 29) := (hk3 _ (by rw [hza]; omega) (own_not ho0 (.inl (Nat.lt_succ_self _)))).trans (HQR.out _)
                   have x0 := cell_of_row _ _ 0 _ _ _ hx3
                   have x1 := cell_of_row _ _ 1 _ _ _ hx3
                   have x2 := cell_of_row _ _ 2 _ _ _ hx3
                   have y0 := cell_of_row _ _ 0 _ _ _ hq3
                   have hz4 : w.heap.size + 1 ≤ w3.heap.size := Nat.le_trans (by rw [hza]; omega) hz3
                   have HO3 := Lib.hid ho3
                   have HB3' := Lib.hid (HB3.out.trans (hb3.mono (by omega)))
                   have HQ3 := Lib.hid hq3
                   clear ho3 hb3 hk3 hx3 hq3 q0 q1 q2)
                | (at_builtin; refine wp_append_new rfl _ _ rfl x rfl HO3.out hz4 rfl hln2 ?_
                   intro v5 w5 ho5 hb5 hk5 hz5
                   have hq5 : w5.heap[w.heap.size]? = some (.cells #[.string ⟨q.1.toArray⟩, .string ⟨q.2.1.toArray⟩, .bool q.2.2] 29) := (hk5 _ (by omega) (own_not HO3.out (.inl (Nat.lt_succ_self _)))).trans HQ3.out
                   have hz6 : w.heap.size + 1 ≤ w5.heap.size := Nat.le_trans hz4 hz5
                   have HO5 := Lib.hid ho5
                   have HB5 := Lib.hid (HB3'.out.trans (hb5.mono (by omega)))
                   have HQ5 := Lib.hid hq5
                   clear ho5 hb5 hk5 hq5))
              go_roundw
              case rel => exact ⟨k + 1, true, by go_num, by omega, rfl, by unfold Hid; rw [hst.out], by unfold Hid; rw [hst.out]; exact HO5.out, HB5.out, HQ5.out, hz6⟩
              case measure => simp [intOf]; omega
          · have hst : Hid (runP q (l.take (k + 1)) = (out ++ [x], true)) := by unfold Hid; rw [htk.out, hrun.out]; simp [stepP, heq]
            clear hbx heq htk hrun
            go_wp2_with (at_builtin; refine wp_append_new rfl _ _ rfl x rfl (HOA.out _) (by rw [hza]; omega) (by rw [hza]; rfl) (by omega) ?_
                         intro v3 w3 ho3 hb3 hk3 hz3
                         have hq3 : w3.heap[w.heap.size]? = some (.cells #[.string ⟨q.1.toArray⟩, .string ⟨q.2.1.toArray⟩, .bool q.2.2] 29) := (hk3 _ (by rw [hza]; omega) (own_not ho0 (.inl (Nat.lt_succ_self _)))).trans (HQR.out _)
                         have hz4 : w.heap.size + 1 ≤ w3.heap.size := Nat.le_trans (by rw [hza]; omega) hz3
                         have HO3 := Lib.hid ho3
                         have HB3' := Lib.hid (HB3.out.trans (hb3.mono (by omega)))
                         have HQ3 := Lib.hid hq3
                         clear ho3 hb3 hk3 hq3)
            go_roundw
            case rel => exact ⟨k + 1, true, by go_num, by omega, rfl, by unfold Hid; rw [hst.out], by unfold Hid; rw [hst.out]; exact HO3.out, HB3'.out, HQ3.out, hz4⟩
            case measure => simp [intOf]; omega
      · have hfin : Hid (finP q (runP q l) = insW l q) := runP_ins q l
        have hd2 := hd.out
        have ho2 := ho.out
        rw [List.take_of_length_le (by omega)] at hd2 ho2
        have HD2 := Lib.hid hd2
        have HO2 := Lib.hid ho2
        have hln : (runP q l).1.length ≤ 2147483648 := by have := runP_len q l; omega
        have q0 := cell_of_row _ _ 0 _ _ _ hro
        have q1 := cell_of_row _ _ 1 _ _ _ hro
        have q2 := cell_of_row _ _ 2 _ _ _ hro
        clear hd ho hd2 ho2 hro
        cases d
        · go_wp2_with (at_builtin; refine wp_append_new rfl _ _ rfl q rfl HO2.out (by omega) rfl (by omega) ?_; intro v3 w3 ho3 hb3 _ _; have HO3 := Lib.hid ho3; have HB3 := Lib.hid hb3; clear ho3 hb3)
          go_ret
          refine ⟨_, rfl, ?_, hbl.out.trans (HB3.out.mono (by omega))⟩
          have h1 := hfin.out
          unfold finP at h1
          rw [HD2.out] at h1
          rw [← h1]
          exact HO3.out.lower (by omega)
        · go_wp2_with fail
          go_ret
          refine ⟨_, rfl, ?_, hbl.out⟩
          have h1 := hfin.out
          unfold finP at h1
          rw [HD2.out] at h1
          rw [← h1]
          exact HO2.out.lower (by omega)

end Go.Proofs.Ytcliknmcefcaeaa.Cd
