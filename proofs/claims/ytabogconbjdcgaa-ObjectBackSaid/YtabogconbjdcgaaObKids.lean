/-
  object.goodKids. Conditions: none.
-/
import Derived.Test.YtabogconbjdcgaaObGood
import Derived.Test.YtabogconbjdcgaaByHand
namespace Go.Proofs.Ytabogconbjdcgaa.Cd
open Go.RowKit

section
variable {P : Program} {md : Region.Mode} {ops : Array Oper} {Q : Exit → Act → World → Prop} {S : World → Prop} {i fuel : Nat} {listed : Array Bool} {a : Act} {w : World}
/-- An operation that isn't wanted. -/
theorem skip_at (d : Option Nat) (h : i < ops.size) (hd : (ops[i]'h).dst = d) (hs : Region.noSelect ops = true) (hf : Region.free md ops listed i = true) (hr : (Region.ready md ops listed).contains i = true)
    (hQ : ∀ c a w, Q (.panic c) (a.put d undef) w → Q (.panic c) a w) (hw : Region.wanted (ops[i]'h) (yielded ops a.tmps) = false) (hS : S w)
    (hrest : wpAnyH P md ops Q S fuel (listed.setIfInBounds i true) (a.put d undef) w) : wpAnyH P md ops Q S (fuel + 1) listed a w := by
  subst hd
  exact wpAnyH_take (Array.getElem?_eq_getElem h) hs hf hr hQ (.inr ⟨hw, rfl⟩) hS hrest
end

theorem exec_load_mid {op : Oper} {a : Act} {w : World} (ty : TypeId) (x : Operand) (ho : op.op = .load ty x)
    (b o : Nat) (hx : a.eval x = .pointer (some ⟨b, o, none⟩)) (cs : List Value) (d : TypeDesc) (hS : w.rangeAt b o cs)
    (hu : Try.prog.underlying ty = some d) (hd : d.isRow = true) (hi : (Try.prog.info? ty).map (·.size) = some cs.length) : (execOp a.eval op).run Try.prog w = .ok (.value (.agg cs.toArray)) w := by
  unfold execOp
  simp only [ho, hx, Instr.loadAt, Instr.sureAddr, Sem.run_bind, Sem.run_pure, Result.andThen_ok, run_loadVar_mid w b o ty cs d hS hu hd hi]

theorem cells_kk (p : Kd) : (Try.prog.info? 59).map (·.size) = some (kkC p).length := by
  rw [kind_kk.len]
  kernel_rfl
theorem cells_ii (p : Idn) : (Try.prog.info? 41).map (·.size) = some (vb p.1).length := by
  rw [vb_length, p.2]
  exact cells_id
theorem zero_kk (W : World) : (zeroValue 59).run Try.prog W = .ok (.agg (Value.string ByteArray.empty :: vb (zer 33)).toArray) W := by kernel_rfl
theorem size_kk : (Try.prog.info? 59).map (·.size) = some 34 := by kernel_rfl

/-- A kid in a block of its own. -/
def KidAt (w : World) (b : Nat) (p : Kd) : Prop := w.heap[b]? = some (.cells (kkC p).toArray 59)
section
variable {w w' : World} {b B : Nat} {p : Kd}
theorem KidAt.below (h : KidAt w b p) (hb : Below B w w') (hB : b < B) : KidAt w' b p := (hb.block b hB).trans h
theorem KidAt.key (h : KidAt w b p) : w.cell? ⟨b, 0, none⟩ = some (.string ⟨p.1.toArray⟩) := cell_of_row _ _ _ _ _ _ h
theorem vb_kd (i : Idn) : (vb i.1)[0]? = some (.int .u8 (kd i).toNat) := by
  obtain ⟨k, s, e, _, hk⟩ := idn_cons i
  rw [e, hk]
  rfl
theorem KidAt.kind (h : KidAt w b p) : w.cell? ⟨b, 1, none⟩ = some (.int .u8 (kd p.2).toNat) :=
  (cell_of_row _ _ _ _ _ _ h).trans (by
    show (kkC p).toArray[1]? = _
    rw [List.getElem?_toArray]
    exact vb_kd p.2)
theorem KidAt.id (h : KidAt w b p) : w.rangeAt b 1 (vb p.2.1) := fun j v hv => by
  rw [cell_of_row _ _ _ _ _ _ h, List.getElem?_toArray, Nat.add_comm]
  exact hv
end
theorem KidAt.new (w : World) (p : Kd) : KidAt (w.alloc (.cells (kkC p).toArray 59)) w.heap.size p := heap_alloc_new _ _

theorem wp_fill_kk {ops : Array Oper} {rest : List Oper} {o : Oper} {a : Act} {W w : World} {Q : Exit → Act → World → Prop} (hgd : o.guard = none) (x y : Operand) (ho : o.op = .store 59 x y)
    (hW : W = w.alloc (.cells (Value.string ByteArray.empty :: vb (zer 33)).toArray 59))
    (hx : a.eval x = .pointer (some ⟨w.heap.size, 0, none⟩)) (p : Kd) (hy : a.eval y = .agg (kkC p).toArray)
    (h : wpList Try.prog ops Q rest (a.put o.dst undef) (w.alloc (.cells (kkC p).toArray 59))) : wpList Try.prog ops Q (o :: rest) a W := by
  subst hW
  exact wp_fill_row size_kk hgd x y ho _ (by simp [vb_length, zer_length]) _ hx hy (by simp [kind_kk.len p]) (fun u hu => kind_kk.one p u (by simpa using hu)) h
theorem KsIn.range {w : World} {B : Nat} {l : List Kd} {A : Option Addr} {m c : Nat} (h : KsIn w B (.slice A m c) l) {k : Nat} {p : Kd} (hk : l[k]? = some p) :
    ∃ b off, A = some ⟨b, off, none⟩ ∧ b < B ∧ w.rangeAt b (off + k * 34) (kkC p) := RwIn.at h hk
theorem range_key {w : World} {b off : Nat} {p : Kd} (h : w.rangeAt b off (kkC p)) : w.cell? ⟨b, off, none⟩ = some (.string ⟨p.1.toArray⟩) := h 0 _ rfl
theorem range_kind {w : World} {b off : Nat} {p : Kd} (h : w.rangeAt b off (kkC p)) : w.cell? ⟨b, off + 1, none⟩ = some (.int .u8 (kd p.2).toNat) := h 1 _ (by
    show (vb p.2.1)[0]? = _
    exact vb_kd p.2)

set_option maxRecDepth 100000 in
set_option maxHeartbeats 3200000 in
theorem goodks_any (v : Value) (l : List Kd) (w : World) (h : KsIn w w.heap.size v l) : Calls Try.prog 29 #[v] w (Says (GoodKs l) w) := by
  obtain ⟨A, c, rfl, hm1, hm2⟩ := h.len
  have H := Lib.hid h
  clear h
  by_cases hbig : l.length < 2 ∨ 3 < l.length
  · have hno : Hid (¬ GoodKs l) := fun h => by have := h.few; have := h.more; omega
    have hways : (l.length : Int) < 2 ∨ (¬ (l.length : Int) < 2 ∧ (3 : Int) < l.length) := by omega
    clear hbig
    rcases hways with h1 | ⟨h1, h2⟩
    all_goals
      go_enter Try.func29, Try.ntmps29
      go_wp2_with fail
      go_ret
      exact ⟨false, rfl, ⟨(fun h => by cases h), fun h => absurd h hno.out⟩, Below.refl _ _⟩
  have hb1 : ¬ (l.length : Int) < 2 := by omega
  have hb2 : ¬ (3 : Int) < l.length := by omega
  obtain ⟨y0, hy0⟩ : ∃ x, l[0]? = some x := ⟨l[0]'(by omega), List.getElem?_eq_getElem (by omega)⟩
  have HY0 := Lib.hid hy0
  clear hy0 hbig
  obtain ⟨b2, off2, e2, hB2, r0⟩ := KsIn.range H.out HY0.out
  subst e2
  rw [show off2 + 0 * 34 = off2 by omega] at r0
  have R0 := Lib.hid r0
  clear r0
  go_enter Try.func29, Try.ntmps29
  go_wp2_with fail
  go_loopw [15] (fun i wr => ∃ k : Nat, i = .int .i64 k ∧ k ≤ l.length ∧ Hid (∀ (j : Nat) p, j < k → l[j]? = some p → p.1.length ≤ 16 ∧ goodI p.2.1 = true ∧ kd p.2 = kd y0.2) ∧ Hid (∀ (j : Nat) a b, j + 1 < k → l[j]? = some a → l[j + 1]? = some b → a.1 < b.1) ∧ Hid (Below w.heap.size w wr)) (fun i _ => l.length - (intOf i).toNat)
  case atStart => exact ⟨0, rfl, by omega, fun j _ h => by omega, fun j _ _ h => by omega, Below.refl _ _⟩
  case round =>
    obtain ⟨k, rfl, hk, hp, hq, hbl⟩ := hrel
    by_cases hlt : k < l.length
    · obtain ⟨x, hxk⟩ : ∃ x, l[k]? = some x := ⟨l[k], List.getElem?_eq_getElem hlt⟩
      obtain ⟨b3, off3, e3, hB3, rx⟩ := KsIn.range (H.out.below hbl.out) hxk
      injection e3 with e3
      injection e3 with e3 e4
      subst e3 e4
      have HX := Lib.hid hxk
      have RX := Lib.hid rx
      clear hxk rx hB3
      go_wp2_with (first
        | (refine wpList_load_mid rfl 59 _ rfl b2 (off2 + k * 34) rfl (kkC x) _ RX.out Try.underlying59 rfl (cells_kk x) ?_)
        | (refine wp_alloc_row zero_kk rfl rfl ?_)
        | (refine wp_fill_kk rfl _ _ rfl rfl (by simp [Act.eval]) x rfl ?_))
      have HK : Hid (KidAt (wr.alloc (.cells (kkC x).toArray 59)) wr.heap.size x) := KidAt.new _ _
      have hz1 : (wr.alloc (.cells (kkC x).toArray 59)).heap.size = wr.heap.size + 1 := asz _ _
      have HB1 : Hid (Below w.heap.size w (wr.alloc (.cells (kkC x).toArray 59))) := hbl.out.alloc hbl.out.size _
      generalize wr.alloc (.cells (kkC x).toArray 59) = W1 at HK hz1 HB1 ⊢
      have hzr := hbl.out.size
      clear RX
      obtain ⟨W0, hW0⟩ : ∃ x, W1.drew = x := ⟨_, rfl⟩
      have hS0 : KidAt W0 wr.heap.size x ∧ W0.rangeAt b2 off2 (kkC y0) := by
        rw [← hW0]
        exact ⟨HK.out, fun j v hv => (HB1.out.drew.cell (p := ⟨b2, off2 + j, none⟩) hB2).trans (R0.out j v hv)⟩
      have HBD : Hid (Below w.heap.size w W0) := by rw [← hW0]; exact HB1.out.drew
      have hsz0 : W0.heap.size = wr.heap.size + 1 := by rw [← hW0]; exact hz1
      clear HB1 hz1 HK
      have hzk : (ByteArray.mk x.1.toArray).size = x.1.length := rfl
      have hl0 : (0 : Int) < l.length := by omega
      by_cases hs1 : 16 < x.1.length
      · have hno : Hid (¬ GoodKs l) := fun h => by have := h.key _ (List.mem_of_getElem? HX.out); omega
        have hd1 : decide ((16 : Int) < x.1.length) = true := decide_eq_true (by omega)
        refine region_begin hW0 (S := fun W => KidAt W wr.heap.size x ∧ W.rangeAt b2 off2 (kkC y0)) (by kernel_rfl) hS0 (fun hHeld => ?_)
        clear hW0 hS0
        refine take_at (i := 0) (.pointer (some ⟨wr.heap.size, 0, none⟩)) (some 20) (by decide) (by rfl) (by kernel_rfl) (by kernel_rfl) (by kernel_rfl) (fun _ _ _ h => h) (by rfl) (fun W hW => by go_simp) (by assumption) ?_
        try simp only [Act.put, List.setIfInBounds_toArray, List.set_cons_zero, List.set_cons_succ]
        refine take_at (i := 1) (.string ⟨x.1.toArray⟩) (some 21) (by decide) (by rfl) (by kernel_rfl) (by kernel_rfl) (by kernel_rfl) (fun _ _ _ h => h) (by rfl) (fun W hW => by have := hW.1.key; go_simp) (by assumption) ?_
        try simp only [Act.put, List.setIfInBounds_toArray, List.set_cons_zero, List.set_cons_succ]
        refine take_at (i := 2) (.int .i64 x.1.length) (some 22) (by decide) (by rfl) (by kernel_rfl) (by kernel_rfl) (by kernel_rfl) (fun _ _ _ h => h) (by rfl) (fun W hW => by go_simp) (by assumption) ?_
        try simp only [Act.put, List.setIfInBounds_toArray, List.set_cons_zero, List.set_cons_succ]
        refine take_at (i := 3) (.bool true) (some 23) (by decide) (by rfl) (by kernel_rfl) (by kernel_rfl) (by kernel_rfl) (fun _ _ _ h => h) (by rfl) (fun W hW => by go_simp) (by assumption) ?_
        try simp only [Act.put, List.setIfInBounds_toArray, List.set_cons_zero, List.set_cons_succ]
        refine take_at (i := 4) (.bool true) (some 24) (by decide) (by rfl) (by kernel_rfl) (by kernel_rfl) (by kernel_rfl) (fun _ _ _ h => h) (by rfl) (fun W hW => by go_simp) (by assumption) ?_
        try simp only [Act.put, List.setIfInBounds_toArray, List.set_cons_zero, List.set_cons_succ]
        refine skip_at (i := 5) (some 25) (by decide) (by rfl) (by kernel_rfl) (by kernel_rfl) (by kernel_rfl) (fun _ _ _ h => h) (by rfl) (by assumption) ?_
        try simp only [Act.put, List.setIfInBounds_toArray, List.set_cons_zero, List.set_cons_succ]
        refine skip_at (i := 6) (some 26) (by decide) (by rfl) (by kernel_rfl) (by kernel_rfl) (by kernel_rfl) (fun _ _ _ h => h) (by rfl) (by assumption) ?_
        try simp only [Act.put, List.setIfInBounds_toArray, List.set_cons_zero, List.set_cons_succ]
        refine skip_at (i := 7) (some 27) (by decide) (by rfl) (by kernel_rfl) (by kernel_rfl) (by kernel_rfl) (fun _ _ _ h => h) (by rfl) (by assumption) ?_
        try simp only [Act.put, List.setIfInBounds_toArray, List.set_cons_zero, List.set_cons_succ]
        refine skip_at (i := 8) (some 28) (by decide) (by rfl) (by kernel_rfl) (by kernel_rfl) (by kernel_rfl) (fun _ _ _ h => h) (by rfl) (by assumption) ?_
        try simp only [Act.put, List.setIfInBounds_toArray, List.set_cons_zero, List.set_cons_succ]
        refine take_at (i := 9) (.bool true) (some 29) (by decide) (by rfl) (by kernel_rfl) (by kernel_rfl) (by kernel_rfl) (fun _ _ _ h => h) (by rfl) (fun W hW => by go_simp) (by assumption) ?_
        try simp only [Act.put, List.setIfInBounds_toArray, List.set_cons_zero, List.set_cons_succ]
        refine take_at (i := 10) (.bool true) (some 30) (by decide) (by rfl) (by kernel_rfl) (by kernel_rfl) (by kernel_rfl) (fun _ _ _ h => h) (by rfl) (fun W hW => by go_simp) (by assumption) ?_
        try simp only [Act.put, List.setIfInBounds_toArray, List.set_cons_zero, List.set_cons_succ]
        refine skip_at (i := 11) (some 31) (by decide) (by rfl) (by kernel_rfl) (by kernel_rfl) (by kernel_rfl) (fun _ _ _ h => h) (by rfl) (by assumption) ?_
        try simp only [Act.put, List.setIfInBounds_toArray, List.set_cons_zero, List.set_cons_succ]
        refine skip_at (i := 12) (some 32) (by decide) (by rfl) (by kernel_rfl) (by kernel_rfl) (by kernel_rfl) (fun _ _ _ h => h) (by rfl) (by assumption) ?_
        try simp only [Act.put, List.setIfInBounds_toArray, List.set_cons_zero, List.set_cons_succ]
        refine skip_at (i := 13) (some 33) (by decide) (by rfl) (by kernel_rfl) (by kernel_rfl) (by kernel_rfl) (fun _ _ _ h => h) (by rfl) (by assumption) ?_
        try simp only [Act.put, List.setIfInBounds_toArray, List.set_cons_zero, List.set_cons_succ]
        refine skip_at (i := 14) (some 34) (by decide) (by rfl) (by kernel_rfl) (by kernel_rfl) (by kernel_rfl) (fun _ _ _ h => h) (by rfl) (by assumption) ?_
        try simp only [Act.put, List.setIfInBounds_toArray, List.set_cons_zero, List.set_cons_succ]
        refine skip_at (i := 15) (some 35) (by decide) (by rfl) (by kernel_rfl) (by kernel_rfl) (by kernel_rfl) (fun _ _ _ h => h) (by rfl) (by assumption) ?_
        try simp only [Act.put, List.setIfInBounds_toArray, List.set_cons_zero, List.set_cons_succ]
        refine skip_at (i := 16) (some 36) (by decide) (by rfl) (by kernel_rfl) (by kernel_rfl) (by kernel_rfl) (fun _ _ _ h => h) (by rfl) (by assumption) ?_
        try simp only [Act.put, List.setIfInBounds_toArray, List.set_cons_zero, List.set_cons_succ]
        refine skip_at (i := 17) (some 37) (by decide) (by rfl) (by kernel_rfl) (by kernel_rfl) (by kernel_rfl) (fun _ _ _ h => h) (by rfl) (by assumption) ?_
        try simp only [Act.put, List.setIfInBounds_toArray, List.set_cons_zero, List.set_cons_succ]
        refine skip_at (i := 18) (some 38) (by decide) (by rfl) (by kernel_rfl) (by kernel_rfl) (by kernel_rfl) (fun _ _ _ h => h) (by rfl) (by assumption) ?_
        try simp only [Act.put, List.setIfInBounds_toArray, List.set_cons_zero, List.set_cons_succ]
        refine skip_at (i := 19) (some 39) (by decide) (by rfl) (by kernel_rfl) (by kernel_rfl) (by kernel_rfl) (fun _ _ _ h => h) (by rfl) (by assumption) ?_
        try simp only [Act.put, List.setIfInBounds_toArray, List.set_cons_zero, List.set_cons_succ]
        refine take_at (i := 20) (.bool true) (some 40) (by decide) (by rfl) (by kernel_rfl) (by kernel_rfl) (by kernel_rfl) (fun _ _ _ h => h) (by rfl) (fun W hW => by go_simp) (by assumption) ?_
        try simp only [Act.put, List.setIfInBounds_toArray, List.set_cons_zero, List.set_cons_succ]
        refine wpAnyH_done (by kernel_rfl) ?_ _
        try simp only [Act.put, List.setIfInBounds_toArray, List.set_cons_zero, List.set_cons_succ]
        go_wp2_with fail
        go_ret
        exact ⟨false, rfl, ⟨(fun h => by cases h), fun h => absurd h hno.out⟩, HBD.out⟩
      have hd1 : decide ((16 : Int) < x.1.length) = false := decide_eq_false (by omega)
      have hgood := fun W => good_l x.2.1 W x.2.2
      cases hg : goodI x.2.1
      · have hno : Hid (¬ GoodKs l) := fun h => by have := h.name _ (List.mem_of_getElem? HX.out); rw [hg] at this; cases this
        rw [hg] at hgood
        have HGOOD := Lib.hid hgood
        clear hgood hg
        refine region_begin hW0 (S := fun W => KidAt W wr.heap.size x ∧ W.rangeAt b2 off2 (kkC y0)) (by kernel_rfl) hS0 (fun hHeld => ?_)
        clear hW0 hS0
        refine take_at (i := 0) (.pointer (some ⟨wr.heap.size, 0, none⟩)) (some 20) (by decide) (by rfl) (by kernel_rfl) (by kernel_rfl) (by kernel_rfl) (fun _ _ _ h => h) (by rfl) (fun W hW => by go_simp) (by assumption) ?_
        try simp only [Act.put, List.setIfInBounds_toArray, List.set_cons_zero, List.set_cons_succ]
        refine take_at (i := 1) (.string ⟨x.1.toArray⟩) (some 21) (by decide) (by rfl) (by kernel_rfl) (by kernel_rfl) (by kernel_rfl) (fun _ _ _ h => h) (by rfl) (fun W hW => by have := hW.1.key; go_simp) (by assumption) ?_
        try simp only [Act.put, List.setIfInBounds_toArray, List.set_cons_zero, List.set_cons_succ]
        refine take_at (i := 2) (.int .i64 x.1.length) (some 22) (by decide) (by rfl) (by kernel_rfl) (by kernel_rfl) (by kernel_rfl) (fun _ _ _ h => h) (by rfl) (fun W hW => by go_simp) (by assumption) ?_
        try simp only [Act.put, List.setIfInBounds_toArray, List.set_cons_zero, List.set_cons_succ]
        refine take_at (i := 3) (.bool false) (some 23) (by decide) (by rfl) (by kernel_rfl) (by kernel_rfl) (by kernel_rfl) (fun _ _ _ h => h) (by rfl) (fun W hW => by go_simp) (by assumption) ?_
        try simp only [Act.put, List.setIfInBounds_toArray, List.set_cons_zero, List.set_cons_succ]
        refine take_at (i := 4) (.bool false) (some 24) (by decide) (by rfl) (by kernel_rfl) (by kernel_rfl) (by kernel_rfl) (fun _ _ _ h => h) (by rfl) (fun W hW => by go_simp) (by assumption) ?_
        try simp only [Act.put, List.setIfInBounds_toArray, List.set_cons_zero, List.set_cons_succ]
        refine take_at (i := 5) (.pointer (some ⟨wr.heap.size, 1, none⟩)) (some 25) (by decide) (by rfl) (by kernel_rfl) (by kernel_rfl) (by kernel_rfl) (fun _ _ _ h => h) (by rfl) (fun W hW => by go_simp) (by assumption) ?_
        try simp only [Act.put, List.setIfInBounds_toArray, List.set_cons_zero, List.set_cons_succ]
        refine take_at (i := 6) (idV x.2.1) (some 26) (by decide) (by rfl) (by kernel_rfl) (by kernel_rfl) (by kernel_rfl) (fun _ _ _ h => h) (by rfl) (fun W hW => by exact exec_load_mid _ _ rfl wr.heap.size 1 rfl (vb x.2.1) _ hW.1.id Try.underlying41 rfl (cells_ii x.2)) (by assumption) ?_
        try simp only [Act.put, List.setIfInBounds_toArray, List.set_cons_zero, List.set_cons_succ]
        refine wpAnyH_ready (rs := [7]) (by kernel_rfl) (by simp) (AllReadyH.cons (Array.getElem?_eq_getElem (i := 7) (by decide)) (fun K9 hK => ?_) AllReadyH.nil)
        go_simp
        refine (HGOOD.out _).mono ?_
        rintro e w3 ⟨rfl, hb3⟩
        have HB3 := Lib.hid (HBD.out.trans (hb3.mono (by omega)))
        have hs3 := hb3.size
        refine hK.out _ _ (⟨hHeld.1.below hb3 (by omega), fun j v hv => (hb3.cell (p := ⟨b2, off2 + j, none⟩) (by show b2 < W0.heap.size; omega)).trans (hHeld.2 j v hv)⟩) (fun hHeld => ?_)
        clear hK K9
        try simp only [Act.put, List.setIfInBounds_toArray, List.set_cons_zero, List.set_cons_succ]
        clear hb3
        refine take_at (i := 8) (.bool true) (some 28) (by decide) (by rfl) (by kernel_rfl) (by kernel_rfl) (by kernel_rfl) (fun _ _ _ h => h) (by rfl) (fun W hW => by go_simp) (by assumption) ?_
        try simp only [Act.put, List.setIfInBounds_toArray, List.set_cons_zero, List.set_cons_succ]
        refine take_at (i := 9) (.bool true) (some 29) (by decide) (by rfl) (by kernel_rfl) (by kernel_rfl) (by kernel_rfl) (fun _ _ _ h => h) (by rfl) (fun W hW => by go_simp) (by assumption) ?_
        try simp only [Act.put, List.setIfInBounds_toArray, List.set_cons_zero, List.set_cons_succ]
        refine take_at (i := 10) (.bool true) (some 30) (by decide) (by rfl) (by kernel_rfl) (by kernel_rfl) (by kernel_rfl) (fun _ _ _ h => h) (by rfl) (fun W hW => by go_simp) (by assumption) ?_
        try simp only [Act.put, List.setIfInBounds_toArray, List.set_cons_zero, List.set_cons_succ]
        refine skip_at (i := 11) (some 31) (by decide) (by rfl) (by kernel_rfl) (by kernel_rfl) (by kernel_rfl) (fun _ _ _ h => h) (by rfl) (by assumption) ?_
        try simp only [Act.put, List.setIfInBounds_toArray, List.set_cons_zero, List.set_cons_succ]
        refine skip_at (i := 12) (some 32) (by decide) (by rfl) (by kernel_rfl) (by kernel_rfl) (by kernel_rfl) (fun _ _ _ h => h) (by rfl) (by assumption) ?_
        try simp only [Act.put, List.setIfInBounds_toArray, List.set_cons_zero, List.set_cons_succ]
        refine skip_at (i := 13) (some 33) (by decide) (by rfl) (by kernel_rfl) (by kernel_rfl) (by kernel_rfl) (fun _ _ _ h => h) (by rfl) (by assumption) ?_
        try simp only [Act.put, List.setIfInBounds_toArray, List.set_cons_zero, List.set_cons_succ]
        refine skip_at (i := 14) (some 34) (by decide) (by rfl) (by kernel_rfl) (by kernel_rfl) (by kernel_rfl) (fun _ _ _ h => h) (by rfl) (by assumption) ?_
        try simp only [Act.put, List.setIfInBounds_toArray, List.set_cons_zero, List.set_cons_succ]
        refine skip_at (i := 15) (some 35) (by decide) (by rfl) (by kernel_rfl) (by kernel_rfl) (by kernel_rfl) (fun _ _ _ h => h) (by rfl) (by assumption) ?_
        try simp only [Act.put, List.setIfInBounds_toArray, List.set_cons_zero, List.set_cons_succ]
        refine skip_at (i := 16) (some 36) (by decide) (by rfl) (by kernel_rfl) (by kernel_rfl) (by kernel_rfl) (fun _ _ _ h => h) (by rfl) (by assumption) ?_
        try simp only [Act.put, List.setIfInBounds_toArray, List.set_cons_zero, List.set_cons_succ]
        refine skip_at (i := 17) (some 37) (by decide) (by rfl) (by kernel_rfl) (by kernel_rfl) (by kernel_rfl) (fun _ _ _ h => h) (by rfl) (by assumption) ?_
        try simp only [Act.put, List.setIfInBounds_toArray, List.set_cons_zero, List.set_cons_succ]
        refine skip_at (i := 18) (some 38) (by decide) (by rfl) (by kernel_rfl) (by kernel_rfl) (by kernel_rfl) (fun _ _ _ h => h) (by rfl) (by assumption) ?_
        try simp only [Act.put, List.setIfInBounds_toArray, List.set_cons_zero, List.set_cons_succ]
        refine skip_at (i := 19) (some 39) (by decide) (by rfl) (by kernel_rfl) (by kernel_rfl) (by kernel_rfl) (fun _ _ _ h => h) (by rfl) (by assumption) ?_
        try simp only [Act.put, List.setIfInBounds_toArray, List.set_cons_zero, List.set_cons_succ]
        refine take_at (i := 20) (.bool true) (some 40) (by decide) (by rfl) (by kernel_rfl) (by kernel_rfl) (by kernel_rfl) (fun _ _ _ h => h) (by rfl) (fun W hW => by go_simp) (by assumption) ?_
        try simp only [Act.put, List.setIfInBounds_toArray, List.set_cons_zero, List.set_cons_succ]
        refine wpAnyH_done (by kernel_rfl) ?_ _
        try simp only [Act.put, List.setIfInBounds_toArray, List.set_cons_zero, List.set_cons_succ]
        go_wp2_with fail
        go_ret
        exact ⟨false, rfl, ⟨(fun h => by cases h), fun h => absurd h hno.out⟩, HB3.out⟩
      · have HG := Lib.hid hg
        rw [hg] at hgood
        have HGOOD := Lib.hid hgood
        clear hgood hg
        by_cases hkk : kd x.2 = kd y0.2
        · have hp2 : Hid (∀ (j : Nat) p, j < k + 1 → l[j]? = some p → p.1.length ≤ 16 ∧ goodI p.2.1 = true ∧ kd p.2 = kd y0.2) := fun j p hj hjp => by
            by_cases e : j = k
            · subst e
              rw [HX.out] at hjp
              injection hjp with hjp
              subst hjp
              exact ⟨by omega, HG.out, hkk⟩
            · exact hp.out j p (by omega) hjp
          have hnq : (((kd x.2).toNat : Int) != ((kd y0.2).toNat : Int)) = false := by rw [hkk]; simp
          clear hkk
          refine region_begin hW0 (S := fun W => KidAt W wr.heap.size x ∧ W.rangeAt b2 off2 (kkC y0)) (by kernel_rfl) hS0 (fun hHeld => ?_)
          clear hW0 hS0
          refine take_at (i := 0) (.pointer (some ⟨wr.heap.size, 0, none⟩)) (some 20) (by decide) (by rfl) (by kernel_rfl) (by kernel_rfl) (by kernel_rfl) (fun _ _ _ h => h) (by rfl) (fun W hW => by go_simp) (by assumption) ?_
          try simp only [Act.put, List.setIfInBounds_toArray, List.set_cons_zero, List.set_cons_succ]
          refine take_at (i := 1) (.string ⟨x.1.toArray⟩) (some 21) (by decide) (by rfl) (by kernel_rfl) (by kernel_rfl) (by kernel_rfl) (fun _ _ _ h => h) (by rfl) (fun W hW => by have := hW.1.key; go_simp) (by assumption) ?_
          try simp only [Act.put, List.setIfInBounds_toArray, List.set_cons_zero, List.set_cons_succ]
          refine take_at (i := 2) (.int .i64 x.1.length) (some 22) (by decide) (by rfl) (by kernel_rfl) (by kernel_rfl) (by kernel_rfl) (fun _ _ _ h => h) (by rfl) (fun W hW => by go_simp) (by assumption) ?_
          try simp only [Act.put, List.setIfInBounds_toArray, List.set_cons_zero, List.set_cons_succ]
          refine take_at (i := 3) (.bool false) (some 23) (by decide) (by rfl) (by kernel_rfl) (by kernel_rfl) (by kernel_rfl) (fun _ _ _ h => h) (by rfl) (fun W hW => by go_simp) (by assumption) ?_
          try simp only [Act.put, List.setIfInBounds_toArray, List.set_cons_zero, List.set_cons_succ]
          refine take_at (i := 4) (.bool false) (some 24) (by decide) (by rfl) (by kernel_rfl) (by kernel_rfl) (by kernel_rfl) (fun _ _ _ h => h) (by rfl) (fun W hW => by go_simp) (by assumption) ?_
          try simp only [Act.put, List.setIfInBounds_toArray, List.set_cons_zero, List.set_cons_succ]
          refine take_at (i := 5) (.pointer (some ⟨wr.heap.size, 1, none⟩)) (some 25) (by decide) (by rfl) (by kernel_rfl) (by kernel_rfl) (by kernel_rfl) (fun _ _ _ h => h) (by rfl) (fun W hW => by go_simp) (by assumption) ?_
          try simp only [Act.put, List.setIfInBounds_toArray, List.set_cons_zero, List.set_cons_succ]
          refine take_at (i := 6) (idV x.2.1) (some 26) (by decide) (by rfl) (by kernel_rfl) (by kernel_rfl) (by kernel_rfl) (fun _ _ _ h => h) (by rfl) (fun W hW => by exact exec_load_mid _ _ rfl wr.heap.size 1 rfl (vb x.2.1) _ hW.1.id Try.underlying41 rfl (cells_ii x.2)) (by assumption) ?_
          try simp only [Act.put, List.setIfInBounds_toArray, List.set_cons_zero, List.set_cons_succ]
          refine wpAnyH_ready (rs := [7]) (by kernel_rfl) (by simp) (AllReadyH.cons (Array.getElem?_eq_getElem (i := 7) (by decide)) (fun K9 hK => ?_) AllReadyH.nil)
          go_simp
          refine (HGOOD.out _).mono ?_
          rintro e w3 ⟨rfl, hb3⟩
          have HB3 := Lib.hid (HBD.out.trans (hb3.mono (by omega)))
          have hs3 := hb3.size
          refine hK.out _ _ (⟨hHeld.1.below hb3 (by omega), fun j v hv => (hb3.cell (p := ⟨b2, off2 + j, none⟩) (by show b2 < W0.heap.size; omega)).trans (hHeld.2 j v hv)⟩) (fun hHeld => ?_)
          clear hK K9
          try simp only [Act.put, List.setIfInBounds_toArray, List.set_cons_zero, List.set_cons_succ]
          clear hb3
          refine take_at (i := 8) (.bool false) (some 28) (by decide) (by rfl) (by kernel_rfl) (by kernel_rfl) (by kernel_rfl) (fun _ _ _ h => h) (by rfl) (fun W hW => by go_simp) (by assumption) ?_
          try simp only [Act.put, List.setIfInBounds_toArray, List.set_cons_zero, List.set_cons_succ]
          refine take_at (i := 9) (.bool false) (some 29) (by decide) (by rfl) (by kernel_rfl) (by kernel_rfl) (by kernel_rfl) (fun _ _ _ h => h) (by rfl) (fun W hW => by go_simp) (by assumption) ?_
          try simp only [Act.put, List.setIfInBounds_toArray, List.set_cons_zero, List.set_cons_succ]
          refine take_at (i := 10) (.bool false) (some 30) (by decide) (by rfl) (by kernel_rfl) (by kernel_rfl) (by kernel_rfl) (fun _ _ _ h => h) (by rfl) (fun W hW => by go_simp) (by assumption) ?_
          try simp only [Act.put, List.setIfInBounds_toArray, List.set_cons_zero, List.set_cons_succ]
          refine take_at (i := 11) (.pointer (some ⟨wr.heap.size, 1, none⟩)) (some 31) (by decide) (by rfl) (by kernel_rfl) (by kernel_rfl) (by kernel_rfl) (fun _ _ _ h => h) (by rfl) (fun W hW => by go_simp) (by assumption) ?_
          try simp only [Act.put, List.setIfInBounds_toArray, List.set_cons_zero, List.set_cons_succ]
          refine take_at (i := 12) (.pointer (some ⟨wr.heap.size, 1, none⟩)) (some 32) (by decide) (by rfl) (by kernel_rfl) (by kernel_rfl) (by kernel_rfl) (fun _ _ _ h => h) (by rfl) (fun W hW => by go_simp) (by assumption) ?_
          try simp only [Act.put, List.setIfInBounds_toArray, List.set_cons_zero, List.set_cons_succ]
          refine take_at (i := 13) (.int .u8 (kd x.2).toNat) (some 33) (by decide) (by rfl) (by kernel_rfl) (by kernel_rfl) (by kernel_rfl) (fun _ _ _ h => h) (by rfl) (fun W hW => by have := hW.1.kind; go_simp) (by assumption) ?_
          try simp only [Act.put, List.setIfInBounds_toArray, List.set_cons_zero, List.set_cons_succ]
          refine take_at (i := 14) (.slice (some ⟨b2, off2, none⟩) l.length c) (some 34) (by decide) (by rfl) (by kernel_rfl) (by kernel_rfl) (by kernel_rfl) (fun _ _ _ h => h) (by rfl) (fun W hW => by go_simp) (by assumption) ?_
          try simp only [Act.put, List.setIfInBounds_toArray, List.set_cons_zero, List.set_cons_succ]
          refine take_at (i := 15) (.pointer (some ⟨b2, off2, none⟩)) (some 35) (by decide) (by rfl) (by kernel_rfl) (by kernel_rfl) (by kernel_rfl) (fun _ _ _ h => h) (by rfl) (fun W hW => by go_simp; intro he; rw [he] at hlt; simp at hlt) (by assumption) ?_
          try simp only [Act.put, List.setIfInBounds_toArray, List.set_cons_zero, List.set_cons_succ]
          refine take_at (i := 16) (.pointer (some ⟨b2, off2 + 1, none⟩)) (some 36) (by decide) (by rfl) (by kernel_rfl) (by kernel_rfl) (by kernel_rfl) (fun _ _ _ h => h) (by rfl) (fun W hW => by go_simp) (by assumption) ?_
          try simp only [Act.put, List.setIfInBounds_toArray, List.set_cons_zero, List.set_cons_succ]
          refine take_at (i := 17) (.pointer (some ⟨b2, off2 + 1, none⟩)) (some 37) (by decide) (by rfl) (by kernel_rfl) (by kernel_rfl) (by kernel_rfl) (fun _ _ _ h => h) (by rfl) (fun W hW => by go_simp) (by assumption) ?_
          try simp only [Act.put, List.setIfInBounds_toArray, List.set_cons_zero, List.set_cons_succ]
          refine take_at (i := 18) (.int .u8 (kd y0.2).toNat) (some 38) (by decide) (by rfl) (by kernel_rfl) (by kernel_rfl) (by kernel_rfl) (fun _ _ _ h => h) (by rfl) (fun W hW => by have := range_kind hW.2; go_simp) (by assumption) ?_
          try simp only [Act.put, List.setIfInBounds_toArray, List.set_cons_zero, List.set_cons_succ]
          refine take_at (i := 19) (.bool false) (some 39) (by decide) (by rfl) (by kernel_rfl) (by kernel_rfl) (by kernel_rfl) (fun _ _ _ h => h) (by rfl) (fun W hW => by go_simp) (by assumption) ?_
          try simp only [Act.put, List.setIfInBounds_toArray, List.set_cons_zero, List.set_cons_succ]
          refine take_at (i := 20) (.bool false) (some 40) (by decide) (by rfl) (by kernel_rfl) (by kernel_rfl) (by kernel_rfl) (fun _ _ _ h => h) (by rfl) (fun W hW => by go_simp) (by assumption) ?_
          try simp only [Act.put, List.setIfInBounds_toArray, List.set_cons_zero, List.set_cons_succ]
          refine wpAnyH_done (by kernel_rfl) ?_ _
          try simp only [Act.put, List.setIfInBounds_toArray, List.set_cons_zero, List.set_cons_succ]
          go_wp2_with fail
          have d3 := hHeld.1.key
          by_cases h0 : 0 < k
          · obtain ⟨j, rfl⟩ : ∃ j, k = j + 1 := ⟨k - 1, by omega⟩
            obtain ⟨y, hyk⟩ : ∃ y, l[j]? = some y := ⟨l[j], List.getElem?_eq_getElem (by omega)⟩
            obtain ⟨b3, off3, e3, hB3, ry⟩ := KsIn.range (H.out.below HB3.out) hyk
            injection e3 with e3
            injection e3 with e3 e4
            subst e3 e4
            have f0 := range_key ry
            have HY := Lib.hid hyk
            clear hyk ry
            have hgd : decide ((0 : Int) < (j : Int) + 1) = true := decide_eq_true (by omega)
            have hle := less_of y.1 x.1
            by_cases hov : y.1 < x.1
            · rw [decide_eq_true hov] at hle
              have hq2 : Hid (∀ (i : Nat) a b, i + 1 < j + 1 + 1 → l[i]? = some a → l[i + 1]? = some b → a.1 < b.1) := fun i a b hi ha hb => by
                by_cases e : i = j
                · subst e
                  rw [HY.out] at ha
                  rw [HX.out] at hb
                  injection ha with ha
                  injection hb with hb
                  subst ha hb
                  exact hov
                · exact hq.out i a b (by omega) ha hb
              clear hov
              go_quiet (fail)
              go_wp2_with fail
              go_roundw
              case rel => exact ⟨j + 1 + 1, by go_num, by omega, hp2, hq2, below_drewN HB3.out _⟩
              case measure => simp [intOf]; omega
            · rw [decide_eq_false hov] at hle
              have hno : Hid (¬ GoodKs l) := fun h => hov (rises_to h.rise HY.out HX.out)
              clear hov
              go_quiet (fail)
              go_wp2_with fail
              go_ret
              exact ⟨false, rfl, ⟨(fun h => by cases h), fun h => absurd h hno.out⟩, below_drewN HB3.out _⟩
          · obtain rfl : k = 0 := by omega
            have hgd : decide ((0 : Int) < ((0 : Nat) : Int)) = false := rfl
            have hq2 : Hid (∀ (i : Nat) a b, i + 1 < 0 + 1 → l[i]? = some a → l[i + 1]? = some b → a.1 < b.1) := fun i a b hi => by omega
            go_quiet (fail)
            go_wp2_with fail
            go_roundw
            case rel => exact ⟨0 + 1, by go_num, by omega, hp2, hq2, below_drewN HB3.out _⟩
            case measure => simp [intOf]; omega
        · have hno : Hid (¬ GoodKs l) := fun h => hkk (h.kind _ (List.mem_of_getElem? HX.out) _ HY0.out)
          have hnq : (((kd x.2).toNat : Int) != ((kd y0.2).toNat : Int)) = true := by
            rw [bne_iff_ne]
            exact fun e => hkk (UInt8.toNat_inj.1 (by omega))
          clear hkk
          refine region_begin hW0 (S := fun W => KidAt W wr.heap.size x ∧ W.rangeAt b2 off2 (kkC y0)) (by kernel_rfl) hS0 (fun hHeld => ?_)
          clear hW0 hS0
          refine take_at (i := 0) (.pointer (some ⟨wr.heap.size, 0, none⟩)) (some 20) (by decide) (by rfl) (by kernel_rfl) (by kernel_rfl) (by kernel_rfl) (fun _ _ _ h => h) (by rfl) (fun W hW => by go_simp) (by assumption) ?_
          try simp only [Act.put, List.setIfInBounds_toArray, List.set_cons_zero, List.set_cons_succ]
          refine take_at (i := 1) (.string ⟨x.1.toArray⟩) (some 21) (by decide) (by rfl) (by kernel_rfl) (by kernel_rfl) (by kernel_rfl) (fun _ _ _ h => h) (by rfl) (fun W hW => by have := hW.1.key; go_simp) (by assumption) ?_
          try simp only [Act.put, List.setIfInBounds_toArray, List.set_cons_zero, List.set_cons_succ]
          refine take_at (i := 2) (.int .i64 x.1.length) (some 22) (by decide) (by rfl) (by kernel_rfl) (by kernel_rfl) (by kernel_rfl) (fun _ _ _ h => h) (by rfl) (fun W hW => by go_simp) (by assumption) ?_
          try simp only [Act.put, List.setIfInBounds_toArray, List.set_cons_zero, List.set_cons_succ]
          refine take_at (i := 3) (.bool false) (some 23) (by decide) (by rfl) (by kernel_rfl) (by kernel_rfl) (by kernel_rfl) (fun _ _ _ h => h) (by rfl) (fun W hW => by go_simp) (by assumption) ?_
          try simp only [Act.put, List.setIfInBounds_toArray, List.set_cons_zero, List.set_cons_succ]
          refine take_at (i := 4) (.bool false) (some 24) (by decide) (by rfl) (by kernel_rfl) (by kernel_rfl) (by kernel_rfl) (fun _ _ _ h => h) (by rfl) (fun W hW => by go_simp) (by assumption) ?_
          try simp only [Act.put, List.setIfInBounds_toArray, List.set_cons_zero, List.set_cons_succ]
          refine take_at (i := 5) (.pointer (some ⟨wr.heap.size, 1, none⟩)) (some 25) (by decide) (by rfl) (by kernel_rfl) (by kernel_rfl) (by kernel_rfl) (fun _ _ _ h => h) (by rfl) (fun W hW => by go_simp) (by assumption) ?_
          try simp only [Act.put, List.setIfInBounds_toArray, List.set_cons_zero, List.set_cons_succ]
          refine take_at (i := 6) (idV x.2.1) (some 26) (by decide) (by rfl) (by kernel_rfl) (by kernel_rfl) (by kernel_rfl) (fun _ _ _ h => h) (by rfl) (fun W hW => by exact exec_load_mid _ _ rfl wr.heap.size 1 rfl (vb x.2.1) _ hW.1.id Try.underlying41 rfl (cells_ii x.2)) (by assumption) ?_
          try simp only [Act.put, List.setIfInBounds_toArray, List.set_cons_zero, List.set_cons_succ]
          refine wpAnyH_ready (rs := [7]) (by kernel_rfl) (by simp) (AllReadyH.cons (Array.getElem?_eq_getElem (i := 7) (by decide)) (fun K9 hK => ?_) AllReadyH.nil)
          go_simp
          refine (HGOOD.out _).mono ?_
          rintro e w3 ⟨rfl, hb3⟩
          have HB3 := Lib.hid (HBD.out.trans (hb3.mono (by omega)))
          have hs3 := hb3.size
          refine hK.out _ _ (⟨hHeld.1.below hb3 (by omega), fun j v hv => (hb3.cell (p := ⟨b2, off2 + j, none⟩) (by show b2 < W0.heap.size; omega)).trans (hHeld.2 j v hv)⟩) (fun hHeld => ?_)
          clear hK K9
          try simp only [Act.put, List.setIfInBounds_toArray, List.set_cons_zero, List.set_cons_succ]
          clear hb3
          refine take_at (i := 8) (.bool false) (some 28) (by decide) (by rfl) (by kernel_rfl) (by kernel_rfl) (by kernel_rfl) (fun _ _ _ h => h) (by rfl) (fun W hW => by go_simp) (by assumption) ?_
          try simp only [Act.put, List.setIfInBounds_toArray, List.set_cons_zero, List.set_cons_succ]
          refine take_at (i := 9) (.bool false) (some 29) (by decide) (by rfl) (by kernel_rfl) (by kernel_rfl) (by kernel_rfl) (fun _ _ _ h => h) (by rfl) (fun W hW => by go_simp) (by assumption) ?_
          try simp only [Act.put, List.setIfInBounds_toArray, List.set_cons_zero, List.set_cons_succ]
          refine take_at (i := 10) (.bool false) (some 30) (by decide) (by rfl) (by kernel_rfl) (by kernel_rfl) (by kernel_rfl) (fun _ _ _ h => h) (by rfl) (fun W hW => by go_simp) (by assumption) ?_
          try simp only [Act.put, List.setIfInBounds_toArray, List.set_cons_zero, List.set_cons_succ]
          refine take_at (i := 11) (.pointer (some ⟨wr.heap.size, 1, none⟩)) (some 31) (by decide) (by rfl) (by kernel_rfl) (by kernel_rfl) (by kernel_rfl) (fun _ _ _ h => h) (by rfl) (fun W hW => by go_simp) (by assumption) ?_
          try simp only [Act.put, List.setIfInBounds_toArray, List.set_cons_zero, List.set_cons_succ]
          refine take_at (i := 12) (.pointer (some ⟨wr.heap.size, 1, none⟩)) (some 32) (by decide) (by rfl) (by kernel_rfl) (by kernel_rfl) (by kernel_rfl) (fun _ _ _ h => h) (by rfl) (fun W hW => by go_simp) (by assumption) ?_
          try simp only [Act.put, List.setIfInBounds_toArray, List.set_cons_zero, List.set_cons_succ]
          refine take_at (i := 13) (.int .u8 (kd x.2).toNat) (some 33) (by decide) (by rfl) (by kernel_rfl) (by kernel_rfl) (by kernel_rfl) (fun _ _ _ h => h) (by rfl) (fun W hW => by have := hW.1.kind; go_simp) (by assumption) ?_
          try simp only [Act.put, List.setIfInBounds_toArray, List.set_cons_zero, List.set_cons_succ]
          refine take_at (i := 14) (.slice (some ⟨b2, off2, none⟩) l.length c) (some 34) (by decide) (by rfl) (by kernel_rfl) (by kernel_rfl) (by kernel_rfl) (fun _ _ _ h => h) (by rfl) (fun W hW => by go_simp) (by assumption) ?_
          try simp only [Act.put, List.setIfInBounds_toArray, List.set_cons_zero, List.set_cons_succ]
          refine take_at (i := 15) (.pointer (some ⟨b2, off2, none⟩)) (some 35) (by decide) (by rfl) (by kernel_rfl) (by kernel_rfl) (by kernel_rfl) (fun _ _ _ h => h) (by rfl) (fun W hW => by go_simp; intro he; rw [he] at hlt; simp at hlt) (by assumption) ?_
          try simp only [Act.put, List.setIfInBounds_toArray, List.set_cons_zero, List.set_cons_succ]
          refine take_at (i := 16) (.pointer (some ⟨b2, off2 + 1, none⟩)) (some 36) (by decide) (by rfl) (by kernel_rfl) (by kernel_rfl) (by kernel_rfl) (fun _ _ _ h => h) (by rfl) (fun W hW => by go_simp) (by assumption) ?_
          try simp only [Act.put, List.setIfInBounds_toArray, List.set_cons_zero, List.set_cons_succ]
          refine take_at (i := 17) (.pointer (some ⟨b2, off2 + 1, none⟩)) (some 37) (by decide) (by rfl) (by kernel_rfl) (by kernel_rfl) (by kernel_rfl) (fun _ _ _ h => h) (by rfl) (fun W hW => by go_simp) (by assumption) ?_
          try simp only [Act.put, List.setIfInBounds_toArray, List.set_cons_zero, List.set_cons_succ]
          refine take_at (i := 18) (.int .u8 (kd y0.2).toNat) (some 38) (by decide) (by rfl) (by kernel_rfl) (by kernel_rfl) (by kernel_rfl) (fun _ _ _ h => h) (by rfl) (fun W hW => by have := range_kind hW.2; go_simp) (by assumption) ?_
          try simp only [Act.put, List.setIfInBounds_toArray, List.set_cons_zero, List.set_cons_succ]
          refine take_at (i := 19) (.bool true) (some 39) (by decide) (by rfl) (by kernel_rfl) (by kernel_rfl) (by kernel_rfl) (fun _ _ _ h => h) (by rfl) (fun W hW => by go_simp) (by assumption) ?_
          try simp only [Act.put, List.setIfInBounds_toArray, List.set_cons_zero, List.set_cons_succ]
          refine take_at (i := 20) (.bool true) (some 40) (by decide) (by rfl) (by kernel_rfl) (by kernel_rfl) (by kernel_rfl) (fun _ _ _ h => h) (by rfl) (fun W hW => by go_simp) (by assumption) ?_
          try simp only [Act.put, List.setIfInBounds_toArray, List.set_cons_zero, List.set_cons_succ]
          refine wpAnyH_done (by kernel_rfl) ?_ _
          try simp only [Act.put, List.setIfInBounds_toArray, List.set_cons_zero, List.set_cons_succ]
          go_wp2_with fail
          go_ret
          exact ⟨false, rfl, ⟨(fun h => by cases h), fun h => absurd h hno.out⟩, HB3.out⟩
    · have hyes : Hid (GoodKs l) := ⟨by omega, by omega, fun p hpl => by
        obtain ⟨j, hj, rfl⟩ := List.getElem_of_mem hpl
        exact (hp.out j _ (by omega) (List.getElem?_eq_getElem hj)).1, fun p hpl => by
        obtain ⟨j, hj, rfl⟩ := List.getElem_of_mem hpl
        exact (hp.out j _ (by omega) (List.getElem?_eq_getElem hj)).2.1, fun p hpl q hq0 => by
        obtain ⟨j, hj, rfl⟩ := List.getElem_of_mem hpl
        rw [HY0.out] at hq0
        injection hq0 with hq0
        subst hq0
        exact (hp.out j _ (by omega) (List.getElem?_eq_getElem hj)).2.2, rises_of2 fun j a b ha hb => hq.out j a b (by have := (List.getElem?_eq_some_iff.1 hb).1; omega) ha hb⟩
      clear hp hq
      go_wp2_with fail
      go_ret
      exact ⟨true, rfl, ⟨fun _ => hyes.out, fun _ => rfl⟩, hbl.out⟩

end Go.Proofs.Ytabogconbjdcgaa.Cd
