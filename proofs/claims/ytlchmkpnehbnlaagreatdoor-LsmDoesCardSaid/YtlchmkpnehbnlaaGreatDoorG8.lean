/-
  slices.Collect of a table's writes: they come into a new row, in some order. Conditions: not too many.
-/
import Derived.Test.YtlchmkpnehbnlaaGreatDoorG6
import Derived.Shelf.SlIter.Collect
namespace Go.Proofs.YtlchmkpnehbnlaaGreatDoor.Cd
open Go.RowKit Go.Maps Go.Shelf Go.Sort
attribute [local go_sem] Oper.semAt_some
set_option linter.unusedVariables false

def InBox (w0 : World) (q B : Nat) (xs : List Wr) (W : World) : Prop :=
  ∃ v, W.heap[q]? = some (.cells #[v] 32 (0, 0)) ∧ OwnTb W B v xs ∧ Below w0.heap.size w0 W ∧ B ≤ W.heap.size

theorem own_cells {w : World} {B : Nat} {v : Value} {l : List Wr} (h : OwnTb w B v l) {k : Nat} (hk : v.ownBlock = some k) : B ≤ k ∧ ∃ cur, w.heap[k]? = some (.cells cur 52 (0, 0)) := by
  have h1 := (World.ownsRow.lt h k hk).1
  rcases h.2 with ⟨rfl, _⟩ | ⟨g, cap, cur, rfl, hg, hh, _⟩
  · cases hk
  · have : g = k := by simpa [Value.ownBlock] using hk
    subst this
    exact ⟨hg, cur, hh⟩
theorem OwnTb.other {w w' : World} {B : Nat} {v : Value} {l : List Wr} {row : Option Nat} (h : OwnTb w B v l) (hg : w.grownBy w' row) (hr : ∀ k, row = some k → v.ownBlock = some k → False) : OwnTb w' B v l :=
  World.ownsRow.kept h hg (by
    cases hv : v.ownBlock with
    | none => exact .inl rfl
    | some k => exact .inr fun e => hr k e.symm hv)

theorem inBox_stays (w0 : World) (q r : Nat) (hq : w0.heap.size ≤ q) (hqr : q < r) : StaysSeq r (InBox w0 q (r + 1)) := by
  refine ⟨fun s A B row hA hg hrow => ?_, fun s A o hA => ?_⟩
  · obtain ⟨v, h1, h2, h3, h4⟩ := hA
    have hw : ∀ j, row = some j → ∃ o : Obj, A.heap[j]? = some o ∧ o.isWalk = true := fun j e => (hrow j e).2
    refine ⟨v, (grownBy_keeps hg hw h1 rfl).trans h1, h2.other hg fun k e hv => ?_, h3.grown hg h3.size (fun k e => by have := (hrow k e).1; omega), Nat.le_trans h4 hg.size⟩
    obtain ⟨_, cur, hc⟩ := own_cells h2 hv
    obtain ⟨o, ho, how⟩ := hw k e
    rw [hc] at ho
    cases ho
    cases how
  · obtain ⟨v, h1, h2, h3, h4⟩ := hA
    have hg : A.grownBy (A.putObj r o) (some r) := ⟨rfl, rfl, rfl, by rw [World.putObj_size]; exact Nat.le_refl _, fun k _ hk => World.putObj_heap_other (fun e => hk (by rw [e]))⟩
    refine ⟨v, (World.putObj_heap_other (by omega)).trans h1, h2.other hg fun k e hv => ?_, h3.grown hg h3.size (fun k e => by injection e with e; omega), by rw [World.putObj_size]; exact h4⟩
    injection e with e
    have := (own_cells h2 hv).1
    omega

def AsTb (sv : Value) (q r : Nat) (x : Wr) (a : Act) (W : World) : Prop :=
  ∃ p, a = { tmps := #[.slice none 0 0, sv, .pointer (some ⟨q, 0, none⟩), undef, .slice none 0 0, .pointer (some ⟨p, 0, none⟩), sv, .agg #[.string ⟨x.1.toArray⟩, .string ⟨x.2.1.toArray⟩, .bool x.2.2], undef, undef, undef, undef, undef], defers := [] } ∧ W.heap[p]? = some (.cells #[.string ⟨x.1.toArray⟩, .string ⟨x.2.1.toArray⟩, .bool x.2.2] 52 (0, 0)) ∧ r < p

set_option maxRecDepth 100000 in
set_option maxHeartbeats 3200000 in
theorem append_seq_tb (n : Nat) (hn : 2 ≤ n) (g : Nat) (lb : Array Value) (eg : ∀ args w, (callFunc g args).run Tryz.prog w = .ok (.enter g args) w) (S : List Wr → Prop) (N : Nat) (hN : N ≤ 1099511627775) (w : World) (hseq : SeqGives Fence.wide (n - 1) Tryz.prog g lb wrV S N w) :
    CallsIn Fence.wide n Tryz.prog 178 #[.slice none 0 0, .func (.func g) #[] lb] w fun e w' => ∃ v xs, e = .returned v ∧ S xs ∧ OwnTb w' w.heap.size v xs ∧ Below w.heap.size w w' := by
  refine callsIn_of_wp_marks Tryz.func178 rfl trivial ?_ rfl
  simp only [Tryz.ntmps178, List.size_toArray, List.length_cons, List.length_nil, Nat.reduceAdd, Nat.reduceSub, Array.replicate_succ, Array.replicate_zero, List.push_toArray, List.append_toArray, List.nil_append, List.cons_append]
  gi_wp2
  obtain ⟨W0, hW0⟩ : ∃ W0, w.alloc (.cells #[.slice none 0 0] 32) = W0 := ⟨_, rfl⟩
  have hs0 : W0.heap.size = w.heap.size + 1 := by rw [← hW0]; simp
  have hv0 : W0.heap[w.heap.size]? = some (.cells #[.slice none 0 0] 32 (0, 0)) := by rw [← hW0]; exact World.alloc_heap_new w _
  have hb0 : Below w.heap.size w W0 := by rw [← hW0]; exact (Below.refl _ w).alloc (Nat.le_refl _) _
  rw [hW0]
  clear hW0
  refine wpIn_range_seq (S := S) (N := N) (enc := wrV) rfl (by omega) (gf := g) (lb := lb) rfl trivial eg rfl (hseq.later hb0) (InBox w w.heap.size (W0.heap.size + 1 + 1)) (inBox_stays w w.heap.size (W0.heap.size + 1) (Nat.le_refl _) (by omega)) ?h0 (AsTb (.func (.func g) #[] lb) w.heap.size (W0.heap.size + 1)) ?hAs ?assign ?body ?done
  case h0 =>
    intro o
    have hb : Below W0.heap.size W0 ((W0.alloc (.deferred (some []))).alloc o) := ((Below.refl _ _).alloc (Nat.le_refl _) _).alloc (by simp) _
    exact ⟨_, (hb.block _ (by omega)).trans hv0, OwnTb.nil _ _, hb0.trans (hb.mono (by omega)), by simp⟩
  case hAs =>
    rintro x a A o ⟨p, h1, h2, h3⟩
    exact ⟨p, h1, (World.putObj_heap_other (by omega)).trans h2, h3⟩
  case assign =>
    intro l x W K hlt hK
    unfold wrV
    gi_wp2
    exact hK _ _ ⟨W.heap.size, rfl, heap_alloc_new _ _, hlt⟩ (World.grownBy_alloc _ _ _)
  case body =>
    rintro pre x a' W ⟨v, hv, ho, hb, hB⟩ ⟨p, rfl, hp, hrp⟩ hpre hlt hl hd
    have c0 := cell_of_row _ _ 0 _ _ _ hp
    have c1 := cell_of_row _ _ 1 _ _ _ hp
    have c2 := cell_of_row _ _ 2 _ _ _ hp
    have x0 := cell_of_row _ _ 0 _ _ _ hv
    have HO := Lib.hid ho
    have HB := Lib.hid hb
    have HV := Lib.hid hv
    clear ho hb hv
    obtain ⟨i0, hi, hz0, hz1, hz2⟩ := info_parts info_wr
    have hcells : ∀ (j : Nat) u, (wrC x)[j]? = some u → (W.alloc (.cells #[.string ⟨x.1.toArray⟩, .string ⟨x.2.1.toArray⟩, .bool x.2.2] 52)).cell? ((⟨W.heap.size, 0, none⟩ : Addr).add j) = some u := fun j u hu => by
      obtain ⟨A, c, e, _, _, _, hc⟩ := tb_one W x 52
      injection e with e1 _ _
      obtain ⟨b, off, e2, _, hc⟩ := hc (by simp)
      rw [← e1] at e2
      injection e2 with e2
      injection e2 with e2 e3
      subst e2 e3
      have := hc 0 x rfl j u hu
      rwa [Addr.add_lit]
    have hmx : pre.length + 1 ≤ maxLen := by simp only [maxLen]; omega
    have HC := Lib.hid hcells
    have HI := Lib.hid hi
    clear hcells hi
    gi_wp2_with (gi_at_builtin
                 refine wpListIn_append_own _ rfl _ _ 32 rfl (W0.heap.size + 1 + 1) 52 i0 _ 3 40 Tryz.underlying32 HI.out hz0 hz1 hz2 rfl (by decide) v pre.length (wrCs pre) rfl (World.ownsRow.alloc HO.out _) ⟨W.heap.size, 0, none⟩ 1 1 (wrC x) rfl rfl HC.out (wrC_one x) hmx (by omega) (by simp; omega) ?_
                 intro v' w3 hown' hg3 hnil3
                 have hon : OwnTb w3 (W0.heap.size + 1 + 1) v' (pre ++ [x]) := by
                   unfold OwnTb
                   rw [wrCs_append, List.length_append]
                   exact hown'
                 have hb1 : Below W.heap.size W (W.alloc (.cells #[.string ⟨x.1.toArray⟩, .string ⟨x.2.1.toArray⟩, .bool x.2.2] 52)) := (Below.refl _ _).alloc (Nat.le_refl _) _
                 have hold : ∀ j, j ≤ W0.heap.size + 1 → w3.heap[j]? = W.heap[j]? := fun j hj => (hg3.block j (Nat.lt_of_lt_of_le (by omega) hb1.size) (fun e => by have := (own_cells HO.out e.symm).1; omega)).trans (hb1.block j (by omega))
                 have hv3 : w3.heap[w.heap.size]? = some (.cells #[v] 32 (0, 0)) := (hold _ (by omega)).trans HV.out
                 have y0 := cell_of_row _ _ 0 _ _ _ hv3
                 have yf := (cell_of_box_a hv3).2
                 have hkw : KeepsWalks W w3 := (KeepsWalks.alloc _ _).trans (KeepsWalks.of_grownBy hg3 (fun j o e ho => by
                   obtain ⟨_, cur, hc⟩ := own_cells (HO.out.alloc (.cells #[.string ⟨x.1.toArray⟩, .string ⟨x.2.1.toArray⟩, .bool x.2.2] 52)) e
                   rw [hc] at ho
                   cases ho
                   rfl))
                 have hb3 : Below w.heap.size w w3 := (HB.out.trans (hb1.mono (by omega))).grown hg3 (Nat.le_trans (by omega) hb1.size) (fun k e => by have := (own_cells HO.out e).1; omega)
                 obtain ⟨g', cap', rfl⟩ : ∃ g' cap', v' = .slice (some ⟨g', 0, none⟩) (pre.length + 1) cap' := by
                   rcases hon.2 with ⟨_, h0⟩ | ⟨g', cap', cur', h', _⟩
                   · simp at h0
                   · exact ⟨g', cap', by rw [h']; simp⟩
                 have HON := Lib.hid hon
                 have HOLD := Lib.hid hold
                 have HV3 := Lib.hid hv3
                 have HKW := Lib.hid hkw
                 have HB3 := Lib.hid hb3
                 clear hon hold hv3 hkw hb3 hg3 hown' hnil3)
    have hg4 : w3.grownBy (w3.setCell ⟨w.heap.size, 0, none⟩ (.slice (some ⟨g', 0, none⟩) (pre.length + 1) cap')) (some w.heap.size) := grownBy_setCell0_a _ _ _
    have hold4 : ∀ j, j ≤ W0.heap.size + 1 → j ≠ w.heap.size → (w3.setCell ⟨w.heap.size, 0, none⟩ (.slice (some ⟨g', 0, none⟩) (pre.length + 1) cap')).heap[j]? = W.heap[j]? := fun j hj hne => by
      have h3 : j < w3.heap.size := Nat.lt_of_lt_of_le (by omega) HKW.out.size
      exact (hg4.block j h3 (fun e => by injection e with e; exact hne e)).trans (HOLD.out j hj)
    refine ⟨⟨hold4 _ (by omega) (by omega), hold4 _ (by omega) (by omega)⟩, HKW.out.trans (KeepsWalks.setCell _ _ _), _, heap_setCell_box_a _ HV3.out, HON.out.other hg4 (fun k e hv => by injection e with e; have := (own_cells HON.out hv).1; omega), HB3.out.grown hg4 HB3.out.size (fun k e => by injection e with e; omega), ?_⟩
    have := HKW.out.size
    have := hg4.size
    omega
  case done =>
    rintro xs W hS ⟨v, hv, ho, hb, hB⟩ hd
    have x0 := cell_of_row _ _ 0 _ _ _ hv
    have HO := Lib.hid ho
    have HB := Lib.hid hb
    have HD := Lib.hid hd
    clear ho hb hd hv
    gi_wp2
    refine ⟨by simp, .inl ⟨_, _, rfl, run_takeDeferred HD.out, ?_⟩⟩
    have hp : ∀ o, W.grownBy (W.putObj W0.heap.size o) (some W0.heap.size) := fun o => grownBy_putObj_a _ _ _
    exact ⟨_, results_tmp rfl _ _ _, v, xs, rfl, hS, (HO.out.other (hp _) (fun k e hv => by injection e with e; have := (own_cells HO.out hv).1; omega)).lower (by omega), HB.out.grown (hp _) HB.out.size (fun k e => by injection e with e; omega)⟩

set_option maxRecDepth 100000 in
set_option maxHeartbeats 3200000 in
theorem collect_tb (n : Nat) (hn : 3 ≤ n) (g : Nat) (lb : Array Value) (eg : ∀ args w, (callFunc g args).run Tryz.prog w = .ok (.enter g args) w) (S : List Wr → Prop) (N : Nat) (hN : N ≤ 1099511627775) (w : World) (hseq : SeqGives Fence.wide (n - 1 - 1) Tryz.prog g lb wrV S N w) :
    CallsIn Fence.wide n Tryz.prog 153 #[.func (.func g) #[] lb] w fun e w' => ∃ v xs, e = .returned v ∧ S xs ∧ OwnTb w' w.heap.size v xs ∧ Below w.heap.size w w' := by
  have hfA : Fence.wide.fn 178 := trivial
  have h1 : 1 ≤ n := by omega
  refine callsIn_of_wp Tryz.func153 rfl trivial ?_ rfl
  simp only [Tryz.ntmps153, List.size_toArray, List.length_cons, List.length_nil, Nat.reduceAdd, Nat.reduceSub, Array.replicate_succ, Array.replicate_zero, List.push_toArray, List.append_toArray, List.nil_append, List.cons_append]
  gi_wp2_with (gi_at_call 178; refine (append_seq_tb (n - 1) (by omega) g lb eg S N hN _ hseq).mono ?_; rintro e w' ⟨v, xs, rfl, hS, ho, hb⟩)
  go_ret
  exact ⟨v, xs, rfl, hS, ho, hb⟩

theorem values_tb (mb : Option Nat) (w : World) :
    CallsIn Fence.wide 2 Tryz.prog 113 #[.map mb] w fun e w' => e = .returned (.func (.func 155) #[] #[.pointer (some ⟨w.heap.size, 0, none⟩)]) ∧ w' = w.alloc (.cells #[.map mb] 104) := by
  refine callsIn_of_wp Tryz.func113 rfl trivial ?_ rfl
  simp only [Tryz.ntmps113, List.size_toArray, List.length_cons, List.length_nil, Nat.reduceAdd, Nat.reduceSub, Array.replicate_succ, Array.replicate_zero, List.push_toArray, List.append_toArray, List.nil_append, List.cons_append]
  gi_wp2
  go_ret
  exact ⟨rfl, rfl⟩

end Go.Proofs.YtlchmkpnehbnlaaGreatDoor.Cd
