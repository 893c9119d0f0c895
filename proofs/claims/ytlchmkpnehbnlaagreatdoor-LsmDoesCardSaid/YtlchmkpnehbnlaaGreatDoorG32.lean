/-
  slices.Chunk of bytes by pages, and slices.Collect of what it hands over: a row of slices. Conditions: there are bytes.
-/
import Derived.Test.YtlchmkpnehbnlaaGreatDoorG1
import Derived.Test.YtlchmkpnehbnlaaGreatDoorG22
import Derived.Test.YtlchmkpnehbnlaaGreatDoorG5
import Derived.Test.YtlchmkpnehbnlaaGreatDoorG24
import Derived.Shelf.Abstract
import Derived.Shelf.RegionOpen
import Derived.WalkKit
import Derived.OwnWalkIn
import Derived.TacticsInMore
import Derived.LoopNIn
import Derived.LoopIn
import Derived.BigRegionIn
import Derived.Shelf.SlIter.Collect
namespace Go.Proofs.YtlchmkpnehbnlaaGreatDoor.Cd
open Go.RowKit Go.Shelf
attribute [local go_sem] Oper.semAt_some
set_option linter.unusedVariables false

theorem tchunk_any (A : Option Addr) (n c : Nat) (w : World) :
    Calls Tryz.prog 151 #[.slice A n c, .int .i64 512] w (fun e w' => e = .returned (.func (.func 177) #[] #[.pointer (some ⟨w.heap.size, 0, none⟩), .pointer (some ⟨w.heap.size + 1, 0, none⟩)]) ∧
      w' = (w.alloc (.cells #[.slice A n c] 88)).alloc (.cells #[.int .i64 512] 3)) := by
  go_enter Tryz.func151, Tryz.ntmps151
  go_wp2_with fail
  go_ret
  exact ⟨by simp, rfl⟩

def tgV (b off n k : Nat) : Value := .slice (some ⟨b, off + 512 * k, none⟩) (min 512 (n - 512 * k)) (min 512 (n - 512 * k))
def BoxesT (bs bn : Nat) (b off n c : Nat) (W : World) : Prop := W.cell? ⟨bs, 0, none⟩ = some (.slice (some ⟨b, off, none⟩) n c) ∧ W.cell? ⟨bn, 0, none⟩ = some (.int .i64 512)

set_option maxRecDepth 100000 in
set_option maxHeartbeats 3200000 in
theorem tchunk_hands (m bs bn b off n c : Nat) (hn : n ≤ c) (hc : c ≤ 9223372036854775807) (hn2 : n ≤ 140737488355328) :
    Hands Fence.wide m Tryz.prog 177 #[.pointer (some ⟨bs, 0, none⟩), .pointer (some ⟨bn, 0, none⟩)] (fun k => #[tgV b off n k]) (List.range (pagesOf n)) (BoxesT bs bn b off n c) := by
  intro l J Jx W hJ hJx hB hY h0
  have HJ := Lib.hid hJ
  have HJX := Lib.hid hJx
  have HBX := Lib.hid hB
  have HY := Lib.hid hY
  have H0 := Lib.hid h0
  clear hJ hJx hB hY h0
  refine callsIn_of_wp Tryz.func177 rfl trivial ?_ rfl
  simp only [Tryz.ntmps177, List.size_toArray, List.length_cons, List.length_nil, Nat.reduceAdd, Nat.reduceSub, Array.replicate_succ, Array.replicate_zero, List.push_toArray, List.append_toArray, List.nil_append, List.cons_append]
  gi_wp2
  gi_loopw [4] (fun p wr => ∃ i k : Nat, p = .int .i64 i ∧ Hid (i = 512 * k) ∧ i ≤ n + 512 ∧ Hid (k ≤ pagesOf n) ∧ Hid (J k wr)) (fun p _ => n + 1024 - (intOf p).toNat)
  case atStart => exact ⟨0, 0, rfl, rfl, by omega, Nat.zero_le _, H0⟩
  case round =>
    obtain ⟨i, k, rfl, hi, hi2, hk, hJk⟩ := hrel
    obtain ⟨x1, x2⟩ := HBX.out k wr hJk.out
    have hn' : (n : Int) ≤ 140737488355328 := by omega
    by_cases hlt : i < n
    · have hlt' : (i : Int) < n := by omega
      have hJ1 : J k wr.drew := HJ.out k wr wr.drew hJk.out (Below.refl _ _).drew
      obtain ⟨y1, y2⟩ := HBX.out k wr.drew hJ1
      have hkl : k < pagesOf n := by have := hi.out; unfold pagesOf; omega
      obtain ⟨fn, tmps, assign, body, hy, hR⟩ := HY.out k k wr.drew (List.getElem?_range hkl) hJ1
      obtain ⟨e, he⟩ : ∃ e, min 512 (n - 512 * k) = e := ⟨_, rfl⟩
      have hpv : tgV b off n k = .slice (some ⟨b, off + i, none⟩) e e := by unfold tgV; rw [he, hi.out]
      have he' : e = min 512 (n - i) := by rw [hi.out]; exact he.symm
      have hmin : min (512 : Int) ((n - i : Nat) : Int) = (e : Int) := by omega
      have hsl : ((i : Int) + (e : Int)).toNat - i = e := by omega
      have he1 : i + e ≤ n := by omega
      have he2 : 1 ≤ e ∧ e ≤ 512 := by omega
      rw [hpv] at hy
      have HR := Lib.hid hR
      have HE := Lib.hid he'
      have HKL := Lib.hid hkl
      clear hR he' he hpv hJ1 hkl
      have hic : (i : Int) ≤ c := by omega
      have hcase : (e = n - i ∧ ((n - i : Nat) : Int) < 512) ∨ (e = 512 ∧ (512 : Int) ≤ ((n - i : Nat) : Int)) := by have := HE.out; omega
      have hsl2 : ((i : Int) + 512).toNat - i = 512 := by omega
      rcases hcase with ⟨rfl, hle⟩ | ⟨rfl, hle⟩
      all_goals
        clear hmin
        gi_wp2
        gi_region
        all_goals gi_wp2
        refine ⟨fun h => (by cases h), HR.out.mono ?_⟩
        rintro e2 W3 (⟨rfl, hJ3⟩ | ⟨rfl, hJx3⟩)
        · have HJ3 := Lib.hid hJ3
          obtain ⟨z1, z2⟩ := HBX.out _ W3 hJ3
          clear hJ3
          gi_wp2
          go_roundw
          case rel =>
            have h1 := hi.out
            have h2 := HKL.out
            exact ⟨i + 512, k + 1, by go_num, by unfold Hid; omega, by omega, by unfold Hid; omega, HJ3⟩
          case measure => simp [intOf]; omega
        · have HX3 := Lib.hid hJx3
          clear hJx3
          gi_wp2
          refine bodyPost_ret (results_none rfl _ _ _) rfl ?_
          exact ⟨⟨_, rfl⟩, .inr ⟨k + 1, by rw [List.length_range]; exact HKL.out, HX3.out⟩⟩
    · have hlt' : (n : Int) ≤ i := by omega
      have hke : k = pagesOf n := by
        have h1 := hi.out
        have h2 := hk.out
        unfold pagesOf at *
        omega
      gi_wp2
      go_end0
      exact ⟨⟨_, rfl⟩, .inl (by rw [List.length_range, ← hke]; exact hJk.out)⟩

theorem info_slv : (Tryz.prog.info? 88).map (fun i => (i.zero, i.size, i.bytes)) = some (some (.slice none 0 0), 1, 24) := by kernel_rfl

def OwnV (w : World) (B : Nat) (v : Value) (vs : List Value) : Prop := w.ownsRow B 88 1 v vs.length vs
section
variable {w w' : World} {B : Nat} {v : Value} {vs : List Value}
theorem OwnV.nil (w : World) (B : Nat) : OwnV w B (.slice none 0 0) [] := World.ownsRow_nil _ _ _ _
theorem OwnV.keep (h : OwnV w B v vs) (hk : ∀ k, v.ownBlock = some k → w'.heap[k]? = w.heap[k]?) : OwnV w' B v vs := by
  refine ⟨h.1, ?_⟩
  rcases h.2 with h4 | ⟨g, cap, cur, rfl, hg, hh, r⟩
  · exact .inl h4
  · exact .inr ⟨g, cap, cur, rfl, hg, (hk g rfl).trans hh, r⟩
theorem OwnV.lower {B' : Nat} (h : OwnV w B v vs) (hB : B' ≤ B) : OwnV w B' v vs := by
  refine ⟨h.1, ?_⟩
  rcases h.2 with h2 | ⟨g, cap, cur, hv, hg, r⟩
  · exact .inl h2
  · exact .inr ⟨g, cap, cur, hv, Nat.le_trans hB hg, r⟩
theorem OwnV.at (h : OwnV w B v vs) {k : Nat} (hk : v.ownBlock = some k) : B ≤ k ∧ k < w.heap.size ∧ ∃ cur, w.heap[k]? = some (.cells cur 88 (0, 0)) := by
  have h1 := World.ownsRow.lt h k hk
  rcases h.2 with ⟨rfl, _⟩ | ⟨g, cap, cur, rfl, hg, hh, _⟩
  · cases hk
  · have : g = k := by simpa [Value.ownBlock] using hk
    subst this
    exact ⟨hg, h1.2, cur, hh⟩
theorem OwnV.open (h : OwnV w B v vs) (h0 : 0 < vs.length) : ∃ g cap, v = .slice (some ⟨g, 0, none⟩) vs.length cap ∧ vs.length ≤ cap ∧ cap ≤ maxLen ∧ B ≤ g ∧ g < w.heap.size ∧ ∃ cur : Array Value, w.heap[g]? = some (.cells cur 88 (0, 0)) ∧ ∀ (j : Nat) u, vs[j]? = some u → cur[j]? = some u := by
  have hlt := World.ownsRow.lt h
  rcases h.2 with ⟨_, h1⟩ | ⟨g, cap, cur, rfl, hb, hh, hn, hm, hc, ht⟩
  · omega
  · refine ⟨g, cap, rfl, hn, hm, hb, (hlt g rfl).2, cur, hh, fun j u hu => ?_⟩
    have hj := (List.getElem?_eq_some_iff.1 hu).1
    rw [← ht] at hu
    rw [List.getElem?_take, if_pos (by omega)] at hu
    simpa using hu
end

def InBoxV (w0 : World) (q B : Nat) (vs : List Value) (W : World) : Prop :=
  ∃ v, W.heap[q]? = some (.cells #[v] 197 (0, 0)) ∧ OwnV W B v vs ∧ Below w0.heap.size w0 W ∧ B ≤ W.heap.size

theorem inBoxV_stays (w0 : World) (q r : Nat) (hq : w0.heap.size ≤ q) (hqr : q < r) (hx : q < r) (vs : List Value) : Stays r (InBoxV w0 q (r + 1) vs) := by
  refine ⟨fun A B hA hb => ?_, fun A o hA => ?_⟩
  · obtain ⟨v, h1, h2, h3, h4⟩ := hA
    have hlt := (Array.getElem?_eq_some_iff.1 h1).1
    exact ⟨v, (hb.block q hlt).trans h1, h2.keep fun k hk => hb.block k (h2.at hk).2.1, h3.trans (hb.mono h3.size), Nat.le_trans h4 hb.size⟩
  · obtain ⟨v, h1, h2, h3, h4⟩ := hA
    refine ⟨v, (World.putObj_heap_other (by omega)).trans h1, h2.keep fun k hk => World.putObj_heap_other (by have := (h2.at hk).1; omega), ⟨h3.os, h3.tape, h3.output, by rw [World.putObj_size]; exact h3.size, fun k hk => (World.putObj_heap_other (by omega)).trans (h3.block k hk)⟩, by rw [World.putObj_size]; exact h4⟩

set_option maxRecDepth 100000 in
set_option maxHeartbeats 3200000 in
theorem append_seq_v (n : Nat) (hn : 2 ≤ n) (g : Nat) (lb : Array Value) (eg : ∀ args w, (callFunc g args).run Tryz.prog w = .ok (.enter g args) w) (enc : Nat → Value) (hone : ∀ k, ∃ A n c, enc k = .slice A n c) (m : Nat) (hm : m ≤ 1099511627775) (Box : World → Prop) (w : World) (hBox : ∀ W, Below w.heap.size w W → Box W)
    (hseq : Hands Fence.wide (n - 1) Tryz.prog g lb (fun k => #[enc k]) (List.range m) Box) :
    CallsIn Fence.wide n Tryz.prog 180 #[.slice none 0 0, .func (.func g) #[] lb] w fun e w' => ∃ v, e = .returned v ∧ OwnV w' w.heap.size v ((List.range m).map enc) ∧ Below w.heap.size w w' := by
  refine callsIn_of_wp_marks Tryz.func180 rfl trivial ?_ rfl
  simp only [Tryz.ntmps180, List.size_toArray, List.length_cons, List.length_nil, Nat.reduceAdd, Nat.reduceSub, Array.replicate_succ, Array.replicate_zero, List.push_toArray, List.append_toArray, List.nil_append, List.cons_append]
  gi_wp2
  obtain ⟨W0, hW0⟩ : ∃ W0, w.alloc (.cells #[.slice none 0 0] 197) = W0 := ⟨_, rfl⟩
  have hs0 : W0.heap.size = w.heap.size + 1 := by rw [← hW0]; simp
  have hv0 : W0.heap[w.heap.size]? = some (.cells #[.slice none 0 0] 197 (0, 0)) := by rw [← hW0]; exact World.alloc_heap_new w _
  have hb0 : Below w.heap.size w W0 := by rw [← hW0]; exact (Below.refl _ w).alloc (Nat.le_refl _) _
  rw [hW0]
  clear hW0
  refine wpIn_range rfl (by omega) (gf := g) (lb := lb) rfl trivial eg (encs := fun k => #[enc k]) (fun _ => rfl) (List.range m) Box hseq
    (fun k => InBoxV w w.heap.size (W0.heap.size + 1 + 1) ((List.range k).map enc)) (fun _ _ _ => False) (fun k => inBoxV_stays w w.heap.size (W0.heap.size + 1) (Nat.le_refl _) (by omega) (by omega) _) (fun c k => ⟨fun _ _ h _ => h, fun _ _ h => h⟩) (fun k A hA => by obtain ⟨_, _, _, h3, _⟩ := hA; exact hBox A h3) ?h0
    (fun k => { tmps := #[.slice none 0 0, .func (.func g) #[] lb, .pointer (some ⟨w.heap.size, 0, none⟩), undef, .slice none 0 0, enc k, .func (.func g) #[] lb, enc k, undef, undef, undef, undef, undef], defers := [] }) ?assign ?body ?done ?stop
  case h0 =>
    intro o
    have hb : Below W0.heap.size W0 ((W0.alloc (.deferred (some []))).alloc o) := ((Below.refl _ _).alloc (Nat.le_refl _) _).alloc (by simp) _
    exact ⟨_, (hb.block _ (by omega)).trans hv0, OwnV.nil _ _, hb0.trans (hb.mono (by omega)), by simp⟩
  case assign =>
    intro l x W K hK
    gi_wp2
    exact hK
  case body =>
    rintro k x W hx ⟨v, hv, ho, hb, hB⟩ hlt
    obtain ⟨hk1, hk2⟩ := List.getElem?_eq_some_iff.1 hx
    rw [List.length_range] at hk1
    rw [List.getElem_range] at hk2
    subst hk2
    have x0 := cell_of_row _ _ 0 _ _ _ hv
    have HO := Lib.hid ho
    have HB := Lib.hid hb
    have HV := Lib.hid hv
    clear ho hb hv hx
    obtain ⟨i0, hi, hz0, hz1, hz2⟩ := info_parts info_slv
    have HI := Lib.hid hi
    obtain ⟨u, hu⟩ : ∃ u, enc k = u := ⟨_, rfl⟩
    obtain ⟨uA, un, uc, huA⟩ := hone k
    rw [hu] at huA
    have hmx : ((List.range k).map enc).length + 1 ≤ maxLen := by simp only [maxLen, List.length_map, List.length_range]; omega
    have hmy : ((List.range k).map enc).length + 1 ≤ 1099511627776 := by simp only [List.length_map, List.length_range]; omega
    have hnext : (List.range (k + 1)).map enc = (List.range k).map enc ++ [u] := by rw [List.range_succ, List.map_append, ← hu]; rfl
    have HN := Lib.hid hnext
    have hvl : ((List.range k).map enc).length = k := by simp
    obtain ⟨vs, hvs⟩ : ∃ vs, (List.range k).map enc = vs := ⟨_, rfl⟩
    rw [hvs] at HO hmx hmy HN hvl
    rw [hu]
    subst huA
    have HNV := Lib.hid hvl
    have hcells : ∀ (j : Nat) x, [Value.slice uA un uc][j]? = some x → (W.alloc (.cells #[.slice uA un uc] 88)).cell? ((⟨W.heap.size, 0, none⟩ : Addr).add j) = some x := fun j x hx => by
      have hj : j = 0 := by have := (List.getElem?_eq_some_iff.1 hx).1; simp at this; omega
      subst hj
      rw [Addr.add_lit, cell_of_row _ _ _ _ _ _ (heap_alloc_new W _)]
      simpa using hx
    have HC := Lib.hid hcells
    clear hcells hi hnext hvs hu hvl
    gi_wp2_with (gi_at_builtin
                 refine wpListIn_append_own _ rfl _ _ 197 rfl (W0.heap.size + 1 + 1) 88 i0 _ 1 24 Tryz.underlying197 HI.out hz0 hz1 hz2 rfl (by decide) v vs.length vs rfl (World.ownsRow.alloc HO.out _) ⟨W.heap.size, 0, none⟩ 1 1 [.slice uA un uc] rfl rfl HC.out (by simp [Value.oneCell']) hmx (by omega) (by simp; omega) ?_
                 intro v' w3 hown' hg3 hnil3
                 have hon : OwnV w3 (W0.heap.size + 1 + 1) v' (vs ++ [.slice uA un uc]) := by
                   unfold OwnV
                   rw [List.length_append]
                   exact hown'
                 have hb1 : Below W.heap.size W (W.alloc (.cells #[.slice uA un uc] 88)) := (Below.refl _ _).alloc (Nat.le_refl _) _
                 have hold : ∀ j, j ≤ W0.heap.size + 1 → w3.heap[j]? = W.heap[j]? := fun j hj => (hg3.block j (Nat.lt_of_lt_of_le (by omega) hb1.size) (fun e => by have := (HO.out.at e.symm).1; omega)).trans (hb1.block j (by omega))
                 have hv3 : w3.heap[w.heap.size]? = some (.cells #[v] 197 (0, 0)) := (hold _ (by omega)).trans HV.out
                 have y0 := cell_of_row _ _ 0 _ _ _ hv3
                 have yf := (cell_of_box_a hv3).2
                 have hb3 : Below w.heap.size w w3 := (HB.out.trans (hb1.mono (by omega))).grown hg3 (Nat.le_trans (by omega) hb1.size) (fun k e => by have := (HO.out.at e).1; omega)
                 have hsz3 : W.heap.size ≤ w3.heap.size := Nat.le_trans hb1.size hg3.size
                 obtain ⟨g', cap', rfl⟩ : ∃ g' cap', v' = .slice (some ⟨g', 0, none⟩) (vs.length + 1) cap' := by
                   rcases hon.2 with ⟨_, h0⟩ | ⟨g', cap', cur', h', _⟩
                   · simp at h0
                   · exact ⟨g', cap', by rw [h']; simp⟩
                 have HON := Lib.hid hon
                 have HOLD := Lib.hid hold
                 have HV3 := Lib.hid hv3
                 have HB3 := Lib.hid hb3
                 clear hon hold hv3 hb3 hg3 hown' hnil3)
    have hold4 : ∀ j, j ≤ W0.heap.size + 1 → j ≠ w.heap.size → (w3.setCell ⟨w.heap.size, 0, none⟩ (.slice (some ⟨g', 0, none⟩) (vs.length + 1) cap')).heap[j]? = W.heap[j]? := fun j hj hne => (heap_setCell_other _ _ _ _ hne).trans (HOLD.out j hj)
    refine ⟨⟨hold4 _ (by omega) (by omega), hold4 _ (by omega) (by omega)⟩, _, heap_setCell_box_a _ HV3.out, ?_, ?_, ?_⟩
    · rw [HN.out]
      exact HON.out.keep fun k hk => heap_setCell_other _ _ _ _ (fun e => by have e : k = w.heap.size := e; have := (HON.out.at hk).1; omega)
    · have hb := HB3.out
      exact ⟨hb.os, hb.tape, hb.output, by simpa using hb.size, fun k hk => (heap_setCell_other _ _ _ _ (fun e => by have e : k = w.heap.size := e; omega)).trans (hb.block k hk)⟩
    · simp; omega
  case done =>
    rintro W ⟨v, hv, ho, hb, hB⟩ hd
    have x0 := cell_of_row _ _ 0 _ _ _ hv
    have HO := Lib.hid ho
    have HB := Lib.hid hb
    have HD := Lib.hid hd
    clear ho hb hd hv
    gi_wp2
    refine ⟨by simp, .inl ⟨_, _, rfl, run_takeDeferred HD.out, ?_⟩⟩
    rw [List.length_range] at HO
    refine ⟨_, results_tmp rfl _ _ _, v, rfl, (HO.out.keep fun k hk => World.putObj_heap_other (by have := (HO.out.at hk).1; omega)).lower (by omega), ?_⟩
    have hb := HB.out
    exact ⟨hb.os, hb.tape, hb.output, by rw [World.putObj_size]; exact hb.size, fun k hk => (World.putObj_heap_other (by omega)).trans (hb.block k hk)⟩
  case stop =>
    intro c k W _ h
    exact h.elim

set_option maxRecDepth 100000 in
set_option maxHeartbeats 3200000 in
theorem collect_v (n : Nat) (hn : 3 ≤ n) (g : Nat) (lb : Array Value) (eg : ∀ args w, (callFunc g args).run Tryz.prog w = .ok (.enter g args) w) (enc : Nat → Value) (hone : ∀ k, ∃ A n c, enc k = .slice A n c) (m : Nat) (hm : m ≤ 1099511627775) (Box : World → Prop) (w : World) (hBox : ∀ W, Below w.heap.size w W → Box W)
    (hseq : Hands Fence.wide (n - 1 - 1) Tryz.prog g lb (fun k => #[enc k]) (List.range m) Box) :
    CallsIn Fence.wide n Tryz.prog 157 #[.func (.func g) #[] lb] w fun e w' => ∃ v, e = .returned v ∧ OwnV w' w.heap.size v ((List.range m).map enc) ∧ Below w.heap.size w w' := by
  have hfA : Fence.wide.fn 180 := trivial
  have h1 : 1 ≤ n := by omega
  refine callsIn_of_wp Tryz.func157 rfl trivial ?_ rfl
  simp only [Tryz.ntmps157, List.size_toArray, List.length_cons, List.length_nil, Nat.reduceAdd, Nat.reduceSub, Array.replicate_succ, Array.replicate_zero, List.push_toArray, List.append_toArray, List.nil_append, List.cons_append]
  gi_wp2_with (gi_at_call 180; refine (append_seq_v (n - 1) (by omega) g lb eg enc hone m hm Box _ hBox hseq).mono ?_; rintro e w' ⟨v, rfl, ho, hb⟩)
  go_ret
  exact ⟨v, rfl, ho, hb⟩

end Go.Proofs.YtlchmkpnehbnlaaGreatDoor.Cd
