/-
  Get: the value of a key. Conditions: the lists are tables' writes, and not too many.
-/
import Derived.Test.YtlchmkpnehbnlaaGreatDoorG31
import Derived.Test.YtlchmkpnehbnlaaGreatDoorG39
import Derived.Test.YtlchmkpnehbnlaaGreatDoorG13
import Derived.Test.YtlchmkpnehbnlaaGreatDoorG5
import Derived.Test.YtlchmkpnehbnlaaGreatDoorG24
import Derived.Shelf.Abstract
import Derived.Shelf.RegionOpen
import Derived.WalkKit
import Derived.OwnWalkIn
import Derived.TacticsInMore
import Derived.LoopNIn
import Derived.LoopIn
import Derived.BigRegionIn
/-
  Scan: the first pairs from a key on. Conditions: the lists are tables' writes, and not too many.
-/
namespace Go.Proofs.YtlchmkpnehbnlaaGreatDoor.Cd
open Go.RowKit

theorem drop_less {l : List Wr} (h : SrtW l) (k : List UInt8) : l.drop (lessW l k) = fromW k l := by
  induction l with
  | nil => rfl
  | cons x r ih =>
    obtain ⟨h1, h2⟩ := List.pairwise_cons.1 h
    unfold lessW fromW at ih ⊢
    rw [List.takeWhile_cons, List.filter_cons]
    by_cases hx : x.1 < k
    · rw [if_pos (by simpa using hx), if_neg (by simpa using hx), List.length_cons, List.drop_succ_cons]
      exact ih h2
    · rw [if_neg (by simpa using hx), if_pos (by simpa using hx), List.length_nil, List.drop_zero]
      congr 1
      refine (List.filter_eq_self.2 fun y hy => ?_).symm
      have := h1 y hy
      simp only [decide_eq_true_eq]
      exact fun h => hx (less_trans this h)
theorem lessW_le (l : List Wr) (k : List UInt8) : lessW l k ≤ l.length := by
  unfold lessW
  exact (List.takeWhile_sublist _).length_le
def sumL (ls : List (List Wr)) : Nat := (ls.map List.length).sum
theorem dropK_le (k : List UInt8) (l : List Wr) : (dropK k l).length ≤ l.length := (dropK_sub k l).length_le
theorem sumL_drop_le (k : List UInt8) (ls : List (List Wr)) : sumL (dropL k ls) ≤ sumL ls := by
  induction ls with
  | nil => exact Nat.le_refl _
  | cons l r ih =>
    have := dropK_le k l
    unfold sumL dropL at ih ⊢
    simp only [List.map_cons, List.sum_cons]
    omega
theorem sumL_drop {ls : List (List Wr)} {w : Wr} (h : leastW none ls = some w) : sumL (dropL w.1 ls) < sumL ls := by
  obtain ⟨_, _, h3⟩ := least_spec h
  rcases h3 with ⟨h3, _⟩ | ⟨a, r, c, rfl, _⟩
  · cases h3
  · have h1 := sumL_drop_le w.1 a
    have h2 := sumL_drop_le w.1 c
    have e : dropK w.1 (w :: r) = r := by show (if w.1 = w.1 then r else w :: r) = r; rw [if_pos rfl]
    unfold sumL dropL at h1 h2 ⊢
    simp only [List.map_append, List.map_cons, List.sum_append, List.sum_cons, e, List.length_cons]
    omega
theorem dropO_some (w : Wr) (ls : List (List Wr)) : ls.map (dropO (some w)) = dropL w.1 ls := rfl

def lenV : Value → Nat
  | .slice _ n _ => n
  | _ => 0
def rowSum (w : World) (r n : Nat) : Nat := match w.heap[r]? with
  | some (.cells cs _ _) => ((cs.toList.take n).map lenV).sum
  | _ => 0
theorem lens_sum {w : World} : ∀ {vs : List Value} {ls : List (List Wr)}, vs.length = ls.length → (∀ (i : Nat) u l, vs[i]? = some u → ls[i]? = some l → AnyT w u l) → (vs.map lenV).sum = sumL ls
  | [], [], _, _ => rfl
  | u :: vs, l :: ls, hl, h => by
    have h0 : lenV u = l.length := by
      obtain ⟨⟨A, c, rfl, _⟩, _⟩ := h 0 u l rfl rfl
      rfl
    have h1 := lens_sum (vs := vs) (ls := ls) (by simpa using hl) (fun i x m hx hm => h (i + 1) x m (by simpa using hx) (by simpa using hm))
    unfold sumL at h1 ⊢
    simp only [List.map_cons, List.sum_cons, h0, h1]
  | [], _ :: _, hl, _ => by simp at hl
  | _ :: _, [], hl, _ => by simp at hl
theorem RowL.sum {w : World} {B r n c : Nat} {ls : List (List Wr)} (h : RowL w B (.slice (some ⟨r, 0, none⟩) n c) ls) : rowSum w r n = sumL ls := by
  obtain ⟨vs, h1, h3⟩ := h
  have hvl : vs.length = ls.length := by have := h1.1; omega
  rcases h1.2 with ⟨e, _⟩ | ⟨g, cap, cur, e, hg, hh, h4, h5, h6, h7⟩
  · cases e
  · injection e with e1 e2 _
    injection e1 with e1; injection e1 with e1
    subst e1 e2
    unfold rowSum
    rw [hh]
    have h8 : cur.toList.take ls.length = vs := by simpa using h7
    show ((cur.toList.take ls.length).map lenV).sum = _
    rw [h8]
    exact lens_sum hvl h3
theorem RowL.sum' {w : World} {B r n c : Nat} {ls : List (List Wr)} (h : RowL w B (.slice (some ⟨r, 0, none⟩) n c) ls) {m : Nat} (_ : ls.length = m) : rowSum w r n = sumL ls := h.sum
theorem OwnPr.notL {w : World} {B B' : Nat} {v v' : Value} {ls : List (List Wr)} {P : Prs} (h : OwnPr w B v P) (h2 : RowL w B' v' ls) : ∀ b, v.ownBlock = some b → ¬ v'.ownBlock = some b := fun b hb hb2 => by
  obtain ⟨_, _, cur, hc⟩ := h2.lt hb2
  rcases World.ownsRow.lt h b hb with ⟨_, _⟩
  rcases h.2 with ⟨rfl, _⟩ | ⟨g, cap, cur2, rfl, _, hh, _⟩
  · cases hb
  · have : g = b := by simpa [Value.ownBlock] using hb
    subst this
    rw [hc] at hh
    injection hh with hh; injection hh with _ hh _
    exact absurd hh (by decide)

theorem RowL.go {w w' : World} {B : Nat} {v : Value} {ls : List (List Wr)} {U : Nat → Prop} (h : RowL w B v ls) (ha : Apart U w w') (hU : ∀ k, k < w.heap.size → U k → NotW w k ∧ v.ownBlock ≠ some k) : RowL w' B v ls := by
  have hlt := fun r hr => h.lt (r := r) hr
  obtain ⟨vs, h1, h2⟩ := h
  refine ⟨vs, ⟨h1.1, ?_⟩, fun i u l hu hl => (h2 i u l hu hl).go ha (fun k hk hu => .inr (hU k hk hu).1) (fun _ _ h => h)⟩
  rcases h1.2 with h4 | ⟨g, cap, cur, rfl, hg, hh, r⟩
  · exact .inl h4
  · exact .inr ⟨g, cap, cur, rfl, hg, (ha.block g (hlt g rfl).2.1 (fun hu => (hU g (hlt g rfl).2.1 hu).2 rfl)).trans hh, r⟩
theorem OwnPr.notW {w : World} {B : Nat} {v : Value} {P : Prs} (h : OwnPr w B v P) {b : Nat} (hb : v.ownBlock = some b) : NotW w b := fun cs fr e => by
  rcases h.2 with ⟨rfl, _⟩ | ⟨g, cap, cur2, rfl, _, hh, _⟩
  · cases hb
  · have : g = b := by simpa [Value.ownBlock] using hb
    subst this
    rw [e] at hh
    injection hh with hh; injection hh with _ hh _
    exact absurd hh (by decide)

structure FromQ (W1 : World) (B : Nat) (A : Option Addr) (c : Nat) (ls : List (List Wr)) (k : List UInt8) (m : Nat) (wx : World) : Prop where
  row : RowK wx W1 B (.slice A ls.length c) ((ls.take m).map (fromW k) ++ ls.drop m)
  low : Apart (fun q => (Value.slice A ls.length c).ownBlock = some q) W1 wx
section
variable {W1 wx w' : World} {B c m : Nat} {A : Option Addr} {ls : List (List Wr)} {k : List UInt8} {l : List Wr}
theorem from_take (hl : ls[m]? = some l) : (ls.take (m + 1)).map (fromW k) ++ ls.drop (m + 1) = ((ls.take m).map (fromW k) ++ ls.drop m).set m (fromW k l) := by
  obtain ⟨hm, rfl⟩ := List.getElem?_eq_some_iff.1 hl
  have hz : ((ls.take m).map (fromW k)).length = m := by rw [List.length_map, List.length_take]; omega
  rw [List.take_succ_eq_append_getElem hm, List.map_append, List.set_append_right _ _ (by omega), hz, Nat.sub_self, List.drop_eq_getElem_cons hm, List.append_assoc]
  rfl
theorem from_at (hl : ls[m]? = some l) : ((ls.take m).map (fromW k) ++ ls.drop m)[m]? = some l := by
  obtain ⟨hm, rfl⟩ := List.getElem?_eq_some_iff.1 hl
  have hz : ((ls.take m).map (fromW k)).length = m := by rw [List.length_map, List.length_take]; omega
  rw [List.getElem?_append_right (by omega), hz, Nat.sub_self, List.drop_eq_getElem_cons hm]
  rfl
theorem FromQ.below (h : FromQ W1 B A c ls k m wx) (hb : Below wx.heap.size wx w') : FromQ W1 B A c ls k m w' :=
  ⟨h.row.same fun g hg => hb.block g (by obtain ⟨vs, h1, _⟩ := h.row; exact (World.ownsRow.lt h1 g hg).2), h.low.trans (Apart.below hb)⟩
theorem FromQ.step {r : Nat} {u : Value} (h : FromQ W1 B (some ⟨r, 0, none⟩) c ls k m wx) (hl : ls[m]? = some l) (hu : AnyT W1 u (fromW k l)) : FromQ W1 B (some ⟨r, 0, none⟩) c ls k (m + 1) (wx.setCell ⟨r, m, none⟩ u) := by
  refine ⟨?_, h.low.trans ((apart_set wx r m u).mono fun q hq => by have e : q = r := hq; subst e; exact .inl rfl)⟩
  rw [from_take hl]
  exact h.row.set hu
end

def ScanIs (W : World) (X : Prs) (e : Ending) (w' : World) : Prop := ∃ v, e = .returned v ∧ OwnPr w' W.heap.size v X ∧ Below W.heap.size W w'

set_option maxRecDepth 100000 in
set_option maxHeartbeats 3200000 in
theorem scan_s {w0 W : World} {S : Nat → Prop} {t l g : Nat} {vt vm : Value} {nm s : List UInt8} {last cnt : Nat} {tight : Int} {tabs : List (List Wr)} {mem : List Wr} (h : TreeAt w0 W S t l g vt vm nm s last cnt tight tabs mem) (hl : tabs.length ≤ 1000)
    (hls : Lists (tabs ++ [mem])) (hll : ∀ m ∈ tabs ++ [mem], m.length ≤ 1073741824) (hP : (treeP tabs mem).length ≤ 1000000000) (key : List UInt8) (n : Int) (_ : n ≤ 9223372036854775807) :
    Calls Tryz.prog 20 #[.pointer (some ⟨t, 0, none⟩), .string ⟨key.toArray⟩, .int .i64 n] W (ScanIs W (scanP (treeP tabs mem) key n.toNat)) := by
  have CL := Lib.hid (lists_s h hl)
  obtain ⟨ls, hlsn⟩ : ∃ ls, tabs ++ [mem] = ls := ⟨_, rfl⟩
  obtain ⟨T, hT⟩ : ∃ T, liveP (ofW (ls.map (fromW key)).flatten) = T := ⟨_, rfl⟩
  have hans : scanP (treeP tabs mem) key n.toNat = T.take n.toNat := by rw [← hT, ← hlsn, scan_tree hls]
  have hTl : T.length ≤ 1000000000 := by
    have e := scan_tree hls key T.length
    rw [hlsn, hT, List.take_length] at e
    rw [e]
    unfold scanP
    rw [List.length_take]
    exact Nat.le_trans (Nat.min_le_right _ _) (Nat.le_trans (List.length_filter_le _ _) hP)
  rw [hans]
  have hlen : ls.length = tabs.length + 1 := by rw [← hlsn, List.length_append]; rfl
  rw [hlsn] at hls hll CL
  have HLS := Lib.hid hls
  have HLL := Lib.hid hll
  have HT := Lib.hid hT
  have HTL := Lib.hid hTl
  have hl1 : ls.length ≤ 1001 := by omega
  have hl0 : 0 < ls.length := by omega
  clear h hans hls hll hT hTl hP hlsn hlen hl
  go_enter Tryz.func20, Tryz.ntmps20
  go_wp2_with fail
  refine CL.out.mono ?_
  rintro e W1 ⟨v1, rfl, ho1, hb1⟩
  obtain ⟨A, c, rfl, hc1, hc2⟩ := ho1.len
  have HO1 := Lib.hid ho1
  have HB1 := Lib.hid hb1
  have hq0 : FromQ W1 W.heap.size A c ls key 0 W1 := ⟨by show RowK W1 W1 _ _ ([] ++ ls); exact ho1, Apart.refl _ _⟩
  have HQ0 := Lib.hid hq0
  clear hq0 ho1 hb1 CL
  go_wp2_with fail
  go_loopw [19] (fun i wx => ∃ m : Nat, i = .int .i64 m ∧ m ≤ ls.length ∧ Hid (FromQ W1 W.heap.size A c ls key m wx)) (fun i _ => ls.length - (intOf i).toNat)
  case atStart => exact ⟨0, rfl, by omega, HQ0.out⟩
  case round =>
    obtain ⟨m, rfl, hm, hq⟩ := hrel
    by_cases hlt : m < ls.length
    · obtain ⟨l, hlk⟩ : ∃ l, ls[m]? = some l := ⟨ls[m], List.getElem?_eq_getElem hlt⟩
      obtain ⟨r, u, e, hr, hcell, hfr, hu0⟩ := hq.out.row.at (from_at (k := key) hlk)
      subst e
      have hu : AnyT wr u l := hu0.go hq.out.low (fun k _ hk => .inr (HO1.out.notW hk)) (fun _ _ h => h)
      obtain ⟨Au, cu, rfl, hu1, hu2⟩ := hu.1.len
      have hin := List.mem_of_getElem? hlk
      have CP := Lib.hid (place_any scompare_any _ l key wr hu.1 (HLS.out l hin).1 (HLL.out l hin))
      obtain ⟨n1, hn1⟩ : ∃ n1, lessW l key = n1 := ⟨_, rfl⟩
      have hle := lessW_le l key
      have hdl := drop_less (HLS.out l hin).1 key
      rw [hn1] at hle CP hdl
      obtain ⟨n2, hn2⟩ : ∃ n2, l.length = n2 := ⟨_, rfl⟩
      have hrest := fun C h1 h2 => any_rest hu0 n1 hle C h1 h2
      rw [hdl, hn2] at hrest
      rw [hn2] at hle CP hcell hu1
      have HR := Lib.hid hrest
      have HLK := Lib.hid hlk
      clear hrest hdl hu hu0 hin hlk hn1 hn2
      go_wp2_with fail
      refine CP.out.mono ?_
      rintro e w2 ⟨rfl, hb2⟩
      have hc2 : w2.cell? ⟨r, m, none⟩ = some (.slice Au n2 cu) := (hb2.cell (p := ⟨r, m, none⟩) hr).trans hcell
      have hf2 : w2.frozen? ⟨r, m, none⟩ = false := by
        have := hb2.block r hr
        unfold World.frozen? at hfr ⊢
        simp only [this]
        exact hfr
      have HQ2 := Lib.hid (hq.out.below hb2)
      clear hb2 hcell hfr CP hq
      by_cases hcn : cu = n1
      · go_wp2_with fail
        go_roundw
        case rel =>
          have hr1 := HR.out (Au) (fun h => absurd hcn h) (fun h => rfl)
          rw [hcn, Nat.sub_self] at hr1
          exact ⟨m + 1, by go_num, by omega, HQ2.out.step HLK.out hr1⟩
        case measure => simp [intOf]; omega
      · go_wp2_with fail
        go_roundw
        case rel =>
          have hr1 := HR.out (Option.map (fun x => x.add (n1 * 3)) Au) (fun h => rfl) (fun h => absurd h hcn)
          exact ⟨m + 1, by go_num, by omega, HQ2.out.step HLK.out hr1⟩
        case measure => simp [intOf]; omega
    · have hm2 : m = ls.length := by omega
      subst hm2
      have hq1 := hq.out.row
      rw [List.take_of_length_le (Nat.le_refl _), List.drop_eq_nil_of_le (Nat.le_refl _), List.append_nil] at hq1
      have hrow := hq1.now hq.out.low (fun r hr => HO1.out.notW hr)
      obtain ⟨l0, hl0'⟩ : ∃ l0, (ls.map (fromW key))[0]? = some l0 := ⟨(ls.map (fromW key))[0]'(by rw [List.length_map]; exact hl0), List.getElem?_eq_getElem _⟩
      obtain ⟨r, _, e, hBr, hrw, _⟩ := hrow.at hl0'
      subst e
      have HR0 := Lib.hid hrow
      have hb3 : Below W.heap.size W wr := HB1.out.trans (hq.out.low.low HB1.out.size (fun q hq => (HO1.out.lt hq).1))
      have HB3 := Lib.hid hb3
      clear hrow hq1 hq hl0' hb3
      go_wp2_with fail
      go_loopw [12] (fun v wx => ∃ (ls2 : List (List Wr)) (P : Prs), ls2.length = ls.length ∧ Hid (RowL wx W.heap.size (.slice (some ⟨r, 0, none⟩) ls.length c) ls2) ∧ Hid (OwnPr wx W.heap.size v P) ∧ Hid (Lists ls2) ∧ Hid (P ++ liveP (ofW ls2.flatten) = T) ∧ P.length ≤ n.toNat ∧ Hid (Below W.heap.size W wx)) (fun _ wx => rowSum wx r ls.length)
      case atStart => exact ⟨ls.map (fromW key), [], by rw [List.length_map], HR0.out, OwnPr.nil _ _, fromW_lists HLS.out key, by rw [List.nil_append]; exact HT.out, by simp, HB3.out⟩
      case round =>
        obtain ⟨ls2, P, hl2, hr2, hp2, hls2, hT2, hPn, hb2⟩ := hrel
        have hPT : P.length ≤ T.length := by rw [← hT2.out, List.length_append]; omega
        have hPT := Nat.le_trans hPT HTL.out
        obtain ⟨Ap, cp, rfl, hp3, hp4⟩ := hp2.out.prIn.len
        by_cases hlt2 : (P.length : Int) < n
        · have CN := Lib.hid (next_s _ ls2 wr W.heap.size hr2.out (by omega))
          obtain ⟨o, hlo⟩ : ∃ o, leastW none ls2 = o := ⟨_, rfl⟩
          rw [hlo] at CN
          have HLO := Lib.hid hlo
          clear hlo
          go_wp2_with fail
          refine CN.out.mono ?_
          rintro e w3 ⟨rfl, hr3, ha3⟩
          cases o with
          | none =>
            have hz : liveP (ofW ls2.flatten) = [] := by rw [least_nil HLO.out]; rfl
            have HE : Hid (P = T.take n.toNat) := by
              have h1 := hT2.out
              rw [hz, List.append_nil] at h1
              unfold Hid
              rw [← h1, List.take_of_length_le hPn]
            have hp5 : OwnPr w3 W.heap.size (.slice Ap P.length cp) P := hp2.out.off ha3 (hp2.out.notL hr2.out)
            have HP5 := Lib.hid hp5
            have hb5 : Below W.heap.size W w3 := hb2.out.trans (ha3.low hb2.out.size (fun q hq => (hr2.out.lt hq).1))
            have HB5 := Lib.hid (hb5.alloc hb5.size (.cells #[.string ⟨#[]⟩, .string ⟨#[]⟩, .bool false] 52))
            clear hz hp5 hb5 hr3 ha3 CN hp2 hr2 hb2 hT2
            go_wp2_with fail
            go_ret
            exact ⟨_, rfl, by rw [← HE.out]; exact HP5.out.alloc _, HB5.out⟩
          | some x =>
            have hp5 : OwnPr w3 W.heap.size (.slice Ap P.length cp) P := hp2.out.off ha3 (hp2.out.notL hr2.out)
            have hb5 : Below W.heap.size W w3 := hb2.out.trans (ha3.low hb2.out.size (fun q hq => (hr2.out.lt hq).1))
            have hb6 : Below w3.heap.size w3 (w3.alloc (.cells #[.string ⟨x.1.toArray⟩, .string ⟨x.2.1.toArray⟩, .bool x.2.2] 52)) := (Below.refl _ _).alloc (Nat.le_refl _) _
            have hz6 : (w3.alloc (.cells #[.string ⟨x.1.toArray⟩, .string ⟨x.2.1.toArray⟩, .bool x.2.2] 52)).heap.size = w3.heap.size + 1 := by simp
            have hw6 := heap_alloc_new w3 (.cells #[.string ⟨x.1.toArray⟩, .string ⟨x.2.1.toArray⟩, .bool x.2.2] 52)
            have c0 := cell_of_row _ _ 0 _ _ _ hw6
            have c1 := cell_of_row _ _ 1 _ _ _ hw6
            have c2 := cell_of_row _ _ 2 _ _ _ hw6
            have hr6 := hr3.below hb6
            have hp6 := hp5.alloc (.cells #[.string ⟨x.1.toArray⟩, .string ⟨x.2.1.toArray⟩, .bool x.2.2] 52)
            have HB6 := Lib.hid (hb5.trans (hb6.mono hb5.size))
            have hsz := hb5.size
            have HM : Hid (sumL (dropL x.1 ls2) < rowSum wr r ls.length) := by unfold Hid; rw [hr2.out.sum]; exact sumL_drop HLO.out
            have HLS2 : Hid (Lists (dropL x.1 ls2)) := dropL_lists hls2.out x.1
            have hnx := scan_next hls2.out HLO.out
            have hdl : (dropL x.1 ls2).length = ls.length := by unfold dropL; rw [List.length_map]; exact hl2
            rw [dropO_some] at hr6
            obtain ⟨ls3, hls3⟩ : ∃ y, dropL x.1 ls2 = y := ⟨_, rfl⟩
            rw [hls3] at HM HLS2 hnx hdl hr6
            have HHP := Lib.hid hp6
            have HHR := Lib.hid hr6
            clear hls3 hw6 hb6 hp5 hb5 ha3 hr3 CN hr2 hb2 hls2 HLO hp2 hp6 hr6
            by_cases hg : x.2.2 = true
            · have HT3 : Hid (P ++ liveP (ofW ls3.flatten) = T) := by
                rw [if_pos hg] at hnx
                unfold Hid
                rw [← hnx]; exact hT2.out
              rw [hg] at c0 c1 c2 hz6 HB6 HHP HHR
              clear hnx hT2
              go_wp2_with fail
              go_roundw
              case rel => exact ⟨ls3, P, hdl, HHR.out, HHP.out, HLS2.out, HT3.out, hPn, HB6.out⟩
              case measure => rw [HHR.out.sum' hdl]; exact HM.out
            · have hg : x.2.2 = false := by simpa using hg
              have HT3 : Hid ((P ++ [(x.1, x.2.1)]) ++ liveP (ofW ls3.flatten) = T) := by
                rw [if_neg (by rw [hg]; decide)] at hnx
                unfold Hid
                rw [List.append_assoc]
                have h1 := hT2.out
                rw [hnx] at h1
                exact h1
              rw [hg] at c0 c1 c2 hz6 HB6 HHP HHR
              clear hnx hT2
              go_wp2_with (at_builtin; refine wp_append_newp rfl _ _ rfl (x.1, x.2.1) rfl HHP.out (by rw [hz6]; omega) (by rw [hz6]; rfl) (by omega) ?_; intro v4 w4 ho4 hb4 hk4 hz4
                           have HO4 := Lib.hid ho4
                           have HB4 := Lib.hid (HB6.out.trans hb4)
                           have HR4 := Lib.hid (HHR.out.go (U := fun k => (Value.slice Ap P.length cp).ownBlock = some k) ⟨hb4.os, hb4.tape, hb4.output, hz4, fun k hk hn => hk4 k hk (fun e => hn e.symm)⟩ (fun k _ hk => ⟨HHP.out.notW hk, HHP.out.notL HHR.out k hk⟩)); clear ho4 hb4 hk4 hz4)
              go_roundw
              case rel => exact ⟨ls3, P ++ [(x.1, x.2.1)], hdl, HR4.out, HO4.out, HLS2.out, HT3.out, by rw [List.length_append, List.length_singleton]; omega, HB4.out⟩
              case measure => rw [HR4.out.sum' hdl]; exact HM.out
        · have HE : Hid (P = T.take n.toNat) := by
            have e : n.toNat = P.length := by omega
            unfold Hid
            rw [e, ← hT2.out, List.take_left']
            rfl
          go_wp2_with fail
          go_ret
          exact ⟨_, rfl, by rw [← HE.out]; exact hp2.out, hb2.out⟩

end Go.Proofs.YtlchmkpnehbnlaaGreatDoor.Cd

/-
  slices.Backward of lists: what it hands over. Conditions: none.
-/
namespace Go.Proofs.YtlchmkpnehbnlaaGreatDoor.Cd
open Go.RowKit Go.Shelf
attribute [local go_sem] Oper.semAt_some

theorem lback_any (A : Option Addr) (n c : Nat) (w : World) :
    Calls Tryz.prog 39 #[.slice A n c] w (fun e w' => e = .returned (.func (.func 74) #[] #[.pointer (some ⟨w.heap.size, 0, none⟩)]) ∧
      w' = w.alloc (.cells #[.slice A n c] 59)) := by
  go_enter Tryz.func39, Tryz.ntmps39
  go_wp2_with fail
  go_ret
  exact ⟨by simp, rfl⟩

def BackB (bs r n c : Nat) (vs : List Value) (W : World) : Prop := W.cell? ⟨bs, 0, none⟩ = some (.slice (some ⟨r, 0, none⟩) n c) ∧ ∀ i u, vs[i]? = some u → W.cell? ⟨r, i, none⟩ = some u

set_option maxRecDepth 100000 in
set_option maxHeartbeats 3200000 in
theorem lback_hands (m bs r n c : Nat) (vs : List Value) (hn : vs.length = n) (_ : n ≤ c) (_ : c ≤ 9223372036854775807) (hn2 : n ≤ 1000000) :
    Hands Fence.wide m Tryz.prog 74 #[.pointer (some ⟨bs, 0, none⟩)] (fun k => #[.int .i64 ((n - 1 - k : Nat) : Int), vs.getD (n - 1 - k) undef]) (List.range n) (BackB bs r n c vs) := by
  intro l J Jx W hJ hJx hB hY h0
  have HJ := Lib.hid hJ
  have HJX := Lib.hid hJx
  have HBX := Lib.hid hB
  have HY := Lib.hid hY
  have H0 := Lib.hid h0
  have HN := Lib.hid hn
  obtain ⟨x0, _⟩ := hB 0 W h0
  have hn3 : (n : Int) ≤ 1000000 := by omega
  have hw0 : IntKind.i64.wrap ((n : Int) - 1) = (n : Int) - 1 := by rw [IntKind.wrap_i64]; omega
  obtain ⟨q0, hq0⟩ : ∃ q, (n : Int) - 1 = q := ⟨_, rfl⟩
  rw [hq0] at hw0
  have HQ0 := Lib.hid hq0
  have hq1 : (n : Int) - 1 = q0 := hq0
  clear hJ hJx hB hY h0 hn hq0
  refine callsIn_of_wp Tryz.func74 rfl trivial ?_ rfl
  simp only [Tryz.ntmps74, List.size_toArray, List.length_cons, List.length_nil, Nat.reduceAdd, Nat.reduceSub, Array.replicate_succ, Array.replicate_zero, List.push_toArray, List.append_toArray, List.nil_append, List.cons_append]
  gi_wp2
  gi_loopw [3] (fun p wr => ∃ (q : Int) (k : Nat), p = .int .i64 q ∧ Hid (q + 1 + k = n) ∧ -1 ≤ q ∧ q < n ∧ Hid (J k wr)) (fun p _ => (intOf p + 1).toNat)
  case atStart => exact ⟨q0, 0, rfl, by have := HQ0.out; unfold Hid; omega, by have := HQ0.out; omega, by have := HQ0.out; omega, H0⟩
  case round =>
    obtain ⟨q, k, rfl, hi, hq1, hq2, hJk⟩ := hrel
    obtain ⟨x1, x2⟩ := HBX.out k wr hJk.out
    by_cases hlt : 0 ≤ q
    · obtain ⟨i, rfl⟩ : ∃ i : Nat, q = (i : Int) := ⟨q.toNat, by omega⟩
      have hkl : k < n := by have := hi.out; omega
      have hin : i < n := by omega
      have hni : n - 1 - k = i := by have := hi.out; omega
      obtain ⟨fn, tmps, assign, body, hy, hR⟩ := HY.out k k wr (List.getElem?_range hkl) hJk.out
      obtain ⟨u, hu⟩ : ∃ u, vs[i]? = some u := ⟨vs[i]'(by rw [HN.out]; omega), List.getElem?_eq_getElem _⟩
      have hcell := x2 i u hu
      have hgd : vs.getD i undef = u := by rw [List.getD_eq_getElem?_getD, hu]; rfl
      rw [hni, hgd] at hy
      have HR := Lib.hid hR
      have HKL := Lib.hid hkl
      clear hR hkl hni hgd x2 hu
      gi_wp2
      refine ⟨fun h => (by cases h), HR.out.mono ?_⟩
      rintro e2 W3 (⟨rfl, hJ3⟩ | ⟨rfl, hJx3⟩)
      · have HJ3 := Lib.hid hJ3
        obtain ⟨z1, z2⟩ := HBX.out _ W3 hJ3
        clear hJ3
        gi_wp2
        go_roundw
        case rel =>
          have h1 := hi.out
          exact ⟨(i : Int) - 1, k + 1, by go_num, by unfold Hid; omega, by omega, by omega, HJ3⟩
        case measure => simp [intOf]
      · have HX3 := Lib.hid hJx3
        clear hJx3
        gi_wp2
        refine bodyPost_ret (results_none rfl _ _ _) rfl ?_
        exact ⟨⟨_, rfl⟩, .inr ⟨k + 1, by rw [List.length_range]; exact HKL.out, HX3.out⟩⟩
    · have hke : k = n := by
        have h1 := hi.out
        omega
      gi_wp2
      go_end0
      exact ⟨⟨_, rfl⟩, .inl (by first | (rw [List.length_range, ← hke]; exact hJk.out) | exact hke ▸ hJk.out)⟩

end Go.Proofs.YtlchmkpnehbnlaaGreatDoor.Cd

/-
  Get: the value of a key. Conditions: the lists are tables' writes, and not too many.
-/
namespace Go.Proofs.YtlchmkpnehbnlaaGreatDoor.Cd
open Go.RowKit Go.Shelf
attribute [local go_sem] Oper.semAt_some

theorem at_less {l : List Wr} (h : SrtW l) {key : List UInt8} {x : Wr} (hg : getW l key = some x) : l[lessW l key]? = some x := by
  induction l with
  | nil => cases hg
  | cons y r ih =>
    obtain ⟨h1, h2⟩ := List.pairwise_cons.1 h
    have ih := ih h2
    have hk := getW_key hg
    unfold lessW at ih ⊢
    unfold getW at hg ih
    rw [List.find?_cons] at hg
    rw [List.takeWhile_cons]
    by_cases hy : y.1 < key
    · have hb : (y.1 == key) = false := by rw [beq_eq_false_iff_ne]; exact less_ne hy
      rw [hb] at hg
      rw [if_pos (by simpa using hy), List.length_cons, List.getElem?_cons_succ]
      exact ih hg
    · rw [if_neg (by simpa using hy), List.length_nil, List.getElem?_cons_zero]
      by_cases e : y.1 = key
      · have hb : (y.1 == key) = true := by rw [e]; exact beq_self_eq_true _
        rw [hb] at hg
        exact hg
      · have hb : (y.1 == key) = false := by rw [beq_eq_false_iff_ne]; exact e
        rw [hb] at hg
        exact absurd (hk ▸ h1 x (List.mem_of_find?_eq_some hg)) hy
def NoneL (ls : List (List Wr)) (key : List UInt8) (k : Nat) : Prop := getL (ls.drop (ls.length - k)) key = none
theorem NoneL.step {ls : List (List Wr)} {key : List UInt8} {k : Nat} {l : List Wr} (h : NoneL ls key k) (hk : k < ls.length) (hl : ls[ls.length - 1 - k]? = some l) : getL (ls.drop (ls.length - (k + 1))) key = getW l key := by
  unfold NoneL at h
  obtain ⟨h1, rfl⟩ := List.getElem?_eq_some_iff.1 hl
  have e : ls.length - (k + 1) = ls.length - 1 - k := by omega
  rw [e, List.drop_eq_getElem_cons h1]
  show (getL (ls.drop (ls.length - 1 - k + 1)) key).or _ = _
  rw [show ls.length - 1 - k + 1 = ls.length - k by omega, h]
  rfl
theorem getL_cons_some {ls : List (List Wr)} {key : List UInt8} {x : Wr} : ∀ {m : Nat}, getL (ls.drop m) key = some x → getL ls key = some x := by
  intro m
  induction ls generalizing m with
  | nil => intro h; rw [List.drop_nil] at h; exact h
  | cons l r ih =>
    intro h
    cases m with
    | zero => exact h
    | succ m =>
      show (getL r key).or _ = _
      rw [ih (m := m) h]
      rfl
theorem noneL_all {ls : List (List Wr)} {key : List UInt8} (h : NoneL ls key ls.length) : getL ls key = none := by
  unfold NoneL at h
  rwa [Nat.sub_self, List.drop_zero] at h

def GetIs (W : World) (o : Option Wr) (e : Ending) (w' : World) : Prop :=
  e = .returned (.tuple #[.string ⟨((o.map fun x => x.2.1).getD []).toArray⟩, .bool ((o.map fun x => !x.2.2).getD false)]) ∧ Below W.heap.size W w'

theorem below_put {Z r : Nat} {A B : World} (h : Below Z A B) (hr : Z ≤ r) (o : Obj) : Below Z A (B.putObj r o) :=
  ⟨h.os, h.tape, h.output, by rw [World.putObj_size]; exact h.size, fun k hk => (World.putObj_heap_other (by omega)).trans (h.block k hk)⟩

theorem ret_get {fn : Func} {p q : Tmp} (h : fn.results = #[.cell p 9, .cell q 4]) (tmps : Array Value) (w : World) {r r2 : Nat} {v v2 : Value} (hp : tmps.getD p undef = .pointer (some ⟨r, 0, none⟩)) (hq : tmps.getD q undef = .pointer (some ⟨r2, 0, none⟩)) (hb : w.cell? ⟨r, 0, none⟩ = some v) (hb2 : w.cell? ⟨r2, 0, none⟩ = some v2) :
    (results fn tmps).run Tryz.prog w = .ok (.tuple #[v, v2]) w := by
  have hp' : tmps[p]?.getD undef = .pointer (some ⟨r, 0, none⟩) := by simpa using hp
  have hq' : tmps[q]?.getD undef = .pointer (some ⟨r2, 0, none⟩) := by simpa using hq
  simp [results, h, hp', hq', asAddr, loadVar, go_sem, hb, hb2]

set_option maxRecDepth 100000 in
set_option maxHeartbeats 6400000 in
theorem get_s {w0 W : World} {S : Nat → Prop} {t l g : Nat} {vt vm : Value} {nm s : List UInt8} {last cnt : Nat} {tight : Int} {tabs : List (List Wr)} {mem : List Wr} (h : TreeAt w0 W S t l g vt vm nm s last cnt tight tabs mem) (hl : tabs.length ≤ 1000)
    (hls : Lists (tabs ++ [mem])) (hll : ∀ m ∈ tabs ++ [mem], m.length ≤ 1073741824) (key : List UInt8) :
    Calls Tryz.prog 16 #[.pointer (some ⟨t, 0, none⟩), .string ⟨key.toArray⟩] W (GetIs W (getL (tabs ++ [mem]) key)) := by
  obtain ⟨W0, hW0⟩ : ∃ x, ((W.alloc (.cells #[.string ⟨key.toArray⟩] 9)).alloc (.cells #[.string ⟨#[]⟩] 9)).alloc (.cells #[.bool false] 4) = x := ⟨_, rfl⟩
  have hb0 : Below W.heap.size W W0 := by rw [← hW0]; exact (((Below.refl _ _).alloc (Nat.le_refl _) _).alloc (by simp) _).alloc (by simp; omega) _
  have hz0 : W0.heap.size = W.heap.size + 3 := by rw [← hW0]; simp
  have b0 : BoxAt W0 W.heap.size (.string ⟨key.toArray⟩) 9 := by rw [← hW0]; exact ((BoxAt.new W _ _).alloc _).alloc _
  have b1 : BoxAt W0 (W.heap.size + 1) (.string ⟨#[]⟩) 9 := by
    rw [← hW0]
    have := (BoxAt.new (W.alloc (.cells #[.string ⟨key.toArray⟩] 9)) (.string ⟨#[]⟩) 9).alloc (.cells #[.bool false] 4)
    rwa [World.size_alloc] at this
  have b2 : BoxAt W0 (W.heap.size + 2) (.bool false) 4 := by
    rw [← hW0]
    have := BoxAt.new ((W.alloc (.cells #[.string ⟨key.toArray⟩] 9)).alloc (.cells #[.string ⟨#[]⟩] 9)) (.bool false) 4
    rwa [World.size_alloc, World.size_alloc] at this
  have h0 := h.below hb0
  have CL := Lib.hid (lists_s h0 hl)
  obtain ⟨ls, hlsn⟩ : ∃ ls, tabs ++ [mem] = ls := ⟨_, rfl⟩
  have hlen : ls.length = tabs.length + 1 := by rw [← hlsn, List.length_append]; rfl
  rw [hlsn] at hls hll CL ⊢
  obtain ⟨o, ho⟩ : ∃ o, getL ls key = o := ⟨_, rfl⟩
  rw [ho]
  have HO := Lib.hid ho
  have HLS := Lib.hid hls
  have HLL := Lib.hid hll
  have hl1 : ls.length ≤ 1001 := by omega
  have hl0 : 0 < ls.length := by omega
  have B0 := Lib.hid b0
  have B1 := Lib.hid b1
  have B2 := Lib.hid b2
  have HB0 := Lib.hid hb0
  clear h h0 hls hll hlsn hlen hl ho b0 b1 b2 hb0
  refine (callsIn_wide (n := 6)).1 ?_
  refine callsIn_of_wp_marks Tryz.func16 rfl trivial ?_ rfl
  simp only [Tryz.ntmps16, List.size_toArray, List.length_cons, List.length_nil, Nat.reduceAdd, Nat.reduceSub, Array.replicate_succ, Array.replicate_zero, List.push_toArray, List.append_toArray, List.nil_append, List.cons_append]
  gi_wp2_with fail
  refine ⟨trivial, (callsIn_wide.2 CL.out).mono ?_⟩
  rintro e W1 ⟨v1, rfl, ho1, hb1⟩
  obtain ⟨A, c, rfl, hc1, hc2⟩ := ho1.len
  have HO1 := Lib.hid ho1
  have HB1 := Lib.hid hb1
  clear ho1 hb1 CL
  gi_wp2_with fail
  refine ⟨trivial, (callsIn_wide.2 (lback_any _ _ _ _)).mono ?_⟩
  rintro e W3 ⟨rfl, hW3⟩
  obtain ⟨vs, hrow, hany⟩ := HO1.out
  have hvl : vs.length = ls.length := by have := hrow.1; omega
  obtain ⟨r, u0, e0, hBr, hrW, _⟩ := HO1.out.at (i := 0) (l := ls[0]) (List.getElem?_eq_getElem hl0)
  subst e0
  have hcl : ∀ i u, vs[i]? = some u → W1.cell? ⟨r, i, none⟩ = some u := fun i u hu => by
    have := World.ownsRow.cells hrow (g := r) rfl i u hu
    rwa [Addr.add_lit, Nat.zero_add] at this
  have hb13 : Below W1.heap.size W1 W3 := by rw [hW3]; exact (Below.refl _ _).alloc (Nat.le_refl _) _
  have hz3 : W3.heap.size = W1.heap.size + 1 := by rw [hW3]; simp
  have hz1 : W.heap.size + 3 ≤ W1.heap.size := by have := HB1.out.size; omega
  have c3 : W3.cell? ⟨W1.heap.size, 0, none⟩ = some (.slice (some ⟨r, 0, none⟩) ls.length c) := by rw [hW3]; exact cell_of_row _ _ 0 _ _ _ (heap_alloc_new W1 _)
  have hcl3 : ∀ i u, vs[i]? = some u → W3.cell? ⟨r, i, none⟩ = some u := fun i u hu => (hb13.cell (p := ⟨r, i, none⟩) hrW).trans (hcl i u hu)
  have han3 : ∀ (i : Nat) u l, vs[i]? = some u → ls[i]? = some l → AnyT W3 u l := fun i u l hu hl => (hany i u l hu hl).below hb13
  have hlow3 : Below W.heap.size W W3 := HB0.out.trans ((HB1.out.trans (hb13.mono HB1.out.size)).mono (by omega))
  have d0 : BoxAt W3 W.heap.size (.string ⟨key.toArray⟩) 9 := B0.out.on (((HB1.out.trans (hb13.mono HB1.out.size))).block _ (by omega))
  have d1 : BoxAt W3 (W.heap.size + 1) (.string ⟨#[]⟩) 9 := B1.out.on (((HB1.out.trans (hb13.mono HB1.out.size))).block _ (by omega))
  have d2 : BoxAt W3 (W.heap.size + 2) (.bool false) 4 := B2.out.on (((HB1.out.trans (hb13.mono HB1.out.size))).block _ (by omega))
  have C3 := Lib.hid c3
  have HCL := Lib.hid hcl3
  have HAN := Lib.hid han3
  have HLOW := Lib.hid hlow3
  have D0 := Lib.hid d0
  have D1 := Lib.hid d1
  have D2 := Lib.hid d2
  have HVL := Lib.hid hvl
  clear hrow hany hcl hcl3 han3 hlow3 d0 d1 d2 c3 hvl hb13 B0 B1 B2 HB0 HB1 HO1 hW0
  gi_wp2_with fail
  rw [← hW3]
  have HW3 := Lib.hid hW3
  clear hW3
  obtain ⟨I, hI⟩ : ∃ I : Nat → World → Prop, ∀ k X, I k X ↔ (Below W3.heap.size W3 X ∧ NoneL ls key k) := ⟨_, fun _ _ => Iff.rfl⟩
  obtain ⟨Ix, hIx⟩ : ∃ Ix : Code → Nat → World → Prop, ∀ c k X, Ix c k X ↔ (c = .ret ∧ ∃ x, o = some x ∧ Below W.heap.size W X ∧ BoxAt X (W.heap.size + 1) (.string ⟨x.2.1.toArray⟩) 9 ∧ BoxAt X (W.heap.size + 2) (.bool (!x.2.2)) 4) := ⟨_, fun _ _ _ => Iff.rfl⟩
  have HI := Lib.hid hI
  have HIX := Lib.hid hIx
  clear hI hIx
  refine wpIn_range rfl (by omega) (gf := 74) (lb := #[.pointer (some ⟨W1.heap.size, 0, none⟩)]) rfl trivial (enters_of Tryz.func74 (by kernel_rfl) rfl) (encs := fun k => #[.int .i64 ((ls.length - 1 - k : Nat) : Int), vs.getD (ls.length - 1 - k) undef]) (fun _ => rfl)
    (List.range ls.length) (BackB W1.heap.size r ls.length c vs) (lback_hands _ _ _ _ _ vs HVL.out hc1 hc2 (by omega)) I Ix ?hI ?hIx ?hBox ?h0 (fun k => (⟨#[.pointer (some ⟨t, 0, none⟩), .string ⟨key.toArray⟩, undef, .pointer (some ⟨W.heap.size, 0, none⟩), .pointer (some ⟨W.heap.size + 1, 0, none⟩), .pointer (some ⟨W.heap.size + 1 + 1, 0, none⟩), undef, vs.getD (ls.length - 1 - k) undef, undef, undef,
      .pointer (some ⟨t, 0, none⟩), .slice (some ⟨r, 0, none⟩) ls.length c, .func (.func 74) #[] #[.pointer (some ⟨W1.heap.size, 0, none⟩)], .int .i64 ((ls.length - 1 - k : Nat) : Int), vs.getD (ls.length - 1 - k) undef,
      undef, undef, undef, undef, undef, undef, undef, undef, undef, undef, undef, undef, undef, undef, undef, undef, undef, undef], []⟩ : Act)) ?assign ?body ?done ?stop
  case hI =>
    intro k
    refine ⟨fun A B hA hb => ?_, fun A o hA => ?_⟩
    · obtain ⟨a1, a2⟩ := (HI.out _ _).1 hA
      exact (HI.out _ _).2 ⟨a1.trans (hb.mono a1.size), a2⟩
    · obtain ⟨a1, a2⟩ := (HI.out _ _).1 hA
      exact (HI.out _ _).2 ⟨below_put a1 (by omega) o, a2⟩
  case hIx =>
    intro c' k
    refine ⟨fun A B hA hb => ?_, fun A o hA => ?_⟩
    · obtain ⟨a1, x, a2, a3, a4, a5⟩ := (HIX.out _ _ _).1 hA
      exact (HIX.out _ _ _).2 ⟨a1, x, a2, a3.trans (hb.mono a3.size), a4.on (hb.block _ a4.lt), a5.on (hb.block _ a5.lt)⟩
    · obtain ⟨a1, x, a2, a3, a4, a5⟩ := (HIX.out _ _ _).1 hA
      exact (HIX.out _ _ _).2 ⟨a1, x, a2, below_put a3 (by omega) o, a4.on (World.putObj_heap_other (by omega)), a5.on (World.putObj_heap_other (by omega))⟩
  case hBox =>
    intro k A hA
    obtain ⟨a1, _⟩ := (HI.out _ _).1 hA
    exact ⟨(a1.cell (p := ⟨W1.heap.size, 0, none⟩) (by show W1.heap.size < _; omega)).trans C3.out, fun i u hu => (a1.cell (p := ⟨r, i, none⟩) (by show r < _; omega)).trans (HCL.out i u hu)⟩
  case h0 =>
    intro o
    refine (HI.out _ _).2 ⟨((Below.refl _ _).alloc (Nat.le_refl _) _).alloc (by simp) _, ?_⟩
    unfold NoneL
    rw [Nat.sub_zero, List.drop_eq_nil_of_le (Nat.le_refl _)]
    rfl
  case assign =>
    intro l x X K hK
    gi_wp2
    exact hK
  case body =>
    intro k x X hx hIk hlt3
    obtain ⟨hk1, hk2⟩ := List.getElem?_eq_some_iff.1 hx
    rw [List.length_range] at hk1
    rw [List.getElem_range] at hk2
    subst hk2
    obtain ⟨a1, a2⟩ := (HI.out _ _).1 hIk
    obtain ⟨i, hi⟩ : ∃ i, ls.length - 1 - k = i := ⟨_, rfl⟩
    have hil : i < ls.length := by omega
    obtain ⟨l, hlk⟩ : ∃ l, ls[i]? = some l := ⟨ls[i], List.getElem?_eq_getElem hil⟩
    obtain ⟨u, hu⟩ : ∃ u, vs[i]? = some u := ⟨vs[i]'(by rw [HVL.out]; exact hil), List.getElem?_eq_getElem _⟩
    have hgd : vs.getD i undef = u := by rw [List.getD_eq_getElem?_getD, hu]; rfl
    have hst := a2.step hk1 (by rw [hi]; exact hlk)
    have hal : AnyT X u l := (HAN.out i u l hu hlk).below a1
    simp only [hi, hgd]
    obtain ⟨Au, cu, rfl, hu1, hu2⟩ := hal.1.len
    have hin := List.mem_of_getElem? hlk
    have cp := place_any scompare_any _ l key X hal.1 (HLS.out l hin).1 (HLL.out l hin)
    have x0 := (D0.out.on (a1.block _ (by omega))).cell
    obtain ⟨z, hz⟩ : ∃ z, getW l key = z := ⟨_, rfl⟩
    have hat := fun x hg => at_less (HLS.out l hin).1 (key := key) (x := x) hg
    obtain ⟨n1, hn1⟩ : ∃ n1, lessW l key = n1 := ⟨_, rfl⟩
    rw [hz] at hst cp hat
    rw [hn1] at cp hat
    obtain ⟨n2, hn2⟩ : ∃ n2, l.length = n2 := ⟨_, rfl⟩
    have hlen : ∀ x, z = some x → n1 < n2 := fun x hx => by rw [← hn2]; exact (List.getElem?_eq_some_iff.1 (hat x hx)).1
    have CP := Lib.hid cp
    have HAL := Lib.hid hal
    have HAT := Lib.hid hat
    have HST := Lib.hid hst
    have A1 := Lib.hid a1
    have A2 := Lib.hid a2
    have HLN := Lib.hid hlen
    have HI2 := Lib.hid hi
    have HN2 := Lib.hid hn2
    rw [hn2] at CP hu1
    simp only [hn2]
    have hn1i : (n1 : Int) ≤ 1073741824 := by
      have h1 := lessW_le l key
      have h2 := HLL.out l hin
      omega
    clear hz hn1 hn2 hal hat hst cp a1 a2 hgd hu hlk hin hlen hi hx hk1 hIk
    gi_wp2_with fail
    refine ⟨trivial, (calls_round CP.out).mono ?_⟩
    rintro e w2 ⟨rfl, hb2⟩
    have HB2 := Lib.hid hb2
    have HTW : Hid (Two W3.heap.size X w2) := ⟨hb2.block _ (by omega), hb2.block _ hlt3⟩
    have hZ : X.heap.size ≤ w2.heap.size := hb2.size
    have y0 := D1.out.on ((A1.out.trans (hb2.mono A1.out.size)).block _ (by omega))
    have y1 := D2.out.on ((A1.out.trans (hb2.mono A1.out.size)).block _ (by omega))
    cases z with
    | none =>
      have HN : Hid (NoneL ls key (k + 1)) := HST.out
      clear hb2 y0 y1
      gi_wp2
      exact ⟨HTW.out, (HI.out _ _).2 ⟨A1.out.trans (HB2.out.mono A1.out.size), HN.out⟩⟩
    | some x =>
      have hlt := HLN.out x rfl
      have hat := (HAL.out.below hb2).1
      have hx := HAT.out x rfl
      obtain ⟨b2, off2, e2, hB2, d0, d1, d2⟩ := hat.at hx
      subst e2
      have hlti : (n1 : Int) < n2 := by omega
      have z0 := y0.cell
      have z1 := y0.frozen
      have z2 : w2.cell? ⟨W.heap.size + 1 + 1, 0, none⟩ = some (.bool false) := y1.cell
      have z3 : w2.frozen? ⟨W.heap.size + 1 + 1, 0, none⟩ = false := y1.frozen
      have hne : ∀ q v T, BoxAt w2 q v T → T ≠ 52 → b2 ≠ q := fun q v T hb hT e => by
        obtain ⟨_, h2⟩ := HAL.out
        obtain ⟨_, cs, fr, h3⟩ := h2 (by rw [HN2.out]; omega) _ _ _ rfl
        have h4 : w2.heap[b2]? = some (.cells cs 52 fr) := (HB2.out.block b2 (Array.getElem?_eq_some_iff.1 h3).1).trans h3
        subst e
        have h5 := hb
        unfold BoxAt at h5
        rw [h4] at h5
        injection h5 with h5; injection h5 with _ h5 _
        exact hT h5.symm
      have hn1' := hne _ _ _ y0 (by decide)
      have hn2' := hne _ _ _ y1 (by decide)
      clear hb2 hat hx hne
      gi_wp2_with fail
      obtain ⟨w3, hw3⟩ : ∃ q, w2.drew = q := ⟨_, rfl⟩
      have hb3 : Below w2.heap.size w2 w3 := by rw [← hw3]; exact (Below.refl _ _).drew
      have q1 : w3.cell? ⟨b2, off2 + n1 * 3 + 1, none⟩ = some (.string ⟨x.2.1.toArray⟩) := by rw [← hw3]; exact d1
      have q2 : w3.cell? ⟨b2, off2 + n1 * 3 + 2, none⟩ = some (.bool x.2.2) := by rw [← hw3]; exact d2
      have z0 : w3.cell? ⟨W.heap.size + 1, 0, none⟩ = some (.string ⟨#[]⟩) := by rw [← hw3]; exact z0
      have z1 : w3.frozen? ⟨W.heap.size + 1, 0, none⟩ = false := by rw [← hw3]; exact z1
      have z2 : w3.cell? ⟨W.heap.size + 1 + 1, 0, none⟩ = some (.bool false) := by rw [← hw3]; exact z2
      have z3 : w3.frozen? ⟨W.heap.size + 1 + 1, 0, none⟩ = false := by rw [← hw3]; exact z3
      refine region_round (S := fun X => X.cell? ⟨b2, off2 + n1 * 3 + 1, none⟩ = some (.string ⟨x.2.1.toArray⟩) ∧ X.cell? ⟨b2, off2 + n1 * 3 + 2, none⟩ = some (.bool x.2.2)) hw3 (by kernel_rfl) ?hlo (by kernel_rfl) ⟨q1, q2⟩ (fun hHeld => ?_)
      case hlo => rintro ⟨a', w', h⟩; exact h
      refine take_at (i := 0) (.slice (some ⟨b2, off2, none⟩) n2 cu) (some 22) (by decide) (by rfl) (by kernel_rfl) (by kernel_rfl) (by kernel_rfl) (fun _ _ _ h => h) (by rfl) (fun X hX => by obtain ⟨hX1, hX2⟩ := hX; go_simp) (by assumption) ?_
      simp only [Act.put, List.setIfInBounds_toArray, List.set_cons_zero, List.set_cons_succ]
      refine take_at (i := 1) (.int .i64 (n1 : Int)) (some 23) (by decide) (by rfl) (by kernel_rfl) (by kernel_rfl) (by kernel_rfl) (fun _ _ _ h => h) (by rfl) (fun X hX => by obtain ⟨hX1, hX2⟩ := hX; go_simp) (by assumption) ?_
      simp only [Act.put, List.setIfInBounds_toArray, List.set_cons_zero, List.set_cons_succ]
      refine take_at (i := 2) (.pointer (some ⟨b2, off2 + n1 * 3, none⟩)) (some 24) (by decide) (by rfl) (by kernel_rfl) (by kernel_rfl) (by kernel_rfl) (fun _ _ _ h => h) (by rfl) (fun X hX => by obtain ⟨hX1, hX2⟩ := hX; go_simp) (by assumption) ?_
      simp only [Act.put, List.setIfInBounds_toArray, List.set_cons_zero, List.set_cons_succ]
      refine take_at (i := 3) (.pointer (some ⟨b2, off2 + n1 * 3 + 1, none⟩)) (some 25) (by decide) (by rfl) (by kernel_rfl) (by kernel_rfl) (by kernel_rfl) (fun _ _ _ h => h) (by rfl) (fun X hX => by obtain ⟨hX1, hX2⟩ := hX; go_simp) (by assumption) ?_
      simp only [Act.put, List.setIfInBounds_toArray, List.set_cons_zero, List.set_cons_succ]
      refine take_at (i := 4) (.string ⟨x.2.1.toArray⟩) (some 26) (by decide) (by rfl) (by kernel_rfl) (by kernel_rfl) (by kernel_rfl) (fun _ _ _ h => h) (by rfl) (fun X hX => by obtain ⟨hX1, hX2⟩ := hX; go_simp) (by assumption) ?_
      simp only [Act.put, List.setIfInBounds_toArray, List.set_cons_zero, List.set_cons_succ]
      refine take_at (i := 5) (.slice (some ⟨b2, off2, none⟩) n2 cu) (some 27) (by decide) (by rfl) (by kernel_rfl) (by kernel_rfl) (by kernel_rfl) (fun _ _ _ h => h) (by rfl) (fun X hX => by obtain ⟨hX1, hX2⟩ := hX; go_simp) (by assumption) ?_
      simp only [Act.put, List.setIfInBounds_toArray, List.set_cons_zero, List.set_cons_succ]
      refine take_at (i := 6) (.int .i64 (n1 : Int)) (some 28) (by decide) (by rfl) (by kernel_rfl) (by kernel_rfl) (by kernel_rfl) (fun _ _ _ h => h) (by rfl) (fun X hX => by obtain ⟨hX1, hX2⟩ := hX; go_simp) (by assumption) ?_
      simp only [Act.put, List.setIfInBounds_toArray, List.set_cons_zero, List.set_cons_succ]
      refine take_at (i := 7) (.pointer (some ⟨b2, off2 + n1 * 3, none⟩)) (some 29) (by decide) (by rfl) (by kernel_rfl) (by kernel_rfl) (by kernel_rfl) (fun _ _ _ h => h) (by rfl) (fun X hX => by obtain ⟨hX1, hX2⟩ := hX; go_simp) (by assumption) ?_
      simp only [Act.put, List.setIfInBounds_toArray, List.set_cons_zero, List.set_cons_succ]
      refine take_at (i := 8) (.pointer (some ⟨b2, off2 + n1 * 3 + 2, none⟩)) (some 30) (by decide) (by rfl) (by kernel_rfl) (by kernel_rfl) (by kernel_rfl) (fun _ _ _ h => h) (by rfl) (fun X hX => by obtain ⟨hX1, hX2⟩ := hX; go_simp) (by assumption) ?_
      simp only [Act.put, List.setIfInBounds_toArray, List.set_cons_zero, List.set_cons_succ]
      refine take_at (i := 9) (.bool x.2.2) (some 31) (by decide) (by rfl) (by kernel_rfl) (by kernel_rfl) (by kernel_rfl) (fun _ _ _ h => h) (by rfl) (fun X hX => by obtain ⟨hX1, hX2⟩ := hX; go_simp) (by assumption) ?_
      simp only [Act.put, List.setIfInBounds_toArray, List.set_cons_zero, List.set_cons_succ]
      refine take_at (i := 10) (.bool (!x.2.2)) (some 32) (by decide) (by rfl) (by kernel_rfl) (by kernel_rfl) (by kernel_rfl) (fun _ _ _ h => h) (by rfl) (fun X hX => by obtain ⟨hX1, hX2⟩ := hX; go_simp) (by assumption) ?_
      simp only [Act.put, List.setIfInBounds_toArray, List.set_cons_zero, List.set_cons_succ]
      have oth : ∀ (X : World) (p : Nat) (v : Value) (q : Addr), q.block ≠ p → (X.setCell ⟨p, 0, none⟩ v).cell? q = X.cell? q := fun X p v q h => World.cell?_of_block (heap_setCell_other _ _ _ _ h)
      have r0 : (w3.setCell ⟨W.heap.size + 1, 0, none⟩ (.string ⟨x.2.1.toArray⟩)).cell? ⟨W.heap.size + 1 + 1, 0, none⟩ = some (.bool false) := (oth _ _ _ _ (by show W.heap.size + 1 + 1 ≠ W.heap.size + 1; omega)).trans z2
      have r1 : (w3.setCell ⟨W.heap.size + 1, 0, none⟩ (.string ⟨x.2.1.toArray⟩)).frozen? ⟨W.heap.size + 1 + 1, 0, none⟩ = false := by
        rw [← z3]
        simp only [World.frozen?, heap_setCell_other w3 ⟨W.heap.size + 1, 0, none⟩ (W.heap.size + 1 + 1) (.string ⟨x.2.1.toArray⟩) (by show W.heap.size + 1 + 1 ≠ W.heap.size + 1; omega)]
      have hS4 := And.intro ((oth w3 (W.heap.size + 1) (.string ⟨x.2.1.toArray⟩) ⟨b2, off2 + n1 * 3 + 1, none⟩ hn1').trans q1) ((oth w3 (W.heap.size + 1) (.string ⟨x.2.1.toArray⟩) ⟨b2, off2 + n1 * 3 + 2, none⟩ hn1').trans q2)
      have hS5 := And.intro ((oth (w3.setCell ⟨W.heap.size + 1, 0, none⟩ (.string ⟨x.2.1.toArray⟩)) (W.heap.size + 1 + 1) (.bool (!x.2.2)) ⟨b2, off2 + n1 * 3 + 1, none⟩ hn2').trans hS4.1) ((oth (w3.setCell ⟨W.heap.size + 1, 0, none⟩ (.string ⟨x.2.1.toArray⟩)) (W.heap.size + 1 + 1) (.bool (!x.2.2)) ⟨b2, off2 + n1 * 3 + 2, none⟩ hn2').trans hS4.2)
      refine wpAnyH_ready (rs := [11]) (by kernel_rfl) (by simp) ?_
      refine AllReadyH.cons rfl (fun K' hK' => ?_) AllReadyH.nil
      go_simp
      refine hK'.out _ _ hS4 (fun _ => ?_)
      clear hK' K'
      refine wpAnyH_ready (rs := [12]) (by kernel_rfl) (by simp) ?_
      refine AllReadyH.cons rfl (fun K' hK' => ?_) AllReadyH.nil
      go_simp
      refine hK'.out _ _ hS5 (fun _ => ?_)
      clear hK' K'
      refine ⟨by kernel_rfl, ?_⟩
      gi_wp2_with fail
      have hot : ∀ q, q ≠ W.heap.size + 1 → q ≠ W.heap.size + 1 + 1 → ((w3.setCell ⟨W.heap.size + 1, 0, none⟩ (.string ⟨x.2.1.toArray⟩)).setCell ⟨W.heap.size + 1 + 1, 0, none⟩ (.bool (!x.2.2))).heap[q]? = w3.heap[q]? := fun q h1 h2 => (heap_setCell_other _ _ _ _ h2).trans (heap_setCell_other _ _ _ _ h1)
      have htw := HTW.out
      have hb4 : Below w2.heap.size w2 w3 := hb3
      have hbw : Below W.heap.size W w3 := HLOW.out.trans ((A1.out.trans ((HB2.out.trans (hb4.mono HB2.out.size)).mono A1.out.size)).mono (by omega))
      have g1 : BoxAt w3 (W.heap.size + 1) (.string ⟨#[]⟩) 9 := y0.on (hb4.block _ y0.lt)
      have g2 : BoxAt w3 (W.heap.size + 2) (.bool false) 4 := y1.on (hb4.block _ y1.lt)
      have hox : o = some x := by rw [← HO.out]; exact getL_cons_some HST.out
      refine ⟨⟨(hot _ (by omega) (by omega)).trans ((hb4.block _ (by omega)).trans htw.1), (hot _ (by omega) (by omega)).trans ((hb4.block _ (by omega)).trans htw.2)⟩, (HIX.out _ _ _).2 ⟨rfl, x, hox, ⟨hbw.os, hbw.tape, hbw.output, by simp only [World.size_setCell]; exact hbw.size, fun k hk => (hot k (by omega) (by omega)).trans (hbw.block k hk)⟩, ?_, ?_⟩⟩
      · exact (g1.set (.string ⟨x.2.1.toArray⟩)).on (heap_setCell_other _ _ _ _ (by show W.heap.size + 1 ≠ W.heap.size + 1 + 1; omega))
      · exact (g2.on (W' := w3.setCell ⟨W.heap.size + 1, 0, none⟩ (.string ⟨x.2.1.toArray⟩)) (heap_setCell_other _ _ _ _ (by show W.heap.size + 2 ≠ W.heap.size + 1; omega))).set (.bool (!x.2.2))
  case done =>
    intro X hIk hK
    obtain ⟨a1, a2⟩ := (HI.out _ _).1 hIk
    rw [List.length_range] at a2
    have hno : o = none := by rw [← HO.out]; exact noneL_all a2
    subst hno
    have y0 := D1.out.on (a1.block _ (by omega))
    have y1 := D2.out.on (a1.block _ (by omega))
    have z0 := y0.cell
    have z1 := y0.frozen
    have z2 : X.cell? ⟨W.heap.size + 1 + 1, 0, none⟩ = some (.bool false) := y1.cell
    have z3 : X.frozen? ⟨W.heap.size + 1 + 1, 0, none⟩ = false := y1.frozen
    have r0 : (X.setCell ⟨W.heap.size + 1, 0, none⟩ (.string ⟨#[]⟩)).cell? ⟨W.heap.size + 1 + 1, 0, none⟩ = some (.bool false) := (World.cell?_of_block (heap_setCell_other _ _ _ _ (by show W.heap.size + 1 + 1 ≠ W.heap.size + 1; omega))).trans z2
    have r1 : (X.setCell ⟨W.heap.size + 1, 0, none⟩ (.string ⟨#[]⟩)).frozen? ⟨W.heap.size + 1 + 1, 0, none⟩ = false := by
      rw [← z3]
      simp only [World.frozen?, heap_setCell_other X ⟨W.heap.size + 1, 0, none⟩ (W.heap.size + 1 + 1) (.string ⟨#[]⟩) (by show W.heap.size + 1 + 1 ≠ W.heap.size + 1; omega)]
    have HK := Lib.hid hK
    have HA1 := Lib.hid a1
    have Y0 := Lib.hid y0
    have Y1 := Lib.hid y1
    clear hK a1 y0 y1 hIk a2
    gi_wp2_with fail
    obtain ⟨X2, hX2⟩ : ∃ q, (X.setCell ⟨W.heap.size + 1, 0, none⟩ (.string ⟨#[]⟩)).setCell ⟨W.heap.size + 1 + 1, 0, none⟩ (.bool false) = q := ⟨_, rfl⟩
    rw [hX2]
    have hot : ∀ q, q ≠ W.heap.size + 1 → q ≠ W.heap.size + 1 + 1 → X2.heap[q]? = X.heap[q]? := fun q h1 h2 => by rw [← hX2]; exact (heap_setCell_other _ _ _ _ h2).trans (heap_setCell_other _ _ _ _ h1)
    have g1 : BoxAt X2 (W.heap.size + 1) (.string ⟨#[]⟩) 9 := by rw [← hX2]; exact (Y0.out.set _).on (heap_setCell_other _ _ _ _ (by show W.heap.size + 1 ≠ W.heap.size + 1 + 1; omega))
    have g2 : BoxAt X2 (W.heap.size + 1 + 1) (.bool false) 4 := by rw [← hX2]; exact (Y1.out.on (W' := X.setCell ⟨W.heap.size + 1, 0, none⟩ (.string ⟨#[]⟩)) (heap_setCell_other _ _ _ _ (by show W.heap.size + 2 ≠ W.heap.size + 1; omega))).set (.bool false)
    have hk2 : X2.heap[W3.heap.size]? = some (.deferred (some [])) := (hot _ (by omega) (by omega)).trans HK.out
    have hbw : Below W.heap.size W X := HLOW.out.trans (HA1.out.mono (by omega))
    have hb2 : Below W.heap.size W X2 := ⟨by rw [← hX2]; exact hbw.os, by rw [← hX2]; exact hbw.tape, by rw [← hX2]; exact hbw.output, by rw [← hX2]; simp only [World.size_setCell]; exact hbw.size, fun k hk => (hot k (by omega) (by omega)).trans (hbw.block k hk)⟩
    refine ⟨by simp, .inl ⟨W3.heap.size, _, rfl, run_takeDeferred hk2, ⟨_, ret_get rfl _ _ (r := W.heap.size + 1) (r2 := W.heap.size + 1 + 1) (by rfl) (by rfl) (g1.on (World.putObj_heap_other (by omega))).cell (g2.on (World.putObj_heap_other (by omega))).cell, ?_⟩⟩⟩
    exact ⟨rfl, below_put hb2 (by omega) _⟩
  case stop =>
    intro c' k X hk hIk hK
    obtain ⟨rfl, x, rfl, a1, g1, g2⟩ := (HIX.out _ _ _).1 hIk
    gi_wp2_with fail
    refine ⟨by simp, .inl ⟨W3.heap.size, _, rfl, run_takeDeferred hK, ⟨_, ret_get rfl _ _ (r := W.heap.size + 1) (r2 := W.heap.size + 1 + 1) (by rfl) (by rfl) (g1.on (World.putObj_heap_other (by omega))).cell (g2.on (World.putObj_heap_other (by omega))).cell, ?_⟩⟩⟩
    exact ⟨rfl, below_put a1 (by omega) _⟩

end Go.Proofs.YtlchmkpnehbnlaaGreatDoor.Cd
