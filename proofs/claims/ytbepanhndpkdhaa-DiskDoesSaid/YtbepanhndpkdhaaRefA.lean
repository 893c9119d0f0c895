/-
  The reference's drop: the row of writes lies in a block of its own, and nothing else has turned but the disk's own cells. Conditions: none.
-/
import Derived.Test.YtbepanhndpkdhaaStrs
import Derived.Test.YtbepanhndpkdhaaDiskModel
import Derived.Test.YtbepanhndpkdhaaApart
import Derived.Deep.CutBlock
import Derived.Sort.Walk0
import Derived.Test.YtbepanhndpkdhaaNoughts
namespace Go.Proofs.Ytbepanhndpkdhaa.Cd
open Go.RowKit

/-- A slice value that reads as the texts 'l', in a block of the set T. -/
def StrsT (T : Nat → Prop) (w : World) (v : Value) (l : List (List UInt8)) : Prop :=
  ∃ A c, v = .slice A l.length c ∧ l.length ≤ c ∧ c ≤ maxLen ∧ (A = none → c = 0) ∧
    (0 < l.length → ∃ b off, A = some ⟨b, off, none⟩ ∧ T b ∧ ∀ j u, (vs l)[j]? = some u → w.cell? ⟨b, off + j, none⟩ = some u)

section
variable {T T' : Nat → Prop} {w w' : World} {B : Nat} {v : Value} {l : List (List UInt8)}
theorem StrsT.strs (h : StrsT T w v l) (hT : ∀ k, T k → k < B) : Strs w B v l := by
  obtain ⟨A, c, h1, h2, h3, h4, h5⟩ := h
  refine ⟨A, c, h1, h2, h3, h4, fun h0 => ?_⟩
  obtain ⟨b, off, e, hB, hc⟩ := h5 h0
  exact ⟨b, off, e, hT b hB, hc⟩
theorem StrsT.below (h : StrsT T w v l) (hT : ∀ k, T k → k < B) (hb : Below B w w') : StrsT T w' v l := by
  obtain ⟨A, c, h1, h2, h3, h4, h5⟩ := h
  refine ⟨A, c, h1, h2, h3, h4, fun h0 => ?_⟩
  obtain ⟨b, off, e, hB, hc⟩ := h5 h0
  exact ⟨b, off, e, hB, fun j u hu => (hb.cell (p := ⟨b, off + j, none⟩) (hT b hB)).trans (hc j u hu)⟩
theorem StrsT.apart {S : Nat → Prop} (h : StrsT T w v l) (hT : ∀ k, T k → k < w.heap.size) (ha : Apart S w w') (hd : ∀ k, T k → ¬ S k) : StrsT T w' v l := by
  obtain ⟨A, c, h1, h2, h3, h4, h5⟩ := h
  refine ⟨A, c, h1, h2, h3, h4, fun h0 => ?_⟩
  obtain ⟨b, off, e, hB, hc⟩ := h5 h0
  exact ⟨b, off, e, hB, fun j u hu => (ha.cell (p := ⟨b, off + j, none⟩) (hT b hB) (hd b hB)).trans (hc j u hu)⟩
theorem StrsT.mono (h : StrsT T w v l) (hT : ∀ k, T k → T' k) : StrsT T' w v l := by
  obtain ⟨A, c, h1, h2, h3, h4, h5⟩ := h
  refine ⟨A, c, h1, h2, h3, h4, fun h0 => ?_⟩
  obtain ⟨b, off, e, hB, hc⟩ := h5 h0
  exact ⟨b, off, e, hT b hB, hc⟩
theorem StrsT.len (h : StrsT T w v l) : ∃ A c, v = .slice A l.length c ∧ l.length ≤ c ∧ c ≤ maxLen := by
  obtain ⟨A, c, h1, h2, h3, _⟩ := h
  exact ⟨A, c, h1, h2, h3⟩
theorem StrsT.nil (T : Nat → Prop) (w : World) : StrsT T w (.slice none 0 0) [] := ⟨none, 0, rfl, by simp, by simp, fun _ => rfl, fun h => by simp at h⟩
theorem StrsT.at (h : StrsT T w v l) (h0 : 0 < l.length) : ∃ b off c, v = .slice (some ⟨b, off, none⟩) l.length c ∧ l.length ≤ c ∧ c ≤ maxLen ∧ T b ∧ ∀ j (hj : j < l.length), w.cell? ⟨b, off + j, none⟩ = some (.string ⟨l[j].toArray⟩) := by
  obtain ⟨A, c, rfl, h2, h3, h4, h5⟩ := h
  obtain ⟨b, off, rfl, hB, hc⟩ := h5 h0
  exact ⟨b, off, c, rfl, h2, h3, hB, fun j hj => hc j _ (vs_at l j hj)⟩
end

/-- A slice value that reads as files: each a name, and a slice of texts; all in blocks of the set T. -/
def Fils (T : Nat → Prop) (w : World) (v : Value) (l : List Fil) : Prop :=
  ∃ A c, v = .slice A l.length c ∧ l.length ≤ c ∧ c ≤ maxLen ∧
    (0 < l.length → ∃ b off, A = some ⟨b, off, none⟩ ∧ T b ∧ ∀ j (hj : j < l.length), w.cell? ⟨b, off + j * 2, none⟩ = some (.string ⟨(l[j]).name.toArray⟩) ∧ ∃ y, w.cell? ⟨b, off + j * 2 + 1, none⟩ = some y ∧ StrsT T w y (l[j]).pages)

section
variable {T T' : Nat → Prop} {w w' : World} {B : Nat} {v : Value} {l : List Fil}
theorem Fils.below (h : Fils T w v l) (hT : ∀ k, T k → k < B) (hb : Below B w w') : Fils T w' v l := by
  obtain ⟨A, c, h1, h2, h3, h4⟩ := h
  refine ⟨A, c, h1, h2, h3, fun h0 => ?_⟩
  obtain ⟨b, off, e, hB, hc⟩ := h4 h0
  refine ⟨b, off, e, hB, fun j hj => ?_⟩
  obtain ⟨q1, y, q2, q3⟩ := hc j hj
  exact ⟨(hb.cell (p := ⟨b, off + j * 2, none⟩) (hT b hB)).trans q1, y, (hb.cell (p := ⟨b, off + j * 2 + 1, none⟩) (hT b hB)).trans q2, q3.below hT hb⟩
theorem Fils.apart {S : Nat → Prop} (h : Fils T w v l) (hT : ∀ k, T k → k < w.heap.size) (ha : Apart S w w') (hd : ∀ k, T k → ¬ S k) : Fils T w' v l := by
  obtain ⟨A, c, h1, h2, h3, h4⟩ := h
  refine ⟨A, c, h1, h2, h3, fun h0 => ?_⟩
  obtain ⟨b, off, e, hB, hc⟩ := h4 h0
  refine ⟨b, off, e, hB, fun j hj => ?_⟩
  obtain ⟨q1, y, q2, q3⟩ := hc j hj
  exact ⟨(ha.cell (p := ⟨b, off + j * 2, none⟩) (hT b hB) (hd b hB)).trans q1, y, (ha.cell (p := ⟨b, off + j * 2 + 1, none⟩) (hT b hB) (hd b hB)).trans q2, q3.apart hT ha hd⟩
theorem Fils.mono (h : Fils T w v l) (hT : ∀ k, T k → T' k) : Fils T' w v l := by
  obtain ⟨A, c, h1, h2, h3, h4⟩ := h
  refine ⟨A, c, h1, h2, h3, fun h0 => ?_⟩
  obtain ⟨b, off, e, hB', hc⟩ := h4 h0
  refine ⟨b, off, e, hT b hB', fun j hj => ?_⟩
  obtain ⟨q1, y, q2, q3⟩ := hc j hj
  exact ⟨q1, y, q2, q3.mono hT⟩
theorem Fils.nil (T : Nat → Prop) (w : World) : Fils T w (.slice none 0 0) [] := ⟨none, 0, rfl, by simp, by simp, fun h => by simp at h⟩
theorem Fils.len (h : Fils T w v l) : ∃ A c, v = .slice A l.length c ∧ l.length ≤ c ∧ c ≤ 9223372036854775807 := by
  obtain ⟨A, c, h1, h2, h3, _⟩ := h
  exact ⟨A, c, h1, h2, h3⟩
theorem Fils.at {A : Option Addr} {n c : Nat} (h : Fils T w (.slice A n c) l) {k : Nat} (hk : k < l.length) :
    ∃ b off A' c', A = some ⟨b, off, none⟩ ∧ T b ∧ w.cell? ⟨b, off + k * 2, none⟩ = some (.string ⟨(l[k]).name.toArray⟩) ∧ w.cell? ⟨b, off + k * 2 + 1, none⟩ = some (.slice A' (l[k]).pages.length c') ∧ StrsT T w (.slice A' (l[k]).pages.length c') (l[k]).pages := by
  obtain ⟨A0, c0, e, _, _, h5⟩ := h
  injection e with e1 e2 e3
  obtain ⟨b, off, e, hB, hc⟩ := h5 (by omega)
  obtain ⟨q1, y, q2, q3⟩ := hc k hk
  obtain ⟨A', c', rfl, _, _⟩ := q3.len
  exact ⟨b, off, A', c', e1.trans e, hB, q1, q2, q3⟩
end

theorem getF_take_none {l : List Fil} {n : List UInt8} {k : Nat} (hk : k < l.length) (h : getF (l.take k) n = none) : getF l n = if (l[k]).name = n then some l[k] else getF (l.drop (k + 1)) n := by
  induction l generalizing k with
  | nil => simp at hk
  | cons f r ih =>
    cases k with
    | zero => rfl
    | succ k =>
      rw [List.take_succ_cons, getF] at h
      rw [getF]
      by_cases e : f.name = n
      · rw [if_pos e] at h; cases h
      · rw [if_neg e] at h ⊢
        exact ih (by simpa using hk) h

/-- What Get leaves. -/
def GetIs (T : Nat → Prop) (l : List Fil) (n : List UInt8) (w : World) (e : Ending) (w' : World) : Prop :=
  Below w.heap.size w w' ∧ ∃ y, e = .returned (.tuple #[.agg #[.string ⟨n.toArray⟩, y], .bool (getF l n).isSome]) ∧ StrsT T w' y (pagesF l n)

end Go.Proofs.Ytbepanhndpkdhaa.Cd

namespace Go.Proofs.Ytbepanhndpkdhaa.Cd
open Go.RowKit

theorem results_file {fn : Func} {p u : Tmp} (h : fn.results = #[.cell p 41, .tmp u]) (tmps : Array Value) (w : World) (g : Nat) (x y : Value) (fr : Nat × Nat) (r : Value)
    (hp : tmps.getD p undef = .pointer (some ⟨g, 0, none⟩)) (hr : tmps.getD u undef = r) (hg : w.heap[g]? = some (.cells #[x, y] 41 fr)) :
    (results fn tmps).run Try.prog w = .ok (.tuple #[.agg #[x, y], r]) w := by
  rw [results_cell_tmp h, hp, hr]
  simp [asAddr, Result.andThen, run_loadVar_row (P := Try.prog) w g _ _ _ fr _ hg Try.underlying41 rfl (by kernel_rfl)]
/-- A file stored into a row of its own. -/
theorem below_file {w w' : World} (h : Below w.heap.size w w') (x y : Value) : Below w.heap.size w ((w'.setCell ⟨w.heap.size, 0, none⟩ x).setCell ⟨w.heap.size, 1, none⟩ y) :=
  ⟨h.os, h.tape, h.output, by rw [World.size_setCell, World.size_setCell]; exact h.size, fun k hk => by
    rw [heap_setCell_other _ _ _ _ (by show k ≠ w.heap.size; omega), heap_setCell_other _ _ _ _ (by show k ≠ w.heap.size; omega)]
    exact h.block k hk⟩
theorem hB3 {w wr : World} (h : Below w.heap.size w wr) (o : Obj) (x y : Value) : Below w.heap.size wr (((wr.alloc o).setCell ⟨w.heap.size, 0, none⟩ x).setCell ⟨w.heap.size, 1, none⟩ y) := by
  have hs := h.size
  have hb : Below w.heap.size wr (wr.alloc o) := (Below.refl _ _).alloc hs _
  refine ⟨hb.os, hb.tape, hb.output, by rw [World.size_setCell, World.size_setCell]; exact hb.size, fun k hk => ?_⟩
  rw [heap_setCell_other _ _ _ _ (by show k ≠ w.heap.size; omega), heap_setCell_other _ _ _ _ (by show k ≠ w.heap.size; omega)]
  exact hb.block k hk
theorem file_row {w : World} {g : Nat} {x y : Value} {fr : Nat × Nat} {u v : Value} (h : w.heap[g]? = some (.cells #[u, v] 41 fr)) : ((w.setCell ⟨g, 0, none⟩ x).setCell ⟨g, 1, none⟩ y).heap[g]? = some (.cells #[x, y] 41 fr) := by
  simp [World.setCell, Array.getElem?_modify, h]

set_option maxRecDepth 100000 in
set_option maxHeartbeats 1600000 in
theorem get_any (T : Nat → Prop) (v : Value) (l : List Fil) (n : List UInt8) (w : World) (hT : ∀ k, T k → k < w.heap.size) (h : Fils T w v l) (hl : l.length ≤ 1048576) :
    Calls Try.prog 58 #[v, .string ⟨n.toArray⟩] w (GetIs T l n w) := by
  obtain ⟨A, c, rfl, hc, hm⟩ := h.len
  have H := Lib.hid h
  have HT := Lib.hid hT
  have hl' : (l.length : Int) ≤ 1048576 := by omega
  clear h hT
  go_enter Try.func58, Try.ntmps58
  go_wp2_with fail
  go_loopw [10] (fun i wr => ∃ k : Nat, i = .int .i64 k ∧ k ≤ l.length ∧ Hid (getF (l.take k) n = none) ∧ Hid (Below (w.heap.size + 1) (w.alloc (.cells #[.string ⟨#[]⟩, .slice none 0 0] 41)) wr)) (fun i _ => l.length - (intOf i).toNat)
  case atStart => exact ⟨0, rfl, by omega, rfl, Below.refl _ _⟩
  case round =>
    obtain ⟨k, rfl, hk, hno, hbel⟩ := hrel
    have hz := hbel.out.size
    rw [World.size_alloc] at hz
    have hzero : wr.heap[w.heap.size]? = some (.cells #[.string ⟨#[]⟩, .slice none 0 0] 41) := (hbel.out.block _ (by omega)).trans (heap_alloc_new _ _)
    have hB : Below w.heap.size w wr := ((Below.refl _ _).alloc (Nat.le_refl _) _).trans (hbel.out.mono (by omega))
    have HB := Lib.hid hB
    have hne : ¬ w.heap.size = wr.heap.size := by omega
    by_cases hlt : k < l.length
    · have hlt' : (k : Int) < l.length := by omega
      obtain ⟨b, off, A', c', hA, hb, hc1, hc2, hst⟩ := (H.out.below HT.out hB).at hlt
      have htk := getF_take_none hlt hno.out
      have hb := HT.out _ hb
      subst hA
      have HST := Lib.hid hst
      have HTK := Lib.hid htk
      have hzero2 : (wr.alloc (.cells #[.string ⟨(l[k]).name.toArray⟩, .slice A' (l[k]).pages.length c'] 41)).heap[w.heap.size]? = some (.cells #[.string ⟨#[]⟩, .slice none 0 0] 41) := (Below.heap_alloc _ _ _ (by omega)).trans hzero
      have z0 := cell_of_row _ _ 0 _ _ _ hzero2
      have z1 := cell_of_row _ _ 1 _ _ _ hzero2
      have z0 : (wr.alloc (.cells #[.string ⟨(l[k]).name.toArray⟩, .slice A' (l[k]).pages.length c'] 41)).cell? ⟨w.heap.size, 0, none⟩ = some (.string ⟨#[]⟩) := z0
      have z1 : (wr.alloc (.cells #[.string ⟨(l[k]).name.toArray⟩, .slice A' (l[k]).pages.length c'] 41)).cell? ⟨w.heap.size, 1, none⟩ = some (.slice none 0 0) := z1
      have y0 : (wr.alloc (.cells #[.string ⟨(l[k]).name.toArray⟩, .slice A' (l[k]).pages.length c'] 41)).frozen? ⟨w.heap.size, 0, none⟩ = false := by simp only [World.frozen?, hzero2]; rfl
      have y1 : (wr.alloc (.cells #[.string ⟨(l[k]).name.toArray⟩, .slice A' (l[k]).pages.length c'] 41)).frozen? ⟨w.heap.size, 1, none⟩ = false := by simp only [World.frozen?, hzero2]; rfl
      have HZ2 := Lib.hid hzero2
      clear hzero2
      have hsz : (wr.alloc (.cells #[.string ⟨(l[k]).name.toArray⟩, .slice A' (l[k]).pages.length c'] 41)).heap.size = wr.heap.size + 1 := by simp
      by_cases hq : (l[k]).name = n
      · have hg : getF l n = some l[k] := by rw [HTK.out, if_pos hq]
        have hpg : pagesF l n = (l[k]).pages := by unfold pagesF; rw [hg]
        have hqb : ((l[k]).name == n) = true := by simp [hq]
        have HQ := Lib.hid hq
        have HG := Lib.hid hg
        have HPG := Lib.hid hpg
        clear hst htk hB hq hg hpg
        go_wp2_with fail
        refine bodyPost_ret (results_file rfl _ _ _ _ _ _ _ rfl rfl (file_row HZ2.out)) rfl ?_
        have hB2 := below_file (HB.out.alloc HB.out.size (.cells #[.string ⟨(l[k]).name.toArray⟩, .slice A' (l[k]).pages.length c'] 41)) (.string ⟨(l[k]).name.toArray⟩) (.slice A' (l[k]).pages.length c')
        refine ⟨hB2, _, by rw [HG.out, HQ.out]; rfl, ?_⟩
        rw [HPG.out]
        exact HST.out.below HT.out (hB3 HB.out _ _ _)
      · have hqb : ((l[k]).name == n) = false := by simpa using hq
        have hno2 : getF (l.take (k + 1)) n = none := by
          rw [getF_none]
          intro hm
          rw [List.take_succ_eq_append_getElem hlt, List.map_append, List.mem_append] at hm
          rcases hm with hm | hm
          · exact getF_none.1 hno.out hm
          · simp only [List.map_cons, List.map_nil, List.mem_singleton] at hm
            exact hq hm.symm
        have HNO := Lib.hid hno2
        clear hst htk hB hq hno2
        go_wp2_with fail
        go_roundw
        case rel => exact ⟨k + 1, by go_num, by omega, HNO, hbel.out.alloc (by omega) _⟩
        case measure => simp [intOf]; omega
    · have hlt' : (l.length : Int) ≤ k := by omega
      have hg : getF l n = none := by have := hno.out; rw [List.take_of_length_le (by omega)] at this; exact this
      have hpg : pagesF l n = [] := by unfold pagesF; rw [hg]
      have z0 : wr.cell? ⟨w.heap.size, 0, none⟩ = some (.string ⟨#[]⟩) := cell_of_row _ _ _ _ _ _ hzero
      have z1 : wr.cell? ⟨w.heap.size, 1, none⟩ = some (.slice none 0 0) := cell_of_row _ _ _ _ _ _ hzero
      have y0 : wr.frozen? ⟨w.heap.size, 0, none⟩ = false := by simp [World.frozen?, hzero]
      have y1 : wr.frozen? ⟨w.heap.size, 1, none⟩ = false := by simp [World.frozen?, hzero]
      have HZ := Lib.hid hzero
      have HG := Lib.hid hg
      have HPG := Lib.hid hpg
      clear hzero hg hpg hB
      go_wp2_with fail
      refine bodyPost_ret (results_file rfl _ _ _ _ _ _ _ rfl rfl (file_row HZ.out)) rfl ?_
      have hB2 := below_file HB.out (.string ⟨n.toArray⟩) (.slice none 0 0)
      refine ⟨hB2, _, by rw [HG.out]; rfl, ?_⟩
      rw [HPG.out]
      exact StrsT.nil _ _

end Go.Proofs.Ytbepanhndpkdhaa.Cd

namespace Go.Proofs.Ytbepanhndpkdhaa.Cd
open Go.RowKit

/-- Files as cells: a name, and the value of the pages. -/
def fc : List Fil → List Value → List Value
  | f :: r, y :: s => .string ⟨f.name.toArray⟩ :: y :: fc r s
  | _, _ => []
theorem fc_length : ∀ (l : List Fil) (ys : List Value), ys.length = l.length → (fc l ys).length = l.length * 2
  | [], [], _ => rfl
  | f :: r, y :: s, h => by
    have := fc_length r s (by simpa using h)
    simp only [fc, List.length_cons, this]
    omega
  | [], _ :: _, h => by simp at h
  | _ :: _, [], h => by simp at h
theorem fc_append : ∀ (l : List Fil) (ys : List Value) (f : Fil) (y : Value), ys.length = l.length → fc (l ++ [f]) (ys ++ [y]) = fc l ys ++ [.string ⟨f.name.toArray⟩, y]
  | [], [], f, y, _ => rfl
  | g :: r, z :: s, f, y, h => by
    have := fc_append r s f y (by simpa using h)
    simp only [List.cons_append, fc, this]
  | [], _ :: _, _, _, h => by simp at h
  | _ :: _, [], _, _, h => by simp at h
theorem fc_name : ∀ (l : List Fil) (ys : List Value) (_ : ys.length = l.length) (j : Nat) (hj : j < l.length), (fc l ys)[j * 2]? = some (.string ⟨(l[j]).name.toArray⟩)
  | f :: r, y :: s, _, 0, _ => rfl
  | f :: r, y :: s, h, j + 1, hj => by
    have := fc_name r s (by simpa using h) j (by simpa using hj)
    rw [show (j + 1) * 2 = j * 2 + 1 + 1 by omega]
    simpa [fc] using this
  | [], _, _, _, hj => by simp at hj
  | _ :: _, [], h, _, _ => by simp at h
theorem fc_val : ∀ (l : List Fil) (ys : List Value) (h : ys.length = l.length) (j : Nat) (hj : j < l.length), (fc l ys)[j * 2 + 1]? = some (ys[j]'(by omega))
  | f :: r, y :: s, _, 0, _ => rfl
  | f :: r, y :: s, h, j + 1, hj => by
    have := fc_val r s (by simpa using h) j (by simpa using hj)
    rw [show (j + 1) * 2 + 1 = j * 2 + 1 + 1 + 1 by omega]
    simpa [fc] using this
  | [], _, _, _, hj => by simp at hj
  | _ :: _, [], h, _, _ => by simp at h

theorem info_file : (Try.prog.info? 41).map (fun i => (i.zero, i.size, i.bytes)) = some (some (.agg #[.string ByteArray.empty, .slice none 0 0]), 2, 40) := by kernel_rfl

/-- A row of files of the call's own; what the files' pages are lies below. -/
def OwnF (T : Nat → Prop) (w : World) (B : Nat) (v : Value) (l : List Fil) : Prop :=
  ∃ ys, ys.length = l.length ∧ w.ownsRow B 41 2 v l.length (fc l ys) ∧ ∀ j (hj : j < l.length) (hj2 : j < ys.length), StrsT T w ys[j] (l[j]).pages

/-- A row's block lies below m. -/
def OwnUnder (v : Value) (m : Nat) : Prop := ∀ g, v.ownBlock = some g → g < m

section
variable {T : Nat → Prop} {w w' : World} {B : Nat} {v : Value} {l : List Fil}
theorem OwnF.nil (T : Nat → Prop) (w : World) (B : Nat) : OwnF T w B (.slice none 0 0) [] := ⟨[], rfl, World.ownsRow_nil _ _ _ _, fun j hj => by simp at hj⟩
theorem OwnF.keep (h : OwnF T w B v l) (hT : ∀ k, T k → k < w.heap.size) (hb : Below w.heap.size w w') : OwnF T w' B v l := by
  obtain ⟨ys, h1, h2, h3⟩ := h
  have hlt := h2.lt
  refine ⟨ys, h1, ⟨h2.1, ?_⟩, fun j hj hj2 => (h3 j hj hj2).below hT hb⟩
  rcases h2.2 with h4 | ⟨g, cap, cur, rfl, hg, hh, r⟩
  · exact .inl h4
  · exact .inr ⟨g, cap, cur, rfl, hg, (hb.block g (hlt g rfl).2).trans hh, r⟩
theorem OwnF.under (h : OwnF T w B v l) : OwnUnder v w.heap.size := by
  obtain ⟨ys, h1, h2, h3⟩ := h
  exact fun g hg => (h2.lt g hg).2
theorem OwnF.fils (h : OwnF T w B v l) : Fils (fun k => T k ∨ (B ≤ k ∧ k < w.heap.size)) w v l := by
  obtain ⟨ys, h1, h2, h3⟩ := h
  have hlt := h2.lt
  have hc := fun g hg => h2.cells (g := g) hg
  rcases h2.2 with ⟨rfl, h0⟩ | ⟨g, cap, cur, rfl, hBg, hg, hn, hm, _, _⟩
  · have : l = [] := List.eq_nil_of_length_eq_zero h0
    subst this
    exact Fils.nil _ _
  · refine ⟨_, cap, rfl, hn, hm, fun _ => ⟨g, 0, rfl, .inr ⟨hBg, (hlt g rfl).2⟩, fun j hj => ?_⟩⟩
    have n1 := hc g rfl (j * 2) _ (fc_name l ys h1 j hj)
    have n2 := hc g rfl (j * 2 + 1) _ (fc_val l ys h1 j hj)
    rw [Addr.add_lit] at n1 n2
    exact ⟨n1, _, n2, (h3 j hj (by omega)).mono (fun k h => .inl h)⟩

theorem fc_one {T : Nat → Prop} {w : World} : ∀ (l : List Fil) (ys : List Value) (_ : ys.length = l.length) (_ : ∀ j (hj : j < l.length) (hj2 : j < ys.length), StrsT T w ys[j] (l[j]).pages), ∀ u ∈ fc l ys, u.oneCell' = true
  | [], [], _, _, u, hu => by simp [fc] at hu
  | f :: r, y :: s, h, hs, u, hu => by
    simp only [fc, List.mem_cons] at hu
    rcases hu with rfl | rfl | hu
    · rfl
    · obtain ⟨A, c, e, _⟩ := (hs 0 (by simp) (by simp)).len
      have e : u = _ := e
      rw [e]
      rfl
    · exact fc_one r s (by simpa using h) (fun j hj hj2 => hs (j + 1) (by simpa using hj) (by simpa using hj2)) u hu
  | [], _ :: _, h, _, _, _ => by simp at h
  | _ :: _, [], h, _, _, _ => by simp at h

/-- append of one file. -/
theorem run_append_file (ho : OwnF T w B v l) (hB : B ≤ w.heap.size) (f : Fil) (b off c0 : Nat) (y : Value) (hn : w.cell? ⟨b, off, none⟩ = some (.string ⟨f.name.toArray⟩)) (hy : w.cell? ⟨b, off + 1, none⟩ = some y) (hT : ∀ k, T k → k < B) (hs : StrsT T w y f.pages)
    (hm : l.length ≤ 8388608) (ty : TypeId) :
    ∃ v' w', (Builtin.append_ #[35, 35] ty #[v, .slice (some ⟨b, off, none⟩) 1 c0]).run Try.prog w = .ok v' w' ∧ OwnF T w' B v' (l ++ [f]) ∧ Below B w w' ∧ ∀ m, OwnUnder v m → ∀ k, m ≤ k → k < w.heap.size → w'.heap[k]? = w.heap[k]? := by
  obtain ⟨i0, hi, hz0, hz1, hz2⟩ := info_parts info_file
  obtain ⟨ys, h1, h2, h3⟩ := ho
  obtain ⟨A, c, ey, _⟩ := hs.len
  obtain ⟨v', w', hr, r2, r3, _⟩ := run_append_own (P := Try.prog) w B 35 ty 41 i0 _ 2 40 Try.underlying35 hi hz0 hz1 hz2 rfl (by omega) v l.length (fc l ys) h2 ⟨b, off, none⟩ 1 c0 [.string ⟨f.name.toArray⟩, y] rfl
    (fun j u hu => by
      rw [Addr.add_lit]
      match j with
      | 0 => rw [← Option.some.inj (show some (Value.string ⟨f.name.toArray⟩) = some u from hu)]; exact hn
      | 1 => rw [← Option.some.inj (show some y = some u from hu)]; exact hy
      | j + 2 => simp at hu)
    (fun u hu => by
      simp only [List.mem_cons, List.not_mem_nil, or_false] at hu
      rcases hu with rfl | rfl
      · rfl
      · rw [ey]; rfl) (by simp only [maxLen]; omega) (by omega) hB
  have hb : Below B w w' := (Below.refl _ _).grown r3 hB (fun k hk => (h2.lt k hk).1)
  refine ⟨v', w', hr, ⟨ys ++ [y], by simp [h1], ?_, fun j hj hj2 => ?_⟩, hb, fun m hm k hk hkw => r3.block k hkw (fun e => by have := hm k e.symm; omega)⟩
  · rw [fc_append _ _ _ _ h1, List.length_append]
    exact r2
  · by_cases e : j < l.length
    · rw [List.getElem_append_left (by omega), List.getElem_append_left e]
      exact (h3 j e (by omega)).below hT hb
    · have e2 : j = l.length := by simp at hj; omega
      subst e2
      rw [List.getElem_append_right (by omega), List.getElem_append_right (by omega)]
      simp only [h1, Nat.sub_self, List.getElem_cons_zero]
      exact hs.below hT hb

/-- append of one file, for the walk. -/
theorem wp_append_file {ops : Array Oper} {rest : List Oper} {o : Oper} {a : Act} {Q : Exit → Act → World → Prop} (hgd : o.guard = none) (s x : Operand)
    (hop : o.op = .call { callee := .builtin .append, args := #[s, x], argTypes := #[35, 35] })
    (hs : a.eval s = v) (ho : OwnF T w B v l) (hB : B ≤ w.heap.size) (f : Fil) (b off c0 : Nat) (y : Value) (hx : a.eval x = .slice (some ⟨b, off, none⟩) 1 c0) (hn : w.cell? ⟨b, off, none⟩ = some (.string ⟨f.name.toArray⟩)) (hy : w.cell? ⟨b, off + 1, none⟩ = some y)
    (hT : ∀ k, T k → k < B) (hst : StrsT T w y f.pages) (hm : l.length ≤ 8388608)
    (hK : ∀ v' w', OwnF T w' B v' (l ++ [f]) → Below B w w' → (∀ m, OwnUnder v m → ∀ k, m ≤ k → k < w.heap.size → w'.heap[k]? = w.heap[k]?) → wpList Try.prog ops Q rest (a.put o.dst v') w') : wpList Try.prog ops Q (o :: rest) a w := by
  refine wpList_plain hgd fun K hK' => ?_
  obtain ⟨v', w', hrun, r1, r2, r3⟩ := run_append_file ho hB f b off c0 y hn hy hT hst hm o.type
  unfold Oper.wp
  simp [execOp, hop, resolve, invoke, builtin, hs, hx, hrun, Result.andThen]
  exact hK' _ _ (hK v' w' r1 r2 r3)
end

end Go.Proofs.Ytbepanhndpkdhaa.Cd

namespace Go.Proofs.Ytbepanhndpkdhaa.Cd
open Go.RowKit

/-- What a call leaves that answers files. -/
def GivesF (T : Nat → Prop) (l : List Fil) (w : World) (e : Ending) (w' : World) : Prop := Below w.heap.size w w' ∧ ∃ y, e = .returned y ∧ Fils (since T w w') w' y l

theorem without_take {l : List Fil} {n : List UInt8} {k : Nat} (hk : k < l.length) : without (l.take (k + 1)) n = without (l.take k) n ++ (if (l[k]).name = n then [] else [l[k]]) := by
  unfold without
  rw [List.take_succ_eq_append_getElem hk, List.filter_append]
  congr 1
  by_cases e : (l[k]).name = n
  · rw [if_pos e, List.filter_cons_of_neg (by simp [e])]; rfl
  · rw [if_neg e, List.filter_cons_of_pos (by simp [e])]; rfl
theorem without_len (l : List Fil) (n : List UInt8) : (without l n).length ≤ l.length := List.length_filter_le _ _

set_option maxRecDepth 100000 in
set_option maxHeartbeats 1600000 in
theorem without_any (T : Nat → Prop) (v : Value) (l : List Fil) (n : List UInt8) (w : World) (hT : ∀ k, T k → k < w.heap.size) (h : Fils T w v l) (hl : l.length ≤ 1048576) :
    Calls Try.prog 65 #[v, .string ⟨n.toArray⟩] w (GivesF T (without l n) w) := by
  obtain ⟨A, c, rfl, hc, hm⟩ := h.len
  have H := Lib.hid h
  have HT := Lib.hid hT
  have hl' : (l.length : Int) ≤ 1048576 := by omega
  clear h hT
  go_enter Try.func65, Try.ntmps65
  go_wp2_with fail
  go_loopw [10, 5] (fun i vo wr => ∃ k : Nat, i = .int .i64 k ∧ k ≤ l.length ∧ Hid (OwnF T wr w.heap.size vo (without (l.take k) n)) ∧ Hid (Below w.heap.size w wr)) (fun i _ _ => l.length - (intOf i).toNat)
  case atStart => exact ⟨0, rfl, by omega, OwnF.nil _ _ _, Below.refl _ _⟩
  case round =>
    obtain ⟨k, rfl, hk, ho, hB⟩ := hrel
    have hz := hB.out.size
    by_cases hlt : k < l.length
    · have hlt' : (k : Int) < l.length := by omega
      obtain ⟨b, off, A', c', hA, hb, hc1, hc2, hst⟩ := (H.out.below HT.out hB.out).at hlt
      have hb := HT.out _ hb
      have HT2 : Hid (∀ k, T k → k < wr.heap.size) := fun k hk => Nat.lt_of_lt_of_le (HT.out k hk) hz
      have htk := without_take (n := n) hlt
      have hwl := without_len (l.take k) n
      rw [List.length_take] at hwl
      generalize l[k] = f at *
      subst hA
      have HST := Lib.hid hst
      have HTK := Lib.hid htk
      have HWL := Lib.hid hwl
      clear hst htk hwl
      by_cases hq : f.name = n
      · have hqb : (f.name == n) = true := by simp [hq]
        rw [if_pos hq] at HTK
        clear hq
        go_wp2_with fail
        go_roundw
        case rel =>
          have hb1 : Below wr.heap.size wr (wr.alloc (.cells #[.string ⟨f.name.toArray⟩, .slice A' f.pages.length c'] 41)) := (Below.refl _ _).alloc (Nat.le_refl _) _
          exact ⟨k + 1, by go_num, by omega, by unfold Hid; rw [HTK.out, List.append_nil]; exact ho.out.keep HT2.out hb1, hB.out.alloc hz _⟩
        case measure => simp [intOf]; omega
      · have hqb : (f.name == n) = false := by simpa using hq
        rw [if_neg hq] at HTK
        clear hq
        have hb2 : Below wr.heap.size wr ((wr.alloc (.cells #[.string ⟨f.name.toArray⟩, .slice A' f.pages.length c'] 41)).alloc (.cells #[.string ⟨f.name.toArray⟩, .slice A' f.pages.length c'] 41)) := ((Below.refl _ _).alloc (Nat.le_refl _) _).alloc (by simp) _
        have HB2 := Lib.hid hb2
        have hrow : Hid (((wr.alloc (.cells #[.string ⟨f.name.toArray⟩, .slice A' f.pages.length c'] 41)).alloc (.cells #[.string ⟨f.name.toArray⟩, .slice A' f.pages.length c'] 41)).heap[wr.heap.size + 1]? = some (.cells #[.string ⟨f.name.toArray⟩, .slice A' f.pages.length c'] 41)) := by
          have := heap_alloc_new (wr.alloc (.cells #[.string ⟨f.name.toArray⟩, .slice A' f.pages.length c'] 41)) (.cells #[.string ⟨f.name.toArray⟩, .slice A' f.pages.length c'] 41)
          rwa [World.size_alloc] at this
        clear hb2
        go_wp2_with (at_builtin; refine wp_append_file rfl _ _ rfl rfl (ho.out.keep HT2.out HB2.out) (by simp; omega) f (wr.heap.size + 1) 0 _ (.slice A' f.pages.length c') rfl ((cell_of_row _ _ _ _ _ _ hrow.out).trans rfl) ((cell_of_row _ _ _ _ _ _ hrow.out).trans rfl) HT.out (HST.out.below HT2.out HB2.out) (by have := HWL.out; omega) ?_)
        intro vo2 w2 ho2 hbo2 _
        have HO2 := Lib.hid ho2
        have HBO := Lib.hid hbo2
        clear ho2 hbo2
        go_wp2_with fail
        go_roundw
        case rel => exact ⟨k + 1, by go_num, by omega, by unfold Hid; rw [HTK.out]; exact HO2.out, (hB.out.trans (HB2.out.mono hz)).trans HBO.out⟩
        case measure => simp [intOf]; omega
    · have hlt' : (l.length : Int) ≤ k := by omega
      obtain rfl : k = l.length := by omega
      have ho2 := ho.out
      rw [List.take_length] at ho2
      have HF := Lib.hid ho2.fils
      clear ho ho2
      go_wp2_with fail
      go_ret
      exact ⟨hB.out, _, rfl, HF.out⟩

end Go.Proofs.Ytbepanhndpkdhaa.Cd

namespace Go.Proofs.Ytbepanhndpkdhaa.Cd
open Go.RowKit

theorem putF_lt {l : List Fil} {x : Fil} (h : ∀ f ∈ l, f.name < x.name) : putF l x = l ++ [x] := by
  induction l with
  | nil => rfl
  | cons f r ih =>
    rw [putF, if_pos (h f (by simp)), ih (fun g hg => h g (by simp [hg]))]
    rfl
theorem without_lt {l : List Fil} {x : Fil} (h : ∀ f ∈ l, f.name < x.name) : without l x.name = l := by
  unfold without
  rw [List.filter_eq_self]
  intro f hf
  simp only [decide_eq_true_eq]
  intro e
  have := h f hf
  rw [e] at this
  exact List.lt_irrefl _ this
theorem without_one' (g : Fil) (n : List UInt8) : without [g] n = if g.name = n then [] else [g] := by
  unfold without
  by_cases e : g.name = n
  · rw [if_pos e, List.filter_cons_of_neg (by simp [e])]; rfl
  · rw [if_neg e, List.filter_cons_of_pos (by simp [e])]; rfl
theorem putF_hit {l : List Fil} {x g : Fil} (h : ∀ f ∈ l, f.name < x.name) (hg : ¬ g.name < x.name) : putF (l ++ [g]) x = (l ++ [x]) ++ (if g.name = x.name then [] else [g]) := by
  induction l with
  | nil =>
    show putF [g] x = _
    rw [putF, if_neg hg, without_one']
    rfl
  | cons f r ih =>
    rw [List.cons_append, putF, if_pos (h f (by simp)), ih (fun f' hf => h f' (by simp [hf]))]
    rfl
theorem putF_done {l : List Fil} {x g : Fil} (h : ∃ f ∈ l, ¬ f.name < x.name) : putF (l ++ [g]) x = putF l x ++ (if g.name = x.name then [] else [g]) := by
  induction l with
  | nil => obtain ⟨f, hf, _⟩ := h; cases hf
  | cons f r ih =>
    rw [List.cons_append, putF, putF]
    by_cases hlt : f.name < x.name
    · rw [if_pos hlt, if_pos hlt]
      have h2 : ∃ f ∈ r, ¬ f.name < x.name := by
        obtain ⟨f', hf, hn⟩ := h
        rcases List.mem_cons.1 hf with rfl | hf
        · exact absurd hlt hn
        · exact ⟨f', hf, hn⟩
      rw [ih h2]
      rfl
    · rw [if_neg hlt, if_neg hlt, ← List.cons_append, ← without_one']
      unfold without
      rw [List.filter_append]
      rfl

theorem row_second (w : World) (o : Obj) (p : Obj) : ((w.alloc o).alloc p).heap[w.heap.size + 1]? = some p := by
  have h := heap_alloc_new (w.alloc o) p
  rwa [World.size_alloc] at h
theorem row_first (w : World) (o : Obj) (p : Obj) : ((w.alloc o).alloc p).heap[w.heap.size]? = some o := by
  rw [heap_alloc_old _ _ (by simp)]
  exact heap_alloc_new w o

theorem row_third (w : World) (o p q : Obj) : (((w.alloc o).alloc p).alloc q).heap[w.heap.size]? = some o := by
  rw [heap_alloc_old _ _ (by simp; omega)]
  exact row_first w o p
theorem row_third2 (w : World) (o p q : Obj) : (((w.alloc o).alloc p).alloc q).heap[w.heap.size + 1]? = some p := by
  rw [heap_alloc_old _ _ (by simp)]
  exact row_second w o p

/-- What has been put out of the first ones. -/
def PutK (l : List Fil) (x : Fil) (done : Bool) (out : List Fil) : Prop :=
  (done = false ∧ (∀ f ∈ l, f.name < x.name) ∧ out = l) ∨ (done = true ∧ (∃ f ∈ l, ¬ f.name < x.name) ∧ out = putF l x)
theorem putF_len (l : List Fil) (x : Fil) : (putF l x).length ≤ l.length + 1 := by
  induction l with
  | nil => simp [putF]
  | cons f r ih =>
    rw [putF]
    split
    · simp only [List.length_cons]; omega
    · have := without_len (f :: r) x.name
      simp only [List.length_cons] at this ⊢
      omega
theorem PutK.len {l : List Fil} {x : Fil} {done : Bool} {out : List Fil} (h : PutK l x done out) : out.length ≤ l.length + 1 := by
  rcases h with ⟨_, _, rfl⟩ | ⟨_, _, rfl⟩
  · omega
  · exact putF_len _ _

set_option maxRecDepth 100000 in
set_option maxHeartbeats 4000000 in
theorem put_any (T : Nat → Prop) (v y : Value) (l : List Fil) (x : Fil) (w : World) (hT : ∀ k, T k → k < w.heap.size) (h : Fils T w v l) (hy : StrsT T w y x.pages) (hl : l.length ≤ 1048576) :
    Calls Try.prog 60 #[v, .agg #[.string ⟨x.name.toArray⟩, y]] w (GivesF T (putF l x) w) := by
  obtain ⟨A, c, rfl, hc, hm⟩ := h.len
  obtain ⟨Ay, cy, rfl, hcy, hmy⟩ := hy.len
  have H := Lib.hid h
  have HY := Lib.hid hy
  have HT := Lib.hid hT
  have HT1 : Hid (∀ k, T k → k < w.heap.size + 1) := fun k hk => Nat.lt_succ_of_lt (hT k hk)
  have hl' : (l.length : Int) ≤ 1048576 := by omega
  clear h hy hT
  go_enter Try.func60, Try.ntmps60
  go_wp2_with fail
  go_loopw [11, 5, 6] (fun i vo d wr => ∃ (k : Nat) (done : Bool) (out : List Fil), i = .int .i64 k ∧ d = .bool done ∧ k ≤ l.length ∧ Hid (PutK (l.take k) x done out) ∧ Hid (OwnF T wr (w.heap.size + 1) vo out) ∧
    Hid (Below (w.heap.size + 1) (w.alloc (.cells #[.string ⟨x.name.toArray⟩, .slice Ay x.pages.length cy] 41)) wr)) (fun i _ _ _ => l.length - (intOf i).toNat)
  case atStart => exact ⟨0, false, [], rfl, rfl, by omega, .inl ⟨rfl, (fun f hf => by cases hf), rfl⟩, OwnF.nil _ _ _, Below.refl _ _⟩
  case round =>
    obtain ⟨k, done, out, rfl, rfl, hk, hput, ho, hB⟩ := hrel
    have hz := hB.out.size
    rw [World.size_alloc] at hz
    have hbox : wr.heap[w.heap.size]? = some (.cells #[.string ⟨x.name.toArray⟩, .slice Ay x.pages.length cy] 41) := (hB.out.block _ (by omega)).trans (heap_alloc_new _ _)
    have HBOX := Lib.hid hbox
    have HT2 : Hid (∀ k, T k → k < wr.heap.size) := fun k hk => by have := HT.out k hk; omega
    have HW : Hid (Below w.heap.size w wr) := ((Below.refl _ _).alloc (Nat.le_refl _) _).trans (hB.out.mono (by omega))
    have hol := hput.out.len
    rw [List.length_take] at hol
    have HOL := Lib.hid hol
    clear hbox hol
    by_cases hlt : k < l.length
    · have hlt' : (k : Int) < l.length := by omega
      obtain ⟨b, off, A', c', hA, hb, hc1, hc2, hst⟩ := (H.out.below HT.out HW.out).at hlt
      have hb := HT.out _ hb
      have htk := List.take_succ_eq_append_getElem hlt
      generalize l[k] = f at *
      subst hA
      have HST := Lib.hid hst
      have HTK := Lib.hid htk
      clear hst htk
      have hb1 : Below wr.heap.size wr (wr.alloc (.cells #[.string ⟨f.name.toArray⟩, .slice A' f.pages.length c'] 41)) := (Below.refl _ _).alloc (Nat.le_refl _) _
      have HB1 := Lib.hid hb1
      have e0 : (wr.alloc (.cells #[.string ⟨f.name.toArray⟩, .slice A' f.pages.length c'] 41)).cell? ⟨w.heap.size, 0, none⟩ = some (.string ⟨x.name.toArray⟩) := (hb1.cell (p := ⟨w.heap.size, 0, none⟩) (by show w.heap.size < wr.heap.size; omega)).trans (cell_of_row _ _ _ _ _ _ HBOX.out)
      have e1 : (wr.alloc (.cells #[.string ⟨f.name.toArray⟩, .slice A' f.pages.length c'] 41)).cell? ⟨w.heap.size, 1, none⟩ = some (.slice Ay x.pages.length cy) := (hb1.cell (p := ⟨w.heap.size, 1, none⟩) (by show w.heap.size < wr.heap.size; omega)).trans (cell_of_row _ _ _ _ _ _ HBOX.out)
      clear hb1
      have HB2 : Hid (Below wr.heap.size wr ((wr.alloc (.cells #[.string ⟨f.name.toArray⟩, .slice A' f.pages.length c'] 41)).alloc (.cells #[.string ⟨f.name.toArray⟩, .slice A' f.pages.length c'] 41))) := HB1.out.alloc (by simp) _
      have HR2 : Hid (((wr.alloc (.cells #[.string ⟨f.name.toArray⟩, .slice A' f.pages.length c'] 41)).alloc (.cells #[.string ⟨f.name.toArray⟩, .slice A' f.pages.length c'] 41)).heap[wr.heap.size + 1]? = some (.cells #[.string ⟨f.name.toArray⟩, .slice A' f.pages.length c'] 41)) := row_second _ _ _
      have HX2 : Hid (Below wr.heap.size wr ((wr.alloc (.cells #[.string ⟨f.name.toArray⟩, .slice A' f.pages.length c'] 41)).alloc (.cells #[.string ⟨x.name.toArray⟩, .slice Ay x.pages.length cy] 41))) := HB1.out.alloc (by simp) _
      have HXR2 : Hid (((wr.alloc (.cells #[.string ⟨f.name.toArray⟩, .slice A' f.pages.length c'] 41)).alloc (.cells #[.string ⟨x.name.toArray⟩, .slice Ay x.pages.length cy] 41)).heap[wr.heap.size + 1]? = some (.cells #[.string ⟨x.name.toArray⟩, .slice Ay x.pages.length cy] 41)) := row_second _ _ _
      have hlen : out.length ≤ 8388607 := by have := HOL.out; omega
      cases done
      · by_cases hlt2 : f.name < x.name
        · have hql : Op.bytesLess f.name x.name = true := by rw [bytesLess_eq]; exact decide_eq_true hlt2
          have hqe : (f.name == x.name) = false := beq_eq_false_iff_ne.2 (fun e => by rw [e] at hlt2; exact List.lt_irrefl _ hlt2)
          have HP : Hid (PutK (l.take (k + 1)) x false (out ++ [f])) := by
            rcases hput.out with ⟨_, h1, h2⟩ | ⟨h1, _⟩
            · refine .inl ⟨rfl, fun g hg => ?_, by rw [HTK.out, h2]⟩
              rw [HTK.out] at hg
              rcases List.mem_append.1 hg with hg | hg
              · exact h1 g hg
              · rw [List.mem_singleton.1 hg]; exact hlt2
            · cases h1
          clear hlt2
          go_wp2_with (at_builtin; refine wp_append_file rfl _ _ rfl rfl (ho.out.keep HT2.out HB2.out) (by simp; omega) f (wr.heap.size + 1) 0 _ (.slice A' f.pages.length c') rfl ((cell_of_row _ _ _ _ _ _ HR2.out).trans rfl) ((cell_of_row _ _ _ _ _ _ HR2.out).trans rfl) HT1.out (HST.out.below HT2.out HB2.out) (by omega) ?_)
          intro vo2 w2 ho2 hbo2 _
          have HO2 := Lib.hid ho2
          have HBO := Lib.hid hbo2
          clear ho2 hbo2
          go_wp2_with fail
          go_roundw
          case rel => exact ⟨k + 1, false, out ++ [f], by go_num, rfl, by omega, HP, HO2, (hB.out.trans (HB2.out.mono hz)).trans HBO.out⟩
          case measure => simp [intOf]; omega
        · have hql : Op.bytesLess f.name x.name = false := by rw [bytesLess_eq]; exact decide_eq_false hlt2
          by_cases heq : f.name = x.name
          · have hqe : (f.name == x.name) = true := by simp [heq]
            have HP : Hid (PutK (l.take (k + 1)) x true (out ++ [x])) := by
              rcases hput.out with ⟨_, h1, h2⟩ | ⟨h1, _⟩
              · refine .inr ⟨rfl, ⟨f, by rw [HTK.out]; simp, hlt2⟩, ?_⟩
                rw [HTK.out, putF_hit h1 hlt2, if_pos heq, List.append_nil, h2]
              · cases h1
            clear hlt2 heq
            go_wp2_with (at_builtin; refine wp_append_file rfl _ _ rfl rfl (ho.out.keep HT2.out HX2.out) (by simp; omega) x (wr.heap.size + 1) 0 _ (.slice Ay x.pages.length cy) rfl ((cell_of_row _ _ _ _ _ _ HXR2.out).trans rfl) ((cell_of_row _ _ _ _ _ _ HXR2.out).trans rfl) HT1.out (HY.out.below HT.out (HW.out.trans (HX2.out.mono HW.out.size))) (by omega) ?_)
            intro vo2 w2 ho2 hbo2 hoth
            have HO2 := Lib.hid ho2
            have HBO := Lib.hid hbo2
            have hrow : w2.heap[wr.heap.size]? = some (.cells #[.string ⟨f.name.toArray⟩, .slice A' f.pages.length c'] 41) := (hoth wr.heap.size ho.out.under wr.heap.size (Nat.le_refl _) (by omega)).trans (row_first _ _ _)
            have q0 : w2.cell? ⟨wr.heap.size, 0, none⟩ = some (.string ⟨f.name.toArray⟩) := cell_of_row _ _ _ _ _ _ hrow
            have q1 : w2.cell? ⟨wr.heap.size, 1, none⟩ = some (.slice A' f.pages.length c') := cell_of_row _ _ _ _ _ _ hrow
            have q2 : w2.cell? ⟨w.heap.size, 0, none⟩ = some (.string ⟨x.name.toArray⟩) := (hbo2.cell (p := ⟨w.heap.size, 0, none⟩) (Nat.lt_succ_self _)).trans ((HX2.out.cell (p := ⟨w.heap.size, 0, none⟩) (by show w.heap.size < wr.heap.size; omega)).trans (cell_of_row _ _ _ _ _ _ HBOX.out))
            clear ho2 hbo2 hoth hrow
            go_wp2_with fail
            go_roundw
            case rel => exact ⟨k + 1, true, out ++ [x], by go_num, rfl, by omega, HP, HO2, (hB.out.trans (HX2.out.mono hz)).trans HBO.out⟩
            case measure => simp [intOf]; omega
          · have hqe : (f.name == x.name) = false := beq_eq_false_iff_ne.2 heq
            have HP : Hid (PutK (l.take (k + 1)) x true (out ++ [x] ++ [f])) := by
              rcases hput.out with ⟨_, h1, h2⟩ | ⟨h1, _⟩
              · refine .inr ⟨rfl, ⟨f, by rw [HTK.out]; simp, hlt2⟩, ?_⟩
                rw [HTK.out, putF_hit h1 hlt2, if_neg heq, h2]
              · cases h1
            clear hlt2 heq
            go_wp2_with (at_builtin; refine wp_append_file rfl _ _ rfl rfl (ho.out.keep HT2.out HX2.out) (by simp; omega) x (wr.heap.size + 1) 0 _ (.slice Ay x.pages.length cy) rfl ((cell_of_row _ _ _ _ _ _ HXR2.out).trans rfl) ((cell_of_row _ _ _ _ _ _ HXR2.out).trans rfl) HT1.out (HY.out.below HT.out (HW.out.trans (HX2.out.mono HW.out.size))) (by omega) ?_)
            intro vo2 w2 ho2 hbo2 hoth
            have hz2 := hbo2.size
            simp at hz2
            have HO2 := Lib.hid ho2
            have HBO := Lib.hid hbo2
            have hrow : w2.heap[wr.heap.size]? = some (.cells #[.string ⟨f.name.toArray⟩, .slice A' f.pages.length c'] 41) := (hoth wr.heap.size ho.out.under wr.heap.size (Nat.le_refl _) (by omega)).trans (row_first _ _ _)
            have q0 : w2.cell? ⟨wr.heap.size, 0, none⟩ = some (.string ⟨f.name.toArray⟩) := cell_of_row _ _ _ _ _ _ hrow
            have q1 : w2.cell? ⟨wr.heap.size, 1, none⟩ = some (.slice A' f.pages.length c') := cell_of_row _ _ _ _ _ _ hrow
            have q2 : w2.cell? ⟨w.heap.size, 0, none⟩ = some (.string ⟨x.name.toArray⟩) := (hbo2.cell (p := ⟨w.heap.size, 0, none⟩) (Nat.lt_succ_self _)).trans ((HX2.out.cell (p := ⟨w.heap.size, 0, none⟩) (by show w.heap.size < wr.heap.size; omega)).trans (cell_of_row _ _ _ _ _ _ HBOX.out))
            have HB3 : Hid (Below w2.heap.size w2 (w2.alloc (.cells #[.string ⟨f.name.toArray⟩, .slice A' f.pages.length c'] 41))) := (Below.refl _ _).alloc (Nat.le_refl _) _
            have HR3 : Hid ((w2.alloc (.cells #[.string ⟨f.name.toArray⟩, .slice A' f.pages.length c'] 41)).heap[w2.heap.size]? = some (.cells #[.string ⟨f.name.toArray⟩, .slice A' f.pages.length c'] 41)) := heap_alloc_new _ _
            have HST3 : Hid (StrsT T w2 (.slice A' f.pages.length c') f.pages) := (HST.out.below HT2.out HX2.out).below HT1.out hbo2
            clear ho2 hbo2 hoth hrow
            go_wp2_with (at_builtin; refine wp_append_file rfl _ _ rfl rfl (HO2.out.keep (fun k hk => by have := HT2.out k hk; omega) HB3.out) (by simp; omega) f w2.heap.size 0 _ (.slice A' f.pages.length c') rfl ((cell_of_row _ _ _ _ _ _ HR3.out).trans rfl) ((cell_of_row _ _ _ _ _ _ HR3.out).trans rfl) HT1.out (HST3.out.below (fun k hk => by have := HT2.out k hk; omega) HB3.out) (by simp; omega) ?_)
            intro vo3 w3 ho3 hbo3 _
            have HO3 := Lib.hid ho3
            have HBO3 := Lib.hid hbo3
            clear ho3 hbo3
            go_wp2_with fail
            go_roundw
            case rel => exact ⟨k + 1, true, out ++ [x] ++ [f], by go_num, rfl, by omega, HP, by unfold Hid at HO3 ⊢; rw [List.append_assoc]; exact HO3, (((hB.out.trans (HX2.out.mono hz)).trans HBO.out).trans (HB3.out.mono (by omega))).trans HBO3.out⟩
            case measure => simp [intOf]; omega
      · by_cases heq : f.name = x.name
        · have hqe : (f.name == x.name) = true := by simp [heq]
          have HP : Hid (PutK (l.take (k + 1)) x true out) := by
            rcases hput.out with ⟨h1, _⟩ | ⟨_, ⟨g, hg, hn⟩, h2⟩
            · cases h1
            · refine .inr ⟨rfl, ⟨g, by rw [HTK.out]; exact List.mem_append_left _ hg, hn⟩, ?_⟩
              rw [HTK.out, putF_done ⟨g, hg, hn⟩, if_pos heq, List.append_nil, h2]
          clear heq
          go_wp2_with fail
          go_roundw
          case rel => exact ⟨k + 1, true, out, by go_num, rfl, by omega, HP, ho.out.keep HT2.out HB1.out, hB.out.trans (HB1.out.mono hz)⟩
          case measure => simp [intOf]; omega
        · have hqe : (f.name == x.name) = false := beq_eq_false_iff_ne.2 heq
          have HP : Hid (PutK (l.take (k + 1)) x true (out ++ [f])) := by
            rcases hput.out with ⟨h1, _⟩ | ⟨_, ⟨g, hg, hn⟩, h2⟩
            · cases h1
            · refine .inr ⟨rfl, ⟨g, by rw [HTK.out]; exact List.mem_append_left _ hg, hn⟩, ?_⟩
              rw [HTK.out, putF_done ⟨g, hg, hn⟩, if_neg heq, h2]
          clear heq
          go_wp2_with (at_builtin; refine wp_append_file rfl _ _ rfl rfl (ho.out.keep HT2.out HB2.out) (by simp; omega) f (wr.heap.size + 1) 0 _ (.slice A' f.pages.length c') rfl ((cell_of_row _ _ _ _ _ _ HR2.out).trans rfl) ((cell_of_row _ _ _ _ _ _ HR2.out).trans rfl) HT1.out (HST.out.below HT2.out HB2.out) (by omega) ?_)
          intro vo2 w2 ho2 hbo2 _
          have HO2 := Lib.hid ho2
          have HBO := Lib.hid hbo2
          clear ho2 hbo2
          go_wp2_with fail
          go_roundw
          case rel => exact ⟨k + 1, true, out ++ [f], by go_num, rfl, by omega, HP, HO2, (hB.out.trans (HB2.out.mono hz)).trans HBO.out⟩
          case measure => simp [intOf]; omega
    · have hlt' : (l.length : Int) ≤ k := by omega
      obtain rfl : k = l.length := by omega
      have hp2 := hput.out
      rw [List.take_length] at hp2
      have hlen : out.length ≤ 8388607 := by have := HOL.out; omega
      cases done
      · have HP : Hid (out ++ [x] = putF l x) := by
          rcases hp2 with ⟨_, h1, h2⟩ | ⟨h1, _⟩
          · unfold Hid; rw [putF_lt h1, h2]
          · cases h1
        have e0 : wr.cell? ⟨w.heap.size, 0, none⟩ = some (.string ⟨x.name.toArray⟩) := cell_of_row _ _ _ _ _ _ HBOX.out
        have e1 : wr.cell? ⟨w.heap.size, 1, none⟩ = some (.slice Ay x.pages.length cy) := cell_of_row _ _ _ _ _ _ HBOX.out
        have HB3 : Hid (Below wr.heap.size wr (wr.alloc (.cells #[.string ⟨x.name.toArray⟩, .slice Ay x.pages.length cy] 41))) := (Below.refl _ _).alloc (Nat.le_refl _) _
        have HR3 : Hid ((wr.alloc (.cells #[.string ⟨x.name.toArray⟩, .slice Ay x.pages.length cy] 41)).heap[wr.heap.size]? = some (.cells #[.string ⟨x.name.toArray⟩, .slice Ay x.pages.length cy] 41)) := heap_alloc_new _ _
        clear hp2 hput
        go_wp2_with (at_builtin; refine wp_append_file rfl _ _ rfl rfl (ho.out.keep HT2.out HB3.out) (by simp; omega) x wr.heap.size 0 _ (.slice Ay x.pages.length cy) rfl ((cell_of_row _ _ _ _ _ _ HR3.out).trans rfl) ((cell_of_row _ _ _ _ _ _ HR3.out).trans rfl) HT1.out (HY.out.below HT.out (HW.out.trans (HB3.out.mono HW.out.size))) (by omega) ?_)
        intro vo2 w2 ho2 hbo2 _
        have hz2 := hbo2.size
        simp at hz2
        have HF := Lib.hid (ho2.fils.mono (T' := since T w w2) (fun k hk => hk.elim .inl (fun e => .inr ⟨by omega, e.2⟩)))
        have HBO := Lib.hid hbo2
        clear ho2 hbo2
        rw [HP.out] at HF
        go_wp2_with fail
        go_ret
        exact ⟨(HW.out.trans (HB3.out.mono HW.out.size)).trans (HBO.out.mono (by omega)), _, rfl, HF.out⟩
      · have HP : Hid (out = putF l x) := by
          rcases hp2 with ⟨h1, _⟩ | ⟨_, _, h2⟩
          · cases h1
          · exact h2
        have HF := Lib.hid (ho.out.fils.mono (T' := since T w wr) (fun k hk => hk.elim .inl (fun e => .inr ⟨by omega, e.2⟩)))
        rw [HP.out] at HF
        clear hp2 hput
        go_wp2_with fail
        go_ret
        exact ⟨HW.out, _, rfl, HF.out⟩

end Go.Proofs.Ytbepanhndpkdhaa.Cd

namespace Go.Proofs.Ytbepanhndpkdhaa.Cd
open Go.RowKit

def lenV : Value → Nat
  | .slice _ n _ => n
  | _ => 0

/-- What a call leaves that answers a file. -/
def GivesFil (T : Nat → Prop) (f : Fil) (w : World) (e : Ending) (w' : World) : Prop := Below w.heap.size w w' ∧ ∃ y, e = .returned (.agg #[.string ⟨f.name.toArray⟩, y]) ∧ StrsT (since T w w') w' y f.pages

theorem result_file {fn : Func} {p : Tmp} (h : fn.results = #[.cell p 41]) (tmps : Array Value) (w : World) (g : Nat) (x y : Value) (fr : Nat × Nat)
    (hp : tmps.getD p undef = .pointer (some ⟨g, 0, none⟩)) (hg : w.heap[g]? = some (.cells #[x, y] 41 fr)) :
    (results fn tmps).run Try.prog w = .ok (.agg #[x, y]) w :=
  results_cell_row h tmps w g _ _ fr _ hp hg Try.underlying41 rfl (by kernel_rfl)

theorem nought_eq : noughts 512 = nought := rfl
/-- A row of texts of one's own: its block. -/
theorem OwnS.open {w : World} {B : Nat} {v : Value} {l : List (List UInt8)} (h : OwnS w B v l) (h0 : 0 < l.length) :
    ∃ g cap cur, v = .slice (some ⟨g, 0, none⟩) l.length cap ∧ B ≤ g ∧ g < w.heap.size ∧ w.heap[g]? = some (.cells cur 9 (0, 0)) ∧ l.length ≤ cap ∧ cap ≤ maxLen ∧ ∀ k, k < l.length → ∃ u, w.cell? ⟨g, k, none⟩ = some u := by
  have hlt := h.lt
  have hc := fun g hg => h.cells (g := g) hg
  rcases h.2 with ⟨_, h1⟩ | ⟨g, cap, cur, rfl, hb, hh, hn, hm, _, _⟩
  · omega
  · refine ⟨g, cap, cur, rfl, hb, (hlt g rfl).2, hh, hn, hm, fun k hk => ?_⟩
    have := hc g rfl k _ (vs_at l k hk)
    rw [Addr.add_lit, Nat.zero_add] at this
    exact ⟨_, this⟩
theorem OwnS.stored {w : World} {B g cap : Nat} {l : List (List UInt8)} (h : OwnS w B (.slice (some ⟨g, 0, none⟩) l.length cap) l) (k : Nat) (s : List UInt8) :
    OwnS (w.setCell ⟨g, k, none⟩ (.string ⟨s.toArray⟩)) B (.slice (some ⟨g, 0, none⟩) l.length cap) (l.set k s) := by
  have h2 := (World.ownsRow.stored h k (.string ⟨s.toArray⟩)).1
  unfold OwnS
  rw [List.length_set]
  have e : vs (l.set k s) = (vs l).set k (.string ⟨s.toArray⟩) := by simp [vs, List.map_set]
  rw [e]
  exact h2
theorem OwnS.strsT {T : Nat → Prop} {w : World} {B : Nat} {v : Value} {l : List (List UInt8)} (h : OwnS w B v l) (hT : ∀ g, v.ownBlock = some g → T g) : StrsT T w v l := by
  have hc := fun g hg => h.cells (g := g) hg
  rcases h.2 with ⟨rfl, h0⟩ | ⟨g, cap, cur, rfl, _, hg, hn, hm, _, _⟩
  · have : l = [] := List.eq_nil_of_length_eq_zero h0
    subst this
    exact StrsT.nil _ _
  · refine ⟨_, cap, rfl, hn, hm, (fun h => by cases h), fun _ => ⟨g, 0, rfl, hT g rfl, fun j u hu => ?_⟩⟩
    have := hc g rfl j u hu
    rwa [Addr.add_lit] at this

set_option maxRecDepth 100000 in
set_option maxHeartbeats 4000000 in
theorem set_any (T : Nat → Prop) (y : Value) (f : Fil) (i : Nat) (d : List UInt8) (w : World) (hT : ∀ k, T k → k < w.heap.size) (hy : StrsT T w y f.pages) (hi : i ≤ 1048576) (hp : f.pages.length ≤ 1048576) :
    Calls Try.prog 61 #[.agg #[.string ⟨f.name.toArray⟩, y], .int .i64 i, .string ⟨d.toArray⟩] w (GivesFil T ⟨f.name, setP f.pages i d⟩ w) := by
  obtain ⟨Ay, cy, rfl, hcy, hmy⟩ := hy.len
  have HY := Lib.hid (hy.strs hT)
  have hi' : (i : Int) ≤ 1048576 := by omega
  have hmk : ∀ W, (Instr.makeSlice 29 (.int .i64 512) (.int .i64 512)).run Try.prog W = .ok (.slice (some ⟨W.heap.size, 0, none⟩) 512 512) (W.alloc (.cells (vb (noughts 512)).toArray 5)) := fun W => make_bytes 512 (by omega) W
  have hcv := fun W => text_noughts W 512 (by omega) _ rfl
  clear hy
  have hb0 : Below w.heap.size w (((w.alloc (.cells #[.string ⟨f.name.toArray⟩, .slice Ay f.pages.length cy] 41)).alloc (.cells #[.string ⟨#[]⟩, .slice none 0 0] 41)).alloc (.cells #[] 9)) := (((Below.refl _ _).alloc (Nat.le_refl _) _).alloc (by simp) _).alloc (by simp; omega) _
  have HB0 := Lib.hid hb0
  have hown := owns_new ((w.alloc (.cells #[.string ⟨f.name.toArray⟩, .slice Ay f.pages.length cy] 41)).alloc (.cells #[.string ⟨#[]⟩, .slice none 0 0] 41)) (w.heap.size + 2) (by simp)
  rw [show ((w.alloc (.cells #[.string ⟨f.name.toArray⟩, .slice Ay f.pages.length cy] 41)).alloc (.cells #[.string ⟨#[]⟩, .slice none 0 0] 41)).heap.size = w.heap.size + 1 + 1 by simp] at hown
  have HOWN := Lib.hid hown
  clear hb0 hown
  go_enter Try.func61, Try.ntmps61
  go_wp2_with (at_builtin; refine wp_append_strs rfl _ _ rfl (w.heap.size + 2) _ [] rfl HOWN.out (by simp) _ _ f.pages rfl (HY.out.below HB0.out) (by simp; omega) ?_)
  intro pv w4 ho4 hb4
  have HO4 := Lib.hid ho4
  have hz4 := hb4.size
  simp at hz4
  have hbox4 : Hid (w4.heap[w.heap.size]? = some (.cells #[.string ⟨f.name.toArray⟩, .slice Ay f.pages.length cy] 41)) := (hb4.block _ (by omega)).trans (row_third _ _ _ _)
  have hres4 : Hid (w4.heap[w.heap.size + 1]? = some (.cells #[.string ⟨#[]⟩, .slice none 0 0] 41)) := (hb4.block _ (by omega)).trans (row_third2 _ _ _ _)
  have HW4 : Hid (Below w.heap.size w w4) := HB0.out.trans (hb4.mono (by omega))
  obtain ⟨A4, c4, rfl, hc4, hm4⟩ := ho4.strs.len
  clear ho4 hb4 HOWN HB0
  go_wp2_with fail
  go_loopw [7] (fun v wr => ∃ (ps : List (List UInt8)) (A : Option Addr) (c : Nat), v = .slice A ps.length c ∧ ps.length ≤ c ∧ c ≤ maxLen ∧ ps.length ≤ 1048577 ∧ Hid (∃ n, ps = f.pages ++ List.replicate n nought ∧ (n = 0 ∨ ps.length ≤ i + 1)) ∧ Hid (OwnS wr (w.heap.size + 2) (.slice A ps.length c) ps) ∧
    Hid (wr.heap[w.heap.size]? = some (.cells #[.string ⟨f.name.toArray⟩, .slice Ay f.pages.length cy] 41)) ∧ Hid (wr.heap[w.heap.size + 1]? = some (.cells #[.string ⟨#[]⟩, .slice none 0 0] 41)) ∧ Hid (w.heap.size + 2 ≤ wr.heap.size) ∧ Hid (Below w.heap.size w wr)) (fun v _ => i + 1 - lenV v)
  case atStart => exact ⟨f.pages, A4, c4, rfl, hc4, hm4, by omega, ⟨0, by simp, .inl rfl⟩, HO4, hbox4, hres4, (by unfold Hid; omega), HW4⟩
  case round =>
    clear HO4 hbox4 hres4 HW4 hz4 hc4 hm4
    obtain ⟨ps, A, c, rfl, hc, hm, hpl, hps, ho, hbox, hres, hz, hW⟩ := hrel
    have hz := hz.out
    by_cases hlt : ps.length ≤ i
    · have hlt' : (ps.length : Int) ≤ i := by omega
      have hb2 : Below wr.heap.size wr ((wr.alloc (.cells (vb (noughts 512)).toArray 5)).alloc (.cells #[.string ⟨(noughts 512).toArray⟩] 9)) := ((Below.refl _ _).alloc (Nat.le_refl _) _).alloc (by simp) _
      have HB2 := Lib.hid hb2
      have HS2 : Hid (Strs ((wr.alloc (.cells (vb (noughts 512)).toArray 5)).alloc (.cells #[.string ⟨(noughts 512).toArray⟩] 9)) (wr.heap.size + 1 + 1) (.slice (some ⟨wr.heap.size + 1, 0, none⟩) 1 1) [noughts 512]) := by
        have h := strs_one (wr.alloc (.cells (vb (noughts 512)).toArray 5)) (noughts 512) 9
        rw [World.size_alloc] at h
        exact h
      clear hb2
      go_wp2_with (at_builtin; refine wp_append_strs rfl _ _ rfl (w.heap.size + 2) _ ps rfl (ho.out.keep HB2.out) (by simp; omega) _ _ [noughts 512] rfl HS2.out (by simp; omega) ?_)
      intro pv2 w5 ho5 hb5
      have HO5 := Lib.hid ho5
      have hz5 := hb5.size
      simp at hz5
      obtain ⟨A5, c5, rfl, hc5, hm5⟩ := ho5.strs.len
      have hbox5 : Hid (w5.heap[w.heap.size]? = some (.cells #[.string ⟨f.name.toArray⟩, .slice Ay f.pages.length cy] 41)) := (hb5.block _ (by omega)).trans ((HB2.out.block _ (by omega)).trans hbox.out)
      have hres5 : Hid (w5.heap[w.heap.size + 1]? = some (.cells #[.string ⟨#[]⟩, .slice none 0 0] 41)) := (hb5.block _ (by omega)).trans ((HB2.out.block _ (by omega)).trans hres.out)
      have HW5 : Hid (Below w.heap.size w w5) := (hW.out.trans (HB2.out.mono hW.out.size)).trans (hb5.mono (by omega))
      have HPS : Hid (∃ n, ps ++ [noughts 512] = f.pages ++ List.replicate n nought ∧ (n = 0 ∨ (ps ++ [noughts 512]).length ≤ i + 1)) := by
        obtain ⟨n, e, _⟩ := hps.out
        refine ⟨n + 1, ?_, .inr (by simp; omega)⟩
        rw [e, List.replicate_succ', List.append_assoc, nought_eq]
      clear ho5 hb5
      go_wp2_with fail
      go_roundw
      case rel => exact ⟨ps ++ [noughts 512], A5, c5, rfl, hc5, hm5, by simp; omega, HPS, HO5, hbox5, hres5, (by unfold Hid; omega), HW5⟩
      case measure => simp [lenV]; omega
    · have hlt' : (i : Int) < ps.length := by omega
      have hseq : Hid (ps.set i d = setP f.pages i d) := by
        obtain ⟨n, e, hn⟩ := hps.out
        unfold Hid setP
        have hl : ps.length = f.pages.length + n := by rw [e]; simp
        rw [e]
        congr 2
        rcases hn with rfl | hn
        · rw [show i + 1 - f.pages.length = 0 by omega]
        · rw [show i + 1 - f.pages.length = n by omega]
      obtain ⟨g, cap, cur, hv, hg, hgl, hgr, _, _, hcells⟩ := ho.out.open (by omega)
      injection hv with hv1 _ hv3
      subst hv1 hv3
      obtain ⟨u, hu⟩ := hcells i (by omega)
      have hfz : wr.frozen? ⟨g, i, none⟩ = false := by simp [World.frozen?, hgr]
      have hne0 : ¬ g = w.heap.size := by omega
      have hne1 : ¬ g = w.heap.size + 1 := by omega
      have hbox5 : Hid ((wr.setCell ⟨g, i, none⟩ (.string ⟨d.toArray⟩)).heap[w.heap.size]? = some (.cells #[.string ⟨f.name.toArray⟩, .slice Ay f.pages.length cy] 41)) := (heap_setCell_other _ _ _ _ (by show w.heap.size ≠ g; omega)).trans hbox.out
      have hres5 : Hid ((wr.setCell ⟨g, i, none⟩ (.string ⟨d.toArray⟩)).heap[w.heap.size + 1]? = some (.cells #[.string ⟨#[]⟩, .slice none 0 0] 41)) := (heap_setCell_other _ _ _ _ (by show w.heap.size + 1 ≠ g; omega)).trans hres.out
      have q0 : (wr.setCell ⟨g, i, none⟩ (.string ⟨d.toArray⟩)).cell? ⟨w.heap.size, 0, none⟩ = some (.string ⟨f.name.toArray⟩) := cell_of_row _ _ _ _ _ _ hbox5.out
      have q1 : (wr.setCell ⟨g, i, none⟩ (.string ⟨d.toArray⟩)).cell? ⟨w.heap.size + 1, 0, none⟩ = some (.string ⟨#[]⟩) := cell_of_row _ _ _ _ _ _ hres5.out
      have q2 : (wr.setCell ⟨g, i, none⟩ (.string ⟨d.toArray⟩)).cell? ⟨w.heap.size + 1, 1, none⟩ = some (.slice none 0 0) := cell_of_row _ _ _ _ _ _ hres5.out
      have f1 : (wr.setCell ⟨g, i, none⟩ (.string ⟨d.toArray⟩)).frozen? ⟨w.heap.size + 1, 0, none⟩ = false := by simp only [World.frozen?, hres5.out]; rfl
      have f2 : (wr.setCell ⟨g, i, none⟩ (.string ⟨d.toArray⟩)).frozen? ⟨w.heap.size + 1, 1, none⟩ = false := by simp only [World.frozen?, hres5.out]; rfl
      have HS5 : Hid (StrsT (fun k => w.heap.size + 2 ≤ k ∧ k < wr.heap.size) (wr.setCell ⟨g, i, none⟩ (.string ⟨d.toArray⟩)) (.slice (some ⟨g, 0, none⟩) ps.length c) (ps.set i d)) := (ho.out.stored i d).strsT (fun k hk => by injection hk with hk; subst hk; exact ⟨hg, hgl⟩)
      have HO5 := Lib.hid (ho.out.stored i d)
      have HW5 : Hid (Below w.heap.size w (wr.setCell ⟨g, i, none⟩ (.string ⟨d.toArray⟩))) := hW.out.setCell (p := ⟨g, i, none⟩) (by show w.heap.size ≤ g; omega) _
      have hci : (ps.length : Int) ≤ c := by omega
      clear hgr hcells
      go_wp2_with fail
      refine bodyPost_ret (result_file rfl _ _ (w.heap.size + 1) _ _ _ rfl (file_row hres5.out)) rfl ?_
      have ha : Apart (fun k => k = w.heap.size + 1) (wr.setCell ⟨g, i, none⟩ (.string ⟨d.toArray⟩)) (((wr.setCell ⟨g, i, none⟩ (.string ⟨d.toArray⟩)).setCell ⟨w.heap.size + 1, 0, none⟩ (.string ⟨f.name.toArray⟩)).setCell ⟨w.heap.size + 1, 1, none⟩ (.slice (some ⟨g, 0, none⟩) ps.length c)) :=
        ⟨rfl, rfl, rfl, by simp, fun k _ hk => by rw [heap_setCell_other _ _ _ _ hk, heap_setCell_other _ _ _ _ hk]⟩
      refine ⟨(HW5.out.setCell (p := ⟨w.heap.size + 1, 0, none⟩) (Nat.le_succ _) _).setCell (p := ⟨w.heap.size + 1, 1, none⟩) (Nat.le_succ _) _, _, rfl, ?_⟩
      have h := HS5.out.apart (fun k hk => by rw [World.size_setCell]; exact hk.2) ha (fun k hk => by show ¬ k = _; have := hk.1; omega)
      rw [hseq.out] at h
      exact h.mono (fun k hk => .inr ⟨by have := hk.1; omega, by simp; exact hk.2⟩)

end Go.Proofs.Ytbepanhndpkdhaa.Cd

namespace Go.Proofs.Ytbepanhndpkdhaa.Cd
open Go.RowKit

/-- Writes as cells. -/
def wc : List Wrt → List Value
  | [] => []
  | x :: r => .string ⟨x.name.toArray⟩ :: .int .i64 x.page :: .string ⟨x.data.toArray⟩ :: wc r
theorem wc_length : ∀ l : List Wrt, (wc l).length = l.length * 3
  | [] => rfl
  | x :: r => by simp only [wc, List.length_cons, wc_length r]; omega
theorem wc_append : ∀ a b : List Wrt, wc (a ++ b) = wc a ++ wc b
  | [], _ => rfl
  | x :: r, b => by simp only [List.cons_append, wc, wc_append r b]
theorem wc_one : ∀ l : List Wrt, ∀ u ∈ wc l, u.oneCell' = true
  | [], u, hu => by simp [wc] at hu
  | x :: r, u, hu => by
    simp only [wc, List.mem_cons] at hu
    rcases hu with rfl | rfl | rfl | hu
    · rfl
    · rfl
    · rfl
    · exact wc_one r u hu
theorem wc_at : ∀ (l : List Wrt) (j : Nat) (hj : j < l.length), (wc l)[j * 3]? = some (.string ⟨(l[j]).name.toArray⟩) ∧ (wc l)[j * 3 + 1]? = some (.int .i64 (l[j]).page) ∧ (wc l)[j * 3 + 2]? = some (.string ⟨(l[j]).data.toArray⟩)
  | x :: r, 0, _ => ⟨rfl, rfl, rfl⟩
  | x :: r, j + 1, hj => by
    have := wc_at r j (by simpa using hj)
    rw [show (j + 1) * 3 = j * 3 + 1 + 1 + 1 by omega]
    simpa [wc] using this
  | [], _, hj => by simp at hj

theorem info_write : (Try.prog.info? 100).map (fun i => (i.zero, i.size, i.bytes)) = some (some (.agg #[.string ByteArray.empty, .int .i64 0, .string ByteArray.empty]), 3, 40) := by kernel_rfl

/-- A slice value that reads as writes, in a block of the set T. -/
def Wrts (T : Nat → Prop) (w : World) (v : Value) (l : List Wrt) : Prop :=
  ∃ A c, v = .slice A l.length c ∧ l.length ≤ c ∧ c ≤ maxLen ∧ (A = none → c = 0) ∧ (0 < l.length → ∃ b off, A = some ⟨b, off, none⟩ ∧ T b ∧ ∀ j u, (wc l)[j]? = some u → w.cell? ⟨b, off + j, none⟩ = some u)

section
variable {T T' : Nat → Prop} {w w' : World} {B : Nat} {v : Value} {l : List Wrt}
theorem Wrts.below (h : Wrts T w v l) (hT : ∀ k, T k → k < B) (hb : Below B w w') : Wrts T w' v l := by
  obtain ⟨A, c, h1, h2, h3, h4, h5⟩ := h
  refine ⟨A, c, h1, h2, h3, h4, fun h0 => ?_⟩
  obtain ⟨b, off, e, hB, hc⟩ := h5 h0
  exact ⟨b, off, e, hB, fun j u hu => (hb.cell (p := ⟨b, off + j, none⟩) (hT b hB)).trans (hc j u hu)⟩
theorem Wrts.apart {S : Nat → Prop} (h : Wrts T w v l) (hT : ∀ k, T k → k < w.heap.size) (ha : Apart S w w') (hd : ∀ k, T k → ¬ S k) : Wrts T w' v l := by
  obtain ⟨A, c, h1, h2, h3, h4, h5⟩ := h
  refine ⟨A, c, h1, h2, h3, h4, fun h0 => ?_⟩
  obtain ⟨b, off, e, hB, hc⟩ := h5 h0
  exact ⟨b, off, e, hB, fun j u hu => (ha.cell (p := ⟨b, off + j, none⟩) (hT b hB) (hd b hB)).trans (hc j u hu)⟩
theorem Wrts.mono (h : Wrts T w v l) (hT : ∀ k, T k → T' k) : Wrts T' w v l := by
  obtain ⟨A, c, h1, h2, h3, h4, h5⟩ := h
  refine ⟨A, c, h1, h2, h3, h4, fun h0 => ?_⟩
  obtain ⟨b, off, e, hB, hc⟩ := h5 h0
  exact ⟨b, off, e, hT b hB, hc⟩
theorem Wrts.len (h : Wrts T w v l) : ∃ A c, v = .slice A l.length c ∧ l.length ≤ c ∧ c ≤ 9223372036854775807 := by
  obtain ⟨A, c, h1, h2, h3, _⟩ := h
  exact ⟨A, c, h1, h2, h3⟩
theorem Wrts.nil (T : Nat → Prop) (w : World) : Wrts T w (.slice none 0 0) [] := ⟨none, 0, rfl, by simp, by simp, fun _ => rfl, fun h => by simp at h⟩
theorem Wrts.at {A : Option Addr} {n c : Nat} (h : Wrts T w (.slice A n c) l) {k : Nat} (hk : k < l.length) :
    ∃ b off, A = some ⟨b, off, none⟩ ∧ T b ∧ w.cell? ⟨b, off + k * 3, none⟩ = some (.string ⟨(l[k]).name.toArray⟩) ∧ w.cell? ⟨b, off + k * 3 + 1, none⟩ = some (.int .i64 (l[k]).page) ∧ w.cell? ⟨b, off + k * 3 + 2, none⟩ = some (.string ⟨(l[k]).data.toArray⟩) := by
  obtain ⟨A0, c0, e, _, _, _, h5⟩ := h
  injection e with e1 e2 e3
  obtain ⟨b, off, e, hB, hc⟩ := h5 (by omega)
  obtain ⟨q1, q2, q3⟩ := wc_at l k hk
  exact ⟨b, off, e1.trans e, hB, hc _ _ q1, hc _ _ q2, hc _ _ q3⟩
end

/-- A row of writes of the call's own. -/
def OwnW (w : World) (B : Nat) (v : Value) (l : List Wrt) : Prop := w.ownsRow B 100 3 v l.length (wc l)

section
variable {T : Nat → Prop} {w w' : World} {B : Nat} {v : Value} {l : List Wrt}
theorem OwnW.nil (w : World) (B : Nat) : OwnW w B (.slice none 0 0) [] := World.ownsRow_nil _ _ _ _
theorem OwnW.new (w : World) (B : Nat) (hB : B ≤ w.heap.size) : OwnW (w.alloc (.cells #[] 100)) B (.slice (some ⟨w.heap.size, 0, none⟩) 0 0) [] :=
  World.ownsRow_made (base := B) (e := 100) (size := 3) w #[] 0 hB (by simp) rfl
theorem OwnW.keep (h : OwnW w B v l) (hb : Below w.heap.size w w') : OwnW w' B v l := by
  have hlt := h.lt
  refine ⟨h.1, ?_⟩
  rcases h.2 with h4 | ⟨g, cap, cur, rfl, hg, hh, r⟩
  · exact .inl h4
  · exact .inr ⟨g, cap, cur, rfl, hg, (hb.block g (hlt g rfl).2).trans hh, r⟩
theorem OwnW.wrts (h : OwnW w B v l) : Wrts (fun k => B ≤ k ∧ k < w.heap.size) w v l := by
  have hlt := h.lt
  have hc := fun g hg => h.cells (g := g) hg
  rcases h.2 with ⟨rfl, h0⟩ | ⟨g, cap, cur, rfl, hBg, hg, hn, hm, _, _⟩
  · have : l = [] := List.eq_nil_of_length_eq_zero h0
    subst this
    exact Wrts.nil _ _
  · refine ⟨_, cap, rfl, hn, hm, (fun h => by cases h), fun _ => ⟨g, 0, rfl, ⟨hBg, (hlt g rfl).2⟩, fun j u hu => ?_⟩⟩
    have := hc g rfl j u hu
    rwa [Addr.add_lit] at this

/-- append of writes. -/
theorem run_append_wrts (ho : OwnW w B v l) (hB : B ≤ w.heap.size) (x : Value) (ns : List Wrt) (hx : Wrts T w x ns) (hm : l.length + ns.length ≤ 8388608) (ty : TypeId) :
    ∃ v' w', (Builtin.append_ #[36, 36] ty #[v, x]).run Try.prog w = .ok v' w' ∧ OwnW w' B v' (l ++ ns) ∧ Below B w w' := by
  obtain ⟨i0, hi, hz0, hz1, hz2⟩ := info_parts info_write
  have hmax : l.length + ns.length ≤ maxLen := by simp only [maxLen]; omega
  obtain ⟨A, c, rfl, _, _, h4, h6⟩ := hx
  by_cases h0 : 0 < ns.length
  · obtain ⟨b, off, rfl, _, hc⟩ := h6 h0
    obtain ⟨v', w', hr, h2, h3, _⟩ := run_append_own (P := Try.prog) w B 36 ty 100 i0 _ 3 40 Try.underlying36 hi hz0 hz1 hz2 rfl (by omega) v l.length (wc l) ho ⟨b, off, none⟩ ns.length c (wc ns) (wc_length ns) (fun j u hu => by rw [Addr.add_lit]; exact hc j u hu) (wc_one ns) hmax (by omega) hB
    refine ⟨v', w', hr, ?_, (Below.refl _ _).grown h3 hB (fun k hk => (ho.lt k hk).1)⟩
    unfold OwnW
    rw [wc_append, List.length_append]
    exact h2
  · have hns : ns = [] := List.eq_nil_of_length_eq_zero (by omega)
    subst hns
    cases A with
    | some ad =>
      obtain ⟨v', w', hr, h2, h3, _⟩ := run_append_own (P := Try.prog) w B 36 ty 100 i0 _ 3 40 Try.underlying36 hi hz0 hz1 hz2 rfl (by omega) v l.length (wc l) ho ad 0 c [] rfl (fun j u hu => by simp at hu) (by simp) hmax (by simp at hm ⊢; omega) hB
      refine ⟨v', w', hr, ?_, (Below.refl _ _).grown h3 hB (fun k hk => (ho.lt k hk).1)⟩
      unfold OwnW
      rw [wc_append, List.length_append]
      exact h2
    | none =>
      have hc := h4 rfl
      subst hc
      refine ⟨v, w, ?_, by simpa using ho, Below.refl _ _⟩
      rcases ho.2 with ⟨rfl, h0⟩ | ⟨g, cap, cur, rfl, _, _, hnc, _⟩
      · simp [Builtin.append_, run_underlying Try.underlying36, sizeOf, typeInfo, hi, Builtin.lenOf, Builtin.firstCells]
      · simp [Builtin.append_, run_underlying Try.underlying36, sizeOf, typeInfo, hi, Builtin.lenOf, Builtin.firstCells, hnc, storeCells]

/-- append of writes, for the walk. -/
theorem wp_append_wrts {ops : Array Oper} {rest : List Oper} {o : Oper} {a : Act} {Q : Exit → Act → World → Prop} (hgd : o.guard = none) (s x : Operand)
    (hop : o.op = .call { callee := .builtin .append, args := #[s, x], argTypes := #[36, 36] })
    (hs : a.eval s = v) (ho : OwnW w B v l) (hB : B ≤ w.heap.size) (y : Value) (ns : List Wrt) (hx : a.eval x = y) (hy : Wrts T w y ns) (hm : l.length + ns.length ≤ 8388608)
    (hK : ∀ v' w', OwnW w' B v' (l ++ ns) → Below B w w' → wpList Try.prog ops Q rest (a.put o.dst v') w') : wpList Try.prog ops Q (o :: rest) a w := by
  refine wpList_plain hgd fun K hK' => ?_
  obtain ⟨v', w', hrun, r1, r2⟩ := run_append_wrts ho hB y ns hy hm o.type
  unfold Oper.wp
  simp [execOp, hop, resolve, invoke, builtin, hs, hx, hrun, Result.andThen]
  exact hK' _ _ (hK v' w' r1 r2)

/-- One write, laid a moment ago. -/
theorem wrts_one (W : World) (x : Wrt) (g : Nat) (hg : W.heap[g]? = some (.cells #[.string ⟨x.name.toArray⟩, .int .i64 x.page, .string ⟨x.data.toArray⟩] 100)) : Wrts (fun k => k = g) W (.slice (some ⟨g, 0, none⟩) 1 1) [x] :=
  ⟨_, 1, rfl, by simp, by simp [maxLen], (fun h => by cases h), fun _ => ⟨g, 0, rfl, rfl, fun j u hu => by
    rw [Nat.zero_add, cell_of_row _ _ _ _ _ _ hg, List.getElem?_toArray]
    exact hu⟩⟩
end

end Go.Proofs.Ytbepanhndpkdhaa.Cd

namespace Go.Proofs.Ytbepanhndpkdhaa.Cd
open Go.RowKit

/-- The disk's cells. -/
def rcells (D : Dsk) (vn vs vw : Value) : Array Value := #[vn, vs, vw, .int .i64 D.room, .bool D.off, .int .i64 D.acts, .int .i64 D.fuse, .int .u64 D.keep]

/-- The document's disk D lies at g, its lists in the blocks of T. -/
structure RefC (w : World) (g : Nat) (T : Nat → Prop) (D : Dsk) (vn vs vw : Value) : Prop where
  row : w.heap[g]? = some (.cells (rcells D vn vs vw) 38 (0, 0))
  out : ¬ T g
  lt : ∀ k, T k → k < w.heap.size
  now : Fils T w vn D.now
  safe : Fils T w vs D.safe
  waits : Wrts T w vw D.waits
def RefR (w : World) (g : Nat) (T : Nat → Prop) (D : Dsk) : Prop := ∃ vn vs vw, RefC w g T D vn vs vw

/-- What a call leaves that makes the disk another one and answers v. -/
def MakesR (g : Nat) (T : Nat → Prop) (D : Dsk) (v : Value) (w : World) (e : Ending) (w' : World) : Prop := e = .returned v ∧ RefR w' g (since T w w') D ∧ Apart (fun k => T k ∨ k = g) w w'

section
variable {w w' : World} {g : Nat} {T : Nat → Prop} {D : Dsk} {vn vs vw : Value}
theorem RefC.glt (h : RefC w g T D vn vs vw) : g < w.heap.size := (Array.getElem?_eq_some_iff.1 h.row).1
theorem RefC.below (h : RefC w g T D vn vs vw) (hb : Below w.heap.size w w') : RefC w' g T D vn vs vw :=
  ⟨(hb.block g h.glt).trans h.row, h.out, fun k hk => Nat.lt_of_lt_of_le (h.lt k hk) hb.size, h.now.below h.lt hb, h.safe.below h.lt hb, h.waits.below h.lt hb⟩
theorem RefC.apart {S : Nat → Prop} (h : RefC w g T D vn vs vw) (ha : Apart S w w') (hg : ¬ S g) (hd : ∀ k, T k → ¬ S k) : RefC w' g T D vn vs vw :=
  ⟨(ha.block g h.glt hg).trans h.row, h.out, fun k hk => Nat.lt_of_lt_of_le (h.lt k hk) ha.size, h.now.apart h.lt ha hd, h.safe.apart h.lt ha hd, h.waits.apart h.lt ha hd⟩
theorem RefR.below (h : RefR w g T D) (hb : Below w.heap.size w w') : RefR w' g T D := by
  obtain ⟨a, b, c, h⟩ := h
  exact ⟨a, b, c, h.below hb⟩
theorem RefR.apart {S : Nat → Prop} (h : RefR w g T D) (ha : Apart S w w') (hg : ¬ S g) (hd : ∀ k, T k → ¬ S k) : RefR w' g T D := by
  obtain ⟨a, b, c, h⟩ := h
  exact ⟨a, b, c, h.apart ha hg hd⟩
theorem RefC.frozen (h : RefC w g T D vn vs vw) (i : Nat) : w.frozen? ⟨g, i, none⟩ = false := by simp [World.frozen?, h.row]
theorem RefC.mono {T' : Nat → Prop} (h : RefC w g T D vn vs vw) (hT : ∀ k, T k → T' k) (hlt : ∀ k, T' k → k < w.heap.size) (hg : ¬ T' g) : RefC w g T' D vn vs vw :=
  ⟨h.row, hg, hlt, h.now.mono hT, h.safe.mono hT, h.waits.mono hT⟩
/-- A cell of the disk's own is written. -/
theorem RefC.poke {D' : Dsk} {vn' vs' vw' : Value} (h : RefC w g T D vn vs vw) (i : Nat) (u : Value) (hc : (rcells D vn vs vw).setIfInBounds i u = rcells D' vn' vs' vw') (h1 : Fils T w vn' D'.now) (h2 : Fils T w vs' D'.safe) (h3 : Wrts T w vw' D'.waits) :
    RefC (w.setCell ⟨g, i, none⟩ u) g T D' vn' vs' vw' := by
  have ha : Apart (fun k => k = g) w (w.setCell ⟨g, i, none⟩ u) := ⟨rfl, rfl, rfl, by simp, fun k _ hk => heap_setCell_other _ _ _ _ hk⟩
  have hd : ∀ k, T k → ¬ k = g := fun k hk e => h.out (by rw [← e]; exact hk)
  refine ⟨?_, h.out, fun k hk => by rw [World.size_setCell]; exact h.lt k hk, h1.apart h.lt ha hd, h2.apart h.lt ha hd, h3.apart h.lt ha hd⟩
  rw [← hc]
  simp [World.setCell, Array.getElem?_modify, h.row]
theorem apart_poke (w : World) (g i : Nat) (u : Value) (T : Nat → Prop) : Apart (fun k => T k ∨ k = g) w (w.setCell ⟨g, i, none⟩ u) := ⟨rfl, rfl, rfl, by simp, fun k _ hk => heap_setCell_other _ _ _ _ (fun e => hk (.inr e))⟩
end

set_option maxRecDepth 100000 in
theorem rnew_any (room : Int) (w : World) (h1 : -9223372036854775808 ≤ room) (h2 : room ≤ 9223372036854775807) :
    Calls Try.prog 13 #[.int .i64 room] w (fun e w' => ∃ g, e = .returned (.pointer (some ⟨g, 0, none⟩)) ∧ RefR w' g (fun _ => False) (newD room) ∧ w.heap.size ≤ g ∧ Below w.heap.size w w') := by
  have fin : ∀ r : Int, r = (newD room).room → ∀ W, W = w.alloc (.cells #[.slice none 0 0, .slice none 0 0, .slice none 0 0, .int .i64 r, .bool false, .int .i64 0, .int .i64 0, .int .u64 0] 38) →
      ∃ g, (Ending.returned (.pointer (some ⟨w.heap.size, 0, none⟩)) = .returned (.pointer (some ⟨g, 0, none⟩))) ∧ RefR W g (fun _ => False) (newD room) ∧ w.heap.size ≤ g ∧ Below w.heap.size w W := by
    intro r hr W hW
    subst hW
    refine ⟨_, rfl, ⟨_, _, _, ⟨?_, fun h => h, fun k hk => hk.elim, Fils.nil _ _, Fils.nil _ _, Wrts.nil _ _⟩⟩, Nat.le_refl _, (Below.refl _ _).alloc (Nat.le_refl _) _⟩
    rw [heap_alloc_new]
    rw [hr]
    rfl
  by_cases c1 : room < 0
  · go_enter Try.func13, Try.ntmps13
    go_wp2_with fail
    go_ret
    exact fin _ (by unfold newD; simp only [if_pos c1]; rfl) _ rfl
  · by_cases c2 : 4096 < room
    · go_enter Try.func13, Try.ntmps13
      go_wp2_with fail
      go_ret
      exact fin _ (by unfold newD; simp only [if_neg (show ¬ room < 0 by omega), if_pos c2]; rfl) _ rfl
    · go_enter Try.func13, Try.ntmps13
      go_wp2_with fail
      go_ret
      exact fin _ (by unfold newD; simp only [if_neg (show ¬ room < 0 by omega), if_neg (show ¬ 4096 < room by omega)]; omega) _ rfl

set_option maxRecDepth 100000 in
theorem ract_any (g : Nat) (T : Nat → Prop) (D : Dsk) (w : World) (h : RefR w g T D) (ha : D.acts < 9223372036854775807) (hf : D.fuse ≤ 9223372036854775807) :
    Calls Try.prog 59 #[.pointer (some ⟨g, 0, none⟩)] w (fun e w' => e = .returned (.bool (decide (D.fuse = 1))) ∧ RefR w' g T (actD D) ∧ Apart (fun k => T k ∨ k = g) w w' ∧ w'.heap.size = w.heap.size) := by
  obtain ⟨vn, vs, vw, h⟩ := h
  have c5 : w.cell? ⟨g, 5, none⟩ = some (.int .i64 D.acts) := cell_of_row _ _ _ _ _ _ h.row
  have c6 : w.cell? ⟨g, 6, none⟩ = some (.int .i64 D.fuse) := cell_of_row _ _ _ _ _ _ h.row
  have f5 := h.frozen 5
  have f6 := h.frozen 6
  have ha' : (D.acts : Int) + 1 ≤ 9223372036854775807 := by omega
  have H := Lib.hid h
  clear h
  by_cases h0 : D.fuse = 0
  · have hq : ((D.fuse : Int) == 0) = true := by rw [h0]; rfl
    go_enter Try.func59, Try.ntmps59
    go_wp2_with fail
    go_ret
    refine ⟨by rw [h0]; rfl, ⟨vn, vs, vw, H.out.poke 5 _ ?_ H.out.now H.out.safe H.out.waits⟩, apart_poke _ _ _ _ _, by simp⟩
    simp [rcells, actD, h0]
  · have hq : ((D.fuse : Int) == 0) = false := beq_eq_false_iff_ne.2 (by omega)
    have hw : IntKind.i64.wrap ((D.fuse : Int) - 1) = (D.fuse : Int) - 1 := by rw [IntKind.wrap_i64]; omega
    have hfi : (D.fuse : Int) ≤ 9223372036854775807 := by omega
    have hf1 : (1 : Int) ≤ D.fuse := by omega
    have H5 := Lib.hid (H.out.poke (D' := { D with acts := D.acts + 1 }) 5 (.int .i64 ((D.acts : Int) + 1)) (by simp [rcells]) H.out.now H.out.safe H.out.waits)
    have H6 := Lib.hid (H5.out.poke (D' := actD D) 6 (.int .i64 ((D.fuse : Int) - 1)) (by simp [rcells, actD]; omega) (H5.out.now) (H5.out.safe) (H5.out.waits))
    have d6 : (w.setCell ⟨g, 5, none⟩ (.int .i64 ((D.acts : Int) + 1))).cell? ⟨g, 6, none⟩ = some (.int .i64 D.fuse) := cell_of_row _ _ _ _ _ _ H5.out.row
    have g6 := H5.out.frozen 6
    have e6 : ((w.setCell ⟨g, 5, none⟩ (.int .i64 ((D.acts : Int) + 1))).setCell ⟨g, 6, none⟩ (.int .i64 ((D.fuse : Int) - 1))).cell? ⟨g, 6, none⟩ = some (.int .i64 ((D.fuse : Int) - 1)) := by
      have := cell_of_row _ g 6 _ _ _ H6.out.row
      rw [this]
      simp [rcells, actD]
      omega
    have ha5 : Hid (Apart (fun k => T k ∨ k = g) w ((w.setCell ⟨g, 5, none⟩ (.int .i64 ((D.acts : Int) + 1))).setCell ⟨g, 6, none⟩ (.int .i64 ((D.fuse : Int) - 1)))) :=
      ⟨rfl, rfl, rfl, by simp, fun k _ hk => by rw [heap_setCell_other _ _ _ _ (fun e => hk (.inr e)), heap_setCell_other _ _ _ _ (fun e => hk (.inr e))]⟩
    have hqq : ((D.fuse : Int) - 1 == 0) = decide (D.fuse = 1) := by
      by_cases e : D.fuse = 1
      · rw [decide_eq_true e]; exact beq_iff_eq.2 (by omega)
      · rw [decide_eq_false e]; exact beq_eq_false_iff_ne.2 (by omega)
    clear ha'
    have ha' : (D.acts : Int) + 1 ≤ 9223372036854775807 := by omega
    go_enter Try.func59, Try.ntmps59
    go_wp2_with fail
    go_ret
    first
      | exact ⟨rfl, ⟨vn, vs, vw, H6.out⟩, ha5.out, by simp⟩
      | (refine ⟨?_, ⟨vn, vs, vw, H6.out⟩, ha5.out, by simp⟩; simp [← hqq])

end Go.Proofs.Ytbepanhndpkdhaa.Cd

namespace Go.Proofs.Ytbepanhndpkdhaa.Cd
open Go.RowKit

set_option maxRecDepth 100000 in
theorem rarm_any (g : Nat) (T : Nat → Prop) (D : Dsk) (n : Int) (k : Nat) (w : World) (h : RefR w g T D) (hn : n ≤ 9223372036854775807) :
    Calls Try.prog 40 #[.pointer (some ⟨g, 0, none⟩), .int .i64 n, .int .u64 k] w (MakesR g T (armD D n k) (.tuple #[]) w) := by
  obtain ⟨vn, vs, vw, h⟩ := h
  have c6 : w.cell? ⟨g, 6, none⟩ = some (.int .i64 D.fuse) := cell_of_row _ _ _ _ _ _ h.row
  have f6 := h.frozen 6
  have H1 := Lib.hid (h.poke (D' := { D with fuse := 0 }) 6 (.int .i64 0) (by simp [rcells]) h.now h.safe h.waits)
  have c61 : (w.setCell ⟨g, 6, none⟩ (.int .i64 0)).cell? ⟨g, 6, none⟩ = some (.int .i64 0) := cell_of_row _ _ _ _ _ _ H1.out.row
  have c71 : (w.setCell ⟨g, 6, none⟩ (.int .i64 0)).cell? ⟨g, 7, none⟩ = some (.int .u64 D.keep) := cell_of_row _ _ _ _ _ _ H1.out.row
  have f61 := H1.out.frozen 6
  have f71 := H1.out.frozen 7
  have H := Lib.hid h
  clear h
  by_cases h0 : 0 < n
  · have H2 := Lib.hid (H1.out.poke (D' := { D with fuse := n.toNat }) 6 (.int .i64 n) (by simp [rcells]; omega) H1.out.now H1.out.safe H1.out.waits)
    have c72 : ((w.setCell ⟨g, 6, none⟩ (.int .i64 0)).setCell ⟨g, 6, none⟩ (.int .i64 n)).cell? ⟨g, 7, none⟩ = some (.int .u64 D.keep) := cell_of_row _ _ _ _ _ _ H2.out.row
    have f72 := H2.out.frozen 7
    have H3 := Lib.hid (H2.out.poke (D' := armD D n k) 7 (.int .u64 k) (by simp [rcells, armD]) H2.out.now H2.out.safe H2.out.waits)
    go_enter Try.func40, Try.ntmps40
    go_wp2_with fail
    go_end0
    exact ⟨rfl, ⟨vn, vs, vw, H3.out.mono (fun _ h => .inl h) (fun j hj => hj.elim (H3.out.lt j) (fun e => by simpa using e.2)) (fun e => e.elim H.out.out (fun e => by have := H.out.glt; have := e.1; omega))⟩,
      ⟨rfl, rfl, rfl, by simp, fun j _ hj => by rw [heap_setCell_other _ _ _ _ (fun e => hj (.inr e)), heap_setCell_other _ _ _ _ (fun e => hj (.inr e)), heap_setCell_other _ _ _ _ (fun e => hj (.inr e))]⟩⟩
  · have H3 := Lib.hid (H1.out.poke (D' := armD D n k) 7 (.int .u64 k) (by simp [rcells, armD]; omega) H1.out.now H1.out.safe H1.out.waits)
    go_enter Try.func40, Try.ntmps40
    go_wp2_with fail
    go_end0
    exact ⟨rfl, ⟨vn, vs, vw, H3.out.mono (fun _ h => .inl h) (fun j hj => hj.elim (H3.out.lt j) (fun e => by simpa using e.2)) (fun e => e.elim H.out.out (fun e => by have := H.out.glt; have := e.1; omega))⟩,
      ⟨rfl, rfl, rfl, by simp, fun j _ hj => by rw [heap_setCell_other _ _ _ _ (fun e => hj (.inr e)), heap_setCell_other _ _ _ _ (fun e => hj (.inr e))]⟩⟩

theorem count_take {l : List Fil} {k : Nat} (hk : k < l.length) : count (l.take (k + 1)) = count (l.take k) + (l[k]).pages.length := by
  rw [List.take_succ_eq_append_getElem hk, count_append]
  rfl
theorem count_take_le (l : List Fil) (k : Nat) : count (l.take k) ≤ count l := by
  have := count_append (l.take k) (l.drop k)
  rw [List.take_append_drop] at this
  omega

set_option maxRecDepth 100000 in
set_option maxHeartbeats 800000 in
theorem rfree_any (g : Nat) (T : Nat → Prop) (D : Dsk) (w : World) (h : RefR w g T D) (hr : D.room ≤ 4096) (hc : count D.now ≤ 1048576) (hl : D.now.length ≤ 1048576) :
    Calls Try.prog 42 #[.pointer (some ⟨g, 0, none⟩)] w (Gives (.int .i64 (freeD D)) w) := by
  obtain ⟨vn, vs, vw, h⟩ := h
  obtain ⟨A, c, rfl, hlc, hm⟩ := h.now.len
  have c0 : w.cell? ⟨g, 0, none⟩ = some (.slice A D.now.length c) := cell_of_row _ _ _ _ _ _ h.row
  have c3 : w.cell? ⟨g, 3, none⟩ = some (.int .i64 D.room) := cell_of_row _ _ _ _ _ _ h.row
  have H := Lib.hid h
  have hl' : (D.now.length : Int) ≤ 1048576 := by omega
  have hr' : (D.room : Int) ≤ 4096 := by omega
  clear h
  go_enter Try.func42, Try.ntmps42
  go_wp2_with fail
  go_loopw [15, 3] (fun i n wr => ∃ (k : Nat) (z : Int), i = .int .i64 k ∧ n = .int .i64 z ∧ k ≤ D.now.length ∧ z ≤ 4096 ∧ -1048576 ≤ z ∧ Hid (z = (D.room : Int) - count (D.now.take k)) ∧ Hid (Below w.heap.size w wr)) (fun i _ _ => D.now.length - (intOf i).toNat)
  case atStart => exact ⟨0, D.room, rfl, rfl, by omega, by omega, by omega, (by unfold Hid; simp [count]), Below.refl _ _⟩
  case round =>
    obtain ⟨k, z, rfl, rfl, hk, hz1, hz2, hz, hB⟩ := hrel
    by_cases hlt : k < D.now.length
    · have hlt' : (k : Int) < D.now.length := by omega
      obtain ⟨b, off, A', c', hA, hb, hc1, hc2, hst⟩ := (H.out.now.below H.out.lt hB.out).at hlt
      have hct := count_take hlt
      have hct2 := count_take_le D.now (k + 1)
      generalize D.now[k] = f at *
      subst hA
      have hz3 := hz.out
      have hw : IntKind.i64.wrap (z - (f.pages.length : Int)) = z - (f.pages.length : Int) := by rw [IntKind.wrap_i64]; omega
      have HN : Hid (z - (f.pages.length : Int) = (D.room : Int) - count (D.now.take (k + 1)) ∧ -1048576 ≤ z - (f.pages.length : Int)) := ⟨by omega, by omega⟩
      clear hct hct2 hst hz3
      go_wp2_with fail
      go_roundw
      case rel => exact ⟨k + 1, z - (f.pages.length : Int), by go_num, rfl, by omega, by omega, HN.out.2, HN.out.1, hB.out.alloc hB.out.size _⟩
      case measure => simp [intOf]; omega
    · have hlt' : (D.now.length : Int) ≤ k := by omega
      obtain rfl : k = D.now.length := by omega
      have hz3 := hz.out
      rw [List.take_length] at hz3
      have HZ := Lib.hid hz3
      clear hz3 hz
      go_wp2_with fail
      go_ret
      exact ⟨by rw [HZ.out]; rfl, hB.out⟩

set_option maxRecDepth 100000 in
set_option maxHeartbeats 800000 in
theorem short_any (T : Nat → Prop) (y : Value) (f : Fil) (n : Nat) (w : World) (hT : ∀ k, T k → k < w.heap.size) (hy : StrsT T w y f.pages) (hn : (n : Int) ≤ 9223372036854775807) (hp : f.pages.length ≤ 1048576) :
    Calls Try.prog 64 #[.agg #[.string ⟨f.name.toArray⟩, y], .int .i64 n] w (GivesFil T ⟨f.name, f.pages.take n⟩ w) := by
  obtain ⟨Ay, cy, rfl, hcy, hmy⟩ := hy.len
  have HY := Lib.hid hy
  have HT := Lib.hid hT
  clear hy hT
  by_cases hlt : n < f.pages.length
  · obtain ⟨b, off, cy', hv, hcy', hmy', hTb, hcells⟩ := HY.out.at (by omega)
    injection hv with hv1 _ hv3
    subst hv1 hv3
    have hlt' : (n : Int) < f.pages.length := by omega
    have hncy : (n : Int) ≤ cy := by omega
    have HB0 : Hid (Below w.heap.size w (((w.alloc (.cells #[.string ⟨f.name.toArray⟩, .slice (some ⟨b, off, none⟩) f.pages.length cy] 41)).alloc (.cells #[.string ⟨#[]⟩, .slice none 0 0] 41)).alloc (.cells #[] 9))) := (((Below.refl _ _).alloc (Nat.le_refl _) _).alloc (by simp) _).alloc (by simp; omega) _
    have hown := owns_new ((w.alloc (.cells #[.string ⟨f.name.toArray⟩, .slice (some ⟨b, off, none⟩) f.pages.length cy] 41)).alloc (.cells #[.string ⟨#[]⟩, .slice none 0 0] 41)) (w.heap.size + 2) (by simp)
    rw [show ((w.alloc (.cells #[.string ⟨f.name.toArray⟩, .slice (some ⟨b, off, none⟩) f.pages.length cy] 41)).alloc (.cells #[.string ⟨#[]⟩, .slice none 0 0] 41)).heap.size = w.heap.size + 1 + 1 by simp] at hown
    have HOWN := Lib.hid hown
    have HST : Hid (Strs w w.heap.size (.slice (some ⟨b, off, none⟩) n cy) (f.pages.take n)) := (HY.out.strs HT.out).take n (by omega)
    have hl : (f.pages.take n).length = n := by rw [List.length_take]; omega
    clear hown hcells
    go_enter Try.func64, Try.ntmps64
    go_wp2_with (at_builtin; refine wp_append_strs rfl _ _ rfl (w.heap.size + 2) _ [] rfl HOWN.out (by simp) _ _ (f.pages.take n) rfl (HST.out.below HB0.out) (by simp; omega) ?_)
    intro pv w4 ho4 hb4
    have ho4 : OwnS w4 (w.heap.size + 2) pv (f.pages.take n) := ho4
    have hz4 := hb4.size
    simp at hz4
    have hbox4 : w4.heap[w.heap.size]? = some (.cells #[.string ⟨f.name.toArray⟩, .slice (some ⟨b, off, none⟩) f.pages.length cy] 41) := (hb4.block _ (by omega)).trans (row_third _ _ _ _)
    have hres4 : w4.heap[w.heap.size + 1]? = some (.cells #[.string ⟨#[]⟩, .slice none 0 0] 41) := (hb4.block _ (by omega)).trans (row_third2 _ _ _ _)
    have HW4 : Hid (Below w.heap.size w w4) := HB0.out.trans (hb4.mono (by omega))
    have HST4 : Hid (StrsT (fun k => w.heap.size + 2 ≤ k ∧ k < w4.heap.size) w4 pv (f.pages.take n)) := ho4.strsT (fun g hg => ⟨(ho4.lt g hg).1, (ho4.lt g hg).2⟩)
    obtain ⟨A4, c4, rfl, hc4, hm4⟩ := ho4.strs.len
    rw [hl] at HST4 ⊢
    have p1 : w4.cell? ⟨w.heap.size, 1, none⟩ = some (.slice (some ⟨b, off, none⟩) f.pages.length cy) := cell_of_row _ _ _ _ _ _ hbox4
    have pf : w4.frozen? ⟨w.heap.size, 1, none⟩ = false := by simp [World.frozen?, hbox4]
    have hbox5 : (w4.setCell ⟨w.heap.size, 1, none⟩ (.slice A4 n c4)).heap[w.heap.size]? = some (.cells #[.string ⟨f.name.toArray⟩, .slice A4 n c4] 41) := by simp [World.setCell, Array.getElem?_modify, hbox4]
    have hres5 : Hid ((w4.setCell ⟨w.heap.size, 1, none⟩ (.slice A4 n c4)).heap[w.heap.size + 1]? = some (.cells #[.string ⟨#[]⟩, .slice none 0 0] 41)) := (heap_setCell_other _ _ _ _ (by show w.heap.size + 1 ≠ w.heap.size; omega)).trans hres4
    have q0 : (w4.setCell ⟨w.heap.size, 1, none⟩ (.slice A4 n c4)).cell? ⟨w.heap.size, 0, none⟩ = some (.string ⟨f.name.toArray⟩) := cell_of_row _ _ _ _ _ _ hbox5
    have q1 : (w4.setCell ⟨w.heap.size, 1, none⟩ (.slice A4 n c4)).cell? ⟨w.heap.size, 1, none⟩ = some (.slice A4 n c4) := cell_of_row _ _ _ _ _ _ hbox5
    have r0 : (w4.setCell ⟨w.heap.size, 1, none⟩ (.slice A4 n c4)).cell? ⟨w.heap.size + 1, 0, none⟩ = some (.string ⟨#[]⟩) := cell_of_row _ _ _ _ _ _ hres5.out
    have r1 : (w4.setCell ⟨w.heap.size, 1, none⟩ (.slice A4 n c4)).cell? ⟨w.heap.size + 1, 1, none⟩ = some (.slice none 0 0) := cell_of_row _ _ _ _ _ _ hres5.out
    have f0 : (w4.setCell ⟨w.heap.size, 1, none⟩ (.slice A4 n c4)).frozen? ⟨w.heap.size + 1, 0, none⟩ = false := by simp only [World.frozen?, hres5.out]; rfl
    have f1 : (w4.setCell ⟨w.heap.size, 1, none⟩ (.slice A4 n c4)).frozen? ⟨w.heap.size + 1, 1, none⟩ = false := by simp only [World.frozen?, hres5.out]; rfl
    have HW5 : Hid (Below w.heap.size w (w4.setCell ⟨w.heap.size, 1, none⟩ (.slice A4 n c4))) := HW4.out.setCell (p := ⟨w.heap.size, 1, none⟩) (Nat.le_refl _) _
    clear ho4 hb4 HOWN HB0 hbox4 hres4 hbox5 hl
    go_wp2_with fail
    refine bodyPost_ret (result_file rfl _ _ (w.heap.size + 1) _ _ _ rfl (file_row hres5.out)) rfl ?_
    refine ⟨(HW5.out.setCell (p := ⟨w.heap.size + 1, 0, none⟩) (Nat.le_succ _) _).setCell (p := ⟨w.heap.size + 1, 1, none⟩) (Nat.le_succ _) _, _, rfl, ?_⟩
    have ha : Apart (fun k => k < w.heap.size + 2) w4 (((w4.setCell ⟨w.heap.size, 1, none⟩ (.slice A4 n c4)).setCell ⟨w.heap.size + 1, 0, none⟩ (.string ⟨f.name.toArray⟩)).setCell ⟨w.heap.size + 1, 1, none⟩ (.slice A4 n c4)) :=
      ⟨rfl, rfl, rfl, by simp, fun k _ hk => by
        rw [heap_setCell_other _ _ _ _ (by show k ≠ w.heap.size + 1; omega), heap_setCell_other _ _ _ _ (by show k ≠ w.heap.size + 1; omega), heap_setCell_other _ _ _ _ (by show k ≠ w.heap.size; omega)]⟩
    have h := HST4.out.apart (fun k hk => hk.2) ha (fun k hk => by have := hk.1; omega)
    exact h.mono (fun k hk => .inr ⟨by have := hk.1; omega, by simp; exact hk.2⟩)
  · have hlt' : (f.pages.length : Int) ≤ n := by omega
    have htk : f.pages.take n = f.pages := List.take_of_length_le (by omega)
    rw [htk]
    clear htk
    have hres : Hid (((w.alloc (.cells #[.string ⟨f.name.toArray⟩, .slice Ay f.pages.length cy] 41)).alloc (.cells #[.string ⟨f.name.toArray⟩, .slice Ay f.pages.length cy] 41)).heap[w.heap.size + 1]? = some (.cells #[.string ⟨f.name.toArray⟩, .slice Ay f.pages.length cy] 41)) := row_second _ _ _
    have HB2 : Hid (Below w.heap.size w ((w.alloc (.cells #[.string ⟨f.name.toArray⟩, .slice Ay f.pages.length cy] 41)).alloc (.cells #[.string ⟨f.name.toArray⟩, .slice Ay f.pages.length cy] 41))) := ((Below.refl _ _).alloc (Nat.le_refl _) _).alloc (by simp) _
    go_enter Try.func64, Try.ntmps64
    go_wp2_with fail
    refine bodyPost_ret (result_file rfl _ _ (w.heap.size + 1) _ _ _ rfl hres.out) rfl ?_
    exact ⟨HB2.out, _, rfl, (HY.out.below HT.out HB2.out).mono (fun k hk => .inl hk)⟩

end Go.Proofs.Ytbepanhndpkdhaa.Cd

namespace Go.Proofs.Ytbepanhndpkdhaa.Cd
open Go.RowKit

set_option maxRecDepth 100000 in
set_option maxHeartbeats 1600000 in
theorem rnames_any (g : Nat) (T : Nat → Prop) (D : Dsk) (w : World) (h : RefR w g T D) (hl : D.now.length ≤ 1048576) :
    Calls Try.prog 41 #[.pointer (some ⟨g, 0, none⟩)] w (fun e w' => Below w.heap.size w w' ∧ ∃ y, e = .returned y ∧ Strs w' w'.heap.size y (namesD D)) := by
  obtain ⟨vn, vs, vw, h⟩ := h
  obtain ⟨A, c, rfl, hlc, hm⟩ := h.now.len
  have c0 : w.cell? ⟨g, 0, none⟩ = some (.slice A D.now.length c) := cell_of_row _ _ _ _ _ _ h.row
  have c4 : w.cell? ⟨g, 4, none⟩ = some (.bool D.off) := cell_of_row _ _ _ _ _ _ h.row
  have H := Lib.hid h
  have hl' : (D.now.length : Int) ≤ 1048576 := by omega
  clear h
  cases hoff : D.off
  · have hn : Hid (namesD D = D.now.map Fil.name) := by unfold Hid namesD; rw [if_neg (by rw [hoff]; simp)]
    rw [hoff] at c4
    clear hoff
    go_enter Try.func41, Try.ntmps41
    go_wp2_with fail
    go_loopw [15, 3] (fun i vo wr => ∃ k : Nat, i = .int .i64 k ∧ k ≤ D.now.length ∧ Hid (OwnS wr w.heap.size vo ((D.now.take k).map Fil.name)) ∧ Hid (Below w.heap.size w wr)) (fun i _ _ => D.now.length - (intOf i).toNat)
    case atStart => exact ⟨0, rfl, by omega, OwnS.nil _ _, Below.refl _ _⟩
    case round =>
      obtain ⟨k, rfl, hk, ho, hB⟩ := hrel
      have hz := hB.out.size
      by_cases hlt : k < D.now.length
      · have hlt' : (k : Int) < D.now.length := by omega
        obtain ⟨b, off, A', c', hA, hb, hc1, hc2, hst⟩ := (H.out.now.below H.out.lt hB.out).at hlt
        have htk := List.take_succ_eq_append_getElem hlt
        generalize D.now[k] = f at *
        subst hA
        have HTK : Hid ((D.now.take (k + 1)).map Fil.name = (D.now.take k).map Fil.name ++ [f.name]) := by unfold Hid; rw [htk, List.map_append]; rfl
        have HB2 : Hid (Below wr.heap.size wr ((wr.alloc (.cells #[.string ⟨f.name.toArray⟩, .slice A' f.pages.length c'] 41)).alloc (.cells #[.string ⟨f.name.toArray⟩] 9))) := ((Below.refl _ _).alloc (Nat.le_refl _) _).alloc (by simp) _
        have HS2 : Hid (Strs ((wr.alloc (.cells #[.string ⟨f.name.toArray⟩, .slice A' f.pages.length c'] 41)).alloc (.cells #[.string ⟨f.name.toArray⟩] 9)) (wr.heap.size + 1 + 1) (.slice (some ⟨wr.heap.size + 1, 0, none⟩) 1 1) [f.name]) := by
          have h := strs_one (wr.alloc (.cells #[.string ⟨f.name.toArray⟩, .slice A' f.pages.length c'] 41)) f.name 9
          rw [World.size_alloc] at h
          exact h
        clear hst htk
        go_wp2_with (at_builtin; refine wp_append_strs rfl _ _ rfl w.heap.size _ ((D.now.take k).map Fil.name) rfl (ho.out.keep HB2.out) (by simp; omega) _ _ [f.name] rfl HS2.out (by simp; omega) ?_)
        intro pv2 w5 ho5 hb5
        have HO5 := Lib.hid ho5
        have HB5 := Lib.hid hb5
        clear ho5 hb5
        go_wp2_with fail
        go_roundw
        case rel => exact ⟨k + 1, by go_num, by omega, by unfold Hid; rw [HTK.out, List.map_take]; exact HO5.out, (hB.out.trans (HB2.out.mono hz)).trans HB5.out⟩
        case measure => simp [intOf]; omega
      · have hlt' : (D.now.length : Int) ≤ k := by omega
        obtain rfl : k = D.now.length := by omega
        have ho2 := ho.out
        rw [List.take_length, ← hn.out] at ho2
        have HS := Lib.hid ho2.strs
        clear ho ho2
        go_wp2_with fail
        go_ret
        exact ⟨hB.out, _, rfl, HS.out⟩
  · have hn : namesD D = [] := by unfold namesD; rw [if_pos hoff]
    rw [hn]
    rw [hoff] at c4
    clear hoff hn
    go_enter Try.func41, Try.ntmps41
    go_wp2_with fail
    go_ret
    exact ⟨Below.refl _ _, _, rfl, (OwnS.nil w w.heap.size).strs⟩

theorem dropW_take {l : List Wrt} {n : List UInt8} {m k : Nat} (hk : k < l.length) : dropW (l.take (k + 1)) n m = dropW (l.take k) n m ++ (if (l[k]).name ≠ n ∨ (l[k]).page < m then [l[k]] else []) := by
  unfold dropW
  rw [List.take_succ_eq_append_getElem hk, List.filter_append]
  congr 1
  by_cases e : (l[k]).name ≠ n ∨ (l[k]).page < m
  · rw [if_pos e, List.filter_cons_of_pos (by simpa using e)]; rfl
  · rw [if_neg e, List.filter_cons_of_neg (by simpa using e)]; rfl

set_option maxRecDepth 100000 in
set_option maxHeartbeats 3200000 in
theorem rdrop_any (g : Nat) (T : Nat → Prop) (D : Dsk) (n : List UInt8) (m : Nat) (w : World) (h : RefR w g T D) (hl : D.waits.length ≤ 1048576) (hp : ∀ x ∈ D.waits, x.page ≤ 1048576) (_hm : (m : Int) ≤ 9223372036854775807) :
    Calls Try.prog 63 #[.pointer (some ⟨g, 0, none⟩), .string ⟨n.toArray⟩, .int .i64 m] w (MakesR g T { D with waits := dropW D.waits n m } (.tuple #[]) w) := by
  obtain ⟨vn, vs, vw, h⟩ := h
  obtain ⟨A, c, rfl, hlc, hm'⟩ := h.waits.len
  have c2 : w.cell? ⟨g, 2, none⟩ = some (.slice A D.waits.length c) := cell_of_row _ _ _ _ _ _ h.row
  have H := Lib.hid h
  have HP := Lib.hid hp
  have hl' : (D.waits.length : Int) ≤ 1048576 := by omega
  clear h hp
  go_enter Try.func63, Try.ntmps63
  go_wp2_with fail
  go_loopw [14, 6] (fun i vo wr => ∃ k : Nat, i = .int .i64 k ∧ k ≤ D.waits.length ∧ Hid (OwnW wr w.heap.size vo (dropW (D.waits.take k) n m)) ∧ Hid (Below w.heap.size w wr)) (fun i _ _ => D.waits.length - (intOf i).toNat)
  case atStart => exact ⟨0, rfl, by omega, OwnW.nil _ _, Below.refl _ _⟩
  case round =>
    obtain ⟨k, rfl, hk, ho, hB⟩ := hrel
    have hz := hB.out.size
    by_cases hlt : k < D.waits.length
    · have hlt' : (k : Int) < D.waits.length := by omega
      obtain ⟨b, off, hA, hb, hc1, hc2, hc3⟩ := (H.out.waits.below H.out.lt hB.out).at hlt
      have htk := dropW_take (n := n) (m := m) hlt
      have hpg := HP.out _ (List.getElem_mem hlt)
      have hdl : (dropW (D.waits.take k) n m).length ≤ D.waits.length := by
        unfold dropW
        have := List.length_filter_le (fun w : Wrt => decide (w.name ≠ n ∨ w.page < m)) (D.waits.take k)
        rw [List.length_take] at this
        omega
      generalize D.waits[k] = x at *
      subst hA
      have HTK := Lib.hid htk
      have HDL := Lib.hid hdl
      clear htk hdl
      by_cases hq : x.name = n
      · have hqb : (x.name == n) = true := by simp [hq]
        by_cases hpm : x.page < m
        · have hpm' : (x.page : Int) < m := by omega
          rw [if_pos (.inr hpm)] at HTK
          have HB2 : Hid (Below wr.heap.size wr ((wr.alloc (.cells #[.string ⟨x.name.toArray⟩, .int .i64 x.page, .string ⟨x.data.toArray⟩] 100)).alloc (.cells #[.string ⟨x.name.toArray⟩, .int .i64 x.page, .string ⟨x.data.toArray⟩] 100))) := ((Below.refl _ _).alloc (Nat.le_refl _) _).alloc (by simp) _
          have HR2 := Lib.hid (wrts_one ((wr.alloc (.cells #[.string ⟨x.name.toArray⟩, .int .i64 x.page, .string ⟨x.data.toArray⟩] 100)).alloc (.cells #[.string ⟨x.name.toArray⟩, .int .i64 x.page, .string ⟨x.data.toArray⟩] 100)) x (wr.heap.size + 1) (row_second _ _ _))
          clear hq hpm
          go_wp2_with (at_builtin; refine wp_append_wrts rfl _ _ rfl rfl (ho.out.keep HB2.out) (by simp; omega) _ [x] rfl HR2.out (by have := HDL.out; simp; omega) ?_)
          intro vo2 w2 ho2 hbo2
          have HO2 := Lib.hid ho2
          have HBO := Lib.hid hbo2
          clear ho2 hbo2
          go_wp2_with fail
          go_roundw
          case rel => exact ⟨k + 1, by go_num, by omega, by unfold Hid; rw [HTK.out]; exact HO2.out, (hB.out.trans (HB2.out.mono hz)).trans HBO.out⟩
          case measure => simp [intOf]; omega
        · have hpm' : (m : Int) ≤ x.page := by omega
          rw [if_neg (fun h => h.elim (fun e => e hq) hpm)] at HTK
          clear hq hpm
          go_wp2_with fail
          go_roundw
          case rel =>
            have hb1 : Below wr.heap.size wr (wr.alloc (.cells #[.string ⟨x.name.toArray⟩, .int .i64 x.page, .string ⟨x.data.toArray⟩] 100)) := (Below.refl _ _).alloc (Nat.le_refl _) _
            exact ⟨k + 1, by go_num, by omega, by unfold Hid; rw [HTK.out, List.append_nil]; exact ho.out.keep hb1, hB.out.alloc hz _⟩
          case measure => simp [intOf]; omega
      · have hqb : (x.name == n) = false := by simpa using hq
        rw [if_pos (.inl hq)] at HTK
        have HB2 : Hid (Below wr.heap.size wr ((wr.alloc (.cells #[.string ⟨x.name.toArray⟩, .int .i64 x.page, .string ⟨x.data.toArray⟩] 100)).alloc (.cells #[.string ⟨x.name.toArray⟩, .int .i64 x.page, .string ⟨x.data.toArray⟩] 100))) := ((Below.refl _ _).alloc (Nat.le_refl _) _).alloc (by simp) _
        have HR2 := Lib.hid (wrts_one ((wr.alloc (.cells #[.string ⟨x.name.toArray⟩, .int .i64 x.page, .string ⟨x.data.toArray⟩] 100)).alloc (.cells #[.string ⟨x.name.toArray⟩, .int .i64 x.page, .string ⟨x.data.toArray⟩] 100)) x (wr.heap.size + 1) (row_second _ _ _))
        clear hq
        go_wp2_with (at_builtin; refine wp_append_wrts rfl _ _ rfl rfl (ho.out.keep HB2.out) (by simp; omega) _ [x] rfl HR2.out (by have := HDL.out; simp; omega) ?_)
        intro vo2 w2 ho2 hbo2
        have HO2 := Lib.hid ho2
        have HBO := Lib.hid hbo2
        clear ho2 hbo2
        go_wp2_with fail
        go_roundw
        case rel => exact ⟨k + 1, by go_num, by omega, by unfold Hid; rw [HTK.out]; exact HO2.out, (hB.out.trans (HB2.out.mono hz)).trans HBO.out⟩
        case measure => simp [intOf]; omega
    · have hlt' : (D.waits.length : Int) ≤ k := by omega
      obtain rfl : k = D.waits.length := by omega
      have ho2 := ho.out
      rw [List.take_length] at ho2
      have HW := Lib.hid ho2.wrts
      obtain ⟨Ao, co, hvo, hco, hmo⟩ := ho2.wrts.len
      subst hvo
      have h1 := H.out.below hB.out
      have d2 : wr.cell? ⟨g, 2, none⟩ = some (.slice A D.waits.length c) := cell_of_row _ _ _ _ _ _ h1.row
      have f2 := h1.frozen 2
      have H1 := Lib.hid h1
      clear ho ho2 h1
      go_wp2_with fail
      go_end0
      have hlt2 : ∀ j, since T w wr j → j < wr.heap.size := fun j hj => hj.elim (H1.out.lt j) (fun e => e.2)
      have hg2 : ¬ since T w wr g := fun e => e.elim H.out.out (fun e => by have := H.out.glt; have := e.1; omega)
      have h2 := H1.out.mono (T' := since T w wr) (fun _ h => .inl h) hlt2 hg2
      have h3 := h2.poke (D' := { D with waits := dropW D.waits n m }) 2 (.slice Ao (dropW D.waits n m).length co) (by simp [rcells]) h2.now h2.safe (HW.out.mono (fun j hj => .inr hj))
      refine ⟨rfl, ⟨_, _, _, h3.mono (fun j hj => hj.elim .inl (fun e => .inr ⟨e.1, by simpa using e.2⟩)) (fun j hj => hj.elim (fun h => h3.lt j (.inl h)) (fun e => e.2)) (fun e => e.elim H.out.out (fun e => by have := H.out.glt; have := e.1; omega))⟩, ?_⟩
      refine ⟨hB.out.os, hB.out.tape, hB.out.output, by simp; omega, fun j hj hn => ?_⟩
      rw [heap_setCell_other _ _ _ _ (fun e => hn (.inr e))]
      exact hB.out.block j hj

end Go.Proofs.Ytbepanhndpkdhaa.Cd

namespace Go.Proofs.Ytbepanhndpkdhaa.Cd
open Go.RowKit

/-- What drop leaves: the new row of writes, in a block since w. -/
def DropIs (w : World) (g : Nat) (D : Dsk) (vn vs : Value) (e : Ending) (w' : World) : Prop :=
  e = .returned (.tuple #[]) ∧ ∃ v, OwnW w' w.heap.size v D.waits ∧ w'.heap[g]? = some (.cells (rcells D vn vs v) 38 (0, 0)) ∧ Apart (fun k => k = g) w w'

theorem ownW_put {w : World} {B : Nat} {v : Value} {l : List Wrt} (h : OwnW w B v l) {p : Addr} (hp : p.block < B) (u : Value) : OwnW (w.setCell p u) B v l :=
  World.ownsRow.kept h (row := some p.block) ⟨rfl, rfl, rfl, by simp, fun k _ hk => heap_setCell_other _ _ _ _ (fun e => hk (by rw [e]))⟩ (by
    cases hv : v.ownBlock with
    | none => exact .inl rfl
    | some k => exact .inr fun e => by injection e with e; have := (World.ownsRow.lt h k hv).1; omega)

/-- The names of the first k are turned. -/
def nameW (a b : List UInt8) (x : Wrt) : Wrt := if x.name = a then ⟨b, x.page, x.data⟩ else x
def turnW (a b : List UInt8) (l : List Wrt) (k : Nat) : List Wrt := (l.take k).map (nameW a b) ++ l.drop k
theorem turnW_zero (a b : List UInt8) (l : List Wrt) : turnW a b l 0 = l := by simp [turnW]
theorem turnW_all (a b : List UInt8) (l : List Wrt) : turnW a b l l.length = l.map (nameW a b) := by simp [turnW]
theorem turnW_len (a b : List UInt8) (l : List Wrt) (k : Nat) : (turnW a b l k).length = l.length := by simp [turnW]; omega
theorem turnW_at (a b : List UInt8) (l : List Wrt) (k : Nat) (hk : k < l.length) (h2 : k < (turnW a b l k).length) : (turnW a b l k)[k] = l[k] := by
  have h3 : (turnW a b l k)[k]? = l[k]? := by
    unfold turnW
    rw [List.getElem?_append_right (by simp; omega), List.getElem?_drop]
    congr 1
    simp
    omega
  rw [List.getElem?_eq_getElem h2, List.getElem?_eq_getElem hk] at h3
  exact Option.some.inj h3
theorem turnW_succ (a b : List UInt8) (l : List Wrt) (k : Nat) (hk : k < l.length) : turnW a b l (k + 1) = (turnW a b l k).set k (nameW a b l[k]) := by
  have h1 : ((l.take k).map (nameW a b)).length = k := by simp; omega
  have h2 : (turnW a b l k).set k (nameW a b l[k]) = (l.take k).map (nameW a b) ++ (l.drop k).set 0 (nameW a b l[k]) := by
    unfold turnW
    rw [List.set_append_right _ _ (by omega), h1, Nat.sub_self]
  rw [h2, List.drop_eq_getElem_cons hk, List.set_cons_zero]
  unfold turnW
  rw [List.take_succ_eq_append_getElem hk, List.map_append, List.append_assoc]
  rfl
theorem wc_set : ∀ (l : List Wrt) (k : Nat) (b : List UInt8) (hk : k < l.length), wc (l.set k ⟨b, (l[k]).page, (l[k]).data⟩) = (wc l).set (k * 3) (.string ⟨b.toArray⟩)
  | x :: r, 0, b, _ => rfl
  | x :: r, k + 1, b, hk => by
    have := wc_set r k b (by simpa using hk)
    simp only [List.set_cons_succ, List.getElem_cons_succ, wc, this]
    rw [show (k + 1) * 3 = k * 3 + 1 + 1 + 1 by omega]
    rfl
  | [], _, _, hk => by simp at hk
theorem set_same {α : Type} (l : List α) (k : Nat) (hk : k < l.length) : l.set k l[k] = l := by
  apply List.ext_getElem (by simp)
  intro i h1 h2
  rw [List.getElem_set]
  split
  · rename_i h; subst h; rfl
  · rfl

set_option maxRecDepth 100000 in
set_option maxHeartbeats 3200000 in
theorem rdrop_own (g : Nat) (T : Nat → Prop) (D : Dsk) (vn vs vw : Value) (n : List UInt8) (m : Nat) (w : World) (h : RefC w g T D vn vs vw) (hl : D.waits.length ≤ 1048576) (hp : ∀ x ∈ D.waits, x.page ≤ 1048576) (_hm : (m : Int) ≤ 9223372036854775807) :
    Calls Try.prog 63 #[.pointer (some ⟨g, 0, none⟩), .string ⟨n.toArray⟩, .int .i64 m] w (DropIs w g { D with waits := dropW D.waits n m } vn vs) := by
  obtain ⟨A, c, rfl, hlc, hm'⟩ := h.waits.len
  have c2 : w.cell? ⟨g, 2, none⟩ = some (.slice A D.waits.length c) := cell_of_row _ _ _ _ _ _ h.row
  have H := Lib.hid h
  have HP := Lib.hid hp
  have hl' : (D.waits.length : Int) ≤ 1048576 := by omega
  clear h hp
  go_enter Try.func63, Try.ntmps63
  go_wp2_with fail
  go_loopw [14, 6] (fun i vo wr => ∃ k : Nat, i = .int .i64 k ∧ k ≤ D.waits.length ∧ Hid (OwnW wr w.heap.size vo (dropW (D.waits.take k) n m)) ∧ Hid (Below w.heap.size w wr)) (fun i _ _ => D.waits.length - (intOf i).toNat)
  case atStart => exact ⟨0, rfl, by omega, OwnW.nil _ _, Below.refl _ _⟩
  case round =>
    obtain ⟨k, rfl, hk, ho, hB⟩ := hrel
    have hz := hB.out.size
    by_cases hlt : k < D.waits.length
    · have hlt' : (k : Int) < D.waits.length := by omega
      obtain ⟨b, off, hA, hb, hc1, hc2, hc3⟩ := (H.out.waits.below H.out.lt hB.out).at hlt
      have htk := dropW_take (n := n) (m := m) hlt
      have hpg := HP.out _ (List.getElem_mem hlt)
      have hdl : (dropW (D.waits.take k) n m).length ≤ D.waits.length := by
        unfold dropW
        have := List.length_filter_le (fun w : Wrt => decide (w.name ≠ n ∨ w.page < m)) (D.waits.take k)
        rw [List.length_take] at this
        omega
      generalize D.waits[k] = x at *
      subst hA
      have HTK := Lib.hid htk
      have HDL := Lib.hid hdl
      clear htk hdl
      by_cases hq : x.name = n
      · have hqb : (x.name == n) = true := by simp [hq]
        by_cases hpm : x.page < m
        · have hpm' : (x.page : Int) < m := by omega
          rw [if_pos (.inr hpm)] at HTK
          have HB2 : Hid (Below wr.heap.size wr ((wr.alloc (.cells #[.string ⟨x.name.toArray⟩, .int .i64 x.page, .string ⟨x.data.toArray⟩] 100)).alloc (.cells #[.string ⟨x.name.toArray⟩, .int .i64 x.page, .string ⟨x.data.toArray⟩] 100))) := ((Below.refl _ _).alloc (Nat.le_refl _) _).alloc (by simp) _
          have HR2 := Lib.hid (wrts_one ((wr.alloc (.cells #[.string ⟨x.name.toArray⟩, .int .i64 x.page, .string ⟨x.data.toArray⟩] 100)).alloc (.cells #[.string ⟨x.name.toArray⟩, .int .i64 x.page, .string ⟨x.data.toArray⟩] 100)) x (wr.heap.size + 1) (row_second _ _ _))
          clear hq hpm
          go_wp2_with (at_builtin; refine wp_append_wrts rfl _ _ rfl rfl (ho.out.keep HB2.out) (by simp; omega) _ [x] rfl HR2.out (by have := HDL.out; simp; omega) ?_)
          intro vo2 w2 ho2 hbo2
          have HO2 := Lib.hid ho2
          have HBO := Lib.hid hbo2
          clear ho2 hbo2
          go_wp2_with fail
          go_roundw
          case rel => exact ⟨k + 1, by go_num, by omega, by unfold Hid; rw [HTK.out]; exact HO2.out, (hB.out.trans (HB2.out.mono hz)).trans HBO.out⟩
          case measure => simp [intOf]; omega
        · have hpm' : (m : Int) ≤ x.page := by omega
          rw [if_neg (fun h => h.elim (fun e => e hq) hpm)] at HTK
          clear hq hpm
          go_wp2_with fail
          go_roundw
          case rel =>
            have hb1 : Below wr.heap.size wr (wr.alloc (.cells #[.string ⟨x.name.toArray⟩, .int .i64 x.page, .string ⟨x.data.toArray⟩] 100)) := (Below.refl _ _).alloc (Nat.le_refl _) _
            exact ⟨k + 1, by go_num, by omega, by unfold Hid; rw [HTK.out, List.append_nil]; exact ho.out.keep hb1, hB.out.alloc hz _⟩
          case measure => simp [intOf]; omega
      · have hqb : (x.name == n) = false := by simpa using hq
        rw [if_pos (.inl hq)] at HTK
        have HB2 : Hid (Below wr.heap.size wr ((wr.alloc (.cells #[.string ⟨x.name.toArray⟩, .int .i64 x.page, .string ⟨x.data.toArray⟩] 100)).alloc (.cells #[.string ⟨x.name.toArray⟩, .int .i64 x.page, .string ⟨x.data.toArray⟩] 100))) := ((Below.refl _ _).alloc (Nat.le_refl _) _).alloc (by simp) _
        have HR2 := Lib.hid (wrts_one ((wr.alloc (.cells #[.string ⟨x.name.toArray⟩, .int .i64 x.page, .string ⟨x.data.toArray⟩] 100)).alloc (.cells #[.string ⟨x.name.toArray⟩, .int .i64 x.page, .string ⟨x.data.toArray⟩] 100)) x (wr.heap.size + 1) (row_second _ _ _))
        clear hq
        go_wp2_with (at_builtin; refine wp_append_wrts rfl _ _ rfl rfl (ho.out.keep HB2.out) (by simp; omega) _ [x] rfl HR2.out (by have := HDL.out; simp; omega) ?_)
        intro vo2 w2 ho2 hbo2
        have HO2 := Lib.hid ho2
        have HBO := Lib.hid hbo2
        clear ho2 hbo2
        go_wp2_with fail
        go_roundw
        case rel => exact ⟨k + 1, by go_num, by omega, by unfold Hid; rw [HTK.out]; exact HO2.out, (hB.out.trans (HB2.out.mono hz)).trans HBO.out⟩
        case measure => simp [intOf]; omega
    · have hlt' : (D.waits.length : Int) ≤ k := by omega
      obtain rfl : k = D.waits.length := by omega
      have ho2 := ho.out
      rw [List.take_length] at ho2
      have HW := Lib.hid ho2
      obtain ⟨Ao, co, hvo, hco, hmo⟩ := ho2.wrts.len
      subst hvo
      have h1 := H.out.below hB.out
      have d2 : wr.cell? ⟨g, 2, none⟩ = some (.slice A D.waits.length c) := cell_of_row _ _ _ _ _ _ h1.row
      have f2 := h1.frozen 2
      have H1 := Lib.hid h1
      have hgl := H.out.glt
      clear ho ho2 h1
      go_wp2_with fail
      go_end0
      refine ⟨rfl, _, ownW_put HW.out (p := ⟨g, 2, none⟩) hgl _, ?_, ?_⟩
      · simp [World.setCell, Array.getElem?_modify, H1.out.row, rcells]
      · refine ⟨hB.out.os, hB.out.tape, hB.out.output, by simp; omega, fun j hj hn => ?_⟩
        rw [heap_setCell_other _ _ _ _ hn]
        exact hB.out.block j hj

end Go.Proofs.Ytbepanhndpkdhaa.Cd
