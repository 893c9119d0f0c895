/-
  Writes that are played onto a side. Conditions: none.
-/
import Derived.Test.YtlchmkpnehbnlaaGreatDoorG4
import Derived.Deep.WholeRow
import Derived.Maps.AppendAt
import Derived.Deep.RegionHeld3
import Derived.Deep.RegionLaw
/-
  Rows of many cells: cells that are stored in one go, a page that is copied, a write that is appended. Conditions: none.
-/
namespace Go.Proofs.YtlchmkpnehbnlaaGreatDoor.Cd
open Go.RowKit

def laid (c : List Value) : Nat → List Value → List Value
  | _, [] => c
  | o, v :: r => laid (c.set o v) (o + 1) r
theorem laid_length (vs : List Value) : ∀ (c : List Value) (o : Nat), (laid c o vs).length = c.length := by
  induction vs with
  | nil => intro c o; rfl
  | cons v r ih => intro c o; rw [laid, ih, List.length_set]
theorem laid_at (vs : List Value) : ∀ (c : List Value) (o j : Nat), (laid c o vs)[j]? = if o ≤ j ∧ j < o + vs.length ∧ j < c.length then vs[j - o]? else c[j]? := by
  induction vs with
  | nil => intro c o j; rw [laid, if_neg (by simp; omega)]
  | cons v r ih =>
    intro c o j
    rw [laid, ih, List.length_set, List.length_cons]
    by_cases h1 : o + 1 ≤ j ∧ j < o + 1 + r.length ∧ j < c.length
    · rw [if_pos h1, if_pos (by omega), show j - o = j - (o + 1) + 1 by omega, List.getElem?_cons_succ]
    · rw [if_neg h1]
      by_cases h2 : j = o
      · subst h2
        by_cases h3 : j < c.length
        · rw [if_pos (by omega), Nat.sub_self, List.getElem?_cons_zero, List.getElem?_set_self h3]
        · rw [if_neg (by omega), List.getElem?_eq_none (by rw [List.length_set]; omega), List.getElem?_eq_none (by omega)]
      · rw [if_neg (by omega), List.getElem?_set_ne (fun e => h2 e.symm)]
theorem setCells_row (g : Nat) (T : TypeId) (vs : List Value) : ∀ (w : World) (c : List Value) (o : Nat), w.heap[g]? = some (.cells c.toArray T (0, 0)) → (w.setCells g o vs).heap[g]? = some (.cells (laid c o vs).toArray T (0, 0)) := by
  induction vs with
  | nil => intro w c o h; exact h
  | cons v r ih =>
    intro w c o h
    rw [World.setCells, laid]
    refine ih _ _ _ ?_
    have := heap_setCell_same w g o _ T v h
    rw [List.setIfInBounds_toArray] at this
    exact this
theorem setCells_grown (g : Nat) (vs : List Value) : ∀ (w : World) (o : Nat), w.grownBy (w.setCells g o vs) (some g) := by
  induction vs with
  | nil => intro w o; exact ⟨rfl, rfl, rfl, Nat.le_refl _, fun _ _ _ => rfl⟩
  | cons v r ih =>
    intro w o
    rw [World.setCells]
    have h1 : w.grownBy (w.setCell ⟨g, o, none⟩ v) (some g) := ⟨rfl, rfl, rfl, by simp, fun k _ hk => heap_setCell_other _ _ _ _ (fun e => hk (by rw [e]))⟩
    exact h1.trans (ih _ _)

theorem laid_mid (pre old post vs : List Value) (h : vs.length = old.length) : laid (pre ++ old ++ post) pre.length vs = pre ++ vs ++ post := by
  apply List.ext_getElem?
  intro j
  rw [laid_at]
  simp only [List.length_append]
  by_cases h1 : pre.length ≤ j ∧ j < pre.length + vs.length ∧ j < pre.length + old.length + post.length
  · rw [if_pos h1, List.append_assoc, List.getElem?_append_right h1.1, List.getElem?_append_left (by omega)]
  · rw [if_neg h1]
    by_cases h2 : j < pre.length
    · rw [List.append_assoc, List.getElem?_append_left h2, List.append_assoc, List.getElem?_append_left h2]
    · rw [List.getElem?_append_right (by simp; omega), List.getElem?_append_right (by simp; omega)]
      simp only [List.length_append, h]

theorem nought_len : nought.length = 512 := List.length_replicate

theorem wp_copy_pad {w : World} {ops : Array Oper} {rest : List Oper} {o : Oper} {a : Act} {Q : Exit → Act → World → Prop} (hgd : o.guard = none) (d x : Operand)
    (hop : o.op = Op.call { callee := Callee.builtin Builtin.copy, args := #[d, x], argTypes := #[88, 88] }) (g k i : Nat) (hrow : w.heap[g]? = some (.cells (wv k i nought) 126))
    (hd : a.eval d = .slice (some ⟨g, 2, none⟩) 512 512) (y : Value) (B : Nat) (bs : List UInt8) (hx : a.eval x = y) (hy : Sl w B y bs) (hb : bs.length ≤ 512)
    (hK : ∀ w' v, w'.heap[g]? = some (.cells (wv k i (pad bs)) 126) → w.grownBy w' (some g) → wpList Tryz.prog ops Q rest (a.put o.dst v) w') : wpList Tryz.prog ops Q (o :: rest) a w := by
  refine wpList_plain hgd fun K hK' => ?_
  obtain ⟨v, w', hrun, r1, r2⟩ : ∃ v w', (Builtin.copy_ #[88, 88] o.type #[.slice (some ⟨g, 2, none⟩) 512 512, y]).run Tryz.prog w = .ok v w' ∧ w'.heap[g]? = some (.cells (wv k i (pad bs)) 126) ∧ w.grownBy w' (some g) := by
    obtain ⟨A, c, rfl, h2, h3, h4, h5, h6⟩ := hy
    by_cases h0 : bs.length = 0
    · have hbs : bs = [] := List.eq_nil_of_length_eq_zero h0
      subst hbs
      exact ⟨_, _, run_copy_none w _ _ _ 5 _ _ _ _ _ _ Tryz.underlying88 (by kernel_rfl) (by simp), hrow, ⟨rfl, rfl, rfl, Nat.le_refl _, fun _ _ _ => rfl⟩⟩
    · cases A with
      | none => have := h4 rfl; omega
      | some ad =>
        have hcell : ∀ j, j < 514 → (w.cell? ⟨g, j, none⟩).isSome = true := fun j hj => by
          rw [cell_of_row _ _ _ _ _ _ hrow, Array.getElem?_eq_getElem (by rw [wv_size k i nought_len]; exact hj)]
          rfl
        have hrun := run_copy_cells (P := Tryz.prog) w 88 88 o.type 5 g 2 512 512 ad bs.length c (vb bs) Tryz.underlying88 (by kernel_rfl) (by rw [vb_length]; exact (Nat.min_eq_left hb).symm)
          (h6 ad rfl) (fun j hj => hcell _ (by rw [vb_length] at hj; omega)) (fun j hj => by simp [World.frozen?, hrow]) (vb_one bs)
        refine ⟨_, _, hrun, ?_, setCells_grown _ _ _ _⟩
        have h7 := setCells_row g _ (vb bs) w _ 2 hrow
        rw [h7]
        have hsp : (Value.int .i64 k :: Value.int .i64 i :: vb nought : List Value) = [Value.int .i64 k, Value.int .i64 i] ++ vb (List.replicate bs.length 0) ++ vb (List.replicate (512 - bs.length) 0) := by
          show _ = Value.int .i64 k :: Value.int .i64 i :: (vb (List.replicate bs.length 0) ++ vb (List.replicate (512 - bs.length) 0))
          rw [← vb_append, List.replicate_append_replicate, show bs.length + (512 - bs.length) = 512 by omega]
          rfl
        rw [hsp]
        have h8 := laid_mid [Value.int .i64 k, Value.int .i64 i] (vb (List.replicate bs.length 0)) (vb (List.replicate (512 - bs.length) 0)) (vb bs) (by simp [vb])
        rw [show ([Value.int .i64 k, Value.int .i64 i] : List Value).length = 2 from rfl] at h8
        rw [h8]
        unfold wv pad
        rw [vb_append]
        rfl
  unfold Oper.wp
  simp [execOp, hop, resolve, invoke, builtin, hd, hx, hrun, Result.andThen]
  exact hK' _ _ (hK w' v r1 r2)

theorem info_pw : (Tryz.prog.info? 126).map (fun i => (i.zero, i.size, i.bytes)) = some (some (.agg Tryz.zeroCells126), 514, 528) := by kernel_rfl
theorem zero_pw : Tryz.zeroCells126 = wv 0 0 nought := by kernel_rfl

theorem wv_one (f i : Nat) (p : List UInt8) : ∀ u ∈ (wv f i p).toList, u.oneCell' = true := by
  intro u hu
  rw [show (wv f i p).toList = Value.int .i64 f :: Value.int .i64 i :: vb p from rfl] at hu
  rcases List.mem_cons.1 hu with rfl | hu
  · rfl
  · rcases List.mem_cons.1 hu with rfl | hu
    · rfl
    · exact vb_one p u hu

theorem run_load_pw {b : Nat} {C : Array Value} (hC : C.size = 514) (W : World) (h : W.heap[b]? = some (.cells C 126)) {op : Oper} {a : Act} (x : Operand) (ho : op.op = .load 126 x) (hx : a.eval x = .pointer (some ⟨b, 0, none⟩)) :
    (execOp a.eval op).run Tryz.prog W = .ok (.value (.agg C)) W := by
  have := run_loadVar_row (P := Tryz.prog) W b _ 126 C _ _ h Tryz.underlying126 rfl (by rw [hC]; kernel_rfl)
  unfold execOp
  simp only [ho, hx, Instr.loadAt, Instr.sureAddr, Sem.run_bind, Sem.run_pure, Result.andThen_ok, this]
theorem yieldsIf_load_pw {ops : Array Oper} {S : World → Prop} {op : Oper} {a : Act} (hw : Region.wanted op (yielded ops a.tmps) = true) (x : Operand) (ho : op.op = .load 126 x) (b : Nat) (hx : a.eval x = .pointer (some ⟨b, 0, none⟩))
    {C : Array Value} (hC : C.size = 514) (hS : ∀ w, S w → w.heap[b]? = some (.cells C 126)) : YieldsIf Tryz.prog ops S op (.agg C) a := .inl ⟨hw, fun w hw' => run_load_pw hC w (hS w hw') x ho hx⟩
theorem step_load_pw {ops : Array Oper} {op : Oper} {a : Act} {w : World} {K : Act → World → Prop} {Q : Exit → Act → World → Prop} {E : Prop} (hgd : op.guard = none) (x : Operand) (ho : op.op = .load 126 x) (b : Nat) (hx : a.eval x = .pointer (some ⟨b, 0, none⟩))
    {C : Array Value} (hC : C.size = 514) (h : w.heap[b]? = some (.cells C 126)) (hK : K (a.put op.dst (.agg C)) w) : if Region.wanted op (yielded ops a.tmps) = true then Oper.wp Tryz.prog op a w K Q else E := by
  have hw : Region.wanted op (yielded ops a.tmps) = true := by simp [Region.wanted, hgd]
  rw [if_pos hw]
  simp only [Oper.wp, run_load_pw hC w h x ho hx, Oper.upon]
  exact hK

theorem foldl_lay (l : List Value) : ∀ (k : Nat) (B : List Value), k + l.length ≤ B.length → (l.zipIdx k).foldl (fun cs x => Array.setIfInBounds cs (0 + x.2) x.1) B.toArray = (laid B k l).toArray := by
  induction l with
  | nil => intro k B _; rfl
  | cons v r ih =>
    intro k B h
    rw [List.length_cons] at h
    rw [List.zipIdx_cons, List.foldl_cons, laid, Nat.zero_add, List.setIfInBounds_toArray]
    exact ih (k + 1) (B.set k v) (by rw [List.length_set]; omega)
theorem laid_all (B l : List Value) (h : l.length = B.length) : laid B 0 l = l := by
  apply List.ext_getElem?
  intro j
  rw [laid_at]
  by_cases hj : j < l.length
  · rw [if_pos (by omega), Nat.sub_zero]
  · rw [if_neg (by omega), List.getElem?_eq_none (by omega), List.getElem?_eq_none (by omega)]

theorem run_build_one {C : Array Value} (hC : C.size = 514) (W : World) : (Instr.buildSlice 71 1 #[(0, .agg C)]).run Tryz.prog W = .ok (.slice (some ⟨W.heap.size, 0, none⟩) 1 1) (W.alloc (.cells C 126)) := by
  obtain ⟨l, rfl⟩ : ∃ l : List Value, C = l.toArray := ⟨C.toList, by simp⟩
  have hl : l.length = 514 := by simpa using hC
  have hb : ((Array.range (1 * 514)).map (Tryz.zeroCells126[· % Tryz.zeroCells126.size]!)) = (((List.range 514).map (Tryz.zeroCells126[· % Tryz.zeroCells126.size]!))).toArray := by
    rw [Nat.one_mul, ← List.toArray_range, List.map_toArray]
  have hz : (Value.agg Tryz.zeroCells126).cells = Tryz.zeroCells126 := rfl
  have hf : ∀ B : List Value, B.length = 514 → Instr.fill (fun i => some (i * 514, 514)) B.toArray [(0, .agg l.toArray)] = some l.toArray := by
    intro B hB
    unfold Instr.fill
    simp only [Nat.zero_mul, Value.cells, List.size_toArray, hl, hB, Nat.zero_add, ne_eq, not_true_eq_false, decide_false, Bool.false_or, Nat.lt_irrefl, gt_iff_lt, Bool.false_eq_true, if_false]
    unfold Instr.fill
    have := foldl_lay l 0 B (by omega)
    rw [laid_all B l (by omega)] at this
    simp only [Nat.zero_add] at this
    rw [← Array.foldl_toList, Array.toList_zipIdx]
    simp only []
    rw [this]
  unfold Instr.buildSlice
  rw [Sem.run_bind, run_underlying Tryz.underlying71, Result.andThen_ok]
  simp only
  rw [Sem.run_bind, Tryz.sizeOf126, Result.andThen_ok, if_neg (by decide), if_neg (by decide), Sem.run_bind]
  rw [Tryz.zeroValue126, Result.andThen_ok, Sem.run_bind, Sem.run_pure, Result.andThen_ok]
  simp only [hz]
  rw [hb, hf _ (by rw [List.length_map, List.length_range])]
  simp only [newRow, newObj, Sem.run_bind, Sem.run_pure]
  rfl

theorem step_build_pw {ops : Array Oper} {op : Oper} {a : Act} {w : World} {K : Act → World → Prop} {Q : Exit → Act → World → Prop} {E : Prop} (hgd : op.guard = none) (x : Operand) (ho : op.op = .buildSlice 71 1 #[(0, x)])
    {C : Array Value} (hx : a.eval x = .agg C) (hC : C.size = 514) (hK : K (a.put op.dst (.slice (some ⟨w.heap.size, 0, none⟩) 1 1)) (w.alloc (.cells C 126))) : if Region.wanted op (yielded ops a.tmps) = true then Oper.wp Tryz.prog op a w K Q else E := by
  have hw : Region.wanted op (yielded ops a.tmps) = true := by simp [Region.wanted, hgd]
  rw [if_pos hw]
  have hrun : (execOp a.eval op).run Tryz.prog w = .ok (.value (.slice (some ⟨w.heap.size, 0, none⟩) 1 1)) (w.alloc (.cells C 126)) := by
    unfold execOp
    simp only [ho, List.map_toArray, List.map_cons, List.map_nil, hx, Sem.run_bind, Sem.run_pure, Result.andThen_ok, run_build_one hC w]
  simp only [Oper.wp, hrun, Oper.upon]
  exact hK

theorem step_append_pw {w : World} {ops : Array Oper} {o : Oper} {a : Act} {K : Act → World → Prop} {Q : Exit → Act → World → Prop} {E : Prop} (hgd : o.guard = none) (s x : Operand)
    (hop : o.op = .call { callee := .builtin .append, args := #[s, x], argTypes := #[71, 71] })
    (v : Value) (n : Nat) (xs : List Value) (hs : a.eval s = v) (ho : w.ownsRow 0 126 514 v n xs) (b f i : Nat) (p : List UInt8) (hp : p.length = 512) (hx : a.eval x = .slice (some ⟨b, 0, none⟩) 1 1) (hb : w.heap[b]? = some (.cells (wv f i p) 126))
    (hm : n ≤ 137438953472)
    (h : ∀ v' w', w'.ownsRow 0 126 514 v' (n + 1) (xs ++ (wv f i p).toList) → w.grownBy w' v.ownBlock → (v'.ownBlock = v.ownBlock ∨ v'.ownBlock = some w.heap.size) → K (a.put o.dst v') w') : if Region.wanted o (yielded ops a.tmps) = true then Oper.wp Tryz.prog o a w K Q else E := by
  have hw : Region.wanted o (yielded ops a.tmps) = true := by simp [Region.wanted, hgd]
  rw [if_pos hw]
  obtain ⟨i0, hi, hz0, hz1, hz2⟩ := info_parts info_pw
  obtain ⟨v', w', hrun, r1, r2, _, r3⟩ := run_append_own_at (P := Tryz.prog) w 0 71 o.type 126 i0 _ 514 528 Tryz.underlying71 hi hz0 hz1 hz2 (by rw [zero_pw]; exact wv_size 0 0 nought_len) (by omega) v n xs ho
    ⟨b, 0, none⟩ 1 1 (wv f i p).toList (by rw [Array.length_toList, wv_size f i hp]) (fun j u hu => by rw [Addr.add_lit, Nat.zero_add, cell_of_row _ _ _ _ _ _ hb]; simpa using hu) (wv_one f i p) (by simp only [maxLen]; omega) (by omega) (Nat.zero_le _)
  unfold Oper.wp
  simp [execOp, hop, resolve, invoke, builtin, hs, hx, hrun, Result.andThen]
  exact h v' w' r1 r2 r3

end Go.Proofs.YtlchmkpnehbnlaaGreatDoor.Cd

/-
  put: a page is written, and waits. Conditions: none.
-/
namespace Go.Proofs.YtlchmkpnehbnlaaGreatDoor.Cd
open Go.RowKit

def numP (P : Pd) (s : List UInt8) : Nat := match P.files s with
  | some k => k
  | none => P.made + 1
def putP (P : Pd) (s : List UInt8) (i : Nat) (p : List UInt8) : Pd :=
  { P with files := upd P.files s (some (numP P s)), made := max P.made (numP P s), now := setF P.now (numP P s) (setP (P.now (numP P s)) i p), nn := P.nn + (i + 1 - (P.now (numP P s)).length), late := P.late ++ [⟨numP P s, i, p⟩] }

theorem numP_le {P : Pd} {N : Nat} (h : Fits P N) (s : List UInt8) : numP P s ≤ P.made + 1 := by
  unfold numP
  split
  · rename_i k hk
    have := h.files s k hk
    omega
  · exact Nat.le_refl _

theorem putP_fits {P : Pd} {N : Nat} {s p : List UInt8} {i : Nat} (h : Fits P N) (hN : N < 137438953472) (hp : p.length = 512) (hi : i < 4096) (hr : P.nn + (i + 1 - (P.now (numP P s)).length) ≤ P.room) : Fits (putP P s i p) (N + 1) := by
  have hn := numP_le h s
  refine ⟨by omega, h.room, ?_, by have := h.acts; show P.acts ≤ _; omega, h.fuse, h.keep, ?_, ?_, h.safe, hr, ?_, ?_, ?_⟩
  · have := h.made
    show max P.made (numP P s) ≤ N + 1
    omega
  · intro x hx
    rcases List.mem_append.1 hx with h1 | h1
    · have := h.late x h1
      exact ⟨by show x.file ≤ max P.made (numP P s); have := this.1; omega, this.2⟩
    · rw [List.mem_singleton] at h1
      subst h1
      exact ⟨by show numP P s ≤ max P.made (numP P s); omega, hi, hp⟩
  · intro f
    show (setF P.now (numP P s) (setP (P.now (numP P s)) i p) f).length ≤ 4096
    unfold setF
    split
    · rw [setP_len]
      have := h.now (numP P s)
      omega
    · exact h.now f
  · have := h.nss
    show P.ns + 4097 * (P.late ++ [_]).length ≤ 4097 * (N + 1)
    rw [List.length_append, List.length_singleton]
    omega
  · intro t k ht
    show k ≤ max P.made (numP P s)
    have ht : upd P.files s (some (numP P s)) t = some k := ht
    unfold upd at ht
    split at ht
    · injection ht with ht
      omega
    · have := h.files t k ht
      omega
  · intro f hf
    have hf : max P.made (numP P s) < f := hf
    have := h.fresh f (by omega)
    refine ⟨?_, this.2⟩
    show setF P.now (numP P s) _ f = []
    rw [setF_other _ (by omega)]
    exact this.1

theorem upd_same {κ ν : Type} [DecidableEq κ] {q : κ → Option ν} {x : κ} {v : Option ν} (h : q x = v) : upd q x v = q := by
  funext y
  unfold upd
  split
  · rename_i e; rw [e, h]
  · rfl

theorem wcs_append (a b : List Pw) : wcs (a ++ b) = wcs a ++ wcs b := by simp [wcs]

theorem own_one {w : World} {e : TypeId} {size n : Nat} {v : Value} {xs : List Value} (h : w.ownsRow 0 e size v n xs) : ∃ A m c, v = .slice A m c := by
  rcases h.2 with ⟨rfl, _⟩ | ⟨g, cap, cur, rfl, _⟩
  · exact ⟨_, _, _, rfl⟩
  · exact ⟨_, _, _, rfl⟩

theorem putd_end {w w4 w5 : World} {g N bf c1 p1 c2 p2 k i n' : Nat} {S : Nat → Prop} {P : Pd} {s p : List UInt8} {lv v5 : Value} {C : Array Value} (H : DiskR w g S P N bf c1 p1 c2 p2 lv) (hF : Fits (putP P s i p) (N + 1)) (hk : numP P s = k)
    (ha : Apart S w w4) (hk4 : ∀ b, S b → b ≠ g → b ≠ bf → b ≠ c1 → b ≠ p1 → w4.heap[b]? = w.heap[b]?) (hrow : w4.heap[g]? = some (.cells (dcells (putP P s i p) bf c1 p1 c2 p2 lv) 73))
    (hsd : Side w4 c1 p1 (setF P.now k (setP (P.now k) i p)) (P.nn + (i + 1 - (P.now k).length)) (N + 1)) (hfl : MapF filK w4 bf n' (upd P.files s (some k))) (hn' : n' ≤ N + 1)
    (ho : w5.ownsRow 0 126 514 v5 (P.late.length + 1) (wcs P.late ++ (wv k i p).toList)) (hg : (w4.drew.alloc (.cells C 126)).grownBy w5 lv.ownBlock) (hb : v5.ownBlock = lv.ownBlock ∨ v5.ownBlock = some (w4.drew.alloc (.cells C 126)).heap.size) :
    w5.heap[g]? = some (.cells (dcells (putP P s i p) bf c1 p1 c2 p2 lv) 73) ∧
      DiskR (w5.setCell ⟨g, 7, none⟩ v5) g (since S w (w5.setCell ⟨g, 7, none⟩ v5)) (putP P s i p) (N + 1) bf c1 p1 c2 p2 v5 ∧ Apart S w (w5.setCell ⟨g, 7, none⟩ v5) := by
  obtain ⟨i1, i2, i3, i4, i5, i6⟩ := H.ins
  obtain ⟨n1, n2, n3, n4, n5⟩ := H.neg
  obtain ⟨m1, m2, m3, m4⟩ := H.nef
  obtain ⟨q1, q2, q3, q4⟩ := H.nes
  have hsw4 := ha.size
  have hs45 := hg.size
  have hsd4 : (w4.drew.alloc (.cells C 126)).heap.size = w4.heap.size + 1 := by simp
  -- a block of S that isn't the list's own
  have h45 : ∀ b, b < w4.heap.size → (∀ c, lv.ownBlock = some c → b ≠ c) → w5.heap[b]? = w4.heap[b]? := fun b hlt hne => by
    rw [hg.block b (by omega) (fun e => hne b e.symm rfl)]
    exact Below.heap_alloc w4.drew _ b hlt
  have hltS : ∀ b, S b → b < w4.heap.size := fun b hS => Nat.lt_of_lt_of_le (H.lt b hS) hsw4
  have hrow5 : w5.heap[g]? = some (.cells (dcells (putP P s i p) bf c1 p1 c2 p2 lv) 73) := (h45 g (hltS g i1) (fun c hc e => (H.nel c hc).1 e.symm)).trans hrow
  have hset : ∀ b, b ≠ g → (w5.setCell ⟨g, 7, none⟩ v5).heap[b]? = w5.heap[b]? := fun b hne => heap_setCell_other _ _ _ _ hne
  have hcomp : ∀ b, S b → b ≠ g → (∀ c, lv.ownBlock = some c → b ≠ c) → (w5.setCell ⟨g, 7, none⟩ v5).heap[b]? = w4.heap[b]? := fun b hS h1 h2 => (hset b h1).trans (h45 b (hltS b hS) h2)
  have hnew : ∀ c, v5.ownBlock = some c → (lv.ownBlock = some c) ∨ (w.heap.size ≤ c ∧ c < (w5.setCell ⟨g, 7, none⟩ v5).heap.size) := fun c hc => by
    rcases hb with e | e
    · exact .inl (by rw [← e]; exact hc)
    · right
      rw [hc] at e
      injection e with e
      have hlt5 := (World.ownsRow.lt ho c hc).2
      rw [World.size_setCell]
      exact ⟨by omega, hlt5⟩
  have hap : Apart S w (w5.setCell ⟨g, 7, none⟩ v5) := by
    refine apart_setCell ?_ i1 _
    refine Apart.step ?_ hg (fun c hc => .inl (H.inl c hc))
    exact ha.drew.alloc _
  refine ⟨hrow5, ⟨hF, ?_, ⟨n', ?_, hn'⟩, ?_, ?_, ?_, H.neg, H.nef, H.nes, ?_, ⟨.inl i1, .inl i2, .inl i3, .inl i4, .inl i5, .inl i6⟩, ?_, since_lt H.lt hap.size⟩, hap⟩
  · have := heap_setCell_same w5 g 7 _ _ v5 hrow5
    exact this
  · refine (hfl.heap (hcomp bf i2 (fun e => n1 e.symm) (fun c hc e => (H.nel c hc).2.1 e.symm))).congr (fun x _ => ?_)
    show upd P.files s (some (numP P s)) x = _
    rw [hk]
  · show Side _ c1 p1 (setF P.now (numP P s) (setP (P.now (numP P s)) i p)) (P.nn + (i + 1 - (P.now (numP P s)).length)) (N + 1)
    rw [hk]
    exact hsd.heap (hcomp c1 i3 (fun e => n2 e.symm) (fun c hc e => (H.nel c hc).2.2.1 e.symm)) (hcomp p1 i4 (fun e => n3 e.symm) (fun c hc e => (H.nel c hc).2.2.2.1 e.symm))
  · obtain ⟨j, hsf, hj⟩ := H.safe
    refine ⟨j, ?_, by show j + (P.late ++ [_]).length ≤ N + 1; rw [List.length_append, List.length_singleton]; omega⟩
    refine hsf.heap ((hcomp c2 i5 (fun e => n4 e.symm) (fun c hc e => (H.nel c hc).2.2.2.2.1 e.symm)).trans (hk4 c2 i5 (fun e => n4 e.symm) (fun e => m3 e.symm) (fun e => q1 e.symm) (fun e => q3 e.symm))) ?_
    exact (hcomp p2 i6 (fun e => n5 e.symm) (fun c hc e => (H.nel c hc).2.2.2.2.2 e.symm)).trans (hk4 p2 i6 (fun e => n5 e.symm) (fun e => m4 e.symm) (fun e => q2 e.symm) (fun e => q4 e.symm))
  · have el : (putP P s i p).late = P.late ++ [(⟨k, i, p⟩ : Pw)] := by rw [← hk]; rfl
    rw [el, wcs_append, List.length_append, List.length_singleton]
    have e1 : wcs [(⟨k, i, p⟩ : Pw)] = (wv k i p).toList := by simp [wcs]
    rw [e1]
    refine row_set ho _ (fun c hc e => ?_)
    have e : c = g := e
    rcases hnew c hc with h1 | h1
    · exact (H.nel c h1).1 e
    · have := H.lt g i1; omega
  · intro c hc
    rcases hnew c hc with h1 | h1
    · exact H.nel c h1
    · have l1 := H.lt g i1
      have l2 := H.lt bf i2
      have l3 := H.lt c1 i3
      have l4 := H.lt p1 i4
      have l5 := H.lt c2 i5
      have l6 := H.lt p2 i6
      omega
  · intro c hc
    rcases hnew c hc with h1 | h1
    · exact .inl (H.inl c h1)
    · exact .inr h1

def newP (P : Pd) (s : List UInt8) : Pd := { P with files := upd P.files s (some (P.made + 1)), made := P.made + 1 }
theorem newP_fits {P : Pd} {N : Nat} (h : Fits P N) (hN : N < 137438953472) (s : List UInt8) : Fits (newP P s) (N + 1) := by
  have h2 := h.mono (Nat.le_succ N) (by omega)
  refine ⟨h2.top, h.room, by show P.made + 1 ≤ N + 1; have := h.made; omega, h2.acts, h.fuse, h.keep, fun x hx => ?_, h.now, h.safe, h.nns, h2.nss, fun t k ht => ?_, fun f hf => ?_⟩
  · have := h.late x hx
    exact ⟨by show x.file ≤ P.made + 1; have := this.1; omega, this.2⟩
  · show k ≤ P.made + 1
    have ht : upd P.files s (some (P.made + 1)) t = some k := ht
    unfold upd at ht
    split at ht
    · injection ht with ht; omega
    · have := h.files t k ht; omega
  · have hf : P.made + 1 < f := hf
    exact h.fresh f (by omega)
theorem newP_num {P : Pd} {s : List UInt8} (h : P.files s = none) : numP P s = P.made + 1 := by unfold numP; rw [h]
theorem newP_put {P : Pd} {s : List UInt8} (h : P.files s = none) (i : Nat) (p : List UInt8) : putP (newP P s) s i p = putP P s i p := by
  have h1 : (newP P s).files s = some (P.made + 1) := by show upd P.files s _ s = _; unfold upd; rw [if_pos rfl]
  have h2 : numP (newP P s) s = P.made + 1 := by unfold numP; rw [h1]
  have h3 := newP_num h
  unfold putP
  rw [h2, h3]
  show Pd.mk _ (upd (upd P.files s (some (P.made + 1))) s (some (P.made + 1))) (max (P.made + 1) (P.made + 1)) _ _ _ _ _ _ _ _ _ = _
  rw [show max (P.made + 1) (P.made + 1) = max P.made (P.made + 1) by omega, upd_same (q := upd P.files s (some (P.made + 1))) (by unfold upd; rw [if_pos rfl])]
  rfl
theorem DiskR.named {w wA : World} {g N bf c1 p1 c2 p2 n : Nat} {S : Nat → Prop} {P : Pd} {lv : Value} {q : List UInt8 → Option Nat} (h : DiskR w g S P N bf c1 p1 c2 p2 lv) (hg : w.grownBy wA (some bf)) (hf : MapF filK wA bf n q) (hn : n ≤ N)
    (hfit : Fits { P with files := q } N) : DiskR wA g S { P with files := q } N bf c1 p1 c2 p2 lv := by
  obtain ⟨i1, i2, i3, i4, i5, i6⟩ := h.ins
  obtain ⟨n1, n2, n3, n4, n5⟩ := h.neg
  obtain ⟨m1, m2, m3, m4⟩ := h.nef
  obtain ⟨j, hsf, hj⟩ := h.safe
  have hb : ∀ b, S b → b ≠ bf → wA.heap[b]? = w.heap[b]? := fun b hS hne => hg.block b (h.lt b hS) (fun e => hne (by injection e))
  exact ⟨hfit, (hb g i1 n1).trans h.row, ⟨n, hf, hn⟩, h.now.heap (hb c1 i3 (fun e => m1 e.symm)) (hb p1 i4 (fun e => m2 e.symm)), ⟨j, hsf.heap (hb c2 i5 (fun e => m3 e.symm)) (hb p2 i6 (fun e => m4 e.symm)), hj⟩,
    row_kept h.late (fun b hb2 => hb b (h.inl b hb2) (h.nel b hb2).2.1), h.neg, h.nef, h.nes, h.nel, h.ins, h.inl, fun k hk => Nat.lt_of_lt_of_le (h.lt k hk) hg.size⟩

set_option maxRecDepth 100000 in
set_option maxHeartbeats 4000000 in
theorem putd_some (g N : Nat) (S : Nat → Prop) (P : Pd) (s bs : List UInt8) (i : Nat) (b : Value) (w : World) (h : Rep w g S P N) (hs : s.length ≤ 140737488355328) (hb : Sl w w.heap.size b bs) (hbs : bs.length ≤ 512) (hbS : 0 < bs.length → ∀ A n c, b = .slice (some A) n c → ¬ S A.block)
    (hi : i < 4096) (hr : P.nn + (i + 1 - (P.now (numP P s)).length) ≤ P.room) (hN : N < 137438953472) (k : Nat) (hq : P.files s = some k) :
    Calls Tryz.prog 134 #[.pointer (some ⟨g, 0, none⟩), .string ⟨s.toArray⟩, .int .i64 i, b] w (Makes g S (putP P s i (pad bs)) (N + 1) (.tuple #[]) w) := by
  obtain ⟨bf, c1, p1, c2, p2, lv, h⟩ := h
  have hfit := putP_fits h.fits hN (pad_len hbs) hi hr
  have d1 : w.cell? ⟨g, 1, none⟩ = some (.map (some bf)) := cell_of_row _ _ _ _ _ _ h.row
  have d2 : w.cell? ⟨g, 2, none⟩ = some (.int .i64 P.made) := cell_of_row _ _ _ _ _ _ h.row
  have f2 := h.frozen 2
  obtain ⟨n, hf, hnN⟩ := h.fil
  have hl := fil_look hf (s := s) (by simp only [maxLen]; omega)
  have hmade := h.fits.made
  have hnum := numP_le h.fits s
  have H := Lib.hid h
  have HF := Lib.hid hf
  have HB := Lib.hid hb
  have HBS := Lib.hid hbS
  have HFIT := Lib.hid hfit
  clear h hf hb hbS hfit
  rw [hq] at hl
  have hk : numP P s = k := by unfold numP; rw [hq]
  obtain ⟨C, hC⟩ : ∃ C, wv k i nought = C := ⟨_, rfl⟩
  have hz : (Tryz.zeroCells126.setIfInBounds 0 (.int .i64 k)).setIfInBounds 1 (.int .i64 i) = C := by rw [zero_pw, ← hC]; rfl
  have hzl : (Tryz.zeroCells126.toList.set 0 (.int .i64 k)).set 1 (.int .i64 i) = C.toList := by rw [zero_pw, ← hC]; rfl
  have hst : ∀ w' : World, (storeCells ⟨w'.heap.size, 0, none⟩ C.toList 0).run Tryz.prog (w'.alloc (.cells Tryz.zeroCells126 126)) = .ok () (w'.alloc (.cells C 126)) := fun w' => by
    rw [← hC]
    exact run_storeCells_new (P := Tryz.prog) w' 126 _ _ (by rw [wv_size k i nought_len]; kernel_rfl) (by rw [zero_pw, wv_size _ _ nought_len, wv_size _ _ nought_len]) (all_oneCell_toArray (wv_one k i nought))
  have hsz : C.size = 514 := by rw [← hC]; exact wv_size k i nought_len
  have HCC := Lib.hid hC
  clear hC
  go_enter Tryz.func134, Tryz.ntmps134
  go_wp2_with (first | (refine wp_copy_pad rfl _ _ rfl w.heap.size k i (by rw [HCC.out]; exact heap_alloc_new _ _) rfl _ w.heap.size bs rfl (HB.out.below ((Below.refl _ _).alloc (Nat.le_refl _) _)) hbs ?hK) | fail)
  intro w3 v3 hr3 hg3
  obtain ⟨C3, hC3⟩ : ∃ C3, wv k i (pad bs) = C3 := ⟨_, rfl⟩
  rw [hC3] at hr3
  have hsz3 : C3.size = 514 := by rw [← hC3]; exact wv_size k i (pad_len hbs)
  have hA3 : Apart S w w3 := ((Apart.refl S w).alloc (.cells C 126)).step hg3 (fun j e => by injection e with e; exact .inr (by omega))
  have hs3 : w.heap.size < w3.heap.size := by have := hg3.size; simp at this; omega
  have hd3 : DiskR w3 g S P N bf c1 p1 c2 p2 lv := H.out.keep (fun b hS => (hg3.block b (by have := H.out.lt b hS; simp; omega) (by have := H.out.lt b hS; simp; omega)).trans (Below.heap_alloc _ _ _ (H.out.lt b hS))) (by omega)
  clear hz hzl hst hsz d1 d2 f2 hl
  have e3 : w3.cell? ⟨g, 3, none⟩ = some (.map (some c1)) := cell_of_row _ _ _ _ _ _ hd3.row
  have e4 : w3.cell? ⟨g, 4, none⟩ = some (.map (some p1)) := cell_of_row _ _ _ _ _ _ hd3.row
  have HR3 := Lib.hid hr3
  have HA3 := Lib.hid hA3
  have HK3 : Hid (∀ b, S b → w3.heap[b]? = w.heap[b]?) := fun b hS => (hg3.block b (by have := H.out.lt b hS; simp; omega) (by have := H.out.lt b hS; simp; omega)).trans (Below.heap_alloc _ _ _ (H.out.lt b hS))
  have HD3 := Lib.hid hd3
  have HC3 := Lib.hid hC3
  clear hr3 hA3 hd3 hg3 hC3
  have hh3 : w3.heap[w.heap.size]? = some (.cells C3 126) ∧ w3.cell? ⟨g, 3, none⟩ = some (.map (some c1)) ∧ w3.cell? ⟨g, 4, none⟩ = some (.map (some p1)) := ⟨HR3.out, e3, e4⟩
  go_wp2_with fail
  refine wp_region_held_drew (S := fun W => W.heap[w.heap.size]? = some (.cells C3 126) ∧ W.cell? ⟨g, 3, none⟩ = some (.map (some c1)) ∧ W.cell? ⟨g, 4, none⟩ = some (.map (some p1))) (by kernel_rfl) hh3 (fun hS => ?_)
  refine wpAnyH_take (i := 4) (v := .agg C3) rfl (by kernel_rfl) (by kernel_rfl) (by kernel_rfl) (fun _ _ _ h => h) (yieldsIf_load_pw (by rfl) _ rfl w.heap.size rfl hsz3 (fun _ hW => hW.1)) hS ?_
  try simp only [Act.put, List.getElem_toArray, List.getElem_cons_succ, List.getElem_cons_zero, List.setIfInBounds_toArray, List.set_cons_zero, List.set_cons_succ]
  refine wpAnyH_take (i := 0) (v := .pointer (some ⟨g, 0, none⟩)) rfl (by kernel_rfl) (by kernel_rfl) (by kernel_rfl) (fun _ _ _ h => h) (Or.inl ⟨by rfl, fun W hW => by obtain ⟨_, hW3, hW4⟩ := hW; go_simp⟩) hS ?_
  try simp only [Act.put, List.getElem_toArray, List.getElem_cons_zero, List.setIfInBounds_toArray, List.set_cons_zero, List.set_cons_succ]
  refine wpAnyH_take (i := 1) (v := .pointer (some ⟨g, 0, none⟩)) rfl (by kernel_rfl) (by kernel_rfl) (by kernel_rfl) (fun _ _ _ h => h) (Or.inl ⟨by rfl, fun W hW => by obtain ⟨_, hW3, hW4⟩ := hW; go_simp⟩) hS ?_
  try simp only [Act.put, List.getElem_toArray, List.getElem_cons_succ, List.getElem_cons_zero, List.setIfInBounds_toArray, List.set_cons_zero, List.set_cons_succ]
  refine wpAnyH_take (i := 2) (v := .pointer (some ⟨g, 3, none⟩)) rfl (by kernel_rfl) (by kernel_rfl) (by kernel_rfl) (fun _ _ _ h => h) (Or.inl ⟨by rfl, fun W hW => by obtain ⟨_, hW3, hW4⟩ := hW; go_simp⟩) hS ?_
  try simp only [Act.put, List.getElem_toArray, List.getElem_cons_succ, List.getElem_cons_zero, List.setIfInBounds_toArray, List.set_cons_zero, List.set_cons_succ]
  refine wpAnyH_take (i := 3) (v := .agg #[.map (some c1), .map (some p1)]) rfl (by kernel_rfl) (by kernel_rfl) (by kernel_rfl) (fun _ _ _ h => h) (Or.inl ⟨by rfl, fun W hW => by obtain ⟨_, hW3, hW4⟩ := hW; go_simp⟩) hS ?_
  try simp only [Act.put, List.getElem_toArray, List.getElem_cons_succ, List.getElem_cons_zero, List.setIfInBounds_toArray, List.set_cons_zero, List.set_cons_succ]
  refine wpAnyH_ready (rs := [5]) (by kernel_rfl) (by simp) ?_
  refine AllReadyH.cons rfl (fun K hK => ?_) AllReadyH.nil
  rw [if_pos (by rfl)]
  go_simp
  rw [← HC3.out]
  refine (sideput_any c1 p1 k i (pad bs) P.now P.nn N w3.drew (HD3.out.now.heap rfl rfl) (pad_len hbs) (by unfold lim; omega) (by omega) (by have := HD3.out.fits.now k; omega) (by have := HD3.out.fits.nns; have := HD3.out.fits.room; unfold lim; omega) (by unfold lim; omega)).mono ?_
  rintro e w4 ⟨rfl, hsd4, ha4⟩
  have hg1 := HD3.out.neg
  have hlg := HD3.out.lt g HD3.out.ins.1
  have hlw := HD3.out.lt c1 HD3.out.ins.2.2.1
  have hlp := HD3.out.lt p1 HD3.out.ins.2.2.2.1
  have hwc := H.out.lt c1 H.out.ins.2.2.1
  have hwp := H.out.lt p1 H.out.ins.2.2.2.1
  have hrow4 : w4.heap[g]? = some (.cells (dcells P bf c1 p1 c2 p2 lv) 73) := (ha4.block g hlg (by rintro (e | e) <;> omega)).trans HD3.out.row
  have hc34 : w4.heap[w.heap.size]? = some (.cells C3 126) := (ha4.block w.heap.size hs3 (by rintro (e | e) <;> omega)).trans HR3.out
  refine hK.out _ _ ⟨hc34, cell_of_row _ _ _ _ _ _ hrow4, cell_of_row _ _ _ _ _ _ hrow4⟩ (fun hS4 => ?_)
  refine wpAnyH_done (by kernel_rfl) ?_ _
  try simp only [Act.put, List.getElem_toArray, List.getElem_cons_succ, List.getElem_cons_zero, List.setIfInBounds_toArray, List.set_cons_zero, List.set_cons_succ]
  have ha04 : Apart S w w4 := HA3.out.drew.trans (ha4.mono (by rintro b (rfl | rfl); exact .inl H.out.ins.2.2.1; exact .inl H.out.ins.2.2.2.1))
  have hk4 : ∀ b, S b → b ≠ g → b ≠ bf → b ≠ c1 → b ≠ p1 → w4.heap[b]? = w.heap[b]? := fun b hS _ _ h3 h4 => (ha4.block b (HD3.out.lt b hS) (by rintro (e | e); exact h3 e; exact h4 e)).trans (HK3.out b hS)
  have hfl4 : MapF filK w4 bf n (upd P.files s (some k)) := by
    rw [upd_same hq]
    exact HF.out.heap ((ha4.block bf (HD3.out.lt bf HD3.out.ins.2.1) (by have := HD3.out.nef; rintro (e | e); exact this.1 e; exact this.2.1 e)).trans (HK3.out bf H.out.ins.2.1))
  have hrow4' : w4.heap[g]? = some (.cells (dcells (putP P s i (pad bs)) bf c1 p1 c2 p2 lv) 73) := by
    rw [hrow4]
    have hmx : max P.made (numP P s) = P.made := by have := H.out.fits.files s k hq; omega
    show _ = some (Obj.cells #[_, _, .int .i64 ((max P.made (numP P s) : Nat) : Int), _, _, _, _, _, _, _, _, _] _ _)
    rw [hmx]
    rfl
  have HO4 : Hid ((w4.drew.alloc (.cells C3 126)).ownsRow 0 126 514 lv P.late.length (wcs P.late)) := row_kept H.out.late (fun b hb => by
    have hne := H.out.nel b hb
    have hSb := H.out.inl b hb
    exact (Below.heap_alloc w4.drew _ b (Nat.lt_of_lt_of_le (H.out.lt b hSb) ha04.size)).trans (hk4 b hSb hne.1 hne.2.1 hne.2.2.1 hne.2.2.2.1))
  have hfln4 : n ≤ N + 1 := by omega
  have hlen : P.late.length ≤ 137438953472 := by obtain ⟨_, _, h9⟩ := H.out.safe; omega
  have HA04 := Lib.hid ha04
  have HK4 := Lib.hid hk4
  have HFL4 := Lib.hid hfl4
  have HROW4' := Lib.hid hrow4'
  clear ha04 hk4 hfl4 hrow4'
  have HROW4 := Lib.hid hrow4
  have HC34 := Lib.hid hc34
  have HSD4 := Lib.hid hsd4
  have HA4 := Lib.hid ha4
  have c7 : w4.cell? ⟨g, 7, none⟩ = some lv := cell_of_row _ _ _ _ _ _ HROW4.out
  have c7d : w4.drew.cell? ⟨g, 7, none⟩ = some lv := c7
  have c7a : (w4.alloc (.cells C3 126)).drew.cell? ⟨g, 7, none⟩ = some lv := cell_kept ((Below.refl _ w4).alloc (Nat.le_refl _) _) c7
  have c7b : (w4.drew.alloc (.cells C3 126)).cell? ⟨g, 7, none⟩ = some lv := c7a
  clear hS4 hS hrow4 hc34 hsd4 ha4 hK K hh3 e3 e4
  go_wp2_with fail
  refine wp_region_any (by kernel_rfl) ?_
  change wpAny _ _ _ _ _ _ _ w4.drew
  refine wpAny_take (i := 0) (v := .pointer (some ⟨g, 0, none⟩)) rfl (by kernel_rfl) (by kernel_rfl) (by kernel_rfl) (fun _ _ _ h => h) (Or.inl ⟨by rfl, fun W => by go_simp⟩) ?_
  try simp only [Act.put, List.getElem_toArray, List.getElem_cons_zero, List.setIfInBounds_toArray, List.set_cons_zero, List.set_cons_succ]
  refine wpAny_take (i := 1) (v := .pointer (some ⟨g, 0, none⟩)) rfl (by kernel_rfl) (by kernel_rfl) (by kernel_rfl) (fun _ _ _ h => h) (Or.inl ⟨by rfl, fun W => by go_simp⟩) ?_
  try simp only [Act.put, List.getElem_toArray, List.getElem_cons_succ, List.getElem_cons_zero, List.setIfInBounds_toArray, List.set_cons_zero, List.set_cons_succ]
  refine wpAny_take (i := 2) (v := .pointer (some ⟨g, 0, none⟩)) rfl (by kernel_rfl) (by kernel_rfl) (by kernel_rfl) (fun _ _ _ h => h) (Or.inl ⟨by rfl, fun W => by go_simp⟩) ?_
  try simp only [Act.put, List.getElem_toArray, List.getElem_cons_succ, List.getElem_cons_zero, List.setIfInBounds_toArray, List.set_cons_zero, List.set_cons_succ]
  refine wpAny_take (i := 3) (v := .pointer (some ⟨g, 7, none⟩)) rfl (by kernel_rfl) (by kernel_rfl) (by kernel_rfl) (fun _ _ _ h => h) (Or.inl ⟨by rfl, fun W => by go_simp⟩) ?_
  try simp only [Act.put, List.getElem_toArray, List.getElem_cons_succ, List.getElem_cons_zero, List.setIfInBounds_toArray, List.set_cons_zero, List.set_cons_succ]
  refine wpAny_ready (rs := [4, 5]) (by kernel_rfl) (by simp) ?_
  refine AllReady.cons rfl (fun K hK => ?_) (AllReady.cons rfl (fun K hK => ?_) AllReady.nil)
  · rw [if_pos (by rfl)]
    go_simp
    refine hK _ _ ?_
    clear hK K
    try simp only [Act.put, List.getElem_toArray, List.getElem_cons_succ, List.getElem_cons_zero, List.setIfInBounds_toArray, List.set_cons_zero, List.set_cons_succ]
    refine wpAny_ready (rs := [5]) (by kernel_rfl) (by simp) ?_
    refine AllReady.cons rfl (fun K hK => ?_) AllReady.nil
    refine step_load_pw rfl _ rfl w.heap.size rfl hsz3 HC34.out ?_
    refine hK _ _ ?_
    clear hK K
    try simp only [Act.put, List.getElem_toArray, List.getElem_cons_succ, List.getElem_cons_zero, List.setIfInBounds_toArray, List.set_cons_zero, List.set_cons_succ]
    refine wpAny_ready (rs := [6]) (by kernel_rfl) (by simp) ?_
    refine AllReady.cons rfl (fun K hK => ?_) AllReady.nil
    refine step_build_pw rfl _ rfl rfl hsz3 ?_
    refine hK _ _ ?_
    clear hK K
    try simp only [Act.put, List.getElem_toArray, List.getElem_cons_succ, List.getElem_cons_zero, List.setIfInBounds_toArray, List.set_cons_zero, List.set_cons_succ]
    refine wpAny_ready (rs := [7]) (by kernel_rfl) (by simp) ?_
    refine AllReady.cons rfl (fun K hK => ?_) AllReady.nil
    refine step_append_pw rfl _ _ rfl lv P.late.length (wcs P.late) rfl HO4.out w4.heap.size k i (pad bs) (pad_len hbs) rfl (by rw [HC3.out]; exact heap_alloc_new w4.drew _) hlen ?_
    intro v5 w5 ho5 hg5 hb5
    have hend := putd_end H.out HFIT.out hk HA04.out HK4.out HROW4'.out HSD4.out HFL4.out hfln4 ho5 hg5 hb5
    have d7 : w5.cell? ⟨g, 7, none⟩ = some lv := cell_of_row _ _ _ _ _ _ hend.1
    have f7 : w5.frozen? ⟨g, 7, none⟩ = false := by simp [World.frozen?, hend.1]
    have hown7 := own_one ho5
    have HEND := Lib.hid hend.2
    clear hend ho5 hg5 hb5
    refine hK _ _ ?_
    clear hK K
    try simp only [Act.put, List.getElem_toArray, List.getElem_cons_succ, List.getElem_cons_zero, List.setIfInBounds_toArray, List.set_cons_zero, List.set_cons_succ]
    refine wpAny_take (i := 8) (v := .pointer (some ⟨g, 0, none⟩)) rfl (by kernel_rfl) (by kernel_rfl) (by kernel_rfl) (fun _ _ _ h => h) (Or.inl ⟨by rfl, fun W => by go_simp⟩) ?_
    try simp only [Act.put, List.getElem_toArray, List.getElem_cons_succ, List.getElem_cons_zero, List.setIfInBounds_toArray, List.set_cons_zero, List.set_cons_succ]
    refine wpAny_take (i := 9) (v := .pointer (some ⟨g, 7, none⟩)) rfl (by kernel_rfl) (by kernel_rfl) (by kernel_rfl) (fun _ _ _ h => h) (Or.inl ⟨by rfl, fun W => by go_simp⟩) ?_
    try simp only [Act.put, List.getElem_toArray, List.getElem_cons_succ, List.getElem_cons_zero, List.setIfInBounds_toArray, List.set_cons_zero, List.set_cons_succ]
    refine wpAny_ready (rs := [10]) (by kernel_rfl) (by simp) ?_
    refine AllReady.cons rfl (fun K hK => ?_) AllReady.nil
    rw [if_pos (by rfl)]
    obtain ⟨va, vn, vc, rfl⟩ := hown7
    go_simp
    refine hK _ _ ?_
    refine wpAny_done (by kernel_rfl) ?_ _
    go_wp2_with fail
    go_end0
    exact ⟨rfl, ⟨_, _, _, _, _, _, HEND.out.1⟩, HEND.out.2⟩
  · refine step_load_pw rfl _ rfl w.heap.size rfl hsz3 HC34.out ?_
    refine hK _ _ ?_
    clear hK K
    try simp only [Act.put, List.getElem_toArray, List.getElem_cons_succ, List.getElem_cons_zero, List.setIfInBounds_toArray, List.set_cons_zero, List.set_cons_succ]
    refine wpAny_ready (rs := [4, 6]) (by kernel_rfl) (by simp) ?_
    refine AllReady.cons rfl (fun K hK => ?_) (AllReady.cons rfl (fun K hK => ?_) AllReady.nil)
    · rw [if_pos (by rfl)]
      go_simp
      refine hK _ _ ?_
      clear hK K
      try simp only [Act.put, List.getElem_toArray, List.getElem_cons_succ, List.getElem_cons_zero, List.setIfInBounds_toArray, List.set_cons_zero, List.set_cons_succ]
      refine wpAny_ready (rs := [6]) (by kernel_rfl) (by simp) ?_
      refine AllReady.cons rfl (fun K hK => ?_) AllReady.nil
      refine step_build_pw rfl _ rfl rfl hsz3 ?_
      refine hK _ _ ?_
      clear hK K
      try simp only [Act.put, List.getElem_toArray, List.getElem_cons_succ, List.getElem_cons_zero, List.setIfInBounds_toArray, List.set_cons_zero, List.set_cons_succ]
      refine wpAny_ready (rs := [7]) (by kernel_rfl) (by simp) ?_
      refine AllReady.cons rfl (fun K hK => ?_) AllReady.nil
      refine step_append_pw rfl _ _ rfl lv P.late.length (wcs P.late) rfl HO4.out w4.heap.size k i (pad bs) (pad_len hbs) rfl (by rw [HC3.out]; exact heap_alloc_new w4.drew _) hlen ?_
      intro v5 w5 ho5 hg5 hb5
      have hend := putd_end H.out HFIT.out hk HA04.out HK4.out HROW4'.out HSD4.out HFL4.out hfln4 ho5 hg5 hb5
      have d7 : w5.cell? ⟨g, 7, none⟩ = some lv := cell_of_row _ _ _ _ _ _ hend.1
      have f7 : w5.frozen? ⟨g, 7, none⟩ = false := by simp [World.frozen?, hend.1]
      have hown7 := own_one ho5
      have HEND := Lib.hid hend.2
      clear hend ho5 hg5 hb5
      refine hK _ _ ?_
      clear hK K
      try simp only [Act.put, List.getElem_toArray, List.getElem_cons_succ, List.getElem_cons_zero, List.setIfInBounds_toArray, List.set_cons_zero, List.set_cons_succ]
      refine wpAny_take (i := 8) (v := .pointer (some ⟨g, 0, none⟩)) rfl (by kernel_rfl) (by kernel_rfl) (by kernel_rfl) (fun _ _ _ h => h) (Or.inl ⟨by rfl, fun W => by go_simp⟩) ?_
      try simp only [Act.put, List.getElem_toArray, List.getElem_cons_succ, List.getElem_cons_zero, List.setIfInBounds_toArray, List.set_cons_zero, List.set_cons_succ]
      refine wpAny_take (i := 9) (v := .pointer (some ⟨g, 7, none⟩)) rfl (by kernel_rfl) (by kernel_rfl) (by kernel_rfl) (fun _ _ _ h => h) (Or.inl ⟨by rfl, fun W => by go_simp⟩) ?_
      try simp only [Act.put, List.getElem_toArray, List.getElem_cons_succ, List.getElem_cons_zero, List.setIfInBounds_toArray, List.set_cons_zero, List.set_cons_succ]
      refine wpAny_ready (rs := [10]) (by kernel_rfl) (by simp) ?_
      refine AllReady.cons rfl (fun K hK => ?_) AllReady.nil
      rw [if_pos (by rfl)]
      obtain ⟨va, vn, vc, rfl⟩ := hown7
      go_simp
      refine hK _ _ ?_
      refine wpAny_done (by kernel_rfl) ?_ _
      go_wp2_with fail
      go_end0
      exact ⟨rfl, ⟨_, _, _, _, _, _, HEND.out.1⟩, HEND.out.2⟩
    · refine step_build_pw rfl _ rfl rfl hsz3 ?_
      refine hK _ _ ?_
      clear hK K
      try simp only [Act.put, List.getElem_toArray, List.getElem_cons_succ, List.getElem_cons_zero, List.setIfInBounds_toArray, List.set_cons_zero, List.set_cons_succ]
      refine wpAny_ready (rs := [4]) (by kernel_rfl) (by simp) ?_
      refine AllReady.cons rfl (fun K hK => ?_) AllReady.nil
      rw [if_pos (by rfl)]
      go_simp
      refine hK _ _ ?_
      clear hK K
      try simp only [Act.put, List.getElem_toArray, List.getElem_cons_succ, List.getElem_cons_zero, List.setIfInBounds_toArray, List.set_cons_zero, List.set_cons_succ]
      refine wpAny_ready (rs := [7]) (by kernel_rfl) (by simp) ?_
      refine AllReady.cons rfl (fun K hK => ?_) AllReady.nil
      refine step_append_pw rfl _ _ rfl lv P.late.length (wcs P.late) rfl HO4.out w4.heap.size k i (pad bs) (pad_len hbs) rfl (by rw [HC3.out]; exact heap_alloc_new w4.drew _) hlen ?_
      intro v5 w5 ho5 hg5 hb5
      have hend := putd_end H.out HFIT.out hk HA04.out HK4.out HROW4'.out HSD4.out HFL4.out hfln4 ho5 hg5 hb5
      have d7 : w5.cell? ⟨g, 7, none⟩ = some lv := cell_of_row _ _ _ _ _ _ hend.1
      have f7 : w5.frozen? ⟨g, 7, none⟩ = false := by simp [World.frozen?, hend.1]
      have hown7 := own_one ho5
      have HEND := Lib.hid hend.2
      clear hend ho5 hg5 hb5
      refine hK _ _ ?_
      clear hK K
      try simp only [Act.put, List.getElem_toArray, List.getElem_cons_succ, List.getElem_cons_zero, List.setIfInBounds_toArray, List.set_cons_zero, List.set_cons_succ]
      refine wpAny_take (i := 8) (v := .pointer (some ⟨g, 0, none⟩)) rfl (by kernel_rfl) (by kernel_rfl) (by kernel_rfl) (fun _ _ _ h => h) (Or.inl ⟨by rfl, fun W => by go_simp⟩) ?_
      try simp only [Act.put, List.getElem_toArray, List.getElem_cons_succ, List.getElem_cons_zero, List.setIfInBounds_toArray, List.set_cons_zero, List.set_cons_succ]
      refine wpAny_take (i := 9) (v := .pointer (some ⟨g, 7, none⟩)) rfl (by kernel_rfl) (by kernel_rfl) (by kernel_rfl) (fun _ _ _ h => h) (Or.inl ⟨by rfl, fun W => by go_simp⟩) ?_
      try simp only [Act.put, List.getElem_toArray, List.getElem_cons_succ, List.getElem_cons_zero, List.setIfInBounds_toArray, List.set_cons_zero, List.set_cons_succ]
      refine wpAny_ready (rs := [10]) (by kernel_rfl) (by simp) ?_
      refine AllReady.cons rfl (fun K hK => ?_) AllReady.nil
      rw [if_pos (by rfl)]
      obtain ⟨va, vn, vc, rfl⟩ := hown7
      go_simp
      refine hK _ _ ?_
      refine wpAny_done (by kernel_rfl) ?_ _
      go_wp2_with fail
      go_end0
      exact ⟨rfl, ⟨_, _, _, _, _, _, HEND.out.1⟩, HEND.out.2⟩

theorem makes_up {g N : Nat} {S : Nat → Prop} {P : Pd} {v : Value} {w0 w w' : World} {e : Ending} (ha : Apart S w0 w) (h : Makes g S P N v w e w') : Makes g S P N v w0 e w' := by
  obtain ⟨h1, h2, h3⟩ := h
  have hs := ha.size
  have hsub : ∀ k, since S w w' k → since S w0 w' k := fun k hk => hk.elim .inl (fun hk => .inr ⟨by omega, hk.2⟩)
  exact ⟨h1, h2.more hsub (fun k hk => hk.elim (fun hk => h2.lt k (.inl hk)) (fun hk => hk.2)), ⟨h3.os.trans ha.os, h3.tape.trans ha.tape, h3.output.trans ha.output, Nat.le_trans ha.size h3.size, fun k hk hn => (h3.block k (by omega) hn).trans (ha.block k hk hn)⟩⟩
theorem Sl.apart {w w' : World} {B : Nat} {v : Value} {bs : List UInt8} {S : Nat → Prop} (h : Sl w B v bs) (hA : Apart S w w') (hS : 0 < bs.length → ∀ A n c, v = .slice (some A) n c → ¬ S A.block) (hB : B ≤ w.heap.size) : Sl w' B v bs := by
  obtain ⟨A, c, h1, h2, h3, h4, h5, h6⟩ := h
  refine ⟨A, c, h1, h2, h3, h4, h5, fun ad e j u hu => ?_⟩
  have hj : j < bs.length := by
    have := (List.getElem?_eq_some_iff.1 hu).1
    rwa [vb_length] at this
  have hlt := h5 ad e (by omega)
  rw [hA.cell (by rw [block_of_add]; omega) (by rw [block_of_add]; exact hS (by omega) ad _ _ (by rw [h1, e]))]
  exact h6 ad e j u hu

set_option maxRecDepth 100000 in
set_option maxHeartbeats 4000000 in
theorem putd_none (g N0 : Nat) (S : Nat → Prop) (P0 : Pd) (s bs : List UInt8) (i : Nat) (b : Value) (w0 : World) (h0 : Rep w0 g S P0 N0) (hs : s.length ≤ 140737488355328) (hb : Sl w0 w0.heap.size b bs) (hbs : bs.length ≤ 512) (hbS : 0 < bs.length → ∀ A n c, b = .slice (some A) n c → ¬ S A.block)
    (hi : i < 4096) (hr0 : P0.nn + (i + 1 - (P0.now (numP P0 s)).length) ≤ P0.room) (hN : N0 + 1 < 137438953472) (hq0 : P0.files s = none) :
    Calls Tryz.prog 134 #[.pointer (some ⟨g, 0, none⟩), .string ⟨s.toArray⟩, .int .i64 i, b] w0 (Makes g S (putP P0 s i (pad bs)) (N0 + 2) (.tuple #[]) w0) := by
  obtain ⟨bf, c1, p1, c2, p2, lv, h⟩ := h0
  have d1 : w0.cell? ⟨g, 1, none⟩ = some (.map (some bf)) := cell_of_row _ _ _ _ _ _ h.row
  have d2 : w0.cell? ⟨g, 2, none⟩ = some (.int .i64 P0.made) := cell_of_row _ _ _ _ _ _ h.row
  have f2 := h.frozen 2
  obtain ⟨n0, hf, hnN⟩ := h.fil
  have hl := fil_look hf (s := s) (by simp only [maxLen]; omega)
  have hmade := h.fits.made
  rw [hq0] at hl
  have hfitN := newP_fits h.fits (by omega) s
  have hd1 := (h.mono (Nat.le_succ N0) (by omega)).cell 2 (.int .i64 ((P0.made + 1 : Nat) : Int)) { P0 with made := P0.made + 1 } rfl ⟨rfl, rfl, rfl, rfl, rfl, rfl⟩ ⟨hfitN.top, hfitN.room, hfitN.made, hfitN.acts, hfitN.fuse, hfitN.keep, hfitN.late, hfitN.now, hfitN.safe, hfitN.nns, hfitN.nss, fun t k ht => by have := h.fits.files t k ht; show k ≤ P0.made + 1; omega, hfitN.fresh⟩
  have hneg0 := h.neg.1
  have hf1 : MapF filK (w0.setCell ⟨g, 2, none⟩ (.int .i64 ((P0.made + 1 : Nat) : Int))) bf n0 P0.files := hf.setCell (fun e => hneg0 e.symm) _
  have e1 : (w0.setCell ⟨g, 2, none⟩ (.int .i64 ((P0.made : Int) + 1))).cell? ⟨g, 1, none⟩ = some (.map (some bf)) := by rw [World.cell?_setCell_other _ _ _ _ (by simp)]; exact d1
  have H0 := Lib.hid h
  have HD1 := Lib.hid hd1
  have HF1 := Lib.hid hf1
  have HB0 := Lib.hid hb
  have HBS := Lib.hid hbS
  have HFN := Lib.hid hfitN
  have HRR := Lib.hid hr0
  clear h hd1 hf hf1 hb hbS hfitN hr0
  go_enter Tryz.func134, Tryz.ntmps134
  go_wp2_with (first | (refine wp_store filK rfl _ _ _ rfl bf n0 P0.files rfl HF1.out (by unfold maxLen; omega) s rfl (by simp only [filK, maxLen]; omega) (P0.made + 1) rfl trivial (n0 + 1) (by rw [hq0]; rfl) ?hF) | fail)
  intro w hfw hgw
  obtain ⟨k, hkd⟩ : ∃ k, P0.made + 1 = k := ⟨_, rfl⟩
  have hkz : (P0.made : Int) + 1 = (k : Int) := by omega
  have hPP := newP_put hq0 i (pad bs)
  have hnum0 := newP_num hq0
  have hfiles : (newP P0 s).files = upd P0.files s (some k) := by rw [← hkd]; rfl
  have hnnP : (newP P0 s).nn = P0.nn ∧ (newP P0 s).now = P0.now ∧ (newP P0 s).room = P0.room ∧ (newP P0 s).made = k := ⟨rfl, rfl, rfl, hkd⟩
  have hH : DiskR w g S (newP P0 s) (N0 + 1) bf c1 p1 c2 p2 lv := HD1.out.named hgw hfw (by omega) HFN.out
  have hA0 : Apart S w0 w := (apart_setCell (Apart.refl S w0) (a := ⟨g, 2, none⟩) H0.out.ins.1 _).step hgw (fun j e => by injection e with e; rw [← e]; exact .inl H0.out.ins.2.1)
  have hz0 : Hid (∀ j, since S w w j → S j) := fun j e => e.elim id (fun e => by omega)
  have hBw := HB0.out.apart hA0 HBS.out (Nat.le_refl _)
  have hRR := HRR.out
  rw [hnum0, hkd, ← hnnP.1, ← hnnP.2.1, ← hnnP.2.2.1] at hRR
  rw [hkd] at hfw
  have HPP := Lib.hid hPP
  simp only [hkz]
  have hmadeP := hnnP.2.2.2
  clear hnnP hPP
  generalize newP P0 s = P at *
  obtain ⟨N, hNN⟩ : ∃ N, N0 + 1 = N := ⟨_, rfl⟩
  rw [hNN] at hH
  have hq : P.files s = some k := by rw [hfiles]; unfold upd; rw [if_pos rfl]
  have hk : numP P s = k := by unfold numP; rw [hq]
  obtain ⟨n, hnn0⟩ : ∃ n, n0 + 1 = n := ⟨_, rfl⟩
  have hnN : n ≤ N := by omega
  rw [hnn0, ← hfiles] at hfw
  have hr : P.nn + (i + 1 - (P.now (numP P s)).length) ≤ P.room := by rw [hk]; exact hRR
  have hN : N < 137438953472 := by omega
  have HFIT := Lib.hid (putP_fits hH.fits hN (pad_len hbs) hi hr)
  have hmade := hH.fits.made
  have hnum := numP_le hH.fits s
  have HB : Hid (Sl w w.heap.size b bs) := hBw.more hA0.size
  have H := Lib.hid hH
  have HF := Lib.hid hfw
  have HA0 := Lib.hid hA0
  have d1 : True := trivial
  have d2 : True := trivial
  have f2x : True := trivial
  have hlx : True := trivial
  clear hH hfw hgw hA0 hBw hRR d1 d2 f2 hl e1 HD1 HF1 HFN HRR
  have d1 : True := trivial
  have d2 : True := trivial
  have f2 : True := trivial
  have hl : True := trivial
  obtain ⟨C, hC⟩ : ∃ C, wv k i nought = C := ⟨_, rfl⟩
  have hz : (Tryz.zeroCells126.setIfInBounds 0 (.int .i64 k)).setIfInBounds 1 (.int .i64 i) = C := by rw [zero_pw, ← hC]; rfl
  have hzl : (Tryz.zeroCells126.toList.set 0 (.int .i64 k)).set 1 (.int .i64 i) = C.toList := by rw [zero_pw, ← hC]; rfl
  have hst : ∀ w' : World, (storeCells ⟨w'.heap.size, 0, none⟩ C.toList 0).run Tryz.prog (w'.alloc (.cells Tryz.zeroCells126 126)) = .ok () (w'.alloc (.cells C 126)) := fun w' => by
    rw [← hC]
    exact run_storeCells_new (P := Tryz.prog) w' 126 _ _ (by rw [wv_size k i nought_len]; kernel_rfl) (by rw [zero_pw, wv_size _ _ nought_len, wv_size _ _ nought_len]) (all_oneCell_toArray (wv_one k i nought))
  have hsz : C.size = 514 := by rw [← hC]; exact wv_size k i nought_len
  have HCC := Lib.hid hC
  clear hC
  go_wp2_with (first | (refine wp_copy_pad rfl _ _ rfl w.heap.size k i (by rw [HCC.out]; exact heap_alloc_new _ _) rfl _ w.heap.size bs rfl (HB.out.below ((Below.refl _ _).alloc (Nat.le_refl _) _)) hbs ?hK) | fail)
  intro w3 v3 hr3 hg3
  obtain ⟨C3, hC3⟩ : ∃ C3, wv k i (pad bs) = C3 := ⟨_, rfl⟩
  rw [hC3] at hr3
  have hsz3 : C3.size = 514 := by rw [← hC3]; exact wv_size k i (pad_len hbs)
  have hA3 : Apart S w w3 := ((Apart.refl S w).alloc (.cells C 126)).step hg3 (fun j e => by injection e with e; exact .inr (by omega))
  have hs3 : w.heap.size < w3.heap.size := by have := hg3.size; simp at this; omega
  have hd3 : DiskR w3 g S P N bf c1 p1 c2 p2 lv := H.out.keep (fun b hS => (hg3.block b (by have := H.out.lt b hS; simp; omega) (by have := H.out.lt b hS; simp; omega)).trans (Below.heap_alloc _ _ _ (H.out.lt b hS))) (by omega)
  clear hz hzl hst hsz d1 d2 f2 hl
  have e3 : w3.cell? ⟨g, 3, none⟩ = some (.map (some c1)) := cell_of_row _ _ _ _ _ _ hd3.row
  have e4 : w3.cell? ⟨g, 4, none⟩ = some (.map (some p1)) := cell_of_row _ _ _ _ _ _ hd3.row
  have HR3 := Lib.hid hr3
  have HA3 := Lib.hid hA3
  have HK3 : Hid (∀ b, S b → w3.heap[b]? = w.heap[b]?) := fun b hS => (hg3.block b (by have := H.out.lt b hS; simp; omega) (by have := H.out.lt b hS; simp; omega)).trans (Below.heap_alloc _ _ _ (H.out.lt b hS))
  have HD3 := Lib.hid hd3
  have HC3 := Lib.hid hC3
  clear hr3 hA3 hd3 hg3 hC3
  have hh3 : w3.heap[w.heap.size]? = some (.cells C3 126) ∧ w3.cell? ⟨g, 3, none⟩ = some (.map (some c1)) ∧ w3.cell? ⟨g, 4, none⟩ = some (.map (some p1)) := ⟨HR3.out, e3, e4⟩
  go_wp2_with fail
  refine wp_region_held_drew (S := fun W => W.heap[w.heap.size]? = some (.cells C3 126) ∧ W.cell? ⟨g, 3, none⟩ = some (.map (some c1)) ∧ W.cell? ⟨g, 4, none⟩ = some (.map (some p1))) (by kernel_rfl) hh3 (fun hS => ?_)
  refine wpAnyH_take (i := 4) (v := .agg C3) rfl (by kernel_rfl) (by kernel_rfl) (by kernel_rfl) (fun _ _ _ h => h) (yieldsIf_load_pw (by rfl) _ rfl w.heap.size rfl hsz3 (fun _ hW => hW.1)) hS ?_
  try simp only [Act.put, List.getElem_toArray, List.getElem_cons_succ, List.getElem_cons_zero, List.setIfInBounds_toArray, List.set_cons_zero, List.set_cons_succ]
  refine wpAnyH_take (i := 0) (v := .pointer (some ⟨g, 0, none⟩)) rfl (by kernel_rfl) (by kernel_rfl) (by kernel_rfl) (fun _ _ _ h => h) (Or.inl ⟨by rfl, fun W hW => by obtain ⟨_, hW3, hW4⟩ := hW; go_simp⟩) hS ?_
  try simp only [Act.put, List.getElem_toArray, List.getElem_cons_zero, List.setIfInBounds_toArray, List.set_cons_zero, List.set_cons_succ]
  refine wpAnyH_take (i := 1) (v := .pointer (some ⟨g, 0, none⟩)) rfl (by kernel_rfl) (by kernel_rfl) (by kernel_rfl) (fun _ _ _ h => h) (Or.inl ⟨by rfl, fun W hW => by obtain ⟨_, hW3, hW4⟩ := hW; go_simp⟩) hS ?_
  try simp only [Act.put, List.getElem_toArray, List.getElem_cons_succ, List.getElem_cons_zero, List.setIfInBounds_toArray, List.set_cons_zero, List.set_cons_succ]
  refine wpAnyH_take (i := 2) (v := .pointer (some ⟨g, 3, none⟩)) rfl (by kernel_rfl) (by kernel_rfl) (by kernel_rfl) (fun _ _ _ h => h) (Or.inl ⟨by rfl, fun W hW => by obtain ⟨_, hW3, hW4⟩ := hW; go_simp⟩) hS ?_
  try simp only [Act.put, List.getElem_toArray, List.getElem_cons_succ, List.getElem_cons_zero, List.setIfInBounds_toArray, List.set_cons_zero, List.set_cons_succ]
  refine wpAnyH_take (i := 3) (v := .agg #[.map (some c1), .map (some p1)]) rfl (by kernel_rfl) (by kernel_rfl) (by kernel_rfl) (fun _ _ _ h => h) (Or.inl ⟨by rfl, fun W hW => by obtain ⟨_, hW3, hW4⟩ := hW; go_simp⟩) hS ?_
  try simp only [Act.put, List.getElem_toArray, List.getElem_cons_succ, List.getElem_cons_zero, List.setIfInBounds_toArray, List.set_cons_zero, List.set_cons_succ]
  refine wpAnyH_ready (rs := [5]) (by kernel_rfl) (by simp) ?_
  refine AllReadyH.cons rfl (fun K hK => ?_) AllReadyH.nil
  rw [if_pos (by rfl)]
  go_simp
  rw [← HC3.out]
  refine (sideput_any c1 p1 k i (pad bs) P.now P.nn N w3.drew (HD3.out.now.heap rfl rfl) (pad_len hbs) (by unfold lim; omega) (by omega) (by have := HD3.out.fits.now k; omega) (by have := HD3.out.fits.nns; have := HD3.out.fits.room; unfold lim; omega) (by unfold lim; omega)).mono ?_
  rintro e w4 ⟨rfl, hsd4, ha4⟩
  have hg1 := HD3.out.neg
  have hlg := HD3.out.lt g HD3.out.ins.1
  have hlw := HD3.out.lt c1 HD3.out.ins.2.2.1
  have hlp := HD3.out.lt p1 HD3.out.ins.2.2.2.1
  have hwc := H.out.lt c1 H.out.ins.2.2.1
  have hwp := H.out.lt p1 H.out.ins.2.2.2.1
  have hrow4 : w4.heap[g]? = some (.cells (dcells P bf c1 p1 c2 p2 lv) 73) := (ha4.block g hlg (by rintro (e | e) <;> omega)).trans HD3.out.row
  have hc34 : w4.heap[w.heap.size]? = some (.cells C3 126) := (ha4.block w.heap.size hs3 (by rintro (e | e) <;> omega)).trans HR3.out
  refine hK.out _ _ ⟨hc34, cell_of_row _ _ _ _ _ _ hrow4, cell_of_row _ _ _ _ _ _ hrow4⟩ (fun hS4 => ?_)
  refine wpAnyH_done (by kernel_rfl) ?_ _
  try simp only [Act.put, List.getElem_toArray, List.getElem_cons_succ, List.getElem_cons_zero, List.setIfInBounds_toArray, List.set_cons_zero, List.set_cons_succ]
  have ha04 : Apart S w w4 := HA3.out.drew.trans (ha4.mono (by rintro b (rfl | rfl); exact .inl H.out.ins.2.2.1; exact .inl H.out.ins.2.2.2.1))
  have hk4 : ∀ b, S b → b ≠ g → b ≠ bf → b ≠ c1 → b ≠ p1 → w4.heap[b]? = w.heap[b]? := fun b hS _ _ h3 h4 => (ha4.block b (HD3.out.lt b hS) (by rintro (e | e); exact h3 e; exact h4 e)).trans (HK3.out b hS)
  have hfl4 : MapF filK w4 bf n (upd P.files s (some k)) := by
    rw [upd_same hq]
    exact HF.out.heap ((ha4.block bf (HD3.out.lt bf HD3.out.ins.2.1) (by have := HD3.out.nef; rintro (e | e); exact this.1 e; exact this.2.1 e)).trans (HK3.out bf H.out.ins.2.1))
  have hrow4' : w4.heap[g]? = some (.cells (dcells (putP P s i (pad bs)) bf c1 p1 c2 p2 lv) 73) := by
    rw [hrow4]
    have hmx : max P.made (numP P s) = P.made := by have := H.out.fits.files s k hq; omega
    show _ = some (Obj.cells #[_, _, .int .i64 ((max P.made (numP P s) : Nat) : Int), _, _, _, _, _, _, _, _, _] _ _)
    rw [hmx]
    rfl
  have HO4 : Hid ((w4.drew.alloc (.cells C3 126)).ownsRow 0 126 514 lv P.late.length (wcs P.late)) := row_kept H.out.late (fun b hb => by
    have hne := H.out.nel b hb
    have hSb := H.out.inl b hb
    exact (Below.heap_alloc w4.drew _ b (Nat.lt_of_lt_of_le (H.out.lt b hSb) ha04.size)).trans (hk4 b hSb hne.1 hne.2.1 hne.2.2.1 hne.2.2.2.1))
  have hfln4 : n ≤ N + 1 := by omega
  have hlen : P.late.length ≤ 137438953472 := by obtain ⟨_, _, h9⟩ := H.out.safe; omega
  have HA04 := Lib.hid ha04
  have HK4 := Lib.hid hk4
  have HFL4 := Lib.hid hfl4
  have HROW4' := Lib.hid hrow4'
  clear ha04 hk4 hfl4 hrow4'
  have HROW4 := Lib.hid hrow4
  have HC34 := Lib.hid hc34
  have HSD4 := Lib.hid hsd4
  have HA4 := Lib.hid ha4
  have c7 : w4.cell? ⟨g, 7, none⟩ = some lv := cell_of_row _ _ _ _ _ _ HROW4.out
  have c7d : w4.drew.cell? ⟨g, 7, none⟩ = some lv := c7
  have c7a : (w4.alloc (.cells C3 126)).drew.cell? ⟨g, 7, none⟩ = some lv := cell_kept ((Below.refl _ w4).alloc (Nat.le_refl _) _) c7
  have c7b : (w4.drew.alloc (.cells C3 126)).cell? ⟨g, 7, none⟩ = some lv := c7a
  clear hS4 hS hrow4 hc34 hsd4 ha4 hK K hh3 e3 e4
  go_wp2_with fail
  refine wp_region_any (by kernel_rfl) ?_
  change wpAny _ _ _ _ _ _ _ w4.drew
  refine wpAny_take (i := 0) (v := .pointer (some ⟨g, 0, none⟩)) rfl (by kernel_rfl) (by kernel_rfl) (by kernel_rfl) (fun _ _ _ h => h) (Or.inl ⟨by rfl, fun W => by go_simp⟩) ?_
  try simp only [Act.put, List.getElem_toArray, List.getElem_cons_zero, List.setIfInBounds_toArray, List.set_cons_zero, List.set_cons_succ]
  refine wpAny_take (i := 1) (v := .pointer (some ⟨g, 0, none⟩)) rfl (by kernel_rfl) (by kernel_rfl) (by kernel_rfl) (fun _ _ _ h => h) (Or.inl ⟨by rfl, fun W => by go_simp⟩) ?_
  try simp only [Act.put, List.getElem_toArray, List.getElem_cons_succ, List.getElem_cons_zero, List.setIfInBounds_toArray, List.set_cons_zero, List.set_cons_succ]
  refine wpAny_take (i := 2) (v := .pointer (some ⟨g, 0, none⟩)) rfl (by kernel_rfl) (by kernel_rfl) (by kernel_rfl) (fun _ _ _ h => h) (Or.inl ⟨by rfl, fun W => by go_simp⟩) ?_
  try simp only [Act.put, List.getElem_toArray, List.getElem_cons_succ, List.getElem_cons_zero, List.setIfInBounds_toArray, List.set_cons_zero, List.set_cons_succ]
  refine wpAny_take (i := 3) (v := .pointer (some ⟨g, 7, none⟩)) rfl (by kernel_rfl) (by kernel_rfl) (by kernel_rfl) (fun _ _ _ h => h) (Or.inl ⟨by rfl, fun W => by go_simp⟩) ?_
  try simp only [Act.put, List.getElem_toArray, List.getElem_cons_succ, List.getElem_cons_zero, List.setIfInBounds_toArray, List.set_cons_zero, List.set_cons_succ]
  refine wpAny_ready (rs := [4, 5]) (by kernel_rfl) (by simp) ?_
  refine AllReady.cons rfl (fun K hK => ?_) (AllReady.cons rfl (fun K hK => ?_) AllReady.nil)
  · rw [if_pos (by rfl)]
    go_simp
    refine hK _ _ ?_
    clear hK K
    try simp only [Act.put, List.getElem_toArray, List.getElem_cons_succ, List.getElem_cons_zero, List.setIfInBounds_toArray, List.set_cons_zero, List.set_cons_succ]
    refine wpAny_ready (rs := [5]) (by kernel_rfl) (by simp) ?_
    refine AllReady.cons rfl (fun K hK => ?_) AllReady.nil
    refine step_load_pw rfl _ rfl w.heap.size rfl hsz3 HC34.out ?_
    refine hK _ _ ?_
    clear hK K
    try simp only [Act.put, List.getElem_toArray, List.getElem_cons_succ, List.getElem_cons_zero, List.setIfInBounds_toArray, List.set_cons_zero, List.set_cons_succ]
    refine wpAny_ready (rs := [6]) (by kernel_rfl) (by simp) ?_
    refine AllReady.cons rfl (fun K hK => ?_) AllReady.nil
    refine step_build_pw rfl _ rfl rfl hsz3 ?_
    refine hK _ _ ?_
    clear hK K
    try simp only [Act.put, List.getElem_toArray, List.getElem_cons_succ, List.getElem_cons_zero, List.setIfInBounds_toArray, List.set_cons_zero, List.set_cons_succ]
    refine wpAny_ready (rs := [7]) (by kernel_rfl) (by simp) ?_
    refine AllReady.cons rfl (fun K hK => ?_) AllReady.nil
    refine step_append_pw rfl _ _ rfl lv P.late.length (wcs P.late) rfl HO4.out w4.heap.size k i (pad bs) (pad_len hbs) rfl (by rw [HC3.out]; exact heap_alloc_new w4.drew _) hlen ?_
    intro v5 w5 ho5 hg5 hb5
    have hend := putd_end H.out HFIT.out hk HA04.out HK4.out HROW4'.out HSD4.out HFL4.out hfln4 ho5 hg5 hb5
    have d7 : w5.cell? ⟨g, 7, none⟩ = some lv := cell_of_row _ _ _ _ _ _ hend.1
    have f7 : w5.frozen? ⟨g, 7, none⟩ = false := by simp [World.frozen?, hend.1]
    have hown7 := own_one ho5
    have HEND := Lib.hid hend.2
    clear hend ho5 hg5 hb5
    refine hK _ _ ?_
    clear hK K
    try simp only [Act.put, List.getElem_toArray, List.getElem_cons_succ, List.getElem_cons_zero, List.setIfInBounds_toArray, List.set_cons_zero, List.set_cons_succ]
    refine wpAny_take (i := 8) (v := .pointer (some ⟨g, 0, none⟩)) rfl (by kernel_rfl) (by kernel_rfl) (by kernel_rfl) (fun _ _ _ h => h) (Or.inl ⟨by rfl, fun W => by go_simp⟩) ?_
    try simp only [Act.put, List.getElem_toArray, List.getElem_cons_succ, List.getElem_cons_zero, List.setIfInBounds_toArray, List.set_cons_zero, List.set_cons_succ]
    refine wpAny_take (i := 9) (v := .pointer (some ⟨g, 7, none⟩)) rfl (by kernel_rfl) (by kernel_rfl) (by kernel_rfl) (fun _ _ _ h => h) (Or.inl ⟨by rfl, fun W => by go_simp⟩) ?_
    try simp only [Act.put, List.getElem_toArray, List.getElem_cons_succ, List.getElem_cons_zero, List.setIfInBounds_toArray, List.set_cons_zero, List.set_cons_succ]
    refine wpAny_ready (rs := [10]) (by kernel_rfl) (by simp) ?_
    refine AllReady.cons rfl (fun K hK => ?_) AllReady.nil
    rw [if_pos (by rfl)]
    obtain ⟨va, vn, vc, rfl⟩ := hown7
    go_simp
    refine hK _ _ ?_
    refine wpAny_done (by kernel_rfl) ?_ _
    go_wp2_with fail
    go_end0
    exact makes_up HA0.out (by rw [← HPP.out, show N0 + 2 = N + 1 by omega]; exact ⟨rfl, ⟨_, _, _, _, _, _, HEND.out.1⟩, HEND.out.2⟩)
  · refine step_load_pw rfl _ rfl w.heap.size rfl hsz3 HC34.out ?_
    refine hK _ _ ?_
    clear hK K
    try simp only [Act.put, List.getElem_toArray, List.getElem_cons_succ, List.getElem_cons_zero, List.setIfInBounds_toArray, List.set_cons_zero, List.set_cons_succ]
    refine wpAny_ready (rs := [4, 6]) (by kernel_rfl) (by simp) ?_
    refine AllReady.cons rfl (fun K hK => ?_) (AllReady.cons rfl (fun K hK => ?_) AllReady.nil)
    · rw [if_pos (by rfl)]
      go_simp
      refine hK _ _ ?_
      clear hK K
      try simp only [Act.put, List.getElem_toArray, List.getElem_cons_succ, List.getElem_cons_zero, List.setIfInBounds_toArray, List.set_cons_zero, List.set_cons_succ]
      refine wpAny_ready (rs := [6]) (by kernel_rfl) (by simp) ?_
      refine AllReady.cons rfl (fun K hK => ?_) AllReady.nil
      refine step_build_pw rfl _ rfl rfl hsz3 ?_
      refine hK _ _ ?_
      clear hK K
      try simp only [Act.put, List.getElem_toArray, List.getElem_cons_succ, List.getElem_cons_zero, List.setIfInBounds_toArray, List.set_cons_zero, List.set_cons_succ]
      refine wpAny_ready (rs := [7]) (by kernel_rfl) (by simp) ?_
      refine AllReady.cons rfl (fun K hK => ?_) AllReady.nil
      refine step_append_pw rfl _ _ rfl lv P.late.length (wcs P.late) rfl HO4.out w4.heap.size k i (pad bs) (pad_len hbs) rfl (by rw [HC3.out]; exact heap_alloc_new w4.drew _) hlen ?_
      intro v5 w5 ho5 hg5 hb5
      have hend := putd_end H.out HFIT.out hk HA04.out HK4.out HROW4'.out HSD4.out HFL4.out hfln4 ho5 hg5 hb5
      have d7 : w5.cell? ⟨g, 7, none⟩ = some lv := cell_of_row _ _ _ _ _ _ hend.1
      have f7 : w5.frozen? ⟨g, 7, none⟩ = false := by simp [World.frozen?, hend.1]
      have hown7 := own_one ho5
      have HEND := Lib.hid hend.2
      clear hend ho5 hg5 hb5
      refine hK _ _ ?_
      clear hK K
      try simp only [Act.put, List.getElem_toArray, List.getElem_cons_succ, List.getElem_cons_zero, List.setIfInBounds_toArray, List.set_cons_zero, List.set_cons_succ]
      refine wpAny_take (i := 8) (v := .pointer (some ⟨g, 0, none⟩)) rfl (by kernel_rfl) (by kernel_rfl) (by kernel_rfl) (fun _ _ _ h => h) (Or.inl ⟨by rfl, fun W => by go_simp⟩) ?_
      try simp only [Act.put, List.getElem_toArray, List.getElem_cons_succ, List.getElem_cons_zero, List.setIfInBounds_toArray, List.set_cons_zero, List.set_cons_succ]
      refine wpAny_take (i := 9) (v := .pointer (some ⟨g, 7, none⟩)) rfl (by kernel_rfl) (by kernel_rfl) (by kernel_rfl) (fun _ _ _ h => h) (Or.inl ⟨by rfl, fun W => by go_simp⟩) ?_
      try simp only [Act.put, List.getElem_toArray, List.getElem_cons_succ, List.getElem_cons_zero, List.setIfInBounds_toArray, List.set_cons_zero, List.set_cons_succ]
      refine wpAny_ready (rs := [10]) (by kernel_rfl) (by simp) ?_
      refine AllReady.cons rfl (fun K hK => ?_) AllReady.nil
      rw [if_pos (by rfl)]
      obtain ⟨va, vn, vc, rfl⟩ := hown7
      go_simp
      refine hK _ _ ?_
      refine wpAny_done (by kernel_rfl) ?_ _
      go_wp2_with fail
      go_end0
      exact makes_up HA0.out (by rw [← HPP.out, show N0 + 2 = N + 1 by omega]; exact ⟨rfl, ⟨_, _, _, _, _, _, HEND.out.1⟩, HEND.out.2⟩)
    · refine step_build_pw rfl _ rfl rfl hsz3 ?_
      refine hK _ _ ?_
      clear hK K
      try simp only [Act.put, List.getElem_toArray, List.getElem_cons_succ, List.getElem_cons_zero, List.setIfInBounds_toArray, List.set_cons_zero, List.set_cons_succ]
      refine wpAny_ready (rs := [4]) (by kernel_rfl) (by simp) ?_
      refine AllReady.cons rfl (fun K hK => ?_) AllReady.nil
      rw [if_pos (by rfl)]
      go_simp
      refine hK _ _ ?_
      clear hK K
      try simp only [Act.put, List.getElem_toArray, List.getElem_cons_succ, List.getElem_cons_zero, List.setIfInBounds_toArray, List.set_cons_zero, List.set_cons_succ]
      refine wpAny_ready (rs := [7]) (by kernel_rfl) (by simp) ?_
      refine AllReady.cons rfl (fun K hK => ?_) AllReady.nil
      refine step_append_pw rfl _ _ rfl lv P.late.length (wcs P.late) rfl HO4.out w4.heap.size k i (pad bs) (pad_len hbs) rfl (by rw [HC3.out]; exact heap_alloc_new w4.drew _) hlen ?_
      intro v5 w5 ho5 hg5 hb5
      have hend := putd_end H.out HFIT.out hk HA04.out HK4.out HROW4'.out HSD4.out HFL4.out hfln4 ho5 hg5 hb5
      have d7 : w5.cell? ⟨g, 7, none⟩ = some lv := cell_of_row _ _ _ _ _ _ hend.1
      have f7 : w5.frozen? ⟨g, 7, none⟩ = false := by simp [World.frozen?, hend.1]
      have hown7 := own_one ho5
      have HEND := Lib.hid hend.2
      clear hend ho5 hg5 hb5
      refine hK _ _ ?_
      clear hK K
      try simp only [Act.put, List.getElem_toArray, List.getElem_cons_succ, List.getElem_cons_zero, List.setIfInBounds_toArray, List.set_cons_zero, List.set_cons_succ]
      refine wpAny_take (i := 8) (v := .pointer (some ⟨g, 0, none⟩)) rfl (by kernel_rfl) (by kernel_rfl) (by kernel_rfl) (fun _ _ _ h => h) (Or.inl ⟨by rfl, fun W => by go_simp⟩) ?_
      try simp only [Act.put, List.getElem_toArray, List.getElem_cons_succ, List.getElem_cons_zero, List.setIfInBounds_toArray, List.set_cons_zero, List.set_cons_succ]
      refine wpAny_take (i := 9) (v := .pointer (some ⟨g, 7, none⟩)) rfl (by kernel_rfl) (by kernel_rfl) (by kernel_rfl) (fun _ _ _ h => h) (Or.inl ⟨by rfl, fun W => by go_simp⟩) ?_
      try simp only [Act.put, List.getElem_toArray, List.getElem_cons_succ, List.getElem_cons_zero, List.setIfInBounds_toArray, List.set_cons_zero, List.set_cons_succ]
      refine wpAny_ready (rs := [10]) (by kernel_rfl) (by simp) ?_
      refine AllReady.cons rfl (fun K hK => ?_) AllReady.nil
      rw [if_pos (by rfl)]
      obtain ⟨va, vn, vc, rfl⟩ := hown7
      go_simp
      refine hK _ _ ?_
      refine wpAny_done (by kernel_rfl) ?_ _
      go_wp2_with fail
      go_end0
      exact makes_up HA0.out (by rw [← HPP.out, show N0 + 2 = N + 1 by omega]; exact ⟨rfl, ⟨_, _, _, _, _, _, HEND.out.1⟩, HEND.out.2⟩)

theorem putd_any (g N : Nat) (S : Nat → Prop) (P : Pd) (s bs : List UInt8) (i : Nat) (b : Value) (w : World) (h : Rep w g S P N) (hs : s.length ≤ 140737488355328) (hb : Sl w w.heap.size b bs) (hbs : bs.length ≤ 512) (hbS : 0 < bs.length → ∀ A n c, b = .slice (some A) n c → ¬ S A.block)
    (hi : i < 4096) (hr : P.nn + (i + 1 - (P.now (numP P s)).length) ≤ P.room) (hN : N + 2 ≤ 137438953472) :
    Calls Tryz.prog 134 #[.pointer (some ⟨g, 0, none⟩), .string ⟨s.toArray⟩, .int .i64 i, b] w (Makes g S (putP P s i (pad bs)) (N + 2) (.tuple #[]) w) := by
  cases hq : P.files s with
  | some k => exact (putd_some g N S P s bs i b w h hs hb hbs hbS hi hr (by omega) k hq).mono fun e w' ⟨h1, h2, h3⟩ => ⟨h1, h2.mono (by omega) hN, h3⟩
  | none => exact putd_none g N S P s bs i b w h hs hb hbs hbS hi hr (by omega) hq

end Go.Proofs.YtlchmkpnehbnlaaGreatDoor.Cd

/-
  The list of what waits: elements that are taken out. Conditions: none.
-/
namespace Go.Proofs.YtlchmkpnehbnlaaGreatDoor.Cd
open Go.RowKit

def hitP (file m : Nat) (x : Pw) : Bool := decide (x.file = file ∧ m ≤ x.spot)

def Capt (w : World) (a : Addr) (n : Nat) : Prop := w.cell? a = some (.int .i64 n) ∧ a.block < w.heap.size

set_option maxRecDepth 100000 in
set_option maxHeartbeats 1600000 in
theorem hit_any (x : Pw) (file m : Nat) (a1 a2 : Addr) (w : World) (hx : x.data.length = 512) (h1 : Capt w a1 file) (h2 : Capt w a2 m) :
    Calls Tryz.prog 182 #[.agg (wv x.file x.spot x.data), .pointer (some a1), .pointer (some a2)] w (Says (.bool (hitP file m x)) w) := by
  obtain ⟨f, i, p⟩ := x
  have hx : p.length = 512 := hx
  show Calls _ _ #[.agg (wv f i p), _, _] _ _
  have k1 : ∀ o : Obj, (w.alloc o).cell? a1 = some (.int .i64 file) := fun o => (World.cell?_alloc_lt _ _ _ h1.2).trans h1.1
  have k2 : ∀ o : Obj, (w.alloc o).cell? a2 = some (.int .i64 m) := fun o => (World.cell?_alloc_lt _ _ _ h2.2).trans h2.1
  obtain ⟨C, hC⟩ : ∃ C, wv f i p = C := ⟨_, rfl⟩
  rw [hC]
  have hsz : C.size = 514 := by rw [← hC]; exact wv_size f i hx
  have e0 : C[0] = .int .i64 f := by subst hC; rfl
  have e1 : C[1] = .int .i64 i := by subst hC; rfl
  clear hC h1 h2
  by_cases hq : f = file
  · have hq1 : ((f : Int) == (file : Int)) = true := by simp [hq]
    by_cases hm : m ≤ i
    · have hm1 : (m : Int) ≤ i := by omega
      have hr : hitP file m ⟨f, i, p⟩ = true := by unfold hitP; exact decide_eq_true ⟨hq, hm⟩
      rw [hr]
      clear hq hr
      go_enter Tryz.func182, Tryz.ntmps182
      go_wp2_with fail
      go_ret
      exact ⟨by first | rfl | simp [hm1], (Below.refl _ _).alloc (Nat.le_refl _) _⟩
    · have hm1 : (i : Int) < m := by omega
      have hr : hitP file m ⟨f, i, p⟩ = false := by unfold hitP; exact decide_eq_false (fun e => hm e.2)
      rw [hr]
      clear hq hr
      go_enter Tryz.func182, Tryz.ntmps182
      go_wp2_with fail
      go_ret
      exact ⟨by first | rfl | (simp; omega), (Below.refl _ _).alloc (Nat.le_refl _) _⟩
  · have hq1 : ((f : Int) == (file : Int)) = false := by simp; omega
    have hr : hitP file m ⟨f, i, p⟩ = false := by unfold hitP; exact decide_eq_false (fun e => hq e.1)
    rw [hr]
    clear hq hr
    go_enter Tryz.func182, Tryz.ntmps182
    go_wp2_with fail
    go_ret
    exact ⟨rfl, (Below.refl _ _).alloc (Nat.le_refl _) _⟩

theorem wcs_cons (x : Pw) (r : List Pw) : wcs (x :: r) = (wv x.file x.spot x.data).toList ++ wcs r := rfl
theorem wcs_len {l : List Pw} (h : ∀ x ∈ l, x.data.length = 512) : (wcs l).length = l.length * 514 := by
  induction l with
  | nil => rfl
  | cons x r ih =>
    rw [wcs_cons, List.length_append, Array.length_toList, wv_size _ _ (h x (by simp)), ih (fun y hy => h y (by simp [hy])), List.length_cons]
    omega
theorem wcs_at {l : List Pw} (h : ∀ x ∈ l, x.data.length = 512) : ∀ (k : Nat) (hk : k < l.length) (o : Nat), o < 514 → (wcs l)[k * 514 + o]? = (wv l[k].file l[k].spot l[k].data)[o]? := by
  induction l with
  | nil => intro k hk; simp at hk
  | cons x r ih =>
    intro k hk o ho
    have hs := wv_size x.file x.spot (h x (by simp))
    rw [wcs_cons]
    cases k with
    | zero =>
      rw [List.getElem?_append_left (by rw [Array.length_toList]; omega), Nat.zero_mul, Nat.zero_add]
      simp
    | succ k =>
      rw [List.getElem?_append_right (by rw [Array.length_toList]; omega), Array.length_toList, hs, show (k + 1) * 514 + o - 514 = k * 514 + o by omega]
      rw [ih (fun y hy => h y (by simp [hy])) k (by simpa using hk) o ho]
      rfl

def AtRow (w : World) (b k : Nat) (x : Pw) : Prop := w.rangeAt b (k * 514) (wv x.file x.spot x.data).toList
theorem row_at {w : World} {b n cap : Nat} {l : List Pw} (h : w.ownsRow 0 126 514 (.slice (some ⟨b, 0, none⟩) n cap) n (wcs l)) (hl : ∀ x ∈ l, x.data.length = 512) (_hn : n = l.length) : ∀ (k : Nat) (hk : k < l.length), AtRow w b k l[k] := by
  intro k hk o v hv
  have ho : o < 514 := by
    have := (List.getElem?_eq_some_iff.1 hv).1
    rwa [Array.length_toList, wv_size _ _ (hl _ (List.getElem_mem hk))] at this
  have hc := h.cells (g := b) rfl
  have := hc (k * 514 + o) v (by rw [wcs_at hl k hk o ho]; simpa using hv)
  rw [Addr.add_lit, Nat.zero_add] at this
  exact this

def firstP (pd : Pw → Bool) : List Pw → Nat → Int
  | [], _ => -1
  | x :: r, k => if pd x = true then (k : Int) else firstP pd r (k + 1)
theorem firstP_from (pd : Pw → Bool) : ∀ (l : List Pw) (k : Nat), (firstP pd l k = -1 ∧ ∀ x ∈ l, pd x = false) ∨ ∃ j, ∃ hj : j < l.length, firstP pd l k = ((k + j : Nat) : Int) ∧ pd l[j] = true ∧ ∀ x ∈ l.take j, pd x = false := by
  intro l
  induction l with
  | nil => intro k; exact .inl ⟨rfl, fun x hx => by simp at hx⟩
  | cons x r ih =>
    intro k
    rw [firstP]
    by_cases hx : pd x = true
    · rw [if_pos hx]
      exact .inr ⟨0, by simp, by simp, by simpa using hx, fun y hy => by simp at hy⟩
    · rw [if_neg hx]
      rcases ih (k + 1) with ⟨h1, h2⟩ | ⟨j, hj, h1, h2, h3⟩
      · exact .inl ⟨h1, fun y hy => by rcases List.mem_cons.1 hy with rfl | hy; simpa using hx; exact h2 y hy⟩
      · refine .inr ⟨j + 1, by simpa using hj, by rw [h1]; congr 1; omega, by simpa using h2, fun y hy => ?_⟩
        rw [List.take_succ_cons] at hy
        rcases List.mem_cons.1 hy with rfl | hy
        · simpa using hx
        · exact h3 y hy

set_option maxRecDepth 100000 in
set_option maxHeartbeats 1600000 in
theorem index_any (b cap file m : Nat) (l : List Pw) (a1 a2 : Addr) (w : World) (h : w.ownsRow 0 126 514 (.slice (some ⟨b, 0, none⟩) l.length cap) l.length (wcs l)) (hl : ∀ x ∈ l, x.data.length = 512) (hlen : l.length ≤ 137438953472) (h1 : Capt w a1 file) (h2 : Capt w a2 m) :
    Calls Tryz.prog 209 #[.slice (some ⟨b, 0, none⟩) l.length cap, .func (.func 182) #[] #[.pointer (some a1), .pointer (some a2)]] w
      (Says (.int .i64 (firstP (hitP file m) l 0)) w) := by
  have hbl := (World.ownsRow.lt h b rfl).2
  have HAT := Lib.hid (row_at h hl rfl)
  have HL := Lib.hid hl
  have K1 := Lib.hid h1
  have K2 := Lib.hid h2
  clear h hl h1 h2
  go_enter Tryz.func209, Tryz.ntmps209
  go_wp2_with fail
  go_loopw [8] (fun i wr => ∃ k : Nat, i = .int .i64 k ∧ k ≤ l.length ∧ Hid (firstP (hitP file m) l 0 = firstP (hitP file m) (l.drop k) k) ∧ Hid (Below w.heap.size w wr)) (fun i _ => l.length - (intOf i).toNat)
  case atStart => exact ⟨0, rfl, Nat.zero_le _, rfl, Below.refl _ _⟩
  case round =>
    obtain ⟨k, rfl, hk, hf, hb⟩ := hrel
    by_cases hlt : k < l.length
    · have hlt2 : (k : Int) < l.length := by omega
      have hra : Hid (wr.rangeAt b (k * 514) (wv l[k].file l[k].spot l[k].data).toList) := fun o v hv => (hb.out.cell (p := ⟨b, k * 514 + o, none⟩) hbl).trans (HAT.out k hlt o v hv)
      have hlk := HL.out _ (List.getElem_mem hlt)
      have hd : l.drop k = l[k] :: l.drop (k + 1) := List.drop_eq_getElem_cons hlt
      rw [hd] at hf
      have kk1 : Capt wr a1 file := ⟨(hb.out.cell K1.out.2).trans K1.out.1, Nat.lt_of_lt_of_le K1.out.2 hb.out.size⟩
      have kk2 : Capt wr a2 m := ⟨(hb.out.cell K2.out.2).trans K2.out.1, Nat.lt_of_lt_of_le K2.out.2 hb.out.size⟩
      have hcall := Lib.hid (hit_any l[k] file m a1 a2 wr hlk kk1 kk2)
      clear hd kk1 kk2
      generalize l[k] = x at *
      have hsz := wv_size x.file x.spot hlk
      have hsl : (wv x.file x.spot x.data).toList.length = 514 := by simpa using hsz
      cases hp : hitP file m x
      · have hf2 : Hid (firstP (hitP file m) l 0 = firstP (hitP file m) (l.drop (k + 1)) (k + 1)) := by
          have := hf.out
          rw [firstP, if_neg (by rw [hp]; simp)] at this
          exact this
        rw [hp] at hcall
        clear hf
        go_wp2_with (first | (refine wpList_load_mid rfl 126 _ rfl b (k * 514) (by simp [Act.eval]) _ _ hra.out Tryz.underlying126 rfl (by rw [hsl]; kernel_rfl) ?_) | fail)
        refine hcall.out.mono ?_
        rintro e w2 ⟨rfl, hb2⟩
        have HB2 := Lib.hid (hb.out.trans (hb2.mono hb.out.size))
        clear hb2 hcall
        go_wp2_with fail
        go_roundw
        case rel => exact ⟨k + 1, by go_num, by omega, hf2.out, HB2.out⟩
        case measure => simp [intOf]; omega
      · have hf2 : Hid (firstP (hitP file m) l 0 = (k : Int)) := by
          have := hf.out
          rw [firstP, if_pos hp] at this
          exact this
        rw [hp] at hcall
        clear hf
        go_wp2_with (first | (refine wpList_load_mid rfl 126 _ rfl b (k * 514) (by simp [Act.eval]) _ _ hra.out Tryz.underlying126 rfl (by rw [hsl]; kernel_rfl) ?_) | fail)
        refine hcall.out.mono ?_
        rintro e w2 ⟨rfl, hb2⟩
        have HB2 := Lib.hid (hb.out.trans (hb2.mono hb.out.size))
        clear hb2 hcall
        go_wp2_with fail
        go_ret
        exact ⟨by rw [hf2.out]; rfl, HB2.out⟩
    · have hkl : k = l.length := by omega
      have hf2 : Hid (firstP (hitP file m) l 0 = -1) := by
        have := hf.out
        rw [hkl, List.drop_of_length_le (Nat.le_refl _)] at this
        exact this
      clear hf
      go_wp2_with fail
      go_ret
      exact ⟨by rw [hf2.out]; rfl, hb.out⟩

end Go.Proofs.YtlchmkpnehbnlaaGreatDoor.Cd

/-
  slices.DeleteFunc of the list of what waits. Conditions: none.
-/
namespace Go.Proofs.YtlchmkpnehbnlaaGreatDoor.Cd
open Go.RowKit

theorem wp_clear_pw {w : World} {ops : Array Oper} {rest : List Oper} {o : Oper} {a : Act} {Q : Exit → Act → World → Prop} (hgd : o.guard = none) (x : Operand)
    (hop : o.op = Op.call { callee := Callee.builtin Builtin.clear, args := #[x], argTypes := #[71] }) (b off n c : Nat) (cur : Array Value) (hx : a.eval x = .slice (some ⟨b, off * 514, none⟩) n c) (hn : 0 < n)
    (hrow : w.heap[b]? = some (.cells cur 126)) (hfit : (off + n) * 514 ≤ cur.size)
    (hK : ∀ w' cur', w'.heap[b]? = some (.cells cur' 126) → cur'.size = cur.size → (∀ j, j < off * 514 → cur'[j]? = cur[j]?) → w.grownBy w' (some b) → wpList Tryz.prog ops Q rest (a.put o.dst (.tuple #[])) w') : wpList Tryz.prog ops Q (o :: rest) a w := by
  refine wpList_plain hgd fun K hK' => ?_
  obtain ⟨zs, hzs, hz1⟩ : ∃ zs : List Value, (Builtin.zeroCells Tryz.zeroCells126 n).toList = zs ∧ zs.length = n * 514 ∧ ∀ v ∈ zs, v.oneCell' = true := by
    refine ⟨_, rfl, ?_, ?_⟩
    · unfold Builtin.zeroCells
      rw [zero_pw, Array.toList_map, List.length_map, Array.toList_range, List.length_range, wv_size 0 0 nought_len]
    · intro v hv
      unfold Builtin.zeroCells at hv
      rw [zero_pw, Array.toList_map] at hv
      obtain ⟨i, _, rfl⟩ := List.mem_map.1 hv
      have hs := wv_size 0 0 nought_len
      have hlt : i % (wv 0 0 nought).size < (wv 0 0 nought).size := Nat.mod_lt _ (by omega)
      rw [getElem!_pos (wv 0 0 nought) _ hlt]
      exact wv_one 0 0 nought _ (by simp)
  have hcell : ∀ j, j < zs.length → (w.cell? ⟨b, off * 514 + j, none⟩).isSome = true := fun j hj => by
    rw [cell_of_row _ _ _ _ _ _ hrow, Array.getElem?_eq_getElem (by rw [hz1.1] at hj; rw [Nat.add_mul] at hfit; omega)]
    rfl
  have hrun : (Builtin.clear_ #[71] o.type #[.slice (some ⟨b, off * 514, none⟩) n c]).run Tryz.prog w = .ok (.tuple #[]) (w.setCells b (off * 514) zs) := by
    obtain ⟨n, rfl⟩ : ∃ m, n = m + 1 := ⟨n - 1, by omega⟩
    have hst := run_storeCells_cells (P := Tryz.prog) b (off * 514) zs 0 w (by simpa using hcell) (fun j _ => by simp [World.frozen?, hrow]) hz1.2
    simp only [Nat.add_zero] at hst
    have hzc : (Value.agg Tryz.zeroCells126).cells = Tryz.zeroCells126 := rfl
    simp [Builtin.clear_, run_underlying Tryz.underlying71, Tryz.zeroValue126, hzc, hzs, hst, Result.andThen]
  have hrow2 := setCells_row b 126 zs w cur.toList (off * 514) (by simpa using hrow)
  unfold Oper.wp
  simp [execOp, hop, resolve, invoke, builtin, hx, hrun, Result.andThen]
  refine hK' _ _ (hK _ _ hrow2 (by rw [List.size_toArray, laid_length, Array.length_toList]) (fun j hj => ?_) (setCells_grown _ _ _ _))
  rw [List.getElem?_toArray, laid_at, if_neg (by omega)]
  simp

structure Sweep (W : World) (b cap i j : Nat) (pd : Pw → Bool) (l : List Pw) : Prop where
  kept : i = ((l.take j).filter fun x => !pd x).length
  row : ∃ cur, W.heap[b]? = some (.cells cur 126) ∧ cur.size = cap * 514
  front : ∀ (k : Nat) (hk : k < ((l.take j).filter fun x => !pd x).length), AtRow W b k ((l.take j).filter fun x => !pd x)[k]
  back : ∀ (k : Nat) (hk : k < l.length), j ≤ k → AtRow W b k l[k]

theorem AtRow.keep {w w' : World} {b k : Nat} {x : Pw} (h : AtRow w b k x) (hb : w'.heap[b]? = w.heap[b]?) : AtRow w' b k x := fun o v hv => (World.cell?_of_block hb).trans (h o v hv)
theorem Sweep.keep {w w' : World} {b cap i j : Nat} {pd : Pw → Bool} {l : List Pw} (h : Sweep w b cap i j pd l) (hb : w'.heap[b]? = w.heap[b]?) : Sweep w' b cap i j pd l := by
  obtain ⟨cur, h1, h2⟩ := h.row
  exact ⟨h.kept, ⟨cur, hb.trans h1, h2⟩, fun k hk => (h.front k hk).keep hb, fun k hk hj => (h.back k hk hj).keep hb⟩

theorem filter_take {l : List Pw} {pd : Pw → Bool} {j : Nat} (hj : j < l.length) : ((l.take (j + 1)).filter fun x => !pd x) = ((l.take j).filter fun x => !pd x) ++ (if pd l[j] = true then [] else [l[j]]) := by
  rw [List.take_succ_eq_append_getElem hj, List.filter_append]
  cases h : pd l[j] <;> simp [h]

theorem Sweep.skip {w : World} {b cap i j : Nat} {pd : Pw → Bool} {l : List Pw} (h : Sweep w b cap i j pd l) (hj : j < l.length) (hp : pd l[j] = true) : Sweep w b cap i (j + 1) pd l := by
  have hf := filter_take (pd := pd) hj
  rw [if_pos hp, List.append_nil] at hf
  refine ⟨by rw [hf]; exact h.kept, h.row, fun k hk => ?_, fun k hk hjk => h.back k hk (by omega)⟩
  have hk2 : k < ((l.take j).filter fun x => !pd x).length := by rw [hf] at hk; exact hk
  have := h.front k hk2
  have e : ((l.take (j + 1)).filter fun x => !pd x)[k] = ((l.take j).filter fun x => !pd x)[k] := by congr 1
  rw [e]
  exact this

theorem Sweep.move {w : World} {b cap i j : Nat} {pd : Pw → Bool} {l : List Pw} (h : Sweep w b cap i j pd l) (hl : ∀ x ∈ l, x.data.length = 512) (hj : j < l.length) (hij : i < j) (hp : pd l[j] = false) (hcap : l.length ≤ cap) :
    Sweep (w.setCells b (i * 514) (wv l[j].file l[j].spot l[j].data).toList) b cap (i + 1) (j + 1) pd l := by
  obtain ⟨cur, hrow, hsz⟩ := h.row
  have hlj := hl _ (List.getElem_mem hj)
  have hf := filter_take (pd := pd) hj
  rw [if_neg (by rw [hp]; simp)] at hf
  have hlen : (wv l[j].file l[j].spot l[j].data).toList.length = 514 := by rw [Array.length_toList]; exact wv_size _ _ hlj
  have hth : w.there b (i * 514) (wv l[j].file l[j].spot l[j].data).toList.length := fun o ho => by
    rw [hlen] at ho
    refine ⟨?_, by simp [World.frozen?, hrow]⟩
    rw [cell_of_row _ _ _ _ _ _ hrow, Array.getElem?_eq_getElem (by rw [hsz]; have : (i + 1) * 514 ≤ cap * 514 := Nat.mul_le_mul_right _ (by omega); omega)]
    rfl
  have hlast : ((l.take (j + 1)).filter fun x => !pd x).length = i + 1 := by rw [hf, List.length_append, ← h.kept]; rfl
  have hapart : ∀ k x, k ≠ i → x.data.length = 512 → AtRow w b k x → AtRow (w.setCells b (i * 514) (wv l[j].file l[j].spot l[j].data).toList) b k x := fun k x hk hx ha => by
    refine World.rangeAt_setCells_apart ha _ _ _ ?_
    rw [hlen, Array.length_toList, wv_size _ _ hx]
    rcases Nat.lt_or_ge k i with hlt | hge
    · have : (k + 1) * 514 ≤ i * 514 := Nat.mul_le_mul_right _ hlt
      omega
    · have : (i + 1) * 514 ≤ k * 514 := Nat.mul_le_mul_right _ (by omega)
      omega
  refine ⟨hlast.symm, ⟨_, setCells_row b 126 _ w cur.toList (i * 514) (by simpa using hrow), by rw [List.size_toArray, laid_length, Array.length_toList, hsz]⟩, fun k hk => ?_, fun k hk hjk => ?_⟩
  · rw [hlast] at hk
    rcases Nat.lt_or_ge k i with hlt | hge
    · have hk2 : k < ((l.take j).filter fun x => !pd x).length := by rw [← h.kept]; exact hlt
      have e : ((l.take (j + 1)).filter fun x => !pd x)[k]'(by rw [hlast]; exact hk) = ((l.take j).filter fun x => !pd x)[k] := by
        have : ((l.take (j + 1)).filter fun x => !pd x)[k]? = ((l.take j).filter fun x => !pd x)[k]? := by rw [hf, List.getElem?_append_left hk2]
        rw [List.getElem?_eq_getElem (by rw [hlast]; exact hk), List.getElem?_eq_getElem hk2] at this
        injection this
      rw [e]
      exact hapart k _ (by omega) (hl _ (List.mem_of_mem_take (List.mem_filter.1 (List.getElem_mem hk2)).1)) (h.front k hk2)
    · obtain rfl : k = i := by omega
      have e : ((l.take (j + 1)).filter fun x => !pd x)[k]'(by rw [hlast]; exact hk) = l[j] := by
        have : ((l.take (j + 1)).filter fun x => !pd x)[k]? = some l[j] := by
          rw [hf, List.getElem?_append_right (by rw [← h.kept]; omega), ← h.kept, Nat.sub_self]
          rfl
        rw [List.getElem?_eq_getElem (by rw [hlast]; exact hk)] at this
        injection this
      rw [e]
      exact World.rangeAt_setCells_same _ _ _ _ hth
  · exact hapart k _ (by omega) (hl _ (List.getElem_mem hk)) (h.back k hk (by omega))

theorem own_of_rows {w w3 : World} {b cap n m : Nat} {l : List Pw} {cur cur3 : Array Value} (hrow : w.heap[b]? = some (.cells cur 126)) (hn : n = l.length) (hrow3 : w3.heap[b]? = some (.cells cur3 126)) (hs : cur3.size = m) (hm : m = cap * 514)
    (hsame : ∀ j, j < n * 514 → cur3[j]? = cur[j]?) (hat : ∀ (k : Nat) (hk : k < l.length), AtRow w b k l[k]) (hl : ∀ x ∈ l, x.data.length = 512) (hc : n ≤ cap) (hcm : cap ≤ 9223372036854775807) :
    w3.ownsRow 0 126 514 (.slice (some ⟨b, 0, none⟩) n cap) n (wcs l) := by
  subst hm hn
  refine ⟨wcs_len hl, .inr ⟨b, cap, cur3, rfl, Nat.zero_le _, hrow3, hc, hcm, hs, ?_⟩⟩
  apply List.ext_getElem?
  intro t
  rw [List.getElem?_take]
  by_cases ht : t < l.length * 514
  · rw [if_pos ht, Array.getElem?_toList, hsame t ht]
    have hk : t / 514 < l.length := by omega
    have ho : t % 514 < 514 := Nat.mod_lt _ (by omega)
    have e : t = t / 514 * 514 + t % 514 := by omega
    have h1 := wcs_at hl (t / 514) hk (t % 514) ho
    rw [← e] at h1
    rw [h1]
    have hlt : t % 514 < (wv l[t / 514].file l[t / 514].spot l[t / 514].data).toList.length := by rw [Array.length_toList, wv_size _ _ (hl _ (List.getElem_mem hk))]; exact ho
    have h2 := hat (t / 514) hk (t % 514) _ (List.getElem?_eq_getElem hlt)
    rw [cell_of_row _ _ _ _ _ _ hrow, ← e] at h2
    rw [h2, ← List.getElem?_eq_getElem hlt, Array.getElem?_toList]
  · rw [if_neg ht, List.getElem?_eq_none (by rw [wcs_len hl]; omega)]

def Deleted (b cap : Nat) (file m : Nat) (l : List Pw) (w : World) (e : Ending) (w' : World) : Prop :=
  ∃ n, e = .returned (.slice (some ⟨b, 0, none⟩) n cap) ∧ n = (l.filter fun x => !hitP file m x).length ∧ w'.ownsRow 0 126 514 (.slice (some ⟨b, 0, none⟩) n cap) n (wcs (l.filter fun x => !hitP file m x)) ∧ Apart (fun k => k = b) w w'

set_option maxRecDepth 100000 in
set_option maxHeartbeats 4000000 in
theorem delete_any (b cap file m : Nat) (l : List Pw) (a1 a2 : Addr) (w : World) (h : w.ownsRow 0 126 514 (.slice (some ⟨b, 0, none⟩) l.length cap) l.length (wcs l)) (hl : ∀ x ∈ l, x.data.length = 512) (hlen : l.length ≤ 137438953472) (h1 : Capt w a1 file) (h2 : Capt w a2 m) (hb1 : a1.block ≠ b) (hb2 : a2.block ≠ b) :
    Calls Tryz.prog 181 #[.slice (some ⟨b, 0, none⟩) l.length cap, .func (.func 182) #[] #[.pointer (some a1), .pointer (some a2)]] w (Deleted b cap file m l w) := by
  have hidx := index_any b cap file m l a1 a2 w h hl hlen h1 h2
  have hbl := (World.ownsRow.lt h b rfl).2
  have hcap : l.length ≤ cap ∧ cap ≤ 9223372036854775807 := by
    rcases h.2 with ⟨e, _⟩ | ⟨g, c, cur, e, _, _, hn, hm, _⟩
    · cases e
    · injection e with _ _ e; subst e; exact ⟨hn, hm⟩
  have HI := Lib.hid hidx
  have HW := Lib.hid h
  have HL := Lib.hid hl
  have K1 := Lib.hid h1
  have K2 := Lib.hid h2
  clear hidx h hl h1 h2
  rcases firstP_from (hitP file m) l 0 with ⟨hf1, hf2⟩ | ⟨j0, hj0, hf1, hf2, hf3⟩
  · have hall : Hid ((l.filter fun x => !hitP file m x) = l) := List.filter_eq_self.2 (fun x hx => by rw [hf2 x hx]; rfl)
    have HF1 := Lib.hid hf1
    clear hf1 hf2
    go_enter Tryz.func181, Tryz.ntmps181
    go_wp2_with fail
    refine HI.out.mono ?_
    rintro e w1 ⟨rfl, hbel⟩
    rw [HF1.out]
    have HB := Lib.hid hbel
    clear hbel
    go_wp2_with fail
    go_ret
    exact ⟨l.length, rfl, by rw [hall.out], by rw [hall.out]; exact row_kept HW.out (fun c hc => by injection hc with hc; rw [← hc]; exact HB.out.block b hbl), Apart.below HB.out⟩
  · have hone : Hid (((l.take j0).filter fun x => !hitP file m x) = l.take j0) := List.filter_eq_self.2 (fun x hx => by rw [hf3 x hx]; rfl)
    have HF1 := Lib.hid hf1
    have HF2 := Lib.hid hf2
    clear hf1 hf2 hf3
    have hj0i : (j0 : Int) < l.length := by omega
    have hne : ((((0 + j0 : Nat) : Int)) == -1) = false := by rw [beq_eq_false_iff_ne]; omega
    have hzj : ((0 + j0 : Nat) : Int) = (j0 : Int) := by omega
    rw [hzj] at hne
    go_enter Tryz.func181, Tryz.ntmps181
    go_wp2_with fail
    refine HI.out.mono ?_
    rintro e w1 ⟨rfl, hbel⟩
    rw [HF1.out, hzj]
    have HB := Lib.hid hbel
    have hs1 := hbel.size
    clear hbel
    go_wp2_with fail
    go_loopw [5, 6] (fun i j wr => ∃ i' j' : Nat, i = .int .i64 i' ∧ j = .int .i64 j' ∧ i' < j' ∧ j' ≤ l.length ∧ Hid (Sweep wr b cap i' j' (hitP file m) l) ∧ Hid (w1.grownBy wr (some b))) (fun _ j _ => l.length - (intOf j).toNat)
    case atStart =>
      have h0 : Sweep w1 b cap j0 j0 (hitP file m) l := by
        have hk : (l.take j0).length = j0 := by rw [List.length_take]; omega
        refine ⟨by rw [hone.out, hk], ?_, fun k hk2 => ?_, fun k hk2 _ => (row_at HW.out HL.out rfl k hk2).keep (HB.out.block b hbl)⟩
        · rcases HW.out.2 with ⟨e, _⟩ | ⟨g, c, cur, e, _, hg, _, _, hsz, _⟩
          · cases e
          · injection e with e1 _ e3
            injection e1 with e1
            injection e1 with e1
            subst e1 e3
            exact ⟨cur, (HB.out.block b hbl).trans hg, hsz⟩
        · have hk3 : k < l.length := by have := congrArg List.length hone.out; omega
          have e : ((l.take j0).filter fun x => !hitP file m x)[k] = l[k] := by
            have e1 : ((l.take j0).filter fun x => !hitP file m x)[k]? = l[k]? := by rw [hone.out, List.getElem?_take, if_pos (by have := congrArg List.length hone.out; omega)]
            rw [List.getElem?_eq_getElem hk2, List.getElem?_eq_getElem hk3] at e1
            injection e1
          rw [e]
          exact (row_at HW.out HL.out rfl k hk3).keep (HB.out.block b hbl)
      exact ⟨j0, j0 + 1, by first | rfl | go_num, by first | rfl | go_num, by omega, by omega, h0.skip hj0 HF2.out, ⟨rfl, rfl, rfl, Nat.le_refl _, fun _ _ _ => rfl⟩⟩
    case round =>
      obtain ⟨i', j, rfl, rfl, hij, hj, hsw, hg⟩ := hrel
      have hbr : b < wr.heap.size := Nat.lt_of_lt_of_le hbl (Nat.le_trans hs1 hg.out.size)
      by_cases hlt : j < l.length
      · have hlt2 : (j : Int) < l.length := by omega
        have hra : Hid (wr.rangeAt b (j * 514) (wv l[j].file l[j].spot l[j].data).toList) := hsw.out.back j hlt (Nat.le_refl _)
        have hlk := HL.out _ (List.getElem_mem hlt)
        have hsk := Lib.hid (fun hp => hsw.out.skip hlt hp)
        have hmv := Lib.hid (fun (W : World) (hk : W.heap[b]? = wr.heap[b]?) hp => (hsw.out.keep hk).move HL.out hlt hij hp hcap.1)
        have hkk1 : Capt (wr.alloc (.cells (wv l[j].file l[j].spot l[j].data) 126)) a1 file := by
          have := hg.out.cell (a := a1) ((HB.out.cell K1.out.2).trans K1.out.1) (by simp; exact hb1)
          exact ⟨(World.cell?_alloc_lt _ _ _ (World.block_lt_of_cell? _ _ this)).trans this, by have h9 := World.block_lt_of_cell? _ _ this; simp; omega⟩
        have hkk2 : Capt (wr.alloc (.cells (wv l[j].file l[j].spot l[j].data) 126)) a2 m := by
          have := hg.out.cell (a := a2) ((HB.out.cell K2.out.2).trans K2.out.1) (by simp; exact hb2)
          exact ⟨(World.cell?_alloc_lt _ _ _ (World.block_lt_of_cell? _ _ this)).trans this, by have h9 := World.block_lt_of_cell? _ _ this; simp; omega⟩
        have hcall := Lib.hid (hit_any l[j] file m a1 a2 _ hlk hkk1 hkk2)
        clear hkk1 hkk2
        generalize l[j] = x at *
        have hsz := wv_size x.file x.spot hlk
        have hsl : (wv x.file x.spot x.data).toList.length = 514 := by simpa using hsz
        obtain ⟨C, hC⟩ : ∃ C, wv x.file x.spot x.data = C := ⟨_, rfl⟩
        rw [hC] at hsz hsl
        have hst : ∀ w' : World, (storeCells ⟨w'.heap.size, 0, none⟩ C.toList 0).run Tryz.prog (w'.alloc (.cells Tryz.zeroCells126 126)) = .ok () (w'.alloc (.cells C 126)) := fun w' => by
          rw [← hC]
          exact run_storeCells_new (P := Tryz.prog) w' 126 _ _ (by rw [hC, hsz]; kernel_rfl) (by rw [zero_pw, wv_size _ _ nought_len, hC, hsz]) (all_oneCell_toArray (wv_one x.file x.spot x.data))
        have hra2 : Hid (wr.rangeAt b (j * 514) C.toList) := by have := hra.out; rw [hC] at this; exact this
        rw [hC] at hcall hmv
        have hone : Hid (∀ v ∈ C.toList, v.oneCell' = true) := by rw [← hC]; exact wv_one x.file x.spot x.data
        clear hC hra
        cases hp : hitP file m x
        · rw [hp] at hcall
          have hsw2 : Hid (∀ W : World, W.heap[b]? = wr.heap[b]? → Sweep (W.setCells b (i' * 514) C.toList) b cap (i' + 1) (j + 1) (hitP file m) l) := fun W hk => hmv.out W hk hp
          have hth : Hid (∀ W : World, W.heap[b]? = wr.heap[b]? → W.there b (i' * 514) C.size) := fun W hk => by
            obtain ⟨cur, hrow, hszc⟩ := hsw.out.row
            have hrw := hk.trans hrow
            intro o ho
            rw [hsz] at ho
            refine ⟨?_, by simp [World.frozen?, hrw]⟩
            rw [cell_of_row _ _ _ _ _ _ hrw, Array.getElem?_eq_getElem (by rw [hszc]; have : (i' + 1) * 514 ≤ cap * 514 := Nat.mul_le_mul_right _ (by omega); omega)]
            rfl
          clear hsk hmv
          go_wp2_with (first | (refine wpList_load_mid rfl 126 _ rfl b (j * 514) (by simp [Act.eval]) _ _ hra2.out Tryz.underlying126 rfl (by rw [hsl]; kernel_rfl) ?_) | (refine wpList_load_row rfl 126 _ rfl wr.heap.size rfl _ C _ _ (heap_alloc_new wr _) Tryz.underlying126 rfl (by rw [hsz]; kernel_rfl) ?_) | fail)
          refine hcall.out.mono ?_
          rintro e w2 ⟨rfl, hb2'⟩
          have hs2 := hb2'.size
          have hsa : (wr.alloc (.cells C 126)).heap.size = wr.heap.size + 1 := by simp
          have hk2 : w2.heap[b]? = wr.heap[b]? := (hb2'.block b (by omega)).trans (Below.heap_alloc _ _ _ hbr)
          have hrow2 : Hid (w2.heap[wr.heap.size]? = some (.cells C 126)) := (hb2'.block _ (by omega)).trans (heap_alloc_new wr _)
          have hsw3 := Lib.hid (hsw2.out w2 hk2)
          have hth2 := Lib.hid (hth.out w2 hk2)
          have HB2 := Lib.hid hb2'
          have hcapi : (i' : Int) < l.length := by omega
          clear hb2' hcall hk2 hsw2 hth
          go_wp2_with (first | (refine wpList_load_row rfl 126 _ rfl wr.heap.size rfl _ C _ _ hrow2.out Tryz.underlying126 rfl (by rw [hsz]; kernel_rfl) ?_) | (refine wpList_store_mid rfl 126 _ _ rfl b (i' * 514) C (by simp [Act.eval]) rfl hth2.out (by rw [hsz]; kernel_rfl) (by have := all_oneCell_toArray hone.out; simpa using this) ?_) | fail)
          go_roundw
          case rel => exact ⟨i' + 1, j + 1, by go_num, by go_num, by omega, by omega, hsw3.out, ((hg.out.trans (World.grownBy_alloc _ _ _)).andThen (row' := none) ⟨HB2.out.os, HB2.out.tape, HB2.out.output, HB2.out.size, fun q hq _ => HB2.out.block q hq⟩ (fun _ e => by cases e)).trans (setCells_grown _ _ _ _)⟩
          case measure => simp [intOf]; omega
        · rw [hp] at hcall
          have hsw2 := Lib.hid (hsk.out hp)
          clear hsk hmv
          go_wp2_with (first | (refine wpList_load_mid rfl 126 _ rfl b (j * 514) (by simp [Act.eval]) _ _ hra2.out Tryz.underlying126 rfl (by rw [hsl]; kernel_rfl) ?_) | (refine wpList_load_row rfl 126 _ rfl wr.heap.size rfl _ C _ _ (heap_alloc_new wr _) Tryz.underlying126 rfl (by rw [hsz]; kernel_rfl) ?_) | fail)
          refine hcall.out.mono ?_
          rintro e w2 ⟨rfl, hb2'⟩
          have hs2 := hb2'.size
          have hsa : (wr.alloc (.cells C 126)).heap.size = wr.heap.size + 1 := by simp
          have hk2 : w2.heap[b]? = wr.heap[b]? := (hb2'.block b (by omega)).trans (Below.heap_alloc _ _ _ hbr)
          have hsw3 := Lib.hid (hsw2.out.keep hk2)
          have HB2 := Lib.hid hb2'
          clear hb2' hcall hk2 hsw2
          go_wp2_with fail
          go_roundw
          case rel => exact ⟨i', j + 1, rfl, by go_num, by omega, by omega, hsw3.out, (hg.out.trans (World.grownBy_alloc _ _ _)).andThen (row' := none) ⟨HB2.out.os, HB2.out.tape, HB2.out.output, HB2.out.size, fun q hq _ => HB2.out.block q hq⟩ (fun _ e => by cases e)⟩
          case measure => simp [intOf]; omega
      · have hjl : j = l.length := by omega
        have hge : (l.length : Int) ≤ j := by omega
        have hil : (i' : Int) < l.length := by omega
        have hkept := hsw.out.kept
        rw [hjl, List.take_of_length_le (Nat.le_refl _)] at hkept
        obtain ⟨cur, hrow, hszc⟩ := hsw.out.row
        have HROW := Lib.hid hrow
        have HKEPT := Lib.hid hkept
        have hfront := hsw.out.front
        rw [hjl, List.take_of_length_le (Nat.le_refl _)] at hfront
        have HFR := Lib.hid hfront
        have hcapi : (i' : Int) ≤ cap := by omega
        have hlcap : (l.length : Int) ≤ cap := by omega
        have hcn : (cap : Int) ≠ i' := by omega
        clear hkept hrow hfront
        go_wp2_with (first | (refine wp_clear_pw rfl _ rfl b i' (l.length - i') (cap - i') cur (by simp [Act.eval]) (by omega) HROW.out (by rw [hszc]; exact Nat.mul_le_mul_right _ (by omega)) ?hK) | fail)
        intro w3 cur3 hrow3 hsz3 hsame hg3
        have hown := own_of_rows HROW.out HKEPT.out hrow3 hsz3 rfl hsame HFR.out (fun x hx => HL.out x (List.mem_filter.1 hx).1) (by omega) hcap.2
        have HOWN := Lib.hid hown
        have HA : Hid (Apart (fun k => k = b) w w3) := by
          have h1 : Apart (fun k => k = b) w w1 := .below HB.out
          exact (h1.step hg.out (fun q e => by injection e with e; exact .inl e.symm)).step hg3 (fun q e => by injection e with e; exact .inl e.symm)
        clear hrow3 hsz3 hsame hg3 hown
        go_wp2_with fail
        go_ret
        exact ⟨i', rfl, HKEPT.out, HOWN.out, HA.out⟩

end Go.Proofs.YtlchmkpnehbnlaaGreatDoor.Cd

/-
  forget: writes are taken out of those that wait. Conditions: none.
-/
namespace Go.Proofs.YtlchmkpnehbnlaaGreatDoor.Cd
open Go.RowKit

def forgetP (P : Pd) (file m : Nat) : Pd := { P with late := P.late.filter fun x => !hitP file m x }

theorem forgetP_fits {P : Pd} {N : Nat} (h : Fits P N) (file m : Nat) : Fits (forgetP P file m) N := by
  refine ⟨h.top, h.room, h.made, h.acts, h.fuse, h.keep, fun x hx => h.late x (List.mem_filter.1 hx).1, h.now, h.safe, h.nns, ?_, h.files, h.fresh⟩
  have := h.nss
  have h2 := List.length_filter_le (fun x => !hitP file m x) P.late
  show P.ns + 4097 * (P.late.filter fun x => !hitP file m x).length ≤ _
  omega

theorem delete_nil (a1 a2 : Addr) (w : World) :
    Calls Tryz.prog 181 #[.slice none 0 0, .func (.func 182) #[] #[.pointer (some a1), .pointer (some a2)]] w (fun e w' => e = .returned (.slice none 0 0) ∧ w' = w) := by
  have hi : Calls Tryz.prog 209 #[.slice none 0 0, .func (.func 182) #[] #[.pointer (some a1), .pointer (some a2)]] w (fun e w' => e = .returned (.int .i64 (-1)) ∧ w' = w) := by
    go_enter Tryz.func209, Tryz.ntmps209
    go_wp2_with fail
    refine wp_loop_rounds 1 ?_
    rw [rounds_succ]
    go_wp2_with fail
    go_ret
    exact ⟨rfl, rfl⟩
  have HI := Lib.hid hi
  clear hi
  go_enter Tryz.func181, Tryz.ntmps181
  go_wp2_with fail
  refine HI.out.mono ?_
  rintro e w1 ⟨rfl, rfl⟩
  go_wp2_with fail
  go_ret
  exact ⟨rfl, rfl⟩

theorem DiskR.turn {w w1 : World} {g N bf c1 p1 c2 p2 : Nat} {S : Nat → Prop} {P P1 : Pd} {lv v : Value} (h : DiskR w g S P N bf c1 p1 c2 p2 lv) (hrow : w1.heap[g]? = some (.cells (dcells P1 bf c1 p1 c2 p2 v) 73)) (hfl : w1.heap[bf]? = w.heap[bf]?) (he : P1.files = P.files)
    (hnow : Side w1 c1 p1 P1.now P1.nn N) (hsafe : ∃ k, Side w1 c2 p2 P1.safe P1.ns k ∧ k + P1.late.length ≤ N) (ho : w1.ownsRow 0 126 514 v P1.late.length (wcs P1.late)) (hv : v.ownBlock = lv.ownBlock) (hf : Fits P1 N) (hs : w.heap.size ≤ w1.heap.size) :
    DiskR w1 g S P1 N bf c1 p1 c2 p2 v := by
  obtain ⟨n, hfil, hn⟩ := h.fil
  exact ⟨hf, hrow, ⟨n, by rw [he]; exact hfil.heap hfl, hn⟩, hnow, hsafe, ho, h.neg, h.nef, h.nes, fun b hb => h.nel b (by rw [← hv]; exact hb), h.ins, fun b hb => h.inl b (by rw [← hv]; exact hb), fun k hk => Nat.lt_of_lt_of_le (h.lt k hk) hs⟩

def Forgot (g bf c1 p1 c2 p2 file m : Nat) (P : Pd) (lv : Value) (w : World) (e : Ending) (w' : World) : Prop :=
  e = .returned (.tuple #[]) ∧ ∃ v, w'.heap[g]? = some (.cells (dcells P bf c1 p1 c2 p2 v) 73) ∧ v.ownBlock = lv.ownBlock ∧
    w'.ownsRow 0 126 514 v (P.late.filter fun x => !hitP file m x).length (wcs (P.late.filter fun x => !hitP file m x)) ∧ Apart (fun k => k = g ∨ lv.ownBlock = some k) w w'

set_option maxRecDepth 100000 in
set_option maxHeartbeats 1600000 in
theorem forget_core (g bf c1 p1 c2 p2 file m : Nat) (P : Pd) (lv : Value) (w : World) (hrow : w.heap[g]? = some (.cells (dcells P bf c1 p1 c2 p2 lv) 73)) (hlate0 : w.ownsRow 0 126 514 lv P.late.length (wcs P.late))
    (hl : ∀ x ∈ P.late, x.data.length = 512) (hlen : P.late.length ≤ 137438953472) (hneg : ∀ b, lv.ownBlock = some b → b ≠ g) :
    Calls Tryz.prog 159 #[.pointer (some ⟨g, 0, none⟩), .int .i64 file, .int .i64 m] w (Forgot g bf c1 p1 c2 p2 file m P lv w) := by
  have hg : g < w.heap.size := (Array.getElem?_eq_some_iff.1 hrow).1
  have hlow : ∀ b, lv.ownBlock = some b → b < w.heap.size := fun b hb => (World.ownsRow.lt hlate0 b hb).2
  have hA : Apart (fun k => k = g ∨ lv.ownBlock = some k) w ((w.alloc (.cells #[.int .i64 file] 3)).alloc (.cells #[.int .i64 m] 3)) := ((Apart.refl _ w).alloc _).alloc _
  have hs2 : ((w.alloc (.cells #[.int .i64 file] 3)).alloc (.cells #[.int .i64 m] 3)).heap.size = w.heap.size + 2 := by simp
  have hB : Below w.heap.size w ((w.alloc (.cells #[.int .i64 file] 3)).alloc (.cells #[.int .i64 m] 3)) := ((Below.refl _ _).alloc (Nat.le_refl _) _).alloc (by simp) _
  have hrow2 := (hB.block g hg).trans hrow
  have hlate := row_kept hlate0 (fun b hb => hB.block b (hlow b hb))
  have k1 : Capt ((w.alloc (.cells #[.int .i64 file] 3)).alloc (.cells #[.int .i64 m] 3)) ⟨w.heap.size, 0, none⟩ file := ⟨cell_of_row _ _ _ _ _ _ (heap_alloc2_old w _ _), by rw [hs2]; show w.heap.size < _; omega⟩
  have k2 : Capt ((w.alloc (.cells #[.int .i64 file] 3)).alloc (.cells #[.int .i64 m] 3)) ⟨w.heap.size + 1, 0, none⟩ m := ⟨cell_of_row _ _ _ _ _ _ (heap_alloc2_new w _ _), by rw [hs2]; show w.heap.size + 1 < _; omega⟩
  have c7 : ((w.alloc (.cells #[.int .i64 file] 3)).alloc (.cells #[.int .i64 m] 3)).cell? ⟨g, 7, none⟩ = some lv := cell_of_row _ _ _ _ _ _ hrow2
  have f7 : ((w.alloc (.cells #[.int .i64 file] 3)).alloc (.cells #[.int .i64 m] 3)).frozen? ⟨g, 7, none⟩ = false := by unfold World.frozen?; rw [hrow2]; rfl
  have hown7 := own_one hlate
  rcases hlate.2 with ⟨rfl, h0⟩ | ⟨b, cap, cur, rfl, _, _, hncap, hcapm, _, _⟩
  · have hnil : P.late = [] := List.eq_nil_of_length_eq_zero h0
    have hdel := delete_nil ⟨w.heap.size, 0, none⟩ ⟨w.heap.size + 1, 0, none⟩ ((w.alloc (.cells #[.int .i64 file] 3)).alloc (.cells #[.int .i64 m] 3))
    have HD := Lib.hid hdel
    have HROW := Lib.hid hrow2
    have HA := Lib.hid hA
    have HN := Lib.hid hnil
    clear hdel hrow hrow2 hA hB k1 k2 hlate hl hlow hnil h0 hlate0 hown7 hneg
    go_enter Tryz.func159, Tryz.ntmps159
    go_wp2_with fail
    generalize (w.alloc (.cells #[.int .i64 file] 3)).alloc (.cells #[.int .i64 m] 3) = w2 at *
    refine HD.out.mono ?_
    rintro e w3 ⟨rfl, rfl⟩
    go_wp2_with fail
    go_end0
    have ho : ∀ W : World, W.ownsRow 0 126 514 (.slice none 0 0) (P.late.filter fun x => !hitP file m x).length (wcs (P.late.filter fun x => !hitP file m x)) := by
      intro W
      rw [HN.out]
      exact World.ownsRow_nil _ _ _ _
    exact ⟨rfl, .slice none 0 0, heap_setCell_same _ g 7 _ _ (.slice none 0 0) HROW.out, rfl, ho _, apart_setCell HA.out (a := ⟨g, 7, none⟩) (.inl rfl) _⟩
  · have hbl := hlow b rfl
    have hdel := delete_any b cap file m P.late ⟨w.heap.size, 0, none⟩ ⟨w.heap.size + 1, 0, none⟩ _ hlate hl hlen k1 k2 (by show w.heap.size ≠ b; omega) (by show w.heap.size + 1 ≠ b; omega)
    have HD := Lib.hid hdel
    have HROW := Lib.hid hrow2
    have HA := Lib.hid hA
    have hgb := hneg b rfl
    clear hdel hrow hrow2 hA hB k1 k2 hlate hl hlow hlate0 hown7 hneg
    go_enter Tryz.func159, Tryz.ntmps159
    go_wp2_with fail
    generalize (w.alloc (.cells #[.int .i64 file] 3)).alloc (.cells #[.int .i64 m] 3) = w2 at *
    clear f7
    refine HD.out.mono ?_
    rintro e w3 ⟨n, rfl, hn, ho, ha⟩
    have hsz3 := ha.size
    have hrow3 : w3.heap[g]? = some (.cells (dcells P bf c1 p1 c2 p2 (.slice (some ⟨b, 0, none⟩) P.late.length cap)) 73) := (ha.block g (by omega) (by omega)).trans HROW.out
    have d7 : w3.cell? ⟨g, 7, none⟩ = some (.slice (some ⟨b, 0, none⟩) P.late.length cap) := cell_of_row _ _ _ _ _ _ hrow3
    have f7 : w3.frozen? ⟨g, 7, none⟩ = false := by simp [World.frozen?, hrow3]
    have HO := Lib.hid ho
    have HA3 := Lib.hid ha
    have HN := Lib.hid hn
    have HROW3 := Lib.hid hrow3
    clear ho ha hrow3 hn
    go_wp2_with fail
    go_end0
    have ho := HO.out
    rw [HN.out] at ho
    have hap : Apart (fun k => k = g ∨ (Value.slice (some ⟨b, 0, none⟩) P.late.length cap).ownBlock = some k) w w3 := HA.out.trans (HA3.out.mono (fun k hk => .inl (.inr (by rw [hk]; rfl))))
    refine ⟨rfl, .slice (some ⟨b, 0, none⟩) n cap, heap_setCell_same _ g 7 _ _ (.slice (some ⟨b, 0, none⟩) n cap) HROW3.out, rfl, ?_, apart_setCell hap (a := ⟨g, 7, none⟩) (.inl rfl) _⟩
    rw [HN.out]
    exact row_set ho _ (fun c hc => by injection hc with hc; rw [← hc]; exact hgb)

theorem forget_any (g N file m : Nat) (S : Nat → Prop) (P : Pd) (w : World) (h : Rep w g S P N) :
    Calls Tryz.prog 159 #[.pointer (some ⟨g, 0, none⟩), .int .i64 file, .int .i64 m] w (Makes g S (forgetP P file m) N (.tuple #[]) w) := by
  obtain ⟨bf, c1, p1, c2, p2, lv, h⟩ := h
  have hl : ∀ x ∈ P.late, x.data.length = 512 := fun x hx => (h.fits.late x hx).2.2
  have hlen : P.late.length ≤ 137438953472 := by obtain ⟨_, _, h9⟩ := h.safe; have := h.fits.top; omega
  refine (forget_core g bf c1 p1 c2 p2 file m P lv w h.row h.late hl hlen (fun b hb => (h.nel b hb).1)).mono ?_
  rintro e w' ⟨rfl, v, hrow, hv, ho, ha⟩
  obtain ⟨i1, i2, i3, i4, i5, i6⟩ := h.ins
  obtain ⟨n1, n2, n3, n4, n5⟩ := h.neg
  obtain ⟨k, hsf, hk⟩ := h.safe
  have hb : ∀ b, S b → b ≠ g → (∀ c, lv.ownBlock = some c → b ≠ c) → w'.heap[b]? = w.heap[b]? := fun b hS h1 h2 => ha.block b (h.lt b hS) (fun e => e.elim h1 (fun e => h2 b e rfl))
  have hap : Apart S w w' := ha.mono (fun k hk => hk.elim (fun e => by rw [e]; exact i1) (fun e => h.inl k e))
  have hle := List.length_filter_le (fun x => !hitP file m x) P.late
  have hd := h.turn (P1 := forgetP P file m) hrow (hb bf i2 (fun e => n1 e.symm) (fun c hc e => (h.nel c hc).2.1 e.symm)) rfl (h.now.heap (hb c1 i3 (fun e => n2 e.symm) (fun c hc e => (h.nel c hc).2.2.1 e.symm)) (hb p1 i4 (fun e => n3 e.symm) (fun c hc e => (h.nel c hc).2.2.2.1 e.symm)))
    ⟨k, hsf.heap (hb c2 i5 (fun e => n4 e.symm) (fun c hc e => (h.nel c hc).2.2.2.2.1 e.symm)) (hb p2 i6 (fun e => n5 e.symm) (fun c hc e => (h.nel c hc).2.2.2.2.2 e.symm)), by show k + (P.late.filter fun x => !hitP file m x).length ≤ N; omega⟩ ho hv (forgetP_fits h.fits file m) ha.size
  exact ⟨rfl, ⟨_, _, _, _, _, _, hd.more (fun _ => .inl) (since_lt h.lt ha.size)⟩, hap⟩

end Go.Proofs.YtlchmkpnehbnlaaGreatDoor.Cd

/-
  shorten: a file has so many pages at most, on both sides; drop: a file is gone. Conditions: none.
-/
namespace Go.Proofs.YtlchmkpnehbnlaaGreatDoor.Cd
open Go.RowKit

theorem DiskR.sides {w w1 : World} {g N M bf c1 p1 c2 p2 nn ns k : Nat} {S : Nat → Prop} {P : Pd} {lv : Value} {now safe : Pages} (h : DiskR w g S P N bf c1 p1 c2 p2 lv) (ha : Apart (fun b => two c1 p1 b ∨ two c2 p2 b) w w1)
    (h1 : Side w1 c1 p1 now nn M) (h2 : Side w1 c2 p2 safe ns k) (hk : k + P.late.length ≤ M) (hN : N ≤ M) (hf : Fits { P with now := now, nn := nn, safe := safe, ns := ns } M) :
    DiskR w1 g S { P with now := now, nn := nn, safe := safe, ns := ns } M bf c1 p1 c2 p2 lv := by
  obtain ⟨i1, i2, i3, i4, i5, i6⟩ := h.ins
  obtain ⟨n1, n2, n3, n4, n5⟩ := h.neg
  obtain ⟨m1, m2, m3, m4⟩ := h.nef
  obtain ⟨n, hfl, hn⟩ := h.fil
  have hb : ∀ b, S b → b ≠ c1 → b ≠ p1 → b ≠ c2 → b ≠ p2 → w1.heap[b]? = w.heap[b]? := fun b hS e1 e2 e3 e4 => ha.block b (h.lt b hS) (by rintro ((e | e) | (e | e)) <;> contradiction)
  exact ⟨hf, (hb g i1 n2 n3 n4 n5).trans h.row, ⟨n, hfl.heap (hb bf i2 m1 m2 m3 m4), by omega⟩, h1, ⟨k, h2, hk⟩, row_kept h.late (fun b hb2 => by
    obtain ⟨_, _, q3, q4, q5, q6⟩ := h.nel b hb2
    exact hb b (h.inl b hb2) q3 q4 q5 q6), h.neg, h.nef, h.nes, h.nel, h.ins, h.inl, fun k hk => Nat.lt_of_lt_of_le (h.lt k hk) ha.size⟩

theorem four_in {w : World} {g N bf c1 p1 c2 p2 : Nat} {S : Nat → Prop} {P : Pd} {lv : Value} (h : DiskR w g S P N bf c1 p1 c2 p2 lv) : ∀ b, two c1 p1 b ∨ two c2 p2 b → S b := by
  obtain ⟨i1, i2, i3, i4, i5, i6⟩ := h.ins
  rintro b ((rfl | rfl) | (rfl | rfl)) <;> assumption

set_option maxRecDepth 100000 in
set_option maxHeartbeats 800000 in
theorem cutfn_any (bc bp f m : Nat) (a1 a2 : Addr) (pg : Pages) (n k : Nat) (w : World) (h : Side w bc bp pg n k) (hf : f ≤ lim) (hm : m ≤ 9223372036854775807) (hL : (pg f).length ≤ 1048576) (hk : k ≤ lim) (h1 : Capt w a1 f) (h2 : Capt w a2 m) :
    Calls Tryz.prog 163 #[.agg #[.map (some bc), .map (some bp)], .pointer (some a1), .pointer (some a2)] w (SideCut bc bp f m pg n k w) := by
  have hlt := h.lt
  have hA : Apart (two bc bp) w (w.alloc (.cells #[.map (some bc), .map (some bp)] 69)) := (Apart.refl _ w).alloc _
  have hcut := sidecut_any bc bp f m pg n k (w.alloc (.cells #[.map (some bc), .map (some bp)] 69)) (h.below ((Below.refl _ _).alloc (Nat.le_refl _) _) hlt.1 hlt.2) hf hm hL hk
  have k1 : (w.alloc (.cells #[.map (some bc), .map (some bp)] 69)).cell? a1 = some (.int .i64 f) := (World.cell?_alloc_lt _ _ _ h1.2).trans h1.1
  have k2 : (w.alloc (.cells #[.map (some bc), .map (some bp)] 69)).cell? a2 = some (.int .i64 m) := (World.cell?_alloc_lt _ _ _ h2.2).trans h2.1
  have HCUT := Lib.hid hcut
  have HA := Lib.hid hA
  clear hcut hA h h1 h2
  go_enter Tryz.func163, Tryz.ntmps163
  go_wp2_with fail
  refine HCUT.out.mono ?_
  rintro e w3 ⟨rfl, hs, ha⟩
  have HS := Lib.hid hs
  have HA3 : Hid (Apart (two bc bp) w w3) := HA.out.trans (ha.mono (fun _ => .inl))
  clear hs ha
  go_wp2_with fail
  go_end0
  exact ⟨rfl, HS.out, HA3.out⟩

set_option maxRecDepth 100000 in
set_option maxHeartbeats 800000 in
theorem delfn_any (bc bp f : Nat) (a1 : Addr) (pg : Pages) (n k : Nat) (w : World) (h : Side w bc bp pg n k) (hf : f ≤ lim) (he : pg f = []) (h1 : Capt w a1 f) :
    Calls Tryz.prog 149 #[.agg #[.map (some bc), .map (some bp)], .pointer (some a1)] w (fun e w' => e = .returned (.tuple #[]) ∧ Side w' bc bp pg n k ∧ Apart (two bc bp) w w') := by
  have hlt := h.lt
  have hA : Apart (two bc bp) w (w.alloc (.cells #[.map (some bc), .map (some bp)] 69)) := (Apart.refl _ w).alloc _
  have k1 : (w.alloc (.cells #[.map (some bc), .map (some bp)] 69)).cell? a1 = some (.int .i64 f) := (World.cell?_alloc_lt _ _ _ h1.2).trans h1.1
  obtain ⟨⟨q, j0, hcnt, hjk, hq⟩, hpg, hne⟩ := h
  have HC := Lib.hid hcnt
  have HP := Lib.hid hpg
  have HQ := Lib.hid hq
  have HA := Lib.hid hA
  have HE := Lib.hid he
  obtain ⟨j1, hj1⟩ : ∃ j1, (j0 - if (q f).isSome = true then 1 else 0) = j1 := ⟨_, rfl⟩
  have hj2 : j1 ≤ j0 := by omega
  have HJ1 := Lib.hid hj1
  clear hcnt hpg hq hA h1 he hj1
  go_enter Tryz.func149, Tryz.ntmps149
  go_wp2_with (first | (refine wp_drop cntK rfl _ _ rfl bc j0 q rfl (HC.out.alloc _) f rfl hf j1 HJ1.out ?hK) | fail)
  intro w3 hc3 hg3
  have HS : Hid (Side w3 bc bp pg n k) := ⟨⟨_, _, hc3, by omega, fun x hx => by
    unfold upd
    split
    · rename_i e
      rw [e, HE.out]; rfl
    · exact HQ.out x hx⟩, (HP.out.alloc _).grown hg3 (by simp; omega), hne⟩
  have HA3 : Hid (Apart (two bc bp) w w3) := HA.out.step hg3 (fun x e => by injection e with e; exact .inl (.inl e.symm))
  clear hc3 hg3
  go_wp2_with fail
  go_end0
  exact ⟨rfl, HS.out, HA3.out⟩

set_option maxRecDepth 100000 in
set_option maxHeartbeats 1600000 in
theorem both_cut (g f m N bf c1 p1 c2 p2 : Nat) (a1 a2 : Addr) (S : Nat → Prop) (P : Pd) (lv : Value) (w : World) (h : DiskR w g S P N bf c1 p1 c2 p2 lv) (hf : f ≤ P.made) (hm : m ≤ 9223372036854775807) (h1 : Capt w a1 f) (h2 : Capt w a2 m) (hs1 : ¬ S a1.block) (hs2 : ¬ S a2.block) :
    Calls Tryz.prog 148 #[.pointer (some ⟨g, 0, none⟩), .func (.func 163) #[] #[.pointer (some a1), .pointer (some a2)]] w
      (fun e w' => e = .returned (.tuple #[]) ∧ Side w' c1 p1 (setF P.now f ((P.now f).take m)) (P.nn - ((P.now f).length - m)) (N + 1) ∧ (∃ k, Side w' c2 p2 (setF P.safe f ((P.safe f).take m)) (P.ns - ((P.safe f).length - m)) (k + 1) ∧ k + P.late.length ≤ N) ∧ Apart (fun b => two c1 p1 b ∨ two c2 p2 b) w w') := by
  have hfl : f ≤ lim := by have := h.fits.made; have := h.fits.top; unfold lim; omega
  have hN : N ≤ lim := by have := h.fits.top; unfold lim; omega
  obtain ⟨k, hsf, hk⟩ := h.safe
  have hins := four_in h
  have hA1 := cutfn_any c1 p1 f m a1 a2 P.now P.nn N w h.now hfl hm (by have := h.fits.now f; omega) hN h1 h2
  have d3 : w.cell? ⟨g, 3, none⟩ = some (.map (some c1)) := cell_of_row _ _ _ _ _ _ h.row
  have d4 : w.cell? ⟨g, 4, none⟩ = some (.map (some p1)) := cell_of_row _ _ _ _ _ _ h.row
  have H := Lib.hid h
  have HC := Lib.hid hA1
  have HSF := Lib.hid hsf
  have K1 := Lib.hid h1
  have K2 := Lib.hid h2
  clear h hA1 hsf h1 h2
  go_enter Tryz.func148, Tryz.ntmps148
  go_wp2_with fail
  refine HC.out.mono ?_
  rintro e w1 ⟨rfl, hsd1, ha1⟩
  have hg1 := H.out.neg
  have hq1 := H.out.nes
  have hlt1 := H.out.lt g H.out.ins.1
  have hrow1 : w1.heap[g]? = some (.cells (dcells P bf c1 p1 c2 p2 lv) 73) := (ha1.block g hlt1 (by rintro (e | e) <;> omega)).trans H.out.row
  have d5 : w1.cell? ⟨g, 5, none⟩ = some (.map (some c2)) := cell_of_row _ _ _ _ _ _ hrow1
  have d6 : w1.cell? ⟨g, 6, none⟩ = some (.map (some p2)) := cell_of_row _ _ _ _ _ _ hrow1
  have kk1 : Capt w1 a1 f := ⟨(ha1.cell K1.out.2 (fun e => hs1 (hins _ (.inl e)))).trans K1.out.1, Nat.lt_of_lt_of_le K1.out.2 ha1.size⟩
  have kk2 : Capt w1 a2 m := ⟨(ha1.cell K2.out.2 (fun e => hs2 (hins _ (.inl e)))).trans K2.out.1, Nat.lt_of_lt_of_le K2.out.2 ha1.size⟩
  have hA2 := cutfn_any c2 p2 f m a1 a2 P.safe P.ns k w1 (HSF.out.apart ha1 (by rintro (e | e) <;> omega) (by rintro (e | e) <;> omega)) hfl hm (by have := H.out.fits.safe f; omega) (by omega) kk1 kk2
  have HC2 := Lib.hid hA2
  have HS1 := Lib.hid hsd1
  have HA1 := Lib.hid ha1
  clear hA2 kk1 kk2 hrow1 hsd1 ha1
  go_wp2_with fail
  refine HC2.out.mono ?_
  rintro e w2 ⟨rfl, hsd2, ha2⟩
  have HR : Hid (Side w2 c1 p1 (setF P.now f ((P.now f).take m)) (P.nn - ((P.now f).length - m)) (N + 1) ∧ (∃ k, Side w2 c2 p2 (setF P.safe f ((P.safe f).take m)) (P.ns - ((P.safe f).length - m)) (k + 1) ∧ k + P.late.length ≤ N) ∧ Apart (fun b => two c1 p1 b ∨ two c2 p2 b) w w2) :=
    ⟨HS1.out.apart ha2 (by rintro (e | e) <;> omega) (by rintro (e | e) <;> omega), ⟨k, hsd2, hk⟩, (HA1.out.mono (fun _ => .inl)).trans (ha2.mono (fun _ e => .inl (.inr e)))⟩
  clear hsd2 ha2
  go_wp2_with fail
  go_end0
  exact ⟨rfl, HR.out⟩

set_option maxRecDepth 100000 in
set_option maxHeartbeats 1600000 in
theorem both_del (g f N bf c1 p1 c2 p2 : Nat) (a1 : Addr) (S : Nat → Prop) (P : Pd) (lv : Value) (w : World) (h : DiskR w g S P N bf c1 p1 c2 p2 lv) (hf : f ≤ P.made) (he1 : P.now f = []) (he2 : P.safe f = []) (h1 : Capt w a1 f) (hs1 : ¬ S a1.block) :
    Calls Tryz.prog 148 #[.pointer (some ⟨g, 0, none⟩), .func (.func 149) #[] #[.pointer (some a1)]] w
      (fun e w' => e = .returned (.tuple #[]) ∧ Side w' c1 p1 P.now P.nn N ∧ (∃ k, Side w' c2 p2 P.safe P.ns k ∧ k + P.late.length ≤ N) ∧ Apart (fun b => two c1 p1 b ∨ two c2 p2 b) w w') := by
  have hfl : f ≤ lim := by have := h.fits.made; have := h.fits.top; unfold lim; omega
  obtain ⟨k, hsf, hk⟩ := h.safe
  have hins := four_in h
  have hA1 := delfn_any c1 p1 f a1 P.now P.nn N w h.now hfl he1 h1
  have d3 : w.cell? ⟨g, 3, none⟩ = some (.map (some c1)) := cell_of_row _ _ _ _ _ _ h.row
  have d4 : w.cell? ⟨g, 4, none⟩ = some (.map (some p1)) := cell_of_row _ _ _ _ _ _ h.row
  have H := Lib.hid h
  have HC := Lib.hid hA1
  have HSF := Lib.hid hsf
  have K1 := Lib.hid h1
  have HE2 := Lib.hid he2
  clear h hA1 hsf h1 he1 he2
  go_enter Tryz.func148, Tryz.ntmps148
  go_wp2_with fail
  refine HC.out.mono ?_
  rintro e w1 ⟨rfl, hsd1, ha1⟩
  have hg1 := H.out.neg
  have hq1 := H.out.nes
  have hlt1 := H.out.lt g H.out.ins.1
  have hrow1 : w1.heap[g]? = some (.cells (dcells P bf c1 p1 c2 p2 lv) 73) := (ha1.block g hlt1 (by rintro (e | e) <;> omega)).trans H.out.row
  have d5 : w1.cell? ⟨g, 5, none⟩ = some (.map (some c2)) := cell_of_row _ _ _ _ _ _ hrow1
  have d6 : w1.cell? ⟨g, 6, none⟩ = some (.map (some p2)) := cell_of_row _ _ _ _ _ _ hrow1
  have kk1 : Capt w1 a1 f := ⟨(ha1.cell K1.out.2 (fun e => hs1 (hins _ (.inl e)))).trans K1.out.1, Nat.lt_of_lt_of_le K1.out.2 ha1.size⟩
  have hA2 := delfn_any c2 p2 f a1 P.safe P.ns k w1 (HSF.out.apart ha1 (by rintro (e | e) <;> omega) (by rintro (e | e) <;> omega)) hfl HE2.out kk1
  have HC2 := Lib.hid hA2
  have HS1 := Lib.hid hsd1
  have HA1 := Lib.hid ha1
  clear hA2 kk1 hrow1 hsd1 ha1
  go_wp2_with fail
  refine HC2.out.mono ?_
  rintro e w2 ⟨rfl, hsd2, ha2⟩
  have HR : Hid (Side w2 c1 p1 P.now P.nn N ∧ (∃ k, Side w2 c2 p2 P.safe P.ns k ∧ k + P.late.length ≤ N) ∧ Apart (fun b => two c1 p1 b ∨ two c2 p2 b) w w2) :=
    ⟨HS1.out.apart ha2 (by rintro (e | e) <;> omega) (by rintro (e | e) <;> omega), ⟨k, hsd2, hk⟩, (HA1.out.mono (fun _ => .inl)).trans (ha2.mono (fun _ e => .inl (.inr e)))⟩
  clear hsd2 ha2
  go_wp2_with fail
  go_end0
  exact ⟨rfl, HR.out⟩

def shortenP (P : Pd) (f m : Nat) : Pd :=
  { P with now := setF P.now f ((P.now f).take m), nn := P.nn - ((P.now f).length - m), safe := setF P.safe f ((P.safe f).take m), ns := P.ns - ((P.safe f).length - m), late := P.late.filter fun x => !hitP f m x }

theorem cutP_fits {P : Pd} {N : Nat} (h : Fits P N) (hN : N < 137438953472) (f m : Nat) : Fits { P with now := setF P.now f ((P.now f).take m), nn := P.nn - ((P.now f).length - m), safe := setF P.safe f ((P.safe f).take m), ns := P.ns - ((P.safe f).length - m) } (N + 1) := by
  have h2 := h.mono (Nat.le_succ N) (by omega)
  refine ⟨h2.top, h.room, h2.made, h2.acts, h.fuse, h.keep, h.late, fun x => ?_, fun x => ?_, ?_, ?_, h.files, fun x hx => ⟨?_, ?_⟩⟩
  · show (setF P.now f _ x).length ≤ 4096
    unfold setF
    split
    · rw [List.length_take]; have := h.now f; omega
    · exact h.now x
  · show (setF P.safe f _ x).length ≤ 4096
    unfold setF
    split
    · rw [List.length_take]; have := h.safe f; omega
    · exact h.safe x
  · have := h.nns
    show P.nn - _ ≤ P.room
    omega
  · have := h2.nss
    show P.ns - _ + 4097 * P.late.length ≤ _
    omega
  · have := (h.fresh x hx).1
    show setF P.now f _ x = []
    unfold setF
    split
    · rename_i e; rw [← e, this, List.take_nil]
    · exact this
  · have := (h.fresh x hx).2
    show setF P.safe f _ x = []
    unfold setF
    split
    · rename_i e; rw [← e, this, List.take_nil]
    · exact this

set_option maxRecDepth 100000 in
set_option maxHeartbeats 1600000 in
theorem shorten_any (g N f m : Nat) (S : Nat → Prop) (P : Pd) (w : World) (h : Rep w g S P N) (hf : f ≤ P.made) (hm : m ≤ 9223372036854775807) (hN : N < 137438953472) :
    Calls Tryz.prog 133 #[.pointer (some ⟨g, 0, none⟩), .int .i64 f, .int .i64 m] w (Makes g S (shortenP P f m) (N + 1) (.tuple #[]) w) := by
  obtain ⟨bf, c1, p1, c2, p2, lv, h⟩ := h
  have hA : Apart S w ((w.alloc (.cells #[.int .i64 f] 3)).alloc (.cells #[.int .i64 m] 3)) := ((Apart.refl S w).alloc _).alloc _
  have hs2 : ((w.alloc (.cells #[.int .i64 f] 3)).alloc (.cells #[.int .i64 m] 3)).heap.size = w.heap.size + 2 := by simp
  have hB : Below w.heap.size w ((w.alloc (.cells #[.int .i64 f] 3)).alloc (.cells #[.int .i64 m] 3)) := ((Below.refl _ _).alloc (Nat.le_refl _) _).alloc (by simp) _
  have h2 := h.below hB h.lt
  have k1 : Capt ((w.alloc (.cells #[.int .i64 f] 3)).alloc (.cells #[.int .i64 m] 3)) ⟨w.heap.size, 0, none⟩ f := ⟨cell_of_row _ _ _ _ _ _ (heap_alloc2_old w _ _), by rw [hs2]; show w.heap.size < _; omega⟩
  have k2 : Capt ((w.alloc (.cells #[.int .i64 f] 3)).alloc (.cells #[.int .i64 m] 3)) ⟨w.heap.size + 1, 0, none⟩ m := ⟨cell_of_row _ _ _ _ _ _ (heap_alloc2_new w _ _), by rw [hs2]; show w.heap.size + 1 < _; omega⟩
  have hcut := both_cut g f m N bf c1 p1 c2 p2 ⟨w.heap.size, 0, none⟩ ⟨w.heap.size + 1, 0, none⟩ S P lv _ h2 hf hm k1 k2 (fun e => by have h9 : w.heap.size < w.heap.size := h.lt _ e; omega) (fun e => by have h9 : w.heap.size + 1 < w.heap.size := h.lt _ e; omega)
  have HCUT := Lib.hid hcut
  have HA := Lib.hid hA
  have H2 := Lib.hid h2
  have K1 := Lib.hid k1
  have K2 := Lib.hid k2
  have hlt := Lib.hid h.lt
  clear hcut hA hB h h2 k1 k2
  go_enter Tryz.func133, Tryz.ntmps133
  go_wp2_with fail
  generalize (w.alloc (.cells #[.int .i64 f] 3)).alloc (.cells #[.int .i64 m] 3) = w2 at *
  refine HCUT.out.mono ?_
  rintro e w3 ⟨rfl, hs1, ⟨k, hs2', hk⟩, ha⟩
  have hins := four_in H2.out
  have h3 := H2.out.sides ha hs1 hs2' (by omega) (Nat.le_succ N) (cutP_fits H2.out.fits hN f m)
  have e1 : w3.cell? ⟨w.heap.size, 0, none⟩ = some (.int .i64 f) := (ha.cell K1.out.2 (fun e => by have h9 : w.heap.size < w.heap.size := hlt.out _ (hins _ e); omega)).trans K1.out.1
  have e2 : w3.cell? ⟨w.heap.size + 1, 0, none⟩ = some (.int .i64 m) := (ha.cell K2.out.2 (fun e => by have h9 : w.heap.size + 1 < w.heap.size := hlt.out _ (hins _ e); omega)).trans K2.out.1
  have hap : Apart S w w3 := HA.out.trans (ha.mono (fun b hb => .inl (hins b hb)))
  have hfg := forget_any g (N + 1) f m S _ w3 ⟨_, _, _, _, _, _, h3⟩
  have HFG := Lib.hid hfg
  have HAP := Lib.hid hap
  clear hs1 hs2' ha h3 hap hfg
  go_wp2_with fail
  refine HFG.out.mono ?_
  intro e w4 hmk
  have HMK := Lib.hid (makes_up HAP.out hmk)
  obtain rfl := hmk.1
  clear hmk
  go_wp2_with fail
  go_end0
  exact HMK.out

end Go.Proofs.YtlchmkpnehbnlaaGreatDoor.Cd

/-
  drop: a file is gone, if there is one of that name. Conditions: none.
-/
namespace Go.Proofs.YtlchmkpnehbnlaaGreatDoor.Cd
open Go.RowKit

def dropP (P : Pd) (s : List UInt8) : Pd := match P.files s with
  | some k => { shortenP P k 0 with files := upd P.files s none }
  | none => P

theorem upd_none {q : List UInt8 → Option Nat} {s t : List UInt8} {k : Nat} (h : upd q s none t = some k) : q t = some k := by
  unfold upd at h
  split at h
  · cases h
  · exact h

theorem Fits.files_set {P : Pd} {N : Nat} (h : Fits P N) {q : List UInt8 → Option Nat} (hq : ∀ t k, q t = some k → k ≤ P.made) : Fits { P with files := q } N :=
  ⟨h.top, h.room, h.made, h.acts, h.fuse, h.keep, h.late, h.now, h.safe, h.nns, h.nss, hq, h.fresh⟩

set_option maxRecDepth 100000 in
set_option maxHeartbeats 1600000 in
theorem dropd_any (g N : Nat) (S : Nat → Prop) (P : Pd) (s : List UInt8) (w : World) (h : Rep w g S P N) (hs : s.length ≤ 140737488355328) (hN : N < 137438953472) :
    Calls Tryz.prog 104 #[.pointer (some ⟨g, 0, none⟩), .string ⟨s.toArray⟩] w (Makes g S (dropP P s) (N + 1) (.tuple #[]) w) := by
  have hR := h
  obtain ⟨bf, c1, p1, c2, p2, lv, h⟩ := h
  have d1 : w.cell? ⟨g, 1, none⟩ = some (.map (some bf)) := cell_of_row _ _ _ _ _ _ h.row
  obtain ⟨n, hf, hn⟩ := h.fil
  have hl := fil_look hf (s := s) (by simp only [maxLen]; omega)
  have hltS := h.lt
  cases hq : P.files s with
  | none =>
    rw [hq] at hl
    have hd : dropP P s = P := by unfold dropP; rw [hq]
    rw [hd]
    have HR := Lib.hid hR
    have HLT := Lib.hid hltS
    clear hR h hf hltS
    go_enter Tryz.func104, Tryz.ntmps104
    go_wp2_with fail
    go_end0
    exact ⟨rfl, ((HR.out.mono (Nat.le_succ N) (by omega)).below ((Below.refl _ _).alloc (Nat.le_refl _) _) HLT.out).more (fun _ => .inl) (since_lt HLT.out (by simp)), (Apart.refl _ _).alloc _⟩
  | some k =>
    rw [hq] at hl
    have hk : k ≤ P.made := h.fits.files s k hq
    have hd : dropP P s = { shortenP P k 0 with files := upd P.files s none } := by unfold dropP; rw [hq]
    rw [hd]
    have hA : Apart S w (w.alloc (.cells #[.int .i64 k] 3)) := (Apart.refl S w).alloc _
    have hrep2 := hR.below ((Below.refl _ _).alloc (Nat.le_refl _) (.cells #[.int .i64 k] 3)) hltS
    have hsh := shorten_any g N k 0 S P _ hrep2 hk (by omega) hN
    have hc0 : (w.alloc (.cells #[.int .i64 k] 3)).cell? ⟨w.heap.size, 0, none⟩ = some (.int .i64 k) := cell_of_row _ _ _ _ _ _ (heap_alloc_new w _)
    have hsw : (w.alloc (.cells #[.int .i64 k] 3)).heap.size = w.heap.size + 1 := by simp
    have HSH := Lib.hid hsh
    have HA := Lib.hid hA
    have HLT := Lib.hid hltS
    clear hsh hA hltS hR h hf hrep2 hd
    go_enter Tryz.func104, Tryz.ntmps104
    go_wp2_with fail
    generalize w.alloc (.cells #[.int .i64 k] 3) = w2 at *
    refine HSH.out.mono ?_
    rintro e w3 ⟨rfl, hrep3, ha3⟩
    have hap3 : Apart S w w3 := HA.out.trans (ha3.mono (fun _ => .inl))
    have hnS : ¬ S w.heap.size := fun e => by have := HLT.out _ e; omega
    have hs23 := ha3.size
    have hc3 : w3.cell? ⟨w.heap.size, 0, none⟩ = some (.int .i64 k) := (ha3.cell (by show w.heap.size < _; omega) hnS).trans hc0
    -- the set without the box
    obtain ⟨bf3, c13, p13, c23, p23, lv3, h3⟩ := hrep3
    have hne3 : ∀ b, since S w2 w3 b → b ≠ w.heap.size := fun b hb e => by
      rcases hb with hb | hb
      · rw [e] at hb; exact hnS hb
      · omega
    have he1 : (shortenP P k 0).now k = [] := by show setF P.now k _ k = []; rw [setF_same, List.take_zero]
    have he2 : (shortenP P k 0).safe k = [] := by show setF P.safe k _ k = []; rw [setF_same, List.take_zero]
    have hbo := both_del g k (N + 1) bf3 c13 p13 c23 p23 ⟨w.heap.size, 0, none⟩ (since S w2 w3) (shortenP P k 0) lv3 w3 h3 hk he1 he2 ⟨hc3, by show w.heap.size < _; omega⟩ (fun e => hne3 _ e rfl)
    have HB := Lib.hid hbo
    have H3 := Lib.hid h3
    have HAP := Lib.hid hap3
    have HA3 := Lib.hid ha3
    clear hbo h3 hap3 ha3 he1 he2
    go_wp2_with fail
    refine HB.out.mono ?_
    rintro e w4 ⟨rfl, hs1, ⟨j, hs2, hj⟩, ha4⟩
    have h4 := H3.out.sides ha4 hs1 hs2 hj (Nat.le_refl _) (by have := H3.out.fits; exact this)
    have hins := four_in H3.out
    have hfit4 : Fits { shortenP P k 0 with files := upd P.files s none } (N + 1) := Fits.files_set H3.out.fits (fun t x ht => H3.out.fits.files t x (upd_none ht))
    have e1 : w4.cell? ⟨g, 1, none⟩ = some (.map (some bf3)) := cell_of_row _ _ _ _ _ _ h4.row
    obtain ⟨n4, hf4, hn4⟩ := h4.fil
    have HA4 : Hid (Apart S w w4) := HAP.out.trans (ha4.mono (fun b hb => by
      rcases hins b hb with h | h
      · exact .inl h
      · exact .inr ⟨by omega, h.2⟩))
    obtain ⟨j1, hj1⟩ : ∃ j1, (n4 - if (P.files s).isSome = true then 1 else 0) = j1 := ⟨_, rfl⟩
    have hj2 : j1 ≤ N + 1 := by omega
    have HJ1 := Lib.hid hj1
    have H4 := Lib.hid h4
    have HF4 := Lib.hid hf4
    have HFIT := Lib.hid hfit4
    clear hs1 hs2 ha4 h4 hf4 hfit4 hj1
    go_wp2_with (first | (refine wp_drop filK rfl _ _ rfl bf3 n4 _ rfl HF4.out s rfl (by simp only [filK, maxLen]; omega) j1 HJ1.out ?hK) | fail)
    intro w5 hf5 hg5
    have h5 := H4.out.named hg5 hf5 hj2 HFIT.out
    have hin5 := H4.out.ins.2.1
    have HA5 : Hid (Apart S w w5) := HA4.out.step hg5 (fun q e => by
      injection e with e
      rw [← e]
      rcases hin5 with h | h
      · exact .inl h
      · exact .inr (by omega))
    have H5 := Lib.hid h5
    clear h5 hf5 hg5
    go_wp2_with fail
    go_end0
    refine ⟨rfl, ⟨_, _, _, _, _, _, H5.out.more (fun b hb => ?_) (since_lt HLT.out HA5.out.size)⟩, HA5.out⟩
    rcases hb with h | h
    · exact .inl h
    · exact .inr ⟨by omega, H5.out.lt b (.inr h)⟩

end Go.Proofs.YtlchmkpnehbnlaaGreatDoor.Cd

/-
  Writes that are played onto a side. Conditions: none.
-/
namespace Go.Proofs.YtlchmkpnehbnlaaGreatDoor.Cd
open Go.RowKit

def putS (s : Pages × Nat) (x : Pw) : Pages × Nat := (setF s.1 x.file (setP (s.1 x.file) x.spot x.data), s.2 + (x.spot + 1 - (s.1 x.file).length))
def playS (sel : Nat → Pw → Bool) : Nat → List Pw → Pages × Nat → Pages × Nat
  | _, [], s => s
  | i, x :: r, s => playS sel (i + 1) r (if sel i x = true then putS s x else s)
def cntS (sel : Nat → Pw → Bool) : Nat → List Pw → Nat
  | _, [] => 0
  | i, x :: r => (if sel i x = true then 1 else 0) + cntS sel (i + 1) r

theorem playS_append (sel : Nat → Pw → Bool) (b : List Pw) : ∀ (a : List Pw) (i : Nat) (s : Pages × Nat), playS sel i (a ++ b) s = playS sel (i + a.length) b (playS sel i a s) := by
  intro a
  induction a with
  | nil => intro i s; rfl
  | cons x r ih =>
    intro i s
    rw [List.cons_append, playS, playS, ih, List.length_cons]
    congr 1
    omega
theorem cntS_append (sel : Nat → Pw → Bool) (b : List Pw) : ∀ (a : List Pw) (i : Nat), cntS sel i (a ++ b) = cntS sel i a + cntS sel (i + a.length) b := by
  intro a
  induction a with
  | nil => intro i; simp [cntS]
  | cons x r ih =>
    intro i
    rw [List.cons_append, cntS, cntS, ih, List.length_cons, show i + 1 + r.length = i + (r.length + 1) by omega]
    omega
theorem playS_take (sel : Nat → Pw → Bool) {l : List Pw} {k : Nat} (hk : k < l.length) (s : Pages × Nat) : playS sel 0 (l.take (k + 1)) s = if sel k l[k] = true then putS (playS sel 0 (l.take k) s) l[k] else playS sel 0 (l.take k) s := by
  rw [List.take_succ_eq_append_getElem hk, playS_append, List.length_take, show 0 + min k l.length = k by omega]
  rfl
theorem cntS_take (sel : Nat → Pw → Bool) {l : List Pw} {k : Nat} (hk : k < l.length) : cntS sel 0 (l.take (k + 1)) = cntS sel 0 (l.take k) + if sel k l[k] = true then 1 else 0 := by
  rw [List.take_succ_eq_append_getElem hk, cntS_append, List.length_take, show 0 + min k l.length = k by omega]
  rfl
theorem cntS_le (sel : Nat → Pw → Bool) : ∀ (l : List Pw) (i : Nat), cntS sel i l ≤ l.length := by
  intro l
  induction l with
  | nil => intro i; exact Nat.le_refl _
  | cons x r ih =>
    intro i
    rw [cntS, List.length_cons]
    have := ih (i + 1)
    split <;> omega

structure SideOk (m : Nat) (s : Pages × Nat) : Prop where
  len : ∀ f, (s.1 f).length ≤ 4096
  fresh : ∀ f, m < f → s.1 f = []
theorem putS_ok {m : Nat} {s : Pages × Nat} {x : Pw} (h : SideOk m s) (hx : PwOk m x) : SideOk m (putS s x) := by
  refine ⟨fun f => ?_, fun f hf => ?_⟩
  · show (setF s.1 x.file _ f).length ≤ 4096
    unfold setF
    split
    · rw [setP_len]; have := h.len x.file; have := hx.2.1; omega
    · exact h.len f
  · show setF s.1 x.file _ f = []
    rw [setF_other _ (by have := hx.1; omega)]
    exact h.fresh f hf
theorem playS_ok {sel : Nat → Pw → Bool} {m : Nat} : ∀ (l : List Pw) (i : Nat) (s : Pages × Nat), SideOk m s → (∀ x ∈ l, PwOk m x) → SideOk m (playS sel i l s) := by
  intro l
  induction l with
  | nil => intro i s h _; exact h
  | cons x r ih =>
    intro i s h hl
    rw [playS]
    refine ih _ _ ?_ (fun y hy => hl y (by simp [hy]))
    split
    · exact putS_ok h (hl x (by simp))
    · exact h
theorem playS_n {sel : Nat → Pw → Bool} {m : Nat} : ∀ (l : List Pw) (i : Nat) (s : Pages × Nat), (∀ x ∈ l, PwOk m x) → (playS sel i l s).2 ≤ s.2 + 4097 * cntS sel i l := by
  intro l
  induction l with
  | nil => intro i s _; exact Nat.le_refl _
  | cons x r ih =>
    intro i s hl
    rw [playS, cntS]
    have h1 := ih (i + 1) (if sel i x = true then putS s x else s) (fun y hy => hl y (by simp [hy]))
    have h2 := (hl x (by simp)).2.1
    by_cases hs : sel i x = true
    · rw [if_pos hs] at h1 ⊢
      rw [if_pos hs]
      have h3 : (putS s x).2 ≤ s.2 + 4097 := by show s.2 + (x.spot + 1 - _) ≤ _; omega
      omega
    · rw [if_neg hs] at h1 ⊢
      rw [if_neg hs]
      omega

def ofFile (f : Nat) : Nat → Pw → Bool := fun _ x => decide (x.file = f)
theorem cnt_file (f : Nat) : ∀ (l : List Pw) (i : Nat), cntS (ofFile f) i l + (l.filter fun x => !hitP f 0 x).length = l.length := by
  intro l
  induction l with
  | nil => intro i; rfl
  | cons x r ih =>
    intro i
    rw [cntS, List.filter_cons, List.length_cons]
    have := ih (i + 1)
    have he : hitP f 0 x = ofFile f i x := by unfold hitP ofFile; simp
    rw [he]
    cases ofFile f i x
    · simp; omega
    · simp; omega

def settleP (P : Pd) (f : Nat) : Pd := { P with safe := (playS (ofFile f) 0 P.late (P.safe, P.ns)).1, ns := (playS (ofFile f) 0 P.late (P.safe, P.ns)).2, late := P.late.filter fun x => !hitP f 0 x }

theorem settle_end {w w1 w2 : World} {g N bf c1 p1 c2 p2 j f : Nat} {S : Nat → Prop} {P : Pd} {lv : Value} {e : Ending} (h : DiskR w g S P N bf c1 p1 c2 p2 lv) (ha : Apart (two c2 p2) w w1)
    (hs : Side w1 c2 p2 (playS (ofFile f) 0 P.late (P.safe, P.ns)).1 (playS (ofFile f) 0 P.late (P.safe, P.ns)).2 (j + cntS (ofFile f) 0 P.late)) (hj : j + P.late.length ≤ N) (hfg : Forgot g bf c1 p1 c2 p2 f 0 P lv w1 e w2) : Makes g S (settleP P f) N (.tuple #[]) w e w2 := by
  obtain ⟨he, v, hrow, hv, ho, ha2⟩ := hfg
  obtain ⟨i1, i2, i3, i4, i5, i6⟩ := h.ins
  obtain ⟨n1, n2, n3, n4, n5⟩ := h.neg
  obtain ⟨m1, m2, m3, m4⟩ := h.nef
  obtain ⟨q1, q2, q3, q4⟩ := h.nes
  have hcnt := cnt_file f P.late 0
  have hok := playS_ok (sel := ofFile f) P.late 0 (P.safe, P.ns) (m := P.made) ⟨h.fits.safe, fun x hx => (h.fits.fresh x hx).2⟩ h.fits.late
  have hn := playS_n (sel := ofFile f) P.late 0 (P.safe, P.ns) h.fits.late
  have hap1 : Apart S w w1 := ha.mono (by rintro b (rfl | rfl) <;> assumption)
  have hap : Apart S w w2 := hap1.trans (ha2.mono (fun k hk => .inl (hk.elim (fun e => by rw [e]; exact i1) (fun e => h.inl k e))))
  have hb : ∀ b, S b → b ≠ g → (∀ c, lv.ownBlock = some c → b ≠ c) → w2.heap[b]? = w1.heap[b]? := fun b hS h1 h2 => ha2.block b (Nat.lt_of_lt_of_le (h.lt b hS) ha.size) (fun e => e.elim h1 (fun e => h2 b e rfl))
  have hfits : Fits (settleP P f) N := by
    have h0 := h.fits
    refine ⟨h0.top, h0.room, h0.made, h0.acts, h0.fuse, h0.keep, fun x hx => h0.late x (List.mem_filter.1 hx).1, h0.now, hok.len, h0.nns, ?_, h0.files, fun x hx => ⟨(h0.fresh x hx).1, hok.fresh x hx⟩⟩
    have h1 := h0.nss
    have hn : (playS (ofFile f) 0 P.late (P.safe, P.ns)).2 ≤ P.ns + 4097 * cntS (ofFile f) 0 P.late := hn
    show (playS (ofFile f) 0 P.late (P.safe, P.ns)).2 + 4097 * (P.late.filter fun x => !hitP f 0 x).length ≤ 4097 * N
    omega
  have hd := h.turn (P1 := settleP P f) hrow ((hb bf i2 (fun e => n1 e.symm) (fun c hc e => (h.nel c hc).2.1 e.symm)).trans (ha.block bf (h.lt bf i2) (by rintro (e | e); exact m3 e; exact m4 e))) rfl
    ((h.now.apart ha (by rintro (e | e); exact q1 e; exact q2 e) (by rintro (e | e); exact q3 e; exact q4 e)).heap (hb c1 i3 (fun e => n2 e.symm) (fun c hc e => (h.nel c hc).2.2.1 e.symm)) (hb p1 i4 (fun e => n3 e.symm) (fun c hc e => (h.nel c hc).2.2.2.1 e.symm)))
    ⟨_, hs.heap (hb c2 i5 (fun e => n4 e.symm) (fun c hc e => (h.nel c hc).2.2.2.2.1 e.symm)) (hb p2 i6 (fun e => n5 e.symm) (fun c hc e => (h.nel c hc).2.2.2.2.2 e.symm)), by show j + cntS (ofFile f) 0 P.late + (P.late.filter fun x => !hitP f 0 x).length ≤ N; omega⟩ ho hv hfits hap.size
  exact ⟨he, ⟨_, _, _, _, _, _, hd.more (fun _ => .inl) (since_lt h.lt hap.size)⟩, hap⟩

end Go.Proofs.YtlchmkpnehbnlaaGreatDoor.Cd
