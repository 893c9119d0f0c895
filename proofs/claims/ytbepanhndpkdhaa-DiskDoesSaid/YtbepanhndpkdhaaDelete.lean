/-
  slices.DeleteFunc of the list of what waits. Conditions: none.
-/
import Derived.Test.YtbepanhndpkdhaaDrop
namespace Go.Proofs.Ytbepanhndpkdhaa.Cd
open Go.RowKit

/-- clear of a part of a row of writes: what lies ahead of it stays. -/
theorem wp_clear_pw {w : World} {ops : Array Oper} {rest : List Oper} {o : Oper} {a : Act} {Q : Exit → Act → World → Prop} (hgd : o.guard = none) (x : Operand)
    (hop : o.op = Op.call { callee := Callee.builtin Builtin.clear, args := #[x], argTypes := #[72] }) (b off n c : Nat) (cur : Array Value) (hx : a.eval x = .slice (some ⟨b, off * 514, none⟩) n c) (hn : 0 < n)
    (hrow : w.heap[b]? = some (.cells cur 107)) (hfit : (off + n) * 514 ≤ cur.size)
    (hK : ∀ w' cur', w'.heap[b]? = some (.cells cur' 107) → cur'.size = cur.size → (∀ j, j < off * 514 → cur'[j]? = cur[j]?) → w.grownBy w' (some b) → wpList Try.prog ops Q rest (a.put o.dst (.tuple #[])) w') : wpList Try.prog ops Q (o :: rest) a w := by
  refine wpList_plain hgd fun K hK' => ?_
  obtain ⟨zs, hzs, hz1⟩ : ∃ zs : List Value, (Builtin.zeroCells Try.zeroCells107 n).toList = zs ∧ zs.length = n * 514 ∧ ∀ v ∈ zs, v.oneCell' = true := by
    refine ⟨_, rfl, ?_, ?_⟩
    · unfold Builtin.zeroCells
      rw [zero_pw, Array.toList_map, List.length_map, Array.toList_range, List.length_range, wv_size 0 0 nought_len]
    · intro v hv
      unfold Builtin.zeroCells at hv
      rw [zero_pw, Array.toList_map] at hv
      obtain ⟨i, _, rfl⟩ := List.mem_map.1 hv
      have hs := wv_size 0 0 nought_len
      have hlt : i % (wv 0 0 nought).size < (wv 0 0 nought).size := Nat.mod_lt _ (by omega)
      rw [getElem!_pos (wv 0 0 nought) _ hlt]
      exact wv_one 0 0 nought _ (by simp)
  have hcell : ∀ j, j < zs.length → (w.cell? ⟨b, off * 514 + j, none⟩).isSome = true := fun j hj => by
    rw [cell_of_row _ _ _ _ _ _ hrow, Array.getElem?_eq_getElem (by rw [hz1.1] at hj; rw [Nat.add_mul] at hfit; omega)]
    rfl
  have hrun : (Builtin.clear_ #[72] o.type #[.slice (some ⟨b, off * 514, none⟩) n c]).run Try.prog w = .ok (.tuple #[]) (w.setCells b (off * 514) zs) := by
    obtain ⟨n, rfl⟩ : ∃ m, n = m + 1 := ⟨n - 1, by omega⟩
    have hst := run_storeCells_cells (P := Try.prog) b (off * 514) zs 0 w (by simpa using hcell) (fun j _ => by simp [World.frozen?, hrow]) hz1.2
    simp only [Nat.add_zero] at hst
    have hzc : (Value.agg Try.zeroCells107).cells = Try.zeroCells107 := rfl
    simp [Builtin.clear_, run_underlying Try.underlying72, Try.zeroValue107, hzc, hzs, hst, Result.andThen]
  have hrow2 := setCells_row b 107 zs w cur.toList (off * 514) (by simpa using hrow)
  unfold Oper.wp
  simp [execOp, hop, resolve, invoke, builtin, hx, hrun, Result.andThen]
  refine hK' _ _ (hK _ _ hrow2 (by rw [List.size_toArray, laid_length, Array.length_toList]) (fun j hj => ?_) (setCells_grown _ _ _ _))
  rw [List.getElem?_toArray, laid_at, if_neg (by omega)]
  simp

/-- The elements that stay of the first k, then those from j on. -/
structure Sweep (W : World) (b cap i j : Nat) (pd : Pw → Bool) (l : List Pw) : Prop where
  kept : i = ((l.take j).filter fun x => !pd x).length
  row : ∃ cur, W.heap[b]? = some (.cells cur 107) ∧ cur.size = cap * 514
  front : ∀ (k : Nat) (hk : k < ((l.take j).filter fun x => !pd x).length), AtRow W b k ((l.take j).filter fun x => !pd x)[k]
  back : ∀ (k : Nat) (hk : k < l.length), j ≤ k → AtRow W b k l[k]

theorem AtRow.keep {w w' : World} {b k : Nat} {x : Pw} (h : AtRow w b k x) (hb : w'.heap[b]? = w.heap[b]?) : AtRow w' b k x := fun o v hv => (World.cell?_of_block hb).trans (h o v hv)
theorem Sweep.keep {w w' : World} {b cap i j : Nat} {pd : Pw → Bool} {l : List Pw} (h : Sweep w b cap i j pd l) (hb : w'.heap[b]? = w.heap[b]?) : Sweep w' b cap i j pd l := by
  obtain ⟨cur, h1, h2⟩ := h.row
  exact ⟨h.kept, ⟨cur, hb.trans h1, h2⟩, fun k hk => (h.front k hk).keep hb, fun k hk hj => (h.back k hk hj).keep hb⟩

theorem filter_take {l : List Pw} {pd : Pw → Bool} {j : Nat} (hj : j < l.length) : ((l.take (j + 1)).filter fun x => !pd x) = ((l.take j).filter fun x => !pd x) ++ (if pd l[j] = true then [] else [l[j]]) := by
  rw [List.take_succ_eq_append_getElem hj, List.filter_append]
  cases h : pd l[j] <;> simp [h]

/-- One that is taken out. -/
theorem Sweep.skip {w : World} {b cap i j : Nat} {pd : Pw → Bool} {l : List Pw} (h : Sweep w b cap i j pd l) (hj : j < l.length) (hp : pd l[j] = true) : Sweep w b cap i (j + 1) pd l := by
  have hf := filter_take (pd := pd) hj
  rw [if_pos hp, List.append_nil] at hf
  refine ⟨by rw [hf]; exact h.kept, h.row, fun k hk => ?_, fun k hk hjk => h.back k hk (by omega)⟩
  have hk2 : k < ((l.take j).filter fun x => !pd x).length := by rw [hf] at hk; exact hk
  have := h.front k hk2
  have e : ((l.take (j + 1)).filter fun x => !pd x)[k] = ((l.take j).filter fun x => !pd x)[k] := by congr 1
  rw [e]
  exact this

/-- One that is moved ahead. -/
theorem Sweep.move {w : World} {b cap i j : Nat} {pd : Pw → Bool} {l : List Pw} (h : Sweep w b cap i j pd l) (hl : ∀ x ∈ l, x.data.length = 512) (hj : j < l.length) (hij : i < j) (hp : pd l[j] = false) (hcap : l.length ≤ cap) :
    Sweep (w.setCells b (i * 514) (wv l[j].file l[j].spot l[j].data).toList) b cap (i + 1) (j + 1) pd l := by
  obtain ⟨cur, hrow, hsz⟩ := h.row
  have hlj := hl _ (List.getElem_mem hj)
  have hf := filter_take (pd := pd) hj
  rw [if_neg (by rw [hp]; simp)] at hf
  have hlen : (wv l[j].file l[j].spot l[j].data).toList.length = 514 := by rw [Array.length_toList]; exact wv_size _ _ hlj
  have hth : w.there b (i * 514) (wv l[j].file l[j].spot l[j].data).toList.length := fun o ho => by
    rw [hlen] at ho
    refine ⟨?_, by simp [World.frozen?, hrow]⟩
    rw [cell_of_row _ _ _ _ _ _ hrow, Array.getElem?_eq_getElem (by rw [hsz]; have : (i + 1) * 514 ≤ cap * 514 := Nat.mul_le_mul_right _ (by omega); omega)]
    rfl
  have hlast : ((l.take (j + 1)).filter fun x => !pd x).length = i + 1 := by rw [hf, List.length_append, ← h.kept]; rfl
  have hapart : ∀ k x, k ≠ i → x.data.length = 512 → AtRow w b k x → AtRow (w.setCells b (i * 514) (wv l[j].file l[j].spot l[j].data).toList) b k x := fun k x hk hx ha => by
    refine World.rangeAt_setCells_apart ha _ _ _ ?_
    rw [hlen, Array.length_toList, wv_size _ _ hx]
    rcases Nat.lt_or_ge k i with hlt | hge
    · have : (k + 1) * 514 ≤ i * 514 := Nat.mul_le_mul_right _ hlt
      omega
    · have : (i + 1) * 514 ≤ k * 514 := Nat.mul_le_mul_right _ (by omega)
      omega
  refine ⟨hlast.symm, ⟨_, setCells_row b 107 _ w cur.toList (i * 514) (by simpa using hrow), by rw [List.size_toArray, laid_length, Array.length_toList, hsz]⟩, fun k hk => ?_, fun k hk hjk => ?_⟩
  · rw [hlast] at hk
    rcases Nat.lt_or_ge k i with hlt | hge
    · have hk2 : k < ((l.take j).filter fun x => !pd x).length := by rw [← h.kept]; exact hlt
      have e : ((l.take (j + 1)).filter fun x => !pd x)[k]'(by rw [hlast]; exact hk) = ((l.take j).filter fun x => !pd x)[k] := by
        have : ((l.take (j + 1)).filter fun x => !pd x)[k]? = ((l.take j).filter fun x => !pd x)[k]? := by rw [hf, List.getElem?_append_left hk2]
        rw [List.getElem?_eq_getElem (by rw [hlast]; exact hk), List.getElem?_eq_getElem hk2] at this
        injection this
      rw [e]
      exact hapart k _ (by omega) (hl _ (List.mem_of_mem_take (List.mem_filter.1 (List.getElem_mem hk2)).1)) (h.front k hk2)
    · obtain rfl : k = i := by omega
      have e : ((l.take (j + 1)).filter fun x => !pd x)[k]'(by rw [hlast]; exact hk) = l[j] := by
        have : ((l.take (j + 1)).filter fun x => !pd x)[k]? = some l[j] := by
          rw [hf, List.getElem?_append_right (by rw [← h.kept]; omega), ← h.kept, Nat.sub_self]
          rfl
        rw [List.getElem?_eq_getElem (by rw [hlast]; exact hk)] at this
        injection this
      rw [e]
      exact World.rangeAt_setCells_same _ _ _ _ hth
  · exact hapart k _ (by omega) (hl _ (List.getElem_mem hk)) (h.back k hk (by omega))

theorem own_of_rows {w w3 : World} {b cap n m : Nat} {l : List Pw} {cur cur3 : Array Value} (hrow : w.heap[b]? = some (.cells cur 107)) (hn : n = l.length) (hrow3 : w3.heap[b]? = some (.cells cur3 107)) (hs : cur3.size = m) (hm : m = cap * 514)
    (hsame : ∀ j, j < n * 514 → cur3[j]? = cur[j]?) (hat : ∀ (k : Nat) (hk : k < l.length), AtRow w b k l[k]) (hl : ∀ x ∈ l, x.data.length = 512) (hc : n ≤ cap) (hcm : cap ≤ 9223372036854775807) :
    w3.ownsRow 0 107 514 (.slice (some ⟨b, 0, none⟩) n cap) n (wcs l) := by
  subst hm hn
  refine ⟨wcs_len hl, .inr ⟨b, cap, cur3, rfl, Nat.zero_le _, hrow3, hc, hcm, hs, ?_⟩⟩
  apply List.ext_getElem?
  intro t
  rw [List.getElem?_take]
  by_cases ht : t < l.length * 514
  · rw [if_pos ht, Array.getElem?_toList, hsame t ht]
    have hk : t / 514 < l.length := by omega
    have ho : t % 514 < 514 := Nat.mod_lt _ (by omega)
    have e : t = t / 514 * 514 + t % 514 := by omega
    have h1 := wcs_at hl (t / 514) hk (t % 514) ho
    rw [← e] at h1
    rw [h1]
    have hlt : t % 514 < (wv l[t / 514].file l[t / 514].spot l[t / 514].data).toList.length := by rw [Array.length_toList, wv_size _ _ (hl _ (List.getElem_mem hk))]; exact ho
    have h2 := hat (t / 514) hk (t % 514) _ (List.getElem?_eq_getElem hlt)
    rw [cell_of_row _ _ _ _ _ _ hrow, ← e] at h2
    rw [h2, ← List.getElem?_eq_getElem hlt, Array.getElem?_toList]
  · rw [if_neg ht, List.getElem?_eq_none (by rw [wcs_len hl]; omega)]

/-- What DeleteFunc leaves. -/
def Deleted (b cap : Nat) (file m : Nat) (l : List Pw) (w : World) (e : Ending) (w' : World) : Prop :=
  ∃ n, e = .returned (.slice (some ⟨b, 0, none⟩) n cap) ∧ n = (l.filter fun x => !hitP file m x).length ∧ w'.ownsRow 0 107 514 (.slice (some ⟨b, 0, none⟩) n cap) n (wcs (l.filter fun x => !hitP file m x)) ∧ Apart (fun k => k = b) w w'

set_option maxRecDepth 100000 in
set_option maxHeartbeats 4000000 in
theorem delete_any (b cap file m : Nat) (l : List Pw) (a1 a2 : Addr) (w : World) (h : w.ownsRow 0 107 514 (.slice (some ⟨b, 0, none⟩) l.length cap) l.length (wcs l)) (hl : ∀ x ∈ l, x.data.length = 512) (hlen : l.length ≤ 137438953472) (h1 : Capt w a1 file) (h2 : Capt w a2 m) (hb1 : a1.block ≠ b) (hb2 : a2.block ≠ b) :
    Calls Try.prog 78 #[.slice (some ⟨b, 0, none⟩) l.length cap, .func (.func 79) #[] #[.pointer (some a1), .pointer (some a2)]] w (Deleted b cap file m l w) := by
  have hidx := index_any b cap file m l a1 a2 w h hl hlen h1 h2
  have hbl := (World.ownsRow.lt h b rfl).2
  have hcap : l.length ≤ cap ∧ cap ≤ 9223372036854775807 := by
    rcases h.2 with ⟨e, _⟩ | ⟨g, c, cur, e, _, _, hn, hm, _⟩
    · cases e
    · injection e with _ _ e; subst e; exact ⟨hn, hm⟩
  have HI := Lib.hid hidx
  have HW := Lib.hid h
  have HL := Lib.hid hl
  have K1 := Lib.hid h1
  have K2 := Lib.hid h2
  clear hidx h hl h1 h2
  rcases firstP_from (hitP file m) l 0 with ⟨hf1, hf2⟩ | ⟨j0, hj0, hf1, hf2, hf3⟩
  · have hall : Hid ((l.filter fun x => !hitP file m x) = l) := List.filter_eq_self.2 (fun x hx => by rw [hf2 x hx]; rfl)
    have HF1 := Lib.hid hf1
    clear hf1 hf2
    go_enter Try.func78, Try.ntmps78
    go_wp2_with fail
    refine HI.out.mono ?_
    rintro e w1 ⟨rfl, hbel⟩
    rw [HF1.out]
    have HB := Lib.hid hbel
    clear hbel
    go_wp2_with fail
    go_ret
    exact ⟨l.length, rfl, by rw [hall.out], by rw [hall.out]; exact row_kept HW.out (fun c hc => by injection hc with hc; rw [← hc]; exact HB.out.block b hbl), Apart.below HB.out⟩
  · have hone : Hid (((l.take j0).filter fun x => !hitP file m x) = l.take j0) := List.filter_eq_self.2 (fun x hx => by rw [hf3 x hx]; rfl)
    have HF1 := Lib.hid hf1
    have HF2 := Lib.hid hf2
    clear hf1 hf2 hf3
    have hj0i : (j0 : Int) < l.length := by omega
    have hne : ((((0 + j0 : Nat) : Int)) == -1) = false := by rw [beq_eq_false_iff_ne]; omega
    have hzj : ((0 + j0 : Nat) : Int) = (j0 : Int) := by omega
    rw [hzj] at hne
    go_enter Try.func78, Try.ntmps78
    go_wp2_with fail
    refine HI.out.mono ?_
    rintro e w1 ⟨rfl, hbel⟩
    rw [HF1.out, hzj]
    have HB := Lib.hid hbel
    have hs1 := hbel.size
    clear hbel
    go_wp2_with fail
    go_loopw [5, 6] (fun i j wr => ∃ i' j' : Nat, i = .int .i64 i' ∧ j = .int .i64 j' ∧ i' < j' ∧ j' ≤ l.length ∧ Hid (Sweep wr b cap i' j' (hitP file m) l) ∧ Hid (w1.grownBy wr (some b))) (fun _ j _ => l.length - (intOf j).toNat)
    case atStart =>
      have h0 : Sweep w1 b cap j0 j0 (hitP file m) l := by
        have hk : (l.take j0).length = j0 := by rw [List.length_take]; omega
        refine ⟨by rw [hone.out, hk], ?_, fun k hk2 => ?_, fun k hk2 _ => (row_at HW.out HL.out rfl k hk2).keep (HB.out.block b hbl)⟩
        · rcases HW.out.2 with ⟨e, _⟩ | ⟨g, c, cur, e, _, hg, _, _, hsz, _⟩
          · cases e
          · injection e with e1 _ e3
            injection e1 with e1
            injection e1 with e1
            subst e1 e3
            exact ⟨cur, (HB.out.block b hbl).trans hg, hsz⟩
        · have hk3 : k < l.length := by have := congrArg List.length hone.out; omega
          have e : ((l.take j0).filter fun x => !hitP file m x)[k] = l[k] := by
            have e1 : ((l.take j0).filter fun x => !hitP file m x)[k]? = l[k]? := by rw [hone.out, List.getElem?_take, if_pos (by have := congrArg List.length hone.out; omega)]
            rw [List.getElem?_eq_getElem hk2, List.getElem?_eq_getElem hk3] at e1
            injection e1
          rw [e]
          exact (row_at HW.out HL.out rfl k hk3).keep (HB.out.block b hbl)
      exact ⟨j0, j0 + 1, by first | rfl | go_num, by first | rfl | go_num, by omega, by omega, h0.skip hj0 HF2.out, ⟨rfl, rfl, rfl, Nat.le_refl _, fun _ _ _ => rfl⟩⟩
    case round =>
      obtain ⟨i', j, rfl, rfl, hij, hj, hsw, hg⟩ := hrel
      have hbr : b < wr.heap.size := Nat.lt_of_lt_of_le hbl (Nat.le_trans hs1 hg.out.size)
      by_cases hlt : j < l.length
      · have hlt2 : (j : Int) < l.length := by omega
        have hra : Hid (wr.rangeAt b (j * 514) (wv l[j].file l[j].spot l[j].data).toList) := hsw.out.back j hlt (Nat.le_refl _)
        have hlk := HL.out _ (List.getElem_mem hlt)
        have hsk := Lib.hid (fun hp => hsw.out.skip hlt hp)
        have hmv := Lib.hid (fun (W : World) (hk : W.heap[b]? = wr.heap[b]?) hp => (hsw.out.keep hk).move HL.out hlt hij hp hcap.1)
        have hkk1 : Capt (wr.alloc (.cells (wv l[j].file l[j].spot l[j].data) 107)) a1 file := by
          have := hg.out.cell (a := a1) ((HB.out.cell K1.out.2).trans K1.out.1) (by simp; exact hb1)
          exact ⟨(World.cell?_alloc_lt _ _ _ (World.block_lt_of_cell? _ _ this)).trans this, by have h9 := World.block_lt_of_cell? _ _ this; simp; omega⟩
        have hkk2 : Capt (wr.alloc (.cells (wv l[j].file l[j].spot l[j].data) 107)) a2 m := by
          have := hg.out.cell (a := a2) ((HB.out.cell K2.out.2).trans K2.out.1) (by simp; exact hb2)
          exact ⟨(World.cell?_alloc_lt _ _ _ (World.block_lt_of_cell? _ _ this)).trans this, by have h9 := World.block_lt_of_cell? _ _ this; simp; omega⟩
        have hcall := Lib.hid (hit_any l[j] file m a1 a2 _ hlk hkk1 hkk2)
        clear hkk1 hkk2
        generalize l[j] = x at *
        have hsz := wv_size x.file x.spot hlk
        have hsl : (wv x.file x.spot x.data).toList.length = 514 := by simpa using hsz
        obtain ⟨C, hC⟩ : ∃ C, wv x.file x.spot x.data = C := ⟨_, rfl⟩
        rw [hC] at hsz hsl
        have hst : ∀ w' : World, (storeCells ⟨w'.heap.size, 0, none⟩ C.toList 0).run Try.prog (w'.alloc (.cells Try.zeroCells107 107)) = .ok () (w'.alloc (.cells C 107)) := fun w' => by
          rw [← hC]
          exact run_storeCells_new (P := Try.prog) w' 107 _ _ (by rw [hC, hsz]; kernel_rfl) (by rw [zero_pw, wv_size _ _ nought_len, hC, hsz]) (all_oneCell_toArray (wv_one x.file x.spot x.data))
        have hra2 : Hid (wr.rangeAt b (j * 514) C.toList) := by have := hra.out; rw [hC] at this; exact this
        rw [hC] at hcall hmv
        have hone : Hid (∀ v ∈ C.toList, v.oneCell' = true) := by rw [← hC]; exact wv_one x.file x.spot x.data
        clear hC hra
        cases hp : hitP file m x
        · rw [hp] at hcall
          have hsw2 : Hid (∀ W : World, W.heap[b]? = wr.heap[b]? → Sweep (W.setCells b (i' * 514) C.toList) b cap (i' + 1) (j + 1) (hitP file m) l) := fun W hk => hmv.out W hk hp
          have hth : Hid (∀ W : World, W.heap[b]? = wr.heap[b]? → W.there b (i' * 514) C.size) := fun W hk => by
            obtain ⟨cur, hrow, hszc⟩ := hsw.out.row
            have hrw := hk.trans hrow
            intro o ho
            rw [hsz] at ho
            refine ⟨?_, by simp [World.frozen?, hrw]⟩
            rw [cell_of_row _ _ _ _ _ _ hrw, Array.getElem?_eq_getElem (by rw [hszc]; have : (i' + 1) * 514 ≤ cap * 514 := Nat.mul_le_mul_right _ (by omega); omega)]
            rfl
          clear hsk hmv
          go_wp2_with (first | (refine wpList_load_mid rfl 107 _ rfl b (j * 514) (by simp [Act.eval]) _ _ hra2.out Try.underlying107 rfl (by rw [hsl]; kernel_rfl) ?_) | (refine wpList_load_row rfl 107 _ rfl wr.heap.size rfl _ C _ _ (heap_alloc_new wr _) Try.underlying107 rfl (by rw [hsz]; kernel_rfl) ?_) | fail)
          refine hcall.out.mono ?_
          rintro e w2 ⟨rfl, hb2'⟩
          have hs2 := hb2'.size
          have hsa : (wr.alloc (.cells C 107)).heap.size = wr.heap.size + 1 := by simp
          have hk2 : w2.heap[b]? = wr.heap[b]? := (hb2'.block b (by omega)).trans (Below.heap_alloc _ _ _ hbr)
          have hrow2 : Hid (w2.heap[wr.heap.size]? = some (.cells C 107)) := (hb2'.block _ (by omega)).trans (heap_alloc_new wr _)
          have hsw3 := Lib.hid (hsw2.out w2 hk2)
          have hth2 := Lib.hid (hth.out w2 hk2)
          have HB2 := Lib.hid hb2'
          have hcapi : (i' : Int) < l.length := by omega
          clear hb2' hcall hk2 hsw2 hth
          go_wp2_with (first | (refine wpList_load_row rfl 107 _ rfl wr.heap.size rfl _ C _ _ hrow2.out Try.underlying107 rfl (by rw [hsz]; kernel_rfl) ?_) | (refine wpList_store_mid rfl 107 _ _ rfl b (i' * 514) C (by simp [Act.eval]) rfl hth2.out (by rw [hsz]; kernel_rfl) (by have := all_oneCell_toArray hone.out; simpa using this) ?_) | fail)
          go_roundw
          case rel => exact ⟨i' + 1, j + 1, by go_num, by go_num, by omega, by omega, hsw3.out, ((hg.out.trans (World.grownBy_alloc _ _ _)).andThen (row' := none) ⟨HB2.out.os, HB2.out.tape, HB2.out.output, HB2.out.size, fun q hq _ => HB2.out.block q hq⟩ (fun _ e => by cases e)).trans (setCells_grown _ _ _ _)⟩
          case measure => simp [intOf]; omega
        · rw [hp] at hcall
          have hsw2 := Lib.hid (hsk.out hp)
          clear hsk hmv
          go_wp2_with (first | (refine wpList_load_mid rfl 107 _ rfl b (j * 514) (by simp [Act.eval]) _ _ hra2.out Try.underlying107 rfl (by rw [hsl]; kernel_rfl) ?_) | (refine wpList_load_row rfl 107 _ rfl wr.heap.size rfl _ C _ _ (heap_alloc_new wr _) Try.underlying107 rfl (by rw [hsz]; kernel_rfl) ?_) | fail)
          refine hcall.out.mono ?_
          rintro e w2 ⟨rfl, hb2'⟩
          have hs2 := hb2'.size
          have hsa : (wr.alloc (.cells C 107)).heap.size = wr.heap.size + 1 := by simp
          have hk2 : w2.heap[b]? = wr.heap[b]? := (hb2'.block b (by omega)).trans (Below.heap_alloc _ _ _ hbr)
          have hsw3 := Lib.hid (hsw2.out.keep hk2)
          have HB2 := Lib.hid hb2'
          clear hb2' hcall hk2 hsw2
          go_wp2_with fail
          go_roundw
          case rel => exact ⟨i', j + 1, rfl, by go_num, by omega, by omega, hsw3.out, (hg.out.trans (World.grownBy_alloc _ _ _)).andThen (row' := none) ⟨HB2.out.os, HB2.out.tape, HB2.out.output, HB2.out.size, fun q hq _ => HB2.out.block q hq⟩ (fun _ e => by cases e)⟩
          case measure => simp [intOf]; omega
      · have hjl : j = l.length := by omega
        have hge : (l.length : Int) ≤ j := by omega
        have hil : (i' : Int) < l.length := by omega
        have hkept := hsw.out.kept
        rw [hjl, List.take_of_length_le (Nat.le_refl _)] at hkept
        obtain ⟨cur, hrow, hszc⟩ := hsw.out.row
        have HROW := Lib.hid hrow
        have HKEPT := Lib.hid hkept
        have hfront := hsw.out.front
        rw [hjl, List.take_of_length_le (Nat.le_refl _)] at hfront
        have HFR := Lib.hid hfront
        have hcapi : (i' : Int) ≤ cap := by omega
        have hlcap : (l.length : Int) ≤ cap := by omega
        have hcn : (cap : Int) ≠ i' := by omega
        clear hkept hrow hfront
        go_wp2_with (first | (refine wp_clear_pw rfl _ rfl b i' (l.length - i') (cap - i') cur (by simp [Act.eval]) (by omega) HROW.out (by rw [hszc]; exact Nat.mul_le_mul_right _ (by omega)) ?hK) | fail)
        intro w3 cur3 hrow3 hsz3 hsame hg3
        have hown := own_of_rows HROW.out HKEPT.out hrow3 hsz3 rfl hsame HFR.out (fun x hx => HL.out x (List.mem_filter.1 hx).1) (by omega) hcap.2
        have HOWN := Lib.hid hown
        have HA : Hid (Apart (fun k => k = b) w w3) := by
          have h1 : Apart (fun k => k = b) w w1 := .below HB.out
          exact (h1.step hg.out (fun q e => by injection e with e; exact .inl e.symm)).step hg3 (fun q e => by injection e with e; exact .inl e.symm)
        clear hrow3 hsz3 hsame hg3 hown
        go_wp2_with fail
        go_ret
        exact ⟨i', rfl, HKEPT.out, HOWN.out, HA.out⟩

end Go.Proofs.Ytbepanhndpkdhaa.Cd
