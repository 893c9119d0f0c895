/-
  Bytes that are put behind those that are there: the digest's add. Conditions: none.
-/
import Derived.Test.YtflgokbkkoobkaaDoorShaTake
import Derived.Deep.Slices
namespace Go.Proofs.YtflgokbkkoobkaaDoor.Cd
open Go.RowKit

def st0 : List Int := [1779033703, 3144134277, 1013904242, 2773480762, 1359893119, 2600822924, 528734635, 1541459225]
theorem st0_w : W32L st0 := fun x hx => by
  unfold st0 at hx
  simp only [List.mem_cons, List.not_mem_nil, or_false] at hx
  unfold W32
  omega

theorem sl_rest {w : World} {B : Nat} {A : Option Addr} {c : Nat} {bs : List UInt8} (h : Sl w B (.slice A bs.length c) bs) (n : Nat) (hn : n ≤ bs.length) (C : Option Addr) (hC : c ≠ n → C = A.map (·.add n)) (hC2 : c = n → C = A) :
    Sl w B (.slice C (bs.length - n) (c - n)) (bs.drop n) := by
  obtain ⟨A', c', e, h2, h3, h4, h5, h6⟩ := h
  injection e with e1 _ e3
  subst e1 e3
  refine ⟨C, c - n, by rw [List.length_drop], by rw [List.length_drop]; omega, by omega, fun hnone => ?_, fun ad e h0 => ?_, fun ad e j u hu => ?_⟩
  · by_cases hcn : c = n
    · omega
    · have := hC hcn
      rw [hnone] at this
      have hA : A = none := by cases A with
        | none => rfl
        | some _ => cases this
      have := h4 hA
      omega
  · rw [List.length_drop] at h0
    have hcn : c ≠ n := by omega
    have := hC hcn
    rw [e] at this
    cases A with
    | none => cases this
    | some a =>
      injection this with this
      rw [this, block_of_add]
      exact h5 a rfl (by omega)
  · have hj := (List.getElem?_eq_some_iff.1 hu).1
    rw [vb_length, List.length_drop] at hj
    have hcn : c ≠ n := by omega
    have := hC hcn
    rw [e] at this
    cases A with
    | none => cases this
    | some a =>
      injection this with this
      have hu2 : (vb bs)[n + j]? = some u := by
        rw [← hu]
        simp only [vb, List.map_drop, List.getElem?_drop]
      have h7 := h6 a rfl (n + j) u hu2
      rw [this, Go.Deep.add_add]
      exact h7

/-- A slice that reads as bytes, and doesn't lie in block g. -/
def SlNot (w : World) (g : Nat) (v : Value) (bs : List UInt8) : Prop := Sl w w.heap.size v bs ∧ ∀ A n c, v = .slice (some A) n c → 0 < bs.length → A.block ≠ g
theorem SlNot.only {w w' : World} {g : Nat} {v : Value} {bs : List UInt8} (h : SlNot w g v bs) (hb : Only g w w') : SlNot w' g v bs := by
  obtain ⟨⟨A, c, rfl, h2, h3, h4, h5, h6⟩, h7⟩ := h
  refine ⟨⟨A, c, rfl, h2, h3, h4, fun ad e h0 => Nat.lt_of_lt_of_le (h5 ad e h0) hb.size, fun ad e j u hu => ?_⟩, h7⟩
  have h0 : 0 < bs.length := by
    have hj := (List.getElem?_eq_some_iff.1 hu).1
    rw [vb_length] at hj
    omega
  subst e
  have hbl := hb.block ad.block (h5 ad rfl h0) (h7 ad _ _ rfl h0)
  rw [World.cell?_of_block (w := w) (by rw [block_of_add]; exact hbl)]
  exact h6 ad rfl j u hu
theorem SlNot.rest {w : World} {g : Nat} {A : Option Addr} {c : Nat} {bs : List UInt8} (h : SlNot w g (.slice A bs.length c) bs) (n : Nat) (hn : n ≤ bs.length) :
    SlNot w g (.slice (if c = n then A else A.map (·.add n)) (bs.length - n) (c - n)) (bs.drop n) := by
  refine ⟨sl_rest h.1 n hn _ (fun e => by rw [if_neg e]) (fun e => by rw [if_pos e]), fun B m d e h0 => ?_⟩
  injection e with e1
  rw [List.length_drop] at h0
  have hc : c ≠ n := by
    obtain ⟨_, _, e2, h2, _⟩ := h.1
    injection e2 with _ _ e3
    omega
  rw [if_neg hc] at e1
  cases A with
  | none => cases e1
  | some a =>
    injection e1 with e1
    rw [← e1, block_of_add]
    exact h.2 a _ _ rfl (by omega)
set_option maxRecDepth 100000 in
theorem slice_from (A : Option Addr) (len cap n : Nat) (h1 : n ≤ len) (h2 : len ≤ cap) (W : World) : (Instr.sliceAt 22 (.slice A len cap) (some (.int .i64 n)) none none).run Tryd.prog W = .ok (.slice (if cap = n then A else A.map (·.add n)) (len - n) (cap - n)) W := by
  have h0 : (0 : Int) ≤ (n : Int) := by omega
  have h3 : (n : Int) ≤ (len : Int) := by omega
  go_simp
set_option maxRecDepth 100000 in
theorem slice_blk (g u : Nat) (hu : u < 64) (W : World) : (Instr.sliceAt 75 (.pointer (some ⟨g, 8, none⟩)) (some (.int .i64 u)) none none).run Tryd.prog W = .ok (.slice (some ⟨g, 8 + u, none⟩) (64 - u) (64 - u)) W := by
  have hu2 : (u : Int) ≤ (Tryd.prog.arrayLen 75 : Nat) := by
    show (u : Int) ≤ 64
    omega
  have h := run_sliceAt_array_l (P := Tryd.prog) W 75 ⟨g, 8, none⟩ Tryd.underlying75 .i64 u (by omega) hu2
  rw [h]
  go_simp
  have hne : ¬ (64 = u) := by omega
  simp [slicedAt, hne, Addr.add]
def lenV : Value → Nat | .slice _ n _ => n | _ => 0

theorem step_copy_blk {w : World} {ops : Array Oper} {op : Oper} {a : Act} {K : Act → World → Prop} {Q : Exit → Act → World → Prop} {E : Prop} (hgd : op.guard = none) (d x : Operand)
    (hop : op.op = Op.call { callee := Callee.builtin Builtin.copy, args := #[d, x], argTypes := #[22, 22] }) {g : Nat} {st : List Int} {blk : List UInt8} {uu z : Int} (hD : DgAt w g st blk uu z) (u : Nat) (hu : u < 64)
    (hd : a.eval d = .slice (some ⟨g, 8 + u, none⟩) (64 - u) (64 - u)) (y : Value) (B : Nat) (bs : List UInt8) (hx : a.eval x = y) (hy : Sl w B y bs)
    (hK : ∀ w', DgAt w' g st (blk.take u ++ bs.take (64 - u) ++ blk.drop (u + (bs.take (64 - u)).length)) uu z → w.grownBy w' (some g) → K (a.put op.dst (.int .i64 (Nat.min bs.length (64 - u) : Nat))) w') : if Region.wanted op (yielded ops a.tmps) = true then Oper.wp Tryd.prog op a w K Q else E := by
  have hw : Region.wanted op (yielded ops a.tmps) = true := by simp [Region.wanted, hgd]
  rw [if_pos hw]
  obtain ⟨h1, h2, h3⟩ := hD
  have hlen : (bs.take (64 - u)).length ≤ 64 - u := by rw [List.length_take]; omega
  obtain ⟨w', hrun, r1, r2⟩ := run_copy_in (c := 64 - u) h3 (by rw [dgC_length h1 h2]; omega : 8 + u + (64 - u) ≤ _) hy op.type
  rw [dgC_laid h1 h2 _ _ u _ (by omega)] at r1
  unfold Oper.wp
  simp [execOp, hop, resolve, invoke, builtin, hd, hx, hrun, Result.andThen]
  exact hK w' ⟨h1, by simp [h2]; omega, r1⟩ r2

set_option maxRecDepth 100000 in
set_option maxHeartbeats 3200000 in
theorem add_any (g : Nat) (st : List Int) (blk : List UInt8) (u : Nat) (z : Int) (v : Value) (bs : List UInt8) (w : World) (hD : DgAt w g st blk u z) (hu : u < 64) (hst : W32L st) (hk : KeysAt w) (hg : 0 < g) (hgs : g < w.heap.size) (hv : SlNot w g v bs) :
    Calls Tryd.prog 34 #[.pointer (some ⟨g, 0, none⟩), v] w fun e w' => e = .returned (.tuple #[]) ∧ ∃ (S : List Int) (B : List UInt8) (n : Nat), n < 64 ∧ W32L S ∧ (∃ x : Int, DgAt w' g S B n x) ∧ Only g w w' := by
  have HK := Lib.hid hk
  have HV := Lib.hid hv
  obtain ⟨A, c, rfl, hbc, hcm⟩ := hv.1.len
  have cz := hD.size
  have fz := hD.frozen 73
  have HDS : Hid (∀ x, DgAt (w.setCell ⟨g, 73, none⟩ (.int .u64 x)) g st blk u x) := fun x => hD.setSize x
  have HOS : Hid (∀ x, Only g w (w.setCell ⟨g, 73, none⟩ (.int .u64 x))) := fun x => (Only.refl g w).set 73 _
  have HST := Lib.hid hst
  clear hD hst hk hv
  go_enter Tryd.func34, Tryd.ntmps34
  go_wp2_with fail
  go_loopw [1] (fun vv wr => ∃ (r : List UInt8) (S : List Int) (B : List UInt8) (n : Nat) (x : Int), n < 64 ∧ lenV vv = r.length ∧ Hid (SlNot wr g vv r) ∧ Hid (W32L S) ∧ Hid (DgAt wr g S B n x) ∧ Hid (Only g w wr)) (fun vv _ => lenV vv)
  case atStart => exact ⟨bs, st, blk, u, _, hu, rfl, HV.out.only (HOS.out _), HST, HDS.out _, HOS.out _⟩
  case round =>
    obtain ⟨r, S, B, n, x, hn, hlen, HR, HS, HD, HO⟩ := hrel
    clear HDS HOS cz fz HV HST hbc hcm
    obtain ⟨A1, c1, rfl, hrc, hcm⟩ := HR.out.1.len
    have hm2 : r.length ≤ 9223372036854775807 := by unfold maxLen at hcm; omega
    have hgs1 : g < wr.heap.size := by have := HO.out.size; omega
    clear hlen
    by_cases h0 : r.length = 0
    · have hq : ¬ (0 : Int) < (r.length : Int) := by omega
      go_wp2_with fail
      go_end0
      exact ⟨rfl, S, B, n, hn, HS.out, ⟨x, HD.out⟩, HO.out⟩
    · have hq : (0 : Int) < (r.length : Int) := by omega
      go_wp2_with fail
      obtain ⟨W0, hW0⟩ : ∃ v, wr.drew = v := ⟨_, rfl⟩
      have HD0 : Hid (DgAt W0 g S B n x) := by rw [← hW0]; exact HD.out
      have HO0 : Hid (Only g w W0) := by rw [← hW0]; exact HO.out.drew
      have HR0 : Hid (SlNot W0 g (.slice A1 r.length c1) r) := by rw [← hW0]; exact HR.out.only ((Only.refl g wr).drew)
      have hgs0 : g < W0.heap.size := by rw [← hW0]; exact hgs1
      have hsb := fun W => slice_blk g n hn W
      clear HD HO HR
      refine region_begin hW0 (S := fun W => Only g w W ∧ W.cell? ⟨g, 72, none⟩ = some (.int .i64 n)) (by kernel_rfl) ⟨HO0.out, HD0.out.used⟩ (fun hHeld => ?_)
      clear hW0
      refine take_at (i := 0) (.pointer (some ⟨g, 0, none⟩)) (some 18) (by decide) (by rfl) (by kernel_rfl) (by kernel_rfl) (by kernel_rfl) (fun _ _ _ h => h) (by rfl) (fun W hW => by go_simp) (by assumption) ?_
      try simp only [Act.put, List.setIfInBounds_toArray, List.set_cons_zero, List.set_cons_succ]
      refine take_at (i := 1) (.pointer (some ⟨g, 0, none⟩)) (some 19) (by decide) (by rfl) (by kernel_rfl) (by kernel_rfl) (by kernel_rfl) (fun _ _ _ h => h) (by rfl) (fun W hW => by go_simp) (by assumption) ?_
      try simp only [Act.put, List.setIfInBounds_toArray, List.set_cons_zero, List.set_cons_succ]
      refine take_at (i := 2) (.pointer (some ⟨g, 8, none⟩)) (some 20) (by decide) (by rfl) (by kernel_rfl) (by kernel_rfl) (by kernel_rfl) (fun _ _ _ h => h) (by rfl) (fun W hW => by go_simp) (by assumption) ?_
      try simp only [Act.put, List.setIfInBounds_toArray, List.set_cons_zero, List.set_cons_succ]
      refine take_at (i := 3) (.pointer (some ⟨g, 0, none⟩)) (some 21) (by decide) (by rfl) (by kernel_rfl) (by kernel_rfl) (by kernel_rfl) (fun _ _ _ h => h) (by rfl) (fun W hW => by go_simp) (by assumption) ?_
      try simp only [Act.put, List.setIfInBounds_toArray, List.set_cons_zero, List.set_cons_succ]
      refine take_at (i := 4) (.pointer (some ⟨g, 0, none⟩)) (some 22) (by decide) (by rfl) (by kernel_rfl) (by kernel_rfl) (by kernel_rfl) (fun _ _ _ h => h) (by rfl) (fun W hW => by go_simp) (by assumption) ?_
      try simp only [Act.put, List.setIfInBounds_toArray, List.set_cons_zero, List.set_cons_succ]
      refine take_at (i := 5) (.pointer (some ⟨g, 72, none⟩)) (some 23) (by decide) (by rfl) (by kernel_rfl) (by kernel_rfl) (by kernel_rfl) (fun _ _ _ h => h) (by rfl) (fun W hW => by go_simp) (by assumption) ?_
      try simp only [Act.put, List.setIfInBounds_toArray, List.set_cons_zero, List.set_cons_succ]
      refine take_at (i := 6) (.int .i64 (n : Int)) (some 24) (by decide) (by rfl) (by kernel_rfl) (by kernel_rfl) (by kernel_rfl) (fun _ _ _ h => h) (by rfl) (fun W hW => by have h9 := hW.2; go_simp) (by assumption) ?_
      try simp only [Act.put, List.setIfInBounds_toArray, List.set_cons_zero, List.set_cons_succ]
      refine take_at (i := 7) (.slice (some ⟨g, 8 + n, none⟩) (64 - n) (64 - n)) (some 25) (by decide) (by rfl) (by kernel_rfl) (by kernel_rfl) (by kernel_rfl) (fun _ _ _ h => h) (by rfl) (fun W hW => by go_simp) (by assumption) ?_
      try simp only [Act.put, List.setIfInBounds_toArray, List.set_cons_zero, List.set_cons_succ]
      refine take_at (i := 8) (.slice A1 r.length c1) (some 26) (by decide) (by rfl) (by kernel_rfl) (by kernel_rfl) (by kernel_rfl) (fun _ _ _ h => h) (by rfl) (fun W hW => by go_simp) (by assumption) ?_
      try simp only [Act.put, List.setIfInBounds_toArray, List.set_cons_zero, List.set_cons_succ]
      refine wpAnyH_ready (rs := [9]) (by kernel_rfl) (by simp) (AllReadyH.cons (Array.getElem?_eq_getElem (i := 9) (by decide)) (fun K9 hK => ?_) AllReadyH.nil)
      refine step_copy_blk rfl _ _ rfl HD0.out n hn rfl _ W0.heap.size r rfl HR0.out.1 ?_
      intro w5 hd5 hg5
      have HD5 := Lib.hid hd5
      have HO5 := Lib.hid (HO0.out.grown hg5)
      have HR5 := Lib.hid (HR0.out.only ((Only.refl g W0).grown hg5))
      have hgs5 : g < w5.heap.size := by have := hg5.size; omega
      clear hd5 hg5 HD0 HO0 HR0
      refine hK.out _ _ (⟨HO5.out, HD5.out.used⟩) (fun hHeld => ?_)
      clear hK K9
      try simp only [Act.put, List.setIfInBounds_toArray, List.set_cons_zero, List.set_cons_succ]
      obtain ⟨m, hm⟩ : ∃ m, Nat.min r.length (64 - n) = m := ⟨_, rfl⟩
      have hm1 : m ≤ r.length := by rw [← hm]; exact Nat.min_le_left _ _
      have hm3 : m ≤ 64 - n := by rw [← hm]; exact Nat.min_le_right _ _
      have hm4 : 0 < m := by rw [← hm]; exact Nat.lt_min.2 ⟨by omega, by omega⟩
      rw [hm]
      refine take_at (i := 10) (.int .i64 (m : Int)) (some 4) (by decide) (by rfl) (by kernel_rfl) (by kernel_rfl) (by kernel_rfl) (fun _ _ _ h => h) (by rfl) (fun W hW => by go_simp) (by assumption) ?_
      try simp only [Act.put, List.setIfInBounds_toArray, List.set_cons_zero, List.set_cons_succ]
      refine wpAnyH_done (by kernel_rfl) ?_ _
      try simp only [Act.put, List.setIfInBounds_toArray, List.set_cons_zero, List.set_cons_succ]
      generalize B.take n ++ r.take (64 - n) ++ B.drop (n + (r.take (64 - n)).length) = B5 at HD5
      have hsf := fun W => slice_from A1 r.length c1 m hm1 hrc W
      have HR6 := Lib.hid (HR5.out.rest m hm1)
      have cu := HD5.out.used
      have fu := HD5.out.frozen 72
      have HD6 := Lib.hid (HD5.out.setUsed ((n : Int) + m))
      have HO6 := Lib.hid ((Only.refl g w5).set 72 (.int .i64 ((n : Int) + m)))
      clear hsb hm HR5
      generalize (if c1 = m then A1 else A1.map (·.add m)) = A6 at hsf HR6
      by_cases hfull : n + m = 64
      · have hq64 : ((n : Int) + (m : Int) == 64) = true := by rw [beq_iff_eq]; omega
        rw [show (n : Int) + (m : Int) = 64 by omega] at HD6 HO6
        have hk6 := HK.out.only (HO5.out.trans HO6.out) hg
        have hgs6 : g < (w5.setCell ⟨g, 72, none⟩ (.int .i64 64)).heap.size := by simp; omega
        have HTK := Lib.hid (take_any g S B5 64 x _ HD6.out HS.out hk6 hg hgs6)
        have e64 : (n : Int) + (m : Int) = 64 := by omega
        clear hk6 hgs6
        go_wp2_with fail
        refine HTK.out.mono ?_
        rintro q7 w7 ⟨rfl, S7, hS7, hd7, ho7⟩
        have HD7 := Lib.hid hd7
        have HS7 := Lib.hid hS7
        have HO7 := Lib.hid ho7
        clear hd7 hS7 ho7
        go_wp2_with fail
        go_roundw
        case rel => exact ⟨r.drop m, S7, zer 64, 0, x, by omega, by simp [lenV], (HR6.out.only HO6.out).only HO7.out, HS7, HD7, (HO5.out.trans HO6.out).trans HO7.out⟩
        case measure => simp [lenV]; omega
      · have hq64 : ((n : Int) + (m : Int) == 64) = false := by rw [beq_eq_false_iff_ne]; omega
        have hnm : n + m < 64 := by omega
        go_wp2_with fail
        go_roundw
        case rel => exact ⟨r.drop m, S, B5, n + m, x, hnm, by simp [lenV], HR6.out.only HO6.out, HS, by unfold Hid; rw [Int.natCast_add]; exact HD6.out, HO5.out.trans HO6.out⟩
        case measure => simp [lenV]; omega

end Go.Proofs.YtflgokbkkoobkaaDoor.Cd
