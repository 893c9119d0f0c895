/-
  shorten: a file has so many pages at most, on both sides; drop: a file is gone. Conditions: none.
-/
import Derived.Test.YtbepanhndpkdhaaForget
import Derived.Test.YtbepanhndpkdhaaSideCut
namespace Go.Proofs.Ytbepanhndpkdhaa.Cd
open Go.RowKit

/-- Other sides; nothing else of the disk has turned. -/
theorem DiskR.sides {w w1 : World} {g N M bf c1 p1 c2 p2 nn ns k : Nat} {S : Nat → Prop} {P : Pd} {lv : Value} {now safe : Pages} (h : DiskR w g S P N bf c1 p1 c2 p2 lv) (ha : Apart (fun b => two c1 p1 b ∨ two c2 p2 b) w w1)
    (h1 : Side w1 c1 p1 now nn M) (h2 : Side w1 c2 p2 safe ns k) (hk : k + P.late.length ≤ M) (hN : N ≤ M) (hf : Fits { P with now := now, nn := nn, safe := safe, ns := ns } M) :
    DiskR w1 g S { P with now := now, nn := nn, safe := safe, ns := ns } M bf c1 p1 c2 p2 lv := by
  obtain ⟨i1, i2, i3, i4, i5, i6⟩ := h.ins
  obtain ⟨n1, n2, n3, n4, n5⟩ := h.neg
  obtain ⟨m1, m2, m3, m4⟩ := h.nef
  obtain ⟨n, hfl, hn⟩ := h.fil
  have hb : ∀ b, S b → b ≠ c1 → b ≠ p1 → b ≠ c2 → b ≠ p2 → w1.heap[b]? = w.heap[b]? := fun b hS e1 e2 e3 e4 => ha.block b (h.lt b hS) (by rintro ((e | e) | (e | e)) <;> contradiction)
  exact ⟨hf, (hb g i1 n2 n3 n4 n5).trans h.row, ⟨n, hfl.heap (hb bf i2 m1 m2 m3 m4), by omega⟩, h1, ⟨k, h2, hk⟩, row_kept h.late (fun b hb2 => by
    obtain ⟨_, _, q3, q4, q5, q6⟩ := h.nel b hb2
    exact hb b (h.inl b hb2) q3 q4 q5 q6), h.neg, h.nef, h.nes, h.nel, h.ins, h.inl, fun k hk => Nat.lt_of_lt_of_le (h.lt k hk) ha.size⟩

/-- Two blocks on each side. -/
theorem four_in {w : World} {g N bf c1 p1 c2 p2 : Nat} {S : Nat → Prop} {P : Pd} {lv : Value} (h : DiskR w g S P N bf c1 p1 c2 p2 lv) : ∀ b, two c1 p1 b ∨ two c2 p2 b → S b := by
  obtain ⟨i1, i2, i3, i4, i5, i6⟩ := h.ins
  rintro b ((rfl | rfl) | (rfl | rfl)) <;> assumption

set_option maxRecDepth 100000 in
set_option maxHeartbeats 800000 in
theorem cutfn_any (bc bp f m : Nat) (a1 a2 : Addr) (pg : Pages) (n k : Nat) (w : World) (h : Side w bc bp pg n k) (hf : f ≤ lim) (hm : m ≤ 9223372036854775807) (hL : (pg f).length ≤ 1048576) (hk : k ≤ lim) (h1 : Capt w a1 f) (h2 : Capt w a2 m) :
    Calls Try.prog 70 #[.agg #[.map (some bc), .map (some bp)], .pointer (some a1), .pointer (some a2)] w (SideCut bc bp f m pg n k w) := by
  have hlt := h.lt
  have hA : Apart (two bc bp) w (w.alloc (.cells #[.map (some bc), .map (some bp)] 70)) := (Apart.refl _ w).alloc _
  have hcut := sidecut_any bc bp f m pg n k (w.alloc (.cells #[.map (some bc), .map (some bp)] 70)) (h.below ((Below.refl _ _).alloc (Nat.le_refl _) _) hlt.1 hlt.2) hf hm hL hk
  have k1 : (w.alloc (.cells #[.map (some bc), .map (some bp)] 70)).cell? a1 = some (.int .i64 f) := (World.cell?_alloc_lt _ _ _ h1.2).trans h1.1
  have k2 : (w.alloc (.cells #[.map (some bc), .map (some bp)] 70)).cell? a2 = some (.int .i64 m) := (World.cell?_alloc_lt _ _ _ h2.2).trans h2.1
  have HCUT := Lib.hid hcut
  have HA := Lib.hid hA
  clear hcut hA h h1 h2
  go_enter Try.func70, Try.ntmps70
  go_wp2_with fail
  refine HCUT.out.mono ?_
  rintro e w3 ⟨rfl, hs, ha⟩
  have HS := Lib.hid hs
  have HA3 : Hid (Apart (two bc bp) w w3) := HA.out.trans (ha.mono (fun _ => .inl))
  clear hs ha
  go_wp2_with fail
  go_end0
  exact ⟨rfl, HS.out, HA3.out⟩

set_option maxRecDepth 100000 in
set_option maxHeartbeats 800000 in
theorem delfn_any (bc bp f : Nat) (a1 : Addr) (pg : Pages) (n k : Nat) (w : World) (h : Side w bc bp pg n k) (hf : f ≤ lim) (he : pg f = []) (h1 : Capt w a1 f) :
    Calls Try.prog 72 #[.agg #[.map (some bc), .map (some bp)], .pointer (some a1)] w (fun e w' => e = .returned (.tuple #[]) ∧ Side w' bc bp pg n k ∧ Apart (two bc bp) w w') := by
  have hlt := h.lt
  have hA : Apart (two bc bp) w (w.alloc (.cells #[.map (some bc), .map (some bp)] 70)) := (Apart.refl _ w).alloc _
  have k1 : (w.alloc (.cells #[.map (some bc), .map (some bp)] 70)).cell? a1 = some (.int .i64 f) := (World.cell?_alloc_lt _ _ _ h1.2).trans h1.1
  obtain ⟨⟨q, j0, hcnt, hjk, hq⟩, hpg, hne⟩ := h
  have HC := Lib.hid hcnt
  have HP := Lib.hid hpg
  have HQ := Lib.hid hq
  have HA := Lib.hid hA
  have HE := Lib.hid he
  obtain ⟨j1, hj1⟩ : ∃ j1, (j0 - if (q f).isSome = true then 1 else 0) = j1 := ⟨_, rfl⟩
  have hj2 : j1 ≤ j0 := by omega
  have HJ1 := Lib.hid hj1
  clear hcnt hpg hq hA h1 he hj1
  go_enter Try.func72, Try.ntmps72
  go_wp2_with (first | (refine wp_drop cntK rfl _ _ rfl bc j0 q rfl (HC.out.alloc _) f rfl hf j1 HJ1.out ?hK) | fail)
  intro w3 hc3 hg3
  have HS : Hid (Side w3 bc bp pg n k) := ⟨⟨_, _, hc3, by omega, fun x hx => by
    unfold upd
    split
    · rename_i e
      rw [e, HE.out]; rfl
    · exact HQ.out x hx⟩, (HP.out.alloc _).grown hg3 (by simp; omega), hne⟩
  have HA3 : Hid (Apart (two bc bp) w w3) := HA.out.step hg3 (fun x e => by injection e with e; exact .inl (.inl e.symm))
  clear hc3 hg3
  go_wp2_with fail
  go_end0
  exact ⟨rfl, HS.out, HA3.out⟩

/-- What a closure leaves of one side. -/
def SideDoes (bc bp n' k' : Nat) (pg' : Pages) (w : World) (e : Ending) (w' : World) : Prop := e = .returned (.tuple #[]) ∧ Side w' bc bp pg' n' k' ∧ Apart (two bc bp) w w'

set_option maxRecDepth 100000 in
set_option maxHeartbeats 1600000 in
theorem both_cut (g f m N bf c1 p1 c2 p2 : Nat) (a1 a2 : Addr) (S : Nat → Prop) (P : Pd) (lv : Value) (w : World) (h : DiskR w g S P N bf c1 p1 c2 p2 lv) (hf : f ≤ P.made) (hm : m ≤ 9223372036854775807) (h1 : Capt w a1 f) (h2 : Capt w a2 m) (hs1 : ¬ S a1.block) (hs2 : ¬ S a2.block) :
    Calls Try.prog 69 #[.pointer (some ⟨g, 0, none⟩), .func (.func 70) #[] #[.pointer (some a1), .pointer (some a2)]] w
      (fun e w' => e = .returned (.tuple #[]) ∧ Side w' c1 p1 (setF P.now f ((P.now f).take m)) (P.nn - ((P.now f).length - m)) (N + 1) ∧ (∃ k, Side w' c2 p2 (setF P.safe f ((P.safe f).take m)) (P.ns - ((P.safe f).length - m)) (k + 1) ∧ k + P.late.length ≤ N) ∧ Apart (fun b => two c1 p1 b ∨ two c2 p2 b) w w') := by
  have hfl : f ≤ lim := by have := h.fits.made; have := h.fits.top; unfold lim; omega
  have hN : N ≤ lim := by have := h.fits.top; unfold lim; omega
  obtain ⟨k, hsf, hk⟩ := h.safe
  have hins := four_in h
  have hA1 := cutfn_any c1 p1 f m a1 a2 P.now P.nn N w h.now hfl hm (by have := h.fits.now f; omega) hN h1 h2
  have d3 : w.cell? ⟨g, 3, none⟩ = some (.map (some c1)) := cell_of_row _ _ _ _ _ _ h.row
  have d4 : w.cell? ⟨g, 4, none⟩ = some (.map (some p1)) := cell_of_row _ _ _ _ _ _ h.row
  have H := Lib.hid h
  have HC := Lib.hid hA1
  have HSF := Lib.hid hsf
  have K1 := Lib.hid h1
  have K2 := Lib.hid h2
  clear h hA1 hsf h1 h2
  go_enter Try.func69, Try.ntmps69
  go_wp2_with fail
  refine HC.out.mono ?_
  rintro e w1 ⟨rfl, hsd1, ha1⟩
  have hg1 := H.out.neg
  have hq1 := H.out.nes
  have hlt1 := H.out.lt g H.out.ins.1
  have hrow1 : w1.heap[g]? = some (.cells (dcells P bf c1 p1 c2 p2 lv) 74) := (ha1.block g hlt1 (by rintro (e | e) <;> omega)).trans H.out.row
  have d5 : w1.cell? ⟨g, 5, none⟩ = some (.map (some c2)) := cell_of_row _ _ _ _ _ _ hrow1
  have d6 : w1.cell? ⟨g, 6, none⟩ = some (.map (some p2)) := cell_of_row _ _ _ _ _ _ hrow1
  have kk1 : Capt w1 a1 f := ⟨(ha1.cell K1.out.2 (fun e => hs1 (hins _ (.inl e)))).trans K1.out.1, Nat.lt_of_lt_of_le K1.out.2 ha1.size⟩
  have kk2 : Capt w1 a2 m := ⟨(ha1.cell K2.out.2 (fun e => hs2 (hins _ (.inl e)))).trans K2.out.1, Nat.lt_of_lt_of_le K2.out.2 ha1.size⟩
  have hA2 := cutfn_any c2 p2 f m a1 a2 P.safe P.ns k w1 (HSF.out.apart ha1 (by rintro (e | e) <;> omega) (by rintro (e | e) <;> omega)) hfl hm (by have := H.out.fits.safe f; omega) (by omega) kk1 kk2
  have HC2 := Lib.hid hA2
  have HS1 := Lib.hid hsd1
  have HA1 := Lib.hid ha1
  clear hA2 kk1 kk2 hrow1 hsd1 ha1
  go_wp2_with fail
  refine HC2.out.mono ?_
  rintro e w2 ⟨rfl, hsd2, ha2⟩
  have HR : Hid (Side w2 c1 p1 (setF P.now f ((P.now f).take m)) (P.nn - ((P.now f).length - m)) (N + 1) ∧ (∃ k, Side w2 c2 p2 (setF P.safe f ((P.safe f).take m)) (P.ns - ((P.safe f).length - m)) (k + 1) ∧ k + P.late.length ≤ N) ∧ Apart (fun b => two c1 p1 b ∨ two c2 p2 b) w w2) :=
    ⟨HS1.out.apart ha2 (by rintro (e | e) <;> omega) (by rintro (e | e) <;> omega), ⟨k, hsd2, hk⟩, (HA1.out.mono (fun _ => .inl)).trans (ha2.mono (fun _ e => .inl (.inr e)))⟩
  clear hsd2 ha2
  go_wp2_with fail
  go_end0
  exact ⟨rfl, HR.out⟩

set_option maxRecDepth 100000 in
set_option maxHeartbeats 1600000 in
theorem both_del (g f N bf c1 p1 c2 p2 : Nat) (a1 : Addr) (S : Nat → Prop) (P : Pd) (lv : Value) (w : World) (h : DiskR w g S P N bf c1 p1 c2 p2 lv) (hf : f ≤ P.made) (he1 : P.now f = []) (he2 : P.safe f = []) (h1 : Capt w a1 f) (hs1 : ¬ S a1.block) :
    Calls Try.prog 69 #[.pointer (some ⟨g, 0, none⟩), .func (.func 72) #[] #[.pointer (some a1)]] w
      (fun e w' => e = .returned (.tuple #[]) ∧ Side w' c1 p1 P.now P.nn N ∧ (∃ k, Side w' c2 p2 P.safe P.ns k ∧ k + P.late.length ≤ N) ∧ Apart (fun b => two c1 p1 b ∨ two c2 p2 b) w w') := by
  have hfl : f ≤ lim := by have := h.fits.made; have := h.fits.top; unfold lim; omega
  obtain ⟨k, hsf, hk⟩ := h.safe
  have hins := four_in h
  have hA1 := delfn_any c1 p1 f a1 P.now P.nn N w h.now hfl he1 h1
  have d3 : w.cell? ⟨g, 3, none⟩ = some (.map (some c1)) := cell_of_row _ _ _ _ _ _ h.row
  have d4 : w.cell? ⟨g, 4, none⟩ = some (.map (some p1)) := cell_of_row _ _ _ _ _ _ h.row
  have H := Lib.hid h
  have HC := Lib.hid hA1
  have HSF := Lib.hid hsf
  have K1 := Lib.hid h1
  have HE2 := Lib.hid he2
  clear h hA1 hsf h1 he1 he2
  go_enter Try.func69, Try.ntmps69
  go_wp2_with fail
  refine HC.out.mono ?_
  rintro e w1 ⟨rfl, hsd1, ha1⟩
  have hg1 := H.out.neg
  have hq1 := H.out.nes
  have hlt1 := H.out.lt g H.out.ins.1
  have hrow1 : w1.heap[g]? = some (.cells (dcells P bf c1 p1 c2 p2 lv) 74) := (ha1.block g hlt1 (by rintro (e | e) <;> omega)).trans H.out.row
  have d5 : w1.cell? ⟨g, 5, none⟩ = some (.map (some c2)) := cell_of_row _ _ _ _ _ _ hrow1
  have d6 : w1.cell? ⟨g, 6, none⟩ = some (.map (some p2)) := cell_of_row _ _ _ _ _ _ hrow1
  have kk1 : Capt w1 a1 f := ⟨(ha1.cell K1.out.2 (fun e => hs1 (hins _ (.inl e)))).trans K1.out.1, Nat.lt_of_lt_of_le K1.out.2 ha1.size⟩
  have hA2 := delfn_any c2 p2 f a1 P.safe P.ns k w1 (HSF.out.apart ha1 (by rintro (e | e) <;> omega) (by rintro (e | e) <;> omega)) hfl HE2.out kk1
  have HC2 := Lib.hid hA2
  have HS1 := Lib.hid hsd1
  have HA1 := Lib.hid ha1
  clear hA2 kk1 hrow1 hsd1 ha1
  go_wp2_with fail
  refine HC2.out.mono ?_
  rintro e w2 ⟨rfl, hsd2, ha2⟩
  have HR : Hid (Side w2 c1 p1 P.now P.nn N ∧ (∃ k, Side w2 c2 p2 P.safe P.ns k ∧ k + P.late.length ≤ N) ∧ Apart (fun b => two c1 p1 b ∨ two c2 p2 b) w w2) :=
    ⟨HS1.out.apart ha2 (by rintro (e | e) <;> omega) (by rintro (e | e) <;> omega), ⟨k, hsd2, hk⟩, (HA1.out.mono (fun _ => .inl)).trans (ha2.mono (fun _ e => .inl (.inr e)))⟩
  clear hsd2 ha2
  go_wp2_with fail
  go_end0
  exact ⟨rfl, HR.out⟩

def shortenP (P : Pd) (f m : Nat) : Pd :=
  { P with now := setF P.now f ((P.now f).take m), nn := P.nn - ((P.now f).length - m), safe := setF P.safe f ((P.safe f).take m), ns := P.ns - ((P.safe f).length - m), late := P.late.filter fun x => !hitP f m x }

theorem cutP_fits {P : Pd} {N : Nat} (h : Fits P N) (hN : N < 137438953472) (f m : Nat) : Fits { P with now := setF P.now f ((P.now f).take m), nn := P.nn - ((P.now f).length - m), safe := setF P.safe f ((P.safe f).take m), ns := P.ns - ((P.safe f).length - m) } (N + 1) := by
  have h2 := h.mono (Nat.le_succ N) (by omega)
  refine ⟨h2.top, h.room, h2.made, h2.acts, h.fuse, h.keep, h.late, fun x => ?_, fun x => ?_, ?_, ?_, h.files, fun x hx => ⟨?_, ?_⟩⟩
  · show (setF P.now f _ x).length ≤ 4096
    unfold setF
    split
    · rw [List.length_take]; have := h.now f; omega
    · exact h.now x
  · show (setF P.safe f _ x).length ≤ 4096
    unfold setF
    split
    · rw [List.length_take]; have := h.safe f; omega
    · exact h.safe x
  · have := h.nns
    show P.nn - _ ≤ P.room
    omega
  · have := h2.nss
    show P.ns - _ + 4097 * P.late.length ≤ _
    omega
  · have := (h.fresh x hx).1
    show setF P.now f _ x = []
    unfold setF
    split
    · rename_i e; rw [← e, this, List.take_nil]
    · exact this
  · have := (h.fresh x hx).2
    show setF P.safe f _ x = []
    unfold setF
    split
    · rename_i e; rw [← e, this, List.take_nil]
    · exact this

set_option maxRecDepth 100000 in
set_option maxHeartbeats 1600000 in
theorem shorten_any (g N f m : Nat) (S : Nat → Prop) (P : Pd) (w : World) (h : Rep w g S P N) (hf : f ≤ P.made) (hm : m ≤ 9223372036854775807) (hN : N < 137438953472) :
    Calls Try.prog 52 #[.pointer (some ⟨g, 0, none⟩), .int .i64 f, .int .i64 m] w (Makes g S (shortenP P f m) (N + 1) (.tuple #[]) w) := by
  obtain ⟨bf, c1, p1, c2, p2, lv, h⟩ := h
  have hA : Apart S w ((w.alloc (.cells #[.int .i64 f] 3)).alloc (.cells #[.int .i64 m] 3)) := ((Apart.refl S w).alloc _).alloc _
  have hs2 : ((w.alloc (.cells #[.int .i64 f] 3)).alloc (.cells #[.int .i64 m] 3)).heap.size = w.heap.size + 2 := by simp
  have hB : Below w.heap.size w ((w.alloc (.cells #[.int .i64 f] 3)).alloc (.cells #[.int .i64 m] 3)) := ((Below.refl _ _).alloc (Nat.le_refl _) _).alloc (by simp) _
  have h2 := h.below hB h.lt
  have k1 : Capt ((w.alloc (.cells #[.int .i64 f] 3)).alloc (.cells #[.int .i64 m] 3)) ⟨w.heap.size, 0, none⟩ f := ⟨cell_of_row _ _ _ _ _ _ (heap_alloc2_old w _ _), by rw [hs2]; show w.heap.size < _; omega⟩
  have k2 : Capt ((w.alloc (.cells #[.int .i64 f] 3)).alloc (.cells #[.int .i64 m] 3)) ⟨w.heap.size + 1, 0, none⟩ m := ⟨cell_of_row _ _ _ _ _ _ (heap_alloc2_new w _ _), by rw [hs2]; show w.heap.size + 1 < _; omega⟩
  have hcut := both_cut g f m N bf c1 p1 c2 p2 ⟨w.heap.size, 0, none⟩ ⟨w.heap.size + 1, 0, none⟩ S P lv _ h2 hf hm k1 k2 (fun e => by have h9 : w.heap.size < w.heap.size := h.lt _ e; omega) (fun e => by have h9 : w.heap.size + 1 < w.heap.size := h.lt _ e; omega)
  have HCUT := Lib.hid hcut
  have HA := Lib.hid hA
  have H2 := Lib.hid h2
  have K1 := Lib.hid k1
  have K2 := Lib.hid k2
  have hlt := Lib.hid h.lt
  clear hcut hA hB h h2 k1 k2
  go_enter Try.func52, Try.ntmps52
  go_wp2_with fail
  generalize (w.alloc (.cells #[.int .i64 f] 3)).alloc (.cells #[.int .i64 m] 3) = w2 at *
  refine HCUT.out.mono ?_
  rintro e w3 ⟨rfl, hs1, ⟨k, hs2', hk⟩, ha⟩
  have hins := four_in H2.out
  have h3 := H2.out.sides ha hs1 hs2' (by omega) (Nat.le_succ N) (cutP_fits H2.out.fits hN f m)
  have e1 : w3.cell? ⟨w.heap.size, 0, none⟩ = some (.int .i64 f) := (ha.cell K1.out.2 (fun e => by have h9 : w.heap.size < w.heap.size := hlt.out _ (hins _ e); omega)).trans K1.out.1
  have e2 : w3.cell? ⟨w.heap.size + 1, 0, none⟩ = some (.int .i64 m) := (ha.cell K2.out.2 (fun e => by have h9 : w.heap.size + 1 < w.heap.size := hlt.out _ (hins _ e); omega)).trans K2.out.1
  have hap : Apart S w w3 := HA.out.trans (ha.mono (fun b hb => .inl (hins b hb)))
  have hfg := forget_any g (N + 1) f m S _ w3 ⟨_, _, _, _, _, _, h3⟩
  have HFG := Lib.hid hfg
  have HAP := Lib.hid hap
  clear hs1 hs2' ha h3 hap hfg
  go_wp2_with fail
  refine HFG.out.mono ?_
  intro e w4 hmk
  have HMK := Lib.hid (makes_up HAP.out hmk)
  obtain rfl := hmk.1
  clear hmk
  go_wp2_with fail
  go_end0
  exact HMK.out

end Go.Proofs.Ytbepanhndpkdhaa.Cd
