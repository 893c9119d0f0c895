/-
  lose: the power goes. Conditions: none.
-/
import Derived.Test.YtkbmajgbhpecgaaGreatDoorG3
import Derived.Test.YtkbmajgbhpecgaaGreatDoorG2
import Derived.Shelf.SlMaps.Clone
import Derived.Deep.RegionHeld3
/-
  forget: writes are taken out of those that wait. Conditions: none.
-/
namespace Go.Proofs.YtkbmajgbhpecgaaGreatDoor.Cd
open Go.RowKit

def forgetP (P : Pd) (file m : Nat) : Pd := { P with late := P.late.filter fun x => !hitP file m x }

theorem forgetP_fits {P : Pd} {N : Nat} (h : Fits P N) (file m : Nat) : Fits (forgetP P file m) N := by
  refine ⟨h.top, h.room, h.made, h.acts, h.fuse, h.keep, fun x hx => h.late x (List.mem_filter.1 hx).1, h.now, h.safe, h.nns, ?_, h.files, h.fresh⟩
  have := h.nss
  have h2 := List.length_filter_le (fun x => !hitP file m x) P.late
  show P.ns + 4097 * (P.late.filter fun x => !hitP file m x).length ≤ _
  omega

theorem delete_nil (a1 a2 : Addr) (w : World) :
    Calls Tryz.prog 141 #[.slice none 0 0, .func (.func 142) #[] #[.pointer (some a1), .pointer (some a2)]] w (fun e w' => e = .returned (.slice none 0 0) ∧ w' = w) := by
  have hi : Calls Tryz.prog 161 #[.slice none 0 0, .func (.func 142) #[] #[.pointer (some a1), .pointer (some a2)]] w (fun e w' => e = .returned (.int .i64 (-1)) ∧ w' = w) := by
    go_enter Tryz.func161, Tryz.ntmps161
    go_wp2_with fail
    refine wp_loop_rounds 1 ?_
    rw [rounds_succ]
    go_wp2_with fail
    go_ret
    exact ⟨rfl, rfl⟩
  have HI := Lib.hid hi
  clear hi
  go_enter Tryz.func141, Tryz.ntmps141
  go_wp2_with fail
  refine HI.out.mono ?_
  rintro e w1 ⟨rfl, rfl⟩
  go_wp2_with fail
  go_ret
  exact ⟨rfl, rfl⟩

/-- Another list waits; nothing else of the disk has turned. -/
theorem DiskR.lates {w w1 : World} {g N bf c1 p1 c2 p2 : Nat} {S : Nat → Prop} {P : Pd} {lv v : Value} {l : List Pw} (h : DiskR w g S P N bf c1 p1 c2 p2 lv) (ha : Apart (fun k => lv.ownBlock = some k) w w1) (ho : w1.ownsRow 0 112 514 v l.length (wcs l))
    (hv : v.ownBlock = lv.ownBlock) (hf : Fits { P with late := l } N) (hll : l.length ≤ P.late.length) : DiskR (w1.setCell ⟨g, 7, none⟩ v) g S { P with late := l } N bf c1 p1 c2 p2 v := by
  obtain ⟨i1, i2, i3, i4, i5, i6⟩ := h.ins
  obtain ⟨n1, n2, n3, n4, n5⟩ := h.neg
  obtain ⟨n, hfl, hn⟩ := h.fil
  obtain ⟨j, hsf, hj⟩ := h.safe
  have h1 : ∀ b, S b → (∀ c, lv.ownBlock = some c → b ≠ c) → w1.heap[b]? = w.heap[b]? := fun b hS hne => ha.block b (h.lt b hS) (fun e => hne b e rfl)
  have hset : ∀ b, b ≠ g → (w1.setCell ⟨g, 7, none⟩ v).heap[b]? = w1.heap[b]? := fun b hne => heap_setCell_other _ _ _ _ hne
  have hb : ∀ b, S b → b ≠ g → (∀ c, lv.ownBlock = some c → b ≠ c) → (w1.setCell ⟨g, 7, none⟩ v).heap[b]? = w.heap[b]? := fun b hS h2 h3 => (hset b h2).trans (h1 b hS h3)
  refine ⟨hf, ?_, ⟨n, hfl.heap (hb bf i2 (fun e => n1 e.symm) (fun c hc e => (h.nel c hc).2.1 e.symm)), hn⟩, h.now.heap (hb c1 i3 (fun e => n2 e.symm) (fun c hc e => (h.nel c hc).2.2.1 e.symm)) (hb p1 i4 (fun e => n3 e.symm) (fun c hc e => (h.nel c hc).2.2.2.1 e.symm)),
    ⟨j, hsf.heap (hb c2 i5 (fun e => n4 e.symm) (fun c hc e => (h.nel c hc).2.2.2.2.1 e.symm)) (hb p2 i6 (fun e => n5 e.symm) (fun c hc e => (h.nel c hc).2.2.2.2.2 e.symm)), by show j + l.length ≤ N; omega⟩, ?_, h.neg, h.nef, h.nes, ?_, h.ins, ?_, fun k hk => by rw [World.size_setCell]; exact Nat.lt_of_lt_of_le (h.lt k hk) ha.size⟩
  · have hrow := (h1 g i1 (fun c hc e => (h.nel c hc).1 e.symm)).trans h.row
    exact heap_setCell_same w1 g 7 _ _ v hrow
  · exact row_set ho _ (fun b hb2 => (h.nel b (by rw [← hv]; exact hb2)).1)
  · intro b hb2
    exact h.nel b (by rw [← hv]; exact hb2)
  · intro b hb2
    exact h.inl b (by rw [← hv]; exact hb2)

/-- What is known of the disk's own parts behind a call that leaves its maps in their blocks. -/
theorem DiskR.turn {w w1 : World} {g N bf c1 p1 c2 p2 : Nat} {S : Nat → Prop} {P P1 : Pd} {lv v : Value} (h : DiskR w g S P N bf c1 p1 c2 p2 lv) (hrow : w1.heap[g]? = some (.cells (dcells P1 bf c1 p1 c2 p2 v) 66)) (hfl : w1.heap[bf]? = w.heap[bf]?) (he : P1.files = P.files)
    (hnow : Side w1 c1 p1 P1.now P1.nn N) (hsafe : ∃ k, Side w1 c2 p2 P1.safe P1.ns k ∧ k + P1.late.length ≤ N) (ho : w1.ownsRow 0 112 514 v P1.late.length (wcs P1.late)) (hv : v.ownBlock = lv.ownBlock) (hf : Fits P1 N) (hs : w.heap.size ≤ w1.heap.size) :
    DiskR w1 g S P1 N bf c1 p1 c2 p2 v := by
  obtain ⟨n, hfil, hn⟩ := h.fil
  exact ⟨hf, hrow, ⟨n, by rw [he]; exact hfil.heap hfl, hn⟩, hnow, hsafe, ho, h.neg, h.nef, h.nes, fun b hb => h.nel b (by rw [← hv]; exact hb), h.ins, fun b hb => h.inl b (by rw [← hv]; exact hb), fun k hk => Nat.lt_of_lt_of_le (h.lt k hk) hs⟩

/-- What forget leaves of the disk's own block and of the list. -/
def Forgot (g bf c1 p1 c2 p2 file m : Nat) (P : Pd) (lv : Value) (w : World) (e : Ending) (w' : World) : Prop :=
  e = .returned (.tuple #[]) ∧ ∃ v, w'.heap[g]? = some (.cells (dcells P bf c1 p1 c2 p2 v) 66) ∧ v.ownBlock = lv.ownBlock ∧
    w'.ownsRow 0 112 514 v (P.late.filter fun x => !hitP file m x).length (wcs (P.late.filter fun x => !hitP file m x)) ∧ Apart (fun k => k = g ∨ lv.ownBlock = some k) w w'

set_option maxRecDepth 100000 in
set_option maxHeartbeats 1600000 in
theorem forget_core (g bf c1 p1 c2 p2 file m : Nat) (P : Pd) (lv : Value) (w : World) (hrow : w.heap[g]? = some (.cells (dcells P bf c1 p1 c2 p2 lv) 66)) (hlate0 : w.ownsRow 0 112 514 lv P.late.length (wcs P.late))
    (hl : ∀ x ∈ P.late, x.data.length = 512) (hlen : P.late.length ≤ 137438953472) (hneg : ∀ b, lv.ownBlock = some b → b ≠ g) :
    Calls Tryz.prog 115 #[.pointer (some ⟨g, 0, none⟩), .int .i64 file, .int .i64 m] w (Forgot g bf c1 p1 c2 p2 file m P lv w) := by
  have hg : g < w.heap.size := (Array.getElem?_eq_some_iff.1 hrow).1
  have hlow : ∀ b, lv.ownBlock = some b → b < w.heap.size := fun b hb => (World.ownsRow.lt hlate0 b hb).2
  have hA : Apart (fun k => k = g ∨ lv.ownBlock = some k) w ((w.alloc (.cells #[.int .i64 file] 3)).alloc (.cells #[.int .i64 m] 3)) := ((Apart.refl _ w).alloc _).alloc _
  have hs2 : ((w.alloc (.cells #[.int .i64 file] 3)).alloc (.cells #[.int .i64 m] 3)).heap.size = w.heap.size + 2 := by simp
  have hB : Below w.heap.size w ((w.alloc (.cells #[.int .i64 file] 3)).alloc (.cells #[.int .i64 m] 3)) := ((Below.refl _ _).alloc (Nat.le_refl _) _).alloc (by simp) _
  have hrow2 := (hB.block g hg).trans hrow
  have hlate := row_kept hlate0 (fun b hb => hB.block b (hlow b hb))
  have k1 : Capt ((w.alloc (.cells #[.int .i64 file] 3)).alloc (.cells #[.int .i64 m] 3)) ⟨w.heap.size, 0, none⟩ file := ⟨cell_of_row _ _ _ _ _ _ (heap_alloc2_old w _ _), by rw [hs2]; show w.heap.size < _; omega⟩
  have k2 : Capt ((w.alloc (.cells #[.int .i64 file] 3)).alloc (.cells #[.int .i64 m] 3)) ⟨w.heap.size + 1, 0, none⟩ m := ⟨cell_of_row _ _ _ _ _ _ (heap_alloc2_new w _ _), by rw [hs2]; show w.heap.size + 1 < _; omega⟩
  have c7 : ((w.alloc (.cells #[.int .i64 file] 3)).alloc (.cells #[.int .i64 m] 3)).cell? ⟨g, 7, none⟩ = some lv := cell_of_row _ _ _ _ _ _ hrow2
  have f7 : ((w.alloc (.cells #[.int .i64 file] 3)).alloc (.cells #[.int .i64 m] 3)).frozen? ⟨g, 7, none⟩ = false := by unfold World.frozen?; rw [hrow2]; rfl
  have hown7 := own_one hlate
  rcases hlate.2 with ⟨rfl, h0⟩ | ⟨b, cap, cur, rfl, _, _, hncap, hcapm, _, _⟩
  · have hnil : P.late = [] := List.eq_nil_of_length_eq_zero h0
    have hdel := delete_nil ⟨w.heap.size, 0, none⟩ ⟨w.heap.size + 1, 0, none⟩ ((w.alloc (.cells #[.int .i64 file] 3)).alloc (.cells #[.int .i64 m] 3))
    have HD := Lib.hid hdel
    have HROW := Lib.hid hrow2
    have HA := Lib.hid hA
    have HN := Lib.hid hnil
    clear hdel hrow hrow2 hA hB k1 k2 hlate hl hlow hnil h0 hlate0 hown7 hneg
    go_enter Tryz.func115, Tryz.ntmps115
    go_wp2_with fail
    generalize (w.alloc (.cells #[.int .i64 file] 3)).alloc (.cells #[.int .i64 m] 3) = w2 at *
    refine HD.out.mono ?_
    rintro e w3 ⟨rfl, rfl⟩
    go_wp2_with fail
    go_end0
    have ho : ∀ W : World, W.ownsRow 0 112 514 (.slice none 0 0) (P.late.filter fun x => !hitP file m x).length (wcs (P.late.filter fun x => !hitP file m x)) := by
      intro W
      rw [HN.out]
      exact World.ownsRow_nil _ _ _ _
    exact ⟨rfl, .slice none 0 0, heap_setCell_same _ g 7 _ _ (.slice none 0 0) HROW.out, rfl, ho _, apart_setCell HA.out (a := ⟨g, 7, none⟩) (.inl rfl) _⟩
  · have hbl := hlow b rfl
    have hdel := delete_any b cap file m P.late ⟨w.heap.size, 0, none⟩ ⟨w.heap.size + 1, 0, none⟩ _ hlate hl hlen k1 k2 (by show w.heap.size ≠ b; omega) (by show w.heap.size + 1 ≠ b; omega)
    have HD := Lib.hid hdel
    have HROW := Lib.hid hrow2
    have HA := Lib.hid hA
    have hgb := hneg b rfl
    clear hdel hrow hrow2 hA hB k1 k2 hlate hl hlow hlate0 hown7 hneg
    go_enter Tryz.func115, Tryz.ntmps115
    go_wp2_with fail
    generalize (w.alloc (.cells #[.int .i64 file] 3)).alloc (.cells #[.int .i64 m] 3) = w2 at *
    clear f7
    refine HD.out.mono ?_
    rintro e w3 ⟨n, rfl, hn, ho, ha⟩
    have hsz3 := ha.size
    have hrow3 : w3.heap[g]? = some (.cells (dcells P bf c1 p1 c2 p2 (.slice (some ⟨b, 0, none⟩) P.late.length cap)) 66) := (ha.block g (by omega) (by omega)).trans HROW.out
    have d7 : w3.cell? ⟨g, 7, none⟩ = some (.slice (some ⟨b, 0, none⟩) P.late.length cap) := cell_of_row _ _ _ _ _ _ hrow3
    have f7 : w3.frozen? ⟨g, 7, none⟩ = false := by simp [World.frozen?, hrow3]
    have HO := Lib.hid ho
    have HA3 := Lib.hid ha
    have HN := Lib.hid hn
    have HROW3 := Lib.hid hrow3
    clear ho ha hrow3 hn
    go_wp2_with fail
    go_end0
    have ho := HO.out
    rw [HN.out] at ho
    have hap : Apart (fun k => k = g ∨ (Value.slice (some ⟨b, 0, none⟩) P.late.length cap).ownBlock = some k) w w3 := HA.out.trans (HA3.out.mono (fun k hk => .inl (.inr (by rw [hk]; rfl))))
    refine ⟨rfl, .slice (some ⟨b, 0, none⟩) n cap, heap_setCell_same _ g 7 _ _ (.slice (some ⟨b, 0, none⟩) n cap) HROW3.out, rfl, ?_, apart_setCell hap (a := ⟨g, 7, none⟩) (.inl rfl) _⟩
    rw [HN.out]
    exact row_set ho _ (fun c hc => by injection hc with hc; rw [← hc]; exact hgb)

theorem forget_any (g N file m : Nat) (S : Nat → Prop) (P : Pd) (w : World) (h : Rep w g S P N) :
    Calls Tryz.prog 115 #[.pointer (some ⟨g, 0, none⟩), .int .i64 file, .int .i64 m] w (Makes g S (forgetP P file m) N (.tuple #[]) w) := by
  obtain ⟨bf, c1, p1, c2, p2, lv, h⟩ := h
  have hl : ∀ x ∈ P.late, x.data.length = 512 := fun x hx => (h.fits.late x hx).2.2
  have hlen : P.late.length ≤ 137438953472 := by obtain ⟨_, _, h9⟩ := h.safe; have := h.fits.top; omega
  refine (forget_core g bf c1 p1 c2 p2 file m P lv w h.row h.late hl hlen (fun b hb => (h.nel b hb).1)).mono ?_
  rintro e w' ⟨rfl, v, hrow, hv, ho, ha⟩
  obtain ⟨i1, i2, i3, i4, i5, i6⟩ := h.ins
  obtain ⟨n1, n2, n3, n4, n5⟩ := h.neg
  obtain ⟨k, hsf, hk⟩ := h.safe
  have hb : ∀ b, S b → b ≠ g → (∀ c, lv.ownBlock = some c → b ≠ c) → w'.heap[b]? = w.heap[b]? := fun b hS h1 h2 => ha.block b (h.lt b hS) (fun e => e.elim h1 (fun e => h2 b e rfl))
  have hap : Apart S w w' := ha.mono (fun k hk => hk.elim (fun e => by rw [e]; exact i1) (fun e => h.inl k e))
  have hle := List.length_filter_le (fun x => !hitP file m x) P.late
  have hd := h.turn (P1 := forgetP P file m) hrow (hb bf i2 (fun e => n1 e.symm) (fun c hc e => (h.nel c hc).2.1 e.symm)) rfl (h.now.heap (hb c1 i3 (fun e => n2 e.symm) (fun c hc e => (h.nel c hc).2.2.1 e.symm)) (hb p1 i4 (fun e => n3 e.symm) (fun c hc e => (h.nel c hc).2.2.2.1 e.symm)))
    ⟨k, hsf.heap (hb c2 i5 (fun e => n4 e.symm) (fun c hc e => (h.nel c hc).2.2.2.2.1 e.symm)) (hb p2 i6 (fun e => n5 e.symm) (fun c hc e => (h.nel c hc).2.2.2.2.2 e.symm)), by show k + (P.late.filter fun x => !hitP file m x).length ≤ N; omega⟩ ho hv (forgetP_fits h.fits file m) ha.size
  exact ⟨rfl, ⟨_, _, _, _, _, _, hd.more (fun _ => .inl) (since_lt h.lt ha.size)⟩, hap⟩

end Go.Proofs.YtkbmajgbhpecgaaGreatDoor.Cd

/-
  side.cut: the pages from n on are taken out, from the first on. Conditions: none.
-/
namespace Go.Proofs.YtkbmajgbhpecgaaGreatDoor.Cd
open Go.RowKit

/-- The pages of a file but for those from n up to a. -/
def hole (pg : Pages) (f n a : Nat) : Nat × Int → Option (List UInt8) := fun x => if x.1 = f ∧ (n : Int) ≤ x.2 ∧ x.2 < a then none else lst pg x
theorem hole_none (pg : Pages) (f n : Nat) : hole pg f n n = lst pg := by
  funext x
  unfold hole
  rw [if_neg (by omega)]
theorem hole_upd (pg : Pages) (f n a : Nat) (h : n ≤ a) : upd (hole pg f n a) (f, (a : Int)) none = hole pg f n (a + 1) := by
  funext ⟨g, j⟩
  unfold upd hole
  simp only [Prod.mk.injEq]
  by_cases h1 : g = f ∧ j = a
  · rw [if_pos h1, if_pos (by omega)]
  · rw [if_neg h1]
    by_cases h2 : g = f ∧ (n : Int) ≤ j ∧ j < a
    · rw [if_pos h2, if_pos (by omega)]
    · rw [if_neg h2, if_neg (by omega)]
theorem hole_all (pg : Pages) (f n a : Nat) (h : (pg f).length ≤ a) : hole pg f n a = lst (setF pg f ((pg f).take n)) := by
  funext ⟨g, j⟩
  unfold hole lst setF
  simp only
  by_cases hg : g = f
  · subst hg
    rw [if_pos rfl]
    by_cases hj : 0 ≤ j
    · obtain ⟨j, rfl⟩ := Int.eq_ofNat_of_zero_le hj
      rw [if_pos hj, Int.toNat_natCast, if_pos hj, List.getElem?_take]
      by_cases h2 : j < n
      · rw [if_neg (by omega), if_pos h2]
      · rw [if_neg h2]
        by_cases h3 : j < a
        · rw [if_pos (by omega)]
        · rw [if_neg (by omega), List.getElem?_eq_none (by omega)]
    · rw [if_neg hj, if_neg (by omega), if_neg hj]
  · rw [if_neg hg, if_neg (by omega)]
theorem hole_some (pg : Pages) (f n a : Nat) (h : a < (pg f).length) : (hole pg f n a (f, (a : Int))).isSome = true := by
  unfold hole
  rw [if_neg (by simp)]
  rw [lst_some]
  simpa using h

/-- What side.cut leaves. -/
def SideCut (bc bp : Nat) (f m : Nat) (pg : Pages) (n k : Nat) (w : World) (e : Ending) (w' : World) : Prop :=
  e = .returned (.tuple #[]) ∧ Side w' bc bp (setF pg f ((pg f).take m)) (n - ((pg f).length - m)) (k + 1) ∧ Apart (two bc bp) w w'

set_option maxRecDepth 100000 in
set_option maxHeartbeats 1600000 in
theorem sidecut_any (bc bp f m : Nat) (pg : Pages) (n k : Nat) (w : World) (h : Side w bc bp pg n k) (hf : f ≤ lim) (_hm : m ≤ 9223372036854775807) (hL : (pg f).length ≤ 1048576)
    (hk : k ≤ lim) : Calls Tryz.prog 129 #[.agg #[.map (some bc), .map (some bp)], .int .i64 f, .int .i64 m] w (SideCut bc bp f m pg n k w) := by
  have hlt := h.lt
  obtain ⟨⟨q, j0, hcnt, hjk, hq⟩, hpg, hne⟩ := h
  have HC := Lib.hid hcnt
  have HP := Lib.hid hpg
  have HQ := Lib.hid hq
  have hql := hq f hf
  clear hcnt hpg hq
  unfold lim at hf hk
  go_enter Tryz.func129, Tryz.ntmps129
  go_wp2_with fail
  have e1 : (w.alloc (.cells #[.map (some bc), .map (some bp)] 62)).heap[w.heap.size]? = some (.cells #[.map (some bc), .map (some bp)] 62) := heap_alloc_new _ _
  have hA : Apart (two bc bp) w (w.alloc (.cells #[.map (some bc), .map (some bp)] 62)) := (Apart.refl _ w).alloc _
  have hP := HP.out.alloc (.cells #[.map (some bc), .map (some bp)] 62)
  have hC2 := HC.out.alloc (.cells #[.map (some bc), .map (some bp)] 62)
  have hsw : (w.alloc (.cells #[.map (some bc), .map (some bp)] 62)).heap.size = w.heap.size + 1 := by simp
  generalize w.alloc (.cells #[.map (some bc), .map (some bp)] 62) = w2 at *
  have E1 := Lib.hid e1
  have HA := Lib.hid hA
  have HP2 := Lib.hid hP
  have HC2 := Lib.hid hC2
  clear e1 hA hP hC2 HP HC
  generalize hl : (pg f).length = L at *
  go_loopw [6] (fun a wr => ∃ j, a = .int .i64 (j : Nat) ∧ m ≤ j ∧ j ≤ max L m ∧ Hid (MapF pgK wr bp (n - (j - m)) (hole pg f m j)) ∧ Hid (w2.grownBy wr (some bp))) (fun a _ => L - (intOf a).toNat)
  case atStart => exact ⟨m, rfl, Nat.le_refl _, by omega, by rw [Nat.sub_self, hole_none]; exact HP2.out, ⟨rfl, rfl, rfl, Nat.le_refl _, fun _ _ _ => rfl⟩⟩
  case round =>
    obtain ⟨j, rfl, hj1, hj2, hp2, hg⟩ := hrel
    have b1 : Hid (wr.heap[w.heap.size]? = some (.cells #[.map (some bc), .map (some bp)] 62)) := (hg.out.block w.heap.size (by omega) (by simp; omega)).trans E1.out
    have c0 : wr.cell? ⟨w.heap.size, 0, none⟩ = some (.map (some bc)) := cell_of_row _ _ _ _ _ _ b1.out
    have c1 : wr.cell? ⟨w.heap.size, 1, none⟩ = some (.map (some bp)) := cell_of_row _ _ _ _ _ _ b1.out
    have HC3 := Lib.hid (HC2.out.grown hg.out (by simp; exact hne))
    have hl3 := cnt_look HC3.out (f := f) (c := L) (by unfold lim; omega) (by rw [hql])
    by_cases hlt : j < L
    · have hlti : (j : Int) < L := by omega
      have HST := Lib.hid (hole_some pg f m j (by omega))
      have HUP := Lib.hid (hole_upd pg f m j hj1)
      go_wp2_with (first | (refine wp_drop pgK rfl _ _ rfl bp _ _ rfl hp2.out (f, (j : Int)) rfl ⟨by unfold lim; omega, WalkArith.wf_i64 (by omega)⟩ (n - (j + 1 - m)) (by rw [HST.out]; simp; omega) ?hK) | fail)
      intro w3 hp3 hg3
      rw [HUP.out] at hp3
      have HP3 := Lib.hid hp3
      have HG3 := Lib.hid hg3
      clear hp3 hg3
      go_wp2_with fail
      go_roundw
      case rel => exact ⟨j + 1, by go_num, by omega, by omega, HP3.out, hg.out.trans HG3.out⟩
      case measure => simp [intOf]; omega
    · have hge : (L : Int) ≤ j := by omega
      have hall := hole_all pg f m j (by omega)
      have hnn : n - (j - m) = n - (L - m) := by omega
      have hp4 := hp2.out
      rw [hall, hnn] at hp4
      have HP3 := Lib.hid hp4
      have hj3 : j0 + (if (q f).isSome = true then 0 else 1) ≤ k + 1 := by split <;> omega
      obtain ⟨j4, hj4⟩ : ∃ j4, j0 + (if (q f).isSome = true then 0 else 1) = j4 := ⟨_, rfl⟩
      rw [hj4] at hj3
      have HJ4 := Lib.hid hj4
      have hlen : Hid (((pg f).take m).length = min m L) := by unfold Hid; rw [List.length_take, hl]
      clear hj4 hall hp4
      by_cases hmx : L ≤ m
      · have hmx2 : (L : Int) ≤ m := by omega
        go_wp2_with (first | (refine wp_store cntK rfl _ _ _ rfl bc _ _ rfl HC3.out (by unfold maxLen; omega) f rfl (by unfold cntK lim; omega) L rfl trivial j4 HJ4.out ?hK3) | fail)
        intro w4 hc4 hg4
        have HC4 := Lib.hid hc4
        have HP4 := Lib.hid (HP3.out.grown hg4 (by simp; omega))
        have HA4 : Hid (Apart (two bc bp) w w4) := (HA.out.step hg.out (fun x e => by injection e with e; exact .inl (.inr e.symm))).step hg4 (fun x e => by injection e with e; exact .inl (.inl e.symm))
        clear hc4 hg4
        go_wp2_with fail
        go_end0
        exact ⟨rfl, ⟨⟨_, j4, HC4.out, hj3, cnt_store HQ.out (by rw [hlen.out]; omega)⟩, (by rw [hl]; exact HP4.out), hne⟩, HA4.out⟩
      · have hmx2 : (m : Int) < L := by omega
        go_wp2_with (first | (refine wp_store cntK rfl _ _ _ rfl bc _ _ rfl HC3.out (by unfold maxLen; omega) f rfl (by unfold cntK lim; omega) m rfl trivial j4 HJ4.out ?hK4) | fail)
        intro w4 hc4 hg4
        have HC4 := Lib.hid hc4
        have HP4 := Lib.hid (HP3.out.grown hg4 (by simp; omega))
        have HA4 : Hid (Apart (two bc bp) w w4) := (HA.out.step hg.out (fun x e => by injection e with e; exact .inl (.inr e.symm))).step hg4 (fun x e => by injection e with e; exact .inl (.inl e.symm))
        clear hc4 hg4
        go_wp2_with fail
        go_end0
        exact ⟨rfl, ⟨⟨_, j4, HC4.out, hj3, cnt_store HQ.out (by rw [hlen.out]; omega)⟩, (by rw [hl]; exact HP4.out), hne⟩, HA4.out⟩

end Go.Proofs.YtkbmajgbhpecgaaGreatDoor.Cd

/-
  shorten: a file has so many pages at most, on both sides; drop: a file is gone. Conditions: none.
-/
namespace Go.Proofs.YtkbmajgbhpecgaaGreatDoor.Cd
open Go.RowKit

/-- Other sides; nothing else of the disk has turned. -/
theorem DiskR.sides {w w1 : World} {g N M bf c1 p1 c2 p2 nn ns k : Nat} {S : Nat → Prop} {P : Pd} {lv : Value} {now safe : Pages} (h : DiskR w g S P N bf c1 p1 c2 p2 lv) (ha : Apart (fun b => two c1 p1 b ∨ two c2 p2 b) w w1)
    (h1 : Side w1 c1 p1 now nn M) (h2 : Side w1 c2 p2 safe ns k) (hk : k + P.late.length ≤ M) (hN : N ≤ M) (hf : Fits { P with now := now, nn := nn, safe := safe, ns := ns } M) :
    DiskR w1 g S { P with now := now, nn := nn, safe := safe, ns := ns } M bf c1 p1 c2 p2 lv := by
  obtain ⟨i1, i2, i3, i4, i5, i6⟩ := h.ins
  obtain ⟨n1, n2, n3, n4, n5⟩ := h.neg
  obtain ⟨m1, m2, m3, m4⟩ := h.nef
  obtain ⟨n, hfl, hn⟩ := h.fil
  have hb : ∀ b, S b → b ≠ c1 → b ≠ p1 → b ≠ c2 → b ≠ p2 → w1.heap[b]? = w.heap[b]? := fun b hS e1 e2 e3 e4 => ha.block b (h.lt b hS) (by rintro ((e | e) | (e | e)) <;> contradiction)
  exact ⟨hf, (hb g i1 n2 n3 n4 n5).trans h.row, ⟨n, hfl.heap (hb bf i2 m1 m2 m3 m4), by omega⟩, h1, ⟨k, h2, hk⟩, row_kept h.late (fun b hb2 => by
    obtain ⟨_, _, q3, q4, q5, q6⟩ := h.nel b hb2
    exact hb b (h.inl b hb2) q3 q4 q5 q6), h.neg, h.nef, h.nes, h.nel, h.ins, h.inl, fun k hk => Nat.lt_of_lt_of_le (h.lt k hk) ha.size⟩

/-- Two blocks on each side. -/
theorem four_in {w : World} {g N bf c1 p1 c2 p2 : Nat} {S : Nat → Prop} {P : Pd} {lv : Value} (h : DiskR w g S P N bf c1 p1 c2 p2 lv) : ∀ b, two c1 p1 b ∨ two c2 p2 b → S b := by
  obtain ⟨i1, i2, i3, i4, i5, i6⟩ := h.ins
  rintro b ((rfl | rfl) | (rfl | rfl)) <;> assumption

set_option maxRecDepth 100000 in
set_option maxHeartbeats 800000 in
theorem cutfn_any (bc bp f m : Nat) (a1 a2 : Addr) (pg : Pages) (n k : Nat) (w : World) (h : Side w bc bp pg n k) (hf : f ≤ lim) (hm : m ≤ 9223372036854775807) (hL : (pg f).length ≤ 1048576) (hk : k ≤ lim) (h1 : Capt w a1 f) (h2 : Capt w a2 m) :
    Calls Tryz.prog 128 #[.agg #[.map (some bc), .map (some bp)], .pointer (some a1), .pointer (some a2)] w (SideCut bc bp f m pg n k w) := by
  have hlt := h.lt
  have hA : Apart (two bc bp) w (w.alloc (.cells #[.map (some bc), .map (some bp)] 62)) := (Apart.refl _ w).alloc _
  have hcut := sidecut_any bc bp f m pg n k (w.alloc (.cells #[.map (some bc), .map (some bp)] 62)) (h.below ((Below.refl _ _).alloc (Nat.le_refl _) _) hlt.1 hlt.2) hf hm hL hk
  have k1 : (w.alloc (.cells #[.map (some bc), .map (some bp)] 62)).cell? a1 = some (.int .i64 f) := (World.cell?_alloc_lt _ _ _ h1.2).trans h1.1
  have k2 : (w.alloc (.cells #[.map (some bc), .map (some bp)] 62)).cell? a2 = some (.int .i64 m) := (World.cell?_alloc_lt _ _ _ h2.2).trans h2.1
  have HCUT := Lib.hid hcut
  have HA := Lib.hid hA
  clear hcut hA h h1 h2
  go_enter Tryz.func128, Tryz.ntmps128
  go_wp2_with fail
  refine HCUT.out.mono ?_
  rintro e w3 ⟨rfl, hs, ha⟩
  have HS := Lib.hid hs
  have HA3 : Hid (Apart (two bc bp) w w3) := HA.out.trans (ha.mono (fun _ => .inl))
  clear hs ha
  go_wp2_with fail
  go_end0
  exact ⟨rfl, HS.out, HA3.out⟩

set_option maxRecDepth 100000 in
set_option maxHeartbeats 800000 in
theorem delfn_any (bc bp f : Nat) (a1 : Addr) (pg : Pages) (n k : Nat) (w : World) (h : Side w bc bp pg n k) (hf : f ≤ lim) (he : pg f = []) (h1 : Capt w a1 f) :
    Calls Tryz.prog 98 #[.agg #[.map (some bc), .map (some bp)], .pointer (some a1)] w (fun e w' => e = .returned (.tuple #[]) ∧ Side w' bc bp pg n k ∧ Apart (two bc bp) w w') := by
  have hlt := h.lt
  have hA : Apart (two bc bp) w (w.alloc (.cells #[.map (some bc), .map (some bp)] 62)) := (Apart.refl _ w).alloc _
  have k1 : (w.alloc (.cells #[.map (some bc), .map (some bp)] 62)).cell? a1 = some (.int .i64 f) := (World.cell?_alloc_lt _ _ _ h1.2).trans h1.1
  obtain ⟨⟨q, j0, hcnt, hjk, hq⟩, hpg, hne⟩ := h
  have HC := Lib.hid hcnt
  have HP := Lib.hid hpg
  have HQ := Lib.hid hq
  have HA := Lib.hid hA
  have HE := Lib.hid he
  obtain ⟨j1, hj1⟩ : ∃ j1, (j0 - if (q f).isSome = true then 1 else 0) = j1 := ⟨_, rfl⟩
  have hj2 : j1 ≤ j0 := by omega
  have HJ1 := Lib.hid hj1
  clear hcnt hpg hq hA h1 he hj1
  go_enter Tryz.func98, Tryz.ntmps98
  go_wp2_with (first | (refine wp_drop cntK rfl _ _ rfl bc j0 q rfl (HC.out.alloc _) f rfl hf j1 HJ1.out ?hK) | fail)
  intro w3 hc3 hg3
  have HS : Hid (Side w3 bc bp pg n k) := ⟨⟨_, _, hc3, by omega, fun x hx => by
    unfold upd
    split
    · rename_i e
      rw [e, HE.out]; rfl
    · exact HQ.out x hx⟩, (HP.out.alloc _).grown hg3 (by simp; omega), hne⟩
  have HA3 : Hid (Apart (two bc bp) w w3) := HA.out.step hg3 (fun x e => by injection e with e; exact .inl (.inl e.symm))
  clear hc3 hg3
  go_wp2_with fail
  go_end0
  exact ⟨rfl, HS.out, HA3.out⟩

/-- What a closure leaves of one side. -/
def SideDoes (bc bp n' k' : Nat) (pg' : Pages) (w : World) (e : Ending) (w' : World) : Prop := e = .returned (.tuple #[]) ∧ Side w' bc bp pg' n' k' ∧ Apart (two bc bp) w w'

set_option maxRecDepth 100000 in
set_option maxHeartbeats 1600000 in
theorem both_cut (g f m N bf c1 p1 c2 p2 : Nat) (a1 a2 : Addr) (S : Nat → Prop) (P : Pd) (lv : Value) (w : World) (h : DiskR w g S P N bf c1 p1 c2 p2 lv) (hf : f ≤ P.made) (hm : m ≤ 9223372036854775807) (h1 : Capt w a1 f) (h2 : Capt w a2 m) (hs1 : ¬ S a1.block) (hs2 : ¬ S a2.block) :
    Calls Tryz.prog 97 #[.pointer (some ⟨g, 0, none⟩), .func (.func 128) #[] #[.pointer (some a1), .pointer (some a2)]] w
      (fun e w' => e = .returned (.tuple #[]) ∧ Side w' c1 p1 (setF P.now f ((P.now f).take m)) (P.nn - ((P.now f).length - m)) (N + 1) ∧ (∃ k, Side w' c2 p2 (setF P.safe f ((P.safe f).take m)) (P.ns - ((P.safe f).length - m)) (k + 1) ∧ k + P.late.length ≤ N) ∧ Apart (fun b => two c1 p1 b ∨ two c2 p2 b) w w') := by
  have hfl : f ≤ lim := by have := h.fits.made; have := h.fits.top; unfold lim; omega
  have hN : N ≤ lim := by have := h.fits.top; unfold lim; omega
  obtain ⟨k, hsf, hk⟩ := h.safe
  have hins := four_in h
  have hA1 := cutfn_any c1 p1 f m a1 a2 P.now P.nn N w h.now hfl hm (by have := h.fits.now f; omega) hN h1 h2
  have d3 : w.cell? ⟨g, 3, none⟩ = some (.map (some c1)) := cell_of_row _ _ _ _ _ _ h.row
  have d4 : w.cell? ⟨g, 4, none⟩ = some (.map (some p1)) := cell_of_row _ _ _ _ _ _ h.row
  have H := Lib.hid h
  have HC := Lib.hid hA1
  have HSF := Lib.hid hsf
  have K1 := Lib.hid h1
  have K2 := Lib.hid h2
  clear h hA1 hsf h1 h2
  go_enter Tryz.func97, Tryz.ntmps97
  go_wp2_with fail
  refine HC.out.mono ?_
  rintro e w1 ⟨rfl, hsd1, ha1⟩
  have hg1 := H.out.neg
  have hq1 := H.out.nes
  have hlt1 := H.out.lt g H.out.ins.1
  have hrow1 : w1.heap[g]? = some (.cells (dcells P bf c1 p1 c2 p2 lv) 66) := (ha1.block g hlt1 (by rintro (e | e) <;> omega)).trans H.out.row
  have d5 : w1.cell? ⟨g, 5, none⟩ = some (.map (some c2)) := cell_of_row _ _ _ _ _ _ hrow1
  have d6 : w1.cell? ⟨g, 6, none⟩ = some (.map (some p2)) := cell_of_row _ _ _ _ _ _ hrow1
  have kk1 : Capt w1 a1 f := ⟨(ha1.cell K1.out.2 (fun e => hs1 (hins _ (.inl e)))).trans K1.out.1, Nat.lt_of_lt_of_le K1.out.2 ha1.size⟩
  have kk2 : Capt w1 a2 m := ⟨(ha1.cell K2.out.2 (fun e => hs2 (hins _ (.inl e)))).trans K2.out.1, Nat.lt_of_lt_of_le K2.out.2 ha1.size⟩
  have hA2 := cutfn_any c2 p2 f m a1 a2 P.safe P.ns k w1 (HSF.out.apart ha1 (by rintro (e | e) <;> omega) (by rintro (e | e) <;> omega)) hfl hm (by have := H.out.fits.safe f; omega) (by omega) kk1 kk2
  have HC2 := Lib.hid hA2
  have HS1 := Lib.hid hsd1
  have HA1 := Lib.hid ha1
  clear hA2 kk1 kk2 hrow1 hsd1 ha1
  go_wp2_with fail
  refine HC2.out.mono ?_
  rintro e w2 ⟨rfl, hsd2, ha2⟩
  have HR : Hid (Side w2 c1 p1 (setF P.now f ((P.now f).take m)) (P.nn - ((P.now f).length - m)) (N + 1) ∧ (∃ k, Side w2 c2 p2 (setF P.safe f ((P.safe f).take m)) (P.ns - ((P.safe f).length - m)) (k + 1) ∧ k + P.late.length ≤ N) ∧ Apart (fun b => two c1 p1 b ∨ two c2 p2 b) w w2) :=
    ⟨HS1.out.apart ha2 (by rintro (e | e) <;> omega) (by rintro (e | e) <;> omega), ⟨k, hsd2, hk⟩, (HA1.out.mono (fun _ => .inl)).trans (ha2.mono (fun _ e => .inl (.inr e)))⟩
  clear hsd2 ha2
  go_wp2_with fail
  go_end0
  exact ⟨rfl, HR.out⟩

set_option maxRecDepth 100000 in
set_option maxHeartbeats 1600000 in
theorem both_del (g f N bf c1 p1 c2 p2 : Nat) (a1 : Addr) (S : Nat → Prop) (P : Pd) (lv : Value) (w : World) (h : DiskR w g S P N bf c1 p1 c2 p2 lv) (hf : f ≤ P.made) (he1 : P.now f = []) (he2 : P.safe f = []) (h1 : Capt w a1 f) (hs1 : ¬ S a1.block) :
    Calls Tryz.prog 97 #[.pointer (some ⟨g, 0, none⟩), .func (.func 98) #[] #[.pointer (some a1)]] w
      (fun e w' => e = .returned (.tuple #[]) ∧ Side w' c1 p1 P.now P.nn N ∧ (∃ k, Side w' c2 p2 P.safe P.ns k ∧ k + P.late.length ≤ N) ∧ Apart (fun b => two c1 p1 b ∨ two c2 p2 b) w w') := by
  have hfl : f ≤ lim := by have := h.fits.made; have := h.fits.top; unfold lim; omega
  obtain ⟨k, hsf, hk⟩ := h.safe
  have hins := four_in h
  have hA1 := delfn_any c1 p1 f a1 P.now P.nn N w h.now hfl he1 h1
  have d3 : w.cell? ⟨g, 3, none⟩ = some (.map (some c1)) := cell_of_row _ _ _ _ _ _ h.row
  have d4 : w.cell? ⟨g, 4, none⟩ = some (.map (some p1)) := cell_of_row _ _ _ _ _ _ h.row
  have H := Lib.hid h
  have HC := Lib.hid hA1
  have HSF := Lib.hid hsf
  have K1 := Lib.hid h1
  have HE2 := Lib.hid he2
  clear h hA1 hsf h1 he1 he2
  go_enter Tryz.func97, Tryz.ntmps97
  go_wp2_with fail
  refine HC.out.mono ?_
  rintro e w1 ⟨rfl, hsd1, ha1⟩
  have hg1 := H.out.neg
  have hq1 := H.out.nes
  have hlt1 := H.out.lt g H.out.ins.1
  have hrow1 : w1.heap[g]? = some (.cells (dcells P bf c1 p1 c2 p2 lv) 66) := (ha1.block g hlt1 (by rintro (e | e) <;> omega)).trans H.out.row
  have d5 : w1.cell? ⟨g, 5, none⟩ = some (.map (some c2)) := cell_of_row _ _ _ _ _ _ hrow1
  have d6 : w1.cell? ⟨g, 6, none⟩ = some (.map (some p2)) := cell_of_row _ _ _ _ _ _ hrow1
  have kk1 : Capt w1 a1 f := ⟨(ha1.cell K1.out.2 (fun e => hs1 (hins _ (.inl e)))).trans K1.out.1, Nat.lt_of_lt_of_le K1.out.2 ha1.size⟩
  have hA2 := delfn_any c2 p2 f a1 P.safe P.ns k w1 (HSF.out.apart ha1 (by rintro (e | e) <;> omega) (by rintro (e | e) <;> omega)) hfl HE2.out kk1
  have HC2 := Lib.hid hA2
  have HS1 := Lib.hid hsd1
  have HA1 := Lib.hid ha1
  clear hA2 kk1 hrow1 hsd1 ha1
  go_wp2_with fail
  refine HC2.out.mono ?_
  rintro e w2 ⟨rfl, hsd2, ha2⟩
  have HR : Hid (Side w2 c1 p1 P.now P.nn N ∧ (∃ k, Side w2 c2 p2 P.safe P.ns k ∧ k + P.late.length ≤ N) ∧ Apart (fun b => two c1 p1 b ∨ two c2 p2 b) w w2) :=
    ⟨HS1.out.apart ha2 (by rintro (e | e) <;> omega) (by rintro (e | e) <;> omega), ⟨k, hsd2, hk⟩, (HA1.out.mono (fun _ => .inl)).trans (ha2.mono (fun _ e => .inl (.inr e)))⟩
  clear hsd2 ha2
  go_wp2_with fail
  go_end0
  exact ⟨rfl, HR.out⟩

def shortenP (P : Pd) (f m : Nat) : Pd :=
  { P with now := setF P.now f ((P.now f).take m), nn := P.nn - ((P.now f).length - m), safe := setF P.safe f ((P.safe f).take m), ns := P.ns - ((P.safe f).length - m), late := P.late.filter fun x => !hitP f m x }

theorem cutP_fits {P : Pd} {N : Nat} (h : Fits P N) (hN : N < 137438953472) (f m : Nat) : Fits { P with now := setF P.now f ((P.now f).take m), nn := P.nn - ((P.now f).length - m), safe := setF P.safe f ((P.safe f).take m), ns := P.ns - ((P.safe f).length - m) } (N + 1) := by
  have h2 := h.mono (Nat.le_succ N) (by omega)
  refine ⟨h2.top, h.room, h2.made, h2.acts, h.fuse, h.keep, h.late, fun x => ?_, fun x => ?_, ?_, ?_, h.files, fun x hx => ⟨?_, ?_⟩⟩
  · show (setF P.now f _ x).length ≤ 4096
    unfold setF
    split
    · rw [List.length_take]; have := h.now f; omega
    · exact h.now x
  · show (setF P.safe f _ x).length ≤ 4096
    unfold setF
    split
    · rw [List.length_take]; have := h.safe f; omega
    · exact h.safe x
  · have := h.nns
    show P.nn - _ ≤ P.room
    omega
  · have := h2.nss
    show P.ns - _ + 4097 * P.late.length ≤ _
    omega
  · have := (h.fresh x hx).1
    show setF P.now f _ x = []
    unfold setF
    split
    · rename_i e; rw [← e, this, List.take_nil]
    · exact this
  · have := (h.fresh x hx).2
    show setF P.safe f _ x = []
    unfold setF
    split
    · rename_i e; rw [← e, this, List.take_nil]
    · exact this

set_option maxRecDepth 100000 in
set_option maxHeartbeats 1600000 in
theorem shorten_any (g N f m : Nat) (S : Nat → Prop) (P : Pd) (w : World) (h : Rep w g S P N) (hf : f ≤ P.made) (hm : m ≤ 9223372036854775807) (hN : N < 137438953472) :
    Calls Tryz.prog 96 #[.pointer (some ⟨g, 0, none⟩), .int .i64 f, .int .i64 m] w (Makes g S (shortenP P f m) (N + 1) (.tuple #[]) w) := by
  obtain ⟨bf, c1, p1, c2, p2, lv, h⟩ := h
  have hA : Apart S w ((w.alloc (.cells #[.int .i64 f] 3)).alloc (.cells #[.int .i64 m] 3)) := ((Apart.refl S w).alloc _).alloc _
  have hs2 : ((w.alloc (.cells #[.int .i64 f] 3)).alloc (.cells #[.int .i64 m] 3)).heap.size = w.heap.size + 2 := by simp
  have hB : Below w.heap.size w ((w.alloc (.cells #[.int .i64 f] 3)).alloc (.cells #[.int .i64 m] 3)) := ((Below.refl _ _).alloc (Nat.le_refl _) _).alloc (by simp) _
  have h2 := h.below hB h.lt
  have k1 : Capt ((w.alloc (.cells #[.int .i64 f] 3)).alloc (.cells #[.int .i64 m] 3)) ⟨w.heap.size, 0, none⟩ f := ⟨cell_of_row _ _ _ _ _ _ (heap_alloc2_old w _ _), by rw [hs2]; show w.heap.size < _; omega⟩
  have k2 : Capt ((w.alloc (.cells #[.int .i64 f] 3)).alloc (.cells #[.int .i64 m] 3)) ⟨w.heap.size + 1, 0, none⟩ m := ⟨cell_of_row _ _ _ _ _ _ (heap_alloc2_new w _ _), by rw [hs2]; show w.heap.size + 1 < _; omega⟩
  have hcut := both_cut g f m N bf c1 p1 c2 p2 ⟨w.heap.size, 0, none⟩ ⟨w.heap.size + 1, 0, none⟩ S P lv _ h2 hf hm k1 k2 (fun e => by have h9 : w.heap.size < w.heap.size := h.lt _ e; omega) (fun e => by have h9 : w.heap.size + 1 < w.heap.size := h.lt _ e; omega)
  have HCUT := Lib.hid hcut
  have HA := Lib.hid hA
  have H2 := Lib.hid h2
  have K1 := Lib.hid k1
  have K2 := Lib.hid k2
  have hlt := Lib.hid h.lt
  clear hcut hA hB h h2 k1 k2
  go_enter Tryz.func96, Tryz.ntmps96
  go_wp2_with fail
  generalize (w.alloc (.cells #[.int .i64 f] 3)).alloc (.cells #[.int .i64 m] 3) = w2 at *
  refine HCUT.out.mono ?_
  rintro e w3 ⟨rfl, hs1, ⟨k, hs2', hk⟩, ha⟩
  have hins := four_in H2.out
  have h3 := H2.out.sides ha hs1 hs2' (by omega) (Nat.le_succ N) (cutP_fits H2.out.fits hN f m)
  have e1 : w3.cell? ⟨w.heap.size, 0, none⟩ = some (.int .i64 f) := (ha.cell K1.out.2 (fun e => by have h9 : w.heap.size < w.heap.size := hlt.out _ (hins _ e); omega)).trans K1.out.1
  have e2 : w3.cell? ⟨w.heap.size + 1, 0, none⟩ = some (.int .i64 m) := (ha.cell K2.out.2 (fun e => by have h9 : w.heap.size + 1 < w.heap.size := hlt.out _ (hins _ e); omega)).trans K2.out.1
  have hap : Apart S w w3 := HA.out.trans (ha.mono (fun b hb => .inl (hins b hb)))
  have hfg := forget_any g (N + 1) f m S _ w3 ⟨_, _, _, _, _, _, h3⟩
  have HFG := Lib.hid hfg
  have HAP := Lib.hid hap
  clear hs1 hs2' ha h3 hap hfg
  go_wp2_with fail
  refine HFG.out.mono ?_
  intro e w4 hmk
  have HMK := Lib.hid (makes_up HAP.out hmk)
  obtain rfl := hmk.1
  clear hmk
  go_wp2_with fail
  go_end0
  exact HMK.out

end Go.Proofs.YtkbmajgbhpecgaaGreatDoor.Cd

/-
  drop: a file is gone, if there is one of that name. Conditions: none.
-/
namespace Go.Proofs.YtkbmajgbhpecgaaGreatDoor.Cd
open Go.RowKit

def dropP (P : Pd) (s : List UInt8) : Pd := match P.files s with
  | some k => { shortenP P k 0 with files := upd P.files s none }
  | none => P

theorem upd_none {q : List UInt8 → Option Nat} {s t : List UInt8} {k : Nat} (h : upd q s none t = some k) : q t = some k := by
  unfold upd at h
  split at h
  · cases h
  · exact h

theorem Fits.files_set {P : Pd} {N : Nat} (h : Fits P N) {q : List UInt8 → Option Nat} (hq : ∀ t k, q t = some k → k ≤ P.made) : Fits { P with files := q } N :=
  ⟨h.top, h.room, h.made, h.acts, h.fuse, h.keep, h.late, h.now, h.safe, h.nns, h.nss, hq, h.fresh⟩

set_option maxRecDepth 100000 in
set_option maxHeartbeats 1600000 in
theorem dropd_any (g N : Nat) (S : Nat → Prop) (P : Pd) (s : List UInt8) (w : World) (h : Rep w g S P N) (hs : s.length ≤ 140737488355328) (hN : N < 137438953472) :
    Calls Tryz.prog 77 #[.pointer (some ⟨g, 0, none⟩), .string ⟨s.toArray⟩] w (Makes g S (dropP P s) (N + 1) (.tuple #[]) w) := by
  have hR := h
  obtain ⟨bf, c1, p1, c2, p2, lv, h⟩ := h
  have d1 : w.cell? ⟨g, 1, none⟩ = some (.map (some bf)) := cell_of_row _ _ _ _ _ _ h.row
  obtain ⟨n, hf, hn⟩ := h.fil
  have hl := fil_look hf (s := s) (by simp only [maxLen]; omega)
  have hltS := h.lt
  cases hq : P.files s with
  | none =>
    rw [hq] at hl
    have hd : dropP P s = P := by unfold dropP; rw [hq]
    rw [hd]
    have HR := Lib.hid hR
    have HLT := Lib.hid hltS
    clear hR h hf hltS
    go_enter Tryz.func77, Tryz.ntmps77
    go_wp2_with fail
    go_end0
    exact ⟨rfl, ((HR.out.mono (Nat.le_succ N) (by omega)).below ((Below.refl _ _).alloc (Nat.le_refl _) _) HLT.out).more (fun _ => .inl) (since_lt HLT.out (by simp)), (Apart.refl _ _).alloc _⟩
  | some k =>
    rw [hq] at hl
    have hk : k ≤ P.made := h.fits.files s k hq
    have hd : dropP P s = { shortenP P k 0 with files := upd P.files s none } := by unfold dropP; rw [hq]
    rw [hd]
    have hA : Apart S w (w.alloc (.cells #[.int .i64 k] 3)) := (Apart.refl S w).alloc _
    have hrep2 := hR.below ((Below.refl _ _).alloc (Nat.le_refl _) (.cells #[.int .i64 k] 3)) hltS
    have hsh := shorten_any g N k 0 S P _ hrep2 hk (by omega) hN
    have hc0 : (w.alloc (.cells #[.int .i64 k] 3)).cell? ⟨w.heap.size, 0, none⟩ = some (.int .i64 k) := cell_of_row _ _ _ _ _ _ (heap_alloc_new w _)
    have hsw : (w.alloc (.cells #[.int .i64 k] 3)).heap.size = w.heap.size + 1 := by simp
    have HSH := Lib.hid hsh
    have HA := Lib.hid hA
    have HLT := Lib.hid hltS
    clear hsh hA hltS hR h hf hrep2 hd
    go_enter Tryz.func77, Tryz.ntmps77
    go_wp2_with fail
    generalize w.alloc (.cells #[.int .i64 k] 3) = w2 at *
    refine HSH.out.mono ?_
    rintro e w3 ⟨rfl, hrep3, ha3⟩
    have hap3 : Apart S w w3 := HA.out.trans (ha3.mono (fun _ => .inl))
    have hnS : ¬ S w.heap.size := fun e => by have := HLT.out _ e; omega
    have hs23 := ha3.size
    have hc3 : w3.cell? ⟨w.heap.size, 0, none⟩ = some (.int .i64 k) := (ha3.cell (by show w.heap.size < _; omega) hnS).trans hc0
    -- the set without the box
    obtain ⟨bf3, c13, p13, c23, p23, lv3, h3⟩ := hrep3
    have hne3 : ∀ b, since S w2 w3 b → b ≠ w.heap.size := fun b hb e => by
      rcases hb with hb | hb
      · rw [e] at hb; exact hnS hb
      · omega
    have he1 : (shortenP P k 0).now k = [] := by show setF P.now k _ k = []; rw [setF_same, List.take_zero]
    have he2 : (shortenP P k 0).safe k = [] := by show setF P.safe k _ k = []; rw [setF_same, List.take_zero]
    have hbo := both_del g k (N + 1) bf3 c13 p13 c23 p23 ⟨w.heap.size, 0, none⟩ (since S w2 w3) (shortenP P k 0) lv3 w3 h3 hk he1 he2 ⟨hc3, by show w.heap.size < _; omega⟩ (fun e => hne3 _ e rfl)
    have HB := Lib.hid hbo
    have H3 := Lib.hid h3
    have HAP := Lib.hid hap3
    have HA3 := Lib.hid ha3
    clear hbo h3 hap3 ha3 he1 he2
    go_wp2_with fail
    refine HB.out.mono ?_
    rintro e w4 ⟨rfl, hs1, ⟨j, hs2, hj⟩, ha4⟩
    have h4 := H3.out.sides ha4 hs1 hs2 hj (Nat.le_refl _) (by have := H3.out.fits; exact this)
    have hins := four_in H3.out
    have hfit4 : Fits { shortenP P k 0 with files := upd P.files s none } (N + 1) := Fits.files_set H3.out.fits (fun t x ht => H3.out.fits.files t x (upd_none ht))
    have e1 : w4.cell? ⟨g, 1, none⟩ = some (.map (some bf3)) := cell_of_row _ _ _ _ _ _ h4.row
    obtain ⟨n4, hf4, hn4⟩ := h4.fil
    have HA4 : Hid (Apart S w w4) := HAP.out.trans (ha4.mono (fun b hb => by
      rcases hins b hb with h | h
      · exact .inl h
      · exact .inr ⟨by omega, h.2⟩))
    obtain ⟨j1, hj1⟩ : ∃ j1, (n4 - if (P.files s).isSome = true then 1 else 0) = j1 := ⟨_, rfl⟩
    have hj2 : j1 ≤ N + 1 := by omega
    have HJ1 := Lib.hid hj1
    have H4 := Lib.hid h4
    have HF4 := Lib.hid hf4
    have HFIT := Lib.hid hfit4
    clear hs1 hs2 ha4 h4 hf4 hfit4 hj1
    go_wp2_with (first | (refine wp_drop filK rfl _ _ rfl bf3 n4 _ rfl HF4.out s rfl (by simp only [filK, maxLen]; omega) j1 HJ1.out ?hK) | fail)
    intro w5 hf5 hg5
    have h5 := H4.out.named hg5 hf5 hj2 HFIT.out
    have hin5 := H4.out.ins.2.1
    have HA5 : Hid (Apart S w w5) := HA4.out.step hg5 (fun q e => by
      injection e with e
      rw [← e]
      rcases hin5 with h | h
      · exact .inl h
      · exact .inr (by omega))
    have H5 := Lib.hid h5
    clear h5 hf5 hg5
    go_wp2_with fail
    go_end0
    refine ⟨rfl, ⟨_, _, _, _, _, _, H5.out.more (fun b hb => ?_) (since_lt HLT.out HA5.out.size)⟩, HA5.out⟩
    rcases hb with h | h
    · exact .inl h
    · exact .inr ⟨by omega, H5.out.lt b (.inr h)⟩

end Go.Proofs.YtkbmajgbhpecgaaGreatDoor.Cd

/-
  Writes that are played onto a side. Conditions: none.
-/
namespace Go.Proofs.YtkbmajgbhpecgaaGreatDoor.Cd
open Go.RowKit

/-- One write onto a side. -/
def putS (s : Pages × Nat) (x : Pw) : Pages × Nat := (setF s.1 x.file (setP (s.1 x.file) x.spot x.data), s.2 + (x.spot + 1 - (s.1 x.file).length))
/-- Those of the writes, from the i-th on, that are chosen. -/
def playS (sel : Nat → Pw → Bool) : Nat → List Pw → Pages × Nat → Pages × Nat
  | _, [], s => s
  | i, x :: r, s => playS sel (i + 1) r (if sel i x = true then putS s x else s)
def cntS (sel : Nat → Pw → Bool) : Nat → List Pw → Nat
  | _, [] => 0
  | i, x :: r => (if sel i x = true then 1 else 0) + cntS sel (i + 1) r

theorem playS_append (sel : Nat → Pw → Bool) (b : List Pw) : ∀ (a : List Pw) (i : Nat) (s : Pages × Nat), playS sel i (a ++ b) s = playS sel (i + a.length) b (playS sel i a s) := by
  intro a
  induction a with
  | nil => intro i s; rfl
  | cons x r ih =>
    intro i s
    rw [List.cons_append, playS, playS, ih, List.length_cons]
    congr 1
    omega
theorem cntS_append (sel : Nat → Pw → Bool) (b : List Pw) : ∀ (a : List Pw) (i : Nat), cntS sel i (a ++ b) = cntS sel i a + cntS sel (i + a.length) b := by
  intro a
  induction a with
  | nil => intro i; simp [cntS]
  | cons x r ih =>
    intro i
    rw [List.cons_append, cntS, cntS, ih, List.length_cons, show i + 1 + r.length = i + (r.length + 1) by omega]
    omega
theorem playS_take (sel : Nat → Pw → Bool) {l : List Pw} {k : Nat} (hk : k < l.length) (s : Pages × Nat) : playS sel 0 (l.take (k + 1)) s = if sel k l[k] = true then putS (playS sel 0 (l.take k) s) l[k] else playS sel 0 (l.take k) s := by
  rw [List.take_succ_eq_append_getElem hk, playS_append, List.length_take, show 0 + min k l.length = k by omega]
  rfl
theorem cntS_take (sel : Nat → Pw → Bool) {l : List Pw} {k : Nat} (hk : k < l.length) : cntS sel 0 (l.take (k + 1)) = cntS sel 0 (l.take k) + if sel k l[k] = true then 1 else 0 := by
  rw [List.take_succ_eq_append_getElem hk, cntS_append, List.length_take, show 0 + min k l.length = k by omega]
  rfl
theorem cntS_le (sel : Nat → Pw → Bool) : ∀ (l : List Pw) (i : Nat), cntS sel i l ≤ l.length := by
  intro l
  induction l with
  | nil => intro i; exact Nat.le_refl _
  | cons x r ih =>
    intro i
    rw [cntS, List.length_cons]
    have := ih (i + 1)
    split <;> omega

/-- What a side can be. -/
structure SideOk (m : Nat) (s : Pages × Nat) : Prop where
  len : ∀ f, (s.1 f).length ≤ 4096
  fresh : ∀ f, m < f → s.1 f = []
theorem putS_ok {m : Nat} {s : Pages × Nat} {x : Pw} (h : SideOk m s) (hx : PwOk m x) : SideOk m (putS s x) := by
  refine ⟨fun f => ?_, fun f hf => ?_⟩
  · show (setF s.1 x.file _ f).length ≤ 4096
    unfold setF
    split
    · rw [setP_len]; have := h.len x.file; have := hx.2.1; omega
    · exact h.len f
  · show setF s.1 x.file _ f = []
    rw [setF_other _ (by have := hx.1; omega)]
    exact h.fresh f hf
theorem playS_ok {sel : Nat → Pw → Bool} {m : Nat} : ∀ (l : List Pw) (i : Nat) (s : Pages × Nat), SideOk m s → (∀ x ∈ l, PwOk m x) → SideOk m (playS sel i l s) := by
  intro l
  induction l with
  | nil => intro i s h _; exact h
  | cons x r ih =>
    intro i s h hl
    rw [playS]
    refine ih _ _ ?_ (fun y hy => hl y (by simp [hy]))
    split
    · exact putS_ok h (hl x (by simp))
    · exact h
theorem playS_n {sel : Nat → Pw → Bool} {m : Nat} : ∀ (l : List Pw) (i : Nat) (s : Pages × Nat), (∀ x ∈ l, PwOk m x) → (playS sel i l s).2 ≤ s.2 + 4097 * cntS sel i l := by
  intro l
  induction l with
  | nil => intro i s _; exact Nat.le_refl _
  | cons x r ih =>
    intro i s hl
    rw [playS, cntS]
    have h1 := ih (i + 1) (if sel i x = true then putS s x else s) (fun y hy => hl y (by simp [hy]))
    have h2 := (hl x (by simp)).2.1
    by_cases hs : sel i x = true
    · rw [if_pos hs] at h1 ⊢
      rw [if_pos hs]
      have h3 : (putS s x).2 ≤ s.2 + 4097 := by show s.2 + (x.spot + 1 - _) ≤ _; omega
      omega
    · rw [if_neg hs] at h1 ⊢
      rw [if_neg hs]
      omega

/-- Of a file: those that sync makes safe. -/
def ofFile (f : Nat) : Nat → Pw → Bool := fun _ x => decide (x.file = f)
theorem cnt_file (f : Nat) : ∀ (l : List Pw) (i : Nat), cntS (ofFile f) i l + (l.filter fun x => !hitP f 0 x).length = l.length := by
  intro l
  induction l with
  | nil => intro i; rfl
  | cons x r ih =>
    intro i
    rw [cntS, List.filter_cons, List.length_cons]
    have := ih (i + 1)
    have he : hitP f 0 x = ofFile f i x := by unfold hitP ofFile; simp
    rw [he]
    cases ofFile f i x
    · simp; omega
    · simp; omega

def settleP (P : Pd) (f : Nat) : Pd := { P with safe := (playS (ofFile f) 0 P.late (P.safe, P.ns)).1, ns := (playS (ofFile f) 0 P.late (P.safe, P.ns)).2, late := P.late.filter fun x => !hitP f 0 x }

/-- The writes are all played, and those of the file wait no more: the disk behind it. -/
theorem settle_end {w w1 w2 : World} {g N bf c1 p1 c2 p2 j f : Nat} {S : Nat → Prop} {P : Pd} {lv : Value} {e : Ending} (h : DiskR w g S P N bf c1 p1 c2 p2 lv) (ha : Apart (two c2 p2) w w1)
    (hs : Side w1 c2 p2 (playS (ofFile f) 0 P.late (P.safe, P.ns)).1 (playS (ofFile f) 0 P.late (P.safe, P.ns)).2 (j + cntS (ofFile f) 0 P.late)) (hj : j + P.late.length ≤ N) (hfg : Forgot g bf c1 p1 c2 p2 f 0 P lv w1 e w2) : Makes g S (settleP P f) N (.tuple #[]) w e w2 := by
  obtain ⟨he, v, hrow, hv, ho, ha2⟩ := hfg
  obtain ⟨i1, i2, i3, i4, i5, i6⟩ := h.ins
  obtain ⟨n1, n2, n3, n4, n5⟩ := h.neg
  obtain ⟨m1, m2, m3, m4⟩ := h.nef
  obtain ⟨q1, q2, q3, q4⟩ := h.nes
  have hcnt := cnt_file f P.late 0
  have hok := playS_ok (sel := ofFile f) P.late 0 (P.safe, P.ns) (m := P.made) ⟨h.fits.safe, fun x hx => (h.fits.fresh x hx).2⟩ h.fits.late
  have hn := playS_n (sel := ofFile f) P.late 0 (P.safe, P.ns) h.fits.late
  have hap1 : Apart S w w1 := ha.mono (by rintro b (rfl | rfl) <;> assumption)
  have hap : Apart S w w2 := hap1.trans (ha2.mono (fun k hk => .inl (hk.elim (fun e => by rw [e]; exact i1) (fun e => h.inl k e))))
  have hb : ∀ b, S b → b ≠ g → (∀ c, lv.ownBlock = some c → b ≠ c) → w2.heap[b]? = w1.heap[b]? := fun b hS h1 h2 => ha2.block b (Nat.lt_of_lt_of_le (h.lt b hS) ha.size) (fun e => e.elim h1 (fun e => h2 b e rfl))
  have hfits : Fits (settleP P f) N := by
    have h0 := h.fits
    refine ⟨h0.top, h0.room, h0.made, h0.acts, h0.fuse, h0.keep, fun x hx => h0.late x (List.mem_filter.1 hx).1, h0.now, hok.len, h0.nns, ?_, h0.files, fun x hx => ⟨(h0.fresh x hx).1, hok.fresh x hx⟩⟩
    have h1 := h0.nss
    have hn : (playS (ofFile f) 0 P.late (P.safe, P.ns)).2 ≤ P.ns + 4097 * cntS (ofFile f) 0 P.late := hn
    show (playS (ofFile f) 0 P.late (P.safe, P.ns)).2 + 4097 * (P.late.filter fun x => !hitP f 0 x).length ≤ 4097 * N
    omega
  have hd := h.turn (P1 := settleP P f) hrow ((hb bf i2 (fun e => n1 e.symm) (fun c hc e => (h.nel c hc).2.1 e.symm)).trans (ha.block bf (h.lt bf i2) (by rintro (e | e); exact m3 e; exact m4 e))) rfl
    ((h.now.apart ha (by rintro (e | e); exact q1 e; exact q2 e) (by rintro (e | e); exact q3 e; exact q4 e)).heap (hb c1 i3 (fun e => n2 e.symm) (fun c hc e => (h.nel c hc).2.2.1 e.symm)) (hb p1 i4 (fun e => n3 e.symm) (fun c hc e => (h.nel c hc).2.2.2.1 e.symm)))
    ⟨_, hs.heap (hb c2 i5 (fun e => n4 e.symm) (fun c hc e => (h.nel c hc).2.2.2.2.1 e.symm)) (hb p2 i6 (fun e => n5 e.symm) (fun c hc e => (h.nel c hc).2.2.2.2.2 e.symm)), by show j + cntS (ofFile f) 0 P.late + (P.late.filter fun x => !hitP f 0 x).length ≤ N; omega⟩ ho hv hfits hap.size
  exact ⟨he, ⟨_, _, _, _, _, _, hd.more (fun _ => .inl) (since_lt h.lt hap.size)⟩, hap⟩

end Go.Proofs.YtkbmajgbhpecgaaGreatDoor.Cd

/-
  settle: a file's writes are safe. Conditions: none.
-/
namespace Go.Proofs.YtkbmajgbhpecgaaGreatDoor.Cd
open Go.RowKit

set_option maxRecDepth 100000 in
set_option maxHeartbeats 4000000 in
theorem settle_any (g N f : Nat) (S : Nat → Prop) (P : Pd) (w : World) (h : Rep w g S P N) (hf : f ≤ P.made) :
    Calls Tryz.prog 89 #[.pointer (some ⟨g, 0, none⟩), .int .i64 f] w (Makes g S (settleP P f) N (.tuple #[]) w) := by
  obtain ⟨bf, c1, p1, c2, p2, lv, h⟩ := h
  have hl : ∀ x ∈ P.late, x.data.length = 512 := fun x hx => (h.fits.late x hx).2.2
  have hlen : P.late.length ≤ 137438953472 := by obtain ⟨_, _, h9⟩ := h.safe; have := h.fits.top; omega
  have hg := h.lt g h.ins.1
  have hneg : ∀ b, lv.ownBlock = some b → b ≠ g := fun b hb => (h.nel b hb).1
  have c7 : w.cell? ⟨g, 7, none⟩ = some lv := cell_of_row _ _ _ _ _ _ h.row
  have hlate := h.late
  obtain ⟨j0, hsf, hj0⟩ := h.safe
  rcases hlate.2 with ⟨rfl, h0⟩ | ⟨b, cap, cur, rfl, _, _, hncap, hcapm, _, _⟩
  · have hnil : P.late = [] := List.eq_nil_of_length_eq_zero h0
    have hfg := forget_core g bf c1 p1 c2 p2 f 0 P (.slice none 0 0) w h.row h.late hl hlen hneg
    have HFG := Lib.hid hfg
    have H := Lib.hid h
    have HN := Lib.hid hnil
    have HSF := Lib.hid hsf
    clear h hfg hsf hlate hl hneg h0 hnil
    go_enter Tryz.func89, Tryz.ntmps89
    go_wp2_with fail
    refine wp_loop_rounds 1 ?_
    rw [rounds_succ]
    go_wp2_with fail
    refine HFG.out.mono ?_
    intro e w2 hfg
    have hend := settle_end H.out (Apart.refl _ _) (j := j0) (by rw [HN.out]; exact HSF.out) hj0 hfg
    have HEND := Lib.hid hend
    obtain rfl := hfg.1
    clear hend hfg
    go_wp2_with fail
    go_end0
    exact HEND.out
  · have hbl := (World.ownsRow.lt hlate b rfl).2
    have hbn := h.nel b rfl
    have H := Lib.hid h
    have HL := Lib.hid hl
    have HAT := Lib.hid (row_at h.late hl rfl)
    have HSF := Lib.hid hsf
    have hneq := h.neg
    have hi5 := h.lt c2 h.ins.2.2.2.2.1
    have hi6 := h.lt p2 h.ins.2.2.2.2.2
    have hns := h.fits.nss
    have htop := h.fits.top
    have hmade := h.fits.made
    clear h hl hsf hlate
    go_enter Tryz.func89, Tryz.ntmps89
    go_wp2_with fail
    go_loopw [11] (fun i wr => ∃ k : Nat, i = .int .i64 k ∧ k ≤ P.late.length ∧ Hid (Side wr c2 p2 (playS (ofFile f) 0 (P.late.take k) (P.safe, P.ns)).1 (playS (ofFile f) 0 (P.late.take k) (P.safe, P.ns)).2 (j0 + cntS (ofFile f) 0 (P.late.take k))) ∧ Hid (Apart (two c2 p2) w wr)) (fun i _ => P.late.length - (intOf i).toNat)
    case atStart => exact ⟨0, rfl, Nat.zero_le _, HSF.out, Apart.refl _ _⟩
    case round =>
      obtain ⟨k, rfl, hk, hsd, ha⟩ := hrel
      have hwsz := ha.out.size
      have hrow1 : Hid (wr.heap[g]? = some (.cells (dcells P bf c1 p1 c2 p2 (.slice (some ⟨b, 0, none⟩) P.late.length cap)) 66)) := (ha.out.block g hg (by rintro (e | e) <;> omega)).trans H.out.row
      by_cases hlt : k < P.late.length
      · have hlt2 : (k : Int) < P.late.length := by omega
        have hra : Hid (wr.rangeAt b (k * 514) (wv P.late[k].file P.late[k].spot P.late[k].data).toList) := fun o v hv => (ha.out.cell (p := ⟨b, k * 514 + o, none⟩) hbl (by rintro (e | e); exact hbn.2.2.2.2.1 e; exact hbn.2.2.2.2.2 e)).trans (HAT.out k hlt o v hv)
        have hlk := HL.out _ (List.getElem_mem hlt)
        have hxok := H.out.fits.late _ (List.getElem_mem hlt)
        have hpt := playS_take (ofFile f) hlt (P.safe, P.ns)
        have hct := cntS_take (ofFile f) hlt
        have hcle := cntS_le (ofFile f) (P.late.take k) 0
        rw [List.length_take] at hcle
        have hok := playS_ok (sel := ofFile f) (P.late.take k) 0 (P.safe, P.ns) (m := P.made) ⟨H.out.fits.safe, fun x hx => (H.out.fits.fresh x hx).2⟩ (fun x hx => H.out.fits.late x (List.mem_of_mem_take hx))
        have hnle : (playS (ofFile f) 0 (P.late.take k) (P.safe, P.ns)).2 ≤ P.ns + 4097 * cntS (ofFile f) 0 (P.late.take k) := playS_n (sel := ofFile f) (P.late.take k) 0 (P.safe, P.ns) (fun x hx => H.out.fits.late x (List.mem_of_mem_take hx))
        have hsel : ofFile f k P.late[k] = decide (P.late[k].file = f) := rfl
        rw [hsel] at hpt hct
        have HPT := Lib.hid hpt
        have HCT := Lib.hid hct
        clear hpt hct hsel
        generalize P.late[k] = x at *
        generalize playS (ofFile f) 0 (P.late.take k) (P.safe, P.ns) = s at *
        have hsz := wv_size x.file x.spot hlk
        obtain ⟨C, hC⟩ : ∃ C, wv x.file x.spot x.data = C := ⟨_, rfl⟩
        have hone : Hid (∀ v ∈ C.toList, v.oneCell' = true) := by rw [← hC]; exact wv_one x.file x.spot x.data
        have h0 : Hid (C[0]? = some (.int .i64 x.file)) := by subst hC; rfl
        have hput : Hid (x.file = f → Calls Tryz.prog 66 #[.agg #[.map (some c2), .map (some p2)], .agg C] (wr.alloc (.cells C 112)).drew (SidePut c2 p2 x.file x.spot x.data s.1 s.2 (j0 + cntS (ofFile f) 0 (P.late.take k)) (wr.alloc (.cells C 112)).drew)) := fun _ => by
          rw [← hC]
          exact sideput_any c2 p2 x.file x.spot x.data s.1 s.2 _ _ (hsd.out.heap (Below.heap_alloc _ _ _ (by omega)) (Below.heap_alloc _ _ _ (by omega))) hlk (by have := hxok.1; unfold lim; omega) (by have := hxok.2.1; omega) (by have := hok.len x.file; omega) (by unfold lim; omega) (by unfold lim; omega)
        rw [hC] at hsz hra
        have hsl : C.toList.length = 514 := by simpa using hsz
        have hst : ∀ w' : World, (storeCells ⟨w'.heap.size, 0, none⟩ C.toList 0).run Tryz.prog (w'.alloc (.cells Tryz.zeroCells112 112)) = .ok () (w'.alloc (.cells C 112)) := fun w' =>
          run_storeCells_new (P := Tryz.prog) w' 112 _ _ (by rw [hsz]; kernel_rfl) (by rw [zero_pw, wv_size _ _ nought_len, hsz]) (by have := all_oneCell_toArray hone.out; simpa using this)
        have hC0 : C[0] = .int .i64 x.file := by have := h0.out; rw [Array.getElem?_eq_getElem (by omega)] at this; injection this
        clear hC
        by_cases hq : x.file = f
        · have hq1 : ((x.file : Int) == (f : Int)) = true := by simp [hq]
          have HPUT := Lib.hid (hput.out hq)
          have hpt2 := HPT.out
          have hct2 := HCT.out
          rw [if_pos (decide_eq_true hq)] at hpt2 hct2
          have HP2 := Lib.hid hpt2
          have HC2 := Lib.hid hct2
          have hh3 : (wr.alloc (.cells C 112)).heap[wr.heap.size]? = some (.cells C 112) ∧ (wr.alloc (.cells C 112)).cell? ⟨g, 5, none⟩ = some (.map (some c2)) ∧ (wr.alloc (.cells C 112)).cell? ⟨g, 6, none⟩ = some (.map (some p2)) :=
            ⟨heap_alloc_new wr _, cell_kept ((Below.refl _ _).alloc (Nat.le_refl _) _) (cell_of_row _ _ _ _ _ _ hrow1.out), cell_kept ((Below.refl _ _).alloc (Nat.le_refl _) _) (cell_of_row _ _ _ _ _ _ hrow1.out)⟩
          clear hq hpt2 hct2 hput
          go_wp2_with (first | (refine wpList_load_mid rfl 112 _ rfl b (k * 514) (by simp [Act.eval]) _ _ hra.out Tryz.underlying112 rfl (by rw [hsl]; kernel_rfl) ?_) | fail)
          refine wp_region_held_drew (S := fun W => W.heap[wr.heap.size]? = some (.cells C 112) ∧ W.cell? ⟨g, 5, none⟩ = some (.map (some c2)) ∧ W.cell? ⟨g, 6, none⟩ = some (.map (some p2))) (by kernel_rfl) hh3 (fun hS => ?_)
          refine wpAnyH_take (i := 4) (v := .agg C) rfl (by kernel_rfl) (by kernel_rfl) (by kernel_rfl) (fun _ _ _ h => h) (yieldsIf_load_pw (by rfl) _ rfl wr.heap.size rfl hsz (fun _ hW => hW.1)) hS ?_
          try simp only [Act.put, List.getElem_toArray, List.getElem_cons_succ, List.getElem_cons_zero, List.setIfInBounds_toArray, List.set_cons_zero, List.set_cons_succ]
          refine wpAnyH_take (i := 0) (v := .pointer (some ⟨g, 0, none⟩)) rfl (by kernel_rfl) (by kernel_rfl) (by kernel_rfl) (fun _ _ _ h => h) (Or.inl ⟨by rfl, fun W hW => by obtain ⟨_, hW3, hW4⟩ := hW; go_simp⟩) hS ?_
          try simp only [Act.put, List.getElem_toArray, List.getElem_cons_zero, List.setIfInBounds_toArray, List.set_cons_zero, List.set_cons_succ]
          refine wpAnyH_take (i := 1) (v := .pointer (some ⟨g, 0, none⟩)) rfl (by kernel_rfl) (by kernel_rfl) (by kernel_rfl) (fun _ _ _ h => h) (Or.inl ⟨by rfl, fun W hW => by obtain ⟨_, hW3, hW4⟩ := hW; go_simp⟩) hS ?_
          try simp only [Act.put, List.getElem_toArray, List.getElem_cons_succ, List.getElem_cons_zero, List.setIfInBounds_toArray, List.set_cons_zero, List.set_cons_succ]
          refine wpAnyH_take (i := 2) (v := .pointer (some ⟨g, 5, none⟩)) rfl (by kernel_rfl) (by kernel_rfl) (by kernel_rfl) (fun _ _ _ h => h) (Or.inl ⟨by rfl, fun W hW => by obtain ⟨_, hW3, hW4⟩ := hW; go_simp⟩) hS ?_
          try simp only [Act.put, List.getElem_toArray, List.getElem_cons_succ, List.getElem_cons_zero, List.setIfInBounds_toArray, List.set_cons_zero, List.set_cons_succ]
          refine wpAnyH_take (i := 3) (v := .agg #[.map (some c2), .map (some p2)]) rfl (by kernel_rfl) (by kernel_rfl) (by kernel_rfl) (fun _ _ _ h => h) (Or.inl ⟨by rfl, fun W hW => by obtain ⟨_, hW3, hW4⟩ := hW; go_simp⟩) hS ?_
          try simp only [Act.put, List.getElem_toArray, List.getElem_cons_succ, List.getElem_cons_zero, List.setIfInBounds_toArray, List.set_cons_zero, List.set_cons_succ]
          refine wpAnyH_ready (rs := [5]) (by kernel_rfl) (by simp) ?_
          refine AllReadyH.cons rfl (fun K hK => ?_) AllReadyH.nil
          rw [if_pos (by rfl)]
          go_simp
          refine HPUT.out.mono ?_
          rintro e w4 ⟨rfl, hsd4, ha4⟩
          have hs4 := ha4.size
          have hh4 : w4.heap[wr.heap.size]? = some (.cells C 112) ∧ w4.cell? ⟨g, 5, none⟩ = some (.map (some c2)) ∧ w4.cell? ⟨g, 6, none⟩ = some (.map (some p2)) := by
            refine ⟨(ha4.block wr.heap.size (by show wr.heap.size < (wr.alloc (.cells C 112)).heap.size; simp) (by rintro (e | e) <;> omega)).trans hh3.1, (ha4.cell (p := ⟨g, 5, none⟩) (by show g < (wr.alloc (.cells C 112)).heap.size; simp; omega) (by rintro (e | e) <;> (have e : g = _ := e; omega))).trans hh3.2.1, (ha4.cell (p := ⟨g, 6, none⟩) (by show g < (wr.alloc (.cells C 112)).heap.size; simp; omega) (by rintro (e | e) <;> (have e : g = _ := e; omega))).trans hh3.2.2⟩
          refine hK.out _ _ hh4 (fun hS4 => ?_)
          refine wpAnyH_done (by kernel_rfl) ?_ _
          try simp only [Act.put, List.getElem_toArray, List.getElem_cons_succ, List.getElem_cons_zero, List.setIfInBounds_toArray, List.set_cons_zero, List.set_cons_succ]
          have HSD4 := Lib.hid hsd4
          have HA4 : Hid (Apart (two c2 p2) w w4) := (ha.out.alloc _).drew.trans (ha4.mono (fun _ => .inl))
          clear hS4 hS hh4 hsd4 ha4 hK K hh3
          go_wp2_with fail
          go_roundw
          case rel => exact ⟨k + 1, by go_num, by omega, (by rw [HP2.out, HC2.out]; exact HSD4.out), HA4.out⟩
          case measure => simp [intOf]; omega
        · have hq1 : ((x.file : Int) == (f : Int)) = false := by simp; omega
          have hpt2 := HPT.out
          have hct2 := HCT.out
          rw [if_neg (by simpa using hq)] at hpt2 hct2
          have HP2 := Lib.hid hpt2
          have HC2 := Lib.hid hct2
          clear hq hpt2 hct2 hput
          go_wp2_with (first | (refine wpList_load_mid rfl 112 _ rfl b (k * 514) (by simp [Act.eval]) _ _ hra.out Tryz.underlying112 rfl (by rw [hsl]; kernel_rfl) ?_) | fail)
          go_roundw
          case rel => exact ⟨k + 1, by go_num, by omega, (by rw [HP2.out, HC2.out]; exact hsd.out.heap (Below.heap_alloc _ _ _ (by omega)) (Below.heap_alloc _ _ _ (by omega))), ha.out.alloc _⟩
          case measure => simp [intOf]; omega
      · have hkl : k = P.late.length := by omega
        have hs2 := hsd.out
        rw [hkl, List.take_of_length_le (Nat.le_refl _)] at hs2
        have hge : (P.late.length : Int) ≤ k := by omega
        have hlate1 := row_kept (w' := wr) H.out.late (fun c hc => by injection hc with hc; rw [← hc]; exact ha.out.block b hbl (by rintro (e | e); exact hbn.2.2.2.2.1 e; exact hbn.2.2.2.2.2 e))
        have hfg := forget_core g bf c1 p1 c2 p2 f 0 P _ wr hrow1.out hlate1 HL.out hlen hneg
        have HFG := Lib.hid hfg
        have HS2 := Lib.hid hs2
        clear hfg hs2 hlate1 hkl
        go_wp2_with fail
        refine HFG.out.mono ?_
        intro e w2 hfg
        have hend := settle_end H.out ha.out HS2.out hj0 hfg
        have HEND := Lib.hid hend
        obtain rfl := hfg.1
        clear hend hfg
        go_wp2_with fail
        go_end0
        exact HEND.out

end Go.Proofs.YtkbmajgbhpecgaaGreatDoor.Cd

/-
  A side that is new; maps.Clone. Conditions: none.
-/
namespace Go.Proofs.YtkbmajgbhpecgaaGreatDoor.Cd
open Go.RowKit

/-- What blank leaves. -/
def Blank (w : World) (e : Ending) (w' : World) : Prop :=
  ∃ bc bp, e = .returned (.agg #[.map (some bc), .map (some bp)]) ∧ Side w' bc bp (fun _ => []) 0 0 ∧ w.heap.size ≤ bc ∧ w.heap.size ≤ bp ∧ Below w.heap.size w w'

theorem lst_nil : lst (fun _ => []) = fun _ => none := by
  funext x
  unfold lst
  split <;> simp

set_option maxRecDepth 100000 in
set_option maxHeartbeats 800000 in
theorem blank_any (w : World) : Calls Tryz.prog 28 #[] w (Blank w) := by
  have hmm := @run_makeMap Tryz.prog
  go_enter Tryz.func28, Tryz.ntmps28
  go_wp2_with fail
  have hA := asz w (.cells #[.map (some (w.heap.size + 1)), .map (some (w.heap.size + 1 + 1))] 62)
  have h1 := MapF.made cntK (w.alloc (.cells #[.map (some (w.heap.size + 1)), .map (some (w.heap.size + 1 + 1))] 62))
  have h2 := MapF.made pgK ((w.alloc (.cells #[.map (some (w.heap.size + 1)), .map (some (w.heap.size + 1 + 1))] 62)).alloc (.map #[] 0))
  rw [hA] at h1
  rw [asz, hA] at h2
  have hB : Below w.heap.size w (((w.alloc (.cells #[.map (some (w.heap.size + 1)), .map (some (w.heap.size + 1 + 1))] 62)).alloc (.map #[] 0)).alloc (.map #[] 0)) :=
    (((Below.refl _ _).alloc (Nat.le_refl _) _).alloc (by simp) _).alloc (by simp; omega) _
  exact bodyPost_ret (v := .agg #[.map (some (w.heap.size + 1)), .map (some (w.heap.size + 1 + 1))]) (by simp [results, Tryz.results28, go_sem]) rfl
    ⟨_, _, rfl, ⟨⟨_, 0, h1.alloc _, Nat.le_refl _, fun _ _ => rfl⟩, by rw [lst_nil]; exact h2, by omega⟩, by omega, by omega, hB⟩

/-! ### maps.Clone -/

set_option maxRecDepth 100000 in
set_option maxHeartbeats 2000000 in
theorem clone_cnt (b n : Nat) (q : Nat → Option Nat) (w : World) (h : MapF cntK w b n q) :
    Calls Tryz.prog 91 #[.map (some b)] w fun e w' => e = .returned (.map (some w.heap.size)) ∧ MapF cntK w' w.heap.size n q ∧ Below w.heap.size w w' := by
  obtain ⟨D, ⟨es, clock, hb, hF⟩, hD⟩ := h
  have hq := fun w => run_eql_map_nil_sl (P := Tryz.prog) w 59 _ _ (some b) Tryz.underlying59
  go_enter Tryz.func91, Tryz.ntmps91
  go_wp2_with fail
  rw [run_callFunc_extern Tryz.func116 (by kernel_rfl) (by kernel_rfl) (by kernel_rfl) (e := Extern.MapsClone.clone) (by kernel_rfl), run_maps_clone_sl w 59 hb]
  simp only [Result.andThen]
  rw [Oper.upon_value]
  go_wp2_with fail
  rw [run_typeAssert_map_sl _ 59 20 _ _ _ Tryz.underlying59]
  simp only [Result.andThen]
  rw [Oper.upon_value]
  go_wp2_with fail
  go_ret
  exact ⟨rfl, ⟨D, ⟨es, clock, heap_alloc_new _ _, hF⟩, hD⟩, (Below.refl _ w).alloc (Nat.le_refl _) _⟩

set_option maxRecDepth 100000 in
set_option maxHeartbeats 2000000 in
theorem clone_pgs (b n : Nat) (q : Nat × Int → Option (List UInt8)) (w : World) (h : MapF pgK w b n q) :
    Calls Tryz.prog 92 #[.map (some b)] w fun e w' => e = .returned (.map (some w.heap.size)) ∧ MapF pgK w' w.heap.size n q ∧ Below w.heap.size w w' := by
  obtain ⟨D, ⟨es, clock, hb, hF⟩, hD⟩ := h
  have hq := fun w => run_eql_map_nil_sl (P := Tryz.prog) w 60 _ _ (some b) Tryz.underlying60
  go_enter Tryz.func92, Tryz.ntmps92
  go_wp2_with fail
  rw [run_callFunc_extern Tryz.func116 (by kernel_rfl) (by kernel_rfl) (by kernel_rfl) (e := Extern.MapsClone.clone) (by kernel_rfl), run_maps_clone_sl w 60 hb]
  simp only [Result.andThen]
  rw [Oper.upon_value]
  go_wp2_with fail
  rw [run_typeAssert_map_sl _ 60 20 _ _ _ Tryz.underlying60]
  simp only [Result.andThen]
  rw [Oper.upon_value]
  go_wp2_with fail
  go_ret
  exact ⟨rfl, ⟨D, ⟨es, clock, heap_alloc_new _ _, hF⟩, hD⟩, (Below.refl _ w).alloc (Nat.le_refl _) _⟩

end Go.Proofs.YtkbmajgbhpecgaaGreatDoor.Cd

/-
  A side's twin. Conditions: none.
-/
namespace Go.Proofs.YtkbmajgbhpecgaaGreatDoor.Cd
open Go.RowKit

/-- What twin leaves. -/
def Twin (pg : Pages) (n k : Nat) (w : World) (e : Ending) (w' : World) : Prop :=
  ∃ bc bp, e = .returned (.agg #[.map (some bc), .map (some bp)]) ∧ Side w' bc bp pg n k ∧ w.heap.size ≤ bc ∧ w.heap.size ≤ bp ∧ Below w.heap.size w w'

set_option maxRecDepth 100000 in
set_option maxHeartbeats 2000000 in
theorem twin_any (bc bp : Nat) (pg : Pages) (n k : Nat) (w : World) (h : Side w bc bp pg n k) :
    Calls Tryz.prog 67 #[.agg #[.map (some bc), .map (some bp)]] w (Twin pg n k w) := by
  have hlt := h.lt
  obtain ⟨⟨q, j0, hcnt, hjk, hq⟩, hpg, hne⟩ := h
  have HC := Lib.hid hcnt
  have HP := Lib.hid hpg
  have HQ := Lib.hid hq
  clear hcnt hpg hq
  go_enter Tryz.func67, Tryz.ntmps67
  go_wp2_with fail
  have hA : Apart (fun _ => False) w ((w.alloc (.cells #[.map (some bc), .map (some bp)] 62)).alloc (.cells #[.map none, .map none] 62)) := ((Apart.refl _ w).alloc _).alloc _
  have hs2 : ((w.alloc (.cells #[.map (some bc), .map (some bp)] 62)).alloc (.cells #[.map none, .map none] 62)).heap.size = w.heap.size + 2 := by simp
  have hc : ((w.alloc (.cells #[.map (some bc), .map (some bp)] 62)).alloc (.cells #[.map none, .map none] 62)).cell? ⟨w.heap.size, 0, none⟩ = some (.map (some bc)) ∧
      ((w.alloc (.cells #[.map (some bc), .map (some bp)] 62)).alloc (.cells #[.map none, .map none] 62)).cell? ⟨w.heap.size, 1, none⟩ = some (.map (some bp)) :=
    ⟨cell_of_row _ _ _ _ _ _ (heap_alloc2_old w _ _), cell_of_row _ _ _ _ _ _ (heap_alloc2_old w _ _)⟩
  have hr : ((w.alloc (.cells #[.map (some bc), .map (some bp)] 62)).alloc (.cells #[.map none, .map none] 62)).heap[w.heap.size + 1]? = some (.cells #[.map none, .map none] 62) := heap_alloc2_new w _ _
  generalize (w.alloc (.cells #[.map (some bc), .map (some bp)] 62)).alloc (.cells #[.map none, .map none] 62) = w2 at *
  have HA := Lib.hid hA
  have HR := Lib.hid hr
  clear hA hr
  go_region_held3 (fun W => W.cell? ⟨w.heap.size, 0, none⟩ = some (.map (some bc)) ∧ W.cell? ⟨w.heap.size, 1, none⟩ = some (.map (some bp))) (first | exact hc | exact d1 | exact d2 | (simp; exact hc) | simp [hc] | (refine ⟨?_, ?_⟩ <;> (rw [World.cell?_setCell_other _ _ _ _ (by simp), World.cell?_setCell_other _ _ _ _ (by simp)]; first | exact d2.1 | exact d2.2))) (first
    | (go_at_call 91; refine (clone_cnt bc j0 q w2.drew (HC.out.apart HA.out.drew (by simp))).mono ?_; rintro e v1 ⟨rfl, hm1, hb1⟩; have d1 : v1.cell? ⟨w.heap.size, 0, none⟩ = some (.map (some bc)) ∧ v1.cell? ⟨w.heap.size, 1, none⟩ = some (.map (some bp)) := ⟨(hb1.cell (by show w.heap.size < w2.heap.size; omega)).trans hc.1, (hb1.cell (by show w.heap.size < w2.heap.size; omega)).trans hc.2⟩)
    | (go_at_call 92; refine (clone_pgs bp n (lst pg) v1 (HP.out.apart (HA.out.drew.trans (.below hb1)) (fun e => e))).mono ?_; rintro e v2 ⟨rfl, hm2, hb2⟩; have d2 : v2.cell? ⟨w.heap.size, 0, none⟩ = some (.map (some bc)) ∧ v2.cell? ⟨w.heap.size, 1, none⟩ = some (.map (some bp)) := ⟨(hb2.cell (by have := hb1.size; show w.heap.size < v1.heap.size; have h9 : w2.drew.heap.size = w2.heap.size := rfl; omega)).trans d1.1, (hb2.cell (by have := hb1.size; show w.heap.size < v1.heap.size; have h9 : w2.drew.heap.size = w2.heap.size := rfl; omega)).trans d1.2⟩; have hr9 : v2.heap[w.heap.size + 1]? = some (.cells #[.map none, .map none] 62) := (hb2.block _ (by have := hb1.size; have h9 : w2.drew.heap.size = w2.heap.size := rfl; omega)).trans ((hb1.block _ (by have h9 : w2.drew.heap.size = w2.heap.size := rfl; omega)).trans HR.out); have HR9 := Lib.hid hr9; clear hr9; have s0 : v2.cell? ⟨w.heap.size + 1, 0, none⟩ = some (.map none) := cell_of_row _ _ _ _ _ _ HR9.out; have s1 : v2.cell? ⟨w.heap.size + 1, 1, none⟩ = some (.map none) := cell_of_row _ _ _ _ _ _ HR9.out; have z0 : v2.frozen? ⟨w.heap.size + 1, 0, none⟩ = false := (by simp [World.frozen?, HR9.out]); have z1 : v2.frozen? ⟨w.heap.size + 1, 1, none⟩ = false := (by simp [World.frozen?, HR9.out])))
  all_goals
    go_wp2_with fail
    have hb1s := hb1.size
    have hb2s := hb2.size
    have hlt1 := hm1.lt
    have hdr : w2.drew.heap.size = w.heap.size + 2 := hs2
    have hrow := heap_setCell_same _ _ 1 _ _ (.map (some v1.heap.size)) (heap_setCell_same _ _ 0 _ _ (.map (some (w.heap.size + 2))) HR9.out)
    have hcn : MapF cntK ((v2.setCell ⟨w.heap.size + 1, 0, none⟩ (.map (some (w.heap.size + 2)))).setCell ⟨w.heap.size + 1, 1, none⟩ (.map (some v1.heap.size))) (w.heap.size + 2) j0 q := by
      have h5 := hm1
      rw [hdr] at h5
      exact ((h5.below hb2 (by omega)).setCell (by simp) _).setCell (by simp) _
    have hpn : MapF pgK ((v2.setCell ⟨w.heap.size + 1, 0, none⟩ (.map (some (w.heap.size + 2)))).setCell ⟨w.heap.size + 1, 1, none⟩ (.map (some v1.heap.size))) v1.heap.size n (lst pg) :=
      (hm2.setCell (by simp; omega) _).setCell (by simp; omega) _
    have hB : Below w.heap.size w ((v2.setCell ⟨w.heap.size + 1, 0, none⟩ (.map (some (w.heap.size + 2)))).setCell ⟨w.heap.size + 1, 1, none⟩ (.map (some v1.heap.size))) :=
      (((HA.out.drew.low (B := w.heap.size) (Nat.le_refl _) (fun _ e => e.elim)).trans ((hb1.mono (by omega)).trans (hb2.mono (by omega)))).setCell (by simp) _).setCell (by simp) _
    exact bodyPost_ret (results_cell_row rfl _ _ _ _ _ _ _ rfl hrow Tryz.underlying62 rfl (by kernel_rfl)) rfl
      ⟨_, _, rfl, ⟨⟨q, j0, hcn, hjk, HQ.out⟩, hpn, by omega⟩, by omega, by omega, hB⟩

end Go.Proofs.YtkbmajgbhpecgaaGreatDoor.Cd

/-
  lose: the power goes. Conditions: none.
-/
namespace Go.Proofs.YtkbmajgbhpecgaaGreatDoor.Cd
open Go.RowKit

/-- Those that are kept. -/
def keepSel (keep : Nat) : Nat → Pw → Bool := fun i _ => keepBit keep i
def loseP (P : Pd) (keep : Nat) : Pd :=
  { P with now := (playS (keepSel keep) 0 P.late (P.safe, P.ns)).1, nn := (playS (keepSel keep) 0 P.late (P.safe, P.ns)).2, safe := (playS (keepSel keep) 0 P.late (P.safe, P.ns)).1, ns := (playS (keepSel keep) 0 P.late (P.safe, P.ns)).2, late := [], off := true, fuse := 0 }

theorem loseP_fits {P : Pd} {N keep : Nat} (h : Fits P N) (hr : (playS (keepSel keep) 0 P.late (P.safe, P.ns)).2 ≤ P.room) : Fits (loseP P keep) N := by
  have hok := playS_ok (sel := keepSel keep) P.late 0 (P.safe, P.ns) (m := P.made) ⟨h.safe, fun x hx => (h.fresh x hx).2⟩ h.late
  have hn : (playS (keepSel keep) 0 P.late (P.safe, P.ns)).2 ≤ P.ns + 4097 * cntS (keepSel keep) 0 P.late := playS_n (sel := keepSel keep) P.late 0 (P.safe, P.ns) h.late
  have hc := cntS_le (keepSel keep) P.late 0
  have hs := h.nss
  refine ⟨h.top, h.room, h.made, h.acts, Nat.zero_le _, h.keep, fun x hx => by simp [loseP] at hx, hok.len, hok.len, hr, ?_, h.files, fun x hx => ⟨hok.fresh x hx, hok.fresh x hx⟩⟩
  show (playS (keepSel keep) 0 P.late (P.safe, P.ns)).2 + 4097 * ([] : List Pw).length ≤ _
  simp only [List.length_nil]
  omega

/-- The fields that are written when the power goes. -/
def lostW (w : World) (g c p : Nat) : World :=
  ((((w.setCell ⟨g, 3, none⟩ (.map (some c))).setCell ⟨g, 4, none⟩ (.map (some p))).setCell ⟨g, 7, none⟩ (.slice none 0 0)).setCell ⟨g, 8, none⟩ (.bool true)).setCell ⟨g, 10, none⟩ (.int .i64 0)
theorem lostW_other (w : World) (g c p b : Nat) (h : b ≠ g) : (lostW w g c p).heap[b]? = w.heap[b]? := by
  unfold lostW
  rw [heap_setCell_other _ _ _ _ h, heap_setCell_other _ _ _ _ h, heap_setCell_other _ _ _ _ h, heap_setCell_other _ _ _ _ h, heap_setCell_other _ _ _ _ h]
theorem lostW_size (w : World) (g c p : Nat) : (lostW w g c p).heap.size = w.heap.size := by simp [lostW]

theorem lose_end {w w1 w2 : World} {g N bf c1 p1 c2 p2 j keep c p : Nat} {S : Nat → Prop} {P : Pd} {lv : Value} (h : DiskR w g S P N bf c1 p1 c2 p2 lv) (ha : Apart (two c2 p2) w w1)
    (hs : Side w1 c2 p2 (playS (keepSel keep) 0 P.late (P.safe, P.ns)).1 (playS (keepSel keep) 0 P.late (P.safe, P.ns)).2 (j + cntS (keepSel keep) 0 P.late)) (hj : j + P.late.length ≤ N) (hr : (playS (keepSel keep) 0 P.late (P.safe, P.ns)).2 ≤ P.room)
    (hb : Below w1.heap.size w1 w2) (ht : Side w2 c p (playS (keepSel keep) 0 P.late (P.safe, P.ns)).1 (playS (keepSel keep) 0 P.late (P.safe, P.ns)).2 (j + cntS (keepSel keep) 0 P.late)) (hc : w1.heap.size ≤ c) (hp : w1.heap.size ≤ p) :
    Makes g S (loseP P keep) N (.tuple #[]) w (.returned (.tuple #[])) (lostW w2 g c p) := by
  obtain ⟨i1, i2, i3, i4, i5, i6⟩ := h.ins
  obtain ⟨n1, n2, n3, n4, n5⟩ := h.neg
  obtain ⟨m1, m2, m3, m4⟩ := h.nef
  obtain ⟨q1, q2, q3, q4⟩ := h.nes
  have hcl := cntS_le (keepSel keep) P.late 0
  have l1 := h.lt g i1
  have l2 := h.lt bf i2
  have l5 := h.lt c2 i5
  have l6 := h.lt p2 i6
  have s1 := ha.size
  have s2 := hb.size
  have ltc := ht.lt
  have hap : Apart S w (lostW w2 g c p) := by
    have h1 : Apart S w w2 := (ha.mono (by rintro b (rfl | rfl) <;> assumption)).trans (.below hb)
    exact apart_setCell (apart_setCell (apart_setCell (apart_setCell (apart_setCell h1 i1 _) i1 _) i1 _) i1 _) i1 _
  have hrow : w2.heap[g]? = some (.cells (dcells P bf c1 p1 c2 p2 lv) 66) := (hb.block g (by omega)).trans ((ha.block g l1 (by rintro (e | e); exact n4 e; exact n5 e)).trans h.row)
  obtain ⟨n, hfl, hn⟩ := h.fil
  have hrow2 : (lostW w2 g c p).heap[g]? = some (.cells (dcells (loseP P keep) bf c p c2 p2 (.slice none 0 0)) 66) :=
    heap_setCell_same _ g 10 _ _ _ (heap_setCell_same _ g 8 _ _ _ (heap_setCell_same _ g 7 _ _ _ (heap_setCell_same _ g 4 _ _ _ (heap_setCell_same w2 g 3 _ _ (.map (some c)) hrow))))
  have hd : DiskR (lostW w2 g c p) g (since S w (lostW w2 g c p)) (loseP P keep) N bf c p c2 p2 (.slice none 0 0) := by
    refine ⟨loseP_fits h.fits hr, hrow2, ⟨n, ?_, hn⟩, ?_, ⟨_, ?_, by show j + cntS (keepSel keep) 0 P.late + ([] : List Pw).length ≤ N; simp only [List.length_nil]; omega⟩, World.ownsRow_nil _ _ _ _, ⟨n1, by omega, by omega, n4, n5⟩, ⟨by omega, by omega, m3, m4⟩, ⟨by omega, by omega, by omega, by omega⟩, (fun b hb => by cases hb), ⟨.inl i1, .inl i2, .inr ⟨by omega, by rw [lostW_size]; omega⟩, .inr ⟨by omega, by rw [lostW_size]; omega⟩, .inl i5, .inl i6⟩, (fun b hb => by cases hb), since_lt h.lt hap.size⟩
    · exact hfl.heap ((lostW_other _ _ _ _ _ (fun e => n1 e.symm)).trans ((hb.block bf (by omega)).trans (ha.block bf l2 (by rintro (e | e); exact m3 e; exact m4 e))))
    · exact (ht.heap (lostW_other _ _ _ _ _ (by omega)) (lostW_other _ _ _ _ _ (by omega))).mono (by omega)
    · exact (hs.below hb (by omega) (by omega)).heap (lostW_other _ _ _ _ _ (fun e => n4 e.symm)) (lostW_other _ _ _ _ _ (fun e => n5 e.symm))
  exact ⟨rfl, ⟨_, _, _, _, _, _, hd⟩, hap⟩

theorem bit_is (keep k : Nat) (hk : keep < 18446744073709551616) : (bits BinOp.and IntKind.u64 ((keep : Int) / 2 ^ (k % 64)) 1 == 1) = keepBit keep k := by
  have h1 : ((keep : Int) / 2 ^ (k % 64)) = ((keep / 2 ^ (k % 64) : Nat) : Int) := by
    rw [Int.natCast_ediv, Int.natCast_pow]
    rfl
  have h2 : keep / 2 ^ (k % 64) < 18446744073709551616 := Nat.lt_of_le_of_lt (Nat.div_le_self _ _) hk
  rw [h1]
  unfold keepBit
  generalize keep / 2 ^ (k % 64) = x at *
  rw [and_one_u64 _ (by omega) (by omega)]
  by_cases h : x % 2 = 1
  · have : ((x : Int) % 2) = 1 := by omega
    simp [h, this]
  · have h0 : x % 2 = 0 := by omega
    have : ((x : Int) % 2) = 0 := by omega
    simp [h0, this]
theorem bit_on {keep k : Nat} (hk : keep < 18446744073709551616) (h : keepBit keep k = true) : (bits BinOp.and IntKind.u64 ((keep : Int) / 2 ^ (k % 64)) 1 == 1) = true := by rw [bit_is keep k hk, h]
theorem bit_off {keep k : Nat} (hk : keep < 18446744073709551616) (h : ¬ keepBit keep k = true) : (bits BinOp.and IntKind.u64 ((keep : Int) / 2 ^ (k % 64)) 1 == 1) = false := by
  rw [bit_is keep k hk]
  cases hb : keepBit keep k
  · rfl
  · exact absurd hb h

set_option maxRecDepth 100000 in
set_option maxHeartbeats 4000000 in
theorem lose_any (g N keep : Nat) (S : Nat → Prop) (P : Pd) (w : World) (h : Rep w g S P N) (hkeep : keep < 18446744073709551616) (hr : (playS (keepSel keep) 0 P.late (P.safe, P.ns)).2 ≤ P.room) :
    Calls Tryz.prog 41 #[.pointer (some ⟨g, 0, none⟩), .int .u64 keep] w (Makes g S (loseP P keep) N (.tuple #[]) w) := by
  obtain ⟨bf, c1, p1, c2, p2, lv, h⟩ := h
  have hl : ∀ x ∈ P.late, x.data.length = 512 := fun x hx => (h.fits.late x hx).2.2
  have hlen : P.late.length ≤ 137438953472 := by obtain ⟨_, _, h9⟩ := h.safe; have := h.fits.top; omega
  have hg := h.lt g h.ins.1
  have hneg : ∀ b, lv.ownBlock = some b → b ≠ g := fun b hb => (h.nel b hb).1
  have c7 : w.cell? ⟨g, 7, none⟩ = some lv := cell_of_row _ _ _ _ _ _ h.row
  have hlate := h.late
  obtain ⟨j0, hsf, hj0⟩ := h.safe
  rcases hlate.2 with ⟨rfl, h0⟩ | ⟨b, cap, cur, rfl, _, _, hncap, hcapm, _, _⟩
  · have hnil : P.late = [] := List.eq_nil_of_length_eq_zero h0
    have hneq := h.neg
    have hi5 := h.lt c2 h.ins.2.2.2.2.1
    have hi6 := h.lt p2 h.ins.2.2.2.2.2
    have hs0 : Side w c2 p2 (playS (keepSel keep) 0 P.late (P.safe, P.ns)).1 (playS (keepSel keep) 0 P.late (P.safe, P.ns)).2 (j0 + cntS (keepSel keep) 0 P.late) := by rw [hnil]; exact hsf
    have htw := twin_any c2 p2 _ _ _ w hs0
    have HTW := Lib.hid htw
    have H := Lib.hid h
    have HS0 := Lib.hid hs0
    have d5 : w.cell? ⟨g, 5, none⟩ = some (.map (some c2)) := cell_of_row _ _ _ _ _ _ h.row
    have d6 : w.cell? ⟨g, 6, none⟩ = some (.map (some p2)) := cell_of_row _ _ _ _ _ _ h.row
    clear h htw hsf hlate hl hneg h0 hnil hs0
    go_enter Tryz.func41, Tryz.ntmps41
    go_wp2_with fail
    refine wp_loop_rounds 1 ?_
    rw [rounds_succ]
    go_wp2_with fail
    refine HTW.out.mono ?_
    rintro e w2 ⟨c, p, rfl, htt, hc, hp, hb⟩
    have hend := lose_end H.out (Apart.refl _ _) HS0.out hj0 hr hb htt hc hp
    have HEND := Lib.hid hend
    have hrow2 : w2.heap[g]? = some (.cells (dcells P bf c1 p1 c2 p2 (.slice none 0 0)) 66) := (hb.block g hg).trans H.out.row
    have z : ∀ k, w2.frozen? ⟨g, k, none⟩ = false := fun k => by simp [World.frozen?, hrow2]
    have x3 : w2.cell? ⟨g, 3, none⟩ = some (.map (some c1)) := cell_of_row _ _ _ _ _ _ hrow2
    have x4 : w2.cell? ⟨g, 4, none⟩ = some (.map (some p1)) := cell_of_row _ _ _ _ _ _ hrow2
    have x7 : w2.cell? ⟨g, 7, none⟩ = some (.slice none 0 0) := cell_of_row _ _ _ _ _ _ hrow2
    have x8 : w2.cell? ⟨g, 8, none⟩ = some (.bool P.off) := cell_of_row _ _ _ _ _ _ hrow2
    have x10 : w2.cell? ⟨g, 10, none⟩ = some (.int .i64 P.fuse) := cell_of_row _ _ _ _ _ _ hrow2
    have z3 := z 3
    have z4 := z 4
    have z7 := z 7
    have z8 := z 8
    have z10 := z 10
    clear hend htt hc hp hb hrow2 z
    go_wp2_with fail
    go_end0
    exact HEND.out
  · have hbl := (World.ownsRow.lt hlate b rfl).2
    have hbn := h.nel b rfl
    have H := Lib.hid h
    have HL := Lib.hid hl
    have HAT := Lib.hid (row_at h.late hl rfl)
    have HSF := Lib.hid hsf
    have hneq := h.neg
    have hi5 := h.lt c2 h.ins.2.2.2.2.1
    have hi6 := h.lt p2 h.ins.2.2.2.2.2
    have hns := h.fits.nss
    have htop := h.fits.top
    have hmade := h.fits.made
    clear h hl hsf hlate
    go_enter Tryz.func41, Tryz.ntmps41
    go_wp2_with fail
    go_loopw [11] (fun i wr => ∃ k : Nat, i = .int .i64 k ∧ k ≤ P.late.length ∧ Hid (Side wr c2 p2 (playS (keepSel keep) 0 (P.late.take k) (P.safe, P.ns)).1 (playS (keepSel keep) 0 (P.late.take k) (P.safe, P.ns)).2 (j0 + cntS (keepSel keep) 0 (P.late.take k))) ∧ Hid (Apart (two c2 p2) w wr)) (fun i _ => P.late.length - (intOf i).toNat)
    case atStart => exact ⟨0, rfl, Nat.zero_le _, HSF.out, Apart.refl _ _⟩
    case round =>
      obtain ⟨k, rfl, hk, hsd, ha⟩ := hrel
      have hwsz := ha.out.size
      have hrow1 : Hid (wr.heap[g]? = some (.cells (dcells P bf c1 p1 c2 p2 (.slice (some ⟨b, 0, none⟩) P.late.length cap)) 66)) := (ha.out.block g hg (by rintro (e | e) <;> omega)).trans H.out.row
      by_cases hlt : k < P.late.length
      · have hlt2 : (k : Int) < P.late.length := by omega
        have hra : Hid (wr.rangeAt b (k * 514) (wv P.late[k].file P.late[k].spot P.late[k].data).toList) := fun o v hv => (ha.out.cell (p := ⟨b, k * 514 + o, none⟩) hbl (by rintro (e | e); exact hbn.2.2.2.2.1 e; exact hbn.2.2.2.2.2 e)).trans (HAT.out k hlt o v hv)
        have hlk := HL.out _ (List.getElem_mem hlt)
        have hxok := H.out.fits.late _ (List.getElem_mem hlt)
        have hpt := playS_take (keepSel keep) hlt (P.safe, P.ns)
        have hct := cntS_take (keepSel keep) hlt
        have hcle := cntS_le (keepSel keep) (P.late.take k) 0
        rw [List.length_take] at hcle
        have hok := playS_ok (sel := keepSel keep) (P.late.take k) 0 (P.safe, P.ns) (m := P.made) ⟨H.out.fits.safe, fun x hx => (H.out.fits.fresh x hx).2⟩ (fun x hx => H.out.fits.late x (List.mem_of_mem_take hx))
        have hnle : (playS (keepSel keep) 0 (P.late.take k) (P.safe, P.ns)).2 ≤ P.ns + 4097 * cntS (keepSel keep) 0 (P.late.take k) := playS_n (sel := keepSel keep) (P.late.take k) 0 (P.safe, P.ns) (fun x hx => H.out.fits.late x (List.mem_of_mem_take hx))
        have hsel : keepSel keep k P.late[k] = keepBit keep k := rfl
        rw [hsel] at hpt hct
        have HPT := Lib.hid hpt
        have HCT := Lib.hid hct
        clear hpt hct hsel
        generalize P.late[k] = x at *
        generalize playS (keepSel keep) 0 (P.late.take k) (P.safe, P.ns) = s at *
        have hsz := wv_size x.file x.spot hlk
        obtain ⟨C, hC⟩ : ∃ C, wv x.file x.spot x.data = C := ⟨_, rfl⟩
        have hone : Hid (∀ v ∈ C.toList, v.oneCell' = true) := by rw [← hC]; exact wv_one x.file x.spot x.data
        have h0 : Hid (C[0]? = some (.int .i64 x.file)) := by subst hC; rfl
        have hput : Hid (Calls Tryz.prog 66 #[.agg #[.map (some c2), .map (some p2)], .agg C] (wr.alloc (.cells C 112)).drew (SidePut c2 p2 x.file x.spot x.data s.1 s.2 (j0 + cntS (keepSel keep) 0 (P.late.take k)) (wr.alloc (.cells C 112)).drew)) := by
          rw [← hC]
          exact sideput_any c2 p2 x.file x.spot x.data s.1 s.2 _ _ (hsd.out.heap (Below.heap_alloc _ _ _ (by omega)) (Below.heap_alloc _ _ _ (by omega))) hlk (by have := hxok.1; unfold lim; omega) (by have := hxok.2.1; omega) (by have := hok.len x.file; omega) (by unfold lim; omega) (by unfold lim; omega)
        rw [hC] at hsz hra
        have hsl : C.toList.length = 514 := by simpa using hsz
        have hst : ∀ w' : World, (storeCells ⟨w'.heap.size, 0, none⟩ C.toList 0).run Tryz.prog (w'.alloc (.cells Tryz.zeroCells112 112)) = .ok () (w'.alloc (.cells C 112)) := fun w' =>
          run_storeCells_new (P := Tryz.prog) w' 112 _ _ (by rw [hsz]; kernel_rfl) (by rw [zero_pw, wv_size _ _ nought_len, hsz]) (by have := all_oneCell_toArray hone.out; simpa using this)
        clear hC
        by_cases hq : keepBit keep k = true
        · have hq1 := bit_on hkeep hq
          have HPUT := Lib.hid hput.out
          have hpt2 := HPT.out
          have hct2 := HCT.out
          rw [if_pos hq] at hpt2 hct2
          have HP2 := Lib.hid hpt2
          have HC2 := Lib.hid hct2
          have hh3 : (wr.alloc (.cells C 112)).heap[wr.heap.size]? = some (.cells C 112) ∧ (wr.alloc (.cells C 112)).cell? ⟨g, 5, none⟩ = some (.map (some c2)) ∧ (wr.alloc (.cells C 112)).cell? ⟨g, 6, none⟩ = some (.map (some p2)) :=
            ⟨heap_alloc_new wr _, cell_kept ((Below.refl _ _).alloc (Nat.le_refl _) _) (cell_of_row _ _ _ _ _ _ hrow1.out), cell_kept ((Below.refl _ _).alloc (Nat.le_refl _) _) (cell_of_row _ _ _ _ _ _ hrow1.out)⟩
          clear hq hpt2 hct2 hput
          go_wp2_with (first | (refine wpList_load_mid rfl 112 _ rfl b (k * 514) (by simp [Act.eval]) _ _ hra.out Tryz.underlying112 rfl (by rw [hsl]; kernel_rfl) ?_) | fail)
          refine wp_region_held_drew (S := fun W => W.heap[wr.heap.size]? = some (.cells C 112) ∧ W.cell? ⟨g, 5, none⟩ = some (.map (some c2)) ∧ W.cell? ⟨g, 6, none⟩ = some (.map (some p2))) (by kernel_rfl) hh3 (fun hS => ?_)
          refine wpAnyH_take (i := 4) (v := .agg C) rfl (by kernel_rfl) (by kernel_rfl) (by kernel_rfl) (fun _ _ _ h => h) (yieldsIf_load_pw (by rfl) _ rfl wr.heap.size rfl hsz (fun _ hW => hW.1)) hS ?_
          try simp only [Act.put, List.getElem_toArray, List.getElem_cons_succ, List.getElem_cons_zero, List.setIfInBounds_toArray, List.set_cons_zero, List.set_cons_succ]
          refine wpAnyH_take (i := 0) (v := .pointer (some ⟨g, 0, none⟩)) rfl (by kernel_rfl) (by kernel_rfl) (by kernel_rfl) (fun _ _ _ h => h) (Or.inl ⟨by rfl, fun W hW => by obtain ⟨_, hW3, hW4⟩ := hW; go_simp⟩) hS ?_
          try simp only [Act.put, List.getElem_toArray, List.getElem_cons_zero, List.setIfInBounds_toArray, List.set_cons_zero, List.set_cons_succ]
          refine wpAnyH_take (i := 1) (v := .pointer (some ⟨g, 0, none⟩)) rfl (by kernel_rfl) (by kernel_rfl) (by kernel_rfl) (fun _ _ _ h => h) (Or.inl ⟨by rfl, fun W hW => by obtain ⟨_, hW3, hW4⟩ := hW; go_simp⟩) hS ?_
          try simp only [Act.put, List.getElem_toArray, List.getElem_cons_succ, List.getElem_cons_zero, List.setIfInBounds_toArray, List.set_cons_zero, List.set_cons_succ]
          refine wpAnyH_take (i := 2) (v := .pointer (some ⟨g, 5, none⟩)) rfl (by kernel_rfl) (by kernel_rfl) (by kernel_rfl) (fun _ _ _ h => h) (Or.inl ⟨by rfl, fun W hW => by obtain ⟨_, hW3, hW4⟩ := hW; go_simp⟩) hS ?_
          try simp only [Act.put, List.getElem_toArray, List.getElem_cons_succ, List.getElem_cons_zero, List.setIfInBounds_toArray, List.set_cons_zero, List.set_cons_succ]
          refine wpAnyH_take (i := 3) (v := .agg #[.map (some c2), .map (some p2)]) rfl (by kernel_rfl) (by kernel_rfl) (by kernel_rfl) (fun _ _ _ h => h) (Or.inl ⟨by rfl, fun W hW => by obtain ⟨_, hW3, hW4⟩ := hW; go_simp⟩) hS ?_
          try simp only [Act.put, List.getElem_toArray, List.getElem_cons_succ, List.getElem_cons_zero, List.setIfInBounds_toArray, List.set_cons_zero, List.set_cons_succ]
          refine wpAnyH_ready (rs := [5]) (by kernel_rfl) (by simp) ?_
          refine AllReadyH.cons rfl (fun K hK => ?_) AllReadyH.nil
          rw [if_pos (by rfl)]
          go_simp
          refine HPUT.out.mono ?_
          rintro e w4 ⟨rfl, hsd4, ha4⟩
          have hs4 := ha4.size
          have hh4 : w4.heap[wr.heap.size]? = some (.cells C 112) ∧ w4.cell? ⟨g, 5, none⟩ = some (.map (some c2)) ∧ w4.cell? ⟨g, 6, none⟩ = some (.map (some p2)) := by
            refine ⟨(ha4.block wr.heap.size (by show wr.heap.size < (wr.alloc (.cells C 112)).heap.size; simp) (by rintro (e | e) <;> omega)).trans hh3.1, (ha4.cell (p := ⟨g, 5, none⟩) (by show g < (wr.alloc (.cells C 112)).heap.size; simp; omega) (by rintro (e | e) <;> (have e : g = _ := e; omega))).trans hh3.2.1, (ha4.cell (p := ⟨g, 6, none⟩) (by show g < (wr.alloc (.cells C 112)).heap.size; simp; omega) (by rintro (e | e) <;> (have e : g = _ := e; omega))).trans hh3.2.2⟩
          refine hK.out _ _ hh4 (fun hS4 => ?_)
          refine wpAnyH_done (by kernel_rfl) ?_ _
          try simp only [Act.put, List.getElem_toArray, List.getElem_cons_succ, List.getElem_cons_zero, List.setIfInBounds_toArray, List.set_cons_zero, List.set_cons_succ]
          have HSD4 := Lib.hid hsd4
          have HA4 : Hid (Apart (two c2 p2) w w4) := (ha.out.alloc _).drew.trans (ha4.mono (fun _ => .inl))
          clear hS4 hS hh4 hsd4 ha4 hK K hh3
          go_wp2_with fail
          go_roundw
          case rel => exact ⟨k + 1, by go_num, by omega, (by rw [HP2.out, HC2.out]; exact HSD4.out), HA4.out⟩
          case measure => simp [intOf]; omega
        · have hq1 := bit_off hkeep hq
          have hpt2 := HPT.out
          have hct2 := HCT.out
          rw [if_neg hq] at hpt2 hct2
          have HP2 := Lib.hid hpt2
          have HC2 := Lib.hid hct2
          clear hq hpt2 hct2 hput
          go_wp2_with (first | (refine wpList_load_mid rfl 112 _ rfl b (k * 514) (by simp [Act.eval]) _ _ hra.out Tryz.underlying112 rfl (by rw [hsl]; kernel_rfl) ?_) | fail)
          go_roundw
          case rel => exact ⟨k + 1, by go_num, by omega, (by rw [HP2.out, HC2.out]; exact hsd.out.heap (Below.heap_alloc _ _ _ (by omega)) (Below.heap_alloc _ _ _ (by omega))), ha.out.alloc _⟩
          case measure => simp [intOf]; omega
      · have hkl : k = P.late.length := by omega
        have hs2 := hsd.out
        rw [hkl, List.take_of_length_le (Nat.le_refl _)] at hs2
        have hge : (P.late.length : Int) ≤ k := by omega
        have htw := twin_any c2 p2 _ _ _ wr hs2
        have HTW := Lib.hid htw
        have HS2 := Lib.hid hs2
        have d5 : wr.cell? ⟨g, 5, none⟩ = some (.map (some c2)) := cell_of_row _ _ _ _ _ _ hrow1.out
        have d6 : wr.cell? ⟨g, 6, none⟩ = some (.map (some p2)) := cell_of_row _ _ _ _ _ _ hrow1.out
        clear htw hs2 hkl
        go_wp2_with fail
        refine HTW.out.mono ?_
        rintro e w2 ⟨c, p, rfl, htt, hc, hp, hb⟩
        have hend := lose_end H.out ha.out HS2.out hj0 hr hb htt hc hp
        have HEND := Lib.hid hend
        have hrow2 : w2.heap[g]? = some (.cells (dcells P bf c1 p1 c2 p2 (.slice (some ⟨b, 0, none⟩) P.late.length cap)) 66) := (hb.block g (by omega)).trans hrow1.out
        have z : ∀ k, w2.frozen? ⟨g, k, none⟩ = false := fun k => by simp [World.frozen?, hrow2]
        have x3 : w2.cell? ⟨g, 3, none⟩ = some (.map (some c1)) := cell_of_row _ _ _ _ _ _ hrow2
        have x4 : w2.cell? ⟨g, 4, none⟩ = some (.map (some p1)) := cell_of_row _ _ _ _ _ _ hrow2
        have x7 : w2.cell? ⟨g, 7, none⟩ = some (.slice (some ⟨b, 0, none⟩) P.late.length cap) := cell_of_row _ _ _ _ _ _ hrow2
        have x8 : w2.cell? ⟨g, 8, none⟩ = some (.bool P.off) := cell_of_row _ _ _ _ _ _ hrow2
        have x10 : w2.cell? ⟨g, 10, none⟩ = some (.int .i64 P.fuse) := cell_of_row _ _ _ _ _ _ hrow2
        have z3 := z 3
        have z4 := z 4
        have z7 := z 7
        have z8 := z 8
        have z10 := z 10
        clear hend htt hc hp hb hrow2 z
        go_wp2_with fail
        go_end0
        exact HEND.out

end Go.Proofs.YtkbmajgbhpecgaaGreatDoor.Cd
