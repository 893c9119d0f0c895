/-
  forget: writes are taken out of those that wait. Conditions: none.
-/
import Derived.Test.YtbepanhndpkdhaaDelete
namespace Go.Proofs.Ytbepanhndpkdhaa.Cd
open Go.RowKit

def forgetP (P : Pd) (file m : Nat) : Pd := { P with late := P.late.filter fun x => !hitP file m x }

theorem forgetP_fits {P : Pd} {N : Nat} (h : Fits P N) (file m : Nat) : Fits (forgetP P file m) N := by
  refine ⟨h.top, h.room, h.made, h.acts, h.fuse, h.keep, fun x hx => h.late x (List.mem_filter.1 hx).1, h.now, h.safe, h.nns, ?_, h.files, h.fresh⟩
  have := h.nss
  have h2 := List.length_filter_le (fun x => !hitP file m x) P.late
  show P.ns + 4097 * (P.late.filter fun x => !hitP file m x).length ≤ _
  omega

theorem delete_nil (a1 a2 : Addr) (w : World) :
    Calls Try.prog 78 #[.slice none 0 0, .func (.func 79) #[] #[.pointer (some a1), .pointer (some a2)]] w (fun e w' => e = .returned (.slice none 0 0) ∧ w' = w) := by
  have hi : Calls Try.prog 84 #[.slice none 0 0, .func (.func 79) #[] #[.pointer (some a1), .pointer (some a2)]] w (fun e w' => e = .returned (.int .i64 (-1)) ∧ w' = w) := by
    go_enter Try.func84, Try.ntmps84
    go_wp2_with fail
    refine wp_loop_rounds 1 ?_
    rw [rounds_succ]
    go_wp2_with fail
    go_ret
    exact ⟨rfl, rfl⟩
  have HI := Lib.hid hi
  clear hi
  go_enter Try.func78, Try.ntmps78
  go_wp2_with fail
  refine HI.out.mono ?_
  rintro e w1 ⟨rfl, rfl⟩
  go_wp2_with fail
  go_ret
  exact ⟨rfl, rfl⟩

/-- Another list waits; nothing else of the disk has turned. -/
theorem DiskR.lates {w w1 : World} {g N bf c1 p1 c2 p2 : Nat} {S : Nat → Prop} {P : Pd} {lv v : Value} {l : List Pw} (h : DiskR w g S P N bf c1 p1 c2 p2 lv) (ha : Apart (fun k => lv.ownBlock = some k) w w1) (ho : w1.ownsRow 0 107 514 v l.length (wcs l))
    (hv : v.ownBlock = lv.ownBlock) (hf : Fits { P with late := l } N) (hll : l.length ≤ P.late.length) : DiskR (w1.setCell ⟨g, 7, none⟩ v) g S { P with late := l } N bf c1 p1 c2 p2 v := by
  obtain ⟨i1, i2, i3, i4, i5, i6⟩ := h.ins
  obtain ⟨n1, n2, n3, n4, n5⟩ := h.neg
  obtain ⟨n, hfl, hn⟩ := h.fil
  obtain ⟨j, hsf, hj⟩ := h.safe
  have h1 : ∀ b, S b → (∀ c, lv.ownBlock = some c → b ≠ c) → w1.heap[b]? = w.heap[b]? := fun b hS hne => ha.block b (h.lt b hS) (fun e => hne b e rfl)
  have hset : ∀ b, b ≠ g → (w1.setCell ⟨g, 7, none⟩ v).heap[b]? = w1.heap[b]? := fun b hne => heap_setCell_other _ _ _ _ hne
  have hb : ∀ b, S b → b ≠ g → (∀ c, lv.ownBlock = some c → b ≠ c) → (w1.setCell ⟨g, 7, none⟩ v).heap[b]? = w.heap[b]? := fun b hS h2 h3 => (hset b h2).trans (h1 b hS h3)
  refine ⟨hf, ?_, ⟨n, hfl.heap (hb bf i2 (fun e => n1 e.symm) (fun c hc e => (h.nel c hc).2.1 e.symm)), hn⟩, h.now.heap (hb c1 i3 (fun e => n2 e.symm) (fun c hc e => (h.nel c hc).2.2.1 e.symm)) (hb p1 i4 (fun e => n3 e.symm) (fun c hc e => (h.nel c hc).2.2.2.1 e.symm)),
    ⟨j, hsf.heap (hb c2 i5 (fun e => n4 e.symm) (fun c hc e => (h.nel c hc).2.2.2.2.1 e.symm)) (hb p2 i6 (fun e => n5 e.symm) (fun c hc e => (h.nel c hc).2.2.2.2.2 e.symm)), by show j + l.length ≤ N; omega⟩, ?_, h.neg, h.nef, h.nes, ?_, h.ins, ?_, fun k hk => by rw [World.size_setCell]; exact Nat.lt_of_lt_of_le (h.lt k hk) ha.size⟩
  · have hrow := (h1 g i1 (fun c hc e => (h.nel c hc).1 e.symm)).trans h.row
    exact heap_setCell_same w1 g 7 _ _ v hrow
  · exact row_set ho _ (fun b hb2 => (h.nel b (by rw [← hv]; exact hb2)).1)
  · intro b hb2
    exact h.nel b (by rw [← hv]; exact hb2)
  · intro b hb2
    exact h.inl b (by rw [← hv]; exact hb2)

/-- What is known of the disk's own parts behind a call that leaves its maps in their blocks. -/
theorem DiskR.turn {w w1 : World} {g N bf c1 p1 c2 p2 : Nat} {S : Nat → Prop} {P P1 : Pd} {lv v : Value} (h : DiskR w g S P N bf c1 p1 c2 p2 lv) (hrow : w1.heap[g]? = some (.cells (dcells P1 bf c1 p1 c2 p2 v) 74)) (hfl : w1.heap[bf]? = w.heap[bf]?) (he : P1.files = P.files)
    (hnow : Side w1 c1 p1 P1.now P1.nn N) (hsafe : ∃ k, Side w1 c2 p2 P1.safe P1.ns k ∧ k + P1.late.length ≤ N) (ho : w1.ownsRow 0 107 514 v P1.late.length (wcs P1.late)) (hv : v.ownBlock = lv.ownBlock) (hf : Fits P1 N) (hs : w.heap.size ≤ w1.heap.size) :
    DiskR w1 g S P1 N bf c1 p1 c2 p2 v := by
  obtain ⟨n, hfil, hn⟩ := h.fil
  exact ⟨hf, hrow, ⟨n, by rw [he]; exact hfil.heap hfl, hn⟩, hnow, hsafe, ho, h.neg, h.nef, h.nes, fun b hb => h.nel b (by rw [← hv]; exact hb), h.ins, fun b hb => h.inl b (by rw [← hv]; exact hb), fun k hk => Nat.lt_of_lt_of_le (h.lt k hk) hs⟩

/-- What forget leaves of the disk's own block and of the list. -/
def Forgot (g bf c1 p1 c2 p2 file m : Nat) (P : Pd) (lv : Value) (w : World) (e : Ending) (w' : World) : Prop :=
  e = .returned (.tuple #[]) ∧ ∃ v, w'.heap[g]? = some (.cells (dcells P bf c1 p1 c2 p2 v) 74) ∧ v.ownBlock = lv.ownBlock ∧
    w'.ownsRow 0 107 514 v (P.late.filter fun x => !hitP file m x).length (wcs (P.late.filter fun x => !hitP file m x)) ∧ Apart (fun k => k = g ∨ lv.ownBlock = some k) w w'

set_option maxRecDepth 100000 in
set_option maxHeartbeats 1600000 in
theorem forget_core (g bf c1 p1 c2 p2 file m : Nat) (P : Pd) (lv : Value) (w : World) (hrow : w.heap[g]? = some (.cells (dcells P bf c1 p1 c2 p2 lv) 74)) (hlate0 : w.ownsRow 0 107 514 lv P.late.length (wcs P.late))
    (hl : ∀ x ∈ P.late, x.data.length = 512) (hlen : P.late.length ≤ 137438953472) (hneg : ∀ b, lv.ownBlock = some b → b ≠ g) :
    Calls Try.prog 68 #[.pointer (some ⟨g, 0, none⟩), .int .i64 file, .int .i64 m] w (Forgot g bf c1 p1 c2 p2 file m P lv w) := by
  have hg : g < w.heap.size := (Array.getElem?_eq_some_iff.1 hrow).1
  have hlow : ∀ b, lv.ownBlock = some b → b < w.heap.size := fun b hb => (World.ownsRow.lt hlate0 b hb).2
  have hA : Apart (fun k => k = g ∨ lv.ownBlock = some k) w ((w.alloc (.cells #[.int .i64 file] 3)).alloc (.cells #[.int .i64 m] 3)) := ((Apart.refl _ w).alloc _).alloc _
  have hs2 : ((w.alloc (.cells #[.int .i64 file] 3)).alloc (.cells #[.int .i64 m] 3)).heap.size = w.heap.size + 2 := by simp
  have hB : Below w.heap.size w ((w.alloc (.cells #[.int .i64 file] 3)).alloc (.cells #[.int .i64 m] 3)) := ((Below.refl _ _).alloc (Nat.le_refl _) _).alloc (by simp) _
  have hrow2 := (hB.block g hg).trans hrow
  have hlate := row_kept hlate0 (fun b hb => hB.block b (hlow b hb))
  have k1 : Capt ((w.alloc (.cells #[.int .i64 file] 3)).alloc (.cells #[.int .i64 m] 3)) ⟨w.heap.size, 0, none⟩ file := ⟨cell_of_row _ _ _ _ _ _ (heap_alloc2_old w _ _), by rw [hs2]; show w.heap.size < _; omega⟩
  have k2 : Capt ((w.alloc (.cells #[.int .i64 file] 3)).alloc (.cells #[.int .i64 m] 3)) ⟨w.heap.size + 1, 0, none⟩ m := ⟨cell_of_row _ _ _ _ _ _ (heap_alloc2_new w _ _), by rw [hs2]; show w.heap.size + 1 < _; omega⟩
  have c7 : ((w.alloc (.cells #[.int .i64 file] 3)).alloc (.cells #[.int .i64 m] 3)).cell? ⟨g, 7, none⟩ = some lv := cell_of_row _ _ _ _ _ _ hrow2
  have f7 : ((w.alloc (.cells #[.int .i64 file] 3)).alloc (.cells #[.int .i64 m] 3)).frozen? ⟨g, 7, none⟩ = false := by unfold World.frozen?; rw [hrow2]; rfl
  have hown7 := own_one hlate
  rcases hlate.2 with ⟨rfl, h0⟩ | ⟨b, cap, cur, rfl, _, _, hncap, hcapm, _, _⟩
  · have hnil : P.late = [] := List.eq_nil_of_length_eq_zero h0
    have hdel := delete_nil ⟨w.heap.size, 0, none⟩ ⟨w.heap.size + 1, 0, none⟩ ((w.alloc (.cells #[.int .i64 file] 3)).alloc (.cells #[.int .i64 m] 3))
    have HD := Lib.hid hdel
    have HROW := Lib.hid hrow2
    have HA := Lib.hid hA
    have HN := Lib.hid hnil
    clear hdel hrow hrow2 hA hB k1 k2 hlate hl hlow hnil h0 hlate0 hown7 hneg
    go_enter Try.func68, Try.ntmps68
    go_wp2_with fail
    generalize (w.alloc (.cells #[.int .i64 file] 3)).alloc (.cells #[.int .i64 m] 3) = w2 at *
    refine HD.out.mono ?_
    rintro e w3 ⟨rfl, rfl⟩
    go_wp2_with fail
    go_end0
    have ho : ∀ W : World, W.ownsRow 0 107 514 (.slice none 0 0) (P.late.filter fun x => !hitP file m x).length (wcs (P.late.filter fun x => !hitP file m x)) := by
      intro W
      rw [HN.out]
      exact World.ownsRow_nil _ _ _ _
    exact ⟨rfl, .slice none 0 0, heap_setCell_same _ g 7 _ _ (.slice none 0 0) HROW.out, rfl, ho _, apart_setCell HA.out (a := ⟨g, 7, none⟩) (.inl rfl) _⟩
  · have hbl := hlow b rfl
    have hdel := delete_any b cap file m P.late ⟨w.heap.size, 0, none⟩ ⟨w.heap.size + 1, 0, none⟩ _ hlate hl hlen k1 k2 (by show w.heap.size ≠ b; omega) (by show w.heap.size + 1 ≠ b; omega)
    have HD := Lib.hid hdel
    have HROW := Lib.hid hrow2
    have HA := Lib.hid hA
    have hgb := hneg b rfl
    clear hdel hrow hrow2 hA hB k1 k2 hlate hl hlow hlate0 hown7 hneg
    go_enter Try.func68, Try.ntmps68
    go_wp2_with fail
    generalize (w.alloc (.cells #[.int .i64 file] 3)).alloc (.cells #[.int .i64 m] 3) = w2 at *
    clear f7
    refine HD.out.mono ?_
    rintro e w3 ⟨n, rfl, hn, ho, ha⟩
    have hsz3 := ha.size
    have hrow3 : w3.heap[g]? = some (.cells (dcells P bf c1 p1 c2 p2 (.slice (some ⟨b, 0, none⟩) P.late.length cap)) 74) := (ha.block g (by omega) (by omega)).trans HROW.out
    have d7 : w3.cell? ⟨g, 7, none⟩ = some (.slice (some ⟨b, 0, none⟩) P.late.length cap) := cell_of_row _ _ _ _ _ _ hrow3
    have f7 : w3.frozen? ⟨g, 7, none⟩ = false := by simp [World.frozen?, hrow3]
    have HO := Lib.hid ho
    have HA3 := Lib.hid ha
    have HN := Lib.hid hn
    have HROW3 := Lib.hid hrow3
    clear ho ha hrow3 hn
    go_wp2_with fail
    go_end0
    have ho := HO.out
    rw [HN.out] at ho
    have hap : Apart (fun k => k = g ∨ (Value.slice (some ⟨b, 0, none⟩) P.late.length cap).ownBlock = some k) w w3 := HA.out.trans (HA3.out.mono (fun k hk => .inl (.inr (by rw [hk]; rfl))))
    refine ⟨rfl, .slice (some ⟨b, 0, none⟩) n cap, heap_setCell_same _ g 7 _ _ (.slice (some ⟨b, 0, none⟩) n cap) HROW3.out, rfl, ?_, apart_setCell hap (a := ⟨g, 7, none⟩) (.inl rfl) _⟩
    rw [HN.out]
    exact row_set ho _ (fun c hc => by injection hc with hc; rw [← hc]; exact hgb)

theorem forget_any (g N file m : Nat) (S : Nat → Prop) (P : Pd) (w : World) (h : Rep w g S P N) :
    Calls Try.prog 68 #[.pointer (some ⟨g, 0, none⟩), .int .i64 file, .int .i64 m] w (Makes g S (forgetP P file m) N (.tuple #[]) w) := by
  obtain ⟨bf, c1, p1, c2, p2, lv, h⟩ := h
  have hl : ∀ x ∈ P.late, x.data.length = 512 := fun x hx => (h.fits.late x hx).2.2
  have hlen : P.late.length ≤ 137438953472 := by obtain ⟨_, _, h9⟩ := h.safe; have := h.fits.top; omega
  refine (forget_core g bf c1 p1 c2 p2 file m P lv w h.row h.late hl hlen (fun b hb => (h.nel b hb).1)).mono ?_
  rintro e w' ⟨rfl, v, hrow, hv, ho, ha⟩
  obtain ⟨i1, i2, i3, i4, i5, i6⟩ := h.ins
  obtain ⟨n1, n2, n3, n4, n5⟩ := h.neg
  obtain ⟨k, hsf, hk⟩ := h.safe
  have hb : ∀ b, S b → b ≠ g → (∀ c, lv.ownBlock = some c → b ≠ c) → w'.heap[b]? = w.heap[b]? := fun b hS h1 h2 => ha.block b (h.lt b hS) (fun e => e.elim h1 (fun e => h2 b e rfl))
  have hap : Apart S w w' := ha.mono (fun k hk => hk.elim (fun e => by rw [e]; exact i1) (fun e => h.inl k e))
  have hle := List.length_filter_le (fun x => !hitP file m x) P.late
  have hd := h.turn (P1 := forgetP P file m) hrow (hb bf i2 (fun e => n1 e.symm) (fun c hc e => (h.nel c hc).2.1 e.symm)) rfl (h.now.heap (hb c1 i3 (fun e => n2 e.symm) (fun c hc e => (h.nel c hc).2.2.1 e.symm)) (hb p1 i4 (fun e => n3 e.symm) (fun c hc e => (h.nel c hc).2.2.2.1 e.symm)))
    ⟨k, hsf.heap (hb c2 i5 (fun e => n4 e.symm) (fun c hc e => (h.nel c hc).2.2.2.2.1 e.symm)) (hb p2 i6 (fun e => n5 e.symm) (fun c hc e => (h.nel c hc).2.2.2.2.2 e.symm)), by show k + (P.late.filter fun x => !hitP file m x).length ≤ N; omega⟩ ho hv (forgetP_fits h.fits file m) ha.size
  exact ⟨rfl, ⟨_, _, _, _, _, _, hd.more (fun _ => .inl) (since_lt h.lt ha.size)⟩, hap⟩

end Go.Proofs.Ytbepanhndpkdhaa.Cd
