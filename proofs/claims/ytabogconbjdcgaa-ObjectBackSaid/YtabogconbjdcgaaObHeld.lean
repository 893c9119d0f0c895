/-
  A tree and a commit that were handed in and boxed: what holds on behind calls that write to nothing of theirs. Conditions: none.
-/
import Derived.Test.YtabogconbjdcgaaObArg
import Derived.Test.YtabogconbjdcgaaObGetCm
namespace Go.Proofs.Ytabogconbjdcgaa.Cd
open Go.RowKit

/-- The boxes of the arguments, of a law that was called in the world w, as they lie in W. -/
structure Held (w W : World) (t : Tre) (c : Cmt) (vp vk vi : Value) : Prop where
  ps : PsIn w w.heap.size vp t.ps
  ks : KsIn w w.heap.size vk t.ks
  is : IsIn w w.heap.size vi c.is
  bel : Below w.heap.size w W
  tr : TrAt W w.heap.size vp vk
  cm : ComAt W (w.heap.size + 1) c vi
  top : w.heap.size + 2 ≤ W.heap.size

section
variable {w W W' : World} {t : Tre} {c : Cmt} {vp vk vi : Value}
theorem Held.on (h : Held w W t c vp vk vi) {B : Nat} (hb : Below B W W') (hB : w.heap.size + 2 ≤ B) : Held w W' t c vp vk vi :=
  ⟨h.ps, h.ks, h.is, h.bel.trans (hb.mono (by omega)), h.tr.below hb (by omega), h.cm.below hb (by omega), Nat.le_trans h.top hb.size⟩
theorem Held.step (h : Held w W t c vp vk vi) (hb : Below W.heap.size W W') : Held w W' t c vp vk vi := h.on hb h.top
theorem Held.new (h : Held w W t c vp vk vi) (o : Obj) : Held w (W.alloc o) t c vp vk vi := h.step (new_below _ _)
theorem Held.drew (h : Held w W t c vp vk vi) : Held w W.drew t c vp vk vi := h.on (B := W.heap.size) ⟨rfl, rfl, rfl, Nat.le_refl _, fun _ _ => rfl⟩ h.top
theorem Held.psIn (h : Held w W t c vp vk vi) : PsIn W W.heap.size vp t.ps := (h.ps.below h.bel).more h.bel.size
theorem Held.ksIn (h : Held w W t c vp vk vi) : KsIn W W.heap.size vk t.ks := (h.ks.below h.bel).more h.bel.size
theorem Held.isIn (h : Held w W t c vp vk vi) : IsIn W W.heap.size vi c.is := (h.is.below h.bel).more h.bel.size
theorem Held.tre (h : Held w W t c vp vk vi) : TreIn W W.heap.size (.agg #[vp, vk]) t := ⟨_, _, rfl, h.psIn, h.ksIn⟩
theorem Held.cmt (h : Held w W t c vp vk vi) : CmtIn W W.heap.size (.agg (cmC c vi).toArray) c := ⟨_, rfl, h.isIn⟩
theorem Held.range (h : Held w W t c vp vk vi) : W.rangeAt (w.heap.size + 1) 0 (cmC c vi) := h.cm.whole
end
theorem Held.start {w : World} {t : Tre} {c : Cmt} {vp vk vi : Value} (h1 : PsIn w w.heap.size vp t.ps) (h2 : KsIn w w.heap.size vk t.ks) (h3 : IsIn w w.heap.size vi c.is) :
    Held w ((w.alloc (.cells #[vp, vk] 25)).alloc (.cells (cmC c vi).toArray 44)) t c vp vk vi := by
  have hz : (w.alloc (.cells #[vp, vk] 25)).heap.size = w.heap.size + 1 := asz _ _
  refine ⟨h1, h2, h3, (new_below _ _).trans ((new_below _ _).mono (by omega)), (TrAt.new w vp vk).below (new_below _ _) (by omega), ?_, by rw [asz, hz]; omega⟩
  have := ComAt.new (w.alloc (.cells #[vp, vk] 25)) c vi
  rwa [hz] at this

/-! ### How many bytes there are -/

def ptot (l : List Bp) : Nat := (l.map fun p => 2 + p.1.length + p.2.length).sum
theorem ptot_take {l : List Bp} {k : Nat} {p : Bp} (h : l[k]? = some p) : ptot (l.take (k + 1)) = ptot (l.take k) + (2 + p.1.length + p.2.length) := by
  obtain ⟨hk, rfl⟩ := List.getElem?_eq_some_iff.1 h
  unfold ptot
  rw [List.take_succ_eq_append_getElem hk, List.map_append, List.sum_append]
  simp
theorem psB_ptot {l : List Bp} (h1 : ∀ p ∈ l, p.1.length ≤ 16) (h2 : ∀ p ∈ l, p.2.length ≤ 16) : (psB l).length = ptot l := by
  induction l with
  | nil => rfl
  | cons p r ih =>
    have e1 := ih (fun q hq => h1 q (List.mem_cons_of_mem _ hq)) (fun q hq => h2 q (List.mem_cons_of_mem _ hq))
    have a := h1 p List.mem_cons_self
    have b := h2 p List.mem_cons_self
    have e : psB (p :: r) = (txt p.1 ++ txt p.2) ++ psB r := rfl
    have e' : ptot (p :: r) = (2 + p.1.length + p.2.length) + ptot r := by simp [ptot]
    rw [e, e', List.length_append, List.length_append, txt_short (by omega), txt_short (by omega), e1]
    omega
theorem treeB_ptot {ps : List Bp} (h : GoodT ⟨ps, []⟩) : (treeB ⟨ps, []⟩).length = 2 + ptot ps := by
  rcases h with h | h
  · rw [treeB_ps rfl]
    simp only [List.length_cons]
    rw [psB_ptot h.2.key h.2.val]
    show ptot ps + 1 + 1 = 2 + ptot ps
    omega
  · exact absurd rfl (goodKs_ne h.2)
theorem textI_size {i : Idn} (h : goodI i.1 = true) : (textI i.1).length = 1 + sizeI (kd i) := by
  obtain ⟨s, e, hs, _⟩ := textI_good h
  rw [e, List.length_cons, hs]
  omega
theorem isB_size {r : UInt8} {l : List Idn} (h1 : ∀ p ∈ l, goodI p.1 = true) (h2 : ∀ p ∈ l, kd p = r) : (isB l).length = l.length * (1 + sizeI r) := by
  induction l with
  | nil => simp [isB]
  | cons p s ih =>
    have e1 := ih (fun q hq => h1 q (List.mem_cons_of_mem _ hq)) (fun q hq => h2 q (List.mem_cons_of_mem _ hq))
    have e : isB (p :: s) = textI p.1 ++ isB s := rfl
    rw [e, List.length_append, textI_size (h1 p List.mem_cons_self), h2 p List.mem_cons_self, e1, List.length_cons, Nat.add_mul]
    omega
theorem num_size {z : Int} (h0 : 1 ≤ z) (h1 : z ≤ 1024) : (enc (zig z)).length = if 63 < z then 2 else 1 := by
  have hz : zig z = (2 * z).toNat := by unfold zig; rw [if_pos (by omega)]
  split
  · rename_i h
    rw [enc_hi (by omega), List.length_cons, enc_lo (by omega)]
    rfl
  · rw [enc_lo (by omega)]
    rfl
theorem comB_size {c : Cmt} (h : GoodC c) : (comB c).length = 2 + (if kd c.root = 2 then 33 else 9) * (1 + c.is.length) + 1 + c.note.length + (if 63 < c.num then 2 else 1) := by
  have h1 := textI_size h.root
  have h2 := isB_size h.is.name h.is.kind
  have h3 := num_size h.low h.high
  have h4 := h.note
  obtain ⟨_, _, _, h5, _⟩ := textI_good h.root
  have h6 : 1 + sizeI (kd c.root) = if kd c.root = 2 then 33 else 9 := by
    unfold sizeI at h5 ⊢
    by_cases e2 : kd c.root = 2
    · rw [e2]; decide
    · rw [if_neg e2]
      by_cases e1 : (kd c.root).toNat = 1
      · rw [if_pos e1]
      · rw [if_neg e1] at h5
        split at h5
        · rename_i e3
          exact absurd (UInt8.toNat_inj.1 (by rw [e3]; rfl)) e2
        · omega
  unfold comB
  simp only [List.length_cons, List.length_append]
  rw [txt_short (by omega), h1, h2, h3, h6]
  generalize (if kd c.root = 2 then 33 else 9) = S
  generalize (if 63 < c.num then 2 else 1) = N
  rw [Nat.mul_add, Nat.mul_one, Nat.mul_comm S]
  omega

end Go.Proofs.Ytabogconbjdcgaa.Cd
