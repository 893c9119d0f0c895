/-
  A range over a function whose items come in some order, without an early end: the invariant is told of what has come. Conditions: the loop stands in no other one.
-/
import Derived.Test.YtcliknmcefcaeaaRange
import Derived.RangeFuncGives
namespace Go.Proofs.Ytcliknmcefcaeaa.Cd
open Go.RowKit

/-- What stays behind an iterator's own steps, and behind a turn of block r. -/
def StaysSeq {α : Type} (r : Nat) (I : List α → World → Prop) : Prop :=
  (∀ s A B row, I s A → A.grownBy B row → (∀ j, row = some j → r < j ∧ ∃ o : Obj, A.heap[j]? = some o ∧ o.isWalk = true) → I s B) ∧ ∀ s A o, I s A → I s (A.putObj r o)
/-- How a round is left: no walk's object has turned, nor the loop's two blocks. -/
def roundSeq (b : Nat) (J : World → Prop) (W : World) : Exit → Act → World → Prop
  | .normal, _, W' => Two b W W' ∧ KeepsWalks W W' ∧ J W'
  | _, _, _ => False

variable {F : Fence} {n : Nat} {P : Program}

theorem wpIn_range_seq {α : Type} {g : Operand} {ps : Array Tmp} {assign body : Code} {Q : Exit → Act → World → Prop} {a : Act} {w : World} (hro : F.round = none) (h1 : 1 ≤ n) {gf : Nat} {lb : Array Value} (hg : a.eval g = .func (.func gf) #[] lb) (hFg : F.fn gf)
    (eg : ∀ args w, (callFunc gf args).run P w = .ok (.enter gf args) w) {enc : α → Value} (hps : ps.size = 1) (S : List α → Prop) (N : Nat) (hseq : SeqGives F (n - 1) P gf lb enc S N w)
    (I : List α → World → Prop) (hI : StaysSeq (w.heap.size + 1) I) (h0 : ∀ o, I [] ((w.alloc (.deferred (some []))).alloc o)) (As : α → Act → World → Prop) (hAs : ∀ x a A o, As x a A → As x a (A.putObj (w.heap.size + 1) o))
    (hassign : ∀ (l : Nat) (x : α) (W : World) (K : Act → World → Prop), w.heap.size + 1 < W.heap.size → (∀ a' W', As x a' W' → W.grownBy W' none → K a' W') → assign.wpIn (F.inRound l) (n - 1 - 1) P (Exit.then K (fun _ _ _ => False)) { tmps := (ps.zip #[enc x]).foldl (fun t (p, v) => t.setIfInBounds p v) a.tmps, defers := [] } W)
    (hbody : ∀ (pre : List α) (x : α) (a' : Act) (W : World), I pre W → As x a' W → pre.length < N → w.heap.size + 1 < W.heap.size → (∀ cur T s, W.heap[w.heap.size + 1]? ≠ some (.cells cur T s)) → (∀ cur T s, W.heap[w.heap.size]? ≠ some (.cells cur T s)) → body.wpIn (F.inRound (w.heap.size + 1)) (n - 1 - 1) P (roundSeq w.heap.size (I (pre ++ [x])) W) a' W)
    (hdone : ∀ xs W, S xs → I xs W → W.heap[w.heap.size]? = some (.deferred (some [])) → Q .normal { a with defers := { target := .collected w.heap.size, args := #[] } :: a.defers } W) :
    (Code.rangeFunc g ps assign body).wpIn F n P Q a w := by
  refine wpIn_rangeFunc ?_
  intro fn hfn
  rw [hro]
  obtain ⟨b, hb⟩ : ∃ b, w.heap.size = b := ⟨_, rfl⟩
  let rec_ : LoopState → Option Code → Obj := fun st pe => .loop { state := st, pending := pe, fn, tmps := a.tmps, params := ps, assign, body, defers := b }
  have hW : ∀ o, (((w.alloc (.deferred (some []))).alloc o).heap[b + 1]? = some o) ∧ (((w.alloc (.deferred (some []))).alloc o).heap[b]? = some (.deferred (some []))) := by
    intro o
    have e1 := World.alloc_heap_new (w.alloc (.deferred (some []))) o
    rw [World.size_alloc, hb] at e1
    have e2 := World.alloc_heap_new w (.deferred (some []))
    rw [hb] at e2
    exact ⟨e1, (Below.heap_alloc _ _ _ (by simp; omega)).trans e2⟩
  have hbw : ∀ o, Below w.heap.size w ((w.alloc (.deferred (some []))).alloc o) := fun o => ((Below.refl _ _).alloc (Nat.le_refl _) _).alloc (by simp) _
  refine ⟨b + 1, [{ target := .collected b, args := #[] }], (w.alloc (.deferred (some []))).alloc (rec_ .ready none), { target := .fn (.func gf) lb, args := #[.func (.yield (b + 1)) #[] #[]] }, (w.alloc (.deferred (some []))).alloc (rec_ .ready none), gf, #[.func (.yield (b + 1)) #[] #[]] ++ lb, (w.alloc (.deferred (some []))).alloc (rec_ .ready none), ?_, ?_, fun f' hf' => ?_, ?_, fun _ => h1, ?_⟩
  · rw [← hb]
    have := run_enterLoop_outer (P := P) (w := w) fn a.tmps ps assign body
    rw [this]
    simp only [rec_, hb]
  · simp only [resolve, hg]
    simp [go_sem]
  · have hf' : some gf = some f' := by simpa [Target.leads] using hf'
    injection hf' with hf'
    rw [← hf']
    exact hFg
  · simp [invoke, go_sem, eg]
  have hwz : ((w.alloc (.deferred (some []))).alloc (rec_ .ready none)).heap.size = b + 2 := by simp [hb]
  simp only [hb] at hI hAs hassign hbody hdone ⊢
  refine (hseq (b + 1) (fun pre W => I pre W ∧ W.heap[b + 1]? = some (rec_ .ready none) ∧ W.heap[b]? = some (.deferred (some []))) _ (hbw _) ?_ ?_ ⟨h0 _, (hW _).1, (hW _).2⟩).mono ?_
  · rintro s A B row ⟨h1, h2, h3⟩ hAB hrow
    rw [hwz] at hrow
    exact ⟨hI.1 s A B row h1 hAB (fun j hj => ⟨by have := (hrow j hj).1; omega, (hrow j hj).2⟩), (grownBy_keeps hAB (fun r e => (hrow r e).2) h2 rfl).trans h2, (grownBy_keeps hAB (fun r e => (hrow r e).2) h3 rfl).trans h3⟩
  · rintro pre x W ⟨hi, hl, hk⟩ hN
    have hlt : b + 1 < W.heap.size := (Array.getElem?_eq_some_iff.1 hl).1
    have hy := run_yield (P := P) (args := #[enc x]) hl (by rw [hps]; rfl)
    refine ⟨fn, _, assign, body, hy, roundIn_of_wpIn hfn (hassign _ x W _ hlt fun a' W1 ha hg => ?_)⟩
    have hl1 : W1.heap[b + 1]? = some (rec_ .ready none) := (hg.block _ hlt (by simp)).trans hl
    have hk1 : W1.heap[b]? = some (.deferred (some [])) := (hg.block _ (by omega) (by simp)).trans hk
    have hlt1 : b + 1 < W1.heap.size := (Array.getElem?_eq_some_iff.1 hl1).1
    have hi1 := hI.1 pre W W1 none hi hg (fun j e => by cases e)
    refine ⟨_, run_beginRound hl1 rfl, ?_⟩
    have hl2 : (W1.putObj (b + 1) (rec_ .busy none)).heap[b + 1]? = some (rec_ .busy none) := World.putObj_heap_same hlt1
    have hk2 : (W1.putObj (b + 1) (rec_ .busy none)).heap[b]? = some (.deferred (some [])) := (two_put W1 _ (by omega)).trans hk1
    have hkw : KeepsWalks W (W1.putObj (b + 1) (rec_ .busy none)) := (KeepsWalks.of_grownBy hg (fun j o e => by cases e)).trans (KeepsWalks.putObj _ hl1 rfl)
    refine wpIn_mono (hbody pre x a' _ (hI.2 _ _ _ hi1) (hAs _ _ _ _ ha) hN (by rw [World.putObj_size]; exact hlt1) (fun cur T s e => by rw [hl2] at e; cases e) (fun cur T s e => by rw [hk2] at e; cases e)) ?_
    rintro e a3 W3 hp
    cases e with
    | normal =>
      obtain ⟨⟨t1, t2⟩, hk3, hi3⟩ := hp
      have h3 : W3.heap[b + 1]? = some (rec_ .busy none) := t2.trans hl2
      exact ⟨_, _, run_endRound none h3, rfl, ⟨hI.2 _ _ _ hi3, World.putObj_heap_same (Array.getElem?_eq_some_iff.1 h3).1, (two_put W3 _ (by omega)).trans (t1.trans hk2)⟩, (hkw.trans hk3).trans (KeepsWalks.putObj _ h3 rfl)⟩
    | ret => exact hp.elim
    | exit i => exact hp.elim
    | goto t => exact hp.elim
    | panic ch => exact hp.elim
    | outgrown => exact hp.elim
  · rintro e W2 ⟨⟨v, rfl⟩, xs, hS, hi, hl, hk⟩
    exact ⟨none, _, run_endLoop hl (by simp), hdone _ _ hS (hI.2 _ _ _ hi) ((two_put W2 _ (by omega)).trans hk)⟩

end Go.Proofs.Ytcliknmcefcaeaa.Cd
