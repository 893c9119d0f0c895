/-
  As Range: the body is told, too, that the loop's own two blocks are no cells. Conditions: the loop stands in no other one.
-/
import Derived.RangeFuncIn
import Derived.RangeFuncRecord
import Derived.RangeFuncSeq
import Derived.RangeFuncBound
import Derived.RangeFuncCalls
/-
  A range over a function whose body calls what writes maps: the invariant is told of the loop's own two blocks, and the body keeps these. Conditions: the loop stands in no other one.
-/
namespace Go.Proofs.YthbahbcihaebeaaDoor.Cd
open Go.RowKit

/-- The loop's two blocks lie as they lay. -/
def Two (b : Nat) (W W' : World) : Prop := W'.heap[b]? = W.heap[b]? ∧ W'.heap[b + 1]? = W.heap[b + 1]?
/-- How a round may be left. -/
def roundEnds (b : Nat) (J : World → Prop) (Jx : Code → World → Prop) (W : World) : Exit → Act → World → Prop
  | .normal, _, W' => Two b W W' ∧ J W'
  | .ret, _, W' => Two b W W' ∧ Jx .ret W'
  | .exit i, _, W' => Two b W W' ∧ Jx (.exit i) W'
  | .goto t, _, W' => Two b W W' ∧ Jx (.goto t) W'
  | .panic _, _, _ => False
  | .outgrown, _, _ => False
/-- What stays behind steps that turn nothing that lay, and behind a turn of block r. -/
def Stays (r : Nat) (J : World → Prop) : Prop := (∀ A B, J A → Below A.heap.size A B → J B) ∧ ∀ A o, J A → J (A.putObj r o)
/-- What an iterator is asked: it hands the items over, one behind the other, up to a round that says no. -/
def Hands {α : Type} (F : Fence) (n : Nat) (P : Program) (gf : Nat) (lb : Array Value) (encs : α → Array Value) (xs : List α) (Box : World → Prop) : Prop :=
  ∀ (l : Nat) (J Jx : Nat → World → Prop) (W : World),
    (∀ k A B, J k A → Below A.heap.size A B → J k B) → (∀ k A B, Jx k A → Below A.heap.size A B → Jx k B) → (∀ k A, J k A → Box A) →
    (∀ k x A, xs[k]? = some x → J k A → YieldAt F (n - 1) P l (encs x) A fun e A' => (e = .returned (.bool true) ∧ J (k + 1) A') ∨ (e = .returned (.bool false) ∧ Jx (k + 1) A')) →
    J 0 W → CallsIn F n P gf (#[.func (.yield l) #[] #[]] ++ lb) W fun e W' => (∃ v, e = .returned v) ∧ (J xs.length W' ∨ ∃ k, k ≤ xs.length ∧ Jx k W')

variable {F : Fence} {n : Nat} {P : Program}

theorem two_put {b : Nat} (W : World) {r : Nat} (o : Obj) (h : b ≠ r) : (W.putObj r o).heap[b]? = W.heap[b]? := World.putObj_heap_other h

theorem wpIn_range {α : Type} {g : Operand} {ps : Array Tmp} {assign body : Code} {Q : Exit → Act → World → Prop} {a : Act} {w : World} (hro : F.round = none) (h1 : 1 ≤ n) {gf : Nat} {lb : Array Value} (hg : a.eval g = .func (.func gf) #[] lb) (hFg : F.fn gf)
    (eg : ∀ args w, (callFunc gf args).run P w = .ok (.enter gf args) w) {encs : α → Array Value} (hps : ∀ x, (encs x).size = ps.size) (xs : List α) (Box : World → Prop) (hseq : Hands F (n - 1) P gf lb encs xs Box)
    (I : Nat → World → Prop) (Ix : Code → Nat → World → Prop) (hI : ∀ k, Stays (w.heap.size + 1) (I k)) (hIx : ∀ c k, Stays (w.heap.size + 1) (Ix c k)) (hBox : ∀ k A, I k A → Box A)
    (h0 : ∀ o, I 0 ((w.alloc (.deferred (some []))).alloc o)) (a₁ : α → Act)
    (hassign : ∀ (l : Nat) (x : α) (W : World) (K : Act → World → Prop), K (a₁ x) W → assign.wpIn (F.inRound l) (n - 1 - 1) P (Exit.then K (fun _ _ _ => False)) { tmps := (ps.zip (encs x)).foldl (fun t (p, v) => t.setIfInBounds p v) a.tmps, defers := [] } W)
    (hbody : ∀ (k : Nat) (x : α) (W : World), xs[k]? = some x → I k W → w.heap.size + 1 < W.heap.size → body.wpIn (F.inRound (w.heap.size + 1)) (n - 1 - 1) P (roundEnds w.heap.size (I (k + 1)) (fun c => Ix c (k + 1)) W) (a₁ x) W)
    (hdone : ∀ W, I xs.length W → W.heap[w.heap.size]? = some (.deferred (some [])) → Q .normal { a with defers := { target := .collected w.heap.size, args := #[] } :: a.defers } W)
    (hstop : ∀ (c : Code) (k : Nat) (W : World), k ≤ xs.length → Ix c k W → W.heap[w.heap.size]? = some (.deferred (some [])) → c.wpIn F n P Q { a with defers := { target := .collected w.heap.size, args := #[] } :: a.defers } W) :
    (Code.rangeFunc g ps assign body).wpIn F n P Q a w := by
  refine wpIn_rangeFunc ?_
  intro fn hfn
  rw [hro]
  obtain ⟨b, hb⟩ : ∃ b, w.heap.size = b := ⟨_, rfl⟩
  let rec_ : LoopState → Option Code → Obj := fun st pe => .loop { state := st, pending := pe, fn, tmps := a.tmps, params := ps, assign, body, defers := b }
  have hW : ∀ o, (((w.alloc (.deferred (some []))).alloc o).heap[b + 1]? = some o) ∧ (((w.alloc (.deferred (some []))).alloc o).heap[b]? = some (.deferred (some []))) := by
    intro o
    have e1 := World.alloc_heap_new (w.alloc (.deferred (some []))) o
    rw [World.size_alloc, hb] at e1
    have e2 := World.alloc_heap_new w (.deferred (some []))
    rw [hb] at e2
    exact ⟨e1, (Below.heap_alloc _ _ _ (by simp; omega)).trans e2⟩
  refine ⟨b + 1, [{ target := .collected b, args := #[] }], (w.alloc (.deferred (some []))).alloc (rec_ .ready none), { target := .fn (.func gf) lb, args := #[.func (.yield (b + 1)) #[] #[]] }, (w.alloc (.deferred (some []))).alloc (rec_ .ready none), gf, #[.func (.yield (b + 1)) #[] #[]] ++ lb, (w.alloc (.deferred (some []))).alloc (rec_ .ready none), ?_, ?_, fun f' hf' => ?_, ?_, fun _ => h1, ?_⟩
  · rw [← hb]
    have := run_enterLoop_outer (P := P) (w := w) fn a.tmps ps assign body
    rw [this]
    simp only [rec_, hb]
  · simp only [resolve, hg]
    simp [go_sem]
  · have hf' : some gf = some f' := by simpa [Target.leads] using hf'
    injection hf' with hf'
    rw [← hf']
    exact hFg
  · simp [invoke, go_sem, eg]
  simp only [hb] at hI hIx hbody hdone hstop ⊢
  refine (hseq (b + 1) (fun k W => I k W ∧ W.heap[b + 1]? = some (rec_ .ready none) ∧ W.heap[b]? = some (.deferred (some [])))
    (fun k W => ∃ c, Ix c k W ∧ W.heap[b + 1]? = some (rec_ .done (some c)) ∧ W.heap[b]? = some (.deferred (some []))) _ ?_ ?_ ?_ ?_ ⟨h0 _, (hW _).1, (hW _).2⟩).mono ?_
  · rintro k A B ⟨h1, h2, h3⟩ hAB
    exact ⟨(hI k).1 A B h1 hAB, (hAB.block _ (Array.getElem?_eq_some_iff.1 h2).1).trans h2, (hAB.block _ (Array.getElem?_eq_some_iff.1 h3).1).trans h3⟩
  · rintro k A B ⟨c, h1, h2, h3⟩ hAB
    exact ⟨c, (hIx c k).1 A B h1 hAB, (hAB.block _ (Array.getElem?_eq_some_iff.1 h2).1).trans h2, (hAB.block _ (Array.getElem?_eq_some_iff.1 h3).1).trans h3⟩
  · rintro k A ⟨h1, _⟩
    exact hBox k A h1
  · rintro k x W hx ⟨hi, hl, hk⟩
    have hlt : b + 1 < W.heap.size := (Array.getElem?_eq_some_iff.1 hl).1
    have hy := run_yield (P := P) (args := encs x) hl (hps x)
    refine ⟨fn, _, assign, body, hy, roundIn_of_wpIn hfn (hassign _ x W _ ⟨_, run_beginRound hl rfl, ?_⟩)⟩
    have hl2 : (W.putObj (b + 1) (rec_ .busy none)).heap[b + 1]? = some (rec_ .busy none) := World.putObj_heap_same hlt
    have hk2 : (W.putObj (b + 1) (rec_ .busy none)).heap[b]? = some (.deferred (some [])) := (two_put W _ (by omega)).trans hk
    refine wpIn_mono (hbody k x _ hx ((hI k).2 _ _ hi) (by rw [World.putObj_size]; exact hlt)) ?_
    have fin : ∀ (jump : Option Code) (W3 : World), Two b (W.putObj (b + 1) (rec_ .busy none)) W3 →
        (Instr.endRound (b + 1) jump).run P W3 = .ok (.bool jump.isNone) (W3.putObj (b + 1) (rec_ (if jump.isNone then .ready else .done) jump)) ∧
          (W3.putObj (b + 1) (rec_ (if jump.isNone then .ready else .done) jump)).heap[b + 1]? = some (rec_ (if jump.isNone then .ready else .done) jump) ∧
          (W3.putObj (b + 1) (rec_ (if jump.isNone then .ready else .done) jump)).heap[b]? = some (.deferred (some [])) := by
      rintro jump W3 ⟨t1, t2⟩
      have h3 : W3.heap[b + 1]? = some (rec_ .busy none) := t2.trans hl2
      exact ⟨run_endRound jump h3, World.putObj_heap_same (Array.getElem?_eq_some_iff.1 h3).1, (two_put W3 _ (by omega)).trans (t1.trans hk2)⟩
    rintro e a3 W3 hp
    cases e with
    | normal =>
      obtain ⟨r1, r2, r3⟩ := fin none W3 hp.1
      exact ⟨_, _, r1, .inl ⟨rfl, (hI _).2 _ _ hp.2, r2, r3⟩⟩
    | ret =>
      obtain ⟨r1, r2, r3⟩ := fin (some .ret) W3 hp.1
      exact ⟨_, _, r1, .inr ⟨rfl, _, (hIx _ _).2 _ _ hp.2, r2, r3⟩⟩
    | exit i =>
      obtain ⟨r1, r2, r3⟩ := fin (some (.exit i)) W3 hp.1
      exact ⟨_, _, r1, .inr ⟨rfl, _, (hIx _ _).2 _ _ hp.2, r2, r3⟩⟩
    | goto t =>
      obtain ⟨r1, r2, r3⟩ := fin (some (.goto t)) W3 hp.1
      exact ⟨_, _, r1, .inr ⟨rfl, _, (hIx _ _).2 _ _ hp.2, r2, r3⟩⟩
    | panic ch => exact hp.elim
    | outgrown => exact hp.elim
  · rintro e W2 ⟨⟨v, rfl⟩, (⟨hi, hl, hk⟩ | ⟨k, hk', c, hi, hl, hk⟩)⟩
    · exact ⟨none, _, run_endLoop hl (by simp), hdone _ ((hI _).2 _ _ hi) ((two_put W2 _ (by omega)).trans hk)⟩
    · exact ⟨some c, _, run_endLoop hl (by simp), hstop c k _ hk' ((hIx c k).2 _ _ hi) ((two_put W2 _ (by omega)).trans hk)⟩

end Go.Proofs.YthbahbcihaebeaaDoor.Cd

/-
  As Range: the body is told, too, that the loop's own two blocks are no cells. Conditions: the loop stands in no other one.
-/
namespace Go.Proofs.YthbahbcihaebeaaDoor.Cd
open Go.RowKit

variable {F : Fence} {n : Nat} {P : Program}

theorem wpIn_range_c {α : Type} {g : Operand} {ps : Array Tmp} {assign body : Code} {Q : Exit → Act → World → Prop} {a : Act} {w : World} (hro : F.round = none) (h1 : 1 ≤ n) {gf : Nat} {lb : Array Value} (hg : a.eval g = .func (.func gf) #[] lb) (hFg : F.fn gf)
    (eg : ∀ args w, (callFunc gf args).run P w = .ok (.enter gf args) w) {encs : α → Array Value} (hps : ∀ x, (encs x).size = ps.size) (xs : List α) (Box : World → Prop) (hseq : Hands F (n - 1) P gf lb encs xs Box)
    (I : Nat → World → Prop) (Ix : Code → Nat → World → Prop) (hI : ∀ k, Stays (w.heap.size + 1) (I k)) (hIx : ∀ c k, Stays (w.heap.size + 1) (Ix c k)) (hBox : ∀ k A, I k A → Box A)
    (h0 : ∀ o, I 0 ((w.alloc (.deferred (some []))).alloc o)) (a₁ : α → Act)
    (hassign : ∀ (l : Nat) (x : α) (W : World) (K : Act → World → Prop), K (a₁ x) W → assign.wpIn (F.inRound l) (n - 1 - 1) P (Exit.then K (fun _ _ _ => False)) { tmps := (ps.zip (encs x)).foldl (fun t (p, v) => t.setIfInBounds p v) a.tmps, defers := [] } W)
    (hbody : ∀ (k : Nat) (x : α) (W : World), xs[k]? = some x → I k W → w.heap.size + 1 < W.heap.size → (∀ C T fr, W.heap[w.heap.size]? ≠ some (.cells C T fr)) → (∀ C T fr, W.heap[w.heap.size + 1]? ≠ some (.cells C T fr)) → body.wpIn (F.inRound (w.heap.size + 1)) (n - 1 - 1) P (roundEnds w.heap.size (I (k + 1)) (fun c => Ix c (k + 1)) W) (a₁ x) W)
    (hdone : ∀ W, I xs.length W → W.heap[w.heap.size]? = some (.deferred (some [])) → Q .normal { a with defers := { target := .collected w.heap.size, args := #[] } :: a.defers } W)
    (hstop : ∀ (c : Code) (k : Nat) (W : World), k ≤ xs.length → Ix c k W → W.heap[w.heap.size]? = some (.deferred (some [])) → c.wpIn F n P Q { a with defers := { target := .collected w.heap.size, args := #[] } :: a.defers } W) :
    (Code.rangeFunc g ps assign body).wpIn F n P Q a w := by
  refine wpIn_rangeFunc ?_
  intro fn hfn
  rw [hro]
  obtain ⟨b, hb⟩ : ∃ b, w.heap.size = b := ⟨_, rfl⟩
  let rec_ : LoopState → Option Code → Obj := fun st pe => .loop { state := st, pending := pe, fn, tmps := a.tmps, params := ps, assign, body, defers := b }
  have hW : ∀ o, (((w.alloc (.deferred (some []))).alloc o).heap[b + 1]? = some o) ∧ (((w.alloc (.deferred (some []))).alloc o).heap[b]? = some (.deferred (some []))) := by
    intro o
    have e1 := World.alloc_heap_new (w.alloc (.deferred (some []))) o
    rw [World.size_alloc, hb] at e1
    have e2 := World.alloc_heap_new w (.deferred (some []))
    rw [hb] at e2
    exact ⟨e1, (Below.heap_alloc _ _ _ (by simp; omega)).trans e2⟩
  refine ⟨b + 1, [{ target := .collected b, args := #[] }], (w.alloc (.deferred (some []))).alloc (rec_ .ready none), { target := .fn (.func gf) lb, args := #[.func (.yield (b + 1)) #[] #[]] }, (w.alloc (.deferred (some []))).alloc (rec_ .ready none), gf, #[.func (.yield (b + 1)) #[] #[]] ++ lb, (w.alloc (.deferred (some []))).alloc (rec_ .ready none), ?_, ?_, fun f' hf' => ?_, ?_, fun _ => h1, ?_⟩
  · rw [← hb]
    have := run_enterLoop_outer (P := P) (w := w) fn a.tmps ps assign body
    rw [this]
    simp only [rec_, hb]
  · simp only [resolve, hg]
    simp [go_sem]
  · have hf' : some gf = some f' := by simpa [Target.leads] using hf'
    injection hf' with hf'
    rw [← hf']
    exact hFg
  · simp [invoke, go_sem, eg]
  simp only [hb] at hI hIx hbody hdone hstop ⊢
  refine (hseq (b + 1) (fun k W => I k W ∧ W.heap[b + 1]? = some (rec_ .ready none) ∧ W.heap[b]? = some (.deferred (some [])))
    (fun k W => ∃ c, Ix c k W ∧ W.heap[b + 1]? = some (rec_ .done (some c)) ∧ W.heap[b]? = some (.deferred (some []))) _ ?_ ?_ ?_ ?_ ⟨h0 _, (hW _).1, (hW _).2⟩).mono ?_
  · rintro k A B ⟨h1, h2, h3⟩ hAB
    exact ⟨(hI k).1 A B h1 hAB, (hAB.block _ (Array.getElem?_eq_some_iff.1 h2).1).trans h2, (hAB.block _ (Array.getElem?_eq_some_iff.1 h3).1).trans h3⟩
  · rintro k A B ⟨c, h1, h2, h3⟩ hAB
    exact ⟨c, (hIx c k).1 A B h1 hAB, (hAB.block _ (Array.getElem?_eq_some_iff.1 h2).1).trans h2, (hAB.block _ (Array.getElem?_eq_some_iff.1 h3).1).trans h3⟩
  · rintro k A ⟨h1, _⟩
    exact hBox k A h1
  · rintro k x W hx ⟨hi, hl, hk⟩
    have hlt : b + 1 < W.heap.size := (Array.getElem?_eq_some_iff.1 hl).1
    have hy := run_yield (P := P) (args := encs x) hl (hps x)
    refine ⟨fn, _, assign, body, hy, roundIn_of_wpIn hfn (hassign _ x W _ ⟨_, run_beginRound hl rfl, ?_⟩)⟩
    have hl2 : (W.putObj (b + 1) (rec_ .busy none)).heap[b + 1]? = some (rec_ .busy none) := World.putObj_heap_same hlt
    have hk2 : (W.putObj (b + 1) (rec_ .busy none)).heap[b]? = some (.deferred (some [])) := (two_put W _ (by omega)).trans hk
    refine wpIn_mono (hbody k x _ hx ((hI k).2 _ _ hi) (by rw [World.putObj_size]; exact hlt) (fun C T fr e => by rw [hk2] at e; injection e with e; cases e) (fun C T fr e => by rw [hl2] at e; injection e with e; cases e)) ?_
    have fin : ∀ (jump : Option Code) (W3 : World), Two b (W.putObj (b + 1) (rec_ .busy none)) W3 →
        (Instr.endRound (b + 1) jump).run P W3 = .ok (.bool jump.isNone) (W3.putObj (b + 1) (rec_ (if jump.isNone then .ready else .done) jump)) ∧
          (W3.putObj (b + 1) (rec_ (if jump.isNone then .ready else .done) jump)).heap[b + 1]? = some (rec_ (if jump.isNone then .ready else .done) jump) ∧
          (W3.putObj (b + 1) (rec_ (if jump.isNone then .ready else .done) jump)).heap[b]? = some (.deferred (some [])) := by
      rintro jump W3 ⟨t1, t2⟩
      have h3 : W3.heap[b + 1]? = some (rec_ .busy none) := t2.trans hl2
      exact ⟨run_endRound jump h3, World.putObj_heap_same (Array.getElem?_eq_some_iff.1 h3).1, (two_put W3 _ (by omega)).trans (t1.trans hk2)⟩
    rintro e a3 W3 hp
    cases e with
    | normal =>
      obtain ⟨r1, r2, r3⟩ := fin none W3 hp.1
      exact ⟨_, _, r1, .inl ⟨rfl, (hI _).2 _ _ hp.2, r2, r3⟩⟩
    | ret =>
      obtain ⟨r1, r2, r3⟩ := fin (some .ret) W3 hp.1
      exact ⟨_, _, r1, .inr ⟨rfl, _, (hIx _ _).2 _ _ hp.2, r2, r3⟩⟩
    | exit i =>
      obtain ⟨r1, r2, r3⟩ := fin (some (.exit i)) W3 hp.1
      exact ⟨_, _, r1, .inr ⟨rfl, _, (hIx _ _).2 _ _ hp.2, r2, r3⟩⟩
    | goto t =>
      obtain ⟨r1, r2, r3⟩ := fin (some (.goto t)) W3 hp.1
      exact ⟨_, _, r1, .inr ⟨rfl, _, (hIx _ _).2 _ _ hp.2, r2, r3⟩⟩
    | panic ch => exact hp.elim
    | outgrown => exact hp.elim
  · rintro e W2 ⟨⟨v, rfl⟩, (⟨hi, hl, hk⟩ | ⟨k, hk', c, hi, hl, hk⟩)⟩
    · exact ⟨none, _, run_endLoop hl (by simp), hdone _ ((hI _).2 _ _ hi) ((two_put W2 _ (by omega)).trans hk)⟩
    · exact ⟨some c, _, run_endLoop hl (by simp), hstop c k _ hk' ((hIx c k).2 _ _ hi) ((two_put W2 _ (by omega)).trans hk)⟩

end Go.Proofs.YthbahbcihaebeaaDoor.Cd
