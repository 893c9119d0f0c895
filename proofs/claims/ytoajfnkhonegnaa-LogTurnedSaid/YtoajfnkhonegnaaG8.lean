/-
  The document's Same: two lists of texts. Conditions: none.
-/
import Derived.RangeFuncIn
import Derived.RangeFuncRecord
import Derived.RangeFuncSeq
import Derived.RangeFuncBound
import Derived.RangeFuncCalls
import Derived.Test.YtoajfnkhonegnaaG6
import Derived.OrdersHeld
import Derived.OrdersIn
import Derived.TacticsIn
import Derived.Deep.RegionHeld
import Derived.Test.YtoajfnkhonegnaaG1
import Derived.Deep.Strs
import Derived.Deep.RegionWith
import Derived.LoopTactic
import Derived.IntWalk
import Derived.Laws.BitsAllLaws
import Derived.Test.YtoajfnkhonegnaaRows
import Derived.WalkKit
import Derived.WalkSpells
import Derived.WalkLawsBesides
import Derived.Outline
import Derived.Lib.Hide
import Derived.Test.YtoajfnkhonegnaaG7
import Derived.RegionTactic
/-
  A range over a function whose body calls what writes maps: the invariant is told of the loop's own two blocks, and the body keeps these. Conditions: the loop stands in no other one.
-/
namespace Go.Proofs.Ytoajfnkhonegnaa.Cd
open Go.RowKit

/-- The loop's two blocks lie as they lay. -/
def Two (b : Nat) (W W' : World) : Prop := W'.heap[b]? = W.heap[b]? ∧ W'.heap[b + 1]? = W.heap[b + 1]?
/-- How a round may be left. -/
def roundEnds (b : Nat) (J : World → Prop) (Jx : Code → World → Prop) (W : World) : Exit → Act → World → Prop
  | .normal, _, W' => Two b W W' ∧ J W'
  | .ret, _, W' => Two b W W' ∧ Jx .ret W'
  | .exit i, _, W' => Two b W W' ∧ Jx (.exit i) W'
  | .goto t, _, W' => Two b W W' ∧ Jx (.goto t) W'
  | .panic _, _, _ => False
  | .outgrown, _, _ => False
/-- What stays behind steps that turn nothing that lay, and behind a turn of block r. -/
def Stays (r : Nat) (J : World → Prop) : Prop := (∀ A B, J A → Below A.heap.size A B → J B) ∧ ∀ A o, J A → J (A.putObj r o)
/-- What an iterator is asked: it hands the items over, one behind the other, up to a round that says no. -/
def Hands {α : Type} (F : Fence) (n : Nat) (P : Program) (gf : Nat) (lb : Array Value) (encs : α → Array Value) (xs : List α) (Box : World → Prop) : Prop :=
  ∀ (l : Nat) (J Jx : Nat → World → Prop) (W : World),
    (∀ k A B, J k A → Below A.heap.size A B → J k B) → (∀ k A B, Jx k A → Below A.heap.size A B → Jx k B) → (∀ k A, J k A → Box A) →
    (∀ k x A, xs[k]? = some x → J k A → YieldAt F (n - 1) P l (encs x) A fun e A' => (e = .returned (.bool true) ∧ J (k + 1) A') ∨ (e = .returned (.bool false) ∧ Jx (k + 1) A')) →
    J 0 W → CallsIn F n P gf (#[.func (.yield l) #[] #[]] ++ lb) W fun e W' => (∃ v, e = .returned v) ∧ (J xs.length W' ∨ ∃ k, k ≤ xs.length ∧ Jx k W')

variable {F : Fence} {n : Nat} {P : Program}

theorem two_put {b : Nat} (W : World) {r : Nat} (o : Obj) (h : b ≠ r) : (W.putObj r o).heap[b]? = W.heap[b]? := World.putObj_heap_other h

theorem wpIn_range {α : Type} {g : Operand} {ps : Array Tmp} {assign body : Code} {Q : Exit → Act → World → Prop} {a : Act} {w : World} (hro : F.round = none) (h1 : 1 ≤ n) {gf : Nat} {lb : Array Value} (hg : a.eval g = .func (.func gf) #[] lb) (hFg : F.fn gf)
    (eg : ∀ args w, (callFunc gf args).run P w = .ok (.enter gf args) w) {encs : α → Array Value} (hps : ∀ x, (encs x).size = ps.size) (xs : List α) (Box : World → Prop) (hseq : Hands F (n - 1) P gf lb encs xs Box)
    (I : Nat → World → Prop) (Ix : Code → Nat → World → Prop) (hI : ∀ k, Stays (w.heap.size + 1) (I k)) (hIx : ∀ c k, Stays (w.heap.size + 1) (Ix c k)) (hBox : ∀ k A, I k A → Box A)
    (h0 : ∀ o, I 0 ((w.alloc (.deferred (some []))).alloc o)) (a₁ : α → Act)
    (hassign : ∀ (l : Nat) (x : α) (W : World) (K : Act → World → Prop), K (a₁ x) W → assign.wpIn (F.inRound l) (n - 1 - 1) P (Exit.then K (fun _ _ _ => False)) { tmps := (ps.zip (encs x)).foldl (fun t (p, v) => t.setIfInBounds p v) a.tmps, defers := [] } W)
    (hbody : ∀ (k : Nat) (x : α) (W : World), xs[k]? = some x → I k W → w.heap.size + 1 < W.heap.size → body.wpIn (F.inRound (w.heap.size + 1)) (n - 1 - 1) P (roundEnds w.heap.size (I (k + 1)) (fun c => Ix c (k + 1)) W) (a₁ x) W)
    (hdone : ∀ W, I xs.length W → W.heap[w.heap.size]? = some (.deferred (some [])) → Q .normal { a with defers := { target := .collected w.heap.size, args := #[] } :: a.defers } W)
    (hstop : ∀ (c : Code) (k : Nat) (W : World), k ≤ xs.length → Ix c k W → W.heap[w.heap.size]? = some (.deferred (some [])) → c.wpIn F n P Q { a with defers := { target := .collected w.heap.size, args := #[] } :: a.defers } W) :
    (Code.rangeFunc g ps assign body).wpIn F n P Q a w := by
  refine wpIn_rangeFunc ?_
  intro fn hfn
  rw [hro]
  obtain ⟨b, hb⟩ : ∃ b, w.heap.size = b := ⟨_, rfl⟩
  let rec_ : LoopState → Option Code → Obj := fun st pe => .loop { state := st, pending := pe, fn, tmps := a.tmps, params := ps, assign, body, defers := b }
  have hW : ∀ o, (((w.alloc (.deferred (some []))).alloc o).heap[b + 1]? = some o) ∧ (((w.alloc (.deferred (some []))).alloc o).heap[b]? = some (.deferred (some []))) := by
    intro o
    have e1 := World.alloc_heap_new (w.alloc (.deferred (some []))) o
    rw [World.size_alloc, hb] at e1
    have e2 := World.alloc_heap_new w (.deferred (some []))
    rw [hb] at e2
    exact ⟨e1, (Below.heap_alloc _ _ _ (by simp; omega)).trans e2⟩
  refine ⟨b + 1, [{ target := .collected b, args := #[] }], (w.alloc (.deferred (some []))).alloc (rec_ .ready none), { target := .fn (.func gf) lb, args := #[.func (.yield (b + 1)) #[] #[]] }, (w.alloc (.deferred (some []))).alloc (rec_ .ready none), gf, #[.func (.yield (b + 1)) #[] #[]] ++ lb, (w.alloc (.deferred (some []))).alloc (rec_ .ready none), ?_, ?_, fun f' hf' => ?_, ?_, fun _ => h1, ?_⟩
  · rw [← hb]
    have := run_enterLoop_outer (P := P) (w := w) fn a.tmps ps assign body
    rw [this]
    simp only [rec_, hb]
  · simp only [resolve, hg]
    simp [go_sem]
  · have hf' : some gf = some f' := by simpa [Target.leads] using hf'
    injection hf' with hf'
    rw [← hf']
    exact hFg
  · simp [invoke, go_sem, eg]
  simp only [hb] at hI hIx hbody hdone hstop ⊢
  refine (hseq (b + 1) (fun k W => I k W ∧ W.heap[b + 1]? = some (rec_ .ready none) ∧ W.heap[b]? = some (.deferred (some [])))
    (fun k W => ∃ c, Ix c k W ∧ W.heap[b + 1]? = some (rec_ .done (some c)) ∧ W.heap[b]? = some (.deferred (some []))) _ ?_ ?_ ?_ ?_ ⟨h0 _, (hW _).1, (hW _).2⟩).mono ?_
  · rintro k A B ⟨h1, h2, h3⟩ hAB
    exact ⟨(hI k).1 A B h1 hAB, (hAB.block _ (Array.getElem?_eq_some_iff.1 h2).1).trans h2, (hAB.block _ (Array.getElem?_eq_some_iff.1 h3).1).trans h3⟩
  · rintro k A B ⟨c, h1, h2, h3⟩ hAB
    exact ⟨c, (hIx c k).1 A B h1 hAB, (hAB.block _ (Array.getElem?_eq_some_iff.1 h2).1).trans h2, (hAB.block _ (Array.getElem?_eq_some_iff.1 h3).1).trans h3⟩
  · rintro k A ⟨h1, _⟩
    exact hBox k A h1
  · rintro k x W hx ⟨hi, hl, hk⟩
    have hlt : b + 1 < W.heap.size := (Array.getElem?_eq_some_iff.1 hl).1
    have hy := run_yield (P := P) (args := encs x) hl (hps x)
    refine ⟨fn, _, assign, body, hy, roundIn_of_wpIn hfn (hassign _ x W _ ⟨_, run_beginRound hl rfl, ?_⟩)⟩
    have hl2 : (W.putObj (b + 1) (rec_ .busy none)).heap[b + 1]? = some (rec_ .busy none) := World.putObj_heap_same hlt
    have hk2 : (W.putObj (b + 1) (rec_ .busy none)).heap[b]? = some (.deferred (some [])) := (two_put W _ (by omega)).trans hk
    refine wpIn_mono (hbody k x _ hx ((hI k).2 _ _ hi) (by rw [World.putObj_size]; exact hlt)) ?_
    have fin : ∀ (jump : Option Code) (W3 : World), Two b (W.putObj (b + 1) (rec_ .busy none)) W3 →
        (Instr.endRound (b + 1) jump).run P W3 = .ok (.bool jump.isNone) (W3.putObj (b + 1) (rec_ (if jump.isNone then .ready else .done) jump)) ∧
          (W3.putObj (b + 1) (rec_ (if jump.isNone then .ready else .done) jump)).heap[b + 1]? = some (rec_ (if jump.isNone then .ready else .done) jump) ∧
          (W3.putObj (b + 1) (rec_ (if jump.isNone then .ready else .done) jump)).heap[b]? = some (.deferred (some [])) := by
      rintro jump W3 ⟨t1, t2⟩
      have h3 : W3.heap[b + 1]? = some (rec_ .busy none) := t2.trans hl2
      exact ⟨run_endRound jump h3, World.putObj_heap_same (Array.getElem?_eq_some_iff.1 h3).1, (two_put W3 _ (by omega)).trans (t1.trans hk2)⟩
    rintro e a3 W3 hp
    cases e with
    | normal =>
      obtain ⟨r1, r2, r3⟩ := fin none W3 hp.1
      exact ⟨_, _, r1, .inl ⟨rfl, (hI _).2 _ _ hp.2, r2, r3⟩⟩
    | ret =>
      obtain ⟨r1, r2, r3⟩ := fin (some .ret) W3 hp.1
      exact ⟨_, _, r1, .inr ⟨rfl, _, (hIx _ _).2 _ _ hp.2, r2, r3⟩⟩
    | exit i =>
      obtain ⟨r1, r2, r3⟩ := fin (some (.exit i)) W3 hp.1
      exact ⟨_, _, r1, .inr ⟨rfl, _, (hIx _ _).2 _ _ hp.2, r2, r3⟩⟩
    | goto t =>
      obtain ⟨r1, r2, r3⟩ := fin (some (.goto t)) W3 hp.1
      exact ⟨_, _, r1, .inr ⟨rfl, _, (hIx _ _).2 _ _ hp.2, r2, r3⟩⟩
    | panic ch => exact hp.elim
    | outgrown => exact hp.elim
  · rintro e W2 ⟨⟨v, rfl⟩, (⟨hi, hl, hk⟩ | ⟨k, hk', c, hi, hl, hk⟩)⟩
    · exact ⟨none, _, run_endLoop hl (by simp), hdone _ ((hI _).2 _ _ hi) ((two_put W2 _ (by omega)).trans hk)⟩
    · exact ⟨some c, _, run_endLoop hl (by simp), hstop c k _ hk' ((hIx c k).2 _ _ hi) ((two_put W2 _ (by omega)).trans hk)⟩

end Go.Proofs.Ytoajfnkhonegnaa.Cd

/-
  A disk in the midst of a call that has blocks of its own: which of these are none of the disk's; bytes that lie in no block of the disk's. Conditions: none.
-/
namespace Go.Proofs.Ytoajfnkhonegnaa.Cd
open Go.RowKit

/-- A slice of bytes that lies in no block of S. -/
def Far (w : World) (S : Nat → Prop) (v : Value) (bs : List UInt8) : Prop := Sl w w.heap.size v bs ∧ (0 < bs.length → ∀ A n c, v = .slice (some A) n c → ¬ S A.block)

theorem Far.apart {w w' : World} {S : Nat → Prop} {v : Value} {bs : List UInt8} (h : Far w S v bs) (ha : Apart S w w') : Far w' (since S w w') v bs := by
  obtain ⟨⟨A, c, h1, h2, h3, h4, h5, h6⟩, h7⟩ := h
  refine ⟨⟨A, c, h1, h2, h3, h4, fun ad e h0 => by have := h5 ad e h0; have := ha.size; omega, fun ad e j u hu => ?_⟩, fun h0 A' n c' e hs => ?_⟩
  · have hj : j < bs.length := by have := (List.getElem?_eq_some_iff.1 hu).1; rwa [vb_length] at this
    rw [ha.cell (p := ad.add j) (by rw [block_of_add]; exact h5 ad e (by omega)) (by rw [block_of_add]; rw [e] at h1; exact h7 (by omega) ad _ _ h1)]
    exact h6 ad e j u hu
  · rw [h1] at e
    injection e with e _ _
    rcases hs with hs | hs
    · rw [e] at h1; exact h7 h0 A' _ _ h1 hs
    · have := h5 A' e h0; omega
theorem Far.below {w w' : World} {S : Nat → Prop} {v : Value} {bs : List UInt8} (h : Far w S v bs) (hb : Below w.heap.size w w') : Far w' S v bs := ⟨(h.1.below hb).more hb.size, h.2⟩
theorem Far.less {w : World} {S T : Nat → Prop} {v : Value} {bs : List UInt8} (h : Far w S v bs) (hst : ∀ k, k < w.heap.size → T k → S k) : Far w T v bs := by
  refine ⟨h.1, fun h0 A n c e ht => h.2 h0 A n c e (hst _ ?_ ht)⟩
  obtain ⟨⟨A', c', h1, _, _, _, h5, _⟩, _⟩ := h
  rw [h1] at e
  injection e with e _ _
  exact h5 A e h0

section
variable {w w1 w2 : World} {g N M : Nat} {S : Nat → Prop} {D : Dsk} {v : Value} {e : Ending}
theorem DkS.more {T : Nat → Prop} (h : DkS w g N S D) (hs : ∀ k, S k → T k) (ht : ∀ k, T k → k < w.heap.size) : DkS w g N T D := by
  obtain ⟨P, h1, h2⟩ := h
  exact ⟨P, h1.more hs ht, h2⟩
theorem since_iff {k : Nat} (h1 : w.heap.size ≤ w1.heap.size) (h2 : w1.heap.size ≤ w2.heap.size) : since (since S w w1) w1 w2 k ↔ since S w w2 k := since_trans h1 h2 k
theorem DkS.since (h : DkS w2 g N (since (since S w w1) w1 w2) D) (h1 : w.heap.size ≤ w1.heap.size) (h2 : w1.heap.size ≤ w2.heap.size) : DkS w2 g N (Cd.since S w w2) D :=
  h.more (fun _ hk => (since_iff h1 h2).1 hk) (fun k hk => h.lt k ((since_iff h1 h2).2 hk))
theorem MakesD.up (h1 : Apart S w w1) (h : MakesD g N (Cd.since S w w1) D v w1 e w2) : MakesD g N S D v w e w2 := ⟨h.1, h.2.1.since h1.size h.2.2.size, h1.trans h.2.2⟩
theorem MakesD.grow (h : MakesD g N S D v w e w1) (hN : N ≤ M) (hM : M ≤ 137438953472) : MakesD g M S D v w e w1 := ⟨h.1, h.2.1.mono hN hM, h.2.2⟩
theorem MakesD.undrew (h : MakesD g N S D v w.drew e w1) : MakesD g N S D v w e w1 := ⟨h.1, h.2.1, ⟨h.2.2.os, h.2.2.tape, h.2.2.output, h.2.2.size, h.2.2.block⟩⟩
/-- Nothing was done to the disk. -/
theorem makesD_same (h : DkS w g N S D) (hb : Below w.heap.size w w1) (hN : N ≤ M) (hM : M ≤ 137438953472) : MakesD g M S D v w (.returned v) w1 := by
  have h2 := (h.mono hN hM).below hb
  refine ⟨rfl, h2.more (fun _ => .inl) (fun k hk => ?_), Apart.below hb⟩
  rcases hk with hk | hk
  · exact h2.lt k hk
  · exact hk.2
theorem DkS.into (h : DkS w g N S D) (hb : Below w.heap.size w w1) : DkS w1 g N (Cd.since S w w1) D := (makesD_same (v := .bool true) (M := N) h hb (Nat.le_refl _) (by obtain ⟨P, h1, _⟩ := h; exact h1.fits.top)).2.1
end

/-- A box. -/
def BoxAt (W : World) (r : Nat) (v : Value) (T : TypeId) : Prop := W.heap[r]? = some (.cells #[v] T)
section
variable {W W' : World} {r : Nat} {v u : Value} {T : TypeId}
theorem BoxAt.cell (h : BoxAt W r v T) : W.cell? ⟨r, 0, none⟩ = some v := cell_of_row _ _ 0 _ _ _ h
theorem BoxAt.frozen (h : BoxAt W r v T) : W.frozen? ⟨r, 0, none⟩ = false := by
  have h : W.heap[r]? = _ := h
  unfold World.frozen?
  simp only [h]
  rfl
theorem BoxAt.lt (h : BoxAt W r v T) : r < W.heap.size := (Array.getElem?_eq_some_iff.1 h).1
theorem BoxAt.new (W : World) (v : Value) (T : TypeId) : BoxAt (W.alloc (.cells #[v] T)) W.heap.size v T := heap_alloc_new W _
theorem BoxAt.alloc (h : BoxAt W r v T) (o : Obj) : BoxAt (W.alloc o) r v T := (Below.heap_alloc _ _ _ h.lt).trans h
theorem BoxAt.on (h : BoxAt W r v T) (he : W'.heap[r]? = W.heap[r]?) : BoxAt W' r v T := he.trans h
theorem BoxAt.set (h : BoxAt W r v T) (u : Value) : BoxAt (W.setCell ⟨r, 0, none⟩ u) r u T := by
  have h : W.heap[r]? = _ := h
  unfold BoxAt World.setCell
  simp [Array.getElem?_modify, h]
end

/-- Since w: the disk at g is D; its blocks are those of S and newer ones; the blocks of keep are none of them. -/
def InP (w : World) (S : Nat → Prop) (g : Nat) (keep : List Nat) (M : Nat) (D : Dsk) (W : World) : Prop :=
  ∃ T : Nat → Prop, DkS W g M T D ∧ (∀ j, T j → S j ∨ w.heap.size ≤ j) ∧ (∀ r ∈ keep, ¬ T r ∧ r < W.heap.size) ∧ Apart S w W

section
variable {w W W' : World} {S : Nat → Prop} {p g M N : Nat} {n bs : List UInt8} {keep : List Nat} {D D' : Dsk} {v u : Value} {e : Ending}

theorem inP_start (hd : DkS w g M S D) : InP w S g [] M D w := ⟨S, hd, fun _ => .inl, by simp, Apart.refl _ _⟩
theorem InP.size (h : InP w S g keep M D W) : w.heap.size ≤ W.heap.size := by obtain ⟨T, _, _, _, h4⟩ := h; exact h4.size
theorem InP.apartS (h : InP w S g keep M D W) : Apart S w W := by obtain ⟨T, _, _, _, h4⟩ := h; exact h4
theorem InP.below (h : InP w S g keep M D W) (hb : Below W.heap.size W W') : InP w S g keep M D W' := by
  obtain ⟨T, h1, h2, h3, h4⟩ := h
  exact ⟨T, h1.below hb, h2, fun r hr => ⟨(h3 r hr).1, Nat.lt_of_lt_of_le (h3 r hr).2 hb.size⟩, h4.trans (Apart.below hb)⟩
/-- A block that was laid a moment ago. -/
theorem InP.lay (h : InP w S g keep M D W) (o : Obj) : InP w S g (W.heap.size :: keep) M D (W.alloc o) := by
  have hb : Below W.heap.size W (W.alloc o) := (Below.refl _ _).alloc (Nat.le_refl _) _
  obtain ⟨T, h1, h2, h3, h4⟩ := h.below hb
  obtain ⟨T0, k1, k2, k3, k4⟩ := h
  refine ⟨T0, k1.below hb, k2, fun r hr => ?_, h4⟩
  rcases List.mem_cons.1 hr with rfl | hr
  · exact ⟨fun e => by have := k1.lt _ e; omega, by simp⟩
  · exact ⟨(k3 r hr).1, Nat.lt_of_lt_of_le (k3 r hr).2 hb.size⟩
theorem InP.fewer {keep' : List Nat} (h : InP w S g keep M D W) (hk : ∀ r ∈ keep', r ∈ keep) : InP w S g keep' M D W := by
  obtain ⟨T, h1, h2, h3, h4⟩ := h
  exact ⟨T, h1, h2, fun r hr => h3 r (hk r hr), h4⟩
theorem InP.grow (h : InP w S g keep M D W) (hN : M ≤ N) (hM : N ≤ 137438953472) : InP w S g keep N D W := by
  obtain ⟨T, h1, h2, h3, h4⟩ := h
  exact ⟨T, h1.mono hN hM, h2, h3, h4⟩
/-- A block of the call's own is written. -/
theorem InP.set (h : InP w S g keep M D W) {r o : Nat} (hr : r ∈ keep) (hw : w.heap.size ≤ r) (u : Value) : InP w S g keep M D (W.setCell ⟨r, o, none⟩ u) := by
  obtain ⟨T, h1, h2, h3, h4⟩ := h
  have ha : Apart (fun j => j = r) W (W.setCell ⟨r, o, none⟩ u) := ⟨rfl, rfl, rfl, by simp, fun j _ hj => heap_setCell_other _ _ _ _ hj⟩
  refine ⟨T, h1.apart ha (fun j hj e => (h3 r hr).1 (by rw [← e]; exact hj)), h2, fun q hq => ⟨(h3 q hq).1, by simpa using (h3 q hq).2⟩, ⟨h4.os, h4.tape, h4.output, by simpa using h4.size, fun j hj hn => ?_⟩⟩
  exact (heap_setCell_other _ _ _ _ (fun e => by have e : j = r := e; omega)).trans (h4.block j hj hn)
theorem InP.put (h : InP w S g keep M D W) {r : Nat} (hr : r ∈ keep) (hw : w.heap.size ≤ r) (o : Obj) : InP w S g keep M D (W.putObj r o) := by
  obtain ⟨T, h1, h2, h3, h4⟩ := h
  have ha : Apart (fun j => j = r) W (W.putObj r o) := ⟨rfl, rfl, rfl, by simp, fun j _ hj => World.putObj_heap_other hj⟩
  refine ⟨T, h1.apart ha (fun j hj e => (h3 r hr).1 (by rw [← e]; exact hj)), h2, fun q hq => ⟨(h3 q hq).1, by simpa using (h3 q hq).2⟩, ⟨h4.os, h4.tape, h4.output, by simpa using h4.size, fun j hj hn => ?_⟩⟩
  exact (World.putObj_heap_other (fun e => by omega)).trans (h4.block j hj hn)
/-- What a call leaves that did all this. -/
theorem InP.makes (h : InP w S g keep M D W) (hS : ∀ k, S k → k < w.heap.size) (v : Value) : MakesD g M S D v w (.returned v) W := by
  obtain ⟨T, h1, h2, h3, h4⟩ := h
  refine ⟨rfl, h1.more (fun k hk => ?_) (fun k hk => ?_), h4⟩
  · rcases h2 k hk with h | h
    · exact .inl h
    · exact .inr ⟨h, h1.lt k hk⟩
  · rcases hk with hk | hk
    · exact Nat.lt_of_lt_of_le (hS k hk) h4.size
    · exact hk.2
end

section
variable {w W : World} {S : Nat → Prop} {g M : Nat} {keep : List Nat} {D : Dsk}
/-- What was handed in is as it was, and what a call on the disk leaves. -/
theorem InP.go (h : InP w S g keep M D W) : ∃ T, DkS W g M T D ∧ (∀ v bs, Far w S v bs → Far W T v bs) ∧ (∀ k, k < w.heap.size → ¬ S k → W.heap[k]? = w.heap[k]? ∧ ¬ T k) ∧ (∀ j, T j → S j ∨ w.heap.size ≤ j) ∧
    ∀ e v N D' W', MakesD g N T D' v W e W' → InP w S g keep N D' W' ∧ (∀ r ∈ keep, W'.heap[r]? = W.heap[r]?) ∧ W.heap.size ≤ W'.heap.size ∧ Apart T W W' := by
  obtain ⟨T, h1, h2, h3, h4⟩ := h
  have hless : ∀ k, k < W.heap.size → T k → since S w W k := fun k hk ht => by
    rcases h2 k ht with h | h
    · exact .inl h
    · exact .inr ⟨h, hk⟩
  refine ⟨T, h1, fun v bs hf => (hf.apart h4).less hless, fun k hk hn => ⟨h4.block k hk hn, fun ht => ?_⟩, h2, fun e v N D' W' hm => ?_⟩
  · rcases h2 k ht with h | h
    · exact hn h
    · omega
  obtain ⟨_, m2, m3⟩ := hm
  refine ⟨⟨since T W W', m2, fun j hj => ?_, fun r hr => ⟨fun e => ?_, Nat.lt_of_lt_of_le (h3 r hr).2 m3.size⟩, ?_⟩, fun r hr => m3.block r (h3 r hr).2 (h3 r hr).1, m3.size, m3⟩
  · rcases hj with hj | hj
    · exact h2 j hj
    · exact .inr (by have := h4.size; omega)
  · rcases e with e | e
    · exact (h3 r hr).1 e
    · have := (h3 r hr).2; omega
  · refine ⟨m3.os.trans h4.os, m3.tape.trans h4.tape, m3.output.trans h4.output, Nat.le_trans h4.size m3.size, fun j hj hn => ?_⟩
    exact (m3.block j (Nat.lt_of_lt_of_le hj h4.size) (fun ht => by rcases h2 j ht with h | h; exact hn h; omega)).trans (h4.block j hj hn)
end

end Go.Proofs.Ytoajfnkhonegnaa.Cd

/-
  Inside a round of a loop over a function: an operation and a region that draws its order are shown as they are elsewhere. Conditions: no statement of the region defers a call.
-/
namespace Go.Proofs.Ytoajfnkhonegnaa.Cd

section
variable {P : Program} {ops : Array Oper} {Q : Exit → Act → World → Prop} {l n : Nat}

theorem calls_round {f : FuncId} {args : Array Value} {w : World} {R : Ending → World → Prop} (h : Calls P f args w R) : CallsIn (Fence.wide.inRound l) n P f args w R := CallsIn.inRound l (callsIn_wide.2 h)

theorem oper_round {o : Oper} {a : Act} {w : World} {K : Act → World → Prop} (hd : ∀ c, o.op ≠ .defer c) (h : o.wp P a w K Q) : o.wpIn (Fence.wide.inRound l) n P a w K Q := by
  unfold Oper.wpIn
  refine ⟨fun _ _ => trivial, ?_⟩
  show o.uponIn _ n P a K Q ((o.semAt (some l) a.eval).run P w)
  rw [Oper.semAt_some _ _ _ hd]
  unfold Oper.wp at h
  generalize (execOp a.eval o).run P w = r at h ⊢
  have hn : (Fence.wide.inRound l).depth.isSome = true → 1 ≤ n := fun h => by cases h
  cases r with
  | ok x w' =>
    cases x with
    | value v => exact h
    | skip => exact h
    | defer d => exact h
    | enter f args => exact ⟨hn, CallsIn.mono (calls_round h) (fun e w'' he => by cases e <;> exact he)⟩
    | row row args => exact ⟨hn, fun c cs _ => let ⟨v, w', r, s⟩ := h c cs; ⟨v, w', r, stepsIn_wide.2 s⟩⟩
    | _ => exact h.elim
  | halt x w' =>
    cases x with
    | panic v => exact h
    | _ => exact h.elim

def noDefer (ops : Array Oper) : Bool := ops.toList.all fun o => match o.op with | .defer _ => false | _ => true
theorem noDefer_at (h : noDefer ops = true) {i : Nat} {o : Oper} (ho : ops[i]? = some o) : ∀ c, o.op ≠ .defer c := by
  intro c e
  have hm : o ∈ ops.toList := by
    have := (Array.getElem?_eq_some_iff.1 ho)
    obtain ⟨hi, rfl⟩ := this
    exact Array.getElem_mem_toList hi
  have := List.all_eq_true.1 h o hm
  rw [e] at this
  cases this

theorem wpOp_round {i : Nat} {a : Act} {w : World} {K : Act → World → Prop} (hlo : ¬ LetsOut Q) (hd : noDefer ops = true) (h : wpOp P ops Q i K a w) : wpOpIn (Fence.wide.inRound l) n P ops Q i K a w := by
  unfold wpOp at h
  unfold wpOpIn
  cases ho : ops[i]? with
  | none => rw [ho] at h; exact h
  | some o =>
    rw [ho] at h
    simp only at h ⊢
    split at h
    · rename_i hw
      rw [if_pos hw]
      rcases h with h | h
      · exact oper_round (noDefer_at hd ho) h
      · exact absurd h.2 hlo
    · rename_i hw
      rw [if_neg hw]
      exact ⟨fun _ _ => trivial, h⟩

theorem wpAny_round (hlo : ¬ LetsOut Q) (hd : noDefer ops = true) : ∀ (fuel : Nat) (listed : Array Bool) (a : Act) (w : World), wpAny P .any ops Q fuel listed a w → wpAnyIn (Fence.wide.inRound l) n P .any ops Q fuel listed a w := by
  intro fuel
  induction fuel with
  | zero => intro listed a w h; exact h
  | succ fuel ih => intro listed a w h; exact ⟨h.1, fun i hi => wpOpIn_mono (fun a' w' h' => ih _ a' w' h') (wpOp_round hlo hd (h.2 i hi))⟩

/-- A region that draws its order, in a round: S holds from the draw on. -/
theorem region_round {S : World → Prop} {id : Nat} {a : Act} {w W0 : World} (hW : w.drew = W0) (hm : P.follows .mixedOrders = true) (hlo : ¬ LetsOut Q) (hd : noDefer ops = true) (hS : S W0)
    (h : S W0 → wpAnyH P .any ops Q S ops.size (Array.replicate ops.size false) a W0) : (Code.region id ops true).wpIn (Fence.wide.inRound l) n P Q a w := by
  subst hW
  exact wpIn_region_any hm (wpAny_round hlo hd _ _ _ _ (wpAny_of_held _ _ _ _ (h hS)))
end

end Go.Proofs.Ytoajfnkhonegnaa.Cd

/-
  Slices of strings: how they read, how they grow. Conditions: none.
-/
namespace Go.Proofs.Ytoajfnkhonegnaa.Cd
open Go.RowKit Go.ChangeShapes Go.WideShapes Go.Deep

/-- Texts as cells. -/
def vs (l : List (List UInt8)) : List Value := l.map fun s => Value.string ⟨s.toArray⟩
theorem vs_length (l : List (List UInt8)) : (vs l).length = l.length := by simp [vs]
theorem vs_append (a b : List (List UInt8)) : vs (a ++ b) = vs a ++ vs b := by simp [vs]
theorem vs_at (l : List (List UInt8)) (j : Nat) (hj : j < l.length) : (vs l)[j]? = some (.string ⟨l[j].toArray⟩) := by simp [vs, hj]
theorem vs_one (l : List (List UInt8)) : ∀ u ∈ vs l, u.oneCell' = true := by
  intro u hu
  simp only [vs, List.mem_map] at hu
  obtain ⟨b, _, rfl⟩ := hu
  rfl

/-- A slice value that reads as the texts 'l'. -/
def Strs (w : World) (B : Nat) (v : Value) (l : List (List UInt8)) : Prop :=
  ∃ A c, v = .slice A l.length c ∧ l.length ≤ c ∧ c ≤ maxLen ∧ (A = none → c = 0) ∧
    (0 < l.length → ∃ b off, A = some ⟨b, off, none⟩ ∧ b < B ∧ ∀ j u, (vs l)[j]? = some u → w.cell? ⟨b, off + j, none⟩ = some u)

theorem Strs.below {w w' : World} {B : Nat} {v : Value} {l : List (List UInt8)} (h : Strs w B v l) (hb : Below B w w') : Strs w' B v l := by
  obtain ⟨A, c, h1, h2, h3, h4, h5⟩ := h
  refine ⟨A, c, h1, h2, h3, h4, fun h0 => ?_⟩
  obtain ⟨b, off, e, hB, hc⟩ := h5 h0
  exact ⟨b, off, e, hB, fun j u hu => (hb.cell (p := ⟨b, off + j, none⟩) hB).trans (hc j u hu)⟩

theorem Strs.more {w : World} {B B' : Nat} {v : Value} {l : List (List UInt8)} (h : Strs w B v l) (hB : B ≤ B') : Strs w B' v l := by
  obtain ⟨A, c, h1, h2, h3, h4, h5⟩ := h
  refine ⟨A, c, h1, h2, h3, h4, fun h0 => ?_⟩
  obtain ⟨b, off, e, hB', hc⟩ := h5 h0
  exact ⟨b, off, e, Nat.lt_of_lt_of_le hB' hB, hc⟩

theorem Strs.len {w : World} {B : Nat} {v : Value} {l : List (List UInt8)} (h : Strs w B v l) : ∃ A c, v = .slice A l.length c ∧ l.length ≤ c ∧ c ≤ maxLen := by
  obtain ⟨A, c, h1, h2, h3, _⟩ := h
  exact ⟨A, c, h1, h2, h3⟩

theorem Strs.at {w : World} {B : Nat} {v : Value} {l : List (List UInt8)} (h : Strs w B v l) (h0 : 0 < l.length) :
    ∃ b off c, v = .slice (some ⟨b, off, none⟩) l.length c ∧ l.length ≤ c ∧ c ≤ maxLen ∧ b < B ∧ ∀ j (hj : j < l.length), w.cell? ⟨b, off + j, none⟩ = some (.string ⟨l[j].toArray⟩) := by
  obtain ⟨A, c, rfl, h2, h3, h4, h5⟩ := h
  obtain ⟨b, off, rfl, hB, hc⟩ := h5 h0
  exact ⟨b, off, c, rfl, h2, h3, hB, fun j hj => hc j _ (vs_at l j hj)⟩

theorem Strs.take {w : World} {B : Nat} {A : Option Addr} {L c : Nat} {l : List (List UInt8)} (h : Strs w B (.slice A L c) l) (k : Nat) (hk : k ≤ l.length) : Strs w B (.slice A k c) (l.take k) := by
  obtain ⟨A', c', e, h2, h3, h4, h5⟩ := h
  injection e with e1 e2 e3
  subst e1 e2 e3
  have hl : (l.take k).length = k := by rw [List.length_take]; omega
  refine ⟨A, c, by rw [hl], by rw [hl]; omega, h3, h4, fun h0 => ?_⟩
  rw [hl] at h0
  obtain ⟨b, off, e, hB, hc⟩ := h5 (by omega)
  refine ⟨b, off, e, hB, fun j u hu => hc j u ?_⟩
  have hj := (List.getElem?_eq_some_iff.1 hu).1
  rw [vs_length, hl] at hj
  rw [← hu]
  simp only [vs, List.map_take]
  rw [List.getElem?_take, if_pos hj]

/-- A row of texts of the call's own. -/
def OwnS (w : World) (B : Nat) (v : Value) (l : List (List UInt8)) : Prop := w.ownsRow B 9 1 v l.length (vs l)

theorem OwnS.nil (w : World) (B : Nat) : OwnS w B (.slice none 0 0) [] := World.ownsRow_nil _ _ _ _
theorem OwnS.alloc {w : World} {B : Nat} {v : Value} {l : List (List UInt8)} (h : OwnS w B v l) (o : Obj) : OwnS (w.alloc o) B v l := World.ownsRow.alloc h o
theorem OwnS.lower {w : World} {B B' : Nat} {v : Value} {l : List (List UInt8)} (h : OwnS w B v l) (hB : B' ≤ B) : OwnS w B' v l := by
  refine ⟨h.1, ?_⟩
  rcases h.2 with h2 | ⟨g, cap, cur, hv, hg, r⟩
  · exact .inl h2
  · exact .inr ⟨g, cap, cur, hv, Nat.le_trans hB hg, r⟩
theorem OwnS.keep {w w' : World} {B : Nat} {v : Value} {l : List (List UInt8)} (h : OwnS w B v l) (hb : Below w.heap.size w w') : OwnS w' B v l := by
  have hlt := h.lt
  refine ⟨h.1, ?_⟩
  rcases h.2 with h2 | ⟨g, cap, cur, rfl, hg, hh, r⟩
  · exact .inl h2
  · exact .inr ⟨g, cap, cur, rfl, hg, (hb.block g (hlt g rfl).2).trans hh, r⟩
/-- A block below the row's is written. -/
theorem OwnS.far {w w' : World} {B g : Nat} {v : Value} {l : List (List UInt8)} (h : OwnS w B v l) (hg : w.grownBy w' (some g)) (hlt0 : g < B) : OwnS w' B v l := by
  have hlt := h.lt
  refine ⟨h.1, ?_⟩
  rcases h.2 with h2 | ⟨g', cap, cur, rfl, hb, hh, r⟩
  · exact .inl h2
  · exact .inr ⟨g', cap, cur, rfl, hb, (hg.block g' (hlt g' rfl).2 (fun e => by injection e with e; omega)).trans hh, r⟩

theorem OwnS.strs {w : World} {B : Nat} {v : Value} {l : List (List UInt8)} (h : OwnS w B v l) : Strs w w.heap.size v l := by
  have hlt := h.lt
  have hc := fun g hg => h.cells (g := g) hg
  rcases h.2 with ⟨rfl, h0⟩ | ⟨g, cap, cur, rfl, _, hg, hn, hm, _, _⟩
  · have : l = [] := List.eq_nil_of_length_eq_zero h0
    subst this
    exact ⟨none, 0, rfl, by simp, by simp, fun _ => rfl, fun h => by simp at h⟩
  · refine ⟨_, cap, rfl, hn, hm, (fun h => by cases h), fun _ => ⟨g, 0, rfl, (hlt g rfl).2, fun j u hu => ?_⟩⟩
    have := hc g rfl j u hu
    rwa [Addr.add_lit] at this

theorem info_str : (Try.prog.info? 9).map (fun i => (i.zero, i.size, i.bytes)) = some (some (.string ByteArray.empty), 1, 16) := by kernel_rfl

/-- append of texts, onto a row of the call's own. -/
theorem run_append_strs (w : World) (B : Nat) (v : Value) (l : List (List UInt8)) (ho : OwnS w B v l) (hB : B ≤ w.heap.size) (x : Value) (B' : Nat) (ns : List (List UInt8)) (hx : Strs w B' x ns)
    (hm : l.length + ns.length ≤ 8796093022208) (ty : TypeId) :
    ∃ v' w', (Builtin.append_ #[22, 22] ty #[v, x]).run Try.prog w = .ok v' w' ∧ OwnS w' B v' (l ++ ns) ∧ Below B w w' := by
  obtain ⟨i0, hi, hz0, hz1, hz2⟩ := info_parts info_str
  have hmax : l.length + ns.length ≤ maxLen := by simp only [maxLen]; omega
  obtain ⟨A, c, rfl, _, _, h4, h6⟩ := hx
  by_cases h0 : 0 < ns.length
  · obtain ⟨b, off, rfl, _, hc⟩ := h6 h0
    obtain ⟨v', w', hr, h2, h3, _⟩ := run_append_own (P := Try.prog) w B 22 ty 9 i0 _ 1 16 Try.underlying22 hi hz0 hz1 hz2 rfl (by omega) v l.length (vs l) ho ⟨b, off, none⟩ ns.length c (vs ns) (by simp [vs]) (fun j u hu => by rw [Addr.add_lit]; exact hc j u hu) (vs_one ns) hmax (by omega) hB
    refine ⟨v', w', hr, ?_, (Below.refl _ _).grown h3 hB (fun k hk => (ho.lt k hk).1)⟩
    unfold OwnS
    rw [vs_append, List.length_append]
    exact h2
  · have hns : ns = [] := List.eq_nil_of_length_eq_zero (by omega)
    subst hns
    cases A with
    | some ad =>
      obtain ⟨v', w', hr, h2, h3, _⟩ := run_append_own (P := Try.prog) w B 22 ty 9 i0 _ 1 16 Try.underlying22 hi hz0 hz1 hz2 rfl (by omega) v l.length (vs l) ho ad 0 c [] rfl (fun j u hu => by simp at hu) (by simp) hmax (by simpa using by omega) hB
      refine ⟨v', w', hr, ?_, (Below.refl _ _).grown h3 hB (fun k hk => (ho.lt k hk).1)⟩
      unfold OwnS
      rw [vs_append, List.length_append]
      exact h2
    | none =>
      have hc := h4 rfl
      subst hc
      refine ⟨v, w, ?_, by simpa using ho, Below.refl _ _⟩
      rcases ho.2 with ⟨rfl, h0⟩ | ⟨g, cap, cur, rfl, _, _, hnc, _⟩
      · simp [Builtin.append_, run_underlying Try.underlying22, sizeOf, typeInfo, hi, Builtin.lenOf, Builtin.firstCells]
      · simp [Builtin.append_, run_underlying Try.underlying22, sizeOf, typeInfo, hi, Builtin.lenOf, Builtin.firstCells, hnc, storeCells]

/-- append of texts, for the walk. -/
theorem wp_append_strs {w : World} {ops : Array Oper} {rest : List Oper} {o : Oper} {a : Act} {Q : Exit → Act → World → Prop} (hgd : o.guard = none) (s x : Operand)
    (hop : o.op = .call { callee := .builtin .append, args := #[s, x], argTypes := #[22, 22] })
    (B : Nat) (v : Value) (l : List (List UInt8)) (hs : a.eval s = v) (ho : OwnS w B v l) (hB : B ≤ w.heap.size) (y : Value) (B' : Nat) (ns : List (List UInt8)) (hx : a.eval x = y) (hy : Strs w B' y ns)
    (hm : l.length + ns.length ≤ 8796093022208)
    (hK : ∀ v' w', OwnS w' B v' (l ++ ns) → Below B w w' → wpList Try.prog ops Q rest (a.put o.dst v') w') : wpList Try.prog ops Q (o :: rest) a w := by
  refine wpList_plain hgd fun K hK' => ?_
  obtain ⟨v', w', hrun, r1, r2⟩ := run_append_strs w B v l ho hB y B' ns hy hm o.type
  unfold Oper.wp
  simp [execOp, hop, resolve, invoke, builtin, hs, hx, hrun, Result.andThen]
  exact hK' _ _ (hK v' w' r1 r2)

/-- A row stays while another, older one grows. -/
theorem OwnS.apart {w w' : World} {B : Nat} {v : Value} {l : List (List UInt8)} {r : Option Nat} (h : OwnS w B v l) (hg : w.grownBy w' r) (hr : ∀ k, r = some k → k < B) : OwnS w' B v l :=
  World.ownsRow.kept h hg (by
    cases hv : v.ownBlock with
    | none => exact .inl rfl
    | some k => exact .inr fun e => by have h1 := (World.ownsRow.lt h k hv).1; have h2 := hr k e.symm; omega)

/-- append of bytes, for the walk: what else lies there stays. -/
theorem wp_append_far {w : World} {ops : Array Oper} {rest : List Oper} {o : Oper} {a : Act} {Q : Exit → Act → World → Prop} (hgd : o.guard = none) (s x : Operand)
    (hop : o.op = .call { callee := .builtin .append, args := #[s, x], argTypes := #[27, 27] })
    (B : Nat) (v : Value) (bs : List UInt8) (hs : a.eval s = v) (ho : Own w B v bs) (hB : B ≤ w.heap.size) (y : Value) (B' : Nat) (ns : List UInt8) (hx : a.eval x = y) (hy : Sl w B' y ns)
    (hm : bs.length + ns.length ≤ 140737488355328)
    (hK : ∀ v' w', Own w' B v' (bs ++ ns) → Below B w w' → w.grownBy w' v.ownBlock → wpList Try.prog ops Q rest (a.put o.dst v') w') : wpList Try.prog ops Q (o :: rest) a w := by
  refine wpList_plain hgd fun K hK' => ?_
  obtain ⟨i0, hi, hz0, hz1, hz2⟩ := info_parts info5
  have hmax : bs.length + ns.length ≤ maxLen := by simp only [maxLen]; omega
  obtain ⟨v', w', hrun, r1, r2, r3⟩ : ∃ v' w', (Builtin.append_ #[27, 27] o.type #[v, y]).run Try.prog w = .ok v' w' ∧ Own w' B v' (bs ++ ns) ∧ Below B w w' ∧ w.grownBy w' v.ownBlock := by
    obtain ⟨A, c, rfl, _, _, h4, _, h6⟩ := hy
    cases A with
    | some ad =>
      obtain ⟨v', w', hr, h2, h3, _⟩ := run_append_own (P := Try.prog) w B 27 o.type 5 i0 _ 1 1 Try.underlying27 hi hz0 hz1 hz2 rfl (by omega) v bs.length (vb bs) ho ad ns.length c (vb ns) (by simp [vb]) (h6 ad rfl) (vb_one ns) hmax (by omega) hB
      refine ⟨v', w', hr, ?_, (Below.refl _ _).grown h3 hB (fun k hk => (ho.lt k hk).1), h3⟩
      unfold Own
      rw [vb_append, List.length_append]
      exact h2
    | none =>
      have hc := h4 rfl
      subst hc
      have : ns = [] := List.eq_nil_of_length_eq_zero (by omega)
      subst this
      refine ⟨v, w, ?_, by simpa using ho, Below.refl _ _, ⟨rfl, rfl, rfl, Nat.le_refl _, fun _ _ _ => rfl⟩⟩
      rcases ho.2 with ⟨rfl, h0⟩ | ⟨g, cap, cur, rfl, _, _, hnc, _⟩
      · simp [Builtin.append_, run_underlying Try.underlying27, sizeOf, typeInfo, hi, Builtin.lenOf, Builtin.firstCells]
      · simp [Builtin.append_, run_underlying Try.underlying27, sizeOf, typeInfo, hi, Builtin.lenOf, Builtin.firstCells, hnc, storeCells]
  unfold Oper.wp
  simp [execOp, hop, resolve, invoke, builtin, hs, hx, hrun, Result.andThen]
  exact hK' _ _ (hK v' w' r1 r2 r3)

/-- One text, laid out a moment ago. -/
theorem strs_one (w : World) (s : List UInt8) (T : TypeId) : Strs (w.alloc (.cells #[.string ⟨s.toArray⟩] T)) (w.heap.size + 1) (.slice (some ⟨w.heap.size, 0, none⟩) 1 1) [s] :=
  ⟨_, 1, rfl, by simp, by simp [maxLen], (fun h => by cases h), fun _ => ⟨w.heap.size, 0, rfl, by omega, fun j u hu => by
    have hj := (List.getElem?_eq_some_iff.1 hu).1
    rw [vs_length] at hj
    obtain rfl : j = 0 := by simp at hj; omega
    have := cell_of_row (w.alloc (.cells #[.string ⟨s.toArray⟩] T)) w.heap.size 0 #[.string ⟨s.toArray⟩] T (0, 0) (heap_alloc_new w _)
    rw [this]
    simpa [vs] using hu⟩⟩

theorem owns_new (w : World) (B : Nat) (hB : B ≤ w.heap.size) : OwnS (w.alloc (.cells #[] 9)) B (.slice (some ⟨w.heap.size, 0, none⟩) 0 0) [] :=
  World.ownsRow_made (base := B) (e := 9) (size := 1) w #[] 0 hB (by simp) rfl

theorem cells_str : Try.prog.cellsOf 9 = 1 := by kernel_rfl
theorem bytes_str : Try.prog.bytesOf 9 = 16 := by kernel_rfl

theorem strs_of_trod {H : Type} {enc : TypeId × Value → H} {w : World} {v : Value} {d : DataW H} {ps : List MemPlace} (hv : ∃ A n c, v = .slice A n c)
    (h : DataW.Trod enc Try.prog w 0 (fun _ => true) true 22 v d ps) (hw : ∀ n ∈ d.weights Try.prog 22, n ≤ reachBytes) :
    ∃ l, Strs w w.heap.size v l ∧ ∀ p ∈ l, p.length ≤ 140737488351232 := by
  obtain ⟨A0, n0, c0, rfl⟩ := hv
  obtain ⟨fuel, hf⟩ := h
  rcases open_strs Try.underlying22 Try.underlying9 cells_str hf with ⟨hcs, _⟩ | ⟨a, len, cap, m, Sx, hcs, _, hl, hm, hmm, hx, hi⟩
  · simp [Value.cells] at hcs
    obtain ⟨rfl, rfl, rfl⟩ := hcs
    exact ⟨[], ⟨none, 0, rfl, by simp, by simp, fun _ => rfl, fun h => by simp at h⟩, by simp⟩
  · simp [Value.cells] at hcs
    obtain ⟨rfl, rfl, rfl⟩ := hcs
    have hmc : m = c0 := by rw [hmm]; simp
    have hlen : ((List.range n0).map fun i => (Sx i).data.toList).length = n0 := by simp
    refine ⟨(List.range n0).map fun i => (Sx i).data.toList, ⟨some a, c0, by rw [hlen], by rw [hlen]; exact hl, hm, (fun h => by cases h), fun hp => ?_⟩, ?_⟩
    · rw [hlen] at hp
      obtain ⟨b, off, spot⟩ := a
      have hc := (hi 0 (by omega)).1
      have hspot : spot = none := by simpa [Addr.add] using World.cell?_spot hc
      subst hspot
      refine ⟨b, off, rfl, ?_, fun j u hu => ?_⟩
      · have := World.block_lt_of_cell? w _ hc
        rwa [block_of_add] at this
      · have hj := (List.getElem?_eq_some_iff.1 hu).1
        rw [vs_length, hlen] at hj
        have := (hi j (by omega)).1
        rw [Addr.add_lit] at this
        rw [this, ← hu]
        simp [vs, hj]
    · intro p hp
      obtain ⟨i, hi2, rfl⟩ := List.mem_map.1 hp
      have hlt := List.mem_range.1 hi2
      have hd : d = .slice ((List.range n0).map fun i => .lit (.string (Sx i).data.toList)) ((List.range (m - n0)).map fun j => .lit (.string (Sx (n0 + j)).data.toList)) := by
        simp only [Prod.mk.injEq] at hx
        exact hx.1
      refine hw _ ?_
      rw [hd]
      simp only [DataW.weights, Try.underlying22]
      refine List.mem_cons_of_mem _ (List.mem_append_left _ (weightsAll_mem (d := .lit (.string (Sx i).data.toList)) (List.mem_map.2 ⟨i, hi2, rfl⟩) ?_))
      simp [DataW.weights]

end Go.Proofs.Ytoajfnkhonegnaa.Cd

/-
  code.Reader: Read, Good, fail, End. Conditions: none.
-/
namespace Go.Proofs.Ytoajfnkhonegnaa.Cd
open Go.RowKit

/-- Block g is a reader that has the bytes 'bs' left. -/
def Rd (w : World) (g : Nat) (bs : List UInt8) (bad : Bool) : Prop := w.heap[g]? = some (.cells #[.string ⟨bs.toArray⟩, .bool bad] 110 (0, 0))

section
variable {w w' : World} {g : Nat} {bs : List UInt8} {bad : Bool}
theorem Rd.lt (h : Rd w g bs bad) : g < w.heap.size := by
  rcases Nat.lt_or_ge g w.heap.size with hlt | hge
  · exact hlt
  · unfold Rd at h; rw [Array.getElem?_eq_none hge] at h; cases h
theorem Rd.cell0 (h : Rd w g bs bad) : w.cell? ⟨g, 0, none⟩ = some (.string ⟨bs.toArray⟩) := cell_of_row w g 0 _ _ (0, 0) h
theorem Rd.cell1 (h : Rd w g bs bad) : w.cell? ⟨g, 1, none⟩ = some (.bool bad) := cell_of_row w g 1 _ _ (0, 0) h
theorem Rd.frozen (h : Rd w g bs bad) (i : Nat) : w.frozen? ⟨g, i, none⟩ = false := by
  unfold Rd at h
  simp [World.frozen?, h]
theorem Rd.drew (h : Rd w g bs bad) : Rd w.drew g bs bad := h
theorem Rd.set0 (h : Rd w g bs bad) (cs : List UInt8) : Rd (w.setCell ⟨g, 0, none⟩ (.string ⟨cs.toArray⟩)) g cs bad := by
  unfold Rd at h ⊢
  simp [World.setCell, Array.getElem?_modify, h]
theorem Rd.set1 (h : Rd w g bs bad) (b : Bool) : Rd (w.setCell ⟨g, 1, none⟩ (.bool b)) g bs b := by
  unfold Rd at h ⊢
  simp [World.setCell, Array.getElem?_modify, h]
theorem Rd.below {B : Nat} (h : Rd w g bs bad) (hb : Below B w w') (hg : g < B) : Rd w' g bs bad := (hb.block g hg).trans h
end

/-- What a reader's call leaves: the reader as it is said, and else nothing of what was there has turned. -/
def Left (w : World) (g : Nat) (bs : List UInt8) (bad : Bool) (w' : World) : Prop := Rd w' g bs bad ∧ w.grownBy w' (some g)

theorem grown_refl (w : World) (r : Option Nat) : w.grownBy w r := ⟨rfl, rfl, rfl, Nat.le_refl _, fun _ _ _ => rfl⟩
theorem grown_trans {a b c : World} {g : Nat} (h : a.grownBy b (some g)) (k : b.grownBy c (some g)) : a.grownBy c (some g) :=
  ⟨k.os.trans h.os, k.tape.trans h.tape, k.output.trans h.output, Nat.le_trans h.size k.size, fun i hi hn => (k.block i (Nat.lt_of_lt_of_le hi h.size) hn).trans (h.block i hi hn)⟩
theorem grown_set (w : World) (g i : Nat) (v : Value) : w.grownBy (w.setCell ⟨g, i, none⟩ v) (some g) :=
  ⟨rfl, rfl, rfl, by simp [World.setCell], fun k _ hk => Below.heap_setCell w _ v k (fun e => hk (by rw [e]))⟩

set_option maxHeartbeats 400000 in
theorem read_any (v : Value) (bs : List UInt8) (w : World) (hs : Sl w w.heap.size v bs) :
    Calls Try.prog 50 #[v] w fun e w' => e = .returned (.pointer (some ⟨w.heap.size, 0, none⟩)) ∧ Rd w' w.heap.size bs false ∧ Below w.heap.size w w' := by
  have hcv := run_text_of w _ v bs hs
  go_enter Try.func50, Try.ntmps50
  go_wp2_with fail
  go_ret
  exact ⟨rfl, heap_alloc_new w _, (Below.refl _ _).alloc (Nat.le_refl _) _⟩

set_option maxHeartbeats 400000 in
theorem good_any (g : Nat) (bs : List UInt8) (bad : Bool) (w : World) (hr : Rd w g bs bad) :
    Calls Try.prog 71 #[.pointer (some ⟨g, 0, none⟩)] w fun e w' => e = .returned (.bool !bad) ∧ w = w' := by
  have hc := hr.cell1
  go_enter Try.func71, Try.ntmps71
  go_wp2_with fail
  go_ret
  exact ⟨rfl, rfl⟩

set_option maxHeartbeats 400000 in
theorem good_nil (w : World) :
    Calls Try.prog 71 #[.pointer none] w fun e w' => e = .returned (.bool false) ∧ w = w' := by
  go_enter Try.func71, Try.ntmps71
  go_wp2_with fail
  go_ret
  exact ⟨rfl, rfl⟩

set_option maxHeartbeats 400000 in
theorem fail_any (g : Nat) (bs : List UInt8) (bad : Bool) (w : World) (hr : Rd w g bs bad) :
    Calls Try.prog 85 #[.pointer (some ⟨g, 0, none⟩)] w fun e w' => e = .returned (.tuple #[]) ∧ Left w g [] true w' := by
  have hc0 := hr.cell0
  have hc1 := hr.cell1
  have hf0 := hr.frozen 0
  have hf1 := hr.frozen 1
  go_enter Try.func85, Try.ntmps85
  go_wp2_with fail
  go_end0
  exact ⟨rfl, (hr.set0 []).set1 true, grown_trans (grown_set _ _ _ _) (grown_set _ _ _ _)⟩

end Go.Proofs.Ytoajfnkhonegnaa.Cd

/-
  code.number: the number that a text begins with. Conditions: none.
-/
namespace Go.Proofs.Ytoajfnkhonegnaa.Cd
open Go.RowKit

/-- What number answers. -/
def NumIs (l : List UInt8) (w : World) (e : Ending) (w' : World) : Prop := e = .returned (.tuple #[.int .u64 (nv l : Nat), .int .i64 (ns l : Nat)]) ∧ w = w'

theorem NumIs.bad {l : List UInt8} {w : World} {e : Ending} (h : Bad l) (he : e = .returned (.tuple #[.int .u64 0, .int .i64 0])) : NumIs l w e w :=
  ⟨by rw [he, nv_bad h, ns_bad h]; rfl, rfl⟩

theorem NumIs.good {l : List UInt8} {w : World} {e : Ending} {k x : Nat} (h : ¬ Bad l ∧ stop l = k ∧ x = val l (k + 1)) (he : e = .returned (.tuple #[.int .u64 (x : Nat), .int .i64 ((k : Int) + 1)])) : NumIs l w e w := by
  obtain ⟨h1, rfl, rfl⟩ := h
  refine ⟨?_, rfl⟩
  rw [he, nv_good h1, ns_good h1]
  rfl

theorem part_byte (c : UInt8) : IntKind.u64.wrap (bits BinOp.and IntKind.u8 (c.toNat : Int) 127) = ((c.toNat % 128 : Nat) : Int) := by
  have h := u8_and_nat c.toNat 127 c.toNat_lt (by omega)
  have h2 : c.toNat &&& 127 = c.toNat % 128 := Nat.and_two_pow_sub_one_eq_mod _ 7
  rw [show (127 : Int) = ((127 : Nat) : Int) from rfl, h, h2, IntKind.wrap_u64]
  omega

theorem shl_part (p k : Nat) : Op.shift .shl .u64 (p : Int) .i64 (7 * (k : Int)) = pure (.int .u64 (up p k : Nat)) := by
  have h : ¬ (7 * (k : Int) < 0) := by omega
  have h2 : (7 * (k : Int)).toNat = 7 * k := by omega
  simp only [Op.shift, if_neg h, h2, IntKind.bits, IntKind.wrap_u64]
  congr 2

theorem shr_part (y k : Nat) : Op.shift .shr .u64 (y : Int) .i64 (7 * (k : Int)) = pure (.int .u64 (down y k : Nat)) := by
  have h : ¬ (7 * (k : Int) < 0) := by omega
  have h2 : (7 * (k : Int)).toNat = 7 * k := by omega
  simp only [Op.shift, if_neg h, h2, IntKind.bits]
  congr 2
  unfold down
  rw [Int.natCast_ediv, Int.natCast_pow, Int.fdiv_eq_ediv_of_nonneg _ (Int.pow_nonneg (by omega))]
  rfl

theorem at8_of (s : ByteArray) (k : Nat) (h : k < s.size) : s[k].toNat = at8 s.data.toList k := by
  have h2 : k < s.data.toList.length := h
  unfold at8
  rw [List.getD_eq_getElem?_getD, List.getElem?_eq_getElem h2]
  rfl

set_option maxRecDepth 100000 in
set_option maxHeartbeats 800000 in
theorem number_any (s : ByteArray) (w : World) (hs : s.size ≤ 140737488355328) :
    Calls Try.prog 91 #[.string s] w (NumIs s.data.toList w) := by
  go_enter Try.func91, Try.ntmps91
  go_wp2
  go_loop [4, 5] (fun n i => ∃ (m k : Nat), n = .int .u64 m ∧ i = .int .i64 k ∧ k ≤ s.size ∧ m < 18446744073709551616 ∧ Hid (More s.data.toList k) ∧ Hid (k ≤ 9 → m = val s.data.toList k)) (fun _ i => s.size - (intOf i).toNat)
  case atStart => exact ⟨0, 0, rfl, rfl, by omega, by omega, More.zero _, fun _ => rfl⟩
  case round =>
    obtain ⟨m, k, rfl, rfl, hk, hm, hb, hv⟩ := hrel
    by_cases hlt : k < s.size
    · obtain ⟨c, hc⟩ : ∃ c, c = s[k] := ⟨_, rfl⟩
      have hat : c.toNat = at8 s.data.toList k := by rw [hc]; exact at8_of s k hlt
      have hc2 : s[k] = c := hc.symm
      have HAT := Lib.hid hat
      have HC := Lib.hid hc
      clear hat hc
      have E1 := part_byte c
      have E2 := shl_part (c.toNat % 128) k
      have E3 := shr_part (up (c.toNat % 128) k) k
      have E4 := u64_or_nat m (up (c.toNat % 128) k) hm (up_lt _ _)
      generalize hp : c.toNat % 128 = p at E1 E2 E3 E4
      generalize hy : up p k = y at E2 E3 E4
      generalize hz : down y k = z at E3
      have HP := Lib.hid hp
      have HY := Lib.hid hy
      have HZ := Lib.hid hz
      clear hp hy hz
      have hlen : Hid (k < s.data.toList.length) := hlt
      by_cases ha : 0 < k ∧ c.toNat = 0
      · obtain ⟨h0, hcz⟩ := ha
        have hbad : Hid (Bad s.data.toList) := num_zero hb.out hlen.out h0 (by rw [← HAT.out]; exact hcz)
        have hq : ((c.toNat : Int) == 0) = true := by simp; omega
        clear hcz hb hv E2 E3 E4 E1
        go_wp2
        go_ret2
        exact NumIs.bad hbad.out rfl
      · by_cases hzp : z = p
        · have hq : ((z : Int) != (p : Int)) = false := by simp; omega
          by_cases h8 : c.toNat < 128
          · have hdone := num_done hb.out hlen.out (by rw [← HAT.out]; exact h8) (by rw [← HAT.out]; omega) (by rw [← HAT.out, HP.out, HY.out, HZ.out]; exact hzp) hv.out
            rw [← HAT.out, HP.out, HY.out] at hdone
            have HD := Lib.hid hdone
            clear hdone hzp hb hv
            by_cases h0 : 0 < k
            · have hq2 : ((c.toNat : Int) == 0) = false := by simp; omega
              clear ha
              go_wp2
              go_ret2
              exact NumIs.good HD.out rfl
            · have hk0 : decide (0 < k) = false := by simpa using h0
              clear ha h0
              go_wp2
              go_ret2
              exact NumIs.good HD.out rfl
          · have hstep : Hid (k + 1 ≤ 9 → m ||| y = val s.data.toList (k + 1)) := fun h9 => by
              have := num_step hv.out (by omega)
              rw [← HAT.out, HP.out, HY.out] at this
              exact this
            have hmore : Hid (More s.data.toList (k + 1)) := hb.out.succ (by rw [← HAT.out]; omega)
            have hor : m ||| y < 18446744073709551616 := Nat.or_lt_two_pow (n := 64) hm (by rw [← HY.out]; exact up_lt _ _)
            have hq2 : ((c.toNat : Int) == 0) = false := by simp; omega
            clear hzp hb hv ha
            by_cases h0 : 0 < k
            · go_wp2
              go_round
              case rel => exact ⟨m ||| y, k + 1, by go_num, by go_num, by omega, hor, hmore, hstep⟩
              case measure => simp [intOf]; omega
            · have hk0 : decide (0 < k) = false := by simpa using h0
              clear h0
              go_wp2
              go_round
              case rel => exact ⟨m ||| y, k + 1, by go_num, by go_num, by omega, hor, hmore, hstep⟩
              case measure => simp [intOf]; omega
        · have hq : ((z : Int) != (p : Int)) = true := by simp; omega
          have hbad : Hid (Bad s.data.toList) := num_over hb.out hlen.out (by rw [← HAT.out, HP.out, HY.out, HZ.out]; exact hzp)
          clear hzp hb hv
          by_cases h0 : 0 < k
          · have hq2 : ((c.toNat : Int) == 0) = false := by simp; omega
            clear ha
            go_wp2
            go_ret2
            exact NumIs.bad hbad.out rfl
          · have hk0 : decide (0 < k) = false := by simpa using h0
            clear ha h0
            go_wp2
            go_ret2
            exact NumIs.bad hbad.out rfl
    · have : k = s.size := by omega
      have hbad : Hid (Bad s.data.toList) := num_end (by have := hb.out; subst k; exact this)
      clear this hb hv
      go_wp2
      go_ret2
      exact NumIs.bad hbad.out rfl

end Go.Proofs.Ytoajfnkhonegnaa.Cd

/-
  code.Reader: Uint, Int, In, Take, Text. Conditions: none.
-/
namespace Go.Proofs.Ytoajfnkhonegnaa.Cd
open Go.RowKit

theorem number_list (bs : List UInt8) (w : World) (hs : bs.length ≤ 140737488355328) : Calls Try.prog 91 #[.string ⟨bs.toArray⟩] w (NumIs bs w) :=
  number_any ⟨bs.toArray⟩ w hs

theorem extract_tail (bs : List UInt8) (k n : Nat) (hn : n = bs.length) : (ByteArray.mk bs.toArray).extract k n = ⟨(bs.drop k).toArray⟩ := by
  subst hn
  apply ByteArray.ext
  simp [ByteArray.data_extract, List.take_of_length_le]

theorem extract_head (bs : List UInt8) (k : Nat) : (ByteArray.mk bs.toArray).extract 0 k = ⟨(bs.take k).toArray⟩ := by
  apply ByteArray.ext
  simp [ByteArray.data_extract, List.extract_eq_take_drop]

theorem Rd.set0' {w : World} {g : Nat} {bs : List UInt8} {bad : Bool} (h : Rd w g bs bad) {v : Value} (cs : List UInt8) (hv : v = .string ⟨cs.toArray⟩) : Rd (w.setCell ⟨g, 0, none⟩ v) g cs bad := by
  subst hv
  exact h.set0 cs

/-- What a reader's method leaves: its answer, and the reader. -/
def Ans (v : Value) (w : World) (g : Nat) (bs : List UInt8) (bad : Bool) (e : Ending) (w' : World) : Prop := e = .returned v ∧ Left w g bs bad w'

set_option maxRecDepth 100000 in
set_option maxHeartbeats 400000 in
theorem ruint_any (g : Nat) (bs : List UInt8) (bad : Bool) (w : World) (hr : Rd w g bs bad) (hbb : Sane bad bs) (hs : bs.length ≤ 140737488355328) :
    Calls Try.prog 84 #[.pointer (some ⟨g, 0, none⟩)] w (Ans (.int .u64 (nv bs : Nat)) w g (uB bs) (uX bs)) := by
  have HS := Lib.hid hbb
  have HR := Lib.hid hr
  have hc0 := hr.cell0
  have hf0 := hr.frozen 0
  clear hbb hr
  cases bad
  · by_cases hbad : Bad bs
    · have hx : Hid (uB bs = [] ∧ uX bs = true ∧ nv bs = 0) := ⟨if_pos hbad, decide_eq_true hbad, nv_bad hbad⟩
      have hn : ((ns bs : Int) == 0) = true := by rw [ns_bad hbad]; rfl
      clear hbad
      go_enter Try.func84, Try.ntmps84
      go_wp2_with (first | (go_at_call 71; refine (good_any g bs _ _ HR.out).mono ?_; rintro e w1 ⟨rfl, rfl⟩) | (go_at_call 91; refine (number_list bs _ hs).mono ?_; rintro e w1 ⟨rfl, rfl⟩) | (go_at_call 85; refine (fail_any g bs _ _ HR.out).mono ?_; rintro e w1 ⟨rfl, hl⟩))
      go_ret
      obtain ⟨h1, h2, h3⟩ := hx.out
      rw [h1, h2, h3]
      exact ⟨rfl, hl⟩
    · have hx : Hid (uB bs = bs.drop (ns bs) ∧ uX bs = false) := ⟨if_neg hbad, decide_eq_false hbad⟩
      have hn : ((ns bs : Int) == 0) = false := by have := fun h => hbad (ns_zero.1 h); simp; omega
      have hle := ns_le bs
      have hsz : (ByteArray.mk bs.toArray).size = bs.length := rfl
      clear hbad
      go_enter Try.func84, Try.ntmps84
      go_wp2_with (first | (go_at_call 71; refine (good_any g bs _ _ HR.out).mono ?_; rintro e w1 ⟨rfl, rfl⟩) | (go_at_call 91; refine (number_list bs _ hs).mono ?_; rintro e w1 ⟨rfl, rfl⟩))
      go_ret
      obtain ⟨h1, h2⟩ := hx.out
      rw [h1, h2]
      refine ⟨rfl, HR.out.set0' _ ?_, grown_set _ _ _ _⟩
      rw [extract_tail _ _ _ rfl]
  · have hx : Hid (bs = []) := HS.out rfl
    go_enter Try.func84, Try.ntmps84
    go_wp2_with (first | (go_at_call 71; refine (good_any g bs _ _ HR.out).mono ?_; rintro e w1 ⟨rfl, rfl⟩))
    go_ret
    have h0 := hx.out
    have hr := HR.out
    subst h0
    exact ⟨rfl, hr, grown_refl _ _⟩

theorem left_trans {w w1 w2 : World} {g : Nat} {a b : List UInt8} {x y : Bool} (h : Left w g a x w1) (k : Left w1 g b y w2) : Left w g b y w2 := ⟨k.1, grown_trans h.2 k.2⟩

theorem uX_eq (bs : List UInt8) : (uX bs = true) ↔ Bad bs := decide_eq_true_iff

set_option maxHeartbeats 400000 in
theorem rtake_any (g : Nat) (n : Int) (bs : List UInt8) (bad : Bool) (w : World) (hr : Rd w g bs bad) (hbb : Sane bad bs) (hs : bs.length ≤ 140737488355328) :
    Calls Try.prog 70 #[.pointer (some ⟨g, 0, none⟩), .int .i64 n] w (Ans (.string ⟨(tkV bad n bs).toArray⟩) w g (tkB bad n bs) (tkX bad n bs)) := by
  have HS := Lib.hid hbb
  have HR := Lib.hid hr
  have hc0 := hr.cell0
  have hf0 := hr.frozen 0
  have hsz : (ByteArray.mk bs.toArray).size = bs.length := rfl
  clear hbb hr
  cases bad
  · by_cases hbad : TkBad false n bs
    · have hx : Hid (tkB false n bs = [] ∧ tkX false n bs = true ∧ tkV false n bs = []) := ⟨if_pos hbad, decide_eq_true hbad, if_pos hbad⟩
      have ho : n < 0 ∨ (bs.length : Int) < n := by
        rcases hbad with h | h
        · cases h
        · exact h
      clear hbad
      rcases (by omega : n < 0 ∨ (¬ n < 0 ∧ (bs.length : Int) < n)) with h0 | ⟨h0, h1⟩
      all_goals
        clear ho
        go_enter Try.func70, Try.ntmps70
        go_wp2_with (first | (go_at_call 71; refine (good_any g bs _ _ HR.out).mono ?_; rintro e w1 ⟨rfl, rfl⟩) | (go_at_call 85; refine (fail_any g bs _ _ HR.out).mono ?_; rintro e w1 ⟨rfl, hl⟩))
        go_ret
        obtain ⟨h1, h2, h3⟩ := hx.out
        rw [h1, h2, h3]
        exact ⟨rfl, hl⟩
    · have hx : Hid (tkB false n bs = bs.drop n.toNat ∧ tkX false n bs = false ∧ tkV false n bs = bs.take n.toNat) := ⟨if_neg hbad, decide_eq_false hbad, if_neg hbad⟩
      have h0 : ¬ n < 0 := fun h => hbad (.inr (.inl h))
      have h1 : ¬ (bs.length : Int) < n := fun h => hbad (.inr (.inr h))
      clear hbad
      obtain ⟨k, rfl⟩ := Int.eq_ofNat_of_zero_le (by omega : 0 ≤ n)
      have h2 : k ≤ bs.length := by omega
      go_enter Try.func70, Try.ntmps70
      go_wp2_with (first | (go_at_call 71; refine (good_any g bs _ _ HR.out).mono ?_; rintro e w1 ⟨rfl, rfl⟩))
      go_ret
      obtain ⟨h1, h2, h3⟩ := hx.out
      rw [h1, h2, h3, Int.toNat_natCast]
      refine ⟨?_, HR.out.set0' _ ?_, grown_set _ _ _ _⟩
      · rw [← extract_head]; rfl
      · rw [extract_tail _ _ _ rfl]
  · have hx : Hid (bs = []) := HS.out rfl
    go_enter Try.func70, Try.ntmps70
    go_wp2_with (first | (go_at_call 71; refine (good_any g bs _ _ HR.out).mono ?_; rintro e w1 ⟨rfl, rfl⟩))
    go_ret
    have h0 := hx.out
    have hr := HR.out
    subst h0
    have hb : TkBad true n [] := .inl rfl
    refine ⟨by unfold tkV; rw [if_pos hb]; rfl, ?_, grown_refl _ _⟩
    unfold tkB tkX
    rw [if_pos hb, decide_eq_true hb]
    exact hr

theorem tk_nil_bad (n : Int) : tkV true n [] = [] ∧ tkB true n [] = [] ∧ tkX true n [] = true := by
  have hb : TkBad true n [] := .inl rfl
  exact ⟨if_pos hb, if_pos hb, decide_eq_true hb⟩

set_option maxRecDepth 100000 in
set_option maxHeartbeats 400000 in
theorem rtext_any (g : Nat) (most : Int) (bs : List UInt8) (bad : Bool) (w : World) (hr : Rd w g bs bad) (hbb : Sane bad bs) (hs : bs.length ≤ 140737488355328) (hm : most ≤ 9223372036854775807) :
    Calls Try.prog 69 #[.pointer (some ⟨g, 0, none⟩), .int .i64 most] w (Ans (.string ⟨(txV most bs).toArray⟩) w g (txB most bs) (txX most bs)) := by
  have hu := Lib.hid (ruint_any g bs bad w hr hbb hs)
  clear hr hbb
  have hlen := uB_len bs
  have hsane := Lib.hid (Sane.u bs)
  have hn := nv_u64 bs
  by_cases hb : Bad bs
  · have ht : TxBad most bs := .inl hb
    have hx : Hid (txB most bs = [] ∧ txX most bs = true ∧ txV most bs = []) := ⟨if_pos ht, decide_eq_true ht, if_pos ht⟩
    have hx0 : Hid (uB bs = []) := if_pos hb
    have hx2 : uX bs = true := (uX_eq bs).2 hb
    have hn0 := nv_bad hb
    clear hb ht
    rw [hx2] at hu hsane
    rw [hn0] at hu
    clear hn0
    go_enter Try.func69, Try.ntmps69
    go_wp2_with (first | (go_at_call 84; refine hu.out.mono ?_; rintro e w1 ⟨rfl, hl⟩) | (go_at_call 71; refine (good_any g _ _ _ hl.1).mono ?_; rintro e w2 ⟨rfl, rfl⟩) | (go_at_call 70; refine (rtake_any g _ _ _ _ hl.1 hsane.out (by omega)).mono ?_; rintro e w2 ⟨rfl, hl2⟩))
    go_ret
    obtain ⟨h1, h2, h3⟩ := hx.out
    rw [h1, h2, h3]
    rw [hx0.out] at hl2
    obtain ⟨k1, k2, k3⟩ := tk_nil_bad 0
    refine ⟨?_, ?_⟩
    · show Ending.returned (.string ⟨(tkV true 0 (uB bs)).toArray⟩) = _
      rw [hx0.out, k1]
    · have := left_trans hl hl2
      rw [k2, k3] at this
      exact this
  · have hx2 : uX bs = false := decide_eq_false hb
    have hx0 : Hid (uB bs = bs.drop (ns bs)) := if_neg hb
    rw [hx2] at hu hsane
    by_cases ho : most < 0 ∨ most < (nv bs : Nat)
    · have ht : TxBad most bs := .inr (by rcases ho with h | h; exact .inl h; exact .inr (.inl h))
      have hx : Hid (txB most bs = [] ∧ txX most bs = true ∧ txV most bs = []) := ⟨if_pos ht, decide_eq_true ht, if_pos ht⟩
      clear hb ht
      generalize nv bs = n at hu ho hn
      rcases (by omega : most < 0 ∨ (¬ most < 0 ∧ most < (n : Int))) with h0 | ⟨h0, h1⟩
      all_goals
        clear ho
        go_enter Try.func69, Try.ntmps69
        go_wp2_with (first | (go_at_call 84; refine hu.out.mono ?_; rintro e w1 ⟨rfl, hl⟩) | (go_at_call 71; refine (good_any g _ _ _ hl.1).mono ?_; rintro e w2 ⟨rfl, rfl⟩) | (go_at_call 85; refine (fail_any g _ _ _ hl.1).mono ?_; rintro e w2 ⟨rfl, hl2⟩))
        go_ret
        obtain ⟨h1, h2, h3⟩ := hx.out
        rw [h1, h2, h3]
        exact ⟨rfl, left_trans hl hl2⟩
    · have h0 : ¬ most < 0 := fun h => ho (.inl h)
      have h1 : ¬ most < (nv bs : Nat) := fun h => ho (.inr h)
      have hx : Hid (txB most bs = tkB false (nv bs : Nat) (uB bs) ∧ txX most bs = tkX false (nv bs : Nat) (uB bs) ∧ txV most bs = tkV false (nv bs : Nat) (uB bs)) := by
        have e := hx0.out
        have hiff : TxBad most bs ↔ TkBad false (nv bs : Nat) (uB bs) := by
          unfold TxBad TkBad
          rw [e]
          simp only [Bool.false_eq_true, false_or]
          constructor
          · rintro (h | h | h | h)
            · exact absurd h hb
            · exact absurd h h0
            · exact absurd h h1
            · exact .inr (by omega)
          · rintro (h | h)
            · omega
            · exact .inr (.inr (.inr (by omega)))
        unfold Hid txB txX txV tkB tkX tkV
        by_cases hk : TkBad false (nv bs : Nat) (uB bs)
        · rw [if_pos hk, if_pos hk, if_pos (hiff.2 hk), if_pos (hiff.2 hk), decide_eq_true hk, decide_eq_true (hiff.2 hk)]
          exact ⟨rfl, rfl, rfl⟩
        · have hk2 := fun h => hk (hiff.1 h)
          rw [if_neg hk, if_neg hk, if_neg hk2, if_neg hk2, decide_eq_false hk, decide_eq_false hk2, e, Int.toNat_natCast]
          exact ⟨rfl, rfl, rfl⟩
      clear hb ho hx0
      generalize nv bs = n at hu h1 hn hx
      go_enter Try.func69, Try.ntmps69
      go_wp2_with (first | (go_at_call 84; refine hu.out.mono ?_; rintro e w1 ⟨rfl, hl⟩) | (go_at_call 71; refine (good_any g _ _ _ hl.1).mono ?_; rintro e w2 ⟨rfl, rfl⟩) | (go_at_call 70; refine (rtake_any g _ _ _ _ hl.1 hsane.out (by omega)).mono ?_; rintro e w2 ⟨rfl, hl2⟩))
      go_ret
      obtain ⟨h1, h2, h3⟩ := hx.out
      rw [h1, h2, h3]
      exact ⟨rfl, left_trans hl hl2⟩

/-! ### A nil reader -/

/-- A nil reader's answer: nothing turns. -/
def Still (v : Value) (w : World) (e : Ending) (w' : World) : Prop := e = .returned v ∧ w = w'

set_option maxHeartbeats 400000 in
theorem ruint_nil (w : World) : Calls Try.prog 84 #[.pointer none] w (Still (.int .u64 0) w) := by
  go_enter Try.func84, Try.ntmps84
  go_wp2_with (first | (go_at_call 71; refine (good_nil _).mono ?_; rintro e w1 ⟨rfl, rfl⟩))
  go_ret
  exact ⟨rfl, rfl⟩

set_option maxHeartbeats 400000 in
theorem rtake_nil (n : Int) (w : World) : Calls Try.prog 70 #[.pointer none, .int .i64 n] w (Still (.string ⟨#[]⟩) w) := by
  go_enter Try.func70, Try.ntmps70
  go_wp2_with (first | (go_at_call 71; refine (good_nil _).mono ?_; rintro e w1 ⟨rfl, rfl⟩))
  go_ret
  exact ⟨rfl, rfl⟩

set_option maxHeartbeats 400000 in
theorem rtext_nil (most : Int) (w : World) : Calls Try.prog 69 #[.pointer none, .int .i64 most] w (Still (.string ⟨#[]⟩) w) := by
  go_enter Try.func69, Try.ntmps69
  go_wp2_with (first | (go_at_call 84; refine (ruint_nil _).mono ?_; rintro e w1 ⟨rfl, rfl⟩) | (go_at_call 71; refine (good_nil _).mono ?_; rintro e w1 ⟨rfl, rfl⟩) | (go_at_call 70; refine (rtake_nil _ _).mono ?_; rintro e w1 ⟨rfl, rfl⟩))
  go_ret
  exact ⟨rfl, rfl⟩

end Go.Proofs.Ytoajfnkhonegnaa.Cd

/-
  code.Size: how many bytes a number has. Conditions: none.
-/
namespace Go.Proofs.Ytoajfnkhonegnaa.Cd
open Go.RowKit

theorem ret_int {k : IntKind} {a b : Int} (h : a = b) : Ending.returned (.int k b) = .returned (.int k a) := by rw [h]

set_option maxHeartbeats 400000 in
theorem size_any (n : Nat) (hn : n < 18446744073709551616) (w : World) :
    Calls Try.prog 72 #[.int .u64 n] w fun e w' => e = .returned (.int .i64 ((enc n).length : Nat)) ∧ w = w' := by
  have hl := enc_u64 n hn
  go_enter Try.func72, Try.ntmps72
  go_wp2
  go_loop [0, 3] (fun v s => ∃ (m k : Nat), v = .int .u64 m ∧ s = .int .i64 k ∧ 1 ≤ k ∧ m < 18446744073709551616 ∧ k + (enc m).length ≤ 11 ∧ Hid ((enc n).length + 1 = (enc m).length + k)) (fun v _ => (intOf v).toNat)
  case atStart => exact ⟨n, 1, rfl, rfl, by omega, hn, by omega, rfl⟩
  case round =>
    obtain ⟨m, k, rfl, rfl, h1, hm, hk, hh⟩ := hrel
    by_cases hc : 127 < m
    · have h2 := enc_hi (n := m) (by omega)
      have h3 : (enc m).length = (enc (m / 128)).length + 1 := by rw [h2]; rfl
      have h4 : Hid ((enc m).length = (enc (m / 128)).length + 1) := h3
      clear h2 h3
      go_wp2
      go_round
      case rel => exact ⟨m / 128, k + 1, by go_num, by go_num, by omega, by omega, by have := h4.out; omega, by have := h4.out; have := hh.out; unfold Hid; omega⟩
      case measure => simp [intOf]; omega
    · have h2 : Hid ((enc m).length = 1) := by unfold Hid; rw [enc_lo (by omega)]; rfl
      go_wp2
      go_ret
      have := h2.out
      have := hh.out
      exact ⟨ret_int (by omega), rfl⟩

end Go.Proofs.Ytoajfnkhonegnaa.Cd

/-
  frame.first, frame.One: the record that bytes begin with. Conditions: none.
-/
namespace Go.Proofs.Ytoajfnkhonegnaa.Cd
open Go.RowKit

/-- What first leaves. -/
def FirstIs (w : World) (g : Nat) (bs : List UInt8) (e : Ending) (w' : World) : Prop :=
  ((∃ x, frm x <+: bs ∧ e = .returned (.tuple #[.string ⟨x.toArray⟩, .int .i64 ((frm x).length : Nat)]) ∧ Rd w' g (bs.drop (frm x).length) false) ∨
    (¬ HasRec bs ∧ e = .returned (.tuple #[.string ⟨#[]⟩, .int .i64 0]))) ∧ w.grownBy w' (some g)

theorem grown_below {a b c : World} {g : Nat} (h : a.grownBy b (some g)) (k : Below b.heap.size b c) : a.grownBy c (some g) :=
  ⟨k.os.trans h.os, k.tape.trans h.tape, k.output.trans h.output, Nat.le_trans h.size k.size, fun i hi hn => (k.block i (Nat.lt_of_lt_of_le hi h.size)).trans (h.block i hi hn)⟩

/-- A slice's beginning. -/
theorem sl_take {w : World} {B : Nat} {A : Option Addr} {L cap : Nat} {bs : List UInt8} (h : Sl w B (.slice A L cap) bs) (k : Nat) (hk : k ≤ bs.length) :
    Sl w B (.slice A k cap) (bs.take k) := by
  obtain ⟨A', c, e, h2, h3, h4, h5, h6⟩ := h
  injection e with e1 e2 e3
  subst e1 e2 e3
  have hl : (bs.take k).length = k := by rw [List.length_take]; omega
  refine ⟨A, cap, by rw [hl], by rw [hl]; omega, h3, h4, (fun ad e h0 => h5 ad e (by omega)), fun ad e j u hu => ?_⟩
  have hj := (List.getElem?_eq_some_iff.1 hu).1
  rw [vb_length, hl] at hj
  refine h6 ad e j u ?_
  rw [← hu]
  simp only [vb, List.map_take]
  rw [List.getElem?_take, if_pos hj]

theorem ret_pair {a : Value} {k : IntKind} {x y : Int} (h : x = y) : Ending.returned (.tuple #[a, .int k x]) = .returned (.tuple #[a, .int k y]) := by rw [h]

set_option maxRecDepth 100000 in
set_option maxHeartbeats 1600000 in
theorem first_any (g : Nat) (v : Value) (bs : List UInt8) (w : World) (hr : Rd w g bs false) (h : Sl w w.heap.size v bs) (hg : g < w.heap.size) (hs : ∀ W : World, w.grownBy W (some g) → Sl W W.heap.size v bs) (hb : bs.length ≤ 140737488355328) :
    Calls Try.prog 51 #[.pointer (some ⟨g, 0, none⟩), v] w (FirstIs w g bs) := by
  obtain ⟨A, c, rfl, h2, h3⟩ := h.len
  have h3 : c ≤ 9223372036854775807 := h3
  have htx := Lib.hid (rtext_any g bs.length bs false w hr (Sane.start _) hb (by omega))
  have HS := Lib.hid hs
  have HTL := Lib.hid (txV_len (bs.length : Int) bs)
  have HBL := Lib.hid (txB_len (bs.length : Int) bs)
  clear hr hs h
  have h64 : bs.length < 18446744073709551616 := by omega
  cases hX : txX bs.length bs
  · by_cases h4 : (txB (bs.length : Int) bs).length < 4
    · have hno : Hid (¬ HasRec bs) := no_rec h64 (.inr (.inl h4))
      generalize hR : txB (bs.length : Int) bs = R at *
      generalize txV (bs.length : Int) bs = T at *
      rw [hX] at htx
      have htk : Hid (tkX false 4 R = true) := decide_eq_true (.inr (.inr (by omega)))
      clear hR hX h4
      go_enter Try.func51, Try.ntmps51
      go_wp2_with (first | (go_at_call 69; refine htx.out.mono ?_; rintro e w1 ⟨rfl, hl1⟩) | (go_at_call 70; refine (rtake_any g 4 R false w1 hl1.1 (Sane.start _) (by have := HBL.out; omega)).mono ?_; rintro e w2 ⟨rfl, hl2⟩; rw [htk.out] at hl2) | (go_at_call 71; refine (good_any g _ _ _ hl2.1).mono ?_; rintro e w3 ⟨rfl, rfl⟩))
      go_ret2
      exact ⟨.inr ⟨hno.out, rfl⟩, (left_trans hl1 hl2).2⟩
    · have h4' : 4 ≤ (txB (bs.length : Int) bs).length := by omega
      have h1 := one_tx hX
      have hrec := Lib.hid (fun hk => rec_of hX hk)
      have hno := Lib.hid (fun hk => no_rec h64 (.inr (.inr hk)))
      generalize hR : txB (bs.length : Int) bs = R at *
      generalize hT : txV (bs.length : Int) bs = T at *
      rw [hX] at htx
      have htk : Hid (tkX false 4 R = false ∧ tkV false 4 R = R.take 4 ∧ tkB false 4 R = R.drop 4) := by
        have hn : ¬ TkBad false 4 R := by
          rintro (h | h | h)
          · cases h
          · omega
          · omega
        exact ⟨decide_eq_false hn, if_neg hn, if_neg hn⟩
      obtain ⟨n, hn⟩ : ∃ n, (enc T.length).length = n := ⟨_, rfl⟩
      have hsz : n + T.length + R.length = bs.length := by
        have := congrArg List.length h1
        rw [List.length_append, List.length_append] at this
        omega
      have htake : Hid (bs.take (n + T.length) = enc T.length ++ T) := by
        unfold Hid
        rw [← h1, List.take_append_of_le_length (by rw [List.length_append]; omega), List.take_of_length_le (by rw [List.length_append]; omega)]
      have hdrop : Hid (bs.drop (n + T.length + 4) = R.drop 4) := by
        unfold Hid
        have e : (enc T.length ++ T).length = n + T.length := by rw [List.length_append, hn]
        rw [← h1, ← e, List.drop_append]
        simp
      have hfl : Hid ((frm T).length = n + T.length + 4) := by unfold Hid; rw [frm_len, hn]
      have hszT := size_any T.length (by omega)
      rw [hn] at hszT
      have HN := Lib.hid hn
      have HSZ := Lib.hid hszT
      clear hR hT hX h4 h1 hn hszT
      by_cases hk : R.take 4 = le4 (crc (enc T.length ++ T))
      · have hpre := Lib.hid (hrec.out hk)
        have HK := Lib.hid hk
        clear hrec hno hk
        go_enter Try.func51, Try.ntmps51
        go_wp2_with (first | (go_at_call 69; refine htx.out.mono ?_; rintro e w1 ⟨rfl, hl1⟩) | (go_at_call 70; refine (rtake_any g 4 R false w1 hl1.1 (Sane.start _) (by have := HBL.out; omega)).mono ?_; rintro e w2 ⟨rfl, hl2⟩; rw [htk.out.1, htk.out.2.2] at hl2; rw [htk.out.2.1]) | (go_at_call 71; refine (good_any g _ _ _ hl2.1).mono ?_; rintro e w3 ⟨rfl, rfl⟩) | (go_at_call 72; refine (HSZ.out _).mono ?_; rintro e w4 ⟨rfl, rfl⟩))
        have hl3 := left_trans hl1 hl2
        refine (tail_any _ (enc T.length ++ T) w2 (by have := sl_take (HS.out w2 hl3.2) (n + T.length) (by omega); rw [htake.out] at this; exact this)).mono ?_
        rintro e w3 ⟨v3, rfl, ho3, hb3⟩
        have hcv := run_text_of w3 _ v3 _ ho3.sl
        generalize le4 (crc (enc T.length ++ T)) = P at *
        rw [HK.out]
        have hq : (P == P) = true := by simp
        go_wp2_with fail
        go_ret2
        exact ⟨.inl ⟨T, hpre.out, (by rw [hfl.out]; exact ret_pair rfl), by rw [hfl.out, hdrop.out]; exact hl3.1.below hb3 (by have := hl3.2.size; omega)⟩, grown_below hl3.2 hb3⟩
      · have hno2 := Lib.hid (hno.out hk)
        clear hrec hno
        go_enter Try.func51, Try.ntmps51
        go_wp2_with (first | (go_at_call 69; refine htx.out.mono ?_; rintro e w1 ⟨rfl, hl1⟩) | (go_at_call 70; refine (rtake_any g 4 R false w1 hl1.1 (Sane.start _) (by have := HBL.out; omega)).mono ?_; rintro e w2 ⟨rfl, hl2⟩; rw [htk.out.1, htk.out.2.2] at hl2; rw [htk.out.2.1]) | (go_at_call 71; refine (good_any g _ _ _ hl2.1).mono ?_; rintro e w3 ⟨rfl, rfl⟩) | (go_at_call 72; refine (HSZ.out _).mono ?_; rintro e w4 ⟨rfl, rfl⟩))
        have hl3 := left_trans hl1 hl2
        refine (tail_any _ (enc T.length ++ T) w2 (by have := sl_take (HS.out w2 hl3.2) (n + T.length) (by omega); rw [htake.out] at this; exact this)).mono ?_
        rintro e w3 ⟨v3, rfl, ho3, hb3⟩
        have hcv := run_text_of w3 _ v3 _ ho3.sl
        generalize le4 (crc (enc T.length ++ T)) = P at *
        generalize R.take 4 = Q at *
        have hq : (Q == P) = false := by simpa using hk
        clear hk
        go_wp2_with fail
        go_ret2
        exact ⟨.inr ⟨hno2.out, rfl⟩, grown_below hl3.2 hb3⟩
  · have hno : Hid (¬ HasRec bs) := no_rec h64 (.inl hX)
    have hR : txB (bs.length : Int) bs = [] := by unfold txB; rw [if_pos (of_decide_eq_true hX)]
    rw [hX, hR] at htx
    generalize txV (bs.length : Int) bs = T at *
    obtain ⟨k1, k2, k3⟩ := tk_nil_bad 4
    have K3 := Lib.hid k3
    clear hR hX k1 k2 k3 HBL
    go_enter Try.func51, Try.ntmps51
    go_wp2_with (first | (go_at_call 69; refine htx.out.mono ?_; rintro e w1 ⟨rfl, hl1⟩) | (go_at_call 70; refine (rtake_any g 4 [] true w1 hl1.1 (fun _ => rfl) (by simp)).mono ?_; rintro e w2 ⟨rfl, hl2⟩; rw [K3.out] at hl2) | (go_at_call 71; refine (good_any g _ _ _ hl2.1).mono ?_; rintro e w3 ⟨rfl, rfl⟩))
    go_ret2
    exact ⟨.inr ⟨hno.out, rfl⟩, (left_trans hl1 hl2).2⟩

theorem first_at (v : Value) (bs : List UInt8) (w : World) (g : Nat) (hr : Rd w g bs false) (h : Sl w g v bs) (hb : bs.length ≤ 140737488355328) :
    Calls Try.prog 51 #[.pointer (some ⟨g, 0, none⟩), v] w (FirstIs w g bs) := by
  have hg := hr.lt
  refine first_any g v bs w hr (h.more (by omega)) hg (fun W hW => ?_) hb
  have hk : ∀ p : Addr, p.block < g → W.cell? p = w.cell? p := fun p hp => World.cell?_of_block (hW.block p.block (by omega) (fun e => by injection e with e; omega))
  exact (h.keep hk).more (by have := hW.size; omega)

/-- What One answers. -/
def OneIs (w : World) (bs : List UInt8) (e : Ending) (w' : World) : Prop :=
  ((∃ x, frm x = bs ∧ e = .returned (.tuple #[.string ⟨x.toArray⟩, .bool true])) ∨ ((¬ ∃ x, frm x = bs) ∧ e = .returned (.tuple #[.string ⟨#[]⟩, .bool false]))) ∧ Below w.heap.size w w'

theorem below_grown {w0 w w' : World} {g B : Nat} (h : Below B w0 w) (hg : w.grownBy w' (some g)) (hB : B ≤ w.heap.size) (hr : B ≤ g) : Below B w0 w' :=
  h.grown hg hB (fun k hk => by injection hk with hk; omega)

end Go.Proofs.Ytoajfnkhonegnaa.Cd

/-
  frame.Split. Conditions: none.
-/
namespace Go.Proofs.Ytoajfnkhonegnaa.Cd
open Go.RowKit

/-- What Split answers. -/
def SplitIs (w : World) (bs : List UInt8) (e : Ending) (w' : World) : Prop :=
  ∃ u ds cur, Splits bs ds cur ∧ e = .returned (.tuple #[u, .int .i64 ((flat ds).length : Nat)]) ∧ OwnS w' w.heap.size u ds ∧ Below w.heap.size w w'

/-- What is left of a slice reads as what is left of the bytes. -/
theorem sl_rest {w : World} {B : Nat} {A : Option Addr} {c : Nat} {bs : List UInt8} (h : Sl w B (.slice A bs.length c) bs) (n : Nat) (hn : n ≤ bs.length) (C : Option Addr) (hC : c ≠ n → C = A.map (·.add n)) (hC2 : c = n → C = A) :
    Sl w B (.slice C (bs.length - n) (c - n)) (bs.drop n) := by
  obtain ⟨A', c', e, h2, h3, h4, h5, h6⟩ := h
  injection e with e1 _ e3
  subst e1 e3
  refine ⟨C, c - n, by rw [List.length_drop], by rw [List.length_drop]; omega, by omega, fun hnone => ?_, fun ad e h0 => ?_, fun ad e j u hu => ?_⟩
  · by_cases hcn : c = n
    · omega
    · have := hC hcn
      rw [hnone] at this
      have hA : A = none := by cases A with
        | none => rfl
        | some _ => cases this
      have := h4 hA
      omega
  · rw [List.length_drop] at h0
    have hcn : c ≠ n := by omega
    have := hC hcn
    rw [e] at this
    cases A with
    | none => cases this
    | some a =>
      injection this with this
      rw [this, block_of_add]
      exact h5 a rfl (by omega)
  · have hj := (List.getElem?_eq_some_iff.1 hu).1
    rw [vb_length, List.length_drop] at hj
    have hcn : c ≠ n := by omega
    have := hC hcn
    rw [e] at this
    cases A with
    | none => cases this
    | some a =>
      injection this with this
      have hu2 : (vb bs)[n + j]? = some u := by
        rw [← hu]
        simp only [vb, List.map_drop, List.getElem?_drop]
      have h7 := h6 a rfl (n + j) u hu2
      rw [this, Go.Deep.add_add]
      exact h7

set_option maxRecDepth 100000 in
set_option maxHeartbeats 1600000 in
theorem split_any (v : Value) (bs : List UInt8) (w : World) (h : Sl w w.heap.size v bs) (hb : bs.length ≤ 1048576) :
    Calls Try.prog 28 #[v] w (SplitIs w bs) := by
  obtain ⟨A, c, rfl, h2, h3⟩ := h.len
  have h3 : c ≤ 9223372036854775807 := h3
  have H := Lib.hid h
  clear h
  go_enter Try.func28, Try.ntmps28
  go_wp2_with fail
  refine (read_any _ bs w H.out).mono ?_
  rintro e w1 ⟨rfl, hr1, hb1⟩
  have HR1 := Lib.hid hr1
  have hlt1 := hr1.lt
  clear hr1
  go_wp2_with fail
  go_loopw [4, 5] (fun o t wr => ∃ ds cur, Hid (bs = flat ds ++ cur) ∧ t = .int .i64 ((flat ds).length : Nat) ∧ Hid (OwnS wr (w.heap.size + 1) o ds) ∧ Hid (Rd wr w.heap.size cur false) ∧ Below w.heap.size w wr) (fun _ t _ => bs.length - (intOf t).toNat)
  case atStart => exact ⟨[], bs, rfl, rfl, OwnS.nil _ _, HR1.out, hb1⟩
  case round =>
    obtain ⟨ds, cur, he, rfl, ho, hr, hbel⟩ := hrel
    have hsz := hbel.size
    have hlen : (flat ds).length + cur.length = bs.length := by have := congrArg List.length he.out; rw [List.length_append] at this; omega
    have hdrop : Hid (bs.drop (flat ds).length = cur) := by unfold Hid; rw [he.out, List.drop_left]
    have hds := flat_ge ds
    generalize hn : (flat ds).length = n at *
    have HN := Lib.hid hn
    clear hn
    by_cases hcn : c = n
    · have hsl := sl_rest (H.out.below hbel) n (by omega) A (fun hq => absurd hcn hq) (fun _ => rfl)
      subst hcn
      rw [hdrop.out, Nat.sub_self, show bs.length - c = 0 by omega] at hsl
      have hf := Lib.hid (first_at _ cur wr w.heap.size hr.out hsl (by omega))
      clear hsl
      go_wp2_with fail
      refine hf.out.mono ?_
      rintro e w2 ⟨⟨x, hx, rfl, hr2⟩ | ⟨hno, rfl⟩, hg⟩
      · exfalso
        have := hx.length_le
        have := frm_ge x
        omega
      · have HB := Lib.hid (below_grown hbel hg hsz (Nat.le_refl _))
        have HNO := Lib.hid hno
        have HO := Lib.hid ((OwnS.far ho.out hg (Nat.lt_succ_self _)).lower (Nat.le_succ _))
        clear hno hg
        go_wp2_with fail
        go_ret2
        exact ⟨_, ds, cur, ⟨he.out, HNO.out⟩, by rw [HN.out]; rfl, HO.out, HB.out⟩
    · have hsl := sl_rest (H.out.below hbel) n (by omega) (A.map (fun x => x.add n)) (fun _ => rfl) (fun hq => absurd hq hcn)
      rw [hdrop.out] at hsl
      have hf := Lib.hid (first_at _ cur wr w.heap.size hr.out hsl (by omega))
      clear hsl
      go_wp2_with fail
      refine hf.out.mono ?_
      rintro e w2 ⟨⟨x, hx, rfl, hr2⟩ | ⟨hno, rfl⟩, hg⟩
      · have hxl := hx.length_le
        have hge := frm_ge x
        have HO := Lib.hid (OwnS.far ho.out hg (Nat.lt_succ_self _))
        have hs2 := hg.size
        have HB := Lib.hid (below_grown hbel hg hsz (Nat.le_refl _))
        have HR2 := Lib.hid hr2
        have hz : (((frm x).length : Int) == 0) = false := by rw [beq_eq_false_iff_ne]; omega
        have HF : Hid ((flat (ds ++ [x])).length = n + (frm x).length) := by unfold Hid; rw [flat_append, flat_one, List.length_append, HN.out]
        have HE : Hid (bs = flat (ds ++ [x]) ++ cur.drop (frm x).length) := by
          unfold Hid
          obtain ⟨t, ht⟩ := hx
          rw [flat_append, flat_one, List.append_assoc, ← ht, List.drop_left, ht]
          exact he.out
        clear hx hr2 hg
        generalize (frm x).length = m at *
        go_wp2_with (at_builtin; refine wp_append_strs rfl _ _ rfl (w.heap.size + 1) _ ds rfl ?ho ?hB _ (w2.heap.size + 1) [x] rfl ?hn ?hm ?hK)
        case ho => exact HO.out.alloc _
        case hB => simp; omega
        case hn => exact strs_one _ _ _
        case hm => simp; omega
        case hK =>
          intro v3 w3 ho3 hb3
          go_wp2_with fail
          go_roundw
          case rel => exact ⟨ds ++ [x], cur.drop m, HE.out, by rw [HF.out]; go_num, ho3, (HR2.out.below ((Below.refl _ _).alloc (Nat.le_refl _) _) HR2.out.lt).below hb3 (Nat.lt_succ_self _), (HB.out.alloc (by omega) _).trans (hb3.mono (by omega))⟩
          case measure => simp [intOf]; omega
      · have HB := Lib.hid (below_grown hbel hg hsz (Nat.le_refl _))
        have HNO := Lib.hid hno
        have HO := Lib.hid ((OwnS.far ho.out hg (Nat.lt_succ_self _)).lower (Nat.le_succ _))
        clear hno hg
        go_wp2_with fail
        go_ret2
        exact ⟨_, ds, cur, ⟨he.out, HNO.out⟩, by rw [HN.out]; rfl, HO.out, HB.out⟩

end Go.Proofs.Ytoajfnkhonegnaa.Cd

/-
  The document's Same: two lists of texts. Conditions: none.
-/
namespace Go.Proofs.Ytoajfnkhonegnaa.Cd
open Go.RowKit

theorem same_next {l m : List (List UInt8)} {k : Nat} (h : l.take k = m.take k) (hl : k < l.length) (hm : k < m.length) (he : l[k] = m[k]) : l.take (k + 1) = m.take (k + 1) := by
  rw [List.take_succ_eq_append_getElem hl, List.take_succ_eq_append_getElem hm, h, he]

theorem get_ne {l m : List (List UInt8)} {k : Nat} (hl : k < l.length) (hm : k < m.length) (he : l[k] ≠ m[k]) : l ≠ m := by
  intro e
  subst e
  exact he rfl

/-- What Same leaves. -/
def SameIs (w : World) (l m : List (List UInt8)) (e : Ending) (w' : World) : Prop := e = .returned (.bool (decide (l = m))) ∧ Below w.heap.size w w'

set_option maxRecDepth 100000 in
set_option maxHeartbeats 1600000 in
theorem same_any (u v : Value) (l m : List (List UInt8)) (w : World) (h : Strs w w.heap.size u l) (k : Strs w w.heap.size v m) :
    Calls Try.prog 16 #[u, v] w (SameIs w l m) := by
  obtain ⟨A, c, rfl, h2, h3⟩ := h.len
  obtain ⟨A', c', rfl, k2, k3⟩ := k.len
  have h3 : c ≤ 9223372036854775807 := h3
  have k3 : c' ≤ 9223372036854775807 := k3
  have HAT := Lib.hid (fun h0 => h.at h0)
  have KAT := Lib.hid (fun h0 => k.at h0)
  clear h k
  by_cases hlen : l.length = m.length
  · have hq : ((l.length : Int) != (m.length : Int)) = false := by simp [hlen]
    have HL := Lib.hid hlen
    clear hlen
    go_enter Try.func16, Try.ntmps16
    go_wp2_with fail
    go_loopw [13] (fun i wr => ∃ j : Nat, j ≤ l.length ∧ i = .int .i64 j ∧ Hid (l.take j = m.take j) ∧ Below w.heap.size w wr) (fun i _ => l.length - (intOf i).toNat)
    case atStart => exact ⟨0, Nat.zero_le _, rfl, rfl, Below.refl _ _⟩
    case round =>
      obtain ⟨j, hj, rfl, hpre, hbel⟩ := hrel
      have hsz := hbel.size
      by_cases hlt : j < l.length
      · have hlm : j < m.length := by have := HL.out; omega
        obtain ⟨b, off, c1, he1, _, _, hB, hc⟩ := HAT.out (by omega)
        obtain ⟨b', off', c1', he1', _, _, hB', hc'⟩ := KAT.out (by omega)
        injection he1 with e1 _ e3
        injection he1' with e1' _ e3'
        subst e1 e3 e1' e3'
        have hx := (hbel.cell (p := ⟨b, off + j, none⟩) hB).trans (hc j hlt)
        have hy := (hbel.cell (p := ⟨b', off' + j, none⟩) hB').trans (hc' j hlm)
        have hnx := Lib.hid (fun he => same_next hpre.out hlt hlm he)
        have hne := Lib.hid (fun he => get_ne hlt hlm he)
        clear hc hc'
        generalize l[j] = x at *
        generalize m[j] = y at *
        by_cases hxy : x = y
        · have hnx2 : Hid (l.take (j + 1) = m.take (j + 1)) := hnx.out hxy
          subst hxy
          have hq2 : (x == x) = true := by simp
          clear hnx hne
          go_wp2
          go_region
          all_goals
            go_wp2
            go_roundw
            case rel => exact ⟨j + 1, by omega, by go_num, hnx2.out, hbel.drew⟩
            case measure => simp [intOf]; omega
        · have hq2 : (x == y) = false := by simpa using hxy
          have hnq : Hid (decide (l = m) = false) := decide_eq_false (hne.out hxy)
          clear hxy
          go_wp2
          go_region
          all_goals
            go_wp2
            go_ret
            exact ⟨by rw [hnq.out]; rfl, hbel.drew⟩
      · have hjl : j = l.length := by omega
        have hyes : Hid (decide (l = m) = true) := by
          have h1 := hpre.out
          have h2 := HL.out
          rw [List.take_of_length_le (by omega), List.take_of_length_le (by omega)] at h1
          exact decide_eq_true h1
        clear hjl
        go_wp2
        go_ret
        exact ⟨by rw [hyes.out]; rfl, hbel⟩
  · have hq : ((l.length : Int) != (m.length : Int)) = true := by simp; omega
    have hno : Hid (decide (l = m) = false) := decide_eq_false (fun e => hlen (by rw [e]))
    clear hlen
    go_enter Try.func16, Try.ntmps16
    go_wp2_with fail
    go_ret
    exact ⟨by rw [hno.out]; rfl, Below.refl _ _⟩

end Go.Proofs.Ytoajfnkhonegnaa.Cd
