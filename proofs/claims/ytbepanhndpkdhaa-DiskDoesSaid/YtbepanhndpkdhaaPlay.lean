/-
  Writes that are played onto a side. Conditions: none.
-/
import Derived.Test.YtbepanhndpkdhaaDropD
namespace Go.Proofs.Ytbepanhndpkdhaa.Cd
open Go.RowKit

/-- One write onto a side. -/
def putS (s : Pages × Nat) (x : Pw) : Pages × Nat := (setF s.1 x.file (setP (s.1 x.file) x.spot x.data), s.2 + (x.spot + 1 - (s.1 x.file).length))
/-- Those of the writes, from the i-th on, that are chosen. -/
def playS (sel : Nat → Pw → Bool) : Nat → List Pw → Pages × Nat → Pages × Nat
  | _, [], s => s
  | i, x :: r, s => playS sel (i + 1) r (if sel i x = true then putS s x else s)
def cntS (sel : Nat → Pw → Bool) : Nat → List Pw → Nat
  | _, [] => 0
  | i, x :: r => (if sel i x = true then 1 else 0) + cntS sel (i + 1) r

theorem playS_append (sel : Nat → Pw → Bool) (b : List Pw) : ∀ (a : List Pw) (i : Nat) (s : Pages × Nat), playS sel i (a ++ b) s = playS sel (i + a.length) b (playS sel i a s) := by
  intro a
  induction a with
  | nil => intro i s; rfl
  | cons x r ih =>
    intro i s
    rw [List.cons_append, playS, playS, ih, List.length_cons]
    congr 1
    omega
theorem cntS_append (sel : Nat → Pw → Bool) (b : List Pw) : ∀ (a : List Pw) (i : Nat), cntS sel i (a ++ b) = cntS sel i a + cntS sel (i + a.length) b := by
  intro a
  induction a with
  | nil => intro i; simp [cntS]
  | cons x r ih =>
    intro i
    rw [List.cons_append, cntS, cntS, ih, List.length_cons, show i + 1 + r.length = i + (r.length + 1) by omega]
    omega
theorem playS_take (sel : Nat → Pw → Bool) {l : List Pw} {k : Nat} (hk : k < l.length) (s : Pages × Nat) : playS sel 0 (l.take (k + 1)) s = if sel k l[k] = true then putS (playS sel 0 (l.take k) s) l[k] else playS sel 0 (l.take k) s := by
  rw [List.take_succ_eq_append_getElem hk, playS_append, List.length_take, show 0 + min k l.length = k by omega]
  rfl
theorem cntS_take (sel : Nat → Pw → Bool) {l : List Pw} {k : Nat} (hk : k < l.length) : cntS sel 0 (l.take (k + 1)) = cntS sel 0 (l.take k) + if sel k l[k] = true then 1 else 0 := by
  rw [List.take_succ_eq_append_getElem hk, cntS_append, List.length_take, show 0 + min k l.length = k by omega]
  rfl
theorem cntS_le (sel : Nat → Pw → Bool) : ∀ (l : List Pw) (i : Nat), cntS sel i l ≤ l.length := by
  intro l
  induction l with
  | nil => intro i; exact Nat.le_refl _
  | cons x r ih =>
    intro i
    rw [cntS, List.length_cons]
    have := ih (i + 1)
    split <;> omega

/-- What a side can be. -/
structure SideOk (m : Nat) (s : Pages × Nat) : Prop where
  len : ∀ f, (s.1 f).length ≤ 4096
  fresh : ∀ f, m < f → s.1 f = []
theorem putS_ok {m : Nat} {s : Pages × Nat} {x : Pw} (h : SideOk m s) (hx : PwOk m x) : SideOk m (putS s x) := by
  refine ⟨fun f => ?_, fun f hf => ?_⟩
  · show (setF s.1 x.file _ f).length ≤ 4096
    unfold setF
    split
    · rw [setP_len]; have := h.len x.file; have := hx.2.1; omega
    · exact h.len f
  · show setF s.1 x.file _ f = []
    rw [setF_other _ (by have := hx.1; omega)]
    exact h.fresh f hf
theorem playS_ok {sel : Nat → Pw → Bool} {m : Nat} : ∀ (l : List Pw) (i : Nat) (s : Pages × Nat), SideOk m s → (∀ x ∈ l, PwOk m x) → SideOk m (playS sel i l s) := by
  intro l
  induction l with
  | nil => intro i s h _; exact h
  | cons x r ih =>
    intro i s h hl
    rw [playS]
    refine ih _ _ ?_ (fun y hy => hl y (by simp [hy]))
    split
    · exact putS_ok h (hl x (by simp))
    · exact h
theorem playS_n {sel : Nat → Pw → Bool} {m : Nat} : ∀ (l : List Pw) (i : Nat) (s : Pages × Nat), (∀ x ∈ l, PwOk m x) → (playS sel i l s).2 ≤ s.2 + 4097 * cntS sel i l := by
  intro l
  induction l with
  | nil => intro i s _; exact Nat.le_refl _
  | cons x r ih =>
    intro i s hl
    rw [playS, cntS]
    have h1 := ih (i + 1) (if sel i x = true then putS s x else s) (fun y hy => hl y (by simp [hy]))
    have h2 := (hl x (by simp)).2.1
    by_cases hs : sel i x = true
    · rw [if_pos hs] at h1 ⊢
      rw [if_pos hs]
      have h3 : (putS s x).2 ≤ s.2 + 4097 := by show s.2 + (x.spot + 1 - _) ≤ _; omega
      omega
    · rw [if_neg hs] at h1 ⊢
      rw [if_neg hs]
      omega

/-- Of a file: those that sync makes safe. -/
def ofFile (f : Nat) : Nat → Pw → Bool := fun _ x => decide (x.file = f)
theorem cnt_file (f : Nat) : ∀ (l : List Pw) (i : Nat), cntS (ofFile f) i l + (l.filter fun x => !hitP f 0 x).length = l.length := by
  intro l
  induction l with
  | nil => intro i; rfl
  | cons x r ih =>
    intro i
    rw [cntS, List.filter_cons, List.length_cons]
    have := ih (i + 1)
    have he : hitP f 0 x = ofFile f i x := by unfold hitP ofFile; simp
    rw [he]
    cases ofFile f i x
    · simp; omega
    · simp; omega

def settleP (P : Pd) (f : Nat) : Pd := { P with safe := (playS (ofFile f) 0 P.late (P.safe, P.ns)).1, ns := (playS (ofFile f) 0 P.late (P.safe, P.ns)).2, late := P.late.filter fun x => !hitP f 0 x }

/-- The writes are all played, and those of the file wait no more: the disk behind it. -/
theorem settle_end {w w1 w2 : World} {g N bf c1 p1 c2 p2 j f : Nat} {S : Nat → Prop} {P : Pd} {lv : Value} {e : Ending} (h : DiskR w g S P N bf c1 p1 c2 p2 lv) (ha : Apart (two c2 p2) w w1)
    (hs : Side w1 c2 p2 (playS (ofFile f) 0 P.late (P.safe, P.ns)).1 (playS (ofFile f) 0 P.late (P.safe, P.ns)).2 (j + cntS (ofFile f) 0 P.late)) (hj : j + P.late.length ≤ N) (hfg : Forgot g bf c1 p1 c2 p2 f 0 P lv w1 e w2) : Makes g S (settleP P f) N (.tuple #[]) w e w2 := by
  obtain ⟨he, v, hrow, hv, ho, ha2⟩ := hfg
  obtain ⟨i1, i2, i3, i4, i5, i6⟩ := h.ins
  obtain ⟨n1, n2, n3, n4, n5⟩ := h.neg
  obtain ⟨m1, m2, m3, m4⟩ := h.nef
  obtain ⟨q1, q2, q3, q4⟩ := h.nes
  have hcnt := cnt_file f P.late 0
  have hok := playS_ok (sel := ofFile f) P.late 0 (P.safe, P.ns) (m := P.made) ⟨h.fits.safe, fun x hx => (h.fits.fresh x hx).2⟩ h.fits.late
  have hn := playS_n (sel := ofFile f) P.late 0 (P.safe, P.ns) h.fits.late
  have hap1 : Apart S w w1 := ha.mono (by rintro b (rfl | rfl) <;> assumption)
  have hap : Apart S w w2 := hap1.trans (ha2.mono (fun k hk => .inl (hk.elim (fun e => by rw [e]; exact i1) (fun e => h.inl k e))))
  have hb : ∀ b, S b → b ≠ g → (∀ c, lv.ownBlock = some c → b ≠ c) → w2.heap[b]? = w1.heap[b]? := fun b hS h1 h2 => ha2.block b (Nat.lt_of_lt_of_le (h.lt b hS) ha.size) (fun e => e.elim h1 (fun e => h2 b e rfl))
  have hfits : Fits (settleP P f) N := by
    have h0 := h.fits
    refine ⟨h0.top, h0.room, h0.made, h0.acts, h0.fuse, h0.keep, fun x hx => h0.late x (List.mem_filter.1 hx).1, h0.now, hok.len, h0.nns, ?_, h0.files, fun x hx => ⟨(h0.fresh x hx).1, hok.fresh x hx⟩⟩
    have h1 := h0.nss
    have hn : (playS (ofFile f) 0 P.late (P.safe, P.ns)).2 ≤ P.ns + 4097 * cntS (ofFile f) 0 P.late := hn
    show (playS (ofFile f) 0 P.late (P.safe, P.ns)).2 + 4097 * (P.late.filter fun x => !hitP f 0 x).length ≤ 4097 * N
    omega
  have hd := h.turn (P1 := settleP P f) hrow ((hb bf i2 (fun e => n1 e.symm) (fun c hc e => (h.nel c hc).2.1 e.symm)).trans (ha.block bf (h.lt bf i2) (by rintro (e | e); exact m3 e; exact m4 e))) rfl
    ((h.now.apart ha (by rintro (e | e); exact q1 e; exact q2 e) (by rintro (e | e); exact q3 e; exact q4 e)).heap (hb c1 i3 (fun e => n2 e.symm) (fun c hc e => (h.nel c hc).2.2.1 e.symm)) (hb p1 i4 (fun e => n3 e.symm) (fun c hc e => (h.nel c hc).2.2.2.1 e.symm)))
    ⟨_, hs.heap (hb c2 i5 (fun e => n4 e.symm) (fun c hc e => (h.nel c hc).2.2.2.2.1 e.symm)) (hb p2 i6 (fun e => n5 e.symm) (fun c hc e => (h.nel c hc).2.2.2.2.2 e.symm)), by show j + cntS (ofFile f) 0 P.late + (P.late.filter fun x => !hitP f 0 x).length ≤ N; omega⟩ ho hv hfits hap.size
  exact ⟨he, ⟨_, _, _, _, _, _, hd.more (fun _ => .inl) (since_lt h.lt hap.size)⟩, hap⟩

end Go.Proofs.Ytbepanhndpkdhaa.Cd
