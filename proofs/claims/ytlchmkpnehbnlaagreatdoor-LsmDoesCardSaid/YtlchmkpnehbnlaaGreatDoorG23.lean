/-
  A disk in the midst of a call that has blocks of its own: which of these are none of the disk's; bytes that lie in no block of the disk's. Conditions: none.
-/
import Derived.Test.YtlchmkpnehbnlaaGreatDoorG22
import Derived.Test.YtlchmkpnehbnlaaGreatDoorG5
namespace Go.Proofs.YtlchmkpnehbnlaaGreatDoor.Cd
open Go.RowKit

def Far (w : World) (S : Nat → Prop) (v : Value) (bs : List UInt8) : Prop := Sl w w.heap.size v bs ∧ (0 < bs.length → ∀ A n c, v = .slice (some A) n c → ¬ S A.block)

theorem Far.apart {w w' : World} {S : Nat → Prop} {v : Value} {bs : List UInt8} (h : Far w S v bs) (ha : Apart S w w') : Far w' (since S w w') v bs := by
  obtain ⟨⟨A, c, h1, h2, h3, h4, h5, h6⟩, h7⟩ := h
  refine ⟨⟨A, c, h1, h2, h3, h4, fun ad e h0 => by have := h5 ad e h0; have := ha.size; omega, fun ad e j u hu => ?_⟩, fun h0 A' n c' e hs => ?_⟩
  · have hj : j < bs.length := by have := (List.getElem?_eq_some_iff.1 hu).1; rwa [vb_length] at this
    rw [ha.cell (p := ad.add j) (by rw [block_of_add]; exact h5 ad e (by omega)) (by rw [block_of_add]; rw [e] at h1; exact h7 (by omega) ad _ _ h1)]
    exact h6 ad e j u hu
  · rw [h1] at e
    injection e with e _ _
    rcases hs with hs | hs
    · rw [e] at h1; exact h7 h0 A' _ _ h1 hs
    · have := h5 A' e h0; omega
theorem Far.below {w w' : World} {S : Nat → Prop} {v : Value} {bs : List UInt8} (h : Far w S v bs) (hb : Below w.heap.size w w') : Far w' S v bs := ⟨(h.1.below hb).more hb.size, h.2⟩
theorem Far.less {w : World} {S T : Nat → Prop} {v : Value} {bs : List UInt8} (h : Far w S v bs) (hst : ∀ k, k < w.heap.size → T k → S k) : Far w T v bs := by
  refine ⟨h.1, fun h0 A n c e ht => h.2 h0 A n c e (hst _ ?_ ht)⟩
  obtain ⟨⟨A', c', h1, _, _, _, h5, _⟩, _⟩ := h
  rw [h1] at e
  injection e with e _ _
  exact h5 A e h0

section
variable {w w1 w2 : World} {g N M : Nat} {S : Nat → Prop} {D : Dsk} {v : Value} {e : Ending}
theorem DkS.more {T : Nat → Prop} (h : DkS w g N S D) (hs : ∀ k, S k → T k) (ht : ∀ k, T k → k < w.heap.size) : DkS w g N T D := by
  obtain ⟨P, h1, h2⟩ := h
  exact ⟨P, h1.more hs ht, h2⟩
theorem since_iff {k : Nat} (h1 : w.heap.size ≤ w1.heap.size) (h2 : w1.heap.size ≤ w2.heap.size) : since (since S w w1) w1 w2 k ↔ since S w w2 k := since_trans h1 h2 k
theorem DkS.since (h : DkS w2 g N (since (since S w w1) w1 w2) D) (h1 : w.heap.size ≤ w1.heap.size) (h2 : w1.heap.size ≤ w2.heap.size) : DkS w2 g N (Cd.since S w w2) D :=
  h.more (fun _ hk => (since_iff h1 h2).1 hk) (fun k hk => h.lt k ((since_iff h1 h2).2 hk))
theorem MakesD.up (h1 : Apart S w w1) (h : MakesD g N (Cd.since S w w1) D v w1 e w2) : MakesD g N S D v w e w2 := ⟨h.1, h.2.1.since h1.size h.2.2.size, h1.trans h.2.2⟩
theorem MakesD.grow (h : MakesD g N S D v w e w1) (hN : N ≤ M) (hM : M ≤ 137438953472) : MakesD g M S D v w e w1 := ⟨h.1, h.2.1.mono hN hM, h.2.2⟩
theorem MakesD.undrew (h : MakesD g N S D v w.drew e w1) : MakesD g N S D v w e w1 := ⟨h.1, h.2.1, ⟨h.2.2.os, h.2.2.tape, h.2.2.output, h.2.2.size, h.2.2.block⟩⟩
theorem makesD_same (h : DkS w g N S D) (hb : Below w.heap.size w w1) (hN : N ≤ M) (hM : M ≤ 137438953472) : MakesD g M S D v w (.returned v) w1 := by
  have h2 := (h.mono hN hM).below hb
  refine ⟨rfl, h2.more (fun _ => .inl) (fun k hk => ?_), Apart.below hb⟩
  rcases hk with hk | hk
  · exact h2.lt k hk
  · exact hk.2
theorem DkS.into (h : DkS w g N S D) (hb : Below w.heap.size w w1) : DkS w1 g N (Cd.since S w w1) D := (makesD_same (v := .bool true) (M := N) h hb (Nat.le_refl _) (by obtain ⟨P, h1, _⟩ := h; exact h1.fits.top)).2.1
end

def BoxAt (W : World) (r : Nat) (v : Value) (T : TypeId) : Prop := W.heap[r]? = some (.cells #[v] T)
section
variable {W W' : World} {r : Nat} {v u : Value} {T : TypeId}
theorem BoxAt.cell (h : BoxAt W r v T) : W.cell? ⟨r, 0, none⟩ = some v := cell_of_row _ _ 0 _ _ _ h
theorem BoxAt.frozen (h : BoxAt W r v T) : W.frozen? ⟨r, 0, none⟩ = false := by
  have h : W.heap[r]? = _ := h
  unfold World.frozen?
  simp only [h]
  rfl
theorem BoxAt.lt (h : BoxAt W r v T) : r < W.heap.size := (Array.getElem?_eq_some_iff.1 h).1
theorem BoxAt.new (W : World) (v : Value) (T : TypeId) : BoxAt (W.alloc (.cells #[v] T)) W.heap.size v T := heap_alloc_new W _
theorem BoxAt.alloc (h : BoxAt W r v T) (o : Obj) : BoxAt (W.alloc o) r v T := (Below.heap_alloc _ _ _ h.lt).trans h
theorem BoxAt.on (h : BoxAt W r v T) (he : W'.heap[r]? = W.heap[r]?) : BoxAt W' r v T := he.trans h
theorem BoxAt.set (h : BoxAt W r v T) (u : Value) : BoxAt (W.setCell ⟨r, 0, none⟩ u) r u T := by
  have h : W.heap[r]? = _ := h
  unfold BoxAt World.setCell
  simp [Array.getElem?_modify, h]
end

def InP (w : World) (S : Nat → Prop) (g : Nat) (keep : List Nat) (M : Nat) (D : Dsk) (W : World) : Prop :=
  ∃ T : Nat → Prop, DkS W g M T D ∧ (∀ j, T j → S j ∨ w.heap.size ≤ j) ∧ (∀ r ∈ keep, ¬ T r ∧ r < W.heap.size) ∧ Apart S w W

section
variable {w W W' : World} {S : Nat → Prop} {p g M N : Nat} {n bs : List UInt8} {keep : List Nat} {D D' : Dsk} {v u : Value} {e : Ending}

theorem inP_start (hd : DkS w g M S D) : InP w S g [] M D w := ⟨S, hd, fun _ => .inl, by simp, Apart.refl _ _⟩
theorem InP.size (h : InP w S g keep M D W) : w.heap.size ≤ W.heap.size := by obtain ⟨T, _, _, _, h4⟩ := h; exact h4.size
theorem InP.below (h : InP w S g keep M D W) (hb : Below W.heap.size W W') : InP w S g keep M D W' := by
  obtain ⟨T, h1, h2, h3, h4⟩ := h
  exact ⟨T, h1.below hb, h2, fun r hr => ⟨(h3 r hr).1, Nat.lt_of_lt_of_le (h3 r hr).2 hb.size⟩, h4.trans (Apart.below hb)⟩
theorem InP.lay (h : InP w S g keep M D W) (o : Obj) : InP w S g (W.heap.size :: keep) M D (W.alloc o) := by
  have hb : Below W.heap.size W (W.alloc o) := (Below.refl _ _).alloc (Nat.le_refl _) _
  obtain ⟨T, h1, h2, h3, h4⟩ := h.below hb
  obtain ⟨T0, k1, k2, k3, k4⟩ := h
  refine ⟨T0, k1.below hb, k2, fun r hr => ?_, h4⟩
  rcases List.mem_cons.1 hr with rfl | hr
  · exact ⟨fun e => by have := k1.lt _ e; omega, by simp⟩
  · exact ⟨(k3 r hr).1, Nat.lt_of_lt_of_le (k3 r hr).2 hb.size⟩
theorem InP.fewer {keep' : List Nat} (h : InP w S g keep M D W) (hk : ∀ r ∈ keep', r ∈ keep) : InP w S g keep' M D W := by
  obtain ⟨T, h1, h2, h3, h4⟩ := h
  exact ⟨T, h1, h2, fun r hr => h3 r (hk r hr), h4⟩
theorem InP.grow (h : InP w S g keep M D W) (hN : M ≤ N) (hM : N ≤ 137438953472) : InP w S g keep N D W := by
  obtain ⟨T, h1, h2, h3, h4⟩ := h
  exact ⟨T, h1.mono hN hM, h2, h3, h4⟩
theorem InP.set (h : InP w S g keep M D W) {r o : Nat} (hr : r ∈ keep) (hw : w.heap.size ≤ r) (u : Value) : InP w S g keep M D (W.setCell ⟨r, o, none⟩ u) := by
  obtain ⟨T, h1, h2, h3, h4⟩ := h
  have ha : Apart (fun j => j = r) W (W.setCell ⟨r, o, none⟩ u) := ⟨rfl, rfl, rfl, by simp, fun j _ hj => heap_setCell_other _ _ _ _ hj⟩
  refine ⟨T, h1.apart ha (fun j hj e => (h3 r hr).1 (by rw [← e]; exact hj)), h2, fun q hq => ⟨(h3 q hq).1, by simpa using (h3 q hq).2⟩, ⟨h4.os, h4.tape, h4.output, by simpa using h4.size, fun j hj hn => ?_⟩⟩
  exact (heap_setCell_other _ _ _ _ (fun e => by have e : j = r := e; omega)).trans (h4.block j hj hn)
theorem InP.put (h : InP w S g keep M D W) {r : Nat} (hr : r ∈ keep) (hw : w.heap.size ≤ r) (o : Obj) : InP w S g keep M D (W.putObj r o) := by
  obtain ⟨T, h1, h2, h3, h4⟩ := h
  have ha : Apart (fun j => j = r) W (W.putObj r o) := ⟨rfl, rfl, rfl, by simp, fun j _ hj => World.putObj_heap_other hj⟩
  refine ⟨T, h1.apart ha (fun j hj e => (h3 r hr).1 (by rw [← e]; exact hj)), h2, fun q hq => ⟨(h3 q hq).1, by simpa using (h3 q hq).2⟩, ⟨h4.os, h4.tape, h4.output, by simpa using h4.size, fun j hj hn => ?_⟩⟩
  exact (World.putObj_heap_other (fun e => by omega)).trans (h4.block j hj hn)
theorem InP.makes (h : InP w S g keep M D W) (hS : ∀ k, S k → k < w.heap.size) (v : Value) : MakesD g M S D v w (.returned v) W := by
  obtain ⟨T, h1, h2, h3, h4⟩ := h
  refine ⟨rfl, h1.more (fun k hk => ?_) (fun k hk => ?_), h4⟩
  · rcases h2 k hk with h | h
    · exact .inl h
    · exact .inr ⟨h, h1.lt k hk⟩
  · rcases hk with hk | hk
    · exact Nat.lt_of_lt_of_le (hS k hk) h4.size
    · exact hk.2
end

section
variable {w W : World} {S : Nat → Prop} {g M : Nat} {keep : List Nat} {D : Dsk}
theorem InP.go (h : InP w S g keep M D W) : ∃ T, DkS W g M T D ∧ (∀ v bs, Far w S v bs → Far W T v bs) ∧ (∀ k, k < w.heap.size → ¬ S k → W.heap[k]? = w.heap[k]? ∧ ¬ T k) ∧ (∀ j, T j → S j ∨ w.heap.size ≤ j) ∧
    ∀ e v N D' W', MakesD g N T D' v W e W' → InP w S g keep N D' W' ∧ (∀ r ∈ keep, W'.heap[r]? = W.heap[r]?) ∧ W.heap.size ≤ W'.heap.size ∧ Apart T W W' := by
  obtain ⟨T, h1, h2, h3, h4⟩ := h
  have hless : ∀ k, k < W.heap.size → T k → since S w W k := fun k hk ht => by
    rcases h2 k ht with h | h
    · exact .inl h
    · exact .inr ⟨h, hk⟩
  refine ⟨T, h1, fun v bs hf => (hf.apart h4).less hless, fun k hk hn => ⟨h4.block k hk hn, fun ht => ?_⟩, h2, fun e v N D' W' hm => ?_⟩
  · rcases h2 k ht with h | h
    · exact hn h
    · omega
  obtain ⟨_, m2, m3⟩ := hm
  refine ⟨⟨since T W W', m2, fun j hj => ?_, fun r hr => ⟨fun e => ?_, Nat.lt_of_lt_of_le (h3 r hr).2 m3.size⟩, ?_⟩, fun r hr => m3.block r (h3 r hr).2 (h3 r hr).1, m3.size, m3⟩
  · rcases hj with hj | hj
    · exact h2 j hj
    · exact .inr (by have := h4.size; omega)
  · rcases e with e | e
    · exact (h3 r hr).1 e
    · have := (h3 r hr).2; omega
  · refine ⟨m3.os.trans h4.os, m3.tape.trans h4.tape, m3.output.trans h4.output, Nat.le_trans h4.size m3.size, fun j hj hn => ?_⟩
    exact (m3.block j (Nat.lt_of_lt_of_le hj h4.size) (fun ht => by rcases h2 j ht with h | h; exact hn h; omega)).trans (h4.block j hj hn)
end

end Go.Proofs.YtlchmkpnehbnlaaGreatDoor.Cd
