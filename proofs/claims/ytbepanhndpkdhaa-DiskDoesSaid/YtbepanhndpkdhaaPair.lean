/-
  A disk and the document's, side by side: what a call on each leaves. Conditions: none.
-/
import Derived.Test.YtbepanhndpkdhaaRefLose
import Derived.Test.YtbepanhndpkdhaaDkS
import Derived.Test.YtbepanhndpkdhaaSrt
import Derived.Test.YtbepanhndpkdhaaCalls
namespace Go.Proofs.Ytbepanhndpkdhaa.Cd
open Go.RowKit

theorem nodup_le {α : Type} [BEq α] [LawfulBEq α] : ∀ (l m : List α), l.Nodup → (∀ x ∈ l, x ∈ m) → l.length ≤ m.length
  | [], _, _, _ => Nat.zero_le _
  | x :: l, m, hn, hs => by
    have h := List.nodup_cons.1 hn
    have hx := hs x (by simp)
    have h1 := nodup_le l (m.erase x) h.2 (fun y hy => (List.mem_erase_of_ne (fun e => h.1 (by rw [← e]; exact hy))).2 (hs y (by simp [hy])))
    rw [List.length_erase_of_mem hx] at h1
    have := List.length_pos_of_mem hx
    simp only [List.length_cons]
    omega

theorem Srt.few {NS : List (List UInt8)} {l : List Fil} (h : Srt (fun n => n ∈ NS) l) : l.length ≤ NS.length := by
  have h1 : (l.map Fil.name).Nodup := List.pairwise_map.2 (h.up.imp (fun hlt e => by rw [e] at hlt; exact List.lt_irrefl _ hlt))
  have := nodup_le _ NS h1 (fun x hx => by obtain ⟨f, hf, rfl⟩ := List.mem_map.1 hx; exact h.all f hf)
  simpa using this

theorem pages_mem : ∀ {l : List Fil}, Once l → ∀ {f : Fil}, f ∈ l → pagesF l f.name = f.pages
  | [], _, _, hf => by cases hf
  | g :: r, h, f, hf => by
    have h2 : g.name ∉ r.map Fil.name ∧ (r.map Fil.name).Nodup := List.nodup_cons.1 h
    rcases List.mem_cons.1 hf with rfl | hf
    · simp [pagesF, getF]
    · have hne : g.name ≠ f.name := fun e => h2.1 (by rw [e]; exact List.mem_map.2 ⟨f, hf, rfl⟩)
      have := pages_mem (l := r) h2.2 hf
      unfold pagesF at this ⊢
      rw [getF, if_neg hne]
      exact this

theorem Pairs.size {q : Nums} : ∀ {l : List Pw} {r : List Wrt}, Pairs q l r → r.length = l.length ∧ ∀ w ∈ r, ∃ x ∈ l, x.spot = w.page
  | [], [], _ => ⟨rfl, fun w hw => by cases hw⟩
  | x :: l, w :: r, h => by
    obtain ⟨⟨_, h2, _⟩, h3⟩ := h
    obtain ⟨e1, e2⟩ := Pairs.size h3
    refine ⟨by simp [e1], fun v hv => ?_⟩
    rcases List.mem_cons.1 hv with rfl | hv
    · exact ⟨x, by simp, h2⟩
    · obtain ⟨y, hy, e⟩ := e2 v hv
      exact ⟨y, by simp [hy], e⟩
  | [], _ :: _, h => h.elim
  | _ :: _, [], h => h.elim

theorem Like.short {q : Nums} {s : Pages × Nat} {l : List Fil} (h : Like q s l) (hs : ∀ f, (s.1 f).length ≤ 4096) (n : List UInt8) : (pagesF l n).length ≤ 4096 := by
  cases hg : getF l n with
  | none => unfold pagesF; rw [hg]; simp
  | some f =>
    have h1 := h.has n (by rw [hg]; rfl)
    obtain ⟨k, hk⟩ := Option.isSome_iff_exists.1 h1
    rw [← h.pages n k hk]
    exact hs k

/-- The disk is small: few files, few writes that wait, few pages. -/
structure Few (D : Dsk) : Prop where
  bd : Bd D
  now : D.now.length ≤ 4096
  waits : D.waits.length ≤ 4096
  page : ∀ n, (pagesF D.now n).length ≤ 4096
  cnt : count D.now ≤ 4096

theorem DkS.few {w : World} {g N : Nat} {S : Nat → Prop} {D : Dsk} {NS : List (List UInt8)} (h : DkS w g N S D) (hN : N ≤ 4096) (hs : SrtD (fun n => n ∈ NS) D) (hl : NS.length ≤ 4096) : Few D := by
  obtain ⟨P, hR, h2⟩ := h
  have hf := hR.fits
  obtain ⟨hw1, hw2⟩ := h2.waits.size
  have hlate : D.waits.length ≤ 4096 := by have := hf.nss; omega
  have hnow := hs.now.few
  have hsafe := hs.safe.few
  have hc : count D.now ≤ 4096 := by
    have h1 : P.nn = count D.now := h2.now.num
    have := hf.nns
    have := hf.room
    omega
  refine ⟨⟨by omega, by omega, by omega, fun x hx => ?_, fun f hm => ?_, fun f hm => ?_, ?_, ?_, ?_, ?_, by omega⟩, by omega, hlate, fun n => h2.now.short hf.now n, hc⟩
  · obtain ⟨y, hy, e⟩ := hw2 x hx
    have := (hf.late y hy).2.1
    omega
  · have := h2.safe.short hf.safe f.name
    rw [pages_mem h2.safe.once hm] at this
    omega
  · have := h2.now.short hf.now f.name
    rw [pages_mem h2.now.once hm] at this
    omega
  · rw [h2.acts]; have := hf.acts; omega
  · rw [h2.fuse]; exact hf.fuse
  · rw [h2.keep]; exact hf.keep
  · rw [h2.room]; exact hf.room

end Go.Proofs.Ytbepanhndpkdhaa.Cd

namespace Go.Proofs.Ytbepanhndpkdhaa.Cd
open Go.RowKit

/-- What a call makes of the document's disk. -/
def stepD (D : Dsk) (c : Cl) : Dsk :=
  if c.kind = 0 then (writeD D c.a c.i c.b).1 else if c.kind = 1 then D else if c.kind = 2 then (syncD D c.a).1 else if c.kind = 3 then (cutD D c.a c.i).1
  else if c.kind = 4 then (renameD D c.a c.z).1 else if c.kind = 5 then (removeD D c.a).1 else if c.kind = 6 then lose D c.k else if c.kind = 7 then onD D
  else if c.kind = 8 then armD D c.i c.k else D

theorem SrtD.step {Q : List UInt8 → Prop} {D : Dsk} (h : SrtD Q D) {c : Cl} (ha : Q c.a) (hz : Q c.z) : SrtD Q (stepD D c) := by
  unfold stepD
  split
  · exact h.write ha _ _
  split
  · exact h
  split
  · exact h.sync ha
  split
  · exact h.cut ha _
  split
  · exact h.rename _ hz
  split
  · exact h.remove _
  split
  · exact h.lose _
  split
  · exact h.on
  split
  · exact h.arm _ _
  · exact h

/-- The program's disk at gd and the document's at gm are one disk D; all of their blocks lie at B and above. -/
structure Pair (w : World) (B gd gm N : Nat) (S T : Nat → Prop) (D : Dsk) : Prop where
  d : DkS w gd N S D
  r : RefR w gm T D
  ap : ∀ k, S k → ¬ T k
  no : ¬ S gm
  lo : ∀ k, S k ∨ T k ∨ k = gm → B ≤ k

def Feet (S T : Nat → Prop) (gm : Nat) : Nat → Prop := fun k => S k ∨ T k ∨ k = gm
/-- What is left behind a call on each. -/
def PairTo (w w' : World) (B gd gm N : Nat) (S T : Nat → Prop) (D : Dsk) : Prop :=
  ∃ S' T', Pair w' B gd gm N S' T' D ∧ Apart (Feet S T gm) w w' ∧ ∀ k, S' k ∨ T' k → (S k ∨ T k) ∨ (w.heap.size ≤ k ∧ k < w'.heap.size)

section
variable {w w1 w2 w' : World} {B gd gm N N' : Nat} {S T : Nat → Prop} {D D' : Dsk}

theorem RefR.nout (h : RefR w gm T D) : ¬ T gm := by
  obtain ⟨_, _, _, h⟩ := h
  exact h.out
theorem Pair.lt (h : Pair w B gd gm N S T D) : ∀ k, Feet S T gm k → k < w.heap.size := fun k hk => hk.elim (h.d.lt k) fun e => e.elim (h.r.lt k) fun e => by rw [e]; exact h.r.glt
theorem Pair.below (h : Pair w B gd gm N S T D) (hb : Below w.heap.size w w') : Pair w' B gd gm N S T D := ⟨h.d.below hb, h.r.below hb, h.ap, h.no, h.lo⟩
/-- Behind a call on the program's disk, the document's lies as it lay. -/
theorem Pair.half (h : Pair w B gd gm N S T D) (ha : Apart S w w1) : RefR w1 gm T D := h.r.apart ha h.no (fun k hk hs => h.ap k hs hk)
theorem Pair.done (h : Pair w B gd gm N S T D) (hB : B ≤ w.heap.size) (h1 : DkS w1 gd N' (since S w w1) D') (ha1 : Apart S w w1) (h2 : RefR w2 gm (since T w1 w2) D') (ha2 : Apart (fun k => T k ∨ k = gm) w1 w2) : PairTo w w2 B gd gm N' S T D' := by
  have s1 := ha1.size
  have s2 := ha2.size
  refine ⟨since S w w1, since T w1 w2, ⟨?_, h2, fun k hk ht => ?_, fun hk => ?_, fun k hk => ?_⟩, ?_, fun k hk => ?_⟩
  · refine h1.apart ha2 fun k hk ht => ?_
    rcases hk with hk | hk
    · exact ht.elim (h.ap k hk) fun e => h.no (by rw [← e]; exact hk)
    · exact ht.elim (fun e => by have := h.r.lt k e; omega) fun e => by have := h.r.glt; omega
  · rcases hk with hk | hk
    · rcases ht with ht | ht
      · exact h.ap k hk ht
      · have := h.d.lt k hk; omega
    · rcases ht with ht | ht
      · have := h.r.lt k ht; omega
      · omega
  · rcases hk with hk | hk
    · exact h.no hk
    · have := h.r.glt; omega
  · rcases hk with hk | hk | hk
    · exact hk.elim (fun e => h.lo k (.inl e)) fun e => by omega
    · exact hk.elim (fun e => h.lo k (.inr (.inl e))) fun e => by omega
    · exact h.lo k (.inr (.inr hk))
  · exact (ha1.mono fun k hk => .inl hk).trans (ha2.mono fun k hk => .inl (.inr hk))
  · rcases hk with hk | hk
    · exact hk.elim (fun e => .inl (.inl e)) fun e => .inr (by omega)
    · exact hk.elim (fun e => .inl (.inr e)) fun e => .inr (by omega)
/-- Both were only asked. -/
theorem Pair.asked (h : Pair w B gd gm N S T D) (hN : N ≤ N') (hM : N' ≤ 137438953472) (hb : Below w.heap.size w w') : PairTo w w' B gd gm N' S T D :=
  ⟨S, T, ⟨(h.d.below hb).mono hN hM, h.r.below hb, h.ap, h.no, h.lo⟩, Apart.below hb, fun _ hk => .inl hk⟩
/-- What lies below B is as it was. -/
theorem PairTo.low (k : PairTo w w' B gd gm N' S T D') (h : Pair w B gd gm N S T D) (hB : B ≤ w.heap.size) : Below B w w' := by
  obtain ⟨_, _, _, ha, _⟩ := k
  exact ha.low hB h.lo
/-- A block was laid first. -/
theorem PairTo.from (_h : Pair w B gd gm N S T D) (hb : Below w.heap.size w w1) (k : PairTo w1 w' B gd gm N' S T D') : PairTo w w' B gd gm N' S T D' := by
  obtain ⟨S', T', h1, h2, h3⟩ := k
  have s1 := hb.size
  have s2 := h2.size
  refine ⟨S', T', h1, (Apart.below hb).trans (h2.mono fun _ => .inl), fun j hj => (h3 j hj).elim .inl fun e => .inr (by omega)⟩
end

end Go.Proofs.Ytbepanhndpkdhaa.Cd
