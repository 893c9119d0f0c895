/-
  DiskTwins answers true. Conditions: none.
-/
import Derived.Test.YtbepanhndpkdhaaDoes
import Derived.Test.YtbepanhndpkdhaaSameD
import Derived.Test.YtbepanhndpkdhaaCalls
import Derived.Test.YtbepanhndpkdhaaAliveD
namespace Go.Proofs.Ytbepanhndpkdhaa.Cd
open Go.RowKit

/-- What the script's calls name. -/
def namesC (ps : List Cl) : List (List UInt8) := ps.map Cl.a ++ ps.map Cl.z
theorem namesC_len (ps : List Cl) : (namesC ps).length = 2 * ps.length := by unfold namesC; simp; omega
theorem namesC_a {ps : List Cl} {c : Cl} (h : c ∈ ps) : c.a ∈ namesC ps := List.mem_append_left _ (List.mem_map.2 ⟨c, h, rfl⟩)
theorem namesC_z {ps : List Cl} {c : Cl} (h : c ∈ ps) : c.z ∈ namesC ps := List.mem_append_right _ (List.mem_map.2 ⟨c, h, rfl⟩)
theorem namesC_short {ps : List Cl} (h : ∀ c ∈ ps, c.Ok) : ∀ n ∈ namesC ps, Short n := fun n hn => (List.mem_append.1 hn).elim
  (fun h1 => by obtain ⟨c, hc, rfl⟩ := List.mem_map.1 h1; have := (h c hc).a; unfold Short; omega)
  (fun h1 => by obtain ⟨c, hc, rfl⟩ := List.mem_map.1 h1; have := (h c hc).z; unfold Short; omega)
/-- The disk behind the first k calls. -/
def runD (D : Dsk) (ps : List Cl) (k : Nat) : Dsk := (ps.take k).foldl stepD D
theorem runD_succ (D : Dsk) {ps : List Cl} {k : Nat} (h : k < ps.length) : runD D ps (k + 1) = stepD (runD D ps k) ps[k] := by
  unfold runD
  rw [List.take_succ_eq_append_getElem h, List.foldl_append]
  rfl
theorem srt_run (room : Int) (ps : List Cl) : ∀ k, k ≤ ps.length → SrtD (fun n => n ∈ namesC ps) (runD (newD room) ps k) := by
  intro k
  induction k with
  | zero => intro _; exact srt_new room
  | succ k ih =>
    intro h
    rw [runD_succ _ (by omega : k < ps.length)]
    exact (ih (by omega)).step (namesC_a (List.getElem_mem _)) (namesC_z (List.getElem_mem _))

/-- Two pairs that are apart; the block q is of neither. -/
def TwoQ (w : World) (B ga ma gb mb N1 : Nat) (D1 : Dsk) (N2 : Nat) (D2 : Dsk) (q : Nat) : Prop :=
  ∃ S T S2 T2, Pair w B ga ma N1 S T D1 ∧ Pair w B gb mb N2 S2 T2 D2 ∧ (∀ k, Feet S T ma k → ¬ Feet S2 T2 mb k) ∧ (∀ k, Feet S T ma k → k ≠ q) ∧ (∀ k, Feet S2 T2 mb k → k ≠ q)
section
variable {w w' : World} {B ga ma gb mb N1 N2 N N' q : Nat} {D1 D2 D D' : Dsk} {S T S2 T2 : Nat → Prop}
theorem TwoQ.symm (h : TwoQ w B ga ma gb mb N1 D1 N2 D2 q) : TwoQ w B gb mb ga ma N2 D2 N1 D1 q := by
  obtain ⟨S, T, S2, T2, h1, h2, h3, h4, h5⟩ := h
  exact ⟨S2, T2, S, T, h2, h1, fun k a b => h3 k b a, h5, h4⟩
theorem TwoQ.below (h : TwoQ w B ga ma gb mb N1 D1 N2 D2 q) (hb : Below w.heap.size w w') : TwoQ w' B ga ma gb mb N1 D1 N2 D2 q := by
  obtain ⟨S, T, S2, T2, h1, h2, h3, h4, h5⟩ := h
  exact ⟨S, T, S2, T2, h1.below hb, h2.below hb, h3, h4, h5⟩
/-- A block that was just laid is of neither. -/
theorem TwoQ.box (h : TwoQ w B ga ma gb mb N1 D1 N2 D2 q) (o : Obj) : TwoQ (w.alloc o) B ga ma gb mb N1 D1 N2 D2 w.heap.size := by
  obtain ⟨S, T, S2, T2, h1, h2, h3, _, _⟩ := h
  have hb : Below w.heap.size w (w.alloc o) := (Below.refl _ _).alloc (Nat.le_refl _) _
  exact ⟨S, T, S2, T2, h1.below hb, h2.below hb, h3, fun k hk e => by have := h1.lt k hk; omega, fun k hk e => by have := h2.lt k hk; omega⟩
theorem Pair.apart {U : Nat → Prop} (h : Pair w B gb mb N S2 T2 D) (ha : Apart U w w') (hd : ∀ k, U k → ¬ Feet S2 T2 mb k) : Pair w' B gb mb N S2 T2 D :=
  ⟨h.d.apart ha fun k hk hu => hd k hu (.inl hk), h.r.apart ha (fun hu => hd mb hu (.inr (.inr rfl))) fun k hk hu => hd k hu (.inr (.inl hk)), h.ap, h.no, h.lo⟩

theorem does_two (h : TwoQ w B ga ma gb mb N1 D1 N2 D2 q) (hB : B ≤ w.heap.size) (hq : q < w.heap.size) {c : Cl} {u : Value} {NS : List (List UInt8)} (ok : c.Ok) (hu : Sl w B u c.b) (hs : SrtD (fun n => n ∈ NS) D1) (hl : NS.length ≤ 4096) (hN : N1 + 4 ≤ 4096) :
    Calls Try.prog 14 #[.pointer (some ⟨ga, 0, none⟩), .pointer (some ⟨ma, 0, none⟩), .agg #[.int .i64 c.kind, .string ⟨c.a.toArray⟩, .string ⟨c.z.toArray⟩, .int .i64 c.i, u, .int .u64 c.k]] w
      (fun e w' => e = .returned (.bool true) ∧ TwoQ w' B ga ma gb mb (N1 + 4) (stepD D1 c) N2 D2 q ∧ Below B w w' ∧ w'.heap[q]? = w.heap[q]? ∧ w.heap.size ≤ w'.heap.size) := by
  obtain ⟨S, T, S2, T2, h1, h2, h3, h4, h5⟩ := h
  refine (does_any B ga ma N1 S T D1 c u NS w h1 hB ok hu hs hl hN).mono ?_
  rintro e w' ⟨rfl, S', T', p1, p2, p3⟩
  have hz := p2.size
  refine ⟨rfl, ⟨S', T', S2, T2, p1, h2.apart p2 h3, fun k hk => ?_, fun k hk => ?_, h5⟩, p2.low hB h1.lo, p2.block q hq (fun e => h4 q e rfl), hz⟩
  · rcases hk with hk | hk | hk
    · rcases p3 k (.inl hk) with e | e
      · exact h3 k (e.elim .inl fun e => .inr (.inl e))
      · intro hf; have := h2.lt k hf; omega
    · rcases p3 k (.inr hk) with e | e
      · exact h3 k (e.elim .inl fun e => .inr (.inl e))
      · intro hf; have := h2.lt k hf; omega
    · exact h3 k (.inr (.inr hk))
  · rcases hk with hk | hk | hk
    · rcases p3 k (.inl hk) with e | e
      · exact h4 k (e.elim .inl fun e => .inr (.inl e))
      · omega
    · rcases p3 k (.inr hk) with e | e
      · exact h4 k (e.elim .inl fun e => .inr (.inl e))
      · omega
    · exact h4 k (.inr (.inr hk))
/-- What is asked of the first. -/
theorem TwoQ.one (h : TwoQ w B ga ma gb mb N1 D1 N2 D2 q) : ∃ S T, Pair w B ga ma N1 S T D1 := by
  obtain ⟨S, T, _, _, h1, _⟩ := h
  exact ⟨S, T, h1⟩
end

end Go.Proofs.Ytbepanhndpkdhaa.Cd

namespace Go.Proofs.Ytbepanhndpkdhaa.DiskTwins
open Go.RowKit Go.Proofs.Ytbepanhndpkdhaa.Cd

theorem clls_more {w : World} {B B' : Nat} {v : Value} {ps : List Cl} (h : Clls w B v ps) (hB : B ≤ B') : Clls w B' v ps := by
  obtain ⟨A, c, h1, h2, h3, h4⟩ := h
  refine ⟨A, c, h1, h2, h3, fun hp => ?_⟩
  obtain ⟨b, off, e, h5, hc⟩ := h4 hp
  refine ⟨b, off, e, by omega, fun i p hi => ?_⟩
  obtain ⟨u, hs, hx⟩ := hc i p hi
  exact ⟨u, hs.more hB, hx⟩
theorem clls_len {w : World} {B : Nat} {v : Value} {ps : List Cl} (h : Clls w B v ps) : ∃ A c, v = .slice A ps.length c := by
  obtain ⟨A, c, h1, _⟩ := h
  exact ⟨A, c, h1⟩
theorem clls_at {w : World} {B n c : Nat} {A : Option Addr} {ps : List Cl} (h : Clls w B (.slice A n c) ps) {k : Nat} (hk : k < ps.length) :
    ∃ b off Au cu, A = some ⟨b, off, none⟩ ∧ b < B ∧ (ps[k]).Ok ∧ Sl w B (.slice Au (ps[k]).b.length cu) (ps[k]).b ∧ w.cell? ⟨b, off + k * 6, none⟩ = some (.int .i64 (ps[k]).kind) ∧ w.cell? ⟨b, off + k * 6 + 1, none⟩ = some (.string ⟨(ps[k]).a.toArray⟩) ∧ w.cell? ⟨b, off + k * 6 + 2, none⟩ = some (.string ⟨(ps[k]).z.toArray⟩) ∧
      w.cell? ⟨b, off + k * 6 + 3, none⟩ = some (.int .i64 (ps[k]).i) ∧ w.cell? ⟨b, off + k * 6 + 4, none⟩ = some (.slice Au (ps[k]).b.length cu) ∧ w.cell? ⟨b, off + k * 6 + 5, none⟩ = some (.int .u64 (ps[k]).k) := by
  obtain ⟨A0, c0, e, _, h3, h4⟩ := h
  injection e with e1 e2 e3
  obtain ⟨b, off, e, hB, hc⟩ := h4 (by omega)
  obtain ⟨u, hs, hx⟩ := hc k _ (List.getElem?_eq_getElem hk)
  obtain ⟨Au, cu, rfl, _⟩ := hs.len
  exact ⟨b, off, Au, cu, e1.trans e, hB, h3 _ (List.getElem_mem hk), hs, hx 0 _ rfl, hx 1 _ rfl, hx 2 _ rfl, hx 3 _ rfl, hx 4 _ rfl, hx 5 _ rfl⟩
theorem short_run {room : Int} {ps : List Cl} {k : Nat} (h : ∀ c ∈ ps, c.Ok) (hk : k ≤ ps.length) : SrtD Short (runD (newD room) ps k) :=
  have hs := srt_run room ps k hk
  ⟨⟨hs.now.up, fun f hf => namesC_short h _ (hs.now.all f hf)⟩, ⟨hs.safe.up, fun f hf => namesC_short h _ (hs.safe.all f hf)⟩, fun x hx => namesC_short h _ (hs.waits x hx)⟩
theorem start {w0 w1 w2 w3 w4 : World} {B ga ma gb mb : Nat} {Sa Sb : Nat → Prop} {D : Dsk} (hB : B ≤ w0.heap.size) (hda : DkS w1 ga 0 Sa D) (hSa : ∀ k, Sa k → w0.heap.size ≤ k) (hb1 : Below w0.heap.size w0 w1) (hdb : DkS w2 gb 0 Sb D) (hSb : ∀ k, Sb k → w1.heap.size ≤ k) (hb2 : Below w1.heap.size w1 w2)
    (hra : RefR w3 ma (fun _ => False) D) (hma : w2.heap.size ≤ ma) (hb3 : Below w2.heap.size w2 w3) (hrb : RefR w4 mb (fun _ => False) D) (hmb : w3.heap.size ≤ mb) (hb4 : Below w3.heap.size w3 w4) : TwoQ w4 B ga ma gb mb 0 D 0 D w4.heap.size := by
  have s1 := hb1.size
  have s2 := hb2.size
  have s3 := hb3.size
  have s4 := hb4.size
  have la := hda.lt
  have lb := hdb.lt
  have ga := hra.glt
  have gb := hrb.glt
  refine ⟨Sa, fun _ => False, Sb, fun _ => False, ⟨((hda.below hb2).below hb3).below hb4, hra.below hb4, fun _ _ h => h, fun h => by have := la _ h; omega, fun k hk => ?_⟩, ⟨(hdb.below hb3).below hb4, hrb, fun _ _ h => h, fun h => by have := lb _ h; omega, fun k hk => ?_⟩, fun k hk hj => ?_, fun k hk => ?_, fun k hk => ?_⟩
  · rcases hk with hk | hk | hk
    · have := hSa k hk; omega
    · exact hk.elim
    · omega
  · rcases hk with hk | hk | hk
    · have := hSb k hk; omega
    · exact hk.elim
    · omega
  · rcases hk with hk | hk | hk
    · have := la k hk
      rcases hj with hj | hj | hj
      · have := hSb k hj; omega
      · exact hj
      · omega
    · exact hk
    · rcases hj with hj | hj | hj
      · have := lb k hj; omega
      · exact hj
      · omega
  · rcases hk with hk | hk | hk
    · have := la k hk; omega
    · exact hk.elim
    · omega
  · rcases hk with hk | hk | hk
    · have := lb k hk; omega
    · exact hk.elim
    · omega

set_option maxRecDepth 100000 in
set_option maxHeartbeats 8000000 in
theorem walk (a0 : Int) (v1 : Value) (ps : List Cl) (w : World) (w0 : (Lit.int .i64 a0).wf = true) (w1 : Clls w w.heap.size v1 ps) :
    Calls Try.prog 9 #[.int .i64 a0, v1] w (Gives (.bool true) w) := by
  have b0 := bounds_i64 w0
  obtain ⟨A, c, rfl⟩ := clls_len w1
  have HCL := Lib.hid w1
  have HOK : Hid (∀ p ∈ ps, p.Ok) := by obtain ⟨_, _, _, _, h, _⟩ := w1; exact h
  clear w1 w0
  go_enter Try.func9, Try.ntmps9
  go_wp2_with fail
  refine (alive_any w).mono ?_
  rintro e wa ⟨rfl, hba⟩
  have HBA := Lib.hid hba
  have KG := Lib.hid (great5_any _ ps wa (clls_more (HCL.out.below hba) hba.size))
  clear hba
  go_wp2_with fail
  refine KG.out.mono ?_
  rintro e wg ⟨rfl, hbg⟩
  have HBG : Hid (Below w.heap.size w wg) := HBA.out.trans (hbg.mono HBA.out.size)
  clear hbg KG HBA
  cases hbig : bigC ps
  · have hlen : ps.length ≤ 80 := by
      unfold bigC at hbig
      simp at hbig
      exact hbig.2
    clear hbig
    have hli : (ps.length : Int) ≤ 80 := by omega
    go_wp2_with fail
    refine (new_dks a0 wg b0.1 b0.2).mono ?_
    rintro e w1 ⟨ga, Sa, rfl, hda, hSa, hb1⟩
    have HDA := Lib.hid hda
    have HSA := Lib.hid hSa
    have HB1 := Lib.hid hb1
    clear hda hSa hb1
    go_wp2_with fail
    refine (new_dks a0 w1 b0.1 b0.2).mono ?_
    rintro e w2 ⟨gb, Sb, rfl, hdb, hSb, hb2⟩
    have HDB := Lib.hid hdb
    have HSB := Lib.hid hSb
    have HB2 := Lib.hid hb2
    clear hdb hSb hb2
    go_wp2_with fail
    refine (rnew_any a0 w2 b0.1 b0.2).mono ?_
    rintro e w3 ⟨ma, rfl, hra, hma, hb3⟩
    have HRA := Lib.hid hra
    have HMA := Lib.hid hma
    have HB3 := Lib.hid hb3
    clear hra hma hb3
    go_wp2_with fail
    refine (rnew_any a0 w3 b0.1 b0.2).mono ?_
    rintro e w4 ⟨mb, rfl, hrb, hmb, hb4⟩
    have T4 : Hid (TwoQ w4 w.heap.size ga ma gb mb 0 (newD a0) 0 (newD a0) w4.heap.size) := start HBG.out.size HDA.out HSA.out HB1.out HDB.out HSB.out HB2.out HRA.out HMA.out HB3.out hrb hmb hb4
    have HB4 : Hid (Below w.heap.size w w4) := (((HBG.out.trans (HB1.out.mono HBG.out.size)).trans (HB2.out.mono (by have := HBG.out.size; have := HB1.out.size; omega))).trans (HB3.out.mono (by have := HBG.out.size; have := HB1.out.size; have := HB2.out.size; omega))).trans (hb4.mono (by have := HBG.out.size; have := HB1.out.size; have := HB2.out.size; have := HB3.out.size; omega))
    clear hrb hmb hb4 HDA HSA HB1 HDB HSB HB2 HRA HMA HB3
    go_wp2_with fail
    go_loopw [25] (fun i wr => ∃ k : Nat, i = .int .i64 k ∧ k ≤ ps.length ∧ Hid (∃ q, TwoQ wr w.heap.size ga ma gb mb (4 * k) (runD (newD a0) ps k) (4 * k) (runD (newD a0) ps k) q) ∧ Hid (Below w.heap.size w wr)) (fun i _ => ps.length - (intOf i).toNat)
    case atStart => exact ⟨0, rfl, by omega, ⟨_, T4.out⟩, HB4.out⟩
    case round =>
      clear T4 HB4
      obtain ⟨k, rfl, hk, ht, hB⟩ := hrel
      by_cases hlt : k < ps.length
      · have hlt' : (k : Int) < ps.length := by omega
        obtain ⟨b, off, Au, cu, rfl, hb, hok, hsl, c0, c1, c2, c3, c4, c5⟩ := clls_at (HCL.out.below hB.out) hlt
        have hsucc := Lib.hid (runD_succ (newD a0) hlt)
        have hsrt := Lib.hid (srt_run a0 ps k hk)
        have hshort := Lib.hid (short_run (room := a0) HOK.out (Nat.succ_le_of_lt hlt))
        have hnl : (namesC ps).length ≤ 4096 := by rw [namesC_len]; omega
        have hN : 4 * k + 4 ≤ 4096 := by omega
        have HOKP := Lib.hid hok
        have HSL := Lib.hid hsl
        have hkb := hok.b
        have K1 : ∀ o, Hid (Calls Try.prog 14 #[.pointer (some ⟨ga, 0, none⟩), .pointer (some ⟨ma, 0, none⟩), .agg #[.int .i64 (ps[k]).kind, .string ⟨(ps[k]).a.toArray⟩, .string ⟨(ps[k]).z.toArray⟩, .int .i64 (ps[k]).i, .slice Au (ps[k]).b.length cu, .int .u64 (ps[k]).k]] (wr.alloc o) _) := fun o => by
          obtain ⟨q, ht⟩ := ht.out
          exact does_two (ht.box o) (by have := hB.out.size; simp; omega) (by simp) hok (hsl.below ((Below.refl _ _).alloc hB.out.size o)) hsrt.out hnl hN
        clear hok hsl ht
        generalize runD (newD a0) ps k = D at *
        generalize ps[k] = p at *
        rw [hsucc.out] at hshort
        go_wp2_with fail
        refine (K1 _).out.mono ?_
        rintro e w2 ⟨rfl, ht2, hb2, hr2, hz2⟩
        have e0 : w2.cell? ⟨wr.heap.size, 0, none⟩ = some (.int .i64 p.kind) := cell_of_row _ _ _ _ _ _ (hr2.trans (heap_alloc_new _ _))
        have e1 : w2.cell? ⟨wr.heap.size, 1, none⟩ = some (.string ⟨p.a.toArray⟩) := cell_of_row _ _ _ _ _ _ (hr2.trans (heap_alloc_new _ _))
        have e2 : w2.cell? ⟨wr.heap.size, 2, none⟩ = some (.string ⟨p.z.toArray⟩) := cell_of_row _ _ _ _ _ _ (hr2.trans (heap_alloc_new _ _))
        have e3 : w2.cell? ⟨wr.heap.size, 3, none⟩ = some (.int .i64 p.i) := cell_of_row _ _ _ _ _ _ (hr2.trans (heap_alloc_new _ _))
        have e4 : w2.cell? ⟨wr.heap.size, 4, none⟩ = some (.slice Au p.b.length cu) := cell_of_row _ _ _ _ _ _ (hr2.trans (heap_alloc_new _ _))
        have e5 : w2.cell? ⟨wr.heap.size, 5, none⟩ = some (.int .u64 p.k) := cell_of_row _ _ _ _ _ _ (hr2.trans (heap_alloc_new _ _))
        have hz0 := hB.out.size
        have K2 := Lib.hid (does_two ht2.symm (by simp at hz2; omega) (by simp at hz2; omega) HOKP.out ((HSL.out.below ((Below.refl _ _).alloc hB.out.size _)).below hb2) hsrt.out hnl hN)
        have HB2 : Hid (Below w.heap.size w w2) := (hB.out.alloc hB.out.size _).trans hb2
        clear ht2 hb2 hr2 hz2 K1
        go_wp2_with fail
        refine K2.out.mono ?_
        rintro e w3 ⟨rfl, ht3, hb3, _, hz3⟩
        have HT : Hid (TwoQ w3 w.heap.size ga ma gb mb (4 * k + 4) (stepD D p) (4 * k + 4) (stepD D p) wr.heap.size) := ht3.symm
        have HB3 : Hid (Below w.heap.size w w3) := HB2.out.trans hb3
        clear ht3 hb3 hz3 K2
        generalize stepD D p = E at *
        obtain ⟨S, T, P1⟩ := HT.out.one
        obtain ⟨S2, T2, P2⟩ := HT.out.symm.one
        have P1 := Lib.hid P1
        have P2 := Lib.hid P2
        have KA1 := Lib.hid (acts_dks ga _ S E w3 P1.out.d)
        have KA2 := Lib.hid (acts_dks gb _ S2 E w3 P2.out.d)
        go_wp2_with fail
        refine KA1.out.mono ?_
        rintro e wX ⟨rfl, rfl⟩
        go_wp2_with fail
        refine KA2.out.mono ?_
        rintro e wX ⟨rfl, rfl⟩
        have KW1 := Lib.hid (down_dks ga _ S E wX P1.out.d)
        have KW2 := Lib.hid (down_dks gb _ S2 E wX P2.out.d)
        clear KA1 KA2
        go_wp2_with fail
        refine KW1.out.mono ?_
        rintro e wX ⟨rfl, rfl⟩
        go_wp2_with fail
        refine KW2.out.mono ?_
        rintro e wX ⟨rfl, rfl⟩
        have KF1 := Lib.hid (free_dks ga _ S E wX P1.out.d)
        clear KW1 KW2
        go_wp2_with fail
        refine KF1.out.mono ?_
        rintro e w4 ⟨rfl, hb4⟩
        have X4 : Hid (Below wX.heap.size wX w4) := hb4
        have KF2 := Lib.hid (free_dks gb _ S2 E w4 (P2.out.below hb4).d)
        clear hb4 KF1
        go_wp2_with fail
        refine KF2.out.mono ?_
        rintro e w5 ⟨rfl, hb5⟩
        have X5 : Hid (Below wX.heap.size wX w5) := X4.out.trans (hb5.mono X4.out.size)
        have KN1 := Lib.hid (names_dks ga _ S E w5 (P1.out.below X5.out).d hshort.out)
        clear hb5 KF2 X4
        go_wp2_with fail
        refine KN1.out.mono ?_
        rintro e w6 ⟨v6, rfl, hb6, ho6⟩
        have X6 : Hid (Below wX.heap.size wX w6) := X5.out.trans (hb6.mono X5.out.size)
        have KN2 := Lib.hid (names_dks gb _ S2 E w6 (P2.out.below X6.out).d hshort.out)
        have HO6 := Lib.hid ho6
        clear hb6 KN1 X5 ho6
        go_wp2_with fail
        refine KN2.out.mono ?_
        rintro e w7 ⟨v7, rfl, hb7, ho7⟩
        have X7 : Hid (Below wX.heap.size wX w7) := X6.out.trans (hb7.mono X6.out.size)
        have KS : Hid (Calls Try.prog 31 #[v6, v7] w7 (Gives (.bool true) w7)) := (same_any v6 v7 _ _ w7 ((HO6.out.strs.below hb7).more hb7.size) ho7.strs).mono (fun e w' h => ⟨by rw [h.1]; simp, h.2⟩)
        clear hb7 KN2 X6 ho7 HO6
        go_wp2_with fail
        refine KS.out.mono ?_
        rintro e w8 ⟨rfl, hb8⟩
        have X8 : Hid (Below wX.heap.size wX w8) := X7.out.trans (hb8.mono X7.out.size)
        clear hb8 KS X7
        go_wp2_with fail
        go_roundw
        case rel => exact ⟨k + 1, by go_num, by omega, (by rw [hsucc.out]; exact ⟨_, HT.out.below X8.out⟩), HB3.out.trans (X8.out.mono HB3.out.size)⟩
        case measure => simp [intOf]; omega
      · have hlt' : (ps.length : Int) ≤ k := by omega
        clear hlt
        go_wp2_with fail
        go_ret
        exact ⟨rfl, hB.out⟩
  · clear hbig
    go_wp2_with fail
    go_ret
    exact ⟨rfl, HBG.out⟩

end Go.Proofs.Ytbepanhndpkdhaa.DiskTwins
