/-
  A call on both: they answer alike, and are one disk behind it. Conditions: none.
-/
import Derived.Test.YtbepanhndpkdhaaPair
import Derived.Test.YtbepanhndpkdhaaRefRen
import Derived.Test.YtbepanhndpkdhaaRefWrite
import Derived.Test.YtbepanhndpkdhaaRefCut
import Derived.Test.YtbepanhndpkdhaaRefA
import Derived.Test.YtbepanhndpkdhaaRefLose
import Derived.Deep.RegionHeld3
import Derived.BigRegion
namespace Go.Proofs.Ytbepanhndpkdhaa.Cd
open Go.RowKit

theorem ron_poke {w : World} {gm : Nat} {T : Nat → Prop} {D : Dsk} (h : RefR w gm T D) :
    w.cell? ⟨gm, 4, none⟩ = some (.bool D.off) ∧ w.frozen? ⟨gm, 4, none⟩ = false ∧ RefR (w.setCell ⟨gm, 4, none⟩ (.bool false)) gm (since T w (w.setCell ⟨gm, 4, none⟩ (.bool false))) (onD D) ∧ Apart (fun k => T k ∨ k = gm) w (w.setCell ⟨gm, 4, none⟩ (.bool false)) := by
  have hl := h.glt
  obtain ⟨vn, vs, vw, h⟩ := h
  refine ⟨cell_of_row _ _ _ _ _ _ h.row, h.frozen 4, ?_, apart_poke _ _ _ _ _⟩
  have h2 : RefR (w.setCell ⟨gm, 4, none⟩ (.bool false)) gm T (onD D) := ⟨vn, vs, vw, h.poke 4 _ (by simp [rcells, onD]) h.now h.safe h.waits⟩
  exact h2.grow (by simp) hl
theorem page_at {w : World} {g : Nat} {bs : List UInt8} (hl : bs.length = 512) (T : TypeId) (hg : w.heap[g]? = some (.cells (vb bs).toArray T)) : Sl w w.heap.size (.slice (some ⟨g, 0, none⟩) 512 512) bs := by
  refine ⟨_, 512, by rw [hl], by omega, by decide, (fun h => by cases h), fun ad e _ => ?_, fun ad e j u hu => ?_⟩
  · injection e with e
    subst e
    exact (Array.getElem?_eq_some_iff.1 hg).1
  · injection e with e
    subst e
    rw [Addr.add_lit, Nat.zero_add, cell_of_row _ _ _ _ _ _ hg, List.getElem?_toArray]
    exact hu
/-- What lies below B is none of the disk's. -/
theorem far_of {w : World} {B : Nat} {b : Value} {bs : List UInt8} {S : Nat → Prop} (h : Sl w B b bs) (hS : ∀ k, S k → B ≤ k) : 0 < bs.length → ∀ A n c, b = .slice (some A) n c → ¬ S A.block := by
  intro h0 A n c e hk
  obtain ⟨A0, c0, e0, _, _, _, h5, _⟩ := h
  rw [e0] at e
  injection e with e1
  have := h5 A e1 h0
  have := hS _ hk
  omega

/-- What 'does' leaves. -/
def DoesIs (B gd gm N : Nat) (S T : Nat → Prop) (D : Dsk) (w : World) (e : Ending) (w' : World) : Prop := e = .returned (.bool true) ∧ PairTo w w' B gd gm N S T D

section
variable {w w1 : World} {B gd gm N N' : Nat} {S T : Nat → Prop} {D D' : Dsk} {v : Value} {e : Ending}
theorem doesIs_of {w0 wA wB : World} {D2 : Dsk} (h : Pair w0 B gd gm N S T D) (hb : Below w.heap.size w w0) (hB : B ≤ w.heap.size) (_hlt : ∀ k, S k ∨ T k → k < w.heap.size) (h1 : DkS wA gd N' (since S w0 wA) D2) (ha : Apart S w0 wA) (h2 : RefR wB gm (since T wA wB) D2) (ha2 : Apart (fun k => T k ∨ k = gm) wA wB) : PairTo w wB B gd gm N' S T D2 := by
  obtain ⟨S', T', q1, q2, q3⟩ := h.done (Nat.le_trans hB hb.size) h1 ha h2 ha2
  have s1 := hb.size
  exact ⟨S', T', q1, (Apart.below hb).trans (q2.mono fun _ => .inl), fun j hj => (q3 j hj).elim .inl fun e => .inr (by omega)⟩
end

set_option maxRecDepth 100000 in
set_option maxHeartbeats 8000000 in
theorem does_any (B gd gm N : Nat) (S T : Nat → Prop) (D : Dsk) (c : Cl) (u : Value) (NS : List (List UInt8)) (w : World) (h : Pair w B gd gm N S T D) (hB : B ≤ w.heap.size) (ok : c.Ok) (hu : Sl w B u c.b)
    (hs : SrtD (fun n => n ∈ NS) D) (hl : NS.length ≤ 4096) (hN : N + 4 ≤ 4096) :
    Calls Try.prog 14 #[.pointer (some ⟨gd, 0, none⟩), .pointer (some ⟨gm, 0, none⟩), .agg #[.int .i64 c.kind, .string ⟨c.a.toArray⟩, .string ⟨c.z.toArray⟩, .int .i64 c.i, u, .int .u64 c.k]] w
      (DoesIs B gd gm (N + 4) S T (stepD D c) w) := by
  have few := h.d.few (by omega) hs hl
  obtain ⟨Au, cu, rfl, hcu1, hcu2⟩ := hu.len
  have HU := Lib.hid hu
  have H := Lib.hid h
  have OK := Lib.hid ok
  have bd := few.bd
  have FEW := Lib.hid few
  have hka := ok.a
  have hkz := ok.z
  have hkb := ok.b
  have hki := ok.i
  have hkk := ok.k
  have hgm := h.r.glt
  have hlt := h.lt
  have HLT := Lib.hid hlt
  have hN' : N + 4 ≤ 137438953472 := by omega
  clear h ok few hu hs hlt hl
  go_enter Try.func14, Try.ntmps14
  obtain ⟨kind, a, z, i, b, k⟩ := c
  simp only at *
  have hwf : (Lit.int .i64 i).wf = true := OK.out.wf
  have hwf : (Lit.int .i64 i).wf = true := OK.out.wf
  have hwf : (Lit.int .i64 i).wf = true := OK.out.wf
  have hwf : (Lit.int .i64 i).wf = true := OK.out.wf
  by_cases k2 : kind = 2
  · subst k2
    have HS : Hid (stepD D ⟨2, a, z, i, b, k⟩ = (syncD D a).1) := rfl
    have HP : ∀ o, Hid (Pair (w.alloc o) B gd gm N S T D) := fun o => H.out.below ((Below.refl _ _).alloc (Nat.le_refl _) _)
    have KD : ∀ o, Hid (Calls Try.prog 21 #[.pointer (some ⟨gd, 0, none⟩), .string ⟨a.toArray⟩] (w.alloc o).drew (MakesD gd (N + 4) S (syncD D a).1 (.int .i64 ((syncD D a).2 : Nat)) (w.alloc o).drew)) := fun o => sync_dks gd N S D a _ ((HP o).out.below (Below.refl _ _).drew).d (by omega) hN'
    go_wp2_with fail
    go_region_held3 (fun W => W.cell? ⟨w.heap.size, 1, none⟩ = some (.string ⟨a.toArray⟩)) (first | exact y1 | exact x1 | simp) (first
      | (go_at_call 21
         refine (KD _).out.mono ?_
         rintro e w1 ⟨rfl, hd1, ha1⟩
         have z1 : w.heap.size < w1.heap.size := by have := ha1.size; simp at this; omega
         have x1 : w1.cell? ⟨w.heap.size, 1, none⟩ = some (.string ⟨a.toArray⟩) := (ha1.cell (p := ⟨w.heap.size, 1, none⟩) (by simp) (fun hk => by have := HLT.out _ (.inl hk); simp at this)).trans (by simp)
         have HD1 := Lib.hid hd1
         have HA1 := Lib.hid ha1
         have KM := Lib.hid (rsync_any gm T D a w1 (((HP _).out.below (Below.refl _ _).drew).half ha1) bd)
         clear hd1 ha1)
      | (go_at_call 35
         refine KM.out.mono ?_
         rintro e w2 ⟨rfl, hr2, ha2⟩
         have y1 : w2.cell? ⟨w.heap.size, 1, none⟩ = some (.string ⟨a.toArray⟩) := (ha2.cell (p := ⟨w.heap.size, 1, none⟩) z1 (fun hk => by have := HLT.out w.heap.size (.inr hk); omega)).trans x1
         have HE := Lib.hid (doesIs_of ((HP _).out.below (Below.refl _ _).drew) (((Below.refl _ _).alloc (Nat.le_refl _) _).drew) hB (fun j hj => HLT.out j (hj.elim .inl fun e => .inr (.inl e))) HD1.out HA1.out hr2 ha2)
         clear hr2 ha2))
    all_goals
      go_wp2_with fail
      go_ret
      rw [HS.out]
      exact ⟨rfl, HE.out⟩
  · have n2 : (kind == 2) = false := beq_eq_false_iff_ne.2 k2
    by_cases k3 : kind = 3
    · subst k3
      have HS : Hid (stepD D ⟨3, a, z, i, b, k⟩ = (cutD D a i).1) := rfl
      have HP : ∀ o, Hid (Pair (w.alloc o) B gd gm N S T D) := fun o => H.out.below ((Below.refl _ _).alloc (Nat.le_refl _) _)
      have KD : ∀ o, Hid (Calls Try.prog 22 #[.pointer (some ⟨gd, 0, none⟩), .string ⟨a.toArray⟩, .int .i64 i] (w.alloc o).drew (MakesD gd (N + 4) S (cutD D a i).1 (.int .i64 ((cutD D a i).2 : Nat)) (w.alloc o).drew)) := fun o => cut_dks gd N S D a _ i ((HP o).out.below (Below.refl _ _).drew).d (by omega) hki.2 hN'
      go_wp2_with fail
      go_region_held3 (fun W => W.cell? ⟨w.heap.size, 1, none⟩ = some (.string ⟨a.toArray⟩) ∧ W.cell? ⟨w.heap.size, 3, none⟩ = some (.int .i64 i)) (first | exact ⟨y1, y3⟩ | exact ⟨x1, x3⟩ | (constructor <;> simp)) (first
        | (go_at_call 22
           refine (KD _).out.mono ?_
           rintro e w1 ⟨rfl, hd1, ha1⟩
           have z1 : w.heap.size < w1.heap.size := by have := ha1.size; simp at this; omega
           have x1 : w1.cell? ⟨w.heap.size, 1, none⟩ = some (.string ⟨a.toArray⟩) := (ha1.cell (p := ⟨w.heap.size, 1, none⟩) (by simp) (fun hk => by have := HLT.out _ (.inl hk); simp at this)).trans (by simp)
           have x3 : w1.cell? ⟨w.heap.size, 3, none⟩ = some (.int .i64 i) := (ha1.cell (p := ⟨w.heap.size, 3, none⟩) (by simp) (fun hk => by have := HLT.out _ (.inl hk); simp at this)).trans (by simp)
           have HD1 := Lib.hid hd1
           have HA1 := Lib.hid ha1
           have KM := Lib.hid (rcut_any gm T D a i w1 (((HP _).out.below (Below.refl _ _).drew).half ha1) bd hwf)
           clear hd1 ha1)
        | (go_at_call 36
           refine KM.out.mono ?_
           rintro e w2 ⟨rfl, hr2, ha2⟩
           have y1 : w2.cell? ⟨w.heap.size, 1, none⟩ = some (.string ⟨a.toArray⟩) := (ha2.cell (p := ⟨w.heap.size, 1, none⟩) z1 (fun hk => by have := HLT.out w.heap.size (.inr hk); omega)).trans x1
           have y3 : w2.cell? ⟨w.heap.size, 3, none⟩ = some (.int .i64 i) := (ha2.cell (p := ⟨w.heap.size, 3, none⟩) z1 (fun hk => by have := HLT.out w.heap.size (.inr hk); omega)).trans x3
           have HE := Lib.hid (doesIs_of ((HP _).out.below (Below.refl _ _).drew) (((Below.refl _ _).alloc (Nat.le_refl _) _).drew) hB (fun j hj => HLT.out j (hj.elim .inl fun e => .inr (.inl e))) HD1.out HA1.out hr2 ha2)
           clear hr2 ha2))
      all_goals
        go_wp2_with fail
        go_ret
        rw [HS.out]
        exact ⟨rfl, HE.out⟩
    · have n3 : (kind == 3) = false := beq_eq_false_iff_ne.2 k3
      by_cases k4 : kind = 4
      · subst k4
        have HS : Hid (stepD D ⟨4, a, z, i, b, k⟩ = (renameD D a z).1) := rfl
        have HP : ∀ o, Hid (Pair (w.alloc o) B gd gm N S T D) := fun o => H.out.below ((Below.refl _ _).alloc (Nat.le_refl _) _)
        have KD : ∀ o, Hid (Calls Try.prog 23 #[.pointer (some ⟨gd, 0, none⟩), .string ⟨a.toArray⟩, .string ⟨z.toArray⟩] (w.alloc o).drew (MakesD gd (N + 4) S (renameD D a z).1 (.int .i64 ((renameD D a z).2 : Nat)) (w.alloc o).drew)) := fun o => rename_dks gd N S D a z _ ((HP o).out.below (Below.refl _ _).drew).d (by omega) (by omega) hN'
        go_wp2_with fail
        go_region_held3 (fun W => W.cell? ⟨w.heap.size, 1, none⟩ = some (.string ⟨a.toArray⟩) ∧ W.cell? ⟨w.heap.size, 2, none⟩ = some (.string ⟨z.toArray⟩)) (first | exact ⟨y1, y2⟩ | exact ⟨x1, x2⟩ | (constructor <;> simp)) (first
          | (go_at_call 23
             refine (KD _).out.mono ?_
             rintro e w1 ⟨rfl, hd1, ha1⟩
             have z1 : w.heap.size < w1.heap.size := by have := ha1.size; simp at this; omega
             have x1 : w1.cell? ⟨w.heap.size, 1, none⟩ = some (.string ⟨a.toArray⟩) := (ha1.cell (p := ⟨w.heap.size, 1, none⟩) (by simp) (fun hk => by have := HLT.out _ (.inl hk); simp at this)).trans (by simp)
             have x2 : w1.cell? ⟨w.heap.size, 2, none⟩ = some (.string ⟨z.toArray⟩) := (ha1.cell (p := ⟨w.heap.size, 2, none⟩) (by simp) (fun hk => by have := HLT.out _ (.inl hk); simp at this)).trans (by simp)
             have HD1 := Lib.hid hd1
             have HA1 := Lib.hid ha1
             have KM := Lib.hid (rren_any gm T D a z w1 (((HP _).out.below (Below.refl _ _).drew).half ha1) bd)
             clear hd1 ha1)
          | (go_at_call 37
             refine KM.out.mono ?_
             rintro e w2 ⟨rfl, hr2, ha2⟩
             have y1 : w2.cell? ⟨w.heap.size, 1, none⟩ = some (.string ⟨a.toArray⟩) := (ha2.cell (p := ⟨w.heap.size, 1, none⟩) z1 (fun hk => by have := HLT.out w.heap.size (.inr hk); omega)).trans x1
             have y2 : w2.cell? ⟨w.heap.size, 2, none⟩ = some (.string ⟨z.toArray⟩) := (ha2.cell (p := ⟨w.heap.size, 2, none⟩) z1 (fun hk => by have := HLT.out w.heap.size (.inr hk); omega)).trans x2
             have HE := Lib.hid (doesIs_of ((HP _).out.below (Below.refl _ _).drew) (((Below.refl _ _).alloc (Nat.le_refl _) _).drew) hB (fun j hj => HLT.out j (hj.elim .inl fun e => .inr (.inl e))) HD1.out HA1.out hr2 ha2)
             clear hr2 ha2))
        all_goals
          go_wp2_with fail
          go_ret
          rw [HS.out]
          exact ⟨rfl, HE.out⟩
      · have n4 : (kind == 4) = false := beq_eq_false_iff_ne.2 k4
        by_cases k5 : kind = 5
        · subst k5
          have HS : Hid (stepD D ⟨5, a, z, i, b, k⟩ = (removeD D a).1) := rfl
          have HP : ∀ o, Hid (Pair (w.alloc o) B gd gm N S T D) := fun o => H.out.below ((Below.refl _ _).alloc (Nat.le_refl _) _)
          have KD : ∀ o, Hid (Calls Try.prog 24 #[.pointer (some ⟨gd, 0, none⟩), .string ⟨a.toArray⟩] (w.alloc o).drew (MakesD gd (N + 4) S (removeD D a).1 (.int .i64 ((removeD D a).2 : Nat)) (w.alloc o).drew)) := fun o => remove_dks gd N S D a _ ((HP o).out.below (Below.refl _ _).drew).d (by omega) hN'
          go_wp2_with fail
          go_region_held3 (fun W => W.cell? ⟨w.heap.size, 1, none⟩ = some (.string ⟨a.toArray⟩)) (first | exact y1 | exact x1 | simp) (first
            | (go_at_call 24
               refine (KD _).out.mono ?_
               rintro e w1 ⟨rfl, hd1, ha1⟩
               have z1 : w.heap.size < w1.heap.size := by have := ha1.size; simp at this; omega
               have x1 : w1.cell? ⟨w.heap.size, 1, none⟩ = some (.string ⟨a.toArray⟩) := (ha1.cell (p := ⟨w.heap.size, 1, none⟩) (by simp) (fun hk => by have := HLT.out _ (.inl hk); simp at this)).trans (by simp)
               have HD1 := Lib.hid hd1
               have HA1 := Lib.hid ha1
               have KM := Lib.hid (rremove_any gm T D a w1 (((HP _).out.below (Below.refl _ _).drew).half ha1) bd)
               clear hd1 ha1)
            | (go_at_call 38
               refine KM.out.mono ?_
               rintro e w2 ⟨rfl, hr2, ha2⟩
               have y1 : w2.cell? ⟨w.heap.size, 1, none⟩ = some (.string ⟨a.toArray⟩) := (ha2.cell (p := ⟨w.heap.size, 1, none⟩) z1 (fun hk => by have := HLT.out w.heap.size (.inr hk); omega)).trans x1
               have HE := Lib.hid (doesIs_of ((HP _).out.below (Below.refl _ _).drew) (((Below.refl _ _).alloc (Nat.le_refl _) _).drew) hB (fun j hj => HLT.out j (hj.elim .inl fun e => .inr (.inl e))) HD1.out HA1.out hr2 ha2)
               clear hr2 ha2))
          all_goals
            go_wp2_with fail
            go_ret
            rw [HS.out]
            exact ⟨rfl, HE.out⟩
        · have n5 : (kind == 5) = false := beq_eq_false_iff_ne.2 k5
          by_cases k6 : kind = 6
          · subst k6
            have HS : Hid (stepD D ⟨6, a, z, i, b, k⟩ = lose D k) := rfl
            have HP : ∀ o, Hid (Pair (w.alloc o) B gd gm N S T D) := fun o => H.out.below ((Below.refl _ _).alloc (Nat.le_refl _) _)
            have KD : ∀ o, Hid (Calls Try.prog 18 #[.pointer (some ⟨gd, 0, none⟩), .int .u64 k] (w.alloc o) (MakesD gd N S (lose D k) (.tuple #[]) (w.alloc o))) := fun o => off_dks gd N S D _ k (HP o).out.d hkk
            go_wp2_with fail
            refine (KD _).out.mono ?_
            rintro e w1 ⟨rfl, hd1, ha1⟩
            have x5 : w1.cell? ⟨w.heap.size, 5, none⟩ = some (.int .u64 k) := (ha1.cell (p := ⟨w.heap.size, 5, none⟩) (by simp) (fun hk => by have := HLT.out _ (.inl hk); simp at this)).trans (by simp)
            have HD1 := Lib.hid (hd1.mono (by omega : N ≤ N + 4) hN')
            have HA1 := Lib.hid ha1
            have KM := Lib.hid (rlose_any gm T D k w1 ((HP _).out.half ha1) hkk bd.waits bd.page bd.safe bd.now bd.small)
            clear hd1 ha1
            go_wp2_with fail
            refine KM.out.mono ?_
            rintro e w2 ⟨rfl, hr2, ha2⟩
            have HE := Lib.hid (doesIs_of (HP _).out ((Below.refl _ _).alloc (Nat.le_refl _) _) hB (fun j hj => HLT.out j (hj.elim .inl fun e => .inr (.inl e))) HD1.out HA1.out hr2 ha2)
            clear hr2 ha2
            go_wp2_with fail
            go_ret
            rw [HS.out]
            exact ⟨rfl, HE.out⟩
          · have n6 : (kind == 6) = false := beq_eq_false_iff_ne.2 k6
            by_cases k7 : kind = 7
            · subst k7
              have HS : Hid (stepD D ⟨7, a, z, i, b, k⟩ = onD D) := rfl
              have HP : ∀ o, Hid (Pair (w.alloc o) B gd gm N S T D) := fun o => H.out.below ((Below.refl _ _).alloc (Nat.le_refl _) _)
              have KD : ∀ o, Hid (Calls Try.prog 16 #[.pointer (some ⟨gd, 0, none⟩)] (w.alloc o) (MakesD gd N S (onD D) (.tuple #[]) (w.alloc o))) := fun o => on_dks gd N S D _ (HP o).out.d
              go_wp2_with fail
              refine (KD _).out.mono ?_
              rintro e w1 ⟨rfl, hd1, ha1⟩
              have HD1 := Lib.hid (hd1.mono (by omega : N ≤ N + 4) hN')
              have HA1 := Lib.hid ha1
              obtain ⟨em, fm, hr2, ha2⟩ := ron_poke ((HP _).out.half ha1)
              have HE := Lib.hid (doesIs_of (HP _).out ((Below.refl _ _).alloc (Nat.le_refl _) _) hB (fun j hj => HLT.out j (hj.elim .inl fun e => .inr (.inl e))) HD1.out HA1.out hr2 ha2)
              clear hr2 ha2 hd1 ha1
              go_wp2_with fail
              go_ret
              rw [HS.out]
              exact ⟨rfl, HE.out⟩
            · have n7 : (kind == 7) = false := beq_eq_false_iff_ne.2 k7
              by_cases k8 : kind = 8
              · subst k8
                have HS : Hid (stepD D ⟨8, a, z, i, b, k⟩ = armD D i k) := rfl
                have HP : ∀ o, Hid (Pair (w.alloc o) B gd gm N S T D) := fun o => H.out.below ((Below.refl _ _).alloc (Nat.le_refl _) _)
                have KD : ∀ o, Hid (Calls Try.prog 19 #[.pointer (some ⟨gd, 0, none⟩), .int .i64 i, .int .u64 k] (w.alloc o) (MakesD gd N S (armD D i k) (.tuple #[]) (w.alloc o))) := fun o => arm_dks gd N S D _ i k (HP o).out.d hki.2 hkk
                go_wp2_with fail
                refine (KD _).out.mono ?_
                rintro e w1 ⟨rfl, hd1, ha1⟩
                have x3 : w1.cell? ⟨w.heap.size, 3, none⟩ = some (.int .i64 i) := (ha1.cell (p := ⟨w.heap.size, 3, none⟩) (by simp) (fun hk => by have := HLT.out _ (.inl hk); simp at this)).trans (by simp)
                have x5 : w1.cell? ⟨w.heap.size, 5, none⟩ = some (.int .u64 k) := (ha1.cell (p := ⟨w.heap.size, 5, none⟩) (by simp) (fun hk => by have := HLT.out _ (.inl hk); simp at this)).trans (by simp)
                have HD1 := Lib.hid (hd1.mono (by omega : N ≤ N + 4) hN')
                have HA1 := Lib.hid ha1
                have KM := Lib.hid (rarm_any gm T D i k w1 ((HP _).out.half ha1) hki.2)
                clear hd1 ha1
                go_wp2_with fail
                refine KM.out.mono ?_
                rintro e w2 ⟨rfl, hr2, ha2⟩
                have HE := Lib.hid (doesIs_of (HP _).out ((Below.refl _ _).alloc (Nat.le_refl _) _) hB (fun j hj => HLT.out j (hj.elim .inl fun e => .inr (.inl e))) HD1.out HA1.out hr2 ha2)
                clear hr2 ha2
                go_wp2_with fail
                go_ret
                rw [HS.out]
                exact ⟨rfl, HE.out⟩
              · have n8 : (kind == 8) = false := beq_eq_false_iff_ne.2 k8
                by_cases k1 : kind = 1
                · subst k1
                  have HS : Hid (stepD D ⟨1, a, z, i, b, k⟩ = D) := rfl
                  have HP : ∀ o, Hid (Pair (w.alloc o) B gd gm N S T D) := fun o => H.out.below ((Below.refl _ _).alloc (Nat.le_refl _) _)
                  have KD : ∀ o, Hid (Calls Try.prog 17 #[.pointer (some ⟨gd, 0, none⟩), .string ⟨a.toArray⟩, .int .i64 i] (w.alloc o) (ReadsD D a i (w.alloc o))) := fun o => read_dks gd N S D a _ i (HP o).out.d (by omega) hwf
                  go_wp2_with fail
                  refine (KD _).out.mono ?_
                  rintro e w1 hr1
                  rcases hr1 with ⟨p, hrd, hpl, rfl, rfl⟩ | ⟨n, hn0, hrd, rfl, hb1⟩
                  · have KM : ∀ o o2, Hid (Calls Try.prog 34 #[.pointer (some ⟨gm, 0, none⟩), .string ⟨a.toArray⟩, .int .i64 i] ((w.alloc o).alloc o2) (Gives (.tuple #[.string ⟨p.toArray⟩, .int .i64 0]) ((w.alloc o).alloc o2))) := by
                      intro o o2
                      have h := rread_any gm T D a i ((w.alloc o).alloc o2) ((HP o).out.below ((Below.refl _ _).alloc (Nat.le_refl _) _)).r bd hwf
                      rw [hrd] at h
                      exact h
                    go_wp2_with fail
                    refine (KM _ _).out.mono ?_
                    rintro e w2 ⟨rfl, hb2⟩
                    have hcv := run_text_of w2 _ _ _ ((page_at hpl 81 (heap_alloc_new (w.alloc _) _)).below hb2)
                    rw [asz] at hcv
                    have HB2 := Lib.hid hb2
                    have hpp : (p == p) = true := by simp
                    clear hb2
                    go_wp2_with fail
                    go_ret
                    rw [HS.out]
                    exact ⟨rfl, H.out.asked (by omega) hN' ((((Below.refl _ _).alloc (Nat.le_refl _) _).alloc (by simp) _).trans (HB2.out.mono (by simp; omega)))⟩
                  · have hz1 : w.heap.size < w1.heap.size := by have := hb1.size; simp at this; omega
                    have x1 : w1.cell? ⟨w.heap.size, 1, none⟩ = some (.string ⟨a.toArray⟩) := (hb1.cell (p := ⟨w.heap.size, 1, none⟩) (by simp)).trans (by simp)
                    have x3 : w1.cell? ⟨w.heap.size, 3, none⟩ = some (.int .i64 i) := (hb1.cell (p := ⟨w.heap.size, 3, none⟩) (by simp)).trans (by simp)
                    have KM : Hid (Calls Try.prog 34 #[.pointer (some ⟨gm, 0, none⟩), .string ⟨a.toArray⟩, .int .i64 i] w1 (Gives (.tuple #[.string ⟨([] : List UInt8).toArray⟩, .int .i64 n]) w1)) := by
                      have h := rread_any gm T D a i w1 ((HP _).out.below hb1).r bd hwf
                      rw [hrd] at h
                      exact h
                    have HB1 := Lib.hid hb1
                    clear hb1
                    go_wp2_with fail
                    refine KM.out.mono ?_
                    rintro e w2 ⟨rfl, hb2⟩
                    have hcv := run_text_of w2 _ _ _ (Sl.nil w2 0)
                    have HB2 := Lib.hid hb2
                    clear hb2
                    go_wp2_with fail
                    go_ret
                    rw [HS.out]
                    exact ⟨rfl, H.out.asked (by omega) hN' (((Below.refl _ _).alloc (Nat.le_refl _) _).trans ((HB1.out.trans (HB2.out.mono HB1.out.size)).mono (by simp)))⟩
                · have n1 : (kind == 1) = false := beq_eq_false_iff_ne.2 k1
                  by_cases k0 : kind = 0
                  · subst k0
                    have HS : Hid (stepD D ⟨0, a, z, i, b, k⟩ = (writeD D a i b).1) := rfl
                    have HP : ∀ o, Hid (Pair (w.alloc o) B gd gm N S T D) := fun o => H.out.below ((Below.refl _ _).alloc (Nat.le_refl _) _)
                    have HU0 : ∀ o, Hid (Sl (w.alloc o).drew B (.slice Au b.length cu) b) := fun o => HU.out.below (((Below.refl _ _).alloc hB _).drew)
                    have KD : ∀ o, Hid (Calls Try.prog 20 #[.pointer (some ⟨gd, 0, none⟩), .string ⟨a.toArray⟩, .int .i64 i, .slice Au b.length cu] (w.alloc o).drew (MakesD gd (N + 4) S (writeD D a i b).1 (.int .i64 ((writeD D a i b).2 : Nat)) (w.alloc o).drew)) := fun o => write_dks gd N S D a _ b i _ ((HP o).out.below (Below.refl _ _).drew).d ((HU0 o).out.more (by simp; omega)) (far_of HU.out fun j hj => H.out.lo j (.inl hj)) (by omega) hki.2 hN'
                    have t0 := fun o => run_text_of _ _ _ _ (HU0 o).out
                    go_wp2_with fail
                    go_region_held3 (fun W => W.cell? ⟨w.heap.size, 1, none⟩ = some (.string ⟨a.toArray⟩) ∧ W.cell? ⟨w.heap.size, 3, none⟩ = some (.int .i64 i) ∧ W.cell? ⟨w.heap.size, 4, none⟩ = some (.slice Au b.length cu) ∧ (convert 29 9 (.slice Au b.length cu)).run Try.prog W = .ok (.string ⟨b.toArray⟩) W) (first | exact ⟨y1, y3, y4, t2⟩ | exact ⟨x1, x3, x4, t1⟩ | exact ⟨by simp, by simp, by simp, t0 _⟩) (first
                      | (go_at_call 20
                         refine (KD _).out.mono ?_
                         rintro e w1 ⟨rfl, hd1, ha1⟩
                         have z1 : w.heap.size < w1.heap.size := by have := ha1.size; simp at this; omega
                         have x1 : w1.cell? ⟨w.heap.size, 1, none⟩ = some (.string ⟨a.toArray⟩) := (ha1.cell (p := ⟨w.heap.size, 1, none⟩) (by simp) (fun hk => by have := HLT.out _ (.inl hk); simp at this)).trans (by simp)
                         have x3 : w1.cell? ⟨w.heap.size, 3, none⟩ = some (.int .i64 i) := (ha1.cell (p := ⟨w.heap.size, 3, none⟩) (by simp) (fun hk => by have := HLT.out _ (.inl hk); simp at this)).trans (by simp)
                         have x4 : w1.cell? ⟨w.heap.size, 4, none⟩ = some (.slice Au b.length cu) := (ha1.cell (p := ⟨w.heap.size, 4, none⟩) (by simp) (fun hk => by have := HLT.out _ (.inl hk); simp at this)).trans (by simp)
                         have HD1 := Lib.hid hd1
                         have HA1 := Lib.hid ha1
                         have HU1 := Lib.hid ((HU0 _).out.below (ha1.low (by simp; omega) fun j hj => H.out.lo j (.inl hj)))
                         have t1 := run_text_of _ _ _ _ HU1.out
                         have KM := Lib.hid (rwrite_any gm T D a i b w1 (((HP _).out.below (Below.refl _ _).drew).half ha1) bd hwf (by omega) (by have := FEW.out.waits; omega) (by have := FEW.out.now; omega) (by have := FEW.out.page a; omega))
                         clear hd1 ha1)
                      | (go_at_call 33
                         refine KM.out.mono ?_
                         rintro e w2 ⟨rfl, hr2, ha2⟩
                         have y1 : w2.cell? ⟨w.heap.size, 1, none⟩ = some (.string ⟨a.toArray⟩) := (ha2.cell (p := ⟨w.heap.size, 1, none⟩) z1 (fun hk => by have := HLT.out w.heap.size (.inr hk); omega)).trans x1
                         have y3 : w2.cell? ⟨w.heap.size, 3, none⟩ = some (.int .i64 i) := (ha2.cell (p := ⟨w.heap.size, 3, none⟩) z1 (fun hk => by have := HLT.out w.heap.size (.inr hk); omega)).trans x3
                         have y4 : w2.cell? ⟨w.heap.size, 4, none⟩ = some (.slice Au b.length cu) := (ha2.cell (p := ⟨w.heap.size, 4, none⟩) z1 (fun hk => by have := HLT.out w.heap.size (.inr hk); omega)).trans x4
                         have t2 := run_text_of _ _ _ _ (HU1.out.below (ha2.low (by omega) fun j hj => H.out.lo j (.inr hj)))
                         have HE := Lib.hid (doesIs_of ((HP _).out.below (Below.refl _ _).drew) (((Below.refl _ _).alloc (Nat.le_refl _) _).drew) hB (fun j hj => HLT.out j (hj.elim .inl fun e => .inr (.inl e))) HD1.out HA1.out hr2 ha2)
                         clear hr2 ha2))
                    all_goals
                      go_wp2_with fail
                      go_ret
                      rw [HS.out]
                      exact ⟨rfl, HE.out⟩
                  · have n0 : (kind == 0) = false := beq_eq_false_iff_ne.2 k0
                    have HS : Hid (stepD D ⟨kind, a, z, i, b, k⟩ = D) := by unfold Hid stepD; simp only; rw [if_neg k0, if_neg k1, if_neg k2, if_neg k3, if_neg k4, if_neg k5, if_neg k6, if_neg k7, if_neg k8]
                    clear k0 k1 k2 k3 k4 k5 k6 k7 k8
                    go_wp2_with fail
                    go_ret
                    rw [HS.out]
                    exact ⟨rfl, H.out.asked (by omega) hN' ((Below.refl _ _).alloc (Nat.le_refl _) _)⟩

end Go.Proofs.Ytbepanhndpkdhaa.Cd
