/-
  The reference's disk: Sync, Read. Conditions: none.
-/
import Derived.Test.YtbepanhndpkdhaaRefA
import Derived.Test.YtbepanhndpkdhaaByHand
namespace Go.Proofs.Ytbepanhndpkdhaa.Cd
open Go.RowKit

def Small (l : List Fil) : Prop := ∀ f ∈ l, f.pages.length ≤ 1048576
theorem Small.put {l : List Fil} {x : Fil} (h : Small l) (hx : x.pages.length ≤ 1048576) : Small (putF l x) := by
  induction l with
  | nil => intro f hf; rw [putF, List.mem_singleton] at hf; rw [hf]; exact hx
  | cons g r ih =>
    intro f hf
    rw [putF] at hf
    split at hf
    · rcases List.mem_cons.1 hf with rfl | hf
      · exact h _ (by simp)
      · exact ih (fun f hf => h f (by simp [hf])) f hf
    · rcases List.mem_cons.1 hf with rfl | hf
      · exact hx
      · unfold without at hf
        exact h f (List.mem_filter.1 hf).1
theorem Small.pages {l : List Fil} (h : Small l) (n : List UInt8) : (pagesF l n).length ≤ 1048576 := by
  unfold pagesF
  cases e : getF l n with
  | none => simp
  | some f =>
    induction l with
    | nil => cases e
    | cons g r ih =>
      rw [getF] at e
      split at e
      · injection e with e; rw [← e]; exact h g (by simp)
      · exact ih (fun f hf => h f (by simp [hf])) e

theorem below_poke2 {w w' : World} {B b : Nat} {u v : Value} (h : Below B w w') (hb : B ≤ b) : Below B w ((w'.setCell ⟨b, 0, none⟩ u).setCell ⟨b, 1, none⟩ v) := (h.setCell (p := ⟨b, 0, none⟩) hb u).setCell (p := ⟨b, 1, none⟩) hb v
theorem rbit_is (keep k : Nat) : (((keep : Int) / 2 ^ (k % 64)).tmod 2 == 1) = keepBit keep k := by
  unfold keepBit
  have h1 : ((keep : Int) / 2 ^ (k % 64)) = ((keep / 2 ^ (k % 64) : Nat) : Int) := by rw [Int.natCast_ediv, Int.natCast_pow]; rfl
  rw [h1, show (2 : Int) = ((2 : Nat) : Int) from rfl, ← Int.ofNat_tmod]
  generalize keep / 2 ^ (k % 64) % 2 = z
  by_cases e : z = 1
  · subst e; rfl
  · rw [beq_eq_false_iff_ne.2 (by omega), beq_eq_false_iff_ne.2 e]

set_option maxRecDepth 100000 in
set_option maxHeartbeats 3200000 in
theorem rlose_any (g : Nat) (T : Nat → Prop) (D : Dsk) (keep : Nat) (w : World) (h : RefR w g T D) (_hkeep : keep < 18446744073709551616) (hl : D.waits.length ≤ 65536) (hp : ∀ x ∈ D.waits, x.page ≤ 1048575) (hs : D.safe.length ≤ 65536) (hn : D.now.length ≤ 65536) (hsm : Small D.safe) :
    Calls Try.prog 39 #[.pointer (some ⟨g, 0, none⟩), .int .u64 keep] w (MakesR g T (lose D keep) (.tuple #[]) w) := by
  obtain ⟨vn, vs, vw, h⟩ := h
  obtain ⟨A, c, rfl, hlc, hm'⟩ := h.waits.len
  obtain ⟨An, cn, rfl, hnc, hnm⟩ := h.now.len
  have hn' : (D.now.length : Int) ≤ 65536 := by omega
  have c2 : w.cell? ⟨g, 2, none⟩ = some (.slice A D.waits.length c) := cell_of_row _ _ _ _ _ _ h.row
  have c4 : w.cell? ⟨g, 4, none⟩ = some (.bool D.off) := cell_of_row _ _ _ _ _ _ h.row
  have H := Lib.hid h
  have HP := Lib.hid hp
  have HS := Lib.hid hsm
  have hl' : (D.waits.length : Int) ≤ 65536 := by omega
  clear h hp hsm
  cases hoff : D.off
  · rw [hoff] at c4
    have HO := Lib.hid hoff
    clear hoff
    have hrep : Hid (RefC w g (since T w w) { D with safe := D.safe } (.slice An D.now.length cn) vs (.slice A D.waits.length c)) := H.out.mono (fun _ h => .inl h) (fun j hj => hj.elim (H.out.lt j) (fun e => by omega)) (fun e => e.elim H.out.out (fun e => by omega))
    go_enter Try.func39, Try.ntmps39
    go_wp2_with fail
    go_loopw [21] (fun v wr => ∃ (k : Nat) (cur : List Fil) (vs' : Value), v = .int .i64 k ∧ k ≤ D.waits.length ∧ Hid (RefC wr g (since T w wr) { D with safe := cur } (.slice An D.now.length cn) vs' (.slice A D.waits.length c)) ∧ Hid (keeps keep 0 D.waits D.safe = keeps keep k (D.waits.drop k) cur) ∧
      Hid (Small cur ∧ cur.length ≤ D.safe.length + k) ∧ Hid (Apart (fun k => T k ∨ k = g) w wr)) (fun v _ => D.waits.length - (intOf v).toNat)
    case atStart => exact ⟨0, D.safe, vs, rfl, by omega, hrep, rfl, ⟨HS.out, by omega⟩, Apart.refl _ _⟩
    case round =>
      clear hrep
      obtain ⟨k, cur, vs', rfl, hk, hrep, hkp, hcur, hA⟩ := hrel
      have hz := hA.out.size
      by_cases hlt : k < D.waits.length
      · have hlt' : (k : Int) < D.waits.length := by omega
        obtain ⟨b, off, hAA, hb, hc1, hc2, hc3⟩ := hrep.out.waits.at hlt
        have hpg := HP.out _ (List.getElem_mem hlt)
        have hdr := List.drop_eq_getElem_cons hlt
        have hdr : D.waits.drop k = D.waits[k] :: D.waits.drop (k + 1) := hdr
        generalize D.waits[k] = x at *
        subst hAA
        have HDR := Lib.hid hdr
        clear hdr
        by_cases hbit : keepBit keep k = true
        · have hq : (((keep : Int) / 2 ^ (k % 64)).tmod 2 == 1) = true := by rw [rbit_is, hbit]
          have HBIT := Lib.hid hbit
          obtain ⟨As, cs, hvs, hcs, hms⟩ := hrep.out.safe.len
          subst hvs
          have hb1 : Below wr.heap.size wr (wr.alloc (.cells #[.string ⟨x.name.toArray⟩, .int .i64 x.page, .string ⟨x.data.toArray⟩] 100)) := (Below.refl _ _).alloc (Nat.le_refl _) _
          have hrow : (wr.alloc (.cells #[.string ⟨x.name.toArray⟩, .int .i64 x.page, .string ⟨x.data.toArray⟩] 100)).heap[wr.heap.size]? = some (.cells #[.string ⟨x.name.toArray⟩, .int .i64 x.page, .string ⟨x.data.toArray⟩] 100) := heap_alloc_new _ _
          have hrep1 := Lib.hid (hrep.out.below hb1)
          have hsz1 : (wr.alloc (.cells #[.string ⟨x.name.toArray⟩, .int .i64 x.page, .string ⟨x.data.toArray⟩] 100)).heap.size = wr.heap.size + 1 := by simp
          have HB1 := Lib.hid hb1
          have HROW := Lib.hid hrow
          clear hb1 hrow hbit
          go_wp2_with fail
          obtain ⟨X, hX⟩ : ∃ X, wr.alloc (.cells #[.string ⟨x.name.toArray⟩, .int .i64 x.page, .string ⟨x.data.toArray⟩] 100) = X := ⟨_, rfl⟩
          rw [hX] at hrep1 HB1 HROW hsz1 ⊢
          have hgX := hrep1.out.glt
          have HSZ : Hid (X.heap.size = wr.heap.size + 1) := hsz1
          clear hsz1
          have KS : Hid (∀ W, Below X.heap.size X W → W.cell? ⟨g, 1, none⟩ = some (.slice As cur.length cs) ∧ W.cell? ⟨wr.heap.size, 0, none⟩ = some (.string ⟨x.name.toArray⟩)) := fun W hW =>
            ⟨(hW.cell (p := ⟨g, 1, none⟩) hgX).trans (cell_of_row _ _ _ _ _ _ hrep1.out.row), (hW.cell (p := ⟨wr.heap.size, 0, none⟩) (by show wr.heap.size < X.heap.size; have := HSZ.out; omega)).trans (cell_of_row _ _ _ _ _ _ HROW.out)⟩
          have KG : Hid (∀ W, Below X.heap.size X W → Calls Try.prog 58 #[.slice As cur.length cs, .string ⟨x.name.toArray⟩] W (GetIs (since T w wr) cur x.name W)) := fun W hW =>
            get_any (since T w wr) _ cur x.name W (fun j hj => Nat.lt_of_lt_of_le (hrep1.out.lt j hj) hW.size) (hrep1.out.safe.below hrep1.out.lt hW) (by have := hcur.out.2; omega)
          clear hX
          go_region_held3 (fun W => W.cell? ⟨g, 1, none⟩ = some (.slice As cur.length cs) ∧ W.cell? ⟨wr.heap.size, 0, none⟩ = some (.string ⟨x.name.toArray⟩))
            (first
              | exact KS.out _ (Below.refl _ _).drew
              | exact KS.out _ ((Below.refl _ _).alloc (Nat.le_refl _) _).drew
              | exact KS.out _ hbG
              | exact KS.out _ (hbG.alloc hbG.size _)
              | exact KS.out _ (below_poke2 hbG (by simp))
              | exact KS.out _ (below_poke2 (hbG.alloc hbG.size _) hbG.size))
            (first
              | (go_at_call 58
                 first
                   | (refine (KG.out _ (Below.refl _ _).drew).mono ?_
                      rintro e wG ⟨hbg, yG, rfl, hyG⟩
                      have hbG : Below X.heap.size X wG := (Below.refl _ _).drew.trans hbg
                      obtain ⟨Ag, cg, rfl, hcg, hmg⟩ := hyG.len
                      have hzr : (wG.alloc (.cells #[.string ⟨#[]⟩, .slice none 0 0] 41)).heap[wG.heap.size]? = some (.cells #[.string ⟨#[]⟩, .slice none 0 0] 41) := heap_alloc_new _ _
                      have hz0 : (wG.alloc (.cells #[.string ⟨#[]⟩, .slice none 0 0] 41)).cell? ⟨wG.heap.size, 0, none⟩ = some (.string ⟨#[]⟩) := cell_of_row _ _ _ _ _ _ hzr
                      have hz1 : (wG.alloc (.cells #[.string ⟨#[]⟩, .slice none 0 0] 41)).cell? ⟨wG.heap.size, 1, none⟩ = some (.slice none 0 0) := cell_of_row _ _ _ _ _ _ hzr
                      have hy0 : (wG.alloc (.cells #[.string ⟨#[]⟩, .slice none 0 0] 41)).frozen? ⟨wG.heap.size, 0, none⟩ = false := by simp only [World.frozen?, hzr]; rfl
                      have hy1 : (wG.alloc (.cells #[.string ⟨#[]⟩, .slice none 0 0] 41)).frozen? ⟨wG.heap.size, 1, none⟩ = false := by simp only [World.frozen?, hzr]; rfl
                      have HZR := Lib.hid hzr
                      clear hzr
                      clear hbg)
                   | (refine (KG.out _ ((Below.refl _ _).alloc (Nat.le_refl _) _).drew).mono ?_
                      rintro e wG ⟨hbg, yG, rfl, hyG⟩
                      have hbG : Below X.heap.size X wG := (((Below.refl _ _).alloc (Nat.le_refl _) _).drew).trans (hbg.mono (by simp))
                      obtain ⟨Ag, cg, rfl, hcg, hmg⟩ := hyG.len
                      have hzr : wG.heap[X.heap.size]? = some (.cells #[.string ⟨#[]⟩, .slice none 0 0] 41) := (hbg.block _ (by simp)).trans (heap_alloc_new X _)
                      have hz0 : wG.cell? ⟨X.heap.size, 0, none⟩ = some (.string ⟨#[]⟩) := cell_of_row _ _ _ _ _ _ hzr
                      have hz1 : wG.cell? ⟨X.heap.size, 1, none⟩ = some (.slice none 0 0) := cell_of_row _ _ _ _ _ _ hzr
                      have hy0 : wG.frozen? ⟨X.heap.size, 0, none⟩ = false := by simp only [World.frozen?, hzr]; rfl
                      have hy1 : wG.frozen? ⟨X.heap.size, 1, none⟩ = false := by simp only [World.frozen?, hzr]; rfl
                      have HZR := Lib.hid hzr
                      clear hzr
                      clear hbg)))
          · go_wp2_with fail
            have HF : Hid ((wG.alloc (.cells #[.string ⟨x.name.toArray⟩, .slice Ag (pagesF cur x.name).length cg] 41)).heap[wG.heap.size]? = some (.cells #[.string ⟨x.name.toArray⟩, .slice Ag (pagesF cur x.name).length cg] 41)) := heap_alloc_new _ _
            have HB3 : Hid (Below X.heap.size X (wG.alloc (.cells #[.string ⟨x.name.toArray⟩, .slice Ag (pagesF cur x.name).length cg] 41))) := hbG.alloc hbG.size _
            have HY3 : Hid (StrsT (since T w wr) (wG.alloc (.cells #[.string ⟨x.name.toArray⟩, .slice Ag (pagesF cur x.name).length cg] 41)) (.slice Ag (pagesF cur x.name).length cg) (pagesF cur x.name)) := hyG.below (B := wG.heap.size) (fun j hj => by have := hrep1.out.lt j hj; have := hbG.size; omega) ((Below.refl _ _).alloc (Nat.le_refl _) _)
            obtain ⟨W0, hW0⟩ : ∃ z, ((wG.alloc (.cells #[.string ⟨x.name.toArray⟩, .slice Ag (pagesF cur x.name).length cg] 41))).drew = z := ⟨_, rfl⟩
            have hb0 : Below X.heap.size X W0 := by rw [← hW0]; exact HB3.out.drew
            have hf0 : W0.heap[wG.heap.size]? = some (.cells #[.string ⟨x.name.toArray⟩, .slice Ag (pagesF cur x.name).length cg] 41) := by rw [← hW0]; exact HF.out
            have hx0 : W0.heap[wr.heap.size]? = some (.cells #[.string ⟨x.name.toArray⟩, .int .i64 x.page, .string ⟨x.data.toArray⟩] 100) := (hb0.block _ (by have := HSZ.out; omega)).trans HROW.out
            have hy0' : StrsT (since T w wr) W0 (.slice Ag (pagesF cur x.name).length cg) (pagesF cur x.name) := by rw [← hW0]; exact HY3.out.below (B := ((wG.alloc (.cells #[.string ⟨x.name.toArray⟩, .slice Ag (pagesF cur x.name).length cg] 41))).heap.size) (fun j hj => by have := hrep1.out.lt j hj; have := HB3.out.size; omega) (Below.refl _ _).drew
            have hrep0 := Lib.hid (hrep1.out.below hb0)
            have hg0 := hrep0.out.glt
            have eg : W0.cell? ⟨g, 1, none⟩ = some (.slice As cur.length cs) := cell_of_row _ _ _ _ _ _ hrep0.out.row
            have hfl : wG.heap.size < W0.heap.size := (Array.getElem?_eq_some_iff.1 hf0).1
            have hxl : wr.heap.size < W0.heap.size := (Array.getElem?_eq_some_iff.1 hx0).1
            have hfg : wG.heap.size ≠ g := by have := hrep.out.glt; have := HSZ.out; have := hbG.size; omega
            have hxg : wr.heap.size ≠ g := by have := hrep.out.glt; omega
            have KS6 : Hid (∀ W, Below W0.heap.size W0 W → W.cell? ⟨wG.heap.size, 0, none⟩ = some (.string ⟨x.name.toArray⟩) ∧ W.cell? ⟨wG.heap.size, 1, none⟩ = some (.slice Ag (pagesF cur x.name).length cg) ∧ W.cell? ⟨wr.heap.size, 1, none⟩ = some (.int .i64 x.page) ∧ W.cell? ⟨wr.heap.size, 2, none⟩ = some (.string ⟨x.data.toArray⟩)) := fun W hW =>
              ⟨(hW.cell (p := ⟨wG.heap.size, 0, none⟩) hfl).trans (cell_of_row _ _ _ _ _ _ hf0), (hW.cell (p := ⟨wG.heap.size, 1, none⟩) hfl).trans (cell_of_row _ _ _ _ _ _ hf0), (hW.cell (p := ⟨wr.heap.size, 1, none⟩) hxl).trans (cell_of_row _ _ _ _ _ _ hx0), (hW.cell (p := ⟨wr.heap.size, 2, none⟩) hxl).trans (cell_of_row _ _ _ _ _ _ hx0)⟩
            have KS7 : Hid (∀ (W : World) (u : Value), Below W0.heap.size W0 W → (W.setCell ⟨g, 1, none⟩ u).cell? ⟨wG.heap.size, 0, none⟩ = some (.string ⟨x.name.toArray⟩) ∧ (W.setCell ⟨g, 1, none⟩ u).cell? ⟨wG.heap.size, 1, none⟩ = some (.slice Ag (pagesF cur x.name).length cg) ∧ (W.setCell ⟨g, 1, none⟩ u).cell? ⟨wr.heap.size, 1, none⟩ = some (.int .i64 x.page) ∧ (W.setCell ⟨g, 1, none⟩ u).cell? ⟨wr.heap.size, 2, none⟩ = some (.string ⟨x.data.toArray⟩)) := fun W u hW => by
              obtain ⟨k1, k2, k3, k4⟩ := KS6.out W hW
              exact ⟨(World.cell?_of_block (heap_setCell_other _ _ _ _ hfg)).trans k1, (World.cell?_of_block (heap_setCell_other _ _ _ _ hfg)).trans k2, (World.cell?_of_block (heap_setCell_other _ _ _ _ hxg)).trans k3, (World.cell?_of_block (heap_setCell_other _ _ _ _ hxg)).trans k4⟩
            have KSET : Hid (Calls Try.prog 61 #[.agg #[.string ⟨x.name.toArray⟩, .slice Ag (pagesF cur x.name).length cg], .int .i64 x.page, .string ⟨x.data.toArray⟩] W0 (GivesFil (since T w wr) ⟨x.name, setP (pagesF cur x.name) x.page x.data⟩ W0)) := set_any (since T w wr) _ ⟨x.name, pagesF cur x.name⟩ x.page x.data W0 (fun j hj => hrep0.out.lt j hj) hy0' (by omega) (by have := hcur.out.1.pages x.name; exact this)
            have HB0 := Lib.hid hb0
            refine region_begin hW0 (S := fun W => W.cell? ⟨wG.heap.size, 0, none⟩ = some (.string ⟨x.name.toArray⟩) ∧ W.cell? ⟨wG.heap.size, 1, none⟩ = some (.slice Ag (pagesF cur x.name).length cg) ∧ W.cell? ⟨wr.heap.size, 1, none⟩ = some (.int .i64 x.page) ∧ W.cell? ⟨wr.heap.size, 2, none⟩ = some (.string ⟨x.data.toArray⟩)) (by kernel_rfl) (KS6.out _ (Below.refl _ _)) (fun hHeld => ?_)
            clear hW0 hf0 hx0 hy0' hb0
            refine take_at (i := 0) (.pointer (some ⟨g, 0, none⟩)) (some 43) (by decide) (by rfl) (by kernel_rfl) (by kernel_rfl) (by kernel_rfl) (fun _ _ _ h => h) (by rfl) (fun W hW => by obtain ⟨hW1, hW2, hW3, hW4⟩ := hW; go_simp) (by assumption) ?_
            simp only [Act.put, List.setIfInBounds_toArray, List.set_cons_zero, List.set_cons_succ]
            refine take_at (i := 1) (.pointer (some ⟨g, 0, none⟩)) (some 44) (by decide) (by rfl) (by kernel_rfl) (by kernel_rfl) (by kernel_rfl) (fun _ _ _ h => h) (by rfl) (fun W hW => by obtain ⟨hW1, hW2, hW3, hW4⟩ := hW; go_simp) (by assumption) ?_
            simp only [Act.put, List.setIfInBounds_toArray, List.set_cons_zero, List.set_cons_succ]
            refine take_at (i := 2) (.pointer (some ⟨g, 0, none⟩)) (some 45) (by decide) (by rfl) (by kernel_rfl) (by kernel_rfl) (by kernel_rfl) (fun _ _ _ h => h) (by rfl) (fun W hW => by obtain ⟨hW1, hW2, hW3, hW4⟩ := hW; go_simp) (by assumption) ?_
            simp only [Act.put, List.setIfInBounds_toArray, List.set_cons_zero, List.set_cons_succ]
            refine take_at (i := 3) (.pointer (some ⟨g, 1, none⟩)) (some 46) (by decide) (by rfl) (by kernel_rfl) (by kernel_rfl) (by kernel_rfl) (fun _ _ _ h => h) (by rfl) (fun W hW => by obtain ⟨hW1, hW2, hW3, hW4⟩ := hW; go_simp) (by assumption) ?_
            simp only [Act.put, List.setIfInBounds_toArray, List.set_cons_zero, List.set_cons_succ]
            refine take_at (i := 5) (.agg #[.string ⟨x.name.toArray⟩, .slice Ag (pagesF cur x.name).length cg]) (some 48) (by decide) (by rfl) (by kernel_rfl) (by kernel_rfl) (by kernel_rfl) (fun _ _ _ h => h) (by rfl) (fun W hW => by obtain ⟨hW1, hW2, hW3, hW4⟩ := hW; go_simp) (by assumption) ?_
            simp only [Act.put, List.setIfInBounds_toArray, List.set_cons_zero, List.set_cons_succ]
            refine take_at (i := 6) (.pointer (some ⟨wr.heap.size, 1, none⟩)) (some 49) (by decide) (by rfl) (by kernel_rfl) (by kernel_rfl) (by kernel_rfl) (fun _ _ _ h => h) (by rfl) (fun W hW => by obtain ⟨hW1, hW2, hW3, hW4⟩ := hW; go_simp) (by assumption) ?_
            simp only [Act.put, List.setIfInBounds_toArray, List.set_cons_zero, List.set_cons_succ]
            refine take_at (i := 7) (.int .i64 x.page) (some 50) (by decide) (by rfl) (by kernel_rfl) (by kernel_rfl) (by kernel_rfl) (fun _ _ _ h => h) (by rfl) (fun W hW => by obtain ⟨hW1, hW2, hW3, hW4⟩ := hW; go_simp) (by assumption) ?_
            simp only [Act.put, List.setIfInBounds_toArray, List.set_cons_zero, List.set_cons_succ]
            refine take_at (i := 8) (.pointer (some ⟨wr.heap.size, 2, none⟩)) (some 51) (by decide) (by rfl) (by kernel_rfl) (by kernel_rfl) (by kernel_rfl) (fun _ _ _ h => h) (by rfl) (fun W hW => by obtain ⟨hW1, hW2, hW3, hW4⟩ := hW; go_simp) (by assumption) ?_
            simp only [Act.put, List.setIfInBounds_toArray, List.set_cons_zero, List.set_cons_succ]
            refine take_at (i := 9) (.string ⟨x.data.toArray⟩) (some 52) (by decide) (by rfl) (by kernel_rfl) (by kernel_rfl) (by kernel_rfl) (fun _ _ _ h => h) (by rfl) (fun W hW => by obtain ⟨hW1, hW2, hW3, hW4⟩ := hW; go_simp) (by assumption) ?_
            simp only [Act.put, List.setIfInBounds_toArray, List.set_cons_zero, List.set_cons_succ]
            refine wpAnyH_ready (rs := [4, 10]) (by kernel_rfl) (by simp) ?_
            refine come (i := 4) (.slice As cur.length cs) W0 (some 47) (by decide) (by rfl) (by rfl) (by go_simp) hHeld ?_ ?_
            · simp only [Act.put, List.setIfInBounds_toArray, List.set_cons_zero, List.set_cons_succ]
              refine wpAnyH_ready (rs := [10]) (by kernel_rfl) (by simp) ?_
              refine AllReadyH.cons (Array.getElem?_eq_getElem (by decide)) (fun K hK => ?_) ?_
              · go_simp
                refine KSET.out.mono ?_
                rintro e wS ⟨hbS, yS, rfl, hyS⟩
                obtain ⟨AS, cS, rfl, hcS, hmS⟩ := hyS.len
                have HYS := Lib.hid hyS
                have HBS := Lib.hid hbS
                have s6 := KS6.out wS hbS
                have eg2 : wS.cell? ⟨g, 1, none⟩ = some (.slice As cur.length cs) := (hbS.cell (p := ⟨g, 1, none⟩) hg0).trans eg
                clear hyS hbS
                refine hK.out _ _ s6 (fun hHeld2 => ?_)
                clear hK
                refine wpAnyH_ready (rs := [11]) (by kernel_rfl) (by simp) ?_
                refine AllReadyH.cons (Array.getElem?_eq_getElem (by decide)) (fun K hK => ?_) AllReadyH.nil
                go_simp
                have hltS : ∀ j, since T w wS j → j < wS.heap.size := fun j hj => hj.elim (fun h => by have := H.out.lt j h; have := HBS.out.size; omega) (fun e => e.2)
                have hsub : ∀ j, since T w wr j → since T w wS j := fun j hj => hj.elim .inl (fun e => .inr ⟨e.1, by have := HBS.out.size; omega⟩)
                have hfS : Fils (since T w wS) wS (.slice As cur.length cs) cur := ((hrep0.out.safe.below hrep0.out.lt HBS.out).mono hsub)
                have hyS2 : StrsT (since T w wS) wS (.slice AS (setP (pagesF cur x.name) x.page x.data).length cS) (setP (pagesF cur x.name) x.page x.data) := HYS.out.mono (fun j hj => hj.elim (hsub j) (fun e => .inr ⟨by omega, e.2⟩))
                refine (put_any (since T w wS) _ _ cur ⟨x.name, setP (pagesF cur x.name) x.page x.data⟩ wS hltS hfS hyS2 (by have := hcur.out.2; omega)).mono ?_
                rintro e wP ⟨hbP, yP, rfl, hyP⟩
                obtain ⟨AP, cP, rfl, hcP, hmP⟩ := hyP.len
                have HYP := Lib.hid hyP
                have HSP : Hid (wS.heap.size ≤ wP.heap.size) := hbP.size
                have HBP : Hid (Below W0.heap.size W0 wP) := HBS.out.trans (hbP.mono HBS.out.size)
                have s7 := KS6.out wP HBP.out
                have hrowP : wP.heap[g]? = W0.heap[g]? := HBP.out.block _ hg0
                have eg3 : wP.cell? ⟨g, 1, none⟩ = some (.slice As cur.length cs) := (HBP.out.cell (p := ⟨g, 1, none⟩) hg0).trans eg
                have fg3 : wP.frozen? ⟨g, 1, none⟩ = false := by
                  have f0 := hrep0.out.frozen 1
                  unfold World.frozen? at f0 ⊢
                  rw [hrowP]
                  exact f0
                clear hyP hbP hyS2 hfS hltS
                refine hK.out _ _ s7 (fun hHeld3 => ?_)
                clear hK
                try simp only [Act.put, List.setIfInBounds_toArray, List.set_cons_zero, List.set_cons_succ]
                refine take_at (i := 12) (.pointer (some ⟨g, 0, none⟩)) (some 55) (by decide) (by rfl) (by kernel_rfl) (by kernel_rfl) (by kernel_rfl) (fun _ _ _ h => h) (by rfl) (fun W hW => by obtain ⟨hW1, hW2, hW3, hW4⟩ := hW; go_simp) s7 ?_
                simp only [Act.put, List.setIfInBounds_toArray, List.set_cons_zero, List.set_cons_succ]
                refine take_at (i := 13) (.pointer (some ⟨g, 1, none⟩)) (some 56) (by decide) (by rfl) (by kernel_rfl) (by kernel_rfl) (by kernel_rfl) (fun _ _ _ h => h) (by rfl) (fun W hW => by obtain ⟨hW1, hW2, hW3, hW4⟩ := hW; go_simp) s7 ?_
                simp only [Act.put, List.setIfInBounds_toArray, List.set_cons_zero, List.set_cons_succ]
                refine wpAnyH_ready (rs := [14]) (by kernel_rfl) (by simp) ?_
                refine AllReadyH.cons (Array.getElem?_eq_getElem (by decide)) (fun K hK => ?_) AllReadyH.nil
                go_simp
                have s8 := KS7.out wP (.slice AP (putF cur ⟨x.name, setP (pagesF cur x.name) x.page x.data⟩).length cP) HBP.out
                refine hK.out _ _ s8 (fun _ => ?_)
                refine wpAnyH_done (by kernel_rfl) ?_ _
                clear hK s7 s8 eg3 fg3 hrowP
                have HNEW : Hid (RefC (wP.setCell ⟨g, 1, none⟩ (.slice AP (putF cur ⟨x.name, setP (pagesF cur x.name) x.page x.data⟩).length cP)) g (since T w (wP.setCell ⟨g, 1, none⟩ (.slice AP (putF cur ⟨x.name, setP (pagesF cur x.name) x.page x.data⟩).length cP))) { D with safe := putF cur ⟨x.name, setP (pagesF cur x.name) x.page x.data⟩ } (.slice An D.now.length cn) (.slice AP (putF cur ⟨x.name, setP (pagesF cur x.name) x.page x.data⟩).length cP) (.slice (some ⟨b, off, none⟩) D.waits.length c)) := by
                  have h1 := hrep0.out.below HBP.out
                  have hszP := HBP.out.size
                  have h2 := h1.mono (T' := since T w wP) (fun j hj => hj.elim .inl (fun e => .inr ⟨e.1, by omega⟩)) (fun j hj => hj.elim (fun h => by have := H.out.lt j h; omega) (fun e => e.2)) (fun e => e.elim H.out.out (fun e => by have := H.out.glt; have := e.1; omega))
                  have h3 := h2.poke (D' := { D with safe := putF cur ⟨x.name, setP (pagesF cur x.name) x.page x.data⟩ }) 1 (.slice AP (putF cur ⟨x.name, setP (pagesF cur x.name) x.page x.data⟩).length cP) (by simp [rcells]) h2.now (HYP.out.mono (fun j hj => hj.elim (fun h => h.elim .inl (fun e => .inr ⟨e.1, by have := HSP.out; omega⟩)) (fun e => .inr ⟨by have := HBS.out.size; have := HB0.out.size; have := HSZ.out; omega, e.2⟩))) h2.waits
                  exact h3.mono (fun j hj => hj.elim .inl (fun e => .inr ⟨e.1, by rw [World.size_setCell]; exact e.2⟩)) (fun j hj => hj.elim (fun h => by rw [World.size_setCell]; have := H.out.lt j h; omega) (fun e => e.2)) (fun e => e.elim H.out.out (fun e => by have := H.out.glt; have := e.1; omega))
                have HAN : Hid (Apart (fun k => T k ∨ k = g) w (wP.setCell ⟨g, 1, none⟩ (.slice AP (putF cur ⟨x.name, setP (pagesF cur x.name) x.page x.data⟩).length cP))) := by
                  have hszP := HBP.out.size
                  have hall : Below wr.heap.size wr wP := (HB1.out.trans (HB0.out.mono (by have := HSZ.out; omega))).trans (HBP.out.mono (by have := HB0.out.size; have := HSZ.out; omega))
                  exact ⟨hall.os.trans hA.out.os, hall.tape.trans hA.out.tape, hall.output.trans hA.out.output, by rw [World.size_setCell]; have := hall.size; omega, fun j hj hn => (heap_setCell_other _ _ _ _ (fun e => hn (.inr e))).trans ((hall.block j (by omega)).trans (hA.out.block j hj hn))⟩
                go_wp2_with fail
                go_roundw
                case rel => exact ⟨k + 1, putF cur ⟨x.name, setP (pagesF cur x.name) x.page x.data⟩, _, by go_num, by omega, HNEW, (by unfold Hid; rw [hkp.out, HDR.out, keeps, if_pos HBIT.out]), ⟨hcur.out.1.put (by show (setP _ _ _).length ≤ _; rw [setP_len]; have := hcur.out.1.pages x.name; omega), by have := putF_len cur ⟨x.name, setP (pagesF cur x.name) x.page x.data⟩; have := hcur.out.2; omega⟩, HAN⟩
                case measure => simp [intOf]; omega
              · exact AllReadyH.nil
            refine AllReadyH.cons (Array.getElem?_eq_getElem (by decide)) (fun K hK => ?_) ?_
            · go_simp
              refine KSET.out.mono ?_
              rintro e wS ⟨hbS, yS, rfl, hyS⟩
              obtain ⟨AS, cS, rfl, hcS, hmS⟩ := hyS.len
              have HYS := Lib.hid hyS
              have HBS := Lib.hid hbS
              have s6 := KS6.out wS hbS
              have eg2 : wS.cell? ⟨g, 1, none⟩ = some (.slice As cur.length cs) := (hbS.cell (p := ⟨g, 1, none⟩) hg0).trans eg
              clear hyS hbS
              refine hK.out _ _ s6 (fun hHeld2 => ?_)
              clear hK
              refine wpAnyH_ready (rs := [4]) (by kernel_rfl) (by simp) ?_
              refine come (i := 4) (.slice As cur.length cs) wS (some 47) (by decide) (by rfl) (by rfl) (by go_simp) s6 ?_ ?_
              · simp only [Act.put, List.setIfInBounds_toArray, List.set_cons_zero, List.set_cons_succ]
                refine wpAnyH_ready (rs := [11]) (by kernel_rfl) (by simp) ?_
                refine AllReadyH.cons (Array.getElem?_eq_getElem (by decide)) (fun K hK => ?_) AllReadyH.nil
                go_simp
                have hltS : ∀ j, since T w wS j → j < wS.heap.size := fun j hj => hj.elim (fun h => by have := H.out.lt j h; have := HBS.out.size; omega) (fun e => e.2)
                have hsub : ∀ j, since T w wr j → since T w wS j := fun j hj => hj.elim .inl (fun e => .inr ⟨e.1, by have := HBS.out.size; omega⟩)
                have hfS : Fils (since T w wS) wS (.slice As cur.length cs) cur := ((hrep0.out.safe.below hrep0.out.lt HBS.out).mono hsub)
                have hyS2 : StrsT (since T w wS) wS (.slice AS (setP (pagesF cur x.name) x.page x.data).length cS) (setP (pagesF cur x.name) x.page x.data) := HYS.out.mono (fun j hj => hj.elim (hsub j) (fun e => .inr ⟨by omega, e.2⟩))
                refine (put_any (since T w wS) _ _ cur ⟨x.name, setP (pagesF cur x.name) x.page x.data⟩ wS hltS hfS hyS2 (by have := hcur.out.2; omega)).mono ?_
                rintro e wP ⟨hbP, yP, rfl, hyP⟩
                obtain ⟨AP, cP, rfl, hcP, hmP⟩ := hyP.len
                have HYP := Lib.hid hyP
                have HSP : Hid (wS.heap.size ≤ wP.heap.size) := hbP.size
                have HBP : Hid (Below W0.heap.size W0 wP) := HBS.out.trans (hbP.mono HBS.out.size)
                have s7 := KS6.out wP HBP.out
                have hrowP : wP.heap[g]? = W0.heap[g]? := HBP.out.block _ hg0
                have eg3 : wP.cell? ⟨g, 1, none⟩ = some (.slice As cur.length cs) := (HBP.out.cell (p := ⟨g, 1, none⟩) hg0).trans eg
                have fg3 : wP.frozen? ⟨g, 1, none⟩ = false := by
                  have f0 := hrep0.out.frozen 1
                  unfold World.frozen? at f0 ⊢
                  rw [hrowP]
                  exact f0
                clear hyP hbP hyS2 hfS hltS
                refine hK.out _ _ s7 (fun hHeld3 => ?_)
                clear hK
                try simp only [Act.put, List.setIfInBounds_toArray, List.set_cons_zero, List.set_cons_succ]
                refine take_at (i := 12) (.pointer (some ⟨g, 0, none⟩)) (some 55) (by decide) (by rfl) (by kernel_rfl) (by kernel_rfl) (by kernel_rfl) (fun _ _ _ h => h) (by rfl) (fun W hW => by obtain ⟨hW1, hW2, hW3, hW4⟩ := hW; go_simp) s7 ?_
                simp only [Act.put, List.setIfInBounds_toArray, List.set_cons_zero, List.set_cons_succ]
                refine take_at (i := 13) (.pointer (some ⟨g, 1, none⟩)) (some 56) (by decide) (by rfl) (by kernel_rfl) (by kernel_rfl) (by kernel_rfl) (fun _ _ _ h => h) (by rfl) (fun W hW => by obtain ⟨hW1, hW2, hW3, hW4⟩ := hW; go_simp) s7 ?_
                simp only [Act.put, List.setIfInBounds_toArray, List.set_cons_zero, List.set_cons_succ]
                refine wpAnyH_ready (rs := [14]) (by kernel_rfl) (by simp) ?_
                refine AllReadyH.cons (Array.getElem?_eq_getElem (by decide)) (fun K hK => ?_) AllReadyH.nil
                go_simp
                have s8 := KS7.out wP (.slice AP (putF cur ⟨x.name, setP (pagesF cur x.name) x.page x.data⟩).length cP) HBP.out
                refine hK.out _ _ s8 (fun _ => ?_)
                refine wpAnyH_done (by kernel_rfl) ?_ _
                clear hK s7 s8 eg3 fg3 hrowP
                have HNEW : Hid (RefC (wP.setCell ⟨g, 1, none⟩ (.slice AP (putF cur ⟨x.name, setP (pagesF cur x.name) x.page x.data⟩).length cP)) g (since T w (wP.setCell ⟨g, 1, none⟩ (.slice AP (putF cur ⟨x.name, setP (pagesF cur x.name) x.page x.data⟩).length cP))) { D with safe := putF cur ⟨x.name, setP (pagesF cur x.name) x.page x.data⟩ } (.slice An D.now.length cn) (.slice AP (putF cur ⟨x.name, setP (pagesF cur x.name) x.page x.data⟩).length cP) (.slice (some ⟨b, off, none⟩) D.waits.length c)) := by
                  have h1 := hrep0.out.below HBP.out
                  have hszP := HBP.out.size
                  have h2 := h1.mono (T' := since T w wP) (fun j hj => hj.elim .inl (fun e => .inr ⟨e.1, by omega⟩)) (fun j hj => hj.elim (fun h => by have := H.out.lt j h; omega) (fun e => e.2)) (fun e => e.elim H.out.out (fun e => by have := H.out.glt; have := e.1; omega))
                  have h3 := h2.poke (D' := { D with safe := putF cur ⟨x.name, setP (pagesF cur x.name) x.page x.data⟩ }) 1 (.slice AP (putF cur ⟨x.name, setP (pagesF cur x.name) x.page x.data⟩).length cP) (by simp [rcells]) h2.now (HYP.out.mono (fun j hj => hj.elim (fun h => h.elim .inl (fun e => .inr ⟨e.1, by have := HSP.out; omega⟩)) (fun e => .inr ⟨by have := HBS.out.size; have := HB0.out.size; have := HSZ.out; omega, e.2⟩))) h2.waits
                  exact h3.mono (fun j hj => hj.elim .inl (fun e => .inr ⟨e.1, by rw [World.size_setCell]; exact e.2⟩)) (fun j hj => hj.elim (fun h => by rw [World.size_setCell]; have := H.out.lt j h; omega) (fun e => e.2)) (fun e => e.elim H.out.out (fun e => by have := H.out.glt; have := e.1; omega))
                have HAN : Hid (Apart (fun k => T k ∨ k = g) w (wP.setCell ⟨g, 1, none⟩ (.slice AP (putF cur ⟨x.name, setP (pagesF cur x.name) x.page x.data⟩).length cP))) := by
                  have hszP := HBP.out.size
                  have hall : Below wr.heap.size wr wP := (HB1.out.trans (HB0.out.mono (by have := HSZ.out; omega))).trans (HBP.out.mono (by have := HB0.out.size; have := HSZ.out; omega))
                  exact ⟨hall.os.trans hA.out.os, hall.tape.trans hA.out.tape, hall.output.trans hA.out.output, by rw [World.size_setCell]; have := hall.size; omega, fun j hj hn => (heap_setCell_other _ _ _ _ (fun e => hn (.inr e))).trans ((hall.block j (by omega)).trans (hA.out.block j hj hn))⟩
                go_wp2_with fail
                go_roundw
                case rel => exact ⟨k + 1, putF cur ⟨x.name, setP (pagesF cur x.name) x.page x.data⟩, _, by go_num, by omega, HNEW, (by unfold Hid; rw [hkp.out, HDR.out, keeps, if_pos HBIT.out]), ⟨hcur.out.1.put (by show (setP _ _ _).length ≤ _; rw [setP_len]; have := hcur.out.1.pages x.name; omega), by have := putF_len cur ⟨x.name, setP (pagesF cur x.name) x.page x.data⟩; have := hcur.out.2; omega⟩, HAN⟩
                case measure => simp [intOf]; omega
              · exact AllReadyH.nil
            · exact AllReadyH.nil
          · go_wp2_with fail
            have HF : Hid (((wG.setCell ⟨X.heap.size, 0, none⟩ (.string ⟨x.name.toArray⟩)).setCell ⟨X.heap.size, 1, none⟩ (.slice Ag (pagesF cur x.name).length cg)).heap[X.heap.size]? = some (.cells #[.string ⟨x.name.toArray⟩, .slice Ag (pagesF cur x.name).length cg] 41)) := file_row HZR.out
            have HB3 : Hid (Below X.heap.size X ((wG.setCell ⟨X.heap.size, 0, none⟩ (.string ⟨x.name.toArray⟩)).setCell ⟨X.heap.size, 1, none⟩ (.slice Ag (pagesF cur x.name).length cg))) := below_poke2 hbG (Nat.le_refl _)
            have HY3 : Hid (StrsT (since T w wr) ((wG.setCell ⟨X.heap.size, 0, none⟩ (.string ⟨x.name.toArray⟩)).setCell ⟨X.heap.size, 1, none⟩ (.slice Ag (pagesF cur x.name).length cg)) (.slice Ag (pagesF cur x.name).length cg) (pagesF cur x.name)) := hyG.below (B := X.heap.size) (fun j hj => hrep1.out.lt j hj) (below_poke2 (Below.refl _ _) (Nat.le_refl _))
            obtain ⟨W0, hW0⟩ : ∃ z, (((wG.setCell ⟨X.heap.size, 0, none⟩ (.string ⟨x.name.toArray⟩)).setCell ⟨X.heap.size, 1, none⟩ (.slice Ag (pagesF cur x.name).length cg))).drew = z := ⟨_, rfl⟩
            have hb0 : Below X.heap.size X W0 := by rw [← hW0]; exact HB3.out.drew
            have hf0 : W0.heap[X.heap.size]? = some (.cells #[.string ⟨x.name.toArray⟩, .slice Ag (pagesF cur x.name).length cg] 41) := by rw [← hW0]; exact HF.out
            have hx0 : W0.heap[wr.heap.size]? = some (.cells #[.string ⟨x.name.toArray⟩, .int .i64 x.page, .string ⟨x.data.toArray⟩] 100) := (hb0.block _ (by have := HSZ.out; omega)).trans HROW.out
            have hy0' : StrsT (since T w wr) W0 (.slice Ag (pagesF cur x.name).length cg) (pagesF cur x.name) := by rw [← hW0]; exact HY3.out.below (B := (((wG.setCell ⟨X.heap.size, 0, none⟩ (.string ⟨x.name.toArray⟩)).setCell ⟨X.heap.size, 1, none⟩ (.slice Ag (pagesF cur x.name).length cg))).heap.size) (fun j hj => by have := hrep1.out.lt j hj; have := HB3.out.size; omega) (Below.refl _ _).drew
            have hrep0 := Lib.hid (hrep1.out.below hb0)
            have hg0 := hrep0.out.glt
            have eg : W0.cell? ⟨g, 1, none⟩ = some (.slice As cur.length cs) := cell_of_row _ _ _ _ _ _ hrep0.out.row
            have hfl : X.heap.size < W0.heap.size := (Array.getElem?_eq_some_iff.1 hf0).1
            have hxl : wr.heap.size < W0.heap.size := (Array.getElem?_eq_some_iff.1 hx0).1
            have hfg : X.heap.size ≠ g := by have := hrep.out.glt; have := HSZ.out; omega
            have hxg : wr.heap.size ≠ g := by have := hrep.out.glt; omega
            have KS6 : Hid (∀ W, Below W0.heap.size W0 W → W.cell? ⟨X.heap.size, 0, none⟩ = some (.string ⟨x.name.toArray⟩) ∧ W.cell? ⟨X.heap.size, 1, none⟩ = some (.slice Ag (pagesF cur x.name).length cg) ∧ W.cell? ⟨wr.heap.size, 1, none⟩ = some (.int .i64 x.page) ∧ W.cell? ⟨wr.heap.size, 2, none⟩ = some (.string ⟨x.data.toArray⟩)) := fun W hW =>
              ⟨(hW.cell (p := ⟨X.heap.size, 0, none⟩) hfl).trans (cell_of_row _ _ _ _ _ _ hf0), (hW.cell (p := ⟨X.heap.size, 1, none⟩) hfl).trans (cell_of_row _ _ _ _ _ _ hf0), (hW.cell (p := ⟨wr.heap.size, 1, none⟩) hxl).trans (cell_of_row _ _ _ _ _ _ hx0), (hW.cell (p := ⟨wr.heap.size, 2, none⟩) hxl).trans (cell_of_row _ _ _ _ _ _ hx0)⟩
            have KS7 : Hid (∀ (W : World) (u : Value), Below W0.heap.size W0 W → (W.setCell ⟨g, 1, none⟩ u).cell? ⟨X.heap.size, 0, none⟩ = some (.string ⟨x.name.toArray⟩) ∧ (W.setCell ⟨g, 1, none⟩ u).cell? ⟨X.heap.size, 1, none⟩ = some (.slice Ag (pagesF cur x.name).length cg) ∧ (W.setCell ⟨g, 1, none⟩ u).cell? ⟨wr.heap.size, 1, none⟩ = some (.int .i64 x.page) ∧ (W.setCell ⟨g, 1, none⟩ u).cell? ⟨wr.heap.size, 2, none⟩ = some (.string ⟨x.data.toArray⟩)) := fun W u hW => by
              obtain ⟨k1, k2, k3, k4⟩ := KS6.out W hW
              exact ⟨(World.cell?_of_block (heap_setCell_other _ _ _ _ hfg)).trans k1, (World.cell?_of_block (heap_setCell_other _ _ _ _ hfg)).trans k2, (World.cell?_of_block (heap_setCell_other _ _ _ _ hxg)).trans k3, (World.cell?_of_block (heap_setCell_other _ _ _ _ hxg)).trans k4⟩
            have KSET : Hid (Calls Try.prog 61 #[.agg #[.string ⟨x.name.toArray⟩, .slice Ag (pagesF cur x.name).length cg], .int .i64 x.page, .string ⟨x.data.toArray⟩] W0 (GivesFil (since T w wr) ⟨x.name, setP (pagesF cur x.name) x.page x.data⟩ W0)) := set_any (since T w wr) _ ⟨x.name, pagesF cur x.name⟩ x.page x.data W0 (fun j hj => hrep0.out.lt j hj) hy0' (by omega) (by have := hcur.out.1.pages x.name; exact this)
            have HB0 := Lib.hid hb0
            refine region_begin hW0 (S := fun W => W.cell? ⟨X.heap.size, 0, none⟩ = some (.string ⟨x.name.toArray⟩) ∧ W.cell? ⟨X.heap.size, 1, none⟩ = some (.slice Ag (pagesF cur x.name).length cg) ∧ W.cell? ⟨wr.heap.size, 1, none⟩ = some (.int .i64 x.page) ∧ W.cell? ⟨wr.heap.size, 2, none⟩ = some (.string ⟨x.data.toArray⟩)) (by kernel_rfl) (KS6.out _ (Below.refl _ _)) (fun hHeld => ?_)
            clear hW0 hf0 hx0 hy0' hb0
            refine take_at (i := 0) (.pointer (some ⟨g, 0, none⟩)) (some 43) (by decide) (by rfl) (by kernel_rfl) (by kernel_rfl) (by kernel_rfl) (fun _ _ _ h => h) (by rfl) (fun W hW => by obtain ⟨hW1, hW2, hW3, hW4⟩ := hW; go_simp) (by assumption) ?_
            simp only [Act.put, List.setIfInBounds_toArray, List.set_cons_zero, List.set_cons_succ]
            refine take_at (i := 1) (.pointer (some ⟨g, 0, none⟩)) (some 44) (by decide) (by rfl) (by kernel_rfl) (by kernel_rfl) (by kernel_rfl) (fun _ _ _ h => h) (by rfl) (fun W hW => by obtain ⟨hW1, hW2, hW3, hW4⟩ := hW; go_simp) (by assumption) ?_
            simp only [Act.put, List.setIfInBounds_toArray, List.set_cons_zero, List.set_cons_succ]
            refine take_at (i := 2) (.pointer (some ⟨g, 0, none⟩)) (some 45) (by decide) (by rfl) (by kernel_rfl) (by kernel_rfl) (by kernel_rfl) (fun _ _ _ h => h) (by rfl) (fun W hW => by obtain ⟨hW1, hW2, hW3, hW4⟩ := hW; go_simp) (by assumption) ?_
            simp only [Act.put, List.setIfInBounds_toArray, List.set_cons_zero, List.set_cons_succ]
            refine take_at (i := 3) (.pointer (some ⟨g, 1, none⟩)) (some 46) (by decide) (by rfl) (by kernel_rfl) (by kernel_rfl) (by kernel_rfl) (fun _ _ _ h => h) (by rfl) (fun W hW => by obtain ⟨hW1, hW2, hW3, hW4⟩ := hW; go_simp) (by assumption) ?_
            simp only [Act.put, List.setIfInBounds_toArray, List.set_cons_zero, List.set_cons_succ]
            refine take_at (i := 5) (.agg #[.string ⟨x.name.toArray⟩, .slice Ag (pagesF cur x.name).length cg]) (some 48) (by decide) (by rfl) (by kernel_rfl) (by kernel_rfl) (by kernel_rfl) (fun _ _ _ h => h) (by rfl) (fun W hW => by obtain ⟨hW1, hW2, hW3, hW4⟩ := hW; go_simp) (by assumption) ?_
            simp only [Act.put, List.setIfInBounds_toArray, List.set_cons_zero, List.set_cons_succ]
            refine take_at (i := 6) (.pointer (some ⟨wr.heap.size, 1, none⟩)) (some 49) (by decide) (by rfl) (by kernel_rfl) (by kernel_rfl) (by kernel_rfl) (fun _ _ _ h => h) (by rfl) (fun W hW => by obtain ⟨hW1, hW2, hW3, hW4⟩ := hW; go_simp) (by assumption) ?_
            simp only [Act.put, List.setIfInBounds_toArray, List.set_cons_zero, List.set_cons_succ]
            refine take_at (i := 7) (.int .i64 x.page) (some 50) (by decide) (by rfl) (by kernel_rfl) (by kernel_rfl) (by kernel_rfl) (fun _ _ _ h => h) (by rfl) (fun W hW => by obtain ⟨hW1, hW2, hW3, hW4⟩ := hW; go_simp) (by assumption) ?_
            simp only [Act.put, List.setIfInBounds_toArray, List.set_cons_zero, List.set_cons_succ]
            refine take_at (i := 8) (.pointer (some ⟨wr.heap.size, 2, none⟩)) (some 51) (by decide) (by rfl) (by kernel_rfl) (by kernel_rfl) (by kernel_rfl) (fun _ _ _ h => h) (by rfl) (fun W hW => by obtain ⟨hW1, hW2, hW3, hW4⟩ := hW; go_simp) (by assumption) ?_
            simp only [Act.put, List.setIfInBounds_toArray, List.set_cons_zero, List.set_cons_succ]
            refine take_at (i := 9) (.string ⟨x.data.toArray⟩) (some 52) (by decide) (by rfl) (by kernel_rfl) (by kernel_rfl) (by kernel_rfl) (fun _ _ _ h => h) (by rfl) (fun W hW => by obtain ⟨hW1, hW2, hW3, hW4⟩ := hW; go_simp) (by assumption) ?_
            simp only [Act.put, List.setIfInBounds_toArray, List.set_cons_zero, List.set_cons_succ]
            refine wpAnyH_ready (rs := [4, 10]) (by kernel_rfl) (by simp) ?_
            refine come (i := 4) (.slice As cur.length cs) W0 (some 47) (by decide) (by rfl) (by rfl) (by go_simp) hHeld ?_ ?_
            · simp only [Act.put, List.setIfInBounds_toArray, List.set_cons_zero, List.set_cons_succ]
              refine wpAnyH_ready (rs := [10]) (by kernel_rfl) (by simp) ?_
              refine AllReadyH.cons (Array.getElem?_eq_getElem (by decide)) (fun K hK => ?_) ?_
              · go_simp
                refine KSET.out.mono ?_
                rintro e wS ⟨hbS, yS, rfl, hyS⟩
                obtain ⟨AS, cS, rfl, hcS, hmS⟩ := hyS.len
                have HYS := Lib.hid hyS
                have HBS := Lib.hid hbS
                have s6 := KS6.out wS hbS
                have eg2 : wS.cell? ⟨g, 1, none⟩ = some (.slice As cur.length cs) := (hbS.cell (p := ⟨g, 1, none⟩) hg0).trans eg
                clear hyS hbS
                refine hK.out _ _ s6 (fun hHeld2 => ?_)
                clear hK
                refine wpAnyH_ready (rs := [11]) (by kernel_rfl) (by simp) ?_
                refine AllReadyH.cons (Array.getElem?_eq_getElem (by decide)) (fun K hK => ?_) AllReadyH.nil
                go_simp
                have hltS : ∀ j, since T w wS j → j < wS.heap.size := fun j hj => hj.elim (fun h => by have := H.out.lt j h; have := HBS.out.size; omega) (fun e => e.2)
                have hsub : ∀ j, since T w wr j → since T w wS j := fun j hj => hj.elim .inl (fun e => .inr ⟨e.1, by have := HBS.out.size; omega⟩)
                have hfS : Fils (since T w wS) wS (.slice As cur.length cs) cur := ((hrep0.out.safe.below hrep0.out.lt HBS.out).mono hsub)
                have hyS2 : StrsT (since T w wS) wS (.slice AS (setP (pagesF cur x.name) x.page x.data).length cS) (setP (pagesF cur x.name) x.page x.data) := HYS.out.mono (fun j hj => hj.elim (hsub j) (fun e => .inr ⟨by omega, e.2⟩))
                refine (put_any (since T w wS) _ _ cur ⟨x.name, setP (pagesF cur x.name) x.page x.data⟩ wS hltS hfS hyS2 (by have := hcur.out.2; omega)).mono ?_
                rintro e wP ⟨hbP, yP, rfl, hyP⟩
                obtain ⟨AP, cP, rfl, hcP, hmP⟩ := hyP.len
                have HYP := Lib.hid hyP
                have HSP : Hid (wS.heap.size ≤ wP.heap.size) := hbP.size
                have HBP : Hid (Below W0.heap.size W0 wP) := HBS.out.trans (hbP.mono HBS.out.size)
                have s7 := KS6.out wP HBP.out
                have hrowP : wP.heap[g]? = W0.heap[g]? := HBP.out.block _ hg0
                have eg3 : wP.cell? ⟨g, 1, none⟩ = some (.slice As cur.length cs) := (HBP.out.cell (p := ⟨g, 1, none⟩) hg0).trans eg
                have fg3 : wP.frozen? ⟨g, 1, none⟩ = false := by
                  have f0 := hrep0.out.frozen 1
                  unfold World.frozen? at f0 ⊢
                  rw [hrowP]
                  exact f0
                clear hyP hbP hyS2 hfS hltS
                refine hK.out _ _ s7 (fun hHeld3 => ?_)
                clear hK
                try simp only [Act.put, List.setIfInBounds_toArray, List.set_cons_zero, List.set_cons_succ]
                refine take_at (i := 12) (.pointer (some ⟨g, 0, none⟩)) (some 55) (by decide) (by rfl) (by kernel_rfl) (by kernel_rfl) (by kernel_rfl) (fun _ _ _ h => h) (by rfl) (fun W hW => by obtain ⟨hW1, hW2, hW3, hW4⟩ := hW; go_simp) s7 ?_
                simp only [Act.put, List.setIfInBounds_toArray, List.set_cons_zero, List.set_cons_succ]
                refine take_at (i := 13) (.pointer (some ⟨g, 1, none⟩)) (some 56) (by decide) (by rfl) (by kernel_rfl) (by kernel_rfl) (by kernel_rfl) (fun _ _ _ h => h) (by rfl) (fun W hW => by obtain ⟨hW1, hW2, hW3, hW4⟩ := hW; go_simp) s7 ?_
                simp only [Act.put, List.setIfInBounds_toArray, List.set_cons_zero, List.set_cons_succ]
                refine wpAnyH_ready (rs := [14]) (by kernel_rfl) (by simp) ?_
                refine AllReadyH.cons (Array.getElem?_eq_getElem (by decide)) (fun K hK => ?_) AllReadyH.nil
                go_simp
                have s8 := KS7.out wP (.slice AP (putF cur ⟨x.name, setP (pagesF cur x.name) x.page x.data⟩).length cP) HBP.out
                refine hK.out _ _ s8 (fun _ => ?_)
                refine wpAnyH_done (by kernel_rfl) ?_ _
                clear hK s7 s8 eg3 fg3 hrowP
                have HNEW : Hid (RefC (wP.setCell ⟨g, 1, none⟩ (.slice AP (putF cur ⟨x.name, setP (pagesF cur x.name) x.page x.data⟩).length cP)) g (since T w (wP.setCell ⟨g, 1, none⟩ (.slice AP (putF cur ⟨x.name, setP (pagesF cur x.name) x.page x.data⟩).length cP))) { D with safe := putF cur ⟨x.name, setP (pagesF cur x.name) x.page x.data⟩ } (.slice An D.now.length cn) (.slice AP (putF cur ⟨x.name, setP (pagesF cur x.name) x.page x.data⟩).length cP) (.slice (some ⟨b, off, none⟩) D.waits.length c)) := by
                  have h1 := hrep0.out.below HBP.out
                  have hszP := HBP.out.size
                  have h2 := h1.mono (T' := since T w wP) (fun j hj => hj.elim .inl (fun e => .inr ⟨e.1, by omega⟩)) (fun j hj => hj.elim (fun h => by have := H.out.lt j h; omega) (fun e => e.2)) (fun e => e.elim H.out.out (fun e => by have := H.out.glt; have := e.1; omega))
                  have h3 := h2.poke (D' := { D with safe := putF cur ⟨x.name, setP (pagesF cur x.name) x.page x.data⟩ }) 1 (.slice AP (putF cur ⟨x.name, setP (pagesF cur x.name) x.page x.data⟩).length cP) (by simp [rcells]) h2.now (HYP.out.mono (fun j hj => hj.elim (fun h => h.elim .inl (fun e => .inr ⟨e.1, by have := HSP.out; omega⟩)) (fun e => .inr ⟨by have := HBS.out.size; have := HB0.out.size; have := HSZ.out; omega, e.2⟩))) h2.waits
                  exact h3.mono (fun j hj => hj.elim .inl (fun e => .inr ⟨e.1, by rw [World.size_setCell]; exact e.2⟩)) (fun j hj => hj.elim (fun h => by rw [World.size_setCell]; have := H.out.lt j h; omega) (fun e => e.2)) (fun e => e.elim H.out.out (fun e => by have := H.out.glt; have := e.1; omega))
                have HAN : Hid (Apart (fun k => T k ∨ k = g) w (wP.setCell ⟨g, 1, none⟩ (.slice AP (putF cur ⟨x.name, setP (pagesF cur x.name) x.page x.data⟩).length cP))) := by
                  have hszP := HBP.out.size
                  have hall : Below wr.heap.size wr wP := (HB1.out.trans (HB0.out.mono (by have := HSZ.out; omega))).trans (HBP.out.mono (by have := HB0.out.size; have := HSZ.out; omega))
                  exact ⟨hall.os.trans hA.out.os, hall.tape.trans hA.out.tape, hall.output.trans hA.out.output, by rw [World.size_setCell]; have := hall.size; omega, fun j hj hn => (heap_setCell_other _ _ _ _ (fun e => hn (.inr e))).trans ((hall.block j (by omega)).trans (hA.out.block j hj hn))⟩
                go_wp2_with fail
                go_roundw
                case rel => exact ⟨k + 1, putF cur ⟨x.name, setP (pagesF cur x.name) x.page x.data⟩, _, by go_num, by omega, HNEW, (by unfold Hid; rw [hkp.out, HDR.out, keeps, if_pos HBIT.out]), ⟨hcur.out.1.put (by show (setP _ _ _).length ≤ _; rw [setP_len]; have := hcur.out.1.pages x.name; omega), by have := putF_len cur ⟨x.name, setP (pagesF cur x.name) x.page x.data⟩; have := hcur.out.2; omega⟩, HAN⟩
                case measure => simp [intOf]; omega
              · exact AllReadyH.nil
            refine AllReadyH.cons (Array.getElem?_eq_getElem (by decide)) (fun K hK => ?_) ?_
            · go_simp
              refine KSET.out.mono ?_
              rintro e wS ⟨hbS, yS, rfl, hyS⟩
              obtain ⟨AS, cS, rfl, hcS, hmS⟩ := hyS.len
              have HYS := Lib.hid hyS
              have HBS := Lib.hid hbS
              have s6 := KS6.out wS hbS
              have eg2 : wS.cell? ⟨g, 1, none⟩ = some (.slice As cur.length cs) := (hbS.cell (p := ⟨g, 1, none⟩) hg0).trans eg
              clear hyS hbS
              refine hK.out _ _ s6 (fun hHeld2 => ?_)
              clear hK
              refine wpAnyH_ready (rs := [4]) (by kernel_rfl) (by simp) ?_
              refine come (i := 4) (.slice As cur.length cs) wS (some 47) (by decide) (by rfl) (by rfl) (by go_simp) s6 ?_ ?_
              · simp only [Act.put, List.setIfInBounds_toArray, List.set_cons_zero, List.set_cons_succ]
                refine wpAnyH_ready (rs := [11]) (by kernel_rfl) (by simp) ?_
                refine AllReadyH.cons (Array.getElem?_eq_getElem (by decide)) (fun K hK => ?_) AllReadyH.nil
                go_simp
                have hltS : ∀ j, since T w wS j → j < wS.heap.size := fun j hj => hj.elim (fun h => by have := H.out.lt j h; have := HBS.out.size; omega) (fun e => e.2)
                have hsub : ∀ j, since T w wr j → since T w wS j := fun j hj => hj.elim .inl (fun e => .inr ⟨e.1, by have := HBS.out.size; omega⟩)
                have hfS : Fils (since T w wS) wS (.slice As cur.length cs) cur := ((hrep0.out.safe.below hrep0.out.lt HBS.out).mono hsub)
                have hyS2 : StrsT (since T w wS) wS (.slice AS (setP (pagesF cur x.name) x.page x.data).length cS) (setP (pagesF cur x.name) x.page x.data) := HYS.out.mono (fun j hj => hj.elim (hsub j) (fun e => .inr ⟨by omega, e.2⟩))
                refine (put_any (since T w wS) _ _ cur ⟨x.name, setP (pagesF cur x.name) x.page x.data⟩ wS hltS hfS hyS2 (by have := hcur.out.2; omega)).mono ?_
                rintro e wP ⟨hbP, yP, rfl, hyP⟩
                obtain ⟨AP, cP, rfl, hcP, hmP⟩ := hyP.len
                have HYP := Lib.hid hyP
                have HSP : Hid (wS.heap.size ≤ wP.heap.size) := hbP.size
                have HBP : Hid (Below W0.heap.size W0 wP) := HBS.out.trans (hbP.mono HBS.out.size)
                have s7 := KS6.out wP HBP.out
                have hrowP : wP.heap[g]? = W0.heap[g]? := HBP.out.block _ hg0
                have eg3 : wP.cell? ⟨g, 1, none⟩ = some (.slice As cur.length cs) := (HBP.out.cell (p := ⟨g, 1, none⟩) hg0).trans eg
                have fg3 : wP.frozen? ⟨g, 1, none⟩ = false := by
                  have f0 := hrep0.out.frozen 1
                  unfold World.frozen? at f0 ⊢
                  rw [hrowP]
                  exact f0
                clear hyP hbP hyS2 hfS hltS
                refine hK.out _ _ s7 (fun hHeld3 => ?_)
                clear hK
                try simp only [Act.put, List.setIfInBounds_toArray, List.set_cons_zero, List.set_cons_succ]
                refine take_at (i := 12) (.pointer (some ⟨g, 0, none⟩)) (some 55) (by decide) (by rfl) (by kernel_rfl) (by kernel_rfl) (by kernel_rfl) (fun _ _ _ h => h) (by rfl) (fun W hW => by obtain ⟨hW1, hW2, hW3, hW4⟩ := hW; go_simp) s7 ?_
                simp only [Act.put, List.setIfInBounds_toArray, List.set_cons_zero, List.set_cons_succ]
                refine take_at (i := 13) (.pointer (some ⟨g, 1, none⟩)) (some 56) (by decide) (by rfl) (by kernel_rfl) (by kernel_rfl) (by kernel_rfl) (fun _ _ _ h => h) (by rfl) (fun W hW => by obtain ⟨hW1, hW2, hW3, hW4⟩ := hW; go_simp) s7 ?_
                simp only [Act.put, List.setIfInBounds_toArray, List.set_cons_zero, List.set_cons_succ]
                refine wpAnyH_ready (rs := [14]) (by kernel_rfl) (by simp) ?_
                refine AllReadyH.cons (Array.getElem?_eq_getElem (by decide)) (fun K hK => ?_) AllReadyH.nil
                go_simp
                have s8 := KS7.out wP (.slice AP (putF cur ⟨x.name, setP (pagesF cur x.name) x.page x.data⟩).length cP) HBP.out
                refine hK.out _ _ s8 (fun _ => ?_)
                refine wpAnyH_done (by kernel_rfl) ?_ _
                clear hK s7 s8 eg3 fg3 hrowP
                have HNEW : Hid (RefC (wP.setCell ⟨g, 1, none⟩ (.slice AP (putF cur ⟨x.name, setP (pagesF cur x.name) x.page x.data⟩).length cP)) g (since T w (wP.setCell ⟨g, 1, none⟩ (.slice AP (putF cur ⟨x.name, setP (pagesF cur x.name) x.page x.data⟩).length cP))) { D with safe := putF cur ⟨x.name, setP (pagesF cur x.name) x.page x.data⟩ } (.slice An D.now.length cn) (.slice AP (putF cur ⟨x.name, setP (pagesF cur x.name) x.page x.data⟩).length cP) (.slice (some ⟨b, off, none⟩) D.waits.length c)) := by
                  have h1 := hrep0.out.below HBP.out
                  have hszP := HBP.out.size
                  have h2 := h1.mono (T' := since T w wP) (fun j hj => hj.elim .inl (fun e => .inr ⟨e.1, by omega⟩)) (fun j hj => hj.elim (fun h => by have := H.out.lt j h; omega) (fun e => e.2)) (fun e => e.elim H.out.out (fun e => by have := H.out.glt; have := e.1; omega))
                  have h3 := h2.poke (D' := { D with safe := putF cur ⟨x.name, setP (pagesF cur x.name) x.page x.data⟩ }) 1 (.slice AP (putF cur ⟨x.name, setP (pagesF cur x.name) x.page x.data⟩).length cP) (by simp [rcells]) h2.now (HYP.out.mono (fun j hj => hj.elim (fun h => h.elim .inl (fun e => .inr ⟨e.1, by have := HSP.out; omega⟩)) (fun e => .inr ⟨by have := HBS.out.size; have := HB0.out.size; have := HSZ.out; omega, e.2⟩))) h2.waits
                  exact h3.mono (fun j hj => hj.elim .inl (fun e => .inr ⟨e.1, by rw [World.size_setCell]; exact e.2⟩)) (fun j hj => hj.elim (fun h => by rw [World.size_setCell]; have := H.out.lt j h; omega) (fun e => e.2)) (fun e => e.elim H.out.out (fun e => by have := H.out.glt; have := e.1; omega))
                have HAN : Hid (Apart (fun k => T k ∨ k = g) w (wP.setCell ⟨g, 1, none⟩ (.slice AP (putF cur ⟨x.name, setP (pagesF cur x.name) x.page x.data⟩).length cP))) := by
                  have hszP := HBP.out.size
                  have hall : Below wr.heap.size wr wP := (HB1.out.trans (HB0.out.mono (by have := HSZ.out; omega))).trans (HBP.out.mono (by have := HB0.out.size; have := HSZ.out; omega))
                  exact ⟨hall.os.trans hA.out.os, hall.tape.trans hA.out.tape, hall.output.trans hA.out.output, by rw [World.size_setCell]; have := hall.size; omega, fun j hj hn => (heap_setCell_other _ _ _ _ (fun e => hn (.inr e))).trans ((hall.block j (by omega)).trans (hA.out.block j hj hn))⟩
                go_wp2_with fail
                go_roundw
                case rel => exact ⟨k + 1, putF cur ⟨x.name, setP (pagesF cur x.name) x.page x.data⟩, _, by go_num, by omega, HNEW, (by unfold Hid; rw [hkp.out, HDR.out, keeps, if_pos HBIT.out]), ⟨hcur.out.1.put (by show (setP _ _ _).length ≤ _; rw [setP_len]; have := hcur.out.1.pages x.name; omega), by have := putF_len cur ⟨x.name, setP (pagesF cur x.name) x.page x.data⟩; have := hcur.out.2; omega⟩, HAN⟩
                case measure => simp [intOf]; omega
              · exact AllReadyH.nil
            · exact AllReadyH.nil
        · have hq : (((keep : Int) / 2 ^ (k % 64)).tmod 2 == 1) = false := by rw [rbit_is]; simpa using hbit
          have HBIT := Lib.hid hbit
          clear hbit
          have hb1 : Below wr.heap.size wr (wr.alloc (.cells #[.string ⟨x.name.toArray⟩, .int .i64 x.page, .string ⟨x.data.toArray⟩] 100)) := (Below.refl _ _).alloc (Nat.le_refl _) _
          have HB1 := Lib.hid hb1
          clear hb1
          go_wp2_with fail
          go_roundw
          case rel =>
            have hgl := H.out.glt
            exact ⟨k + 1, cur, vs', by go_num, by omega, (hrep.out.below HB1.out).mono (fun j hj => hj.elim .inl (fun e => .inr ⟨e.1, by simp; omega⟩)) (fun j hj => hj.elim (fun h => by simp; have := H.out.lt j h; omega) (fun e => e.2)) (fun e => e.elim H.out.out (fun e => by have := e.1; omega)), (by unfold Hid; rw [hkp.out, HDR.out, keeps, if_neg HBIT.out]), ⟨hcur.out.1, by have := hcur.out.2; omega⟩,
              ⟨HB1.out.os.trans hA.out.os, HB1.out.tape.trans hA.out.tape, HB1.out.output.trans hA.out.output, by simp; omega, fun j hj hn => (HB1.out.block j (by omega)).trans (hA.out.block j hj hn)⟩⟩
          case measure => simp [intOf]; omega
      · obtain rfl : k = D.waits.length := by omega
        have hc0 := hkp.out
        rw [List.drop_length, keeps] at hc0
        have HC0 := Lib.hid hc0
        have d0 : wr.cell? ⟨g, 0, none⟩ = some (.slice An D.now.length cn) := cell_of_row _ _ _ _ _ _ hrep.out.row
        have HT0 : Hid (there D.now (keeps keep 0 D.waits D.safe) = there (D.now.drop 0) cur) := by unfold Hid; rw [hc0]; rfl
        have HL0 : Hid (cur.length ≤ D.safe.length + D.waits.length + 0) := hcur.out.2
        clear hc0 hkp hcur
        go_wp2_with fail
        go_loopw [63] (fun v wr => ∃ (k : Nat) (cur : List Fil) (vs' : Value), v = .int .i64 k ∧ k ≤ D.now.length ∧ Hid (RefC wr g (since T w wr) { D with safe := cur } (.slice An D.now.length cn) vs' (.slice A D.waits.length c)) ∧ Hid (there D.now (keeps keep 0 D.waits D.safe) = there (D.now.drop k) cur) ∧
          Hid (cur.length ≤ D.safe.length + D.waits.length + k) ∧ Hid (Apart (fun k => T k ∨ k = g) w wr)) (fun v _ => D.now.length - (intOf v).toNat)
        case atStart => exact ⟨0, cur, vs', rfl, by omega, hrep, HT0, HL0, hA⟩
        case round =>
          clear hrep HT0 HL0 hA HC0 hz
          obtain ⟨k, cur, vs', rfl, hk, hrep, hth, hcur, hA⟩ := hrel
          have hz := hA.out.size
          by_cases hlt : k < D.now.length
          · have hlt' : (k : Int) < D.now.length := by omega
            obtain ⟨b, off, A', c', hAA, hb, hc1, hc2, hst⟩ := hrep.out.now.at hlt
            have hdr : D.now.drop k = D.now[k] :: D.now.drop (k + 1) := List.drop_eq_getElem_cons hlt
            have hc1 : wr.cell? ⟨b, off + k * 2, none⟩ = some (.string ⟨(D.now[k]).name.toArray⟩) := hc1
            have hc2 : wr.cell? ⟨b, off + k * 2 + 1, none⟩ = some (.slice A' (D.now[k]).pages.length c') := hc2
            clear hst
            generalize D.now[k] = f at *
            subst hAA
            have HDR := Lib.hid hdr
            clear hdr
            obtain ⟨As, cs, hvs, hcs, hms⟩ := hrep.out.safe.len
            subst hvs
            have hb1 : Below wr.heap.size wr (wr.alloc (.cells #[.string ⟨f.name.toArray⟩, .slice A' f.pages.length c'] 41)) := (Below.refl _ _).alloc (Nat.le_refl _) _
            have hrow : (wr.alloc (.cells #[.string ⟨f.name.toArray⟩, .slice A' f.pages.length c'] 41)).heap[wr.heap.size]? = some (.cells #[.string ⟨f.name.toArray⟩, .slice A' f.pages.length c'] 41) := heap_alloc_new _ _
            have hrep1 := Lib.hid (hrep.out.below hb1)
            have hsz1 : (wr.alloc (.cells #[.string ⟨f.name.toArray⟩, .slice A' f.pages.length c'] 41)).heap.size = wr.heap.size + 1 := by simp
            have HB1 := Lib.hid hb1
            have HROW := Lib.hid hrow
            clear hb1 hrow
            go_wp2_with fail
            obtain ⟨X, hX⟩ : ∃ X, wr.alloc (.cells #[.string ⟨f.name.toArray⟩, .slice A' f.pages.length c'] 41) = X := ⟨_, rfl⟩
            rw [hX] at hrep1 HB1 HROW hsz1 ⊢
            have hgX := hrep1.out.glt
            have HSZ : Hid (X.heap.size = wr.heap.size + 1) := hsz1
            clear hsz1
            have KS : Hid (∀ W, Below X.heap.size X W → W.cell? ⟨g, 1, none⟩ = some (.slice As cur.length cs) ∧ W.cell? ⟨wr.heap.size, 0, none⟩ = some (.string ⟨f.name.toArray⟩)) := fun W hW =>
              ⟨(hW.cell (p := ⟨g, 1, none⟩) hgX).trans (cell_of_row _ _ _ _ _ _ hrep1.out.row), (hW.cell (p := ⟨wr.heap.size, 0, none⟩) (by show wr.heap.size < X.heap.size; have := HSZ.out; omega)).trans (cell_of_row _ _ _ _ _ _ HROW.out)⟩
            have KG : Hid (∀ W, Below X.heap.size X W → Calls Try.prog 58 #[.slice As cur.length cs, .string ⟨f.name.toArray⟩] W (GetIs (since T w wr) cur f.name W)) := fun W hW =>
              get_any (since T w wr) _ cur f.name W (fun j hj => Nat.lt_of_lt_of_le (hrep1.out.lt j hj) hW.size) (hrep1.out.safe.below hrep1.out.lt hW) (by have := hcur.out; omega)
            clear hX
            go_region_held3 (fun W => W.cell? ⟨g, 1, none⟩ = some (.slice As cur.length cs) ∧ W.cell? ⟨wr.heap.size, 0, none⟩ = some (.string ⟨f.name.toArray⟩))
              (first
                | exact KS.out _ (Below.refl _ _).drew
                | exact KS.out _ ((Below.refl _ _).alloc (Nat.le_refl _) _).drew
                | exact KS.out _ hbG
                | exact KS.out _ (hbG.alloc hbG.size _)
                | exact KS.out _ (below_poke2 hbG (by simp))
                | exact KS.out _ (below_poke2 (hbG.alloc hbG.size _) hbG.size))
              (first
                | (go_at_call 58
                   first
                     | (refine (KG.out _ (Below.refl _ _).drew).mono ?_
                        rintro e wG ⟨hbg, yG, rfl, hyG⟩
                        have hbG : Below X.heap.size X wG := (Below.refl _ _).drew.trans hbg
                        obtain ⟨Ag, cg, rfl, hcg, hmg⟩ := hyG.len
                        have hzr : (wG.alloc (.cells #[.string ⟨#[]⟩, .slice none 0 0] 41)).heap[wG.heap.size]? = some (.cells #[.string ⟨#[]⟩, .slice none 0 0] 41) := heap_alloc_new _ _
                        have hz0 : (wG.alloc (.cells #[.string ⟨#[]⟩, .slice none 0 0] 41)).cell? ⟨wG.heap.size, 0, none⟩ = some (.string ⟨#[]⟩) := cell_of_row _ _ _ _ _ _ hzr
                        have hz1 : (wG.alloc (.cells #[.string ⟨#[]⟩, .slice none 0 0] 41)).cell? ⟨wG.heap.size, 1, none⟩ = some (.slice none 0 0) := cell_of_row _ _ _ _ _ _ hzr
                        have hy0 : (wG.alloc (.cells #[.string ⟨#[]⟩, .slice none 0 0] 41)).frozen? ⟨wG.heap.size, 0, none⟩ = false := by simp only [World.frozen?, hzr]; rfl
                        have hy1 : (wG.alloc (.cells #[.string ⟨#[]⟩, .slice none 0 0] 41)).frozen? ⟨wG.heap.size, 1, none⟩ = false := by simp only [World.frozen?, hzr]; rfl
                        clear hbg hzr)
                     | (refine (KG.out _ ((Below.refl _ _).alloc (Nat.le_refl _) _).drew).mono ?_
                        rintro e wG ⟨hbg, yG, rfl, hyG⟩
                        have hbG : Below X.heap.size X wG := (((Below.refl _ _).alloc (Nat.le_refl _) _).drew).trans (hbg.mono (by simp))
                        obtain ⟨Ag, cg, rfl, hcg, hmg⟩ := hyG.len
                        have hzr : wG.heap[X.heap.size]? = some (.cells #[.string ⟨#[]⟩, .slice none 0 0] 41) := (hbg.block _ (by simp)).trans (heap_alloc_new X _)
                        have hz0 : wG.cell? ⟨X.heap.size, 0, none⟩ = some (.string ⟨#[]⟩) := cell_of_row _ _ _ _ _ _ hzr
                        have hz1 : wG.cell? ⟨X.heap.size, 1, none⟩ = some (.slice none 0 0) := cell_of_row _ _ _ _ _ _ hzr
                        have hy0 : wG.frozen? ⟨X.heap.size, 0, none⟩ = false := by simp only [World.frozen?, hzr]; rfl
                        have hy1 : wG.frozen? ⟨X.heap.size, 1, none⟩ = false := by simp only [World.frozen?, hzr]; rfl
                        clear hbg hzr)))
            · have HB3 : Hid (Below X.heap.size X (wG.alloc (.cells #[.string ⟨f.name.toArray⟩, .slice Ag (pagesF cur f.name).length cg] 41))) := hbG.alloc hbG.size _
              clear hz0 hz1 hy0 hy1 KS KG hbG hyG
              generalize wG.alloc (.cells #[.string ⟨f.name.toArray⟩, .slice Ag (pagesF cur f.name).length cg] 41) = W3 at *
              have hrep3 := Lib.hid (hrep1.out.below HB3.out)
              have hsz3 := HB3.out.size
              have HALL : Hid (Below wr.heap.size wr W3) := HB1.out.trans (HB3.out.mono (by have := HSZ.out; omega))
              cases hq : (getF cur f.name).isSome
              · have KP : Hid (Calls Try.prog 60 #[.slice As cur.length cs, .agg #[.string ⟨f.name.toArray⟩, .slice none 0 0]] W3.drew (GivesF (since T w wr) (putF cur ⟨f.name, []⟩) W3.drew)) :=
                  put_any (since T w wr) _ _ cur ⟨f.name, []⟩ W3.drew (fun j hj => by have := hrep3.out.lt j hj; exact this) (hrep3.out.safe.below hrep3.out.lt (Below.refl _ _).drew) (StrsT.nil _ _) (by have := hcur.out; omega)
                have eg : W3.cell? ⟨g, 1, none⟩ = some (.slice As cur.length cs) := cell_of_row _ _ _ _ _ _ hrep3.out.row
                have ef : W3.cell? ⟨wr.heap.size, 0, none⟩ = some (.string ⟨f.name.toArray⟩) := (HB3.out.cell (p := ⟨wr.heap.size, 0, none⟩) (by show wr.heap.size < X.heap.size; have := HSZ.out; omega)).trans (cell_of_row _ _ _ _ _ _ HROW.out)
                go_wp2_with fail
                go_region_law (first
                  | (go_simp
                     go_at_call 60
                     refine KP.out.mono ?_
                     rintro e wP ⟨hbP, yP, rfl, hyP⟩
                     obtain ⟨AP, cP, rfl, hcP, hmP⟩ := hyP.len
                     have HYP := Lib.hid hyP
                     have HBP : Hid (Below W3.heap.size W3 wP) := (Below.refl _ _).drew.trans hbP
                     have eg3 : wP.cell? ⟨g, 1, none⟩ = some (.slice As cur.length cs) := (HBP.out.cell (p := ⟨g, 1, none⟩) hrep3.out.glt).trans eg
                     have fg3 : wP.frozen? ⟨g, 1, none⟩ = false := (hrep3.out.below HBP.out).frozen 1
                     clear hyP hbP))
                all_goals
                  go_wp2_with fail
                  go_roundw
                  case rel =>
                    have hszP := HBP.out.size
                    have h1 := hrep3.out.below HBP.out
                    have h2 := h1.mono (T' := since T w wP) (fun j hj => hj.elim .inl (fun e => .inr ⟨e.1, by have := HALL.out.size; omega⟩)) (fun j hj => hj.elim (fun h => by have := H.out.lt j h; have := HALL.out.size; omega) (fun e => e.2)) (fun e => e.elim H.out.out (fun e => by have := H.out.glt; have := e.1; omega))
                    have h3 := h2.poke (D' := { D with safe := putF cur ⟨f.name, []⟩ }) 1 (.slice AP (putF cur ⟨f.name, []⟩).length cP) (by simp [rcells]) h2.now (HYP.out.mono (fun j hj => hj.elim (fun h => h.elim .inl (fun e => .inr ⟨e.1, by have := HALL.out.size; omega⟩)) (fun e => .inr ⟨by have := HALL.out.size; have := e.1; simp at this; omega, e.2⟩))) h2.waits
                    have hall : Below wr.heap.size wr wP := HALL.out.trans (HBP.out.mono HALL.out.size)
                    refine ⟨k + 1, putF cur ⟨f.name, []⟩, _, by go_num, by omega, h3.mono (fun j hj => hj.elim .inl (fun e => .inr ⟨e.1, by rw [World.size_setCell]; exact e.2⟩)) (fun j hj => hj.elim (fun h => by rw [World.size_setCell]; have := H.out.lt j h; have := HALL.out.size; omega) (fun e => e.2)) (fun e => e.elim H.out.out (fun e => by have := H.out.glt; have := e.1; omega)), (by unfold Hid; rw [hth.out, HDR.out, there, if_neg (by rw [hq]; simp)]), (by unfold Hid; have := putF_len cur ⟨f.name, []⟩; have := hcur.out; omega), ?_⟩
                    exact ⟨hall.os.trans hA.out.os, hall.tape.trans hA.out.tape, hall.output.trans hA.out.output, by rw [World.size_setCell]; have := hall.size; omega, fun j hj hn => (heap_setCell_other _ _ _ _ (fun e => hn (.inr e))).trans ((hall.block j (by omega)).trans (hA.out.block j hj hn))⟩
                  case measure => simp [intOf]; omega
              · go_wp2_with fail
                go_roundw
                case rel =>
                  refine ⟨k + 1, cur, _, by go_num, by omega, hrep3.out.mono (fun j hj => hj.elim .inl (fun e => .inr ⟨e.1, by have := HALL.out.size; omega⟩)) (fun j hj => hj.elim (fun h => by have := H.out.lt j h; have := HALL.out.size; omega) (fun e => e.2)) (fun e => e.elim H.out.out (fun e => by have := H.out.glt; have := e.1; omega)), (by unfold Hid; rw [hth.out, HDR.out, there, if_pos hq]), (by unfold Hid; have := hcur.out; omega), ?_⟩
                  exact ⟨HALL.out.os.trans hA.out.os, HALL.out.tape.trans hA.out.tape, HALL.out.output.trans hA.out.output, by have := HALL.out.size; omega, fun j hj hn => (HALL.out.block j (by omega)).trans (hA.out.block j hj hn)⟩
                case measure => simp [intOf]; omega
            · have HB3 : Hid (Below X.heap.size X ((wG.setCell ⟨X.heap.size, 0, none⟩ (.string ⟨f.name.toArray⟩)).setCell ⟨X.heap.size, 1, none⟩ (.slice Ag (pagesF cur f.name).length cg))) := below_poke2 hbG (Nat.le_refl _)
              clear hz0 hz1 hy0 hy1 KS KG hbG hyG
              generalize (wG.setCell ⟨X.heap.size, 0, none⟩ (.string ⟨f.name.toArray⟩)).setCell ⟨X.heap.size, 1, none⟩ (.slice Ag (pagesF cur f.name).length cg) = W3 at *
              have hrep3 := Lib.hid (hrep1.out.below HB3.out)
              have hsz3 := HB3.out.size
              have HALL : Hid (Below wr.heap.size wr W3) := HB1.out.trans (HB3.out.mono (by have := HSZ.out; omega))
              cases hq : (getF cur f.name).isSome
              · have KP : Hid (Calls Try.prog 60 #[.slice As cur.length cs, .agg #[.string ⟨f.name.toArray⟩, .slice none 0 0]] W3.drew (GivesF (since T w wr) (putF cur ⟨f.name, []⟩) W3.drew)) :=
                  put_any (since T w wr) _ _ cur ⟨f.name, []⟩ W3.drew (fun j hj => by have := hrep3.out.lt j hj; exact this) (hrep3.out.safe.below hrep3.out.lt (Below.refl _ _).drew) (StrsT.nil _ _) (by have := hcur.out; omega)
                have eg : W3.cell? ⟨g, 1, none⟩ = some (.slice As cur.length cs) := cell_of_row _ _ _ _ _ _ hrep3.out.row
                have ef : W3.cell? ⟨wr.heap.size, 0, none⟩ = some (.string ⟨f.name.toArray⟩) := (HB3.out.cell (p := ⟨wr.heap.size, 0, none⟩) (by show wr.heap.size < X.heap.size; have := HSZ.out; omega)).trans (cell_of_row _ _ _ _ _ _ HROW.out)
                go_wp2_with fail
                go_region_law (first
                  | (go_simp
                     go_at_call 60
                     refine KP.out.mono ?_
                     rintro e wP ⟨hbP, yP, rfl, hyP⟩
                     obtain ⟨AP, cP, rfl, hcP, hmP⟩ := hyP.len
                     have HYP := Lib.hid hyP
                     have HBP : Hid (Below W3.heap.size W3 wP) := (Below.refl _ _).drew.trans hbP
                     have eg3 : wP.cell? ⟨g, 1, none⟩ = some (.slice As cur.length cs) := (HBP.out.cell (p := ⟨g, 1, none⟩) hrep3.out.glt).trans eg
                     have fg3 : wP.frozen? ⟨g, 1, none⟩ = false := (hrep3.out.below HBP.out).frozen 1
                     clear hyP hbP))
                all_goals
                  go_wp2_with fail
                  go_roundw
                  case rel =>
                    have hszP := HBP.out.size
                    have h1 := hrep3.out.below HBP.out
                    have h2 := h1.mono (T' := since T w wP) (fun j hj => hj.elim .inl (fun e => .inr ⟨e.1, by have := HALL.out.size; omega⟩)) (fun j hj => hj.elim (fun h => by have := H.out.lt j h; have := HALL.out.size; omega) (fun e => e.2)) (fun e => e.elim H.out.out (fun e => by have := H.out.glt; have := e.1; omega))
                    have h3 := h2.poke (D' := { D with safe := putF cur ⟨f.name, []⟩ }) 1 (.slice AP (putF cur ⟨f.name, []⟩).length cP) (by simp [rcells]) h2.now (HYP.out.mono (fun j hj => hj.elim (fun h => h.elim .inl (fun e => .inr ⟨e.1, by have := HALL.out.size; omega⟩)) (fun e => .inr ⟨by have := HALL.out.size; have := e.1; simp at this; omega, e.2⟩))) h2.waits
                    have hall : Below wr.heap.size wr wP := HALL.out.trans (HBP.out.mono HALL.out.size)
                    refine ⟨k + 1, putF cur ⟨f.name, []⟩, _, by go_num, by omega, h3.mono (fun j hj => hj.elim .inl (fun e => .inr ⟨e.1, by rw [World.size_setCell]; exact e.2⟩)) (fun j hj => hj.elim (fun h => by rw [World.size_setCell]; have := H.out.lt j h; have := HALL.out.size; omega) (fun e => e.2)) (fun e => e.elim H.out.out (fun e => by have := H.out.glt; have := e.1; omega)), (by unfold Hid; rw [hth.out, HDR.out, there, if_neg (by rw [hq]; simp)]), (by unfold Hid; have := putF_len cur ⟨f.name, []⟩; have := hcur.out; omega), ?_⟩
                    exact ⟨hall.os.trans hA.out.os, hall.tape.trans hA.out.tape, hall.output.trans hA.out.output, by rw [World.size_setCell]; have := hall.size; omega, fun j hj hn => (heap_setCell_other _ _ _ _ (fun e => hn (.inr e))).trans ((hall.block j (by omega)).trans (hA.out.block j hj hn))⟩
                  case measure => simp [intOf]; omega
              · go_wp2_with fail
                go_roundw
                case rel =>
                  refine ⟨k + 1, cur, _, by go_num, by omega, hrep3.out.mono (fun j hj => hj.elim .inl (fun e => .inr ⟨e.1, by have := HALL.out.size; omega⟩)) (fun j hj => hj.elim (fun h => by have := H.out.lt j h; have := HALL.out.size; omega) (fun e => e.2)) (fun e => e.elim H.out.out (fun e => by have := H.out.glt; have := e.1; omega)), (by unfold Hid; rw [hth.out, HDR.out, there, if_pos hq]), (by unfold Hid; have := hcur.out; omega), ?_⟩
                  exact ⟨HALL.out.os.trans hA.out.os, HALL.out.tape.trans hA.out.tape, HALL.out.output.trans hA.out.output, by have := HALL.out.size; omega, fun j hj hn => (HALL.out.block j (by omega)).trans (hA.out.block j hj hn)⟩
                case measure => simp [intOf]; omega
          · obtain rfl : k = D.now.length := by omega
            have hl0 := hth.out
            rw [List.drop_length, there] at hl0
            obtain ⟨As, cs, hvs, hcs, hms⟩ := hrep.out.safe.len
            subst hvs
            have HL : Hid (lose D keep = { D with now := cur, safe := cur, waits := [], off := true, fuse := 0 }) := by
              unfold Hid lose
              rw [if_neg (by rw [HO.out]; simp), hl0]
            clear hl0 hth
            have e1 : wr.cell? ⟨g, 1, none⟩ = some (.slice As cur.length cs) := cell_of_row _ _ _ _ _ _ hrep.out.row
            have e0 : wr.cell? ⟨g, 0, none⟩ = some (.slice An D.now.length cn) := cell_of_row _ _ _ _ _ _ hrep.out.row
            have f0 := hrep.out.frozen 0
            have P0 := Lib.hid (hrep.out.poke (D' := { D with now := cur, safe := cur }) 0 (.slice As cur.length cs) (by simp [rcells]) hrep.out.safe hrep.out.safe hrep.out.waits)
            have e2 : (wr.setCell ⟨g, 0, none⟩ (.slice As cur.length cs)).cell? ⟨g, 2, none⟩ = some (.slice A D.waits.length c) := cell_of_row _ _ _ _ _ _ P0.out.row
            have f2 := P0.out.frozen 2
            have P2 := Lib.hid (P0.out.poke (D' := { D with now := cur, safe := cur, waits := [] }) 2 (.slice none 0 0) (by simp [rcells]) P0.out.now P0.out.safe (Wrts.nil _ _))
            have e4 : ((wr.setCell ⟨g, 0, none⟩ (.slice As cur.length cs)).setCell ⟨g, 2, none⟩ (.slice none 0 0)).cell? ⟨g, 4, none⟩ = some (.bool D.off) := cell_of_row _ _ _ _ _ _ P2.out.row
            have f4 := P2.out.frozen 4
            have P4 := Lib.hid (P2.out.poke (D' := { D with now := cur, safe := cur, waits := [], off := true }) 4 (.bool true) (by simp [rcells]) P2.out.now P2.out.safe P2.out.waits)
            have e6 : (((wr.setCell ⟨g, 0, none⟩ (.slice As cur.length cs)).setCell ⟨g, 2, none⟩ (.slice none 0 0)).setCell ⟨g, 4, none⟩ (.bool true)).cell? ⟨g, 6, none⟩ = some (.int .i64 D.fuse) := cell_of_row _ _ _ _ _ _ P4.out.row
            have f6 := P4.out.frozen 6
            have P6 := Lib.hid (P4.out.poke (D' := { D with now := cur, safe := cur, waits := [], off := true, fuse := 0 }) 6 (.int .i64 0) (by simp [rcells]) P4.out.now P4.out.safe P4.out.waits)
            go_wp2_with fail
            go_end0
            rw [HL.out]
            refine ⟨rfl, ⟨_, _, _, P6.out.mono (fun j hj => hj.elim .inl (fun e => .inr ⟨e.1, by simpa using e.2⟩)) (fun j hj => hj.elim (fun h => P6.out.lt j (.inl h)) (fun e => by simpa using e.2)) (fun e => e.elim H.out.out (fun e => by have := H.out.glt; have := e.1; omega))⟩, ?_⟩
            exact ⟨hA.out.os, hA.out.tape, hA.out.output, by simp; omega, fun j hj hn => by
              rw [heap_setCell_other _ _ _ _ (fun e => hn (.inr e)), heap_setCell_other _ _ _ _ (fun e => hn (.inr e)), heap_setCell_other _ _ _ _ (fun e => hn (.inr e)), heap_setCell_other _ _ _ _ (fun e => hn (.inr e))]
              exact hA.out.block j hj hn⟩
  · rw [hoff] at c4
    have hL : lose D keep = D := by unfold lose; rw [if_pos hoff]
    rw [hL]
    clear hL hoff
    go_enter Try.func39, Try.ntmps39
    go_wp2_with fail
    go_end0
    exact ⟨rfl, ⟨_, _, _, H.out.mono (fun _ h => .inl h) (fun j hj => hj.elim (H.out.lt j) (fun e => by omega)) (fun e => e.elim H.out.out (fun e => by omega))⟩, Apart.refl _ _⟩

end Go.Proofs.Ytbepanhndpkdhaa.Cd

namespace Go.Proofs.Ytbepanhndpkdhaa.Cd
open Go.RowKit

/-- What of a disk's lists and numbers is bounded. -/
structure Bd (D : Dsk) : Prop where
  now : D.now.length ≤ 65536
  safe : D.safe.length ≤ 65536
  waits : D.waits.length ≤ 65536
  page : ∀ x ∈ D.waits, x.page ≤ 1048575
  small : Small D.safe
  smalln : Small D.now
  acts : D.acts < 9223372036854775807
  fuse : D.fuse ≤ 9223372036854775807
  keep : D.keep < 18446744073709551616
  room : D.room ≤ 4096
  cnt : count D.now ≤ 1048576

section
variable {w w1 w2 : World} {g : Nat} {T T' : Nat → Prop} {D D1 D2 : Dsk} {v v1 : Value} {e e1 : Ending}
theorem RefR.cast (h : RefR w g T D) (he : ∀ k, T k ↔ T' k) : RefR w g T' D := by
  obtain ⟨a, b, c, h⟩ := h
  exact ⟨a, b, c, h.mono (fun k hk => (he k).1 hk) (fun k hk => h.lt k ((he k).2 hk)) (fun hk => h.out ((he g).2 hk))⟩
theorem RefR.glt (h : RefR w g T D) : g < w.heap.size := by obtain ⟨a, b, c, h⟩ := h; exact h.glt
theorem RefR.lt (h : RefR w g T D) : ∀ k, T k → k < w.heap.size := by obtain ⟨a, b, c, h⟩ := h; exact h.lt
theorem RefR.out (h : RefR w g T D) : ¬ T g := by obtain ⟨a, b, c, h⟩ := h; exact h.out
theorem RefR.grow (h : RefR w1 g T D) (_hs : w.heap.size ≤ w1.heap.size) (hg : g < w.heap.size) : RefR w1 g (since T w w1) D := by
  obtain ⟨a, b, c, h⟩ := h
  exact ⟨a, b, c, h.mono (fun _ h => .inl h) (fun j hj => hj.elim (h.lt j) (fun e => e.2)) (fun e => e.elim h.out (fun e => by have := e.1; omega))⟩
theorem makesR_below (h : RefR w g T D) (hb : Below w.heap.size w w1) : MakesR g T D v w (.returned v) w1 := ⟨rfl, (h.below hb).grow hb.size h.glt, Apart.below hb⟩
/-- One call behind another. -/
theorem makesR_trans (h1 : RefR w1 g (since T w w1) D1 ∧ Apart (fun k => T k ∨ k = g) w w1) (h2 : MakesR g (since T w w1) D2 v w1 e w2) : MakesR g T D2 v w e w2 := by
  obtain ⟨he, hr, ha⟩ := h2
  refine ⟨he, hr.cast (fun k => since_trans h1.2.size ha.size k), h1.2.trans (ha.mono (fun k hk => ?_))⟩
  rcases hk with (hk | hk) | hk
  · exact .inl (.inl hk)
  · exact .inr hk
  · exact .inl (.inr hk)
end
/-- A list of the disk's own is put in its place: what it is lies in blocks since w. -/
theorem poke_now {w1 w2 : World} {g : Nat} {T : Nat → Prop} {D D' : Dsk} {vn vs vw y : Value} (h : RefC w1 g T D vn vs vw) (hb : Below w1.heap.size w1 w2) (hy : Fils (since T w1 w2) w2 y D'.now)
    (e1 : D'.safe = D.safe) (e2 : D'.waits = D.waits) (e3 : D'.room = D.room) (e4 : D'.off = D.off) (e5 : D'.acts = D.acts) (e6 : D'.fuse = D.fuse) (e7 : D'.keep = D.keep) :
    RefC (w2.setCell ⟨g, 0, none⟩ y) g (since T w1 w2) D' y vs vw := by
  have h1 := (h.below hb).mono (T' := since T w1 w2) (fun _ h => .inl h) (fun j hj => hj.elim (fun k => Nat.lt_of_lt_of_le (h.lt j k) hb.size) (fun e => e.2)) (fun e => e.elim h.out (fun e => by have := h.glt; have := e.1; omega))
  exact h1.poke 0 y (by simp [rcells, e3, e4, e5, e6, e7]) hy (by rw [e1]; exact h1.safe) (by rw [e2]; exact h1.waits)
theorem poke_safe {w1 w2 : World} {g : Nat} {T : Nat → Prop} {D D' : Dsk} {vn vs vw y : Value} (h : RefC w1 g T D vn vs vw) (hb : Below w1.heap.size w1 w2) (hy : Fils (since T w1 w2) w2 y D'.safe)
    (e1 : D'.now = D.now) (e2 : D'.waits = D.waits) (e3 : D'.room = D.room) (e4 : D'.off = D.off) (e5 : D'.acts = D.acts) (e6 : D'.fuse = D.fuse) (e7 : D'.keep = D.keep) :
    RefC (w2.setCell ⟨g, 1, none⟩ y) g (since T w1 w2) D' vn y vw := by
  have h1 := (h.below hb).mono (T' := since T w1 w2) (fun _ h => .inl h) (fun j hj => hj.elim (fun k => Nat.lt_of_lt_of_le (h.lt j k) hb.size) (fun e => e.2)) (fun e => e.elim h.out (fun e => by have := h.glt; have := e.1; omega))
  exact h1.poke 1 y (by simp [rcells, e3, e4, e5, e6, e7]) (by rw [e1]; exact h1.now) hy (by rw [e2]; exact h1.waits)
/-- The disk is another one: what else lies there is as it was. -/
def DidR (g : Nat) (T : Nat → Prop) (D : Dsk) (w w' : World) : Prop := RefR w' g (since T w w') D ∧ Apart (fun k => T k ∨ k = g) w w'
theorem DidR.trans {g : Nat} {T : Nat → Prop} {D1 D2 : Dsk} {w w1 w2 : World} (h1 : DidR g T D1 w w1) (h2 : DidR g (since T w w1) D2 w1 w2) : DidR g T D2 w w2 :=
  (makesR_trans (v := .bool true) h1 ⟨rfl, h2.1, h2.2⟩).2
theorem did_poke {w1 w2 : World} {g i : Nat} {T : Nat → Prop} {D' : Dsk} {vn vs vw u : Value} (h : RefC (w2.setCell ⟨g, i, none⟩ u) g (since T w1 w2) D' vn vs vw) (hb : Below w1.heap.size w1 w2) : DidR g T D' w1 (w2.setCell ⟨g, i, none⟩ u) := by
  refine ⟨⟨vn, vs, vw, h.mono (fun j hj => hj.elim .inl (fun e => .inr ⟨e.1, by rw [World.size_setCell]; exact e.2⟩)) (fun j hj => hj.elim (fun k => h.lt j (.inl k)) (fun e => e.2)) (fun e => e.elim (fun k => h.out (.inl k)) (fun e => h.out (.inr ⟨e.1, by have := e.2; rw [World.size_setCell] at this; exact this⟩)))⟩, ?_⟩
  exact ⟨hb.os, hb.tape, hb.output, by rw [World.size_setCell]; exact hb.size, fun j hj hn => (heap_setCell_other _ _ _ _ (fun e => hn (.inr e))).trans (hb.block j hj)⟩
/-- The same, the values of its lists at hand. -/
def St (g : Nat) (T : Nat → Prop) (D : Dsk) (vn vs vw : Value) (w w' : World) : Prop := RefC w' g (since T w w') D vn vs vw ∧ Apart (fun k => T k ∨ k = g) w w'
theorem St.did {g : Nat} {T : Nat → Prop} {D : Dsk} {vn vs vw : Value} {w w' : World} (h : St g T D vn vs vw w w') : DidR g T D w w' := ⟨⟨_, _, _, h.1⟩, h.2⟩
theorem st_of {g : Nat} {T : Nat → Prop} {D D' : Dsk} {vn vs vw vn' vs' vw' u : Value} {i : Nat} {w w1 w2 : World} (h : St g T D vn vs vw w w1) (hb : Below w1.heap.size w1 w2) (hp : RefC (w2.setCell ⟨g, i, none⟩ u) g (since (since T w w1) w1 w2) D' vn' vs' vw') : St g T D' vn' vs' vw' w (w2.setCell ⟨g, i, none⟩ u) := by
  have hs1 := h.2.size
  have hs2 := hb.size
  refine ⟨hp.mono (fun k hk => ?_) (fun k hk => ?_) (fun hk => ?_), (h.did.trans (did_poke hp hb)).2⟩
  · rcases hk with (hk | hk) | hk
    · exact .inl hk
    · exact .inr ⟨hk.1, by rw [World.size_setCell]; omega⟩
    · exact .inr ⟨by omega, by rw [World.size_setCell]; exact hk.2⟩
  · rcases hk with hk | hk
    · exact hp.lt k (.inl (.inl hk))
    · exact hk.2
  · rcases hk with hk | hk
    · exact hp.out (.inl (.inl hk))
    · have e := hk.2
      rw [World.size_setCell] at e
      by_cases hg : g < w1.heap.size
      · exact hp.out (.inl (.inr ⟨hk.1, hg⟩))
      · exact hp.out (.inr ⟨by omega, e⟩)
theorem St.now {g : Nat} {T : Nat → Prop} {D D' : Dsk} {vn vs vw y : Value} {w w1 w2 : World} (h : St g T D vn vs vw w w1) (hb : Below w1.heap.size w1 w2) (hy : Fils (since (since T w w1) w1 w2) w2 y D'.now)
    (e1 : D'.safe = D.safe) (e2 : D'.waits = D.waits) (e3 : D'.room = D.room) (e4 : D'.off = D.off) (e5 : D'.acts = D.acts) (e6 : D'.fuse = D.fuse) (e7 : D'.keep = D.keep) : St g T D' y vs vw w (w2.setCell ⟨g, 0, none⟩ y) :=
  st_of h hb (poke_now h.1 hb hy e1 e2 e3 e4 e5 e6 e7)
theorem St.safe {g : Nat} {T : Nat → Prop} {D D' : Dsk} {vn vs vw y : Value} {w w1 w2 : World} (h : St g T D vn vs vw w w1) (hb : Below w1.heap.size w1 w2) (hy : Fils (since (since T w w1) w1 w2) w2 y D'.safe)
    (e1 : D'.now = D.now) (e2 : D'.waits = D.waits) (e3 : D'.room = D.room) (e4 : D'.off = D.off) (e5 : D'.acts = D.acts) (e6 : D'.fuse = D.fuse) (e7 : D'.keep = D.keep) : St g T D' vn y vw w (w2.setCell ⟨g, 1, none⟩ y) :=
  st_of h hb (poke_safe h.1 hb hy e1 e2 e3 e4 e5 e6 e7)
theorem St.below {g : Nat} {T : Nat → Prop} {D : Dsk} {vn vs vw : Value} {w w1 w2 : World} (h : St g T D vn vs vw w w1) (hb : Below w1.heap.size w1 w2) : St g T D vn vs vw w w2 := by
  have hs1 := h.2.size
  have hs2 := hb.size
  refine ⟨(h.1.below hb).mono (fun k hk => hk.elim .inl (fun e => .inr ⟨e.1, by omega⟩)) (fun k hk => hk.elim (fun e => by have := h.1.lt k (.inl e); omega) (fun e => e.2)) (fun hk => ?_), ⟨hb.os.trans h.2.os, hb.tape.trans h.2.tape, hb.output.trans h.2.output, by omega, fun j hj hn => (hb.block j (by omega)).trans (h.2.block j hj hn)⟩⟩
  rcases hk with hk | hk
  · exact h.1.out (.inl hk)
  · exact h.1.out (.inr ⟨hk.1, h.1.glt⟩)
theorem Bd.act {D : Dsk} (h : Bd D) (ha : D.acts + 1 < 9223372036854775807) : Bd (actD D) := ⟨h.now, h.safe, h.waits, h.page, h.small, h.smalln, ha, by show D.fuse - 1 ≤ _; have := h.fuse; omega, h.keep, h.room, h.cnt⟩

set_option maxRecDepth 100000 in
set_option maxHeartbeats 1600000 in
theorem rmay_any (g : Nat) (T : Nat → Prop) (D : Dsk) (n : List UInt8) (w : World) (h : RefR w g T D) (bd : Bd D) :
    Calls Try.prog 62 #[.pointer (some ⟨g, 0, none⟩), .string ⟨n.toArray⟩] w (MakesR g T (mayD D n).1 (.int .i64 ((mayD D n).2 : Nat)) w) := by
  have HR := Lib.hid h
  obtain ⟨vn, vs, vw, h⟩ := h
  obtain ⟨A, c, rfl, hlc, hm'⟩ := h.now.len
  have c0 : w.cell? ⟨g, 0, none⟩ = some (.slice A D.now.length c) := cell_of_row _ _ _ _ _ _ h.row
  have KG : Hid (Calls Try.prog 58 #[.slice A D.now.length c, .string ⟨n.toArray⟩] w (GetIs T D.now n w)) := get_any T _ D.now n w h.lt h.now (by have := bd.now; omega)
  have H := Lib.hid h
  clear h
  go_enter Try.func62, Try.ntmps62
  go_wp2_with fail
  refine KG.out.mono ?_
  rintro e wG ⟨hbG, yG, rfl, hyG⟩
  obtain ⟨Ag, cg, rfl, hcg, hmg⟩ := hyG.len
  have HBG := Lib.hid hbG
  have hb1 : Below w.heap.size w (wG.alloc (.cells #[.string ⟨n.toArray⟩, .slice Ag (pagesF D.now n).length cg] 41)) := hbG.alloc hbG.size _
  have c4 : (wG.alloc (.cells #[.string ⟨n.toArray⟩, .slice Ag (pagesF D.now n).length cg] 41)).cell? ⟨g, 4, none⟩ = some (.bool D.off) := (hb1.cell (p := ⟨g, 4, none⟩) H.out.glt).trans (cell_of_row _ _ _ _ _ _ H.out.row)
  have HB1 := Lib.hid hb1
  clear hyG hbG hb1
  cases hoff : D.off
  · rw [hoff] at c4
    cases his : (getF D.now n).isSome
    · have HMD : Hid (mayD D n = (D, 5)) := by unfold Hid; unfold mayD; rw [if_neg (by rw [hoff]; simp), if_pos his]
      go_wp2_with fail
      go_ret
      rw [HMD.out]
      exact makesR_below HR.out HB1.out
    · have HMD : Hid (mayD D n = ends D (actD D) 0) := by unfold Hid; unfold mayD; rw [if_neg (by rw [hoff]; simp), if_neg (by rw [his]; simp)]
      have KA := Lib.hid (ract_any g T D _ (HR.out.below HB1.out) bd.acts bd.fuse)
      go_wp2_with fail
      refine KA.out.mono ?_
      rintro e w2 ⟨rfl, hr2, ha2, hs2⟩
      have HR2 : Hid (RefR w2 g (since T w w2) (actD D) ∧ Apart (fun k => T k ∨ k = g) w w2) := by
        refine ⟨hr2.grow (by rw [hs2]; exact HB1.out.size) HR.out.glt, ?_⟩
        have h1 : Apart (fun k => T k ∨ k = g) w _ := Apart.below HB1.out
        exact h1.trans (ha2.mono (fun k hk => .inl hk))
      have HA2 := Lib.hid hr2
      clear KA hr2 ha2 hs2
      by_cases hf : D.fuse = 1
      · have hd : decide (D.fuse = 1) = true := decide_eq_true hf
        have c7 : w2.cell? ⟨g, 7, none⟩ = some (.int .u64 D.keep) := by
          obtain ⟨a, b, c', h7⟩ := HA2.out
          exact cell_of_row _ _ _ _ _ _ h7.row
        have KL := Lib.hid (rlose_any g (since T w w2) (actD D) D.keep w2 HR2.out.1 bd.keep bd.waits bd.page bd.safe bd.now bd.small)
        have he : ends D (actD D) 0 = (lose (actD D) D.keep, 8) := by unfold ends; rw [if_pos hf]
        have HE : Hid (mayD D n = _) := HMD.out.trans he
        clear he hf
        go_wp2_with fail
        refine KL.out.mono ?_
        rintro e w3 ⟨rfl, hr3, ha3⟩
        have HM : Hid (MakesR g T (lose (actD D) D.keep) (.int .i64 8) w (.returned (.int .i64 8)) w3) := makesR_trans HR2.out ⟨rfl, hr3, ha3⟩
        clear KL hr3 ha3
        go_wp2_with fail
        go_ret
        rw [HE.out]
        exact HM.out
      · have hd : decide (D.fuse = 1) = false := decide_eq_false hf
        have he : ends D (actD D) 0 = (actD D, 0) := by unfold ends; rw [if_neg hf]
        have HE : Hid (mayD D n = _) := HMD.out.trans he
        clear he hf
        go_wp2_with fail
        go_ret
        rw [HE.out]
        exact ⟨rfl, HR2.out.1, HR2.out.2⟩
  · rw [hoff] at c4
    have HMD : Hid (mayD D n = (D, 8)) := by unfold Hid; unfold mayD; rw [if_pos hoff]
    go_wp2_with fail
    go_ret
    rw [HMD.out]
    exact makesR_below HR.out HB1.out

set_option maxRecDepth 100000 in
set_option maxHeartbeats 1600000 in
theorem rremove_any (g : Nat) (T : Nat → Prop) (D : Dsk) (n : List UInt8) (w : World) (h : RefR w g T D) (bd : Bd D) :
    Calls Try.prog 38 #[.pointer (some ⟨g, 0, none⟩), .string ⟨n.toArray⟩] w (MakesR g T (removeD D n).1 (.int .i64 ((removeD D n).2 : Nat)) w) := by
  have KM := Lib.hid (rmay_any g T D n w h bd)
  have HR := Lib.hid h
  have hbd : Hid ((mayD D n).2 = 0 → (mayD D n).1 = actD D) := fun h0 => by
    unfold mayD at h0 ⊢
    split at h0
    · simp at h0
    · split at h0
      · simp at h0
      · rename_i h1 h2
        rw [if_neg h1, if_neg h2]
        unfold ends at h0 ⊢
        split at h0
        · simp at h0
        · rename_i h3
          rw [if_neg h3]
  clear h
  have HRM : Hid (removeD D n = if (mayD D n).2 = 0 then (removes (mayD D n).1 n, 0) else mayD D n) := rfl
  generalize mayD D n = R at *
  go_enter Try.func38, Try.ntmps38
  go_wp2_with fail
  refine KM.out.mono ?_
  rintro e w1 ⟨rfl, hr1, ha1⟩
  by_cases h0 : R.2 = 0
  · have hq : ((R.2 : Int) == 0) = true := by rw [h0]; rfl
    have HE : Hid (removeD D n = (removes (actD D) n, 0)) := by unfold Hid; rw [HRM.out, if_pos h0, hbd.out h0]
    obtain ⟨vn, vs, vw, h⟩ := hr1
    rw [hbd.out h0] at h
    obtain ⟨A, c, rfl, hlc, hm'⟩ := h.now.len
    obtain ⟨As, cs, rfl, hls, hms⟩ := h.safe.len
    have c0 : w1.cell? ⟨g, 0, none⟩ = some (.slice A D.now.length c) := cell_of_row _ _ _ _ _ _ h.row
    have KW : Hid (Calls Try.prog 65 #[.slice A D.now.length c, .string ⟨n.toArray⟩] w1 (GivesF (since T w w1) (without D.now n) w1)) := without_any _ _ D.now n w1 h.lt h.now (by have := bd.now; omega)
    have H := Lib.hid h
    have HA : Hid (St g T (actD D) _ _ vw w w1) := ⟨h, ha1⟩
    clear h ha1
    go_wp2_with fail
    refine KW.out.mono ?_
    rintro e w2 ⟨hb2, y2, rfl, hy2⟩
    obtain ⟨A2, c2, rfl, hc2, hm2⟩ := hy2.len
    have P1 := Lib.hid (HA.out.now (D' := { actD D with now := without D.now n }) hb2 hy2 rfl rfl rfl rfl rfl rfl rfl)
    have d0 : w2.cell? ⟨g, 0, none⟩ = some (.slice A D.now.length c) := (hb2.cell (p := ⟨g, 0, none⟩) H.out.glt).trans c0
    have f0 : w2.frozen? ⟨g, 0, none⟩ = false := (H.out.below hb2).frozen 0
    have c1 : (w2.setCell ⟨g, 0, none⟩ (.slice A2 (without D.now n).length c2)).cell? ⟨g, 1, none⟩ = some (.slice As D.safe.length cs) := cell_of_row _ _ _ _ _ _ P1.out.1.row
    have KW2 := Lib.hid (without_any _ _ D.safe n _ P1.out.1.lt P1.out.1.safe (by have := bd.safe; omega))
    clear KW hb2 hy2 c0
    go_wp2_with fail
    generalize w2.setCell ⟨g, 0, none⟩ (.slice A2 (without D.now n).length c2) = w3 at *
    refine KW2.out.mono ?_
    rintro e w4 ⟨hb4, y4, rfl, hy4⟩
    obtain ⟨A4, c4, rfl, hc4, hm4⟩ := hy4.len
    have P2 := Lib.hid (P1.out.safe (D' := { actD D with now := without D.now n, safe := without D.safe n }) hb4 hy4 rfl rfl rfl rfl rfl rfl rfl)
    have d1 : w4.cell? ⟨g, 1, none⟩ = some (.slice As D.safe.length cs) := (hb4.cell (p := ⟨g, 1, none⟩) P1.out.1.glt).trans c1
    have f1 : w4.frozen? ⟨g, 1, none⟩ = false := (P1.out.1.below hb4).frozen 1
    have KD := Lib.hid (rdrop_any g _ _ n 0 _ P2.out.did.1 (by have := bd.waits; show D.waits.length ≤ _; omega) (fun x hx => by have := bd.page x hx; omega) (by omega))
    clear KW2 hb4 hy4 c1 d0 f0
    go_wp2_with fail
    generalize w4.setCell ⟨g, 1, none⟩ (.slice A4 (without D.safe n).length c4) = w5 at *
    refine KD.out.mono ?_
    rintro e w6 ⟨rfl, hr6, ha6⟩
    have HF : Hid (DidR g T (removes (actD D) n) w w6) := P2.out.did.trans ⟨hr6, ha6⟩
    clear KD hr6 ha6
    go_wp2_with fail
    go_ret
    rw [HE.out]
    exact ⟨rfl, HF.out⟩
  · have hq : ((R.2 : Int) == 0) = false := beq_eq_false_iff_ne.2 (by omega)
    have HE : Hid (removeD D n = R) := by unfold Hid; rw [HRM.out, if_neg h0]
    have HM : Hid (MakesR g T R.1 (.int .i64 (R.2 : Nat)) w (.returned (.int .i64 (R.2 : Nat))) w1) := ⟨rfl, hr1, ha1⟩
    clear hr1 ha1
    go_wp2_with fail
    go_ret
    rw [HE.out]
    exact HM.out

end Go.Proofs.Ytbepanhndpkdhaa.Cd

namespace Go.Proofs.Ytbepanhndpkdhaa.Cd
open Go.RowKit

theorem mayD_ok {D : Dsk} {n : List UInt8} (h0 : (mayD D n).2 = 0) : (mayD D n).1 = actD D := by
  unfold mayD at h0 ⊢
  split at h0
  · simp at h0
  · split at h0
    · simp at h0
    · rename_i h1 h2
      rw [if_neg h1, if_neg h2]
      unfold ends at h0 ⊢
      split at h0
      · simp at h0
      · rename_i h3
        rw [if_neg h3]

set_option maxRecDepth 100000 in
set_option maxHeartbeats 1600000 in
theorem rsync_any (g : Nat) (T : Nat → Prop) (D : Dsk) (n : List UInt8) (w : World) (h : RefR w g T D) (bd : Bd D) :
    Calls Try.prog 35 #[.pointer (some ⟨g, 0, none⟩), .string ⟨n.toArray⟩] w (MakesR g T (syncD D n).1 (.int .i64 ((syncD D n).2 : Nat)) w) := by
  have KM := Lib.hid (rmay_any g T D n w h bd)
  have HR := Lib.hid h
  have hbd := Lib.hid (@mayD_ok D n)
  clear h
  have HRM : Hid (syncD D n = if (mayD D n).2 = 0 then (syncs (mayD D n).1 n, 0) else mayD D n) := rfl
  generalize mayD D n = R at *
  go_enter Try.func35, Try.ntmps35
  go_wp2_with fail
  refine KM.out.mono ?_
  rintro e w1 ⟨rfl, hr1, ha1⟩
  by_cases h0 : R.2 = 0
  · have hq : ((R.2 : Int) == 0) = true := by rw [h0]; rfl
    have HE : Hid (syncD D n = (syncs (actD D) n, 0)) := by unfold Hid; rw [HRM.out, if_pos h0, hbd.out h0]
    obtain ⟨vn, vs, vw, h⟩ := hr1
    rw [hbd.out h0] at h
    obtain ⟨A, c, rfl, hlc, hm'⟩ := h.now.len
    obtain ⟨As, cs, rfl, hls, hms⟩ := h.safe.len
    have c0 : w1.cell? ⟨g, 0, none⟩ = some (.slice A D.now.length c) := cell_of_row _ _ _ _ _ _ h.row
    have KG : Hid (Calls Try.prog 58 #[.slice A D.now.length c, .string ⟨n.toArray⟩] w1 (GetIs (since T w w1) D.now n w1)) := get_any _ _ D.now n w1 h.lt h.now (by have := bd.now; omega)
    have HA : Hid (St g T (actD D) _ _ vw w w1) := ⟨h, ha1⟩
    clear h ha1
    go_wp2_with fail
    refine KG.out.mono ?_
    rintro e wG ⟨hbG, yG, rfl, hyG⟩
    obtain ⟨Ag, cg, rfl, hcg, hmg⟩ := hyG.len
    have hsz1 := HA.out.2.size
    have HB3 : Hid (Below w1.heap.size w1 (wG.alloc (.cells #[.string ⟨n.toArray⟩, .slice Ag (pagesF D.now n).length cg] 41))) := hbG.alloc hbG.size _
    have HR3 : Hid ((wG.alloc (.cells #[.string ⟨n.toArray⟩, .slice Ag (pagesF D.now n).length cg] 41)).heap[wG.heap.size]? = some (.cells #[.string ⟨n.toArray⟩, .slice Ag (pagesF D.now n).length cg] 41)) := heap_alloc_new _ _
    have HY3 : Hid (StrsT (since T w w1) (wG.alloc (.cells #[.string ⟨n.toArray⟩, .slice Ag (pagesF D.now n).length cg] 41)) (.slice Ag (pagesF D.now n).length cg) (pagesF D.now n)) := hyG.below (B := wG.heap.size) (fun j hj => by have := HA.out.1.lt j hj; have := hbG.size; omega) ((Below.refl _ _).alloc (Nat.le_refl _) _)
    clear KG hbG hyG c0
    go_wp2_with fail
    generalize wG.heap.size = fb at *
    generalize wG.alloc (.cells #[.string ⟨n.toArray⟩, .slice Ag (pagesF D.now n).length cg] 41) = W3 at *
    have P3 := Lib.hid (HA.out.below HB3.out)
    have KP : Hid (Calls Try.prog 60 #[.slice As D.safe.length cs, .agg #[.string ⟨n.toArray⟩, .slice Ag (pagesF D.now n).length cg]] W3.drew (GivesF (since T w W3) (putF D.safe ⟨n, pagesF D.now n⟩) W3.drew)) :=
      put_any (since T w W3) _ _ D.safe ⟨n, pagesF D.now n⟩ W3.drew (fun j hj => P3.out.1.lt j hj) (P3.out.1.safe.below P3.out.1.lt (Below.refl _ _).drew) ((HY3.out.mono (fun j hj => hj.elim .inl (fun e => .inr ⟨e.1, by have := HB3.out.size; omega⟩))).below P3.out.1.lt (Below.refl _ _).drew) (by have := bd.safe; omega)
    have eg : W3.cell? ⟨g, 1, none⟩ = some (.slice As D.safe.length cs) := cell_of_row _ _ _ _ _ _ P3.out.1.row
    have ef : W3.cell? ⟨fb, 0, none⟩ = some (.string ⟨n.toArray⟩) := cell_of_row _ _ _ _ _ _ HR3.out
    have ef1 : W3.cell? ⟨fb, 1, none⟩ = some (.slice Ag (pagesF D.now n).length cg) := cell_of_row _ _ _ _ _ _ HR3.out
    go_region_law (first
      | (go_simp
         go_at_call 60
         refine KP.out.mono ?_
         rintro e wP ⟨hbP, yP, rfl, hyP⟩
         obtain ⟨AP, cP, rfl, hcP, hmP⟩ := hyP.len
         have HYP := Lib.hid hyP
         have HBP : Hid (Below W3.heap.size W3 wP) := (Below.refl _ _).drew.trans hbP
         have eg3 : wP.cell? ⟨g, 1, none⟩ = some (.slice As D.safe.length cs) := (HBP.out.cell (p := ⟨g, 1, none⟩) P3.out.1.glt).trans eg
         have fg3 : wP.frozen? ⟨g, 1, none⟩ = false := (P3.out.1.below HBP.out).frozen 1
         clear hyP hbP))
    all_goals
      have P4 := Lib.hid (P3.out.safe (D' := { actD D with safe := putF D.safe ⟨n, pagesF D.now n⟩ }) HBP.out HYP.out rfl rfl rfl rfl rfl rfl rfl)
      have KD := Lib.hid (rdrop_any g _ _ n 0 _ P4.out.did.1 (by have := bd.waits; show D.waits.length ≤ _; omega) (fun x hx => by have := bd.page x hx; omega) (by omega))
      clear eg ef ef1 eg3 fg3
      go_wp2_with fail
      generalize wP.setCell ⟨g, 1, none⟩ (.slice AP (putF D.safe ⟨n, pagesF D.now n⟩).length cP) = w5 at *
      refine KD.out.mono ?_
      rintro e w6 ⟨rfl, hr6, ha6⟩
      have HF : Hid (DidR g T (syncs (actD D) n) w w6) := P4.out.did.trans ⟨hr6, ha6⟩
      clear KD hr6 ha6
      go_wp2_with fail
      go_ret
      rw [HE.out]
      exact ⟨rfl, HF.out⟩
  · have hq : ((R.2 : Int) == 0) = false := beq_eq_false_iff_ne.2 (by omega)
    have HE : Hid (syncD D n = R) := by unfold Hid; rw [HRM.out, if_neg h0]
    have HM : Hid (MakesR g T R.1 (.int .i64 (R.2 : Nat)) w (.returned (.int .i64 (R.2 : Nat))) w1) := ⟨rfl, hr1, ha1⟩
    clear hr1 ha1
    go_wp2_with fail
    go_ret
    rw [HE.out]
    exact HM.out

set_option maxRecDepth 100000 in
set_option maxHeartbeats 1600000 in
theorem rread_any (g : Nat) (T : Nat → Prop) (D : Dsk) (n : List UInt8) (i : Int) (w : World) (h : RefR w g T D) (bd : Bd D) (hi : (Lit.int .i64 i).wf = true) :
    Calls Try.prog 34 #[.pointer (some ⟨g, 0, none⟩), .string ⟨n.toArray⟩, .int .i64 i] w (Gives (.tuple #[.string ⟨(readD D n i).1.toArray⟩, .int .i64 ((readD D n i).2 : Nat)]) w) := by
  obtain ⟨vn, vs, vw, h⟩ := h
  obtain ⟨A, c, rfl, hlc, hm'⟩ := h.now.len
  have c0 : w.cell? ⟨g, 0, none⟩ = some (.slice A D.now.length c) := cell_of_row _ _ _ _ _ _ h.row
  have c4 : w.cell? ⟨g, 4, none⟩ = some (.bool D.off) := cell_of_row _ _ _ _ _ _ h.row
  have KG : Hid (Calls Try.prog 58 #[.slice A D.now.length c, .string ⟨n.toArray⟩] w (GetIs T D.now n w)) := get_any T _ D.now n w h.lt h.now (by have := bd.now; omega)
  have H := Lib.hid h
  have hbi := bounds_i64 hi
  have hpl := bd.smalln.pages n
  clear h
  cases hoff : D.off
  · rw [hoff] at c4
    by_cases hr : i < 0 ∨ ((pagesF D.now n).length : Int) ≤ i
    · have HE : Hid (readD D n i = ([], 5)) := by unfold Hid readD; rw [if_neg (by rw [hoff]; simp), if_pos hr]
      have hr' : i < 0 ∨ (¬ i < 0 ∧ ((pagesF D.now n).length : Int) ≤ i) := by omega
      clear hoff hr
      rcases hr' with h1 | ⟨h1, h2⟩
      all_goals
        go_enter Try.func34, Try.ntmps34
        go_wp2_with fail
        refine KG.out.mono ?_
        rintro e wG ⟨hbG, yG, rfl, hyG⟩
        obtain ⟨Ag, cg, rfl, hcg, hmg⟩ := hyG.len
        have HB3 : Hid (Below w.heap.size w (wG.alloc (.cells #[.string ⟨n.toArray⟩, .slice Ag (pagesF D.now n).length cg] 41))) := hbG.alloc hbG.size _
        clear hyG hbG
        go_wp2_with fail
        go_ret2
        rw [HE.out]
        exact ⟨rfl, HB3.out⟩
    · obtain ⟨k, rfl⟩ := Int.eq_ofNat_of_zero_le (a := i) (by omega)
      have hk : k < (pagesF D.now n).length := by omega
      have HE : Hid (readD D n (k : Nat) = ((pagesF D.now n)[k], 0)) := by
        unfold Hid readD
        rw [if_neg (by rw [hoff]; simp), if_neg hr, Int.toNat_natCast, List.getD_eq_getElem?_getD, List.getElem?_eq_getElem hk]
        rfl
      have hk' : (k : Int) < (pagesF D.now n).length := by omega
      clear hoff hr
      go_enter Try.func34, Try.ntmps34
      go_wp2_with fail
      refine KG.out.mono ?_
      rintro e wG ⟨hbG, yG, rfl, hyG⟩
      obtain ⟨b, off, cg, rfl, hcg, hmg, hTb, hcells⟩ := hyG.at (by omega)
      have HB3 : Hid (Below w.heap.size w (wG.alloc (.cells #[.string ⟨n.toArray⟩, .slice (some ⟨b, off, none⟩) (pagesF D.now n).length cg] 41))) := hbG.alloc hbG.size _
      have hc := hcells k hk
      have hc3 : (wG.alloc (.cells #[.string ⟨n.toArray⟩, .slice (some ⟨b, off, none⟩) (pagesF D.now n).length cg] 41)).cell? ⟨b, off + k, none⟩ = some (.string ⟨((pagesF D.now n)[k]).toArray⟩) := ((Below.refl wG.heap.size wG).alloc (Nat.le_refl _) (.cells #[.string ⟨n.toArray⟩, .slice (some ⟨b, off, none⟩) (pagesF D.now n).length cg] 41)).cell (p := ⟨b, off + k, none⟩) (by have := H.out.lt b hTb; have := hbG.size; show b < _; omega) |>.trans hc
      clear hyG hbG hcells hc
      go_wp2_with fail
      go_ret2
      rw [HE.out]
      exact ⟨rfl, HB3.out⟩
  · rw [hoff] at c4
    have HE : Hid (readD D n i = ([], 8)) := by unfold Hid readD; rw [if_pos hoff]
    clear hoff
    go_enter Try.func34, Try.ntmps34
    go_wp2_with fail
    go_ret2
    rw [HE.out]
    exact ⟨rfl, Below.refl _ _⟩

end Go.Proofs.Ytbepanhndpkdhaa.Cd
