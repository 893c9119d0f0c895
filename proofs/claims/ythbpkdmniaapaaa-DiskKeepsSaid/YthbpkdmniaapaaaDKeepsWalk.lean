/-
  DiskKeeps answers true. Conditions: none.
-/
import Derived.Test.YthbpkdmniaapaaaAliveD
import Derived.Deep.QuietTactic
import Derived.BigQuiet
namespace Go.Proofs.Ythbpkdmniaapaaa.DiskKeeps
open Go.RowKit Go.Proofs.Ythbpkdmniaapaaa.Cd

/-- The row's first n cells are bytes. -/
def Full (w : World) (g n : Nat) : Prop := ∃ cs T fr, w.heap[g]? = some (.cells cs T fr) ∧ fr.1 = fr.2 ∧ ∀ j, j < n → ∃ x, cs[j]? = some (.int .u8 x)
theorem Full.set {w : World} {g n : Nat} (h : Full w g n) (i : Nat) (x : Int) : Full (w.setCell ⟨g, i, none⟩ (.int .u8 x)) g n := by
  obtain ⟨cs, T, fr, hh, hf, hc⟩ := h
  refine ⟨cs.setIfInBounds i (.int .u8 x), T, fr, by simp [World.setCell, Array.getElem?_modify, hh], hf, fun j hj => ?_⟩
  by_cases e : i = j
  · subst e
    obtain ⟨y, hy⟩ := hc i hj
    have hlt := (Array.getElem?_eq_some_iff.1 hy).1
    exact ⟨x, by rw [Array.getElem?_setIfInBounds, if_pos rfl, if_pos hlt]⟩
  · obtain ⟨y, hy⟩ := hc j hj
    exact ⟨y, by rw [Array.getElem?_setIfInBounds, if_neg e]; exact hy⟩
theorem Full.cell {w : World} {g n k : Nat} (h : Full w g n) (hk : k < n) : ∃ y, w.cell? ⟨g, k, none⟩ = some (.int .u8 y) ∧ w.frozen? ⟨g, k, none⟩ = false := by
  obtain ⟨cs, T, fr, hh, hf, hc⟩ := h
  obtain ⟨y, hy⟩ := hc k hk
  refine ⟨y, by rw [cell_of_row w g k cs T fr hh]; exact hy, ?_⟩
  simp [World.frozen?, hh]
  omega

def kp : List UInt8 → Pd := fun bs => ticP (putP (freshP 4) [102] 0 (pad bs))
theorem kp_write {bs : List UInt8} (h : bs.length ≤ 512) : writeR (freshP 4) [102] 0 bs = (kp bs, 0) := by
  unfold writeR
  rw [if_neg (by decide), if_neg (by omega), if_neg (by decide), if_neg (by decide), if_neg (by decide)]
  rfl
theorem kp_read (bs : List UInt8) : readR (kp bs) [102] 0 = (pad bs, 0) := rfl
theorem kp_count : countR (freshP 4) [102] ≤ (freshP 4).nn := by decide

/-- The first bytes of a page that was read. -/
theorem page_sl {w : World} {g : Nat} {bs : List UInt8} (hl : bs.length ≤ 512) (T : TypeId) (hg : w.heap[g]? = some (.cells (vb (pad bs)).toArray T)) : Sl w w.heap.size (.slice (some ⟨g, 0, none⟩) bs.length 512) bs := by
  refine ⟨_, 512, rfl, hl, by decide, (fun h => by cases h), fun ad e _ => ?_, fun ad e j u hu => ?_⟩
  · injection e with e
    subst e
    exact (Array.getElem?_eq_some_iff.1 hg).1
  · injection e with e
    subst e
    rw [Addr.add_lit, Nat.zero_add, cell_of_row _ _ _ _ _ _ hg]
    have hj : j < (vb bs).length := (List.getElem?_eq_some_iff.1 hu).1
    unfold pad
    rw [vb_append, List.getElem?_toArray, List.getElem?_append_left hj]
    exact hu

theorem below_drewN (B : Nat) (w : World) (n : Nat) : Below B w (w.drewN n) := ⟨rfl, rfl, rfl, Nat.le_refl _, fun _ _ => rfl⟩

theorem read_kept {bs : List UInt8} {w w' : World} {e : Ending} (h : ReadIs (kp bs) [102] 0 w e w') :
    e = .returned (.tuple #[.slice (some ⟨w.heap.size, 0, none⟩) 512 512, .int .i64 0]) ∧ w' = w.alloc (.cells (vb (pad bs)).toArray 81) := by
  rcases h with ⟨p, hp, hl, he, hw⟩ | ⟨n, hn, hp, _⟩
  · rw [kp_read] at hp
    injection hp with hp
    rw [hp]
    exact ⟨he, hw⟩
  · rw [kp_read] at hp
    injection hp with _ hp
    omega

theorem Mine.apart_low {w w' : World} {B g N : Nat} {P : Pd} {T : Nat → Prop} (h : Mine w B g N P) (ha : Apart T w w') (hT : ∀ k, T k → k < B) : Mine w' B g N P := by
  obtain ⟨h1, S, h2, h3⟩ := h
  exact ⟨Nat.le_trans h1 ha.size, S, h2.apart ha (fun k hk hk2 => by have := h3 k hk; have := hT k hk2; omega), h3⟩

/-- Nothing turned but the slice's own block. -/
def only (A : Option Addr) : Nat → Prop := fun k => ∃ ad, A = some ad ∧ ad.block = k

set_option maxRecDepth 100000 in
set_option maxHeartbeats 800000 in
theorem much (v : Value) (bs : List UInt8) (w : World) (h : Sl w w.heap.size v bs) (hbig : 512 < bs.length) : Calls Try.prog 7 #[v] w (Gives (.bool true) w) := by
  obtain ⟨A, c, rfl, h2, h3⟩ := h.len
  have h3 : c ≤ 9223372036854775807 := h3
  clear h
  go_enter Try.func7, Try.ntmps7
  go_wp2_with fail
  refine (alive_any w).mono ?_
  rintro e w1 ⟨rfl, hb1⟩
  go_wp2_with fail
  go_ret
  exact ⟨rfl, hb1⟩

set_option maxRecDepth 100000 in
set_option maxHeartbeats 4000000 in
theorem main (v : Value) (bs : List UInt8) (w : World) (h : Sl w w.heap.size v bs) (hb : bs.length ≤ 512) :
    Calls Try.prog 7 #[v] w (Gives (.bool true) w) := by
  obtain ⟨A, c, rfl, h2, h3⟩ := h.len
  have h3 : c ≤ 9223372036854775807 := h3
  have H := Lib.hid h
  clear h
  go_enter Try.func7, Try.ntmps7
  go_wp2_with fail
  refine (alive_any w).mono ?_
  rintro e w1 ⟨rfl, hb1⟩
  have hs1 := hb1.size
  have HB1 := Lib.hid hb1
  have H1 := Lib.hid ((H.out.below hb1).more hs1)
  clear hb1
  go_wp2_with (at_builtin; refine wp_append_sl rfl _ _ rfl w1.heap.size _ [] rfl (own_new w1 _ (Nat.le_refl _)) (by simp) _ _ bs rfl (H1.out.below ((Below.refl _ _).alloc (Nat.le_refl _) _)) (by simp; omega) ?_)
  intro v2 w2 ho2 hb2
  have hba : Below w1.heap.size w1 w2 := ((Below.refl _ _).alloc (Nat.le_refl _) _).trans hb2
  have hs2 := hba.size
  have ho2 : Own w2 w1.heap.size v2 bs := ho2
  have HO2 := Lib.hid ho2
  have HB2 := Lib.hid (HB1.out.trans (hba.mono hs1))
  obtain ⟨A2, c2, rfl, h22, h23⟩ := ho2.sl.len
  have h23 : c2 ≤ 9223372036854775807 := h23
  have HT := Lib.hid (fun (ad : Addr) (e : A2 = some ad) => ho2.lt ad.block (by rw [e]; rfl))
  clear ho2 hb2 hba HB1 H1
  go_wp2_with fail
  refine (new_mine 4 w2 (by omega) (by omega)).mono ?_
  rintro e w3 ⟨g, rfl, hm3, hb3⟩
  have HM3 := Lib.hid hm3
  have hs3 := hb3.size
  have HO3 := Lib.hid (HO2.out.keep hb3)
  have HB3 := Lib.hid (HB2.out.trans (hb3.mono HB2.out.size))
  clear hm3 hb3
  go_wp2_with fail
  have hwr : Calls Try.prog 20 #[.pointer (some ⟨g, 0, none⟩), .string ⟨([102] : List UInt8).toArray⟩, .int .i64 0, .slice A2 bs.length c2] w3 (Did w2.heap.size g 4 (kp bs) (.int .i64 0) w3) := by
    obtain ⟨hB, S, hR, hS⟩ := HM3.out
    have := write_any g 0 S (freshP 4) [102] bs 0 _ w3 hR (by simp) HO3.out.sl (fun Ax n cx e hA => by
      injection e with e
      have h1 := (HT.out Ax e).2
      have h2 := hS _ hA
      omega) (by omega) (by omega) kp_count (fun h => absurd h (by decide))
    rw [kp_write hb] at this
    exact this.mono fun e w' hm => did_of hB hS hm
  have HWR := Lib.hid hwr
  clear hwr
  refine HWR.out.mono ?_
  rintro e w4 ⟨rfl, hm4, hb4⟩
  have hs4 := hb4.size
  have hz4 := hm4.1
  have HM4 := Lib.hid hm4
  have HO4 : Hid (Own w4 0 (.slice A2 bs.length c2) bs) := row_kept (HO3.out.lower (Nat.zero_le _)) (fun b hb => hb4.block b (HO2.out.lt b hb).2)
  have HB4 := Lib.hid (HB3.out.trans (hb4.mono HB2.out.size))
  clear hm4 hb4 HM3 HO3 HB3 HB2 HWR
  have HF4 : Hid (∀ ad, A2 = some ad → 0 < bs.length → ∃ g0, ad = ⟨g0, 0, none⟩ ∧ g0 < w2.heap.size ∧ w1.heap.size ≤ g0 ∧ Full w4 g0 bs.length) := fun ad e h0 => by
    obtain ⟨gf, cap, cur, ev, hgw, hgl, hblk, hcap, hmx, hcur⟩ := own_block HO4.out h0
    injection ev with e1 e2 e3
    rw [e] at e1
    injection e1 with e1
    subst e1
    refine ⟨gf, rfl, (HT.out _ e).2, (HT.out _ e).1, cur, _, _, hblk, rfl, fun j hj => ?_⟩
    exact ⟨_, hcur j _ (vb_at bs j hj)⟩
  have HN4 : Hid (0 < bs.length → ∃ ad, A2 = some ad) := fun h0 => by
    obtain ⟨gf, cap, cur, ev, hgw, hgl, hblk, hcap, hmx, hcur⟩ := own_block HO4.out h0
    injection ev with e1 e2 e3
    exact ⟨_, e1⟩
  go_wp2_with fail
  go_loopw [25] (fun i wr => ∃ m : Nat, i = .int .i64 m ∧ m ≤ bs.length ∧ Hid (Apart (only A2) w4 wr) ∧ Hid (∀ ad, A2 = some ad → 0 < bs.length → ∃ g0, ad = ⟨g0, 0, none⟩ ∧ Full wr g0 bs.length)) (fun i _ => bs.length - (intOf i).toNat)
  case atStart => exact ⟨0, rfl, by omega, Apart.refl _ _, fun ad e h0 => by obtain ⟨g0, h1, _, _, h4⟩ := HF4.out ad e h0; exact ⟨g0, h1, h4⟩⟩
  case round =>
    obtain ⟨m, rfl, hm, hap, hfull⟩ := hrel
    by_cases hmlt : m < bs.length
    · obtain ⟨ad, hA⟩ := HN4.out (by omega)
      obtain ⟨g0, he, hfl⟩ := hfull.out ad hA (by omega)
      subst he
      subst hA
      obtain ⟨y, hfc, hff⟩ := hfl.cell hmlt
      clear hfl
      go_wp2_with fail
      go_roundw
      case rel =>
        refine ⟨m + 1, by go_num, by omega, apart_setCell (a := ⟨g0, m, none⟩) hap.out ⟨_, rfl, rfl⟩ _, fun ad e h0 => ?_⟩
        obtain ⟨g1, h1, h2⟩ := hfull.out ad e h0
        subst h1
        injection e with e
        injection e with e
        subst e
        exact ⟨_, rfl, h2.set m _⟩
      case measure => simp [intOf]; omega
    · have HB5 := Lib.hid (HB4.out.trans (below_of_apart (B := w.heap.size) hap.out (by have := HB4.out.size; omega) (fun k ⟨ad, e, hk⟩ => by have := (HT.out ad e).1; omega)))
      have HM5 := Lib.hid (Mine.apart_low HM4.out hap.out (fun k ⟨ad, e, hk⟩ => by have := (HT.out ad e).2; omega))
      clear hfull hap HM4 HB4 HF4 HN4 HO4 HT HO2
      go_wp2_with fail
      refine (read_mine w2.heap.size g 4 (kp bs) [102] 0 wr HM5.out (by simp) rfl).mono ?_
      obtain ⟨w5, hw5⟩ : ∃ x, x = wr := ⟨_, rfl⟩
      subst hw5
      intro e w6 hr6
      obtain ⟨rfl, rfl⟩ := read_kept hr6
      have hF6 : Full (w5.alloc (.cells (vb (pad bs)).toArray 81)) w5.heap.size 512 := ⟨_, _, _, heap_alloc_new _ _, rfl, fun j hj => by
        have hjl : j < (pad bs).length := by rw [pad_len hb]; exact hj
        exact ⟨_, by rw [List.getElem?_toArray]; exact vb_at _ j hjl⟩⟩
      have hB6 : Below w5.heap.size w5 (w5.alloc (.cells (vb (pad bs)).toArray 81)) := (Below.refl _ _).alloc (Nat.le_refl _) _
      obtain ⟨b6, hb6⟩ : ∃ b, w5.heap.size = b := ⟨_, rfl⟩
      have hz6 : (w5.alloc (.cells (vb (pad bs)).toArray 81)).heap.size = b6 + 1 := by simp [hb6]
      generalize w5.alloc (.cells (vb (pad bs)).toArray 81) = w6 at *
      rw [hb6] at hF6 hB6 ⊢
      go_wp2_with fail
      go_loopw [42] (fun i wr => ∃ m : Nat, i = .int .i64 m ∧ m ≤ 512 ∧ Hid (Apart (fun k => k = b6) w6 wr) ∧ Hid (Full wr b6 512)) (fun i _ => 512 - (intOf i).toNat)
      case atStart => exact ⟨0, rfl, by omega, Apart.refl _ _, hF6⟩
      case round =>
        obtain ⟨m, rfl, hm, hap, hfull⟩ := hrel
        by_cases hmlt : m < 512
        · obtain ⟨y, hfc, hff⟩ := hfull.out.cell hmlt
          go_wp2_with fail
          go_roundw
          case rel => exact ⟨m + 1, by go_num, by omega, apart_setCell (a := ⟨b6, m, none⟩) hap.out rfl _, hfull.out.set m _⟩
          case measure => simp [intOf]; omega
        · have hB8 : Below b6 w5 wr := hB6.trans (below_of_apart hap.out (by omega) (fun k hk => by omega))
          have HM8 := Lib.hid (HM5.out.below (by rw [hb6]; exact hB8))
          have HB8 := Lib.hid (HB5.out.trans (hB8.mono (by have := HB5.out.size; omega)))
          clear hfull hap HM5 HB5 hB8 hB6 hF6
          go_wp2_with fail
          refine (read_mine w2.heap.size g 4 (kp bs) [102] 0 wr HM8.out (by simp) rfl).mono ?_
          obtain ⟨w8, hw8⟩ : ∃ x, x = wr := ⟨_, rfl⟩
          subst hw8
          intro e w9 hr9
          obtain ⟨rfl, rfl⟩ := read_kept hr9
          have HB9 : Hid (Below w.heap.size w (w8.alloc (.cells (vb (pad bs)).toArray 81))) := HB8.out.alloc HB8.out.size _
          have Y9 : Hid (Sl (w8.alloc (.cells (vb (pad bs)).toArray 81)) (w8.alloc (.cells (vb (pad bs)).toArray 81)).heap.size (.slice (some ⟨w8.heap.size, 0, none⟩) bs.length 512) bs) := page_sl hb _ (heap_alloc_new _ _)
          have K9 := Lib.hid (H.out.below HB9.out)
          obtain ⟨b9, hb9⟩ : ∃ b, w8.heap.size = b := ⟨_, rfl⟩
          generalize w8.alloc (.cells (vb (pad bs)).toArray 81) = w9 at *
          rw [hb9] at Y9 ⊢
          have hq : (bs == bs) = true := by simp
          have hc1 := fun n => run_text_of (w9.drewN n) _ _ _ (Y9.out.below (below_drewN _ _ n))
          have hc2 := fun n => run_text_of (w9.drewN n) _ _ _ (K9.out.below (below_drewN _ _ n))
          go_wp2_with fail
          go_quiet (fail)
          all_goals
            go_wp2_with fail
            go_ret
            exact ⟨rfl, HB9.out.trans (below_drewN _ _ _)⟩

theorem walk (v : Value) (bs : List UInt8) (w : World) (h : Sl w w.heap.size v bs) : Calls Try.prog 7 #[v] w (Gives (.bool true) w) := by
  by_cases h1 : 512 < bs.length
  · exact much v bs w h h1
  · exact main v bs w h (by omega)

end Go.Proofs.Ythbpkdmniaapaaa.DiskKeeps
