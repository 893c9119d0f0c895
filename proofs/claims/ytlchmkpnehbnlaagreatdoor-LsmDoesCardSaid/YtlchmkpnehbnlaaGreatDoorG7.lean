/-
  Of: a table of writes. Conditions: none.
-/
import Derived.Test.YtlchmkpnehbnlaaGreatDoorG4
import Derived.Lib.Hide
import Derived.Deep.RegionLaw
import Derived.Deep.RegionHeld3
import Derived.Deep.DeepMust
namespace Go.Proofs.YtlchmkpnehbnlaaGreatDoor.Cd
open Go.RowKit Go.Maps

def Made (w : World) (T : List Wr) (e : Ending) (w' : World) : Prop := ∃ g b, e = .returned (.pointer (some ⟨g, 0, none⟩)) ∧ w.heap.size ≤ g ∧ g < w'.heap.size ∧ w'.cell? ⟨g, 0, none⟩ = some (.map (some b)) ∧ w.heap.size ≤ b ∧ b ≠ g ∧ TabM w' b T ∧ Below w.heap.size w w'
theorem Made.tab {w w' : World} {T : List Wr} {e : Ending} (h : Made w T e w') : ∃ v, e = .returned v ∧ (∃ g, v = .pointer (some ⟨g, 0, none⟩)) ∧ TabV w' v T ∧ Below w.heap.size w w' := by
  obtain ⟨g, b, h1, h2, h3, h4, h5, h6, h7, h8⟩ := h
  exact ⟨_, h1, ⟨g, rfl⟩, .inr ⟨g, rfl, b, h3, h4, h7⟩, h8⟩

set_option maxRecDepth 100000 in
set_option maxHeartbeats 3200000 in
theorem tof_any (v : Value) (l : List Wr) (w : World) (h : TbIn w w.heap.size v l) (hf : FitW l) (hl : l.length ≤ 1099511627776) :
    Calls Tryz.prog 32 #[v] w (Made w (ofW l)) := by
  obtain ⟨A, c, rfl, hc1, hc2⟩ := h.len
  have H := Lib.hid h
  have HF := Lib.hid hf
  clear h hf
  have hmm := @run_makeMap Tryz.prog
  have hm0 := TabM.made w
  have hb0 : Below w.heap.size w ((w.alloc (.map #[] 0)).alloc (.cells #[.map (some w.heap.size)] 106)) := ((Below.refl _ _).alloc (Nat.le_refl _) _).alloc (by simp) _
  have hm1 := hm0.below (w' := (w.alloc (.map #[] 0)).alloc (.cells #[.map (some w.heap.size)] 106)) ((Below.refl _ _).alloc (Nat.le_refl _) _)
  have hz1 : ((w.alloc (.map #[] 0)).alloc (.cells #[.map (some w.heap.size)] 106)).heap.size = w.heap.size + 2 := by simp
  have hr1 : ((w.alloc (.map #[] 0)).alloc (.cells #[.map (some w.heap.size)] 106)).heap[w.heap.size + 1]? = some (.cells #[.map (some w.heap.size)] 106) := by
    have := heap_alloc_new (w.alloc (.map #[] 0)) (.cells #[.map (some w.heap.size)] 106)
    rwa [show (w.alloc (.map #[] 0)).heap.size = w.heap.size + 1 by simp] at this
  have HB0 := Lib.hid hb0
  have HM1 := Lib.hid hm1
  have HR1 := Lib.hid hr1
  clear hm0 hm1 hb0 hr1
  go_enter Tryz.func32, Tryz.ntmps32
  go_wp2_with fail
  generalize (w.alloc (.map #[] 0)).alloc (.cells #[.map (some w.heap.size)] 106) = w0 at *
  go_loopw [11] (fun i wr => ∃ k : Nat, i = .int .i64 k ∧ k ≤ l.length ∧ Hid (TabM wr w.heap.size (ofW (l.take k))) ∧ Hid (Below w.heap.size w wr) ∧ Hid (wr.heap[w.heap.size + 1]? = some (.cells #[.map (some w.heap.size)] 106)) ∧ w.heap.size + 2 ≤ wr.heap.size) (fun i _ => l.length - (intOf i).toNat)
  case atStart => exact ⟨0, rfl, by omega, HM1.out, HB0.out, HR1.out, by omega⟩
  case round =>
    obtain ⟨k, rfl, hk, hmp, hbl, hrw, hsz⟩ := hrel
    by_cases hlt : k < l.length
    · obtain ⟨p, hpk⟩ : ∃ p, l[k]? = some p := ⟨l[k], List.getElem?_eq_getElem hlt⟩
      obtain ⟨b2, off2, e2, hB2, d0, d1, d2⟩ := (H.out.below hbl.out).at hpk
      subst e2
      have hpf := HF.out p (List.mem_of_getElem? hpk)
      have HPK := Lib.hid hpk
      have hln : (ofW (l.take k)).length < maxLen := by have := ofW_len (l.take k); rw [List.length_take] at this; simp only [maxLen]; omega
      clear hpk
      obtain ⟨key, val, gone⟩ := p
      dsimp only at d0 d1 d2
      cases gone
      · have hba : ∀ (o : Obj) (p : Addr), p.block < wr.heap.size → (wr.alloc o).cell? p = wr.cell? p := fun o p hp => ((Below.refl wr.heap.size wr).alloc (Nat.le_refl _) o).cell hp
        have cg : ∀ o : Obj, (wr.alloc o).cell? ⟨w.heap.size + 1, 0, none⟩ = some (.map (some w.heap.size)) := fun o => (hba o ⟨w.heap.size + 1, 0, none⟩ (by show w.heap.size + 1 < _; omega)).trans (cell_of_row _ _ 0 _ _ _ hrw.out)
        have hm3 := hmp.out.below (w' := (wr.alloc (.cells #[.string ⟨key.toArray⟩, .string ⟨val.toArray⟩, .bool false] 52))) ((Below.refl _ _).alloc (Nat.le_refl _) _)
        have hb3 : Below w.heap.size w (wr.alloc (.cells #[.string ⟨key.toArray⟩, .string ⟨val.toArray⟩, .bool false] 52)) := hbl.out.trans (((Below.refl _ _).alloc (Nat.le_refl _) _).mono (by omega))
        have hr3 : (wr.alloc (.cells #[.string ⟨key.toArray⟩, .string ⟨val.toArray⟩, .bool false] 52)).heap[w.heap.size + 1]? = some (.cells #[.map (some w.heap.size)] 106) := (((Below.refl _ _).alloc (Nat.le_refl wr.heap.size) (.cells #[.string ⟨key.toArray⟩, .string ⟨val.toArray⟩, .bool false] 52)).block (w.heap.size + 1) (by omega)).trans hrw.out
        obtain ⟨w3, hrun3, hm4, hg4⟩ := (hm3.below (Below.refl _ _).drew).put hln ⟨key, val, false⟩ rfl hpf
        dsimp only at hrun3
        have HM4 := Lib.hid hm4
        have HB4 := Lib.hid ((hb3.trans (Below.refl _ _).drew).grown hg4 (by have := hb3.size; exact this) (fun k e => by injection e with e; omega))
        have HR4 := Lib.hid ((hg4.block (w.heap.size + 1) (Array.getElem?_eq_some_iff.1 hr3).1 (fun e => by injection e with e; omega)).trans hr3)
        have hz4 : w.heap.size + 2 ≤ w3.heap.size := Nat.le_trans (Nat.le_trans hsz (by simp [World.drew])) hg4.size
        clear hba hm3 hm4 hb3 hr3 hg4
        go_wp2_with fail
        go_region
        all_goals go_wp2_with fail
        all_goals go_roundw
        case rel => exact ⟨k + 1, by go_num, by omega, (by rw [ofW_take HPK.out]; exact HM4.out), HB4.out, HR4.out, hz4⟩
        case measure => simp [intOf]; omega
      · have hba : ∀ (o : Obj) (p : Addr), p.block < wr.heap.size → (wr.alloc o).cell? p = wr.cell? p := fun o p hp => ((Below.refl wr.heap.size wr).alloc (Nat.le_refl _) o).cell hp
        have cg : ∀ o : Obj, (wr.alloc o).cell? ⟨w.heap.size + 1, 0, none⟩ = some (.map (some w.heap.size)) := fun o => (hba o ⟨w.heap.size + 1, 0, none⟩ (by show w.heap.size + 1 < _; omega)).trans (cell_of_row _ _ 0 _ _ _ hrw.out)
        have hm3 := hmp.out.below (w' := (wr.alloc (.cells #[.string ⟨key.toArray⟩, .string ⟨#[]⟩, .bool true] 52))) ((Below.refl _ _).alloc (Nat.le_refl _) _)
        have hb3 : Below w.heap.size w (wr.alloc (.cells #[.string ⟨key.toArray⟩, .string ⟨#[]⟩, .bool true] 52)) := hbl.out.trans (((Below.refl _ _).alloc (Nat.le_refl _) _).mono (by omega))
        have hr3 : (wr.alloc (.cells #[.string ⟨key.toArray⟩, .string ⟨#[]⟩, .bool true] 52)).heap[w.heap.size + 1]? = some (.cells #[.map (some w.heap.size)] 106) := (((Below.refl _ _).alloc (Nat.le_refl wr.heap.size) (.cells #[.string ⟨key.toArray⟩, .string ⟨#[]⟩, .bool true] 52)).block (w.heap.size + 1) (by omega)).trans hrw.out
        obtain ⟨w3, hrun3, hm4, hg4⟩ := (hm3.below (Below.refl _ _).drew).put hln ⟨key, [], true⟩ rfl ⟨hpf.1, Nat.zero_le _⟩
        dsimp only at hrun3
        have HM4 := Lib.hid hm4
        have HB4 := Lib.hid ((hb3.trans (Below.refl _ _).drew).grown hg4 (by have := hb3.size; exact this) (fun k e => by injection e with e; omega))
        have HR4 := Lib.hid ((hg4.block (w.heap.size + 1) (Array.getElem?_eq_some_iff.1 hr3).1 (fun e => by injection e with e; omega)).trans hr3)
        have hz4 : w.heap.size + 2 ≤ w3.heap.size := Nat.le_trans (Nat.le_trans hsz (by simp [World.drew])) hg4.size
        clear hba hm3 hm4 hb3 hr3 hg4
        go_wp2_with fail
        go_region
        all_goals go_wp2_with fail
        all_goals go_roundw
        case rel => exact ⟨k + 1, by go_num, by omega, (by rw [ofW_take HPK.out]; exact HM4.out), HB4.out, HR4.out, hz4⟩
        case measure => simp [intOf]; omega
    · have hm2 : Hid (TabM wr w.heap.size (ofW l)) := by
        have := hmp.out
        rw [List.take_of_length_le (by omega)] at this
        exact this
      clear hmp
      go_wp2_with fail
      go_ret
      exact ⟨_, w.heap.size, rfl, by omega, by omega, cell_of_row _ _ 0 _ _ _ hrw.out, Nat.le_refl _, by omega, hm2.out, hbl.out⟩

end Go.Proofs.YtlchmkpnehbnlaaGreatDoor.Cd
