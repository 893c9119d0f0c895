/-
  Names: what the files' names are, at most one where there is only one file. Conditions: none.
-/
import Derived.Test.YtlchmkpnehbnlaaGreatDoorG4
import Derived.Test.YtlchmkpnehbnlaaGreatDoorG15
import Derived.Test.YtlchmkpnehbnlaaGreatDoorG36
import Derived.Test.YtlchmkpnehbnlaaGreatDoorG22
import Derived.Deep.RegionHeld3
import Derived.BigRegion
namespace Go.Proofs.YtlchmkpnehbnlaaGreatDoor.Cd
open Go.RowKit Go.Maps Go.Sort Go.Shelf

theorem keys_of {w : World} {b n : Nat} {D : DataW Unit} (hown : w.ownsMap Tryz.prog filK.K filK.R b n D) : (strKeys D).Nodup ∧ (∀ x, x ∈ strKeys D ↔ has D (.string x) = true) ∧ ∀ x ∈ strKeys D, x.length ≤ maxLen := by
  have hle := strKeys_le hown Tryz.underlying9
  obtain ⟨es, hD, hpw, _⟩ := hown.entries filK.law
  obtain ⟨es', hD', hko⟩ := hown.keysOf
  obtain rfl : es = es' := by rw [hD] at hD'; simpa using hD'
  subst hD
  have hk : ∀ p ∈ es, ∃ x, p.1 = .string x := fun p hp => by obtain ⟨v, hv⟩ := hko p hp; obtain ⟨x, _, hx, _⟩ := Maps.keyOf_str Tryz.underlying9 hv; exact ⟨x, hx⟩
  refine ⟨?_, fun x => ?_, hle⟩
  · show (es.map fun p => strOf p.1).Nodup
    refine List.pairwise_map.2 (hpw.imp_of_mem fun {p q} hp' hq' hne e => hne ?_)
    obtain ⟨a, ha⟩ := hk p hp'
    obtain ⟨b, hb⟩ := hk q hq'
    rw [ha, hb] at e ⊢
    exact congrArg _ e
  · rw [has_eq, List.any_eq_true]
    show x ∈ (es.map fun p => strOf p.1) ↔ _
    rw [List.mem_map]
    constructor
    · rintro ⟨p, hp', rfl⟩
      obtain ⟨a, ha⟩ := hk p hp'
      exact ⟨p, hp', by rw [ha]; simp [Lit.sameKey, strOf]⟩
    · rintro ⟨p, hp', hs⟩
      obtain ⟨a, ha⟩ := hk p hp'
      rw [ha] at hs
      exact ⟨p, hp', by rw [ha]; simpa [Lit.sameKey, strOf] using hs⟩

def NamesIs (P : Pd) (w : World) (e : Ending) (w' : World) : Prop :=
  Below w.heap.size w w' ∧ ((P.off = true ∧ e = .returned (.slice none 0 0)) ∨ P.off = false ∧
    ∃ (v : Value) (l : List (List UInt8)), e = .returned v ∧ OwnS w' w.heap.size v l ∧ l.Nodup ∧ l.Pairwise (fun x y => x ≤ y) ∧ (∀ x, x ∈ l ↔ x.length ≤ maxLen ∧ (P.files x).isSome = true))

theorem names_row {w : World} {B : Nat} {v : Value} {ss : List (List UInt8)} (h : w.ownsRow B 9 1 v ss.length ((ss.mergeSort (fun x y => decide (x ≤ y))).map encStr)) : OwnS w B v (ss.mergeSort (fun x y => decide (x ≤ y))) := by
  unfold OwnS
  rw [List.length_mergeSort]
  exact h
theorem names_list {w : World} {b n : Nat} {D : DataW Unit} {P : Pd} {ss : List (List UInt8)} (hown : w.ownsMap Tryz.prog filK.K filK.R b n D) (hat : ∀ x, filK.ok x → ∀ z, D.atKey (filK.lit x) z = ((P.files x).map filK.dat).getD z) (hS : ss.Perm (strKeys D)) :
    (ss.mergeSort (fun x y => decide (x ≤ y))).Nodup ∧ (ss.mergeSort (fun x y => decide (x ≤ y))).Pairwise (fun x y => x ≤ y) ∧ ∀ x, x ∈ ss.mergeSort (fun x y => decide (x ≤ y)) ↔ x.length ≤ maxLen ∧ (P.files x).isSome = true := by
  obtain ⟨k1, k2, k3⟩ := keys_of hown
  have hp := (List.mergeSort_perm ss (fun x y => decide (x ≤ y))).trans hS
  have tr : ∀ a b c : List UInt8, decide (a ≤ b) = true → decide (b ≤ c) = true → decide (a ≤ c) = true := fun a b c h1 h2 => by simp only [decide_eq_true_eq] at *; exact List.le_trans h1 h2
  have tot : ∀ a b : List UInt8, (decide (a ≤ b) || decide (b ≤ a)) = true := fun a b => by simp only [Bool.or_eq_true, decide_eq_true_eq]; exact List.le_total a b
  refine ⟨hp.nodup_iff.2 k1, (List.pairwise_mergeSort tr tot ss).imp (fun h => by simpa using h), fun x => ?_⟩
  rw [hp.mem_iff, k2]
  constructor
  · intro h
    have hl := k3 x ((k2 x).2 h)
    have := MapF.has (M := filK) (hat x hl)
    exact ⟨hl, by rw [← this]; exact h⟩
  · rintro ⟨hl, h⟩
    have := MapF.has (M := filK) (hat x hl)
    rw [h] at this
    exact this

set_option maxRecDepth 100000 in
set_option maxHeartbeats 1600000 in
theorem names_any (g N : Nat) (S : Nat → Prop) (P : Pd) (w : World) (h : Rep w g S P N) :
    Calls Tryz.prog 51 #[.pointer (some ⟨g, 0, none⟩)] w (NamesIs P w) := by
  have hre := ready_any g N S P w h
  obtain ⟨bf, c1, p1, c2, p2, lv, h⟩ := h
  have d1 : w.cell? ⟨g, 1, none⟩ = some (.map (some bf)) := cell_of_row _ _ _ _ _ _ h.row
  obtain ⟨n, hf, hn⟩ := h.fil
  have hN := h.fits.top
  obtain ⟨D, hown, hsz, hat⟩ := hf
  have hmax : Maps.size D ≤ maxLen := by simp only [maxLen]; omega
  have hbytes : Maps.size D * 16 ≤ 140737488355328 := by omega
  clear h
  cases hoff : P.off
  · have he : errR P = 0 := by unfold errR; rw [hoff]; rfl
    rw [he] at hre
    have HR := Lib.hid ((callsIn_wide (n := 5)).2 hre)
    have hsorted := Tryz.slices_Sorted_keys_90_91 bf n D filK.R w hown hmax hbytes
    have HSO := Lib.hid hsorted
    have HOWN := Lib.hid hown
    clear hsorted
    have HAT := Lib.hid hat
    clear hre hat
    have hfR : Fence.wide.fn 43 := trivial
    have hfK : Fence.wide.fn 91 := trivial
    have hfS : Fence.wide.fn 90 := trivial
    refine (callsIn_wide (n := 6)).1 ?_
    refine callsIn_of_wp Tryz.func51 rfl trivial ?_ rfl
    simp only [Tryz.ntmps51, List.size_toArray, List.length_cons, List.length_nil, Nat.reduceAdd, Nat.reduceSub, Array.replicate_succ, Array.replicate_zero, List.push_toArray, List.append_toArray, List.nil_append, List.cons_append]
    gi_wp2_with (first
      | (gi_at_call 43; refine HR.out.mono ?_; rintro e w' ⟨rfl, rfl⟩)
      | (gi_at_call 91; refine (Tryz.maps_Keys_91 _ _).mono ?_; rintro e w' ⟨rfl, rfl⟩)
      | (gi_at_call 90; refine HSO.out.mono ?_; rintro e w' ⟨v, ss, rfl, hS, hrow, hnil, hb⟩))
    go_ret
    exact ⟨((Below.refl _ _).alloc (Nat.le_refl _) _).trans (hb.mono (by simp)), .inr ⟨hoff, v, _, rfl, names_row (ownsRow_base_a hrow (by simp)), names_list HOWN.out HAT.out hS⟩⟩
  · have he : errR P = 8 := by unfold errR; rw [hoff]; rfl
    rw [he] at hre
    have HR := Lib.hid hre
    clear hre
    go_enter Tryz.func51, Tryz.ntmps51
    go_wp2_with (go_at_call 43; refine HR.out.mono ?_; rintro e w' ⟨rfl, rfl⟩)
    go_ret
    exact ⟨Below.refl _ _, .inl ⟨hoff, rfl⟩⟩

end Go.Proofs.YtlchmkpnehbnlaaGreatDoor.Cd
