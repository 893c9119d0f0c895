/-
  Have both the same files? Yes, where both are one disk. Conditions: none.
-/
import Derived.Test.YtbepanhndpkdhaaAsks
import Derived.Test.YtbepanhndpkdhaaStrs
import Derived.Test.YtbepanhndpkdhaaIter
import Derived.Test.YtbepanhndpkdhaaDk
import Derived.Test.YtbepanhndpkdhaaSrt
import Derived.Test.YtbepanhndpkdhaaPair
import Derived.Test.YtbepanhndpkdhaaRefA
import Derived.Test.YtbepanhndpkdhaaSameList
import Derived.Deep.RegionHeld3
import Derived.BigRegion
namespace Go.Proofs.Ytbepanhndpkdhaa.Cd
open Go.RowKit Go.Maps Go.Sort Go.Shelf

/-- The keys of a map of strings: no key twice, each one that the map has. -/
theorem keys_of {w : World} {b n : Nat} {D : DataW Unit} (hown : w.ownsMap Try.prog filK.K filK.R b n D) : (strKeys D).Nodup ∧ (∀ x, x ∈ strKeys D ↔ has D (.string x) = true) ∧ ∀ x ∈ strKeys D, x.length ≤ maxLen := by
  have hle := strKeys_le hown Try.underlying9
  obtain ⟨es, hD, hpw, _⟩ := hown.entries filK.law
  obtain ⟨es', hD', hko⟩ := hown.keysOf
  obtain rfl : es = es' := by rw [hD] at hD'; simpa using hD'
  subst hD
  have hk : ∀ p ∈ es, ∃ x, p.1 = .string x := fun p hp => by obtain ⟨v, hv⟩ := hko p hp; obtain ⟨x, _, hx, _⟩ := Maps.keyOf_str Try.underlying9 hv; exact ⟨x, hx⟩
  refine ⟨?_, fun x => ?_, hle⟩
  · show (es.map fun p => strOf p.1).Nodup
    refine List.pairwise_map.2 (hpw.imp_of_mem fun {p q} hp' hq' hne e => hne ?_)
    obtain ⟨a, ha⟩ := hk p hp'
    obtain ⟨b, hb⟩ := hk q hq'
    rw [ha, hb] at e ⊢
    exact congrArg _ e
  · rw [has_eq, List.any_eq_true]
    show x ∈ (es.map fun p => strOf p.1) ↔ _
    rw [List.mem_map]
    constructor
    · rintro ⟨p, hp', rfl⟩
      obtain ⟨a, ha⟩ := hk p hp'
      exact ⟨p, hp', by rw [ha]; simp [Lit.sameKey, strOf]⟩
    · rintro ⟨p, hp', hs⟩
      obtain ⟨a, ha⟩ := hk p hp'
      rw [ha] at hs
      exact ⟨p, hp', by rw [ha]; simpa [Lit.sameKey, strOf] using hs⟩

/-- What Names leaves: the files' names, rising, in a new row. -/
def NamesIs (P : Pd) (w : World) (e : Ending) (w' : World) : Prop :=
  Below w.heap.size w w' ∧ ((P.off = true ∧ e = .returned (.slice none 0 0)) ∨ P.off = false ∧
    ∃ (v : Value) (l : List (List UInt8)), e = .returned v ∧ OwnS w' w.heap.size v l ∧ l.Nodup ∧ l.Pairwise (fun x y => x ≤ y) ∧ (∀ x, x ∈ l ↔ x.length ≤ maxLen ∧ (P.files x).isSome = true))

theorem names_row {w : World} {B : Nat} {v : Value} {ss : List (List UInt8)} (h : w.ownsRow B 9 1 v ss.length ((ss.mergeSort (fun x y => decide (x ≤ y))).map encStr)) : OwnS w B v (ss.mergeSort (fun x y => decide (x ≤ y))) := by
  unfold OwnS
  rw [List.length_mergeSort]
  exact h
theorem names_list {w : World} {b n : Nat} {D : DataW Unit} {P : Pd} {ss : List (List UInt8)} (hown : w.ownsMap Try.prog filK.K filK.R b n D) (hat : ∀ x, filK.ok x → ∀ z, D.atKey (filK.lit x) z = ((P.files x).map filK.dat).getD z) (hS : ss.Perm (strKeys D)) :
    (ss.mergeSort (fun x y => decide (x ≤ y))).Nodup ∧ (ss.mergeSort (fun x y => decide (x ≤ y))).Pairwise (fun x y => x ≤ y) ∧ ∀ x, x ∈ ss.mergeSort (fun x y => decide (x ≤ y)) ↔ x.length ≤ maxLen ∧ (P.files x).isSome = true := by
  obtain ⟨k1, k2, k3⟩ := keys_of hown
  have hp := (List.mergeSort_perm ss (fun x y => decide (x ≤ y))).trans hS
  have tr : ∀ a b c : List UInt8, decide (a ≤ b) = true → decide (b ≤ c) = true → decide (a ≤ c) = true := fun a b c h1 h2 => by simp only [decide_eq_true_eq] at *; exact List.le_trans h1 h2
  have tot : ∀ a b : List UInt8, (decide (a ≤ b) || decide (b ≤ a)) = true := fun a b => by simp only [Bool.or_eq_true, decide_eq_true_eq]; exact List.le_total a b
  refine ⟨hp.nodup_iff.2 k1, (List.pairwise_mergeSort tr tot ss).imp (fun h => by simpa using h), fun x => ?_⟩
  rw [hp.mem_iff, k2]
  constructor
  · intro h
    have hl := k3 x ((k2 x).2 h)
    have := MapF.has (M := filK) (hat x hl)
    exact ⟨hl, by rw [← this]; exact h⟩
  · rintro ⟨hl, h⟩
    have := MapF.has (M := filK) (hat x hl)
    rw [h] at this
    exact this

set_option maxRecDepth 100000 in
set_option maxHeartbeats 1600000 in
theorem names_any (g N : Nat) (S : Nat → Prop) (P : Pd) (w : World) (h : Rep w g S P N) :
    Calls Try.prog 25 #[.pointer (some ⟨g, 0, none⟩)] w (NamesIs P w) := by
  have hre := ready_any g N S P w h
  obtain ⟨bf, c1, p1, c2, p2, lv, h⟩ := h
  have d1 : w.cell? ⟨g, 1, none⟩ = some (.map (some bf)) := cell_of_row _ _ _ _ _ _ h.row
  obtain ⟨n, hf, hn⟩ := h.fil
  have hN := h.fits.top
  obtain ⟨D, hown, hsz, hat⟩ := hf
  have hmax : Maps.size D ≤ maxLen := by simp only [maxLen]; omega
  have hbytes : Maps.size D * 16 ≤ 140737488355328 := by omega
  clear h
  cases hoff : P.off
  · have he : errR P = 0 := by unfold errR; rw [hoff]; rfl
    rw [he] at hre
    have HR := Lib.hid ((callsIn_wide (n := 5)).2 hre)
    have hsorted := Try.slices_Sorted_keys_56_57 bf n D filK.R w hown hmax hbytes
    have HSO := Lib.hid hsorted
    have HOWN := Lib.hid hown
    clear hsorted
    have HAT := Lib.hid hat
    clear hre hat
    have hfR : Fence.wide.fn 44 := trivial
    have hfK : Fence.wide.fn 57 := trivial
    have hfS : Fence.wide.fn 56 := trivial
    refine (callsIn_wide (n := 6)).1 ?_
    refine callsIn_of_wp Try.func25 rfl trivial ?_ rfl
    simp only [Try.ntmps25, List.size_toArray, List.length_cons, List.length_nil, Nat.reduceAdd, Nat.reduceSub, Array.replicate_succ, Array.replicate_zero, List.push_toArray, List.append_toArray, List.nil_append, List.cons_append]
    gi_wp2_with (first
      | (gi_at_call 44; refine HR.out.mono ?_; rintro e w' ⟨rfl, rfl⟩)
      | (gi_at_call 57; refine (Try.maps_Keys_57 _ _).mono ?_; rintro e w' ⟨rfl, rfl⟩)
      | (gi_at_call 56; refine HSO.out.mono ?_; rintro e w' ⟨v, ss, rfl, hS, hrow, hnil, hb⟩))
    go_ret
    exact ⟨((Below.refl _ _).alloc (Nat.le_refl _) _).trans (hb.mono (by simp)), .inr ⟨hoff, v, _, rfl, names_row (ownsRow_base_a hrow (by simp)), names_list HOWN.out HAT.out hS⟩⟩
  · have he : errR P = 8 := by unfold errR; rw [hoff]; rfl
    rw [he] at hre
    have HR := Lib.hid hre
    clear hre
    go_enter Try.func25, Try.ntmps25
    go_wp2_with (go_at_call 44; refine HR.out.mono ?_; rintro e w' ⟨rfl, rfl⟩)
    go_ret
    exact ⟨Below.refl _ _, .inl ⟨hoff, rfl⟩⟩

end Go.Proofs.Ytbepanhndpkdhaa.Cd

namespace Go.Proofs.Ytbepanhndpkdhaa.Cd
open Go.RowKit

/-- A name as it can be handed in. -/
def Short (s : List UInt8) : Prop := s.length ≤ 140737488355328

section
variable (B g N : Nat) (D : Dsk) (w : World)
theorem names_dk (h : Dk w B g N D) (hs : SrtD Short D) :
    Calls Try.prog 25 #[.pointer (some ⟨g, 0, none⟩)] w (fun e w' => ∃ v, e = .returned v ∧ Below w.heap.size w w' ∧ OwnS w' w.heap.size v (namesD D)) := by
  obtain ⟨P, ⟨hB, S, hR, hS⟩, h2⟩ := h
  refine (names_any g N S P w hR).mono ?_
  rintro e w' ⟨hb, ⟨ho, rfl⟩ | ⟨ho, v, l, rfl, hown, hnd, hup, hmem⟩⟩
  · refine ⟨_, rfl, hb, ?_⟩
    unfold namesD
    rw [if_pos (by rw [h2.off]; exact ho)]
    exact OwnS.nil _ _
  · refine ⟨v, rfl, hb, ?_⟩
    have he : l = D.now.map Fil.name := names_eq hs.now hup hnd (fun x => by
      rw [hmem, h2.is]
      refine ⟨fun h => h.2, fun h => ⟨?_, h⟩⟩
      cases hg : getF D.now x with
      | none => rw [hg] at h; cases h
      | some f =>
        have hn := getF_name hg
        have hx : x ∈ D.now.map Fil.name := by
          apply Classical.byContradiction
          intro hc
          rw [getF_none.2 hc] at hg
          cases hg
        obtain ⟨f2, hf2, rfl⟩ := List.mem_map.1 hx
        have : f2.name.length ≤ 140737488355328 := hs.now.all f2 hf2
        simp only [maxLen]
        omega)
    unfold namesD
    rw [if_neg (by rw [h2.off, ho]; simp), ← he]
    exact hown
theorem acts_dk (h : Dk w B g N D) : Calls Try.prog 26 #[.pointer (some ⟨g, 0, none⟩)] w (fun e w' => e = .returned (.int .i64 (D.acts : Nat)) ∧ w' = w) := by
  obtain ⟨P, ⟨hB, S, hR, hS⟩, h2⟩ := h
  rw [h2.acts]
  exact acts_any g N S P w hR
theorem down_dk (h : Dk w B g N D) : Calls Try.prog 27 #[.pointer (some ⟨g, 0, none⟩)] w (fun e w' => e = .returned (.bool D.off) ∧ w' = w) := by
  obtain ⟨P, ⟨hB, S, hR, hS⟩, h2⟩ := h
  rw [h2.off]
  exact down_any g N S P w hR
end

end Go.Proofs.Ytbepanhndpkdhaa.Cd

namespace Go.Proofs.Ytbepanhndpkdhaa.Cd
open Go.RowKit

theorem names_dks (g N : Nat) (S : Nat → Prop) (D : Dsk) (w : World) (h : DkS w g N S D) (hs : SrtD Short D) :
    Calls Try.prog 25 #[.pointer (some ⟨g, 0, none⟩)] w (fun e w' => ∃ v, e = .returned v ∧ Below w.heap.size w w' ∧ OwnS w' w.heap.size v (namesD D)) := by
  obtain ⟨P, hR, h2⟩ := h
  refine (names_any g N S P w hR).mono ?_
  rintro e w' ⟨hb, ⟨ho, rfl⟩ | ⟨ho, v, l, rfl, hown, hnd, hup, hmem⟩⟩
  · refine ⟨_, rfl, hb, ?_⟩
    unfold namesD
    rw [if_pos (by rw [h2.off]; exact ho)]
    exact OwnS.nil _ _
  · refine ⟨v, rfl, hb, ?_⟩
    have he : l = D.now.map Fil.name := names_eq hs.now hup hnd (fun x => by
      rw [hmem, h2.is]
      refine ⟨fun h => h.2, fun h => ⟨?_, h⟩⟩
      cases hg : getF D.now x with
      | none => rw [hg] at h; cases h
      | some f =>
        have hx : x ∈ D.now.map Fil.name := by
          apply Classical.byContradiction
          intro hc
          rw [getF_none.2 hc] at hg
          cases hg
        obtain ⟨f2, hf2, rfl⟩ := List.mem_map.1 hx
        have : f2.name.length ≤ 140737488355328 := hs.now.all f2 hf2
        simp only [maxLen]
        omega)
    unfold namesD
    rw [if_neg (by rw [h2.off, ho]; simp), ← he]
    exact hown

theorem DkS.once {w : World} {g N : Nat} {S : Nat → Prop} {D : Dsk} (h : DkS w g N S D) : Once D.now := by
  obtain ⟨P, _, h2⟩ := h
  exact h2.now.once
theorem RefR.two {w : World} {g : Nat} {T : Nat → Prop} {D : Dsk} (h : RefR w g T D) : w.cell? ⟨g, 4, none⟩ = some (.bool D.off) ∧ w.cell? ⟨g, 5, none⟩ = some (.int .i64 D.acts) := by
  obtain ⟨_, _, _, h⟩ := h
  exact ⟨cell_of_row _ _ _ _ _ _ h.row, cell_of_row _ _ _ _ _ _ h.row⟩
def cntD (D : Dsk) (f : Fil) : Nat := if D.off = true then 0 else f.pages.length
theorem count_of {w : World} {g N : Nat} {S : Nat → Prop} {D : Dsk} (h : DkS w g N S D) {f : Fil} (hf : f ∈ D.now) (hs : f.name.length ≤ 140737488355328) :
    Calls Try.prog 29 #[.pointer (some ⟨g, 0, none⟩), .string ⟨f.name.toArray⟩] w (fun e w' => e = .returned (.int .i64 (cntD D f : Nat)) ∧ w' = w) := by
  unfold cntD
  by_cases ho : D.off = true
  · rw [if_pos ho]; exact count_dks_off g N S D f.name w h ho hs
  · rw [if_neg ho, ← pages_mem h.once hf]; exact count_dks g N S D f.name w h (by simpa using ho) hs
theorem has_of {w : World} {g N : Nat} {S : Nat → Prop} {D : Dsk} (h : DkS w g N S D) {f : Fil} (hf : f ∈ D.now) (hs : f.name.length ≤ 140737488355328) :
    Calls Try.prog 30 #[.pointer (some ⟨g, 0, none⟩), .string ⟨f.name.toArray⟩] w (fun e w' => e = .returned (.bool (!D.off)) ∧ w' = w) := by
  cases ho : D.off
  · have := has_dks g N S D f.name w h ho hs
    rw [getF_mem hf] at this
    exact this
  · exact has_dks_off g N S D f.name w h ho hs

set_option maxRecDepth 100000 in
set_option maxHeartbeats 8000000 in
theorem sames_any (B gd gm N : Nat) (S T : Nat → Prop) (D : Dsk) (NS : List (List UInt8)) (w : World) (h : Pair w B gd gm N S T D) (hs : SrtD (fun n => n ∈ NS) D) (hsh : ∀ n ∈ NS, Short n) (hl : NS.length ≤ 4096) (hN : N ≤ 4096) :
    Calls Try.prog 15 #[.pointer (some ⟨gd, 0, none⟩), .pointer (some ⟨gm, 0, none⟩)] w (Gives (.bool true) w) := by
  have few := h.d.few hN hs hl
  have bd := few.bd
  have hnl := few.now
  have hcn := few.cnt
  have srt : SrtD Short D := ⟨⟨hs.now.up, fun f hf => hsh _ (hs.now.all f hf)⟩, ⟨hs.safe.up, fun f hf => hsh _ (hs.safe.all f hf)⟩, fun x hx => hsh _ (hs.waits x hx)⟩
  have H := Lib.hid h
  have SRT := Lib.hid srt
  clear h few hs hsh hl srt
  have KN := Lib.hid (names_dks gd N S D w.drew (H.out.below (Below.refl _ _).drew).d SRT.out)
  have t0 := (H.out.below (Below.refl _ _).drew).r.two
  go_enter Try.func15, Try.ntmps15
  go_wp2_with fail
  go_region_held3 (fun W => W.cell? ⟨gm, 4, none⟩ = some (.bool D.off) ∧ W.cell? ⟨gm, 5, none⟩ = some (.int .i64 D.acts)) (first | exact tE | exact tD | exact tC | exact tB | exact tA | exact t0) (first
    | (go_at_call 25
       refine KN.out.mono ?_
       rintro e wA ⟨vA, rfl, hbA, hoA⟩
       have HA : Hid (Below w.heap.size w wA) := (Below.refl _ _).drew.trans hbA
       have tA := (H.out.below HA.out).r.two
       have HOA := Lib.hid hoA
       have KR := Lib.hid (rnames_any gm T D wA (H.out.below HA.out).r (by omega))
       clear hbA hoA)
    | (go_at_call 41
       refine KR.out.mono ?_
       rintro e wB ⟨hbB, vB, rfl, hsB⟩
       have HB : Hid (Below w.heap.size w wB) := HA.out.trans (hbB.mono HA.out.size)
       have tB := (H.out.below HB.out).r.two
       have KS : Hid (Calls Try.prog 31 #[vA, vB] wB (Gives (.bool true) wB)) := (same_any vA vB _ _ wB ((HOA.out.strs.below hbB).more hbB.size) hsB).mono (fun e w' h => ⟨by rw [h.1]; simp, h.2⟩)
       clear hbB hsB)
    | (go_at_call 31
       refine KS.out.mono ?_
       rintro e wC ⟨rfl, hbC⟩
       have HC : Hid (Below w.heap.size w wC) := HB.out.trans (hbC.mono HB.out.size)
       have tC := (H.out.below HC.out).r.two
       have KA := Lib.hid (acts_dks gd N S D wC (H.out.below HC.out).d)
       have KW := Lib.hid (down_dks gd N S D wC (H.out.below HC.out).d)
       have KF := Lib.hid (free_dks gd N S D wC (H.out.below HC.out).d)
       clear hbC)
    | (go_at_call 26; refine KA.out.mono ?_; rintro e wX ⟨rfl, rfl⟩)
    | (go_at_call 27; refine KW.out.mono ?_; rintro e wX ⟨rfl, rfl⟩)
    | (go_at_call 28
       refine KF.out.mono ?_
       rintro e wD ⟨rfl, hbD⟩
       have HD : Hid (Below w.heap.size w wD) := HC.out.trans (hbD.mono HC.out.size)
       have tD := (H.out.below HD.out).r.two
       have KG := Lib.hid (rfree_any gm T D wD (H.out.below HD.out).r bd.room (by omega) (by omega))
       clear hbD)
    | (go_at_call 42
       refine KG.out.mono ?_
       rintro e wE ⟨rfl, hbE⟩
       have HE : Hid (Below w.heap.size w wE) := HD.out.trans (hbE.mono HD.out.size)
       have tE := (H.out.below HE.out).r.two
       clear hbE))
  obtain ⟨vn, vs, vw, hrc⟩ := H.out.r
  obtain ⟨A, c, rfl, hlc, hm⟩ := hrc.now.len
  have HRC := Lib.hid hrc
  have e0 : wE.cell? ⟨gm, 0, none⟩ = some (.slice A D.now.length c) := cell_of_row _ _ _ _ _ _ (hrc.below HE.out).row
  clear hrc tA tB tC tD tE
  go_wp2_with fail
  go_loopw [44] (fun i wr => ∃ k : Nat, i = .int .i64 k ∧ k ≤ D.now.length ∧ Hid (Below w.heap.size w wr)) (fun i _ => D.now.length - (intOf i).toNat)
  case atStart => exact ⟨0, rfl, by omega, HE.out⟩
  case round =>
    clear e0 HA HB HC HD HE
    obtain ⟨k, rfl, hk, hB⟩ := hrel
    by_cases hlt : k < D.now.length
    · have hlt' : (k : Int) < D.now.length := by omega
      obtain ⟨b, off, A', c', rfl, hb, hc1, hc2, hst⟩ := (HRC.out.below hB.out).now.at hlt
      have hsn : Hid ((D.now[k]).name.length ≤ 140737488355328) := SRT.out.now.all _ (List.getElem_mem hlt)
      have hcl := hst.len
      clear hst
      cases ho : D.off
      · have g4 : Hid (∀ {W : World}, Below w.heap.size w W → W.cell? ⟨gm, 4, none⟩ = some (.bool false)) := fun hW => by have := (H.out.below hW).r.two.1; rw [ho] at this; exact this
        have m4 := g4.out (hB.out.alloc hB.out.size (.cells #[.string ⟨(D.now[k]).name.toArray⟩, .slice A' (D.now[k]).pages.length c'] 41))
        have KC : ∀ o, Hid (Calls Try.prog 29 #[.pointer (some ⟨gd, 0, none⟩), .string ⟨(D.now[k]).name.toArray⟩] (wr.alloc o).drew (fun e w' => e = .returned (.int .i64 ((D.now[k]).pages.length : Nat)) ∧ w' = (wr.alloc o).drew)) := fun o => by
          have h := count_of (H.out.below (hB.out.alloc hB.out.size o).drew).d (List.getElem_mem hlt) hsn.out
          unfold Hid
          unfold cntD at h
          rw [ho] at h
          simpa using h
        have KH : ∀ o, Hid (Calls Try.prog 30 #[.pointer (some ⟨gd, 0, none⟩), .string ⟨(D.now[k]).name.toArray⟩] (wr.alloc o).drew (fun e w' => e = .returned (.bool true) ∧ w' = (wr.alloc o).drew)) := fun o => by
          have h := has_of (H.out.below (hB.out.alloc hB.out.size o).drew).d (List.getElem_mem hlt) hsn.out
          rw [ho] at h
          exact h
        have HO := Lib.hid ho
        clear ho
        generalize D.now[k] = f at *
        go_wp2_with fail
        go_region_held3 (fun W => W.cell? ⟨gm, 4, none⟩ = some (.bool false) ∧ W.cell? ⟨wr.heap.size, 0, none⟩ = some (.string ⟨f.name.toArray⟩)) (first | exact ⟨m4, by simp⟩ | exact ⟨by simpa using m4, by simp⟩) (first
          | (go_at_call 29; refine (KC _).out.mono ?_; rintro e wX ⟨rfl, rfl⟩)
          | (go_at_call 30; refine (KH _).out.mono ?_; rintro e wX ⟨rfl, rfl⟩))
        all_goals
          go_wp2_with fail
          go_roundw
          case rel => exact ⟨k + 1, by go_num, by omega, (hB.out.alloc hB.out.size _).drew⟩
          case measure => simp [intOf]; omega
      · have g4 : Hid (∀ {W : World}, Below w.heap.size w W → W.cell? ⟨gm, 4, none⟩ = some (.bool true)) := fun hW => by have := (H.out.below hW).r.two.1; rw [ho] at this; exact this
        have m4 := g4.out (hB.out.alloc hB.out.size (.cells #[.string ⟨(D.now[k]).name.toArray⟩, .slice A' (D.now[k]).pages.length c'] 41))
        have KC : ∀ o, Hid (Calls Try.prog 29 #[.pointer (some ⟨gd, 0, none⟩), .string ⟨(D.now[k]).name.toArray⟩] (wr.alloc o).drew (fun e w' => e = .returned (.int .i64 (0 : Nat)) ∧ w' = (wr.alloc o).drew)) := fun o => by
          have h := count_of (H.out.below (hB.out.alloc hB.out.size o).drew).d (List.getElem_mem hlt) hsn.out
          unfold Hid
          unfold cntD at h
          rw [ho] at h
          simpa using h
        have KH : ∀ o, Hid (Calls Try.prog 30 #[.pointer (some ⟨gd, 0, none⟩), .string ⟨(D.now[k]).name.toArray⟩] (wr.alloc o).drew (fun e w' => e = .returned (.bool false) ∧ w' = (wr.alloc o).drew)) := fun o => by
          have h := has_of (H.out.below (hB.out.alloc hB.out.size o).drew).d (List.getElem_mem hlt) hsn.out
          rw [ho] at h
          exact h
        have HO := Lib.hid ho
        clear ho
        generalize D.now[k] = f at *
        go_wp2_with fail
        go_region_held3 (fun W => W.cell? ⟨gm, 4, none⟩ = some (.bool true) ∧ W.cell? ⟨wr.heap.size, 0, none⟩ = some (.string ⟨f.name.toArray⟩)) (first | exact ⟨m4, by simp⟩ | exact ⟨by simpa using m4, by simp⟩) (first
          | (go_at_call 29; refine (KC _).out.mono ?_; rintro e wX ⟨rfl, rfl⟩)
          | (go_at_call 30; refine (KH _).out.mono ?_; rintro e wX ⟨rfl, rfl⟩))
        all_goals
          go_wp2_with fail
          go_roundw
          case rel => exact ⟨k + 1, by go_num, by omega, (hB.out.alloc hB.out.size _).drew⟩
          case measure => simp [intOf]; omega
    · have hlt' : (D.now.length : Int) ≤ k := by omega
      clear hlt
      go_wp2_with fail
      go_ret
      exact ⟨rfl, hB.out⟩

end Go.Proofs.Ytbepanhndpkdhaa.Cd
