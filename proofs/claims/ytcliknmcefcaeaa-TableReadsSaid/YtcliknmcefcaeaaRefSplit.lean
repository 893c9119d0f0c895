/-
  The document's Split. Conditions: none.
-/
import Derived.Test.YtcliknmcefcaeaaStrs
import Derived.Test.YtcliknmcefcaeaaFrameMath
import Derived.Test.YtcliknmcefcaeaaRefReads
import Derived.Test.YtcliknmcefcaeaaFirst
namespace Go.Proofs.Ytcliknmcefcaeaa.Cd
open Go.RowKit

/-- What the document's Split answers. -/
def RSplitIs (w : World) (bs : List UInt8) (e : Ending) (w' : World) : Prop :=
  ∃ u ds cur, Splits bs ds cur ∧ e = .returned (.tuple #[u, .string ⟨cur.toArray⟩]) ∧ OwnS w' w.heap.size u ds ∧ Below w.heap.size w w'

/-- A row stays while a block is written that is younger. -/
theorem OwnS.past {w w' : World} {B : Nat} {v : Value} {l : List (List UInt8)} (h : OwnS w B v l) (o : Obj) (hg : (w.alloc o).grownBy w' (some w.heap.size)) : OwnS w' B v l :=
  World.ownsRow.kept (World.ownsRow.alloc h o) hg (.inr fun e => by have := (World.ownsRow.lt h _ e).2; omega)

def textLen : Value → Nat
  | .string s => s.size
  | _ => 0

theorem rec_tx {c : List UInt8} (hc : c.length < 18446744073709551616) (h : ¬ frm (txV c.length c) <+: c) : ¬ HasRec c := by
  rintro ⟨x, hx⟩
  have := (pre_tx hx hc).2.1
  rw [this] at h
  exact h hx

theorem pre_take {f c : List UInt8} : f <+: c ↔ c.take f.length = f := by
  rw [List.prefix_iff_eq_take]
  exact ⟨fun h => h.symm, fun h => h.symm⟩

set_option maxRecDepth 100000 in
set_option maxHeartbeats 1600000 in
theorem rsplit_any (bs : List UInt8) (w : World) (hb : bs.length ≤ 1048576) :
    Calls Try.prog 49 #[.string ⟨bs.toArray⟩] w (RSplitIs w bs) := by
  go_enter Try.func49, Try.ntmps49
  go_wp2_with fail
  go_loopw [0, 4] (fun s o wr => ∃ ds cur, Hid (bs = flat ds ++ cur) ∧ s = .string ⟨cur.toArray⟩ ∧ Hid (OwnS wr w.heap.size o ds) ∧ Below w.heap.size w wr) (fun s _ _ => textLen s)
  case atStart => exact ⟨[], bs, rfl, rfl, OwnS.nil _ _, Below.refl _ _⟩
  case round =>
    obtain ⟨ds, cur, he, rfl, ho, hbel⟩ := hrel
    have hsz := hbel.size
    have hlen : (flat ds).length + cur.length = bs.length := by have := congrArg List.length he.out; rw [List.length_append] at this; omega
    have hds := flat_ge ds
    have hcsz : (ByteArray.mk cur.toArray).size = cur.length := rfl
    generalize hn : (flat ds).length = n at *
    clear hn
    have HRF : Hid (Rf (wr.alloc (.cells #[.string ⟨cur.toArray⟩, .bool false] 87)) wr.heap.size cur false) := heap_alloc_new wr _
    have hft := Lib.hid (ftext_any wr.heap.size cur.length cur false _ HRF.out (Sane.start _) (by omega) (by omega))
    have h64 : cur.length < 18446744073709551616 := by omega
    have HB0 := Lib.hid (hbel.alloc hsz (.cells #[.string ⟨cur.toArray⟩, .bool false] 87))
    have htl := txV_len (cur.length : Int) cur
    clear HRF
    cases hX : txX cur.length cur
    · have hrec := Lib.hid (fun h => rec_tx h64 h)
      have hTl := frm_len (txV (cur.length : Int) cur)
      rw [hX] at hft
      generalize hT : txV (cur.length : Int) cur = T at *
      have HFR := Lib.hid (fun W => rframe_any T W (by omega))
      have hge := frm_ge T
      obtain ⟨f, hf⟩ : ∃ f, frm T = f := ⟨_, rfl⟩
      have hle := frm_le T (by omega)
      rw [hf] at hge hle
      have HF := Lib.hid hf
      have hfsz : (ByteArray.mk f.toArray).size = f.length := rfl
      clear hX hT hTl hf
      by_cases hlt : cur.length < f.length
      · have hno : Hid (¬ HasRec cur) := hrec.out (fun h => by rw [HF.out] at h; have := h.length_le; omega)
        clear hrec
        go_wp2_with (first | (go_at_call 52; refine hft.out.mono ?_; rintro e w1 ⟨rfl, hl1⟩) | (go_at_call 51; refine (fgood_any _ _ _ _ hl1.1).mono ?_; rintro e w2 ⟨rfl, rfl⟩) | (go_at_call 42; refine (HFR.out w1).mono ?_; rintro e w3 ⟨rfl, hb3⟩; rw [HF.out]))
        go_ret2
        have HB := below_grown HB0.out hl1.2 (by simp; omega) (by omega)
        exact ⟨_, ds, cur, ⟨he.out, hno.out⟩, rfl, (ho.out.past _ hl1.2).keep hb3, HB.trans (hb3.mono HB.size)⟩
      · have hx1 := extract_head cur f.length
        have hx2 := extract_tail cur f.length cur.length rfl
        by_cases hq : cur.take f.length = f
        · have hpre : Hid (f <+: cur) := pre_take.2 hq
          have hq2 : (f == f) = true := by simp
          rw [hq] at hx1
          have HE : Hid (bs = flat (ds ++ [T]) ++ cur.drop f.length) := by
            unfold Hid
            obtain ⟨t, ht⟩ := hpre.out
            rw [flat_append, flat_one, List.append_assoc, HF.out, ← ht, List.drop_left, ht]
            exact he.out
          have hdl : (cur.drop f.length).length = cur.length - f.length := List.length_drop
          clear hrec hq
          go_wp2_with (first | (go_at_call 52; refine hft.out.mono ?_; rintro e w1 ⟨rfl, hl1⟩) | (go_at_call 51; refine (fgood_any _ _ _ _ hl1.1).mono ?_; rintro e w2 ⟨rfl, rfl⟩) | (go_at_call 42; refine (HFR.out w1).mono ?_; rintro e w3 ⟨rfl, hb3⟩; rw [HF.out]) | (at_builtin; refine wp_append_strs rfl _ _ rfl w.heap.size _ ds rfl ?ho ?hB _ (w3.heap.size + 1) [T] rfl ?hn ?hm ?hK))
          case ho => exact ((ho.out.past _ hl1.2).keep hb3).alloc _
          case hB => have := hl1.2.size; have := hb3.size; simp at *; omega
          case hn => exact strs_one _ _ _
          case hm => simp; omega
          case hK =>
            intro v4 w4 ho4 hb4
            go_wp2_with fail
            have HB := below_grown HB0.out hl1.2 (by simp; omega) (by omega)
            have HB3 := HB.trans (hb3.mono HB.size)
            go_roundw
            case rel => exact ⟨ds ++ [T], cur.drop f.length, HE.out, rfl, ho4, (HB3.alloc HB3.size _).trans hb4⟩
            case measure =>
              have hdz : (ByteArray.mk (cur.drop f.length).toArray).size = cur.length - f.length := hdl
              simp [textLen]
              omega
        · have hno : Hid (¬ HasRec cur) := hrec.out (fun h => hq (pre_take.1 (by rw [HF.out] at h; exact h)))
          generalize cur.take f.length = q at *
          have hq2 : (q == f) = false := by simpa using hq
          clear hrec hq
          go_wp2_with (first | (go_at_call 52; refine hft.out.mono ?_; rintro e w1 ⟨rfl, hl1⟩) | (go_at_call 51; refine (fgood_any _ _ _ _ hl1.1).mono ?_; rintro e w2 ⟨rfl, rfl⟩) | (go_at_call 42; refine (HFR.out w1).mono ?_; rintro e w3 ⟨rfl, hb3⟩; rw [HF.out]))
          go_ret2
          have HB := below_grown HB0.out hl1.2 (by simp; omega) (by omega)
          exact ⟨_, ds, cur, ⟨he.out, hno.out⟩, rfl, (ho.out.past _ hl1.2).keep hb3, HB.trans (hb3.mono HB.size)⟩
    · have hno := Lib.hid (no_rec h64 (.inl hX))
      rw [hX] at hft
      clear hX
      go_wp2_with (first | (go_at_call 52; refine hft.out.mono ?_; rintro e w1 ⟨rfl, hl1⟩) | (go_at_call 51; refine (fgood_any _ _ _ _ hl1.1).mono ?_; rintro e w2 ⟨rfl, rfl⟩))
      go_ret2
      exact ⟨_, ds, cur, ⟨he.out, hno.out⟩, rfl, ho.out.past _ hl1.2, below_grown HB0.out hl1.2 (by simp; omega) (by omega)⟩

end Go.Proofs.Ytcliknmcefcaeaa.Cd
