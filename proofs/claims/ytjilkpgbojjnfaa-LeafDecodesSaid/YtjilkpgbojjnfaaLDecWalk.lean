/-
  LeafDecodes: what its text does, call by call. Conditions: none.
-/
import Derived.Test.YtjilkpgbojjnfaaAliveL
import Derived.Test.YtjilkpgbojjnfaaRefDecode
import Derived.Test.YtjilkpgbojjnfaaRefSameN
namespace Go.Proofs.Ytjilkpgbojjnfaa.LeafDecodes
open Go.RowKit Go.Proofs.Ytjilkpgbojjnfaa.Cd

/-- What both Decodes leave, the node by name. -/
def DecN (w : World) (n : Nd) (r : Value) (e : Ending) (w' : World) : Prop := Below w.heap.size w w' ∧ ∃ y, e = .returned (.tuple #[y, r]) ∧ NodeF w' w.heap.size y n
theorem decN_of {w : World} {o : Option Nd} {r : Value} {n : Nd} (hn : o.getD zeroN = n) {e : Ending} {w' : World} (h : DecIs w o r e w') : DecN w n r e w' := by subst hn; exact h

set_option maxRecDepth 100000 in
set_option maxHeartbeats 4000000 in
theorem walk (v : Value) (b : List UInt8) (w : World) (h : Sl w w.heap.size v b) :
    Calls Try.prog 4 #[v] w (Gives (.bool true) w) := by
  obtain ⟨A, c, rfl, hc, hm⟩ := h.len
  have H := Lib.hid h
  clear h
  by_cases hbig : 4096 < b.length
  · go_enter Try.func4, Try.ntmps4
    go_wp2_with (go_at_call 8; go_must (refine (aliveL_any _).mono ?_; rintro e w1 ⟨rfl, hb⟩))
    go_ret
    exact ⟨rfl, hb⟩
  · have K1 := Lib.hid (fun W (hW : Below w.heap.size w W) => decode_any _ b W ((H.out.below hW).more hW.size) (by omega))
    have K2 := Lib.hid (fun W => refdecode_any b W (by omega))
    have hcvs := fun W (hW : Below w.heap.size w W) => run_text_of W _ _ b (H.out.below hW)
    obtain ⟨o, ho⟩ : ∃ o, dec b = o := ⟨_, rfl⟩
    obtain ⟨n, hn⟩ : ∃ n, o.getD zeroN = n := ⟨_, rfl⟩
    have K1 := Lib.hid (fun W (hW : Below w.heap.size w W) => (K1.out W hW).mono fun e w' h => decN_of (n := n) (by rw [ho]; exact hn) h)
    have K2 := Lib.hid (fun W => (K2.out W).mono fun e w' h => decN_of (n := n) (by rw [ho]; exact hn) h)
    rw [ho] at K1 K2
    clear ho hn
    have HCV := Lib.hid hcvs
    clear hcvs
    cases o
    all_goals
      go_enter Try.func4, Try.ntmps4
      go_wp2_with (first
        | (go_at_call 8
           go_must (
           refine (aliveL_any _).mono ?_
           rintro e w1 ⟨rfl, hb⟩
           have HB := Lib.hid hb
           clear hb))
        | (go_at_call 15
           go_must (
           refine (K1.out _ HB.out).mono ?_
           rintro e w2 ⟨hb, y, rfl, hn⟩
           obtain ⟨Ak, ck, Av, cv, Ai, ci, rfl⟩ := hn.len
           have NF := Lib.hid (hn.keep (new_below w2 (.cells #[.bool n.leaf, .slice Ak n.keys.length ck, .slice Av n.vals.length cv, .slice Ai n.kids.length ci] 25)))
           have HB := Lib.hid ((HB.out.trans (hb.mono HB.out.size)).trans ((new_below w2 (.cells #[.bool n.leaf, .slice Ak n.keys.length ck, .slice Av n.vals.length cv, .slice Ai n.kids.length ci] 25)).mono (HB.out.trans (hb.mono HB.out.size)).size))
           have BX : Hid (Bx (w2.alloc (.cells #[.bool n.leaf, .slice Ak n.keys.length ck, .slice Av n.vals.length cv, .slice Ai n.kids.length ci] 25)) w2.heap.size n.leaf (.slice Ak n.keys.length ck) (.slice Av n.vals.length cv) (.slice Ai n.kids.length ci)) := heap_alloc_new w2 _
           have hcv := HCV.out _ HB.out
           clear hb hn))
        | (go_at_call 16
           go_must (
           refine (K2.out _).mono ?_
           rintro e w3 ⟨hb, y, rfl, hn⟩
           obtain ⟨Bk, dk, Bv, dv, Bi, di, rfl⟩ := hn.len
           have hnb3 := new_below w3 (.cells #[.bool n.leaf, .slice Bk n.keys.length dk, .slice Bv n.vals.length dv, .slice Bi n.kids.length di] 25)
           have NF3 := Lib.hid (hn.keep hnb3)
           have NF := Lib.hid ((NF.out.keep hb).keep hnb3)
           have HB := Lib.hid ((HB.out.trans (hb.mono HB.out.size)).trans (hnb3.mono (HB.out.trans (hb.mono HB.out.size)).size))
           have BX := Lib.hid ((BX.out.on hb).on hnb3)
           have BX3 : Hid (Bx (w3.alloc (.cells #[.bool n.leaf, .slice Bk n.keys.length dk, .slice Bv n.vals.length dv, .slice Bi n.kids.length di] 25)) w3.heap.size n.leaf (.slice Bk n.keys.length dk) (.slice Bv n.vals.length dv) (.slice Bi n.kids.length di)) := heap_alloc_new w3 _
           have x0 := BX.out.cell0; have x1 := BX.out.cell1; have x2 := BX.out.cell2; have x3 := BX.out.cell3
           have z0 := BX3.out.cell0; have z1 := BX3.out.cell1; have z2 := BX3.out.cell2; have z3 := BX3.out.cell3
           clear hb hn hnb3))
        | (go_at_call 17
           go_must (
           refine (sameN_any _ _ _ _ NF.out.node NF3.out.node).mono ?_
           rintro e w4 ⟨rfl, hb⟩
           have HB := Lib.hid (HB.out.trans (hb.mono HB.out.size))
           clear hb)))
      go_ret
      exact ⟨rfl, HB.out⟩

end Go.Proofs.Ytjilkpgbojjnfaa.LeafDecodes
