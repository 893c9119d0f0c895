/-
  The reference's Reader: Fail, Good, End, Uint, Int, In, Take, Text. Conditions: none.
-/
import Derived.Test.YtcliknmcefcaeaaReads
import Derived.Test.YtcliknmcefcaeaaNumber
import Derived.Test.YtcliknmcefcaeaaMathC
namespace Go.Proofs.Ytcliknmcefcaeaa.Cd
open Go.RowKit

/-- Block g is the reference's reader that has the bytes 'bs' left. -/
def Rf (w : World) (g : Nat) (bs : List UInt8) (bad : Bool) : Prop := w.heap[g]? = some (.cells #[.string ⟨bs.toArray⟩, .bool bad] 87 (0, 0))

section
variable {w w' : World} {g : Nat} {bs : List UInt8} {bad : Bool}
theorem Rf.lt (h : Rf w g bs bad) : g < w.heap.size := by
  rcases Nat.lt_or_ge g w.heap.size with hlt | hge
  · exact hlt
  · unfold Rf at h; rw [Array.getElem?_eq_none hge] at h; cases h
theorem Rf.cell0 (h : Rf w g bs bad) : w.cell? ⟨g, 0, none⟩ = some (.string ⟨bs.toArray⟩) := cell_of_row w g 0 _ _ (0, 0) h
theorem Rf.cell1 (h : Rf w g bs bad) : w.cell? ⟨g, 1, none⟩ = some (.bool bad) := cell_of_row w g 1 _ _ (0, 0) h
theorem Rf.frozen (h : Rf w g bs bad) (i : Nat) : w.frozen? ⟨g, i, none⟩ = false := by
  unfold Rf at h
  simp [World.frozen?, h]
theorem Rf.drew (h : Rf w g bs bad) : Rf w.drew g bs bad := h
theorem Rf.set0 (h : Rf w g bs bad) {v : Value} (cs : List UInt8) (hv : v = .string ⟨cs.toArray⟩) : Rf (w.setCell ⟨g, 0, none⟩ v) g cs bad := by
  subst hv
  unfold Rf at h ⊢
  simp [World.setCell, Array.getElem?_modify, h]
theorem Rf.set1 (h : Rf w g bs bad) (b : Bool) : Rf (w.setCell ⟨g, 1, none⟩ (.bool b)) g bs b := by
  unfold Rf at h ⊢
  simp [World.setCell, Array.getElem?_modify, h]
theorem Rf.below {B : Nat} (h : Rf w g bs bad) (hb : Below B w w') (hg : g < B) : Rf w' g bs bad := (hb.block g hg).trans h
theorem Rf.new (h : Rf w g bs bad) (o : Obj) : Rf (w.alloc o) g bs bad :=
  h.below ((Below.refl w.heap.size w).alloc (Nat.le_refl _) o) h.lt
/-- Another block's writes leave it. -/
theorem Rf.far {g' : Nat} (h : Rf w g bs bad) (hg : w.grownBy w' (some g')) (hne : g ≠ g') : Rf w' g bs bad := (hg.block g h.lt (fun e => hne (by injection e))).trans h
theorem Rd.far {g' : Nat} (h : Rd w g bs bad) (hg : w.grownBy w' (some g')) (hne : g ≠ g') : Rd w' g bs bad := (hg.block g h.lt (fun e => hne (by injection e))).trans h
end

def LeftF (w : World) (g : Nat) (bs : List UInt8) (bad : Bool) (w' : World) : Prop := Rf w' g bs bad ∧ w.grownBy w' (some g)
def AnsF (v : Value) (w : World) (g : Nat) (bs : List UInt8) (bad : Bool) (e : Ending) (w' : World) : Prop := e = .returned v ∧ LeftF w g bs bad w'
theorem leftF_trans {w w1 w2 : World} {g : Nat} {a b : List UInt8} {x y : Bool} (h : LeftF w g a x w1) (k : LeftF w1 g b y w2) : LeftF w g b y w2 := ⟨k.1, grown_trans h.2 k.2⟩

set_option maxHeartbeats 400000 in
theorem ffail_any (g : Nat) (bs : List UInt8) (bad : Bool) (w : World) (hr : Rf w g bs bad) :
    Calls Try.prog 81 #[.pointer (some ⟨g, 0, none⟩)] w fun e w' => e = .returned (.tuple #[]) ∧ LeftF w g [] true w' := by
  have hc0 := hr.cell0
  have hc1 := hr.cell1
  have hf0 := hr.frozen 0
  have hf1 := hr.frozen 1
  go_enter Try.func81, Try.ntmps81
  go_wp2_with fail
  go_end0
  exact ⟨rfl, (hr.set1 true).set0 [] rfl, grown_trans (grown_set _ _ _ _) (grown_set _ _ _ _)⟩

set_option maxHeartbeats 400000 in
theorem fgood_any (g : Nat) (bs : List UInt8) (bad : Bool) (w : World) (hr : Rf w g bs bad) :
    Calls Try.prog 51 #[.pointer (some ⟨g, 0, none⟩)] w fun e w' => e = .returned (.bool !bad) ∧ w = w' := by
  have hc := hr.cell1
  go_enter Try.func51, Try.ntmps51
  go_wp2_with fail
  go_ret
  exact ⟨rfl, rfl⟩

set_option maxHeartbeats 400000 in
theorem fend_any (g : Nat) (bs : List UInt8) (bad : Bool) (w : World) (hr : Rf w g bs bad) :
    Calls Try.prog 53 #[.pointer (some ⟨g, 0, none⟩)] w fun e w' => e = .returned (.bool (!bad && bs.isEmpty)) ∧ w = w' := by
  have hc0 := hr.cell0
  have hc1 := hr.cell1
  cases bad
  · go_enter Try.func53, Try.ntmps53
    go_wp2_with fail
    go_ret
    exact ⟨by simp, rfl⟩
  · go_enter Try.func53, Try.ntmps53
    go_wp2_with fail
    go_ret
    exact ⟨rfl, rfl⟩

theorem at8_list (l : List UInt8) (k : Nat) (h : k < (ByteArray.mk l.toArray).size) : (ByteArray.mk l.toArray)[k].toNat = at8 l k := at8_of ⟨l.toArray⟩ k h

theorem stop_at (l : List UInt8) (k : Nat) (h : k < stop l) : 128 ≤ at8 l k := stop_lo l k h

/-- What the bytes from j on say, shifted down. -/
theorem val_split (l : List UInt8) (j m e : Nat) (h : val l (e + 1) = val l (j + 1) + m * 128 ^ (j + 1)) : val l (e + 1) = val l j + (m * 128 + at8 l j % 128) * 128 ^ j := by
  rw [h, val, Nat.pow_succ, Nat.add_mul, Nat.mul_assoc m 128, Nat.mul_comm 128 (128 ^ j)]
  omega

theorem part_lt (l : List UInt8) (j x e : Nat) (hb : val l (e + 1) < 18446744073709551616) (h : val l (e + 1) = val l j + x * 128 ^ j) : x < 18446744073709551616 := by
  have h1 : x * 1 ≤ x * 128 ^ j := Nat.mul_le_mul_left _ (Nat.pow_pos (by omega))
  omega

set_option maxRecDepth 100000 in
set_option maxHeartbeats 1000000 in
theorem fuint_any (g : Nat) (bs : List UInt8) (bad : Bool) (w : World) (hr : Rf w g bs bad) (hbb : Sane bad bs) (hs : bs.length ≤ 140737488355328) :
    Calls Try.prog 50 #[.pointer (some ⟨g, 0, none⟩)] w (AnsF (.int .u64 (nv bs : Nat)) w g (uB bs) (uX bs)) := by
  have HR := Lib.hid hr
  have HBB := Lib.hid hbb
  have hc0 := hr.cell0
  have hf0 := hr.frozen 0
  have hsl := stop_le bs
  clear hr hbb
  go_enter Try.func50, Try.ntmps50
  go_wp2
  go_loop [3] (fun i => ∃ k : Nat, i = .int .i64 k ∧ k ≤ stop bs) (fun i => stop bs - (intOf i).toNat)
  case atStart => exact ⟨0, rfl, by omega⟩
  case round =>
    obtain ⟨k, rfl, hk⟩ := hrel
    by_cases hlt : k < stop bs
    · have hkl : k < bs.length := by omega
      have h8 := stop_at bs k hlt
      rw [← at8_list bs k hkl] at h8
      obtain ⟨c, hc⟩ : ∃ c, (ByteArray.mk bs.toArray)[k]'hkl = c := ⟨_, rfl⟩
      rw [hc] at h8
      go_wp2_with fail
      go_round
      case rel => exact ⟨k + 1, by go_num, by omega⟩
      case measure => simp [intOf]; omega
    · have hkk : k = stop bs := by omega
      subst hkk
      clear hlt hk
      have HSL := Lib.hid hsl
      by_cases hend : bs.length ≤ stop bs
      · have hbad : Hid (Bad bs) := .inl hend
        have hnl : ¬ stop bs < bs.length := by omega
        go_wp2_with (go_at_call 81; refine (ffail_any g bs bad _ HR.out).mono ?_; rintro e w1 ⟨rfl, hl⟩)
        go_ret
        rw [show uB bs = [] from if_pos hbad.out, show uX bs = true from decide_eq_true hbad.out, nv_bad hbad.out]
        exact ⟨rfl, hl⟩
      · have hkl : stop bs < bs.length := by omega
        have h8 := stop_hi bs hkl
        rw [← at8_list bs _ hkl] at h8
        obtain ⟨c, hc⟩ : ∃ c, (ByteArray.mk bs.toArray)[stop bs]'hkl = c := ⟨_, rfl⟩
        have hat : Hid (c.toNat = at8 bs (stop bs)) := by unfold Hid; rw [← at8_list bs _ hkl, hc]
        rw [hc] at h8
        have hbadc : bad = false := by
          cases bad with
          | false => rfl
          | true => have := HBB.out rfl; rw [this] at hkl; simp at hkl
        subst hbadc
        by_cases h9 : 9 < stop bs
        · have hbad : Hid (Bad bs) := .inr (.inl h9)
          go_wp2_with (go_at_call 81; refine (ffail_any g bs _ _ HR.out).mono ?_; rintro e w1 ⟨rfl, hl⟩)
          go_ret
          rw [show uB bs = [] from if_pos hbad.out, show uX bs = true from decide_eq_true hbad.out, nv_bad hbad.out]
          exact ⟨rfl, hl⟩
        · by_cases hz : 0 < stop bs ∧ c.toNat = 0
          · have hbad : Hid (Bad bs) := .inr (.inr (.inl ⟨hz.1, by rw [← hat.out]; exact hz.2⟩))
            have h0 := hz.1
            have hq : ((c.toNat : Int) == 0) = true := by simp; omega
            clear hz
            go_wp2_with (go_at_call 81; refine (ffail_any g bs _ _ HR.out).mono ?_; rintro e w1 ⟨rfl, hl⟩)
            go_ret
            rw [show uB bs = [] from if_pos hbad.out, show uX bs = true from decide_eq_true hbad.out, nv_bad hbad.out]
            exact ⟨rfl, hl⟩
          · by_cases hn9 : stop bs = 9 ∧ 1 < c.toNat
            · obtain ⟨e9, hc1⟩ := hn9
              have hbad : Hid (Bad bs) := .inr (.inr (.inr ⟨e9, by have := hat.out; rw [e9] at this; omega⟩))
              have hq : ((c.toNat : Int) == 0) = false := by simp; omega
              have hE : ((stop bs : Int) == 9) = true := by simp; omega
              have h0 : 0 < stop bs := by omega
              have h9l : 9 < bs.length := by omega
              have hc9 : (ByteArray.mk bs.toArray)[9]'h9l = c := by rw [← hc]; congr 1; exact e9.symm
              clear e9 hz
              go_wp2_with (go_at_call 81; refine (ffail_any g bs _ _ HR.out).mono ?_; rintro e w1 ⟨rfl, hl⟩)
              go_ret
              rw [show uB bs = [] from if_pos hbad.out, show uX bs = true from decide_eq_true hbad.out, nv_bad hbad.out]
              exact ⟨rfl, hl⟩
            · have hgood : ¬ Bad bs := by
                have := hat.out
                unfold Bad
                rintro (h | h | ⟨h, h'⟩ | ⟨h, h'⟩)
                · omega
                · omega
                · exact hz ⟨h, by omega⟩
                · exact hn9 ⟨h, by rw [← h] at h'; omega⟩
              have hval := val_u64 hgood
              have HV := Lib.hid hval
              have hx : Hid (uB bs = bs.drop (stop bs + 1) ∧ uX bs = false ∧ nv bs = val bs (stop bs + 1)) := ⟨by unfold uB; rw [if_neg hgood, ns_good hgood], decide_eq_false hgood, nv_good hgood⟩
              clear hgood hval
              have HAT := Lib.hid hat.out
              have HC := Lib.hid hc
              have hlen : (ByteArray.mk bs.toArray).size = bs.length := rfl
              have hways : (¬ 0 < stop bs ∧ ((stop bs : Int) == 9) = false) ∨ (0 < stop bs ∧ ((c.toNat : Int) == 0) = false ∧ ((stop bs : Int) == 9) = false) ∨
                  (0 < stop bs ∧ ((c.toNat : Int) == 0) = false ∧ ((stop bs : Int) == 9) = true ∧ ¬ 1 < c.toNat ∧ ∃ h9l : 9 < bs.length, (ByteArray.mk bs.toArray)[9]'h9l = c) := by
                by_cases a0 : 0 < stop bs
                · have hcz : ((c.toNat : Int) == 0) = false := by simp; omega
                  by_cases a9 : stop bs = 9
                  · exact .inr (.inr ⟨a0, hcz, by simp; omega, by omega, by omega, by rw [← hc]; congr 1; exact a9.symm⟩)
                  · exact .inr (.inl ⟨a0, hcz, by simp; omega⟩)
                · exact .inl ⟨a0, by simp; omega⟩
              rcases hways with ⟨hs0, hE⟩ | ⟨hs0, hq, hE⟩ | ⟨hs0, hq, hE, hc1, h9l, hc9⟩
              all_goals
                clear hz hn9
                go_wp2_with fail
                go_loop [4, 5] (fun n i => ∃ (j m : Nat), i = .int .i64 ((j : Int) - 1) ∧ n = .int .u64 m ∧ j ≤ stop bs + 1 ∧ Hid (val bs (stop bs + 1) = val bs j + m * 128 ^ j)) (fun _ i => (intOf i + 1).toNat)
                case atStart => exact ⟨stop bs + 1, 0, congrArg (Value.int .i64) (by omega), rfl, by omega, by unfold Hid; omega⟩
                case round =>
                  obtain ⟨j, m, rfl, rfl, hj, hv⟩ := hrel
                  cases j with
                  | succ j =>
                    have hjl : j < bs.length := by omega
                    obtain ⟨d, hd⟩ : ∃ d, (ByteArray.mk bs.toArray)[j]'hjl = d := ⟨_, rfl⟩
                    have hdat : Hid (d.toNat = at8 bs j) := by unfold Hid; rw [← at8_list bs _ hjl, hd]
                    have hnew : Hid (val bs (stop bs + 1) = val bs j + (m * 128 + d.toNat % 128) * 128 ^ j) := by
                      unfold Hid
                      rw [hdat.out]
                      exact val_split bs j m (stop bs) hv.out
                    have hlt64 : m * 128 + d.toNat % 128 < 18446744073709551616 := part_lt bs j _ (stop bs) HV.out hnew.out
                    have hd8 := d.toNat_lt
                    rw [show ((j + 1 : Nat) : Int) - 1 = (j : Int) by omega]
                    clear hv
                    go_wp2_with fail
                    go_round
                    case rel => exact ⟨j, m * 128 + d.toNat % 128, rfl, by go_num, by omega, hnew⟩
                    case measure => simp [intOf]
                  | zero =>
                    have hm0 : Hid (nv bs = m) := by
                      have h1 := hv.out
                      have h2 := hx.out.2.2
                      rw [val, Nat.pow_zero, Nat.mul_one, Nat.zero_add] at h1
                      rw [← h2] at h1
                      exact h1
                    go_wp2_with fail
                    go_ret
                    obtain ⟨x1, x2, x3⟩ := hx.out
                    rw [x1, x2, hm0.out]
                    refine ⟨rfl, HR.out.set0 _ ?_, grown_set _ _ _ _⟩
                    rw [extract_tail _ _ _ rfl]

end Go.Proofs.Ytcliknmcefcaeaa.Cd
