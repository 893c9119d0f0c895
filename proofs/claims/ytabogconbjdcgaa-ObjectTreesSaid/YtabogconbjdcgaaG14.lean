/-
  The document's GetTree. Conditions: none.
-/
import Derived.Test.YtabogconbjdcgaaG11
import Derived.Test.YtabogconbjdcgaaG13
import Derived.Test.YtabogconbjdcgaaG7
import Derived.Test.YtabogconbjdcgaaG10
import Derived.Test.YtabogconbjdcgaaG9
/-
  What GoodTree asks, told plainly. Conditions: none.
-/
namespace Go.Proofs.Ytabogconbjdcgaa.Cd
open Go.RowKit

def ssC (s : List UInt8) : List Value := [.string ⟨s.toArray⟩]
theorem kind_ss : Kind ssC 1 9 62 16 (.string ByteArray.empty) where
  pos := by omega
  len := fun _ => rfl
  one := by
    intro x u hu
    simp only [ssC, List.mem_cons, List.not_mem_nil, or_false] at hu
    subst hu
    rfl
  slice := Try.underlying62
  info := by kernel_rfl
  zero := rfl
  few := by omega
theorem rw_one_at {α : Type} {f : α → List Value} {n : Nat} {T S : TypeId} {bytes : Nat} {z : Value} (K : Kind f n T S bytes z) (w : World) (p : α) (T' : TypeId) (X : Array Value) (hX : X = (f p).toArray) (A : Nat) (hA : w.heap.size = A) : RwIn f n (w.alloc (.cells X T')) (A + 1) (.slice (some ⟨A, 0, none⟩) 1 1) [p] := by
  subst hA
  exact rw_one K w p T' X hX
theorem ssIn.at1 {w : World} {B : Nat} {l : List (List UInt8)} {A : Option Addr} {m c : Nat} (h : RwIn ssC 1 w B (.slice A m c) l) {k : Nat} {p : List UInt8} (hk : l[k]? = some p) :
    ∃ b off, A = some ⟨b, off, none⟩ ∧ b < B ∧ w.cell? ⟨b, off + k, none⟩ = some (.string ⟨p.toArray⟩) := by
  obtain ⟨b, off, e, hB, hc⟩ := RwIn.at h hk
  have := hc 0 _ rfl
  rw [Nat.mul_one, Nat.add_zero] at this
  exact ⟨b, off, e, hB, this⟩

/-- A tree's keys. -/
def keysT (t : Tre) : List (List UInt8) := t.ps.map (·.1) ++ t.ks.map (·.1)
theorem goodT_keys {t : Tre} (h : GoodT t) : (∀ s ∈ keysT t, s.length ≤ 16) ∧ Rises (keysT t) := by
  unfold keysT
  rcases h with ⟨h1, h2⟩ | ⟨h1, h2⟩
  · rw [h1, List.map_nil, List.append_nil]
    exact ⟨fun s hs => by obtain ⟨p, hp, rfl⟩ := List.mem_map.1 hs; exact h2.key p hp, h2.rise⟩
  · rw [h1, List.map_nil, List.nil_append]
    exact ⟨fun s hs => by obtain ⟨p, hp, rfl⟩ := List.mem_map.1 hs; exact h2.key p hp, h2.rise⟩
theorem goodT_val {t : Tre} (h : GoodT t) : ∀ p ∈ t.ps, p.2.length ≤ 16 := by
  rcases h with ⟨_, h2⟩ | ⟨h1, _⟩
  · exact h2.val
  · intro p hp; rw [h1] at hp; cases hp
theorem goodT_name {t : Tre} (h : GoodT t) : ∀ p ∈ t.ks, goodI p.2.1 = true ∧ ∀ q, t.ks[0]? = some q → kd p.2 = kd q.2 := by
  rcases h with ⟨h1, _⟩ | ⟨_, h2⟩
  · intro p hp; rw [h1] at hp; cases hp
  · exact fun p hp => ⟨h2.name p hp, h2.kind p hp⟩
theorem goodT_shape {t : Tre} (h : GoodT t) : ¬ ((0 < t.ks.length ∧ (0 < t.ps.length ∨ t.ks.length < 2 ∨ 3 < t.ks.length)) ∨ 4 < t.ps.length) := by
  rcases h with ⟨h1, h2⟩ | ⟨h1, h2⟩
  · have := h2.few
    rw [h1]
    simp only [List.length_nil]
    omega
  · have a := h2.few
    have b := h2.more
    rw [h1]
    simp only [List.length_nil]
    omega
theorem goodT_of {t : Tre} (h0 : ¬ ((0 < t.ks.length ∧ (0 < t.ps.length ∨ t.ks.length < 2 ∨ 3 < t.ks.length)) ∨ 4 < t.ps.length)) (h1 : ∀ p ∈ t.ps, p.2.length ≤ 16) (h2 : ∀ p ∈ t.ks, goodI p.2.1 = true ∧ ∀ q, t.ks[0]? = some q → kd p.2 = kd q.2) (h3 : ∀ s ∈ keysT t, s.length ≤ 16) (h4 : Rises (keysT t)) : GoodT t := by
  unfold keysT at h3 h4
  by_cases hk : t.ks.length = 0
  · have e := List.eq_nil_of_length_eq_zero hk
    rw [e, List.map_nil, List.append_nil] at h3 h4
    exact .inl ⟨e, by omega, fun p hp => h3 _ (List.mem_map.2 ⟨p, hp, rfl⟩), h1, h4⟩
  · have hp : t.ps.length = 0 := by omega
    have e := List.eq_nil_of_length_eq_zero hp
    rw [e, List.map_nil, List.nil_append] at h3 h4
    exact .inr ⟨e, by omega, by omega, fun p hp => h3 _ (List.mem_map.2 ⟨p, hp, rfl⟩), fun p hp => (h2 p hp).1, fun p hp => (h2 p hp).2, h4⟩
theorem map_take {α β : Type} (f : α → β) {l : List α} {k : Nat} {x : α} (h : l[k]? = some x) : (l.take (k + 1)).map f = (l.take k).map f ++ [f x] := by
  obtain ⟨hk, rfl⟩ := List.getElem?_eq_some_iff.1 h
  rw [List.take_succ_eq_append_getElem hk, List.map_append]
  rfl

end Go.Proofs.Ytabogconbjdcgaa.Cd

/-
  The document's GoodTree, of pairs. Conditions: none.
-/
namespace Go.Proofs.Ytabogconbjdcgaa.Cd
open Go.RowKit

set_option maxRecDepth 100000 in
set_option maxHeartbeats 12800000 in
theorem rgoodt_a (t : Tre) (w : World) (A1 : Option Addr) (c1 : Nat) (A2 : Option Addr) (c2 : Nat) (H1 : Hid (PsIn w w.heap.size (.slice A1 t.ps.length c1) t.ps)) (H2 : Hid (KsIn w w.heap.size (.slice A2 t.ks.length c2) t.ks)) (k1 : t.ps.length ≤ c1) (l1 : c1 ≤ 9223372036854775807) (k2 : t.ks.length ≤ c2) (l2 : c2 ≤ 9223372036854775807) (hsm : t.ps.length ≤ 1000) (hsk : t.ks.length ≤ 1000) (HSH : Hid (¬ ((0 < t.ks.length ∧ (0 < t.ps.length ∨ t.ks.length < 2 ∨ 3 < t.ks.length)) ∨ 4 < t.ps.length))) (q1 : ¬ 0 < t.ks.length) (q2 : ¬ 4 < t.ps.length) : Calls Try.prog 11 #[.agg #[.slice A1 t.ps.length c1, .slice A2 t.ks.length c2]] w (Says (GoodT t) w) := by
  have HB1 : Hid (Below w.heap.size w (w.alloc (.cells #[.slice A1 t.ps.length c1, .slice A2 t.ks.length c2] 25))) := new_below _ _
  have HT1 : Hid (TrAt (w.alloc (.cells #[.slice A1 t.ps.length c1, .slice A2 t.ks.length c2] 25)) w.heap.size (.slice A1 t.ps.length c1) (.slice A2 t.ks.length c2)) := TrAt.new _ _ _
  have hz1 : w.heap.size + 1 ≤ (w.alloc (.cells #[.slice A1 t.ps.length c1, .slice A2 t.ks.length c2] 25)).heap.size := by rw [asz]; omega
  have HQ := Lib.hid q1
  have a2 : decide ((4 : Int) < t.ps.length) = false := decide_eq_false (by omega)
  clear q2
  go_enter Try.func11, Try.ntmps11
  go_wp2_with fail
  clear q1 a2
  generalize w.alloc (.cells #[.slice A1 t.ps.length c1, .slice A2 t.ks.length c2] 25) = w1 at *
  go_loopw [3, 41] (fun u i wr => ∃ k : Nat, i = .int .i64 k ∧ k ≤ t.ps.length ∧ Hid (OwnRw ssC 1 9 wr (w.heap.size + 1) u ((t.ps.take k).map (·.1))) ∧ Hid (∀ (j : Nat) p, j < k → t.ps[j]? = some p → p.2.length ≤ 16) ∧ Hid (Below w.heap.size w wr) ∧ Hid (TrAt wr w.heap.size (.slice A1 t.ps.length c1) (.slice A2 t.ks.length c2)) ∧ w.heap.size + 1 ≤ wr.heap.size) (fun _ i _ => t.ps.length - (intOf i).toNat)
  case atStart => exact ⟨0, rfl, by omega, OwnRw.nil _ _, fun j _ h => by omega, HB1.out, HT1.out, hz1⟩
  case round =>
    clear HB1 HT1 hz1
    obtain ⟨k, rfl, hk, ho, hv, hbl, htr, hzr⟩ := hrel
    by_cases hlt : k < t.ps.length
    · obtain ⟨x, hxk⟩ : ∃ x, t.ps[k]? = some x := ⟨t.ps[k], List.getElem?_eq_getElem hlt⟩
      obtain ⟨b2, off2, e2, hB2, d0, d1⟩ := PsIn.at2 (H1.out.below hbl.out) hxk
      subst e2
      have HX := Lib.hid hxk
      have HMT := Lib.hid (map_take (·.1) hxk)
      have hkl : ((t.ps.take k).map (·.1)).length ≤ 1000 := by rw [List.length_map, List.length_take]; omega
      clear hxk
      generalize (t.ps.take k).map (·.1) = L at *
      have hb3 : Below wr.heap.size wr (wr.alloc (.cells #[.string ⟨x.1.toArray⟩, .string ⟨x.2.toArray⟩] 56)) := new_below _ _
      have hz3 : w.heap.size + 1 ≤ (wr.alloc (.cells #[.string ⟨x.1.toArray⟩, .string ⟨x.2.toArray⟩] 56)).heap.size := by rw [asz]; omega
      have HB3 := Lib.hid (hbl.out.trans (hb3.mono (by omega)))
      have HT3 := Lib.hid (htr.out.below hb3 (by omega))
      have HO3 := Lib.hid (ho.out.alloc (.cells #[.string ⟨x.1.toArray⟩, .string ⟨x.2.toArray⟩] 56))
      have hzx : (ByteArray.mk x.2.toArray).size = x.2.length := rfl
      clear hb3
      by_cases hs : 16 < x.2.length
      · have hno : Hid (¬ GoodT t) := fun h => by have := goodT_val h _ (List.mem_of_getElem? HX.out); omega
        have hs' : (16 : Int) < x.2.length := by omega
        clear hs
        go_wp2_with fail
        go_ret
        exact ⟨false, rfl, ⟨(fun h => by cases h), fun h => absurd h hno.out⟩, HB3.out⟩
      · have hs' : ¬ (16 : Int) < x.2.length := by omega
        have hv2 : Hid (∀ (j : Nat) p, j < k + 1 → t.ps[j]? = some p → p.2.length ≤ 16) := fun j p hj hjp => by
          by_cases e : j = k
          · subst e
            rw [HX.out] at hjp
            injection hjp with hjp
            subst hjp
            omega
          · exact hv.out j p (by omega) hjp
        clear hs
        go_wp2_with (refine wp_append_rw kind_ss rfl _ _ rfl rfl (HO3.out.alloc _) (by rw [asz]; omega) _ _ [x.1] rfl (rw_one_at kind_ss _ x.1 9 _ rfl _ (asz _ _)) (by simp only [List.length_singleton]; omega) ?_)
        intro v4 w4 ho4 hb4 _
        have hb5 : Below (w.heap.size + 1) (wr.alloc (.cells #[.string ⟨x.1.toArray⟩, .string ⟨x.2.toArray⟩] 56)) w4 := ((new_below _ _).mono hz3).trans hb4
        have HB4 := Lib.hid (HB3.out.trans (hb5.mono (by omega)))
        have HT4 := Lib.hid (HT3.out.below hb5 (by omega))
        have HO4 := Lib.hid ho4
        have hz4 : w.heap.size + 1 ≤ w4.heap.size := Nat.le_trans hz3 hb5.size
        clear hb4 hb5 ho4
        go_wp2_with fail
        go_roundw
        case rel => exact ⟨k + 1, by go_num, by omega, by rw [HMT.out]; exact HO4.out, hv2, HB4.out, HT4.out, hz4⟩
        case measure => simp [intOf]; omega
    · have hvals : Hid (∀ p ∈ t.ps, p.2.length ≤ 16) := fun p hpl => by
        obtain ⟨j, hj, rfl⟩ := List.getElem_of_mem hpl
        exact hv.out j _ (by omega) (List.getElem?_eq_getElem hj)
      have hkk : k = t.ps.length := by omega
      rw [hkk, List.take_length] at ho
      have d1 := htr.out.c1
      clear hv
      go_wp2_with fail
      go_loopw [3, 58] (fun u i wx => ∃ k : Nat, i = .int .i64 k ∧ k ≤ t.ks.length ∧ Hid (OwnRw ssC 1 9 wx (w.heap.size + 1) u (t.ps.map (·.1) ++ (t.ks.take k).map (·.1))) ∧ Hid (∀ (j : Nat) p, j < k → t.ks[j]? = some p → goodI p.2.1 = true ∧ ∀ q, t.ks[0]? = some q → kd p.2 = kd q.2) ∧ Hid (Below w.heap.size w wx) ∧ Hid (TrAt wx w.heap.size (.slice A1 t.ps.length c1) (.slice A2 t.ks.length c2)) ∧ w.heap.size + 1 ≤ wx.heap.size) (fun _ i _ => t.ks.length - (intOf i).toNat)
      case atStart => exact ⟨0, rfl, by omega, by unfold Hid; rw [List.take_zero, List.map_nil, List.append_nil]; exact ho.out, fun j _ h => by omega, hbl.out, htr.out, hzr⟩
      case round =>
        clear ho hbl htr hzr d1 hkk hlt hk
        obtain ⟨k, rfl, hk, ho, hv, hbl, htr, hzr⟩ := hrel
        by_cases hlt : k < t.ks.length
        · exact absurd hlt (by have := HQ.out; omega)
        · have hnames : Hid (∀ p ∈ t.ks, goodI p.2.1 = true ∧ ∀ q, t.ks[0]? = some q → kd p.2 = kd q.2) := fun p hpl => by
            obtain ⟨j, hj, rfl⟩ := List.getElem_of_mem hpl
            exact hv.out j _ (by omega) (List.getElem?_eq_getElem hj)
          have hkk : k = t.ks.length := by omega
          rw [hkk, List.take_length] at ho
          have ho' : Hid (OwnRw ssC 1 9 wr (w.heap.size + 1) u3 (keysT t)) := ho.out
          have hyes : Hid ((∀ s ∈ keysT t, s.length ≤ 16) → Rises (keysT t) → GoodT t) := fun h3 h4 => goodT_of HSH.out hvals.out hnames.out h3 h4
          have hnol : Hid (∀ s ∈ keysT t, 16 < s.length → ¬ GoodT t) := fun s hs hl h => by have := (goodT_keys h).1 s hs; omega
          have hnor : Hid (¬ Rises (keysT t) → ¬ GoodT t) := fun hr h => hr (goodT_keys h).2
          clear hv ho
          obtain ⟨A3, c3, e3, k3, l3⟩ := (ho'.out.rwIn kind_ss).len
          have HIN : Hid (RwIn ssC 1 wr wr.heap.size u3 (keysT t)) := ho'.out.rwIn kind_ss
          subst e3
          generalize keysT t = K at *
          clear ho'
          go_wp2_with fail
          go_loop [86] (fun i => ∃ k : Nat, i = .int .i64 k ∧ k ≤ K.length ∧ Hid (∀ (j : Nat) p, j < k → K[j]? = some p → p.length ≤ 16) ∧ Hid (∀ (j : Nat) a b, j + 1 < k → K[j]? = some a → K[j + 1]? = some b → a < b)) (fun i => K.length - (intOf i).toNat)
          case atStart => exact ⟨0, rfl, by omega, fun j _ h => by omega, fun j _ _ h => by omega⟩
          case round =>
            clear hkk hlt hk
            obtain ⟨k, rfl, hk, hl, hr⟩ := hrel
            by_cases hlt : k < K.length
            · obtain ⟨x, hxk⟩ : ∃ x, K[k]? = some x := ⟨K[k], List.getElem?_eq_getElem hlt⟩
              obtain ⟨b2, off2, e2, hB2, d0⟩ := ssIn.at1 HIN.out hxk
              subst e2
              have HX := Lib.hid hxk
              clear hxk
              have hzx : (ByteArray.mk x.toArray).size = x.length := rfl
              by_cases hs : 16 < x.length
              · have hno : Hid (¬ GoodT t) := hnol.out x (List.mem_of_getElem? HX.out) hs
                have hs' : (16 : Int) < x.length := by omega
                clear hs
                go_wp2_with fail
                go_ret
                exact ⟨false, rfl, ⟨(fun h => by cases h), fun h => absurd h hno.out⟩, hbl.out⟩
              have hs' : ¬ (16 : Int) < x.length := by omega
              have hl2 : Hid (∀ (j : Nat) p, j < k + 1 → K[j]? = some p → p.length ≤ 16) := fun j p hj hjp => by
                by_cases e : j = k
                · subst e
                  rw [HX.out] at hjp
                  injection hjp with hjp
                  subst hjp
                  omega
                · exact hl.out j p (by omega) hjp
              clear hs
              by_cases h0 : 0 < k
              · obtain ⟨j, rfl⟩ : ∃ j, k = j + 1 := ⟨k - 1, by omega⟩
                obtain ⟨y, hyk⟩ : ∃ y, K[j]? = some y := ⟨K[j], List.getElem?_eq_getElem (by omega)⟩
                obtain ⟨b3, off3, e3, hB3, f0⟩ := ssIn.at1 HIN.out hyk
                injection e3 with e3
                injection e3 with e3 e4
                subst e3 e4
                have HY := Lib.hid hyk
                clear hyk
                have hgd : decide ((0 : Int) < (j : Int) + 1) = true := decide_eq_true (by omega)
                have hwj : IntKind.i64.wrap (j : Int) = (j : Int) := IntWalk.i64_in _ (by omega)
                by_cases hov : y < x
                · have hA : Op.bytesLess x y = false := (less_of x y).trans (decide_eq_false (List.lt_asymm hov))
                  have hB : (x == y) = false := beq_eq_false_iff_ne.2 (fun e => by rw [e] at hov; exact List.lt_irrefl _ hov)
                  have hr2 : Hid (∀ (i : Nat) a b, i + 1 < j + 1 + 1 → K[i]? = some a → K[i + 1]? = some b → a < b) := fun i a b hi ha hb => by
                    by_cases e : i = j
                    · subst e
                      rw [HY.out] at ha
                      rw [HX.out] at hb
                      injection ha with ha
                      injection hb with hb
                      subst ha hb
                      exact hov
                    · exact hr.out i a b (by omega) ha hb
                  clear hov
                  go_wp2_with fail
                  go_round
                  case rel => exact ⟨j + 1 + 1, by go_num, by omega, hl2, hr2⟩
                  case measure => simp [intOf]; omega
                · have hno : Hid (¬ GoodT t) := hnor.out (fun h => hov (h j y x HY.out HX.out))
                  have hways2 : (Op.bytesLess x y = true ∧ (x == y) = false) ∨ (Op.bytesLess x y = false ∧ x = y) := by
                    by_cases h2 : x < y
                    · exact .inl ⟨(less_of x y).trans (decide_eq_true h2), beq_eq_false_iff_ne.2 (fun e => by rw [e] at h2; exact List.lt_irrefl _ h2)⟩
                    · exact .inr ⟨(less_of x y).trans (decide_eq_false h2), List.le_antisymm hov h2⟩
                  clear hov
                  rcases hways2 with ⟨hA, hB⟩ | ⟨hA, hE⟩
                  · go_wp2_with fail
                    go_ret
                    exact ⟨false, rfl, ⟨(fun h => by cases h), fun h => absurd h hno.out⟩, hbl.out⟩
                  · have hB : (x == y) = true := by rw [hE]; exact beq_self_eq_true _
                    clear hE
                    go_wp2_with fail
                    go_ret
                    exact ⟨false, rfl, ⟨(fun h => by cases h), fun h => absurd h hno.out⟩, hbl.out⟩
              · obtain rfl : k = 0 := by omega
                have hgd : decide ((0 : Int) < ((0 : Nat) : Int)) = false := rfl
                rw [Nat.add_zero] at d0
                have hr2 : Hid (∀ (i : Nat) a b, i + 1 < 0 + 1 → K[i]? = some a → K[i + 1]? = some b → a < b) := fun i a b hi => by omega
                go_wp2_with fail
                go_round
                case rel => exact ⟨0 + 1, by go_num, by omega, hl2, hr2⟩
                case measure => simp [intOf]; omega
            · have HY : Hid (GoodT t) := hyes.out (fun s hs => by
                obtain ⟨j, hj, rfl⟩ := List.getElem_of_mem hs
                exact hl.out j _ (by omega) (List.getElem?_eq_getElem hj)) (fun j a b ha hb => hr.out j a b (by have := (List.getElem?_eq_some_iff.1 hb).1; omega) ha hb)
              clear hl hr
              go_wp2_with fail
              go_ret
              exact ⟨true, rfl, ⟨fun _ => HY.out, fun _ => rfl⟩, hbl.out⟩

end Go.Proofs.Ytabogconbjdcgaa.Cd

/-
  The document's GoodTree, of kids. Conditions: none.
-/
namespace Go.Proofs.Ytabogconbjdcgaa.Cd
open Go.RowKit

set_option maxRecDepth 100000 in
set_option maxHeartbeats 12800000 in
theorem rgoodt_b (t : Tre) (w : World) (A1 : Option Addr) (c1 : Nat) (A2 : Option Addr) (c2 : Nat) (H1 : Hid (PsIn w w.heap.size (.slice A1 t.ps.length c1) t.ps)) (H2 : Hid (KsIn w w.heap.size (.slice A2 t.ks.length c2) t.ks)) (k1 : t.ps.length ≤ c1) (l1 : c1 ≤ 9223372036854775807) (k2 : t.ks.length ≤ c2) (l2 : c2 ≤ 9223372036854775807) (hsm : t.ps.length ≤ 1000) (hsk : t.ks.length ≤ 1000) (HSH : Hid (¬ ((0 < t.ks.length ∧ (0 < t.ps.length ∨ t.ks.length < 2 ∨ 3 < t.ks.length)) ∨ 4 < t.ps.length))) (q1 : 0 < t.ks.length) (q2 : ¬ 0 < t.ps.length) (q3 : ¬ t.ks.length < 2) (q4 : ¬ 3 < t.ks.length) (q5 : ¬ 4 < t.ps.length) : Calls Try.prog 11 #[.agg #[.slice A1 t.ps.length c1, .slice A2 t.ks.length c2]] w (Says (GoodT t) w) := by
  have HB1 : Hid (Below w.heap.size w (w.alloc (.cells #[.slice A1 t.ps.length c1, .slice A2 t.ks.length c2] 25))) := new_below _ _
  have HT1 : Hid (TrAt (w.alloc (.cells #[.slice A1 t.ps.length c1, .slice A2 t.ks.length c2] 25)) w.heap.size (.slice A1 t.ps.length c1) (.slice A2 t.ks.length c2)) := TrAt.new _ _ _
  have hz1 : w.heap.size + 1 ≤ (w.alloc (.cells #[.slice A1 t.ps.length c1, .slice A2 t.ks.length c2] 25)).heap.size := by rw [asz]; omega
  have HQ := Lib.hid q2
  have a3 : decide ((t.ks.length : Int) < 2) = false := decide_eq_false (by omega)
  have a4 : decide ((3 : Int) < t.ks.length) = false := decide_eq_false (by omega)
  have a5 : decide ((4 : Int) < t.ps.length) = false := decide_eq_false (by omega)
  clear q3 q4 q5
  go_enter Try.func11, Try.ntmps11
  go_wp2_with fail
  clear q2 q1 a3 a4 a5
  generalize w.alloc (.cells #[.slice A1 t.ps.length c1, .slice A2 t.ks.length c2] 25) = w1 at *
  go_loopw [3, 41] (fun u i wr => ∃ k : Nat, i = .int .i64 k ∧ k ≤ t.ps.length ∧ Hid (OwnRw ssC 1 9 wr (w.heap.size + 1) u ((t.ps.take k).map (·.1))) ∧ Hid (∀ (j : Nat) p, j < k → t.ps[j]? = some p → p.2.length ≤ 16) ∧ Hid (Below w.heap.size w wr) ∧ Hid (TrAt wr w.heap.size (.slice A1 t.ps.length c1) (.slice A2 t.ks.length c2)) ∧ w.heap.size + 1 ≤ wr.heap.size) (fun _ i _ => t.ps.length - (intOf i).toNat)
  case atStart => exact ⟨0, rfl, by omega, OwnRw.nil _ _, fun j _ h => by omega, HB1.out, HT1.out, hz1⟩
  case round =>
    clear HB1 HT1 hz1
    obtain ⟨k, rfl, hk, ho, hv, hbl, htr, hzr⟩ := hrel
    by_cases hlt : k < t.ps.length
    · exact absurd hlt (by have := HQ.out; omega)
    · have hvals : Hid (∀ p ∈ t.ps, p.2.length ≤ 16) := fun p hpl => by
        obtain ⟨j, hj, rfl⟩ := List.getElem_of_mem hpl
        exact hv.out j _ (by omega) (List.getElem?_eq_getElem hj)
      have hkk : k = t.ps.length := by omega
      rw [hkk, List.take_length] at ho
      have d1 := htr.out.c1
      clear hv
      go_wp2_with fail
      go_loopw [3, 58] (fun u i wx => ∃ k : Nat, i = .int .i64 k ∧ k ≤ t.ks.length ∧ Hid (OwnRw ssC 1 9 wx (w.heap.size + 1) u (t.ps.map (·.1) ++ (t.ks.take k).map (·.1))) ∧ Hid (∀ (j : Nat) p, j < k → t.ks[j]? = some p → goodI p.2.1 = true ∧ ∀ q, t.ks[0]? = some q → kd p.2 = kd q.2) ∧ Hid (Below w.heap.size w wx) ∧ Hid (TrAt wx w.heap.size (.slice A1 t.ps.length c1) (.slice A2 t.ks.length c2)) ∧ w.heap.size + 1 ≤ wx.heap.size) (fun _ i _ => t.ks.length - (intOf i).toNat)
      case atStart => exact ⟨0, rfl, by omega, by unfold Hid; rw [List.take_zero, List.map_nil, List.append_nil]; exact ho.out, fun j _ h => by omega, hbl.out, htr.out, hzr⟩
      case round =>
        clear ho hbl htr hzr d1 hkk hlt hk
        obtain ⟨k, rfl, hk, ho, hv, hbl, htr, hzr⟩ := hrel
        by_cases hlt : k < t.ks.length
        · obtain ⟨x, hxk⟩ : ∃ x, t.ks[k]? = some x := ⟨t.ks[k], List.getElem?_eq_getElem hlt⟩
          obtain ⟨y, hy0⟩ : ∃ y, t.ks[0]? = some y := ⟨t.ks[0]'(by omega), List.getElem?_eq_getElem (by omega)⟩
          obtain ⟨b2, off2, e2, hB2, rx⟩ := KsIn.range (H2.out.below hbl.out) hxk
          obtain ⟨b3, off3, e3, hB3, ry⟩ := KsIn.range (H2.out.below hbl.out) hy0
          subst e2
          injection e3 with e3
          injection e3 with e3 e4
          subst e3 e4
          rw [show off2 + 0 * 34 = off2 by omega] at ry
          have HX := Lib.hid hxk
          have HY := Lib.hid hy0
          have RX := Lib.hid rx
          have RY := Lib.hid ry
          have HMT := Lib.hid (map_take (·.1) hxk)
          have hkl : (t.ps.map (·.1) ++ (t.ks.take k).map (·.1)).length ≤ 2000 := by rw [List.length_append, List.length_map, List.length_map, List.length_take]; omega
          obtain ⟨L, hL⟩ : ∃ L, t.ps.map (·.1) ++ (t.ks.take k).map (·.1) = L := ⟨_, rfl⟩
          rw [hL] at ho hkl
          have HL := Lib.hid hL
          clear hxk hy0 rx ry hL
          have hb3 : Below wr.heap.size wr (wr.alloc (.cells (kkC x).toArray 59)) := new_below _ _
          have hz3 : (wr.alloc (.cells (kkC x).toArray 59)).heap.size = wr.heap.size + 1 := asz _ _
          have HB3 := Lib.hid (hbl.out.trans (hb3.mono (by omega)))
          have HT3 := Lib.hid (htr.out.below hb3 (by omega))
          have HO3 := Lib.hid (ho.out.alloc (.cells (kkC x).toArray 59))
          have HK3 : Hid (KidAt (wr.alloc (.cells (kkC x).toArray 59)) wr.heap.size x) := KidAt.new _ _
          have HY3 : Hid ((wr.alloc (.cells (kkC x).toArray 59)).rangeAt b2 off2 (kkC y)) := fun j v hv => (hb3.cell (p := ⟨b2, off2 + j, none⟩) (by show b2 < wr.heap.size; omega)).trans (RY.out j v hv)
          have hj0 : (0 : Int) < t.ks.length := by omega
          have HNM := Lib.hid (fun W => name_l x.2.1 W x.2.2)
          clear hb3 hbl htr ho
          go_wp2_with (first
            | (refine wpList_load_mid rfl 59 _ rfl b2 (off2 + k * 34) rfl (kkC x) _ RX.out Try.underlying59 rfl (cells_kk x) ?_)
            | (refine wp_alloc_row zero_kk rfl rfl ?_)
            | (refine wp_fill_kk rfl _ _ rfl rfl (by simp [Act.eval, Act.put]) x rfl ?_))
          generalize wr.alloc (.cells (kkC x).toArray 59) = W1 at *
          obtain ⟨W0, hW0⟩ : ∃ x, W1.drew = x := ⟨_, rfl⟩
          have hS0 : (TrAt W0 w.heap.size (.slice A1 t.ps.length c1) (.slice (some ⟨b2, off2, none⟩) t.ks.length c2) ∧ KidAt W0 wr.heap.size x) ∧ W0.rangeAt b2 off2 (kkC y) := by
            rw [← hW0]
            exact ⟨⟨HT3.out, HK3.out⟩, HY3.out⟩
          have HBD : Hid (Below w.heap.size w W0) := by rw [← hW0]; exact HB3.out.drew
          have HOD : Hid (OwnRw ssC 1 9 W0 (w.heap.size + 1) u3 L) := by rw [← hW0]; exact HO3.out.drew
          have hsz0 : W0.heap.size = wr.heap.size + 1 := by rw [← hW0]; exact hz3
          clear HB3 HT3 HK3 HY3 HO3 RX hz3
          have hzk : (ByteArray.mk x.1.toArray).size = x.1.length := rfl
          cases hg : goodI x.2.1
          · have hno : Hid (¬ GoodT t) := fun h => by have := (goodT_name h _ (List.mem_of_getElem? HX.out)).1; rw [hg] at this; cases this
            rw [textI_bad hg] at HNM
            clear hg
            refine region_begin hW0 (S := fun W => (TrAt W w.heap.size (.slice A1 t.ps.length c1) (.slice (some ⟨b2, off2, none⟩) t.ks.length c2) ∧ KidAt W wr.heap.size x) ∧ W.rangeAt b2 off2 (kkC y)) (by kernel_rfl) hS0 (fun hHeld => ?_)
            clear hW0 hS0
            refine take_at (i := 0) (.pointer (some ⟨wr.heap.size, 1, none⟩)) (some 62) (by decide) (by rfl) (by kernel_rfl) (by kernel_rfl) (by kernel_rfl) (fun _ _ _ h => h) (by rfl) (fun W hW => by go_simp) (by assumption) ?_
            try simp only [Act.put, List.setIfInBounds_toArray, List.set_cons_zero, List.set_cons_succ]
            refine take_at (i := 1) (idV x.2.1) (some 63) (by decide) (by rfl) (by kernel_rfl) (by kernel_rfl) (by kernel_rfl) (fun _ _ _ h => h) (by rfl) (fun W hW => by exact exec_load_mid _ _ rfl wr.heap.size 1 rfl (vb x.2.1) _ hW.1.2.id Try.underlying41 rfl (cells_ii x.2)) (by assumption) ?_
            try simp only [Act.put, List.setIfInBounds_toArray, List.set_cons_zero, List.set_cons_succ]
            refine wpAnyH_ready (rs := [2]) (by kernel_rfl) (by simp) (AllReadyH.cons (Array.getElem?_eq_getElem (i := 2) (by decide)) (fun K9 hK => ?_) AllReadyH.nil)
            go_simp
            refine (HNM.out _).mono ?_
            rintro e w4 ⟨rfl, hb4⟩
            have HB4 := Lib.hid (HBD.out.trans (hb4.mono (by omega)))
            have HO4 := Lib.hid (HOD.out.keep hb4)
            have hs4 : wr.heap.size + 1 ≤ w4.heap.size := by have := hb4.size; omega
            refine hK.out _ _ (⟨⟨hHeld.1.1.below hb4 (by omega), hHeld.1.2.below hb4 (by omega)⟩, fun j v hv => (hb4.cell (p := ⟨b2, off2 + j, none⟩) (by show b2 < W0.heap.size; omega)).trans (hHeld.2 j v hv)⟩) (fun hHeld => ?_)
            clear hK K9
            try simp only [Act.put, List.setIfInBounds_toArray, List.set_cons_zero, List.set_cons_succ]
            clear hb4
            refine take_at (i := 3) (.bool true) (some 65) (by decide) (by rfl) (by kernel_rfl) (by kernel_rfl) (by kernel_rfl) (fun _ _ _ h => h) (by rfl) (fun W hW => by go_simp) (by assumption) ?_
            try simp only [Act.put, List.setIfInBounds_toArray, List.set_cons_zero, List.set_cons_succ]
            refine take_at (i := 4) (.bool true) (some 66) (by decide) (by rfl) (by kernel_rfl) (by kernel_rfl) (by kernel_rfl) (fun _ _ _ h => h) (by rfl) (fun W hW => by go_simp) (by assumption) ?_
            try simp only [Act.put, List.setIfInBounds_toArray, List.set_cons_zero, List.set_cons_succ]
            refine skip_at (i := 5) (some 67) (by decide) (by rfl) (by kernel_rfl) (by kernel_rfl) (by kernel_rfl) (fun _ _ _ h => h) (by rfl) (by assumption) ?_
            try simp only [Act.put, List.setIfInBounds_toArray, List.set_cons_zero, List.set_cons_succ]
            refine skip_at (i := 6) (some 68) (by decide) (by rfl) (by kernel_rfl) (by kernel_rfl) (by kernel_rfl) (fun _ _ _ h => h) (by rfl) (by assumption) ?_
            try simp only [Act.put, List.setIfInBounds_toArray, List.set_cons_zero, List.set_cons_succ]
            refine skip_at (i := 7) (some 69) (by decide) (by rfl) (by kernel_rfl) (by kernel_rfl) (by kernel_rfl) (fun _ _ _ h => h) (by rfl) (by assumption) ?_
            try simp only [Act.put, List.setIfInBounds_toArray, List.set_cons_zero, List.set_cons_succ]
            refine skip_at (i := 8) (some 70) (by decide) (by rfl) (by kernel_rfl) (by kernel_rfl) (by kernel_rfl) (fun _ _ _ h => h) (by rfl) (by assumption) ?_
            try simp only [Act.put, List.setIfInBounds_toArray, List.set_cons_zero, List.set_cons_succ]
            refine skip_at (i := 9) (some 71) (by decide) (by rfl) (by kernel_rfl) (by kernel_rfl) (by kernel_rfl) (fun _ _ _ h => h) (by rfl) (by assumption) ?_
            try simp only [Act.put, List.setIfInBounds_toArray, List.set_cons_zero, List.set_cons_succ]
            refine skip_at (i := 10) (some 72) (by decide) (by rfl) (by kernel_rfl) (by kernel_rfl) (by kernel_rfl) (fun _ _ _ h => h) (by rfl) (by assumption) ?_
            try simp only [Act.put, List.setIfInBounds_toArray, List.set_cons_zero, List.set_cons_succ]
            refine skip_at (i := 11) (some 73) (by decide) (by rfl) (by kernel_rfl) (by kernel_rfl) (by kernel_rfl) (fun _ _ _ h => h) (by rfl) (by assumption) ?_
            try simp only [Act.put, List.setIfInBounds_toArray, List.set_cons_zero, List.set_cons_succ]
            refine skip_at (i := 12) (some 74) (by decide) (by rfl) (by kernel_rfl) (by kernel_rfl) (by kernel_rfl) (fun _ _ _ h => h) (by rfl) (by assumption) ?_
            try simp only [Act.put, List.setIfInBounds_toArray, List.set_cons_zero, List.set_cons_succ]
            refine skip_at (i := 13) (some 75) (by decide) (by rfl) (by kernel_rfl) (by kernel_rfl) (by kernel_rfl) (fun _ _ _ h => h) (by rfl) (by assumption) ?_
            try simp only [Act.put, List.setIfInBounds_toArray, List.set_cons_zero, List.set_cons_succ]
            refine skip_at (i := 14) (some 76) (by decide) (by rfl) (by kernel_rfl) (by kernel_rfl) (by kernel_rfl) (fun _ _ _ h => h) (by rfl) (by assumption) ?_
            try simp only [Act.put, List.setIfInBounds_toArray, List.set_cons_zero, List.set_cons_succ]
            refine take_at (i := 15) (.bool true) (some 77) (by decide) (by rfl) (by kernel_rfl) (by kernel_rfl) (by kernel_rfl) (fun _ _ _ h => h) (by rfl) (fun W hW => by go_simp) (by assumption) ?_
            try simp only [Act.put, List.setIfInBounds_toArray, List.set_cons_zero, List.set_cons_succ]
            refine wpAnyH_done (by kernel_rfl) ?_ _
            try simp only [Act.put, List.setIfInBounds_toArray, List.set_cons_zero, List.set_cons_succ]
            go_wp2_with fail
            go_ret
            exact ⟨false, rfl, ⟨(fun h => by cases h), fun h => absurd h hno.out⟩, HB4.out⟩
          · obtain ⟨s1, e1, g1, g2, g3⟩ := textI_good hg
            clear g1 g2 g3
            rw [e1] at HNM
            have HG := Lib.hid hg
            obtain ⟨sx, hsx⟩ : ∃ sx, kd x.2 :: s1 = sx := ⟨_, rfl⟩
            rw [hsx] at HNM
            have hsn : sx ≠ [] := by rw [← hsx]; exact List.cons_ne_nil _ _
            clear hg e1 hsx
            by_cases hkk : kd x.2 = kd y.2
            · have hv2 : Hid (∀ (j : Nat) p, j < k + 1 → t.ks[j]? = some p → goodI p.2.1 = true ∧ ∀ q, t.ks[0]? = some q → kd p.2 = kd q.2) := fun j p hj hjp => by
                by_cases e : j = k
                · subst e
                  rw [HX.out] at hjp
                  injection hjp with hjp
                  subst hjp
                  exact ⟨HG.out, fun q hq => by
                    rw [HY.out] at hq
                    injection hq with hq
                    rw [← hq]
                    exact hkk⟩
                · exact hv.out j p (by omega) hjp
              have HNQ : Hid ((((kd x.2).toNat : Int) != ((kd y.2).toNat : Int)) = false) := by unfold Hid; rw [hkk]; simp
              clear hkk
              refine region_begin hW0 (S := fun W => (TrAt W w.heap.size (.slice A1 t.ps.length c1) (.slice (some ⟨b2, off2, none⟩) t.ks.length c2) ∧ KidAt W wr.heap.size x) ∧ W.rangeAt b2 off2 (kkC y)) (by kernel_rfl) hS0 (fun hHeld => ?_)
              clear hW0 hS0
              refine take_at (i := 0) (.pointer (some ⟨wr.heap.size, 1, none⟩)) (some 62) (by decide) (by rfl) (by kernel_rfl) (by kernel_rfl) (by kernel_rfl) (fun _ _ _ h => h) (by rfl) (fun W hW => by go_simp) (by assumption) ?_
              try simp only [Act.put, List.setIfInBounds_toArray, List.set_cons_zero, List.set_cons_succ]
              refine take_at (i := 1) (idV x.2.1) (some 63) (by decide) (by rfl) (by kernel_rfl) (by kernel_rfl) (by kernel_rfl) (fun _ _ _ h => h) (by rfl) (fun W hW => by exact exec_load_mid _ _ rfl wr.heap.size 1 rfl (vb x.2.1) _ hW.1.2.id Try.underlying41 rfl (cells_ii x.2)) (by assumption) ?_
              try simp only [Act.put, List.setIfInBounds_toArray, List.set_cons_zero, List.set_cons_succ]
              refine wpAnyH_ready (rs := [2]) (by kernel_rfl) (by simp) (AllReadyH.cons (Array.getElem?_eq_getElem (i := 2) (by decide)) (fun K9 hK => ?_) AllReadyH.nil)
              go_simp
              refine (HNM.out _).mono ?_
              rintro e w4 ⟨rfl, hb4⟩
              have HB4 := Lib.hid (HBD.out.trans (hb4.mono (by omega)))
              have HO4 := Lib.hid (HOD.out.keep hb4)
              have hs4 : wr.heap.size + 1 ≤ w4.heap.size := by have := hb4.size; omega
              refine hK.out _ _ (⟨⟨hHeld.1.1.below hb4 (by omega), hHeld.1.2.below hb4 (by omega)⟩, fun j v hv => (hb4.cell (p := ⟨b2, off2 + j, none⟩) (by show b2 < W0.heap.size; omega)).trans (hHeld.2 j v hv)⟩) (fun hHeld => ?_)
              clear hK K9
              try simp only [Act.put, List.setIfInBounds_toArray, List.set_cons_zero, List.set_cons_succ]
              clear hb4
              refine take_at (i := 3) (.bool false) (some 65) (by decide) (by rfl) (by kernel_rfl) (by kernel_rfl) (by kernel_rfl) (fun _ _ _ h => h) (by rfl) (fun W hW => by go_simp; first | done | exact hsn | simp [hsn]) (by assumption) ?_
              try simp only [Act.put, List.setIfInBounds_toArray, List.set_cons_zero, List.set_cons_succ]
              refine take_at (i := 4) (.bool false) (some 66) (by decide) (by rfl) (by kernel_rfl) (by kernel_rfl) (by kernel_rfl) (fun _ _ _ h => h) (by rfl) (fun W hW => by go_simp) (by assumption) ?_
              try simp only [Act.put, List.setIfInBounds_toArray, List.set_cons_zero, List.set_cons_succ]
              refine take_at (i := 5) (.pointer (some ⟨wr.heap.size, 1, none⟩)) (some 67) (by decide) (by rfl) (by kernel_rfl) (by kernel_rfl) (by kernel_rfl) (fun _ _ _ h => h) (by rfl) (fun W hW => by go_simp) (by assumption) ?_
              try simp only [Act.put, List.setIfInBounds_toArray, List.set_cons_zero, List.set_cons_succ]
              refine take_at (i := 6) (.pointer (some ⟨wr.heap.size, 1, none⟩)) (some 68) (by decide) (by rfl) (by kernel_rfl) (by kernel_rfl) (by kernel_rfl) (fun _ _ _ h => h) (by rfl) (fun W hW => by go_simp) (by assumption) ?_
              try simp only [Act.put, List.setIfInBounds_toArray, List.set_cons_zero, List.set_cons_succ]
              refine take_at (i := 7) (.int .u8 (kd x.2).toNat) (some 69) (by decide) (by rfl) (by kernel_rfl) (by kernel_rfl) (by kernel_rfl) (fun _ _ _ h => h) (by rfl) (fun W hW => by have := hW.1.2.kind; go_simp) (by assumption) ?_
              try simp only [Act.put, List.setIfInBounds_toArray, List.set_cons_zero, List.set_cons_succ]
              refine take_at (i := 8) (.pointer (some ⟨w.heap.size, 1, none⟩)) (some 70) (by decide) (by rfl) (by kernel_rfl) (by kernel_rfl) (by kernel_rfl) (fun _ _ _ h => h) (by rfl) (fun W hW => by go_simp) (by assumption) ?_
              try simp only [Act.put, List.setIfInBounds_toArray, List.set_cons_zero, List.set_cons_succ]
              refine take_at (i := 9) (.slice (some ⟨b2, off2, none⟩) t.ks.length c2) (some 71) (by decide) (by rfl) (by kernel_rfl) (by kernel_rfl) (by kernel_rfl) (fun _ _ _ h => h) (by rfl) (fun W hW => by have := hW.1.1.c1; go_simp) (by assumption) ?_
              try simp only [Act.put, List.setIfInBounds_toArray, List.set_cons_zero, List.set_cons_succ]
              refine take_at (i := 10) (.pointer (some ⟨b2, off2, none⟩)) (some 72) (by decide) (by rfl) (by kernel_rfl) (by kernel_rfl) (by kernel_rfl) (fun _ _ _ h => h) (by rfl) (fun W hW => by go_simp; first | done | (intro he; rw [he] at hj0; simp at hj0)) (by assumption) ?_
              try simp only [Act.put, List.setIfInBounds_toArray, List.set_cons_zero, List.set_cons_succ]
              refine take_at (i := 11) (.pointer (some ⟨b2, off2 + 1, none⟩)) (some 73) (by decide) (by rfl) (by kernel_rfl) (by kernel_rfl) (by kernel_rfl) (fun _ _ _ h => h) (by rfl) (fun W hW => by go_simp) (by assumption) ?_
              try simp only [Act.put, List.setIfInBounds_toArray, List.set_cons_zero, List.set_cons_succ]
              refine take_at (i := 12) (.pointer (some ⟨b2, off2 + 1, none⟩)) (some 74) (by decide) (by rfl) (by kernel_rfl) (by kernel_rfl) (by kernel_rfl) (fun _ _ _ h => h) (by rfl) (fun W hW => by go_simp) (by assumption) ?_
              try simp only [Act.put, List.setIfInBounds_toArray, List.set_cons_zero, List.set_cons_succ]
              refine take_at (i := 13) (.int .u8 (kd y.2).toNat) (some 75) (by decide) (by rfl) (by kernel_rfl) (by kernel_rfl) (by kernel_rfl) (fun _ _ _ h => h) (by rfl) (fun W hW => by have := range_kind hW.2; go_simp) (by assumption) ?_
              try simp only [Act.put, List.setIfInBounds_toArray, List.set_cons_zero, List.set_cons_succ]
              refine take_at (i := 14) (.bool false) (some 76) (by decide) (by rfl) (by kernel_rfl) (by kernel_rfl) (by kernel_rfl) (fun _ _ _ h => h) (by rfl) (fun W hW => by have hq := HNQ.out; generalize kd x.2 = K1 at *; generalize kd y.2 = K2 at *; go_simp) (by assumption) ?_
              try simp only [Act.put, List.setIfInBounds_toArray, List.set_cons_zero, List.set_cons_succ]
              refine take_at (i := 15) (.bool false) (some 77) (by decide) (by rfl) (by kernel_rfl) (by kernel_rfl) (by kernel_rfl) (fun _ _ _ h => h) (by rfl) (fun W hW => by go_simp) (by assumption) ?_
              try simp only [Act.put, List.setIfInBounds_toArray, List.set_cons_zero, List.set_cons_succ]
              refine wpAnyH_done (by kernel_rfl) ?_ _
              try simp only [Act.put, List.setIfInBounds_toArray, List.set_cons_zero, List.set_cons_succ]
              have HTX := Lib.hid hHeld.1.1
              have d3 := hHeld.1.2.key
              clear hHeld
              go_wp2_with (refine wp_append_rw kind_ss rfl _ _ rfl rfl (HO4.out.alloc _) (by rw [asz]; omega) _ _ [x.1] rfl (rw_one kind_ss _ x.1 9 _ rfl) (by simp only [List.length_singleton]; omega) ?_)
              intro v5 w5 ho5 hb5 _
              have hb6 : Below (w.heap.size + 1) w4 w5 := ((new_below _ _).mono (by omega)).trans hb5
              have HB6 := Lib.hid (HB4.out.trans (hb6.mono (by omega)))
              have HT6 := Lib.hid (HTX.out.below hb6 (by omega))
              have HO6 := Lib.hid ho5
              have hz6 : w.heap.size + 1 ≤ w5.heap.size := Nat.le_trans (by omega) hb6.size
              clear hb5 hb6 ho5
              go_wp2_with fail
              go_roundw
              case rel => exact ⟨k + 1, by go_num, by omega, by rw [HMT.out, ← List.append_assoc, HL.out]; exact HO6.out, hv2, HB6.out, HT6.out, hz6⟩
              case measure => simp [intOf]; omega
            · have hno : Hid (¬ GoodT t) := fun h => hkk ((goodT_name h _ (List.mem_of_getElem? HX.out)).2 y HY.out)
              have HNQ : Hid ((((kd x.2).toNat : Int) != ((kd y.2).toNat : Int)) = true) := by
                unfold Hid
                rw [bne_iff_ne]
                exact fun e => hkk (UInt8.toNat_inj.1 (by omega))
              clear hkk
              refine region_begin hW0 (S := fun W => (TrAt W w.heap.size (.slice A1 t.ps.length c1) (.slice (some ⟨b2, off2, none⟩) t.ks.length c2) ∧ KidAt W wr.heap.size x) ∧ W.rangeAt b2 off2 (kkC y)) (by kernel_rfl) hS0 (fun hHeld => ?_)
              clear hW0 hS0
              refine take_at (i := 0) (.pointer (some ⟨wr.heap.size, 1, none⟩)) (some 62) (by decide) (by rfl) (by kernel_rfl) (by kernel_rfl) (by kernel_rfl) (fun _ _ _ h => h) (by rfl) (fun W hW => by go_simp) (by assumption) ?_
              try simp only [Act.put, List.setIfInBounds_toArray, List.set_cons_zero, List.set_cons_succ]
              refine take_at (i := 1) (idV x.2.1) (some 63) (by decide) (by rfl) (by kernel_rfl) (by kernel_rfl) (by kernel_rfl) (fun _ _ _ h => h) (by rfl) (fun W hW => by exact exec_load_mid _ _ rfl wr.heap.size 1 rfl (vb x.2.1) _ hW.1.2.id Try.underlying41 rfl (cells_ii x.2)) (by assumption) ?_
              try simp only [Act.put, List.setIfInBounds_toArray, List.set_cons_zero, List.set_cons_succ]
              refine wpAnyH_ready (rs := [2]) (by kernel_rfl) (by simp) (AllReadyH.cons (Array.getElem?_eq_getElem (i := 2) (by decide)) (fun K9 hK => ?_) AllReadyH.nil)
              go_simp
              refine (HNM.out _).mono ?_
              rintro e w4 ⟨rfl, hb4⟩
              have HB4 := Lib.hid (HBD.out.trans (hb4.mono (by omega)))
              have HO4 := Lib.hid (HOD.out.keep hb4)
              have hs4 : wr.heap.size + 1 ≤ w4.heap.size := by have := hb4.size; omega
              refine hK.out _ _ (⟨⟨hHeld.1.1.below hb4 (by omega), hHeld.1.2.below hb4 (by omega)⟩, fun j v hv => (hb4.cell (p := ⟨b2, off2 + j, none⟩) (by show b2 < W0.heap.size; omega)).trans (hHeld.2 j v hv)⟩) (fun hHeld => ?_)
              clear hK K9
              try simp only [Act.put, List.setIfInBounds_toArray, List.set_cons_zero, List.set_cons_succ]
              clear hb4
              refine take_at (i := 3) (.bool false) (some 65) (by decide) (by rfl) (by kernel_rfl) (by kernel_rfl) (by kernel_rfl) (fun _ _ _ h => h) (by rfl) (fun W hW => by go_simp; first | done | exact hsn | simp [hsn]) (by assumption) ?_
              try simp only [Act.put, List.setIfInBounds_toArray, List.set_cons_zero, List.set_cons_succ]
              refine take_at (i := 4) (.bool false) (some 66) (by decide) (by rfl) (by kernel_rfl) (by kernel_rfl) (by kernel_rfl) (fun _ _ _ h => h) (by rfl) (fun W hW => by go_simp) (by assumption) ?_
              try simp only [Act.put, List.setIfInBounds_toArray, List.set_cons_zero, List.set_cons_succ]
              refine take_at (i := 5) (.pointer (some ⟨wr.heap.size, 1, none⟩)) (some 67) (by decide) (by rfl) (by kernel_rfl) (by kernel_rfl) (by kernel_rfl) (fun _ _ _ h => h) (by rfl) (fun W hW => by go_simp) (by assumption) ?_
              try simp only [Act.put, List.setIfInBounds_toArray, List.set_cons_zero, List.set_cons_succ]
              refine take_at (i := 6) (.pointer (some ⟨wr.heap.size, 1, none⟩)) (some 68) (by decide) (by rfl) (by kernel_rfl) (by kernel_rfl) (by kernel_rfl) (fun _ _ _ h => h) (by rfl) (fun W hW => by go_simp) (by assumption) ?_
              try simp only [Act.put, List.setIfInBounds_toArray, List.set_cons_zero, List.set_cons_succ]
              refine take_at (i := 7) (.int .u8 (kd x.2).toNat) (some 69) (by decide) (by rfl) (by kernel_rfl) (by kernel_rfl) (by kernel_rfl) (fun _ _ _ h => h) (by rfl) (fun W hW => by have := hW.1.2.kind; go_simp) (by assumption) ?_
              try simp only [Act.put, List.setIfInBounds_toArray, List.set_cons_zero, List.set_cons_succ]
              refine take_at (i := 8) (.pointer (some ⟨w.heap.size, 1, none⟩)) (some 70) (by decide) (by rfl) (by kernel_rfl) (by kernel_rfl) (by kernel_rfl) (fun _ _ _ h => h) (by rfl) (fun W hW => by go_simp) (by assumption) ?_
              try simp only [Act.put, List.setIfInBounds_toArray, List.set_cons_zero, List.set_cons_succ]
              refine take_at (i := 9) (.slice (some ⟨b2, off2, none⟩) t.ks.length c2) (some 71) (by decide) (by rfl) (by kernel_rfl) (by kernel_rfl) (by kernel_rfl) (fun _ _ _ h => h) (by rfl) (fun W hW => by have := hW.1.1.c1; go_simp) (by assumption) ?_
              try simp only [Act.put, List.setIfInBounds_toArray, List.set_cons_zero, List.set_cons_succ]
              refine take_at (i := 10) (.pointer (some ⟨b2, off2, none⟩)) (some 72) (by decide) (by rfl) (by kernel_rfl) (by kernel_rfl) (by kernel_rfl) (fun _ _ _ h => h) (by rfl) (fun W hW => by go_simp; first | done | (intro he; rw [he] at hj0; simp at hj0)) (by assumption) ?_
              try simp only [Act.put, List.setIfInBounds_toArray, List.set_cons_zero, List.set_cons_succ]
              refine take_at (i := 11) (.pointer (some ⟨b2, off2 + 1, none⟩)) (some 73) (by decide) (by rfl) (by kernel_rfl) (by kernel_rfl) (by kernel_rfl) (fun _ _ _ h => h) (by rfl) (fun W hW => by go_simp) (by assumption) ?_
              try simp only [Act.put, List.setIfInBounds_toArray, List.set_cons_zero, List.set_cons_succ]
              refine take_at (i := 12) (.pointer (some ⟨b2, off2 + 1, none⟩)) (some 74) (by decide) (by rfl) (by kernel_rfl) (by kernel_rfl) (by kernel_rfl) (fun _ _ _ h => h) (by rfl) (fun W hW => by go_simp) (by assumption) ?_
              try simp only [Act.put, List.setIfInBounds_toArray, List.set_cons_zero, List.set_cons_succ]
              refine take_at (i := 13) (.int .u8 (kd y.2).toNat) (some 75) (by decide) (by rfl) (by kernel_rfl) (by kernel_rfl) (by kernel_rfl) (fun _ _ _ h => h) (by rfl) (fun W hW => by have := range_kind hW.2; go_simp) (by assumption) ?_
              try simp only [Act.put, List.setIfInBounds_toArray, List.set_cons_zero, List.set_cons_succ]
              refine take_at (i := 14) (.bool true) (some 76) (by decide) (by rfl) (by kernel_rfl) (by kernel_rfl) (by kernel_rfl) (fun _ _ _ h => h) (by rfl) (fun W hW => by have hq := HNQ.out; generalize kd x.2 = K1 at *; generalize kd y.2 = K2 at *; go_simp) (by assumption) ?_
              try simp only [Act.put, List.setIfInBounds_toArray, List.set_cons_zero, List.set_cons_succ]
              refine take_at (i := 15) (.bool true) (some 77) (by decide) (by rfl) (by kernel_rfl) (by kernel_rfl) (by kernel_rfl) (fun _ _ _ h => h) (by rfl) (fun W hW => by go_simp) (by assumption) ?_
              try simp only [Act.put, List.setIfInBounds_toArray, List.set_cons_zero, List.set_cons_succ]
              refine wpAnyH_done (by kernel_rfl) ?_ _
              try simp only [Act.put, List.setIfInBounds_toArray, List.set_cons_zero, List.set_cons_succ]
              go_wp2_with fail
              go_ret
              exact ⟨false, rfl, ⟨(fun h => by cases h), fun h => absurd h hno.out⟩, HB4.out⟩
        · have hnames : Hid (∀ p ∈ t.ks, goodI p.2.1 = true ∧ ∀ q, t.ks[0]? = some q → kd p.2 = kd q.2) := fun p hpl => by
            obtain ⟨j, hj, rfl⟩ := List.getElem_of_mem hpl
            exact hv.out j _ (by omega) (List.getElem?_eq_getElem hj)
          have hkk : k = t.ks.length := by omega
          rw [hkk, List.take_length] at ho
          have ho' : Hid (OwnRw ssC 1 9 wr (w.heap.size + 1) u3 (keysT t)) := ho.out
          have hyes : Hid ((∀ s ∈ keysT t, s.length ≤ 16) → Rises (keysT t) → GoodT t) := fun h3 h4 => goodT_of HSH.out hvals.out hnames.out h3 h4
          have hnol : Hid (∀ s ∈ keysT t, 16 < s.length → ¬ GoodT t) := fun s hs hl h => by have := (goodT_keys h).1 s hs; omega
          have hnor : Hid (¬ Rises (keysT t) → ¬ GoodT t) := fun hr h => hr (goodT_keys h).2
          clear hv ho
          obtain ⟨A3, c3, e3, k3, l3⟩ := (ho'.out.rwIn kind_ss).len
          have HIN : Hid (RwIn ssC 1 wr wr.heap.size u3 (keysT t)) := ho'.out.rwIn kind_ss
          subst e3
          generalize keysT t = K at *
          clear ho'
          go_wp2_with fail
          go_loop [86] (fun i => ∃ k : Nat, i = .int .i64 k ∧ k ≤ K.length ∧ Hid (∀ (j : Nat) p, j < k → K[j]? = some p → p.length ≤ 16) ∧ Hid (∀ (j : Nat) a b, j + 1 < k → K[j]? = some a → K[j + 1]? = some b → a < b)) (fun i => K.length - (intOf i).toNat)
          case atStart => exact ⟨0, rfl, by omega, fun j _ h => by omega, fun j _ _ h => by omega⟩
          case round =>
            clear hkk hlt hk
            obtain ⟨k, rfl, hk, hl, hr⟩ := hrel
            by_cases hlt : k < K.length
            · obtain ⟨x, hxk⟩ : ∃ x, K[k]? = some x := ⟨K[k], List.getElem?_eq_getElem hlt⟩
              obtain ⟨b2, off2, e2, hB2, d0⟩ := ssIn.at1 HIN.out hxk
              subst e2
              have HX := Lib.hid hxk
              clear hxk
              have hzx : (ByteArray.mk x.toArray).size = x.length := rfl
              by_cases hs : 16 < x.length
              · have hno : Hid (¬ GoodT t) := hnol.out x (List.mem_of_getElem? HX.out) hs
                have hs' : (16 : Int) < x.length := by omega
                clear hs
                go_wp2_with fail
                go_ret
                exact ⟨false, rfl, ⟨(fun h => by cases h), fun h => absurd h hno.out⟩, hbl.out⟩
              have hs' : ¬ (16 : Int) < x.length := by omega
              have hl2 : Hid (∀ (j : Nat) p, j < k + 1 → K[j]? = some p → p.length ≤ 16) := fun j p hj hjp => by
                by_cases e : j = k
                · subst e
                  rw [HX.out] at hjp
                  injection hjp with hjp
                  subst hjp
                  omega
                · exact hl.out j p (by omega) hjp
              clear hs
              by_cases h0 : 0 < k
              · obtain ⟨j, rfl⟩ : ∃ j, k = j + 1 := ⟨k - 1, by omega⟩
                obtain ⟨y, hyk⟩ : ∃ y, K[j]? = some y := ⟨K[j], List.getElem?_eq_getElem (by omega)⟩
                obtain ⟨b3, off3, e3, hB3, f0⟩ := ssIn.at1 HIN.out hyk
                injection e3 with e3
                injection e3 with e3 e4
                subst e3 e4
                have HY := Lib.hid hyk
                clear hyk
                have hgd : decide ((0 : Int) < (j : Int) + 1) = true := decide_eq_true (by omega)
                have hwj : IntKind.i64.wrap (j : Int) = (j : Int) := IntWalk.i64_in _ (by omega)
                by_cases hov : y < x
                · have hA : Op.bytesLess x y = false := (less_of x y).trans (decide_eq_false (List.lt_asymm hov))
                  have hB : (x == y) = false := beq_eq_false_iff_ne.2 (fun e => by rw [e] at hov; exact List.lt_irrefl _ hov)
                  have hr2 : Hid (∀ (i : Nat) a b, i + 1 < j + 1 + 1 → K[i]? = some a → K[i + 1]? = some b → a < b) := fun i a b hi ha hb => by
                    by_cases e : i = j
                    · subst e
                      rw [HY.out] at ha
                      rw [HX.out] at hb
                      injection ha with ha
                      injection hb with hb
                      subst ha hb
                      exact hov
                    · exact hr.out i a b (by omega) ha hb
                  clear hov
                  go_wp2_with fail
                  go_round
                  case rel => exact ⟨j + 1 + 1, by go_num, by omega, hl2, hr2⟩
                  case measure => simp [intOf]; omega
                · have hno : Hid (¬ GoodT t) := hnor.out (fun h => hov (h j y x HY.out HX.out))
                  have hways2 : (Op.bytesLess x y = true ∧ (x == y) = false) ∨ (Op.bytesLess x y = false ∧ x = y) := by
                    by_cases h2 : x < y
                    · exact .inl ⟨(less_of x y).trans (decide_eq_true h2), beq_eq_false_iff_ne.2 (fun e => by rw [e] at h2; exact List.lt_irrefl _ h2)⟩
                    · exact .inr ⟨(less_of x y).trans (decide_eq_false h2), List.le_antisymm hov h2⟩
                  clear hov
                  rcases hways2 with ⟨hA, hB⟩ | ⟨hA, hE⟩
                  · go_wp2_with fail
                    go_ret
                    exact ⟨false, rfl, ⟨(fun h => by cases h), fun h => absurd h hno.out⟩, hbl.out⟩
                  · have hB : (x == y) = true := by rw [hE]; exact beq_self_eq_true _
                    clear hE
                    go_wp2_with fail
                    go_ret
                    exact ⟨false, rfl, ⟨(fun h => by cases h), fun h => absurd h hno.out⟩, hbl.out⟩
              · obtain rfl : k = 0 := by omega
                have hgd : decide ((0 : Int) < ((0 : Nat) : Int)) = false := rfl
                rw [Nat.add_zero] at d0
                have hr2 : Hid (∀ (i : Nat) a b, i + 1 < 0 + 1 → K[i]? = some a → K[i + 1]? = some b → a < b) := fun i a b hi => by omega
                go_wp2_with fail
                go_round
                case rel => exact ⟨0 + 1, by go_num, by omega, hl2, hr2⟩
                case measure => simp [intOf]; omega
            · have HY : Hid (GoodT t) := hyes.out (fun s hs => by
                obtain ⟨j, hj, rfl⟩ := List.getElem_of_mem hs
                exact hl.out j _ (by omega) (List.getElem?_eq_getElem hj)) (fun j a b ha hb => hr.out j a b (by have := (List.getElem?_eq_some_iff.1 hb).1; omega) ha hb)
              clear hl hr
              go_wp2_with fail
              go_ret
              exact ⟨true, rfl, ⟨fun _ => HY.out, fun _ => rfl⟩, hbl.out⟩

end Go.Proofs.Ytabogconbjdcgaa.Cd

/-
  The document's GoodTree. Conditions: none.
-/
namespace Go.Proofs.Ytabogconbjdcgaa.Cd
open Go.RowKit

set_option maxRecDepth 100000 in
set_option maxHeartbeats 12800000 in
theorem rgoodt_any (v : Value) (t : Tre) (w : World) (h : TreIn w w.heap.size v t) (hsm : t.ps.length ≤ 1000) (hsk : t.ks.length ≤ 1000) : Calls Try.prog 11 #[v] w (Says (GoodT t) w) := by
  obtain ⟨vp, vk, rfl, h1, h2⟩ := h
  obtain ⟨A1, c1, e1, k1, l1⟩ := h1.len
  obtain ⟨A2, c2, e2, k2, l2⟩ := h2.len
  have H1 := Lib.hid h1
  have H2 := Lib.hid h2
  clear h1 h2
  subst e1 e2
  have HB1 : Hid (Below w.heap.size w (w.alloc (.cells #[.slice A1 t.ps.length c1, .slice A2 t.ks.length c2] 25))) := new_below _ _
  have HT1 : Hid (TrAt (w.alloc (.cells #[.slice A1 t.ps.length c1, .slice A2 t.ks.length c2] 25)) w.heap.size (.slice A1 t.ps.length c1) (.slice A2 t.ks.length c2)) := TrAt.new _ _ _
  have hz1 : w.heap.size + 1 ≤ (w.alloc (.cells #[.slice A1 t.ps.length c1, .slice A2 t.ks.length c2] 25)).heap.size := by rw [asz]; omega
  by_cases hsh : (0 < t.ks.length ∧ (0 < t.ps.length ∨ t.ks.length < 2 ∨ 3 < t.ks.length)) ∨ 4 < t.ps.length
  · have hno : Hid (¬ GoodT t) := fun h => goodT_shape h hsh
    rcases (by omega : (0 < t.ks.length ∧ 0 < t.ps.length) ∨ (0 < t.ks.length ∧ ¬ 0 < t.ps.length ∧ t.ks.length < 2) ∨ (0 < t.ks.length ∧ ¬ 0 < t.ps.length ∧ ¬ t.ks.length < 2 ∧ 3 < t.ks.length) ∨ (¬ 0 < t.ks.length ∧ 4 < t.ps.length)) with ⟨q1, q2⟩ | ⟨q1, q2, q3⟩ | ⟨q1, q2, q3, q4⟩ | ⟨q1, q2⟩
    · clear hsh
      go_enter Try.func11, Try.ntmps11
      go_wp2_with fail
      go_ret
      exact ⟨false, rfl, ⟨(fun h => by cases h), fun h => absurd h hno.out⟩, HB1.out⟩
    · have hp0 : t.ps.length = 0 := by omega
      have hk1 : t.ks.length = 1 := by omega
      clear q1 q2 q3 hsh
      rw [hp0, hk1] at HB1
      rw [hp0, hk1]
      clear hp0 hk1 HT1 hz1 H1 H2 k1 k2 hsm hsk
      go_enter Try.func11, Try.ntmps11
      go_wp2_with fail
      go_ret
      exact ⟨false, rfl, ⟨(fun h => by cases h), fun h => absurd h hno.out⟩, HB1.out⟩
    · have hp0 : t.ps.length = 0 := by omega
      obtain ⟨m, hm⟩ : ∃ m, t.ks.length = m := ⟨_, rfl⟩
      have a3 : decide ((m : Int) < 2) = false := decide_eq_false (by omega)
      have a4 : decide ((3 : Int) < m) = true := decide_eq_true (by omega)
      have a0 : 0 < m := by omega
      clear q1 q2 q3 q4 hsh
      rw [hp0, hm] at HB1
      rw [hp0, hm]
      clear hp0 hm HT1 hz1 H1 H2 k1 k2 hsm hsk
      go_enter Try.func11, Try.ntmps11
      go_wp2_with fail
      go_ret
      exact ⟨false, rfl, ⟨(fun h => by cases h), fun h => absurd h hno.out⟩, HB1.out⟩
    · have hk0 : t.ks.length = 0 := by omega
      have a2 : decide ((4 : Int) < t.ps.length) = true := decide_eq_true (by omega)
      clear q1 q2 hsh
      rw [hk0] at HB1
      rw [hk0]
      clear hk0 HT1 hz1 H1 H2 k1 k2 hsm hsk
      go_enter Try.func11, Try.ntmps11
      go_wp2_with fail
      go_ret
      exact ⟨false, rfl, ⟨(fun h => by cases h), fun h => absurd h hno.out⟩, HB1.out⟩
  have HSH := Lib.hid hsh
  rcases (by omega : (¬ 0 < t.ks.length ∧ ¬ 4 < t.ps.length) ∨ (0 < t.ks.length ∧ ¬ 0 < t.ps.length ∧ ¬ t.ks.length < 2 ∧ ¬ 3 < t.ks.length ∧ ¬ 4 < t.ps.length)) with ⟨q1, q2⟩ | ⟨q1, q2, q3, q4, q5⟩
  · exact rgoodt_a t w A1 c1 A2 c2 H1 H2 k1 l1 k2 l2 hsm hsk HSH q1 q2
  · exact rgoodt_b t w A1 c1 A2 c2 H1 H2 k1 l1 k2 l2 hsm hsk HSH q1 q2 q3 q4 q5

end Go.Proofs.Ytabogconbjdcgaa.Cd

/-
  The document's GetTree. Conditions: none.
-/
namespace Go.Proofs.Ytabogconbjdcgaa.Cd
open Go.RowKit

/-- What the document's Get leaves: the tree of the bytes, or the nought. -/
def RGotT (b : List UInt8) (w : World) (e : Ending) (w' : World) : Prop :=
  ∃ (o : Option Tre) (v : Value), e = .returned (.tuple #[v, .bool o.isSome]) ∧ GetsT b o ∧ Below w.heap.size w w' ∧ TreIn w' w'.heap.size v (o.getD ⟨[], []⟩)
theorem rgott_none {b : List UInt8} {w w' : World} (h : GetsT b none) (hb : Below w.heap.size w w') : RGotT b w (.returned (.tuple #[.agg #[.slice none 0 0, .slice none 0 0], .bool false])) w' :=
  ⟨none, _, rfl, h, hb, ⟨_, _, rfl, RwIn.nil _ _, RwIn.nil _ _⟩⟩
theorem TrAt.set0 {w : World} {g : Nat} {vp vk : Value} (h : TrAt w g vp vk) (a : Value) : TrAt (w.setCell ⟨g, 0, none⟩ a) g a vk := heap_setCell_same _ g 0 _ _ a h
theorem TrAt.set1 {w : World} {g : Nat} {vp vk : Value} (h : TrAt w g vp vk) (a : Value) : TrAt (w.setCell ⟨g, 1, none⟩ a) g vp a := heap_setCell_same _ g 1 _ _ a h
theorem TrAt.other {w : World} {g : Nat} {vp vk : Value} (h : TrAt w g vp vk) {p : Addr} (hp : g ≠ p.block) (a : Value) : TrAt (w.setCell p a) g vp vk := (heap_setCell_other _ _ _ _ hp).trans h

theorem goodT_small {t : Tre} (h : GoodT t) : (psB t.ps).length ≤ 100000000 ∧ (ksB t.ks).length ≤ 100000000 := by
  rcases h with ⟨h1, h2⟩ | ⟨h1, h2⟩
  · have := psB_small h2
    rw [h1]
    exact ⟨by omega, by simp [ksB]⟩
  · have := ksB_small h2
    rw [h1]
    exact ⟨by simp [psB], by omega⟩
theorem exec_build_kk {op : Oper} {a : Act} {w : World} (x y : Operand) (ho : op.op = .build 59 #[(0, x), (1, y)]) (s : List UInt8) (i : Idn) (hx : a.eval x = .string ⟨s.toArray⟩) (hy : a.eval y = idV i.1) : (execOp a.eval op).run Try.prog w = .ok (.value (.agg (kkC (s, i)).toArray)) w := by
  have h := run_build (P := Try.prog) w 59 #[(0, Value.string ⟨s.toArray⟩), (1, idV i.1)] _ (built_kk s i)
  unfold execOp
  simp [ho, hx, hy, h, Result.andThen]

set_option maxRecDepth 100000 in
set_option maxHeartbeats 6400000 in
theorem rgett_any (b : List UInt8) (w : World) (hs : b.length ≤ 100000) : Calls Try.prog 15 #[.string ⟨b.toArray⟩] w (RGotT b w) := by
  have hz1 : (w.alloc (.cells #[.slice none 0 0, .slice none 0 0] 25)).heap.size = w.heap.size + 1 := asz _ _
  have hz2 : ((w.alloc (.cells #[.slice none 0 0, .slice none 0 0] 25)).alloc (.cells #[.string ⟨b.toArray⟩, .bool false] 74)).heap.size = w.heap.size + 2 := by rw [asz, hz1]
  have HZ1 : Hid (TrAt ((w.alloc (.cells #[.slice none 0 0, .slice none 0 0] 25)).alloc (.cells #[.string ⟨b.toArray⟩, .bool false] 74)) w.heap.size (.slice none 0 0) (.slice none 0 0)) := (TrAt.new _ _ _).below (new_below _ _) (by omega)
  have HR1 : Hid (Rf ((w.alloc (.cells #[.slice none 0 0, .slice none 0 0] 25)).alloc (.cells #[.string ⟨b.toArray⟩, .bool false] 74)) (w.heap.size + 1) b false) := by
    have h := heap_alloc_new (w.alloc (.cells #[.slice none 0 0, .slice none 0 0] 25)) (.cells #[.string ⟨b.toArray⟩, .bool false] 74)
    rw [hz1] at h
    exact h
  have HB1 : Hid (Below w.heap.size w ((w.alloc (.cells #[.slice none 0 0, .slice none 0 0] 25)).alloc (.cells #[.string ⟨b.toArray⟩, .bool false] 74))) := (new_below _ _).trans ((new_below _ _).mono (by omega))
  clear hz1
  go_enter Try.func15, Try.ntmps15
  go_wp2_with (refine wp_alloc_row zero_tr rfl rfl ?_)
  generalize ((w.alloc (.cells #[.slice none 0 0, .slice none 0 0] 25)).alloc (.cells #[.string ⟨b.toArray⟩, .bool false] 74)) = w1 at *
  obtain ⟨g, hg⟩ : ∃ g, w.heap.size + 1 = g := ⟨_, rfl⟩
  rw [hg] at HR1 ⊢
  refine (ftake_any g 2 b false w1 HR1.out (by omega)).mono ?_
  rintro e w2 ⟨rfl, hl2⟩
  have HR2 := Lib.hid hl2.1
  have HB2 := Lib.hid (below_of_grown HB1.out hl2.2 (by omega) (by omega))
  have HZ2 : Hid (TrAt w2 w.heap.size (.slice none 0 0) (.slice none 0 0)) := HZ1.out.far hl2.2 (by omega)
  have hs2 : w.heap.size + 2 ≤ w2.heap.size := by have := hl2.2.size; omega
  clear hl2 HR1 HB1 HZ1 hz2
  have hb3 : Below w2.heap.size w2 (w2.alloc (.cells #[.slice none 0 0, .slice none 0 0] 25)) := new_below _ _
  have HD3 : Hid (TrAt (w2.alloc (.cells #[.slice none 0 0, .slice none 0 0] 25)) w2.heap.size (.slice none 0 0) (.slice none 0 0)) := TrAt.new _ _ _
  have HZ3 := Lib.hid (HZ2.out.below hb3 (by omega))
  have HB3 := Lib.hid (HB2.out.trans (hb3.mono (by omega)))
  have hz3 : (w2.alloc (.cells #[.slice none 0 0, .slice none 0 0] 25)).heap.size = w2.heap.size + 1 := asz _ _
  have HON : Hid (∀ s' bad', Rf w2 g s' bad' → Rf (w2.alloc (.cells #[.slice none 0 0, .slice none 0 0] 25)) g s' bad') := fun s' bad' h => h.on hb3
  clear hb3
  by_cases hsh : b.length < 2
  · have hb : TkBad false 2 b := .inr (.inr (by omega))
    rw [show tkV false 2 b = [] from if_pos hb]
    rw [show tkB false 2 b = [] from if_pos hb, show tkX false 2 b = true from decide_eq_true hb] at HR2
    have HN := Lib.hid (fT_short hsh)
    have HR3 := Lib.hid (HON.out _ _ HR2.out)
    clear hb hsh HON HR2 HB2 HZ2
    go_wp2_with (refine wp_alloc_row zero_tr rfl rfl ?_)
    generalize (w2.alloc (.cells #[.slice none 0 0, .slice none 0 0] 25)) = w3 at *
    obtain ⟨G, hG⟩ : ∃ x, w2.heap.size = x := ⟨_, rfl⟩
    rw [hG] at HD3 hz3 hs2 ⊢
    refine (fgood_any g _ _ w3 HR3.out).mono ?_
    rintro e w4 ⟨rfl, rfl⟩
    have e0 := HD3.out.c0
    have e1 := HD3.out.c1
    have d0 := HZ3.out.c0
    have d1 := HZ3.out.c1
    have f0 := HZ3.out.frozen 0
    have f1 := HZ3.out.frozen 1
    go_wp2_with (first | go_skip | go_guarded)
    exact bodyPost_ret (ret_tr Try.results15 _ _ w.heap.size _ _ (.bool false) rfl (HZ3.out.whole _ _) rfl) rfl (rgott_none HN.out (below_two HB3.out (Nat.le_refl _) _ _))
  match b, hsh, hs with
  | [], hsh, _ => exact absurd (by simp) hsh
  | [_], hsh, _ => exact absurd (by simp) hsh
  | c0 :: n :: r, _, hs =>
  have hb : ¬ TkBad false 2 (c0 :: n :: r) := by
    rintro (h | h | h)
    · cases h
    · omega
    · simp only [List.length_cons] at h; omega
  rw [show tkV false 2 (c0 :: n :: r) = [c0, n] by unfold tkV; rw [if_neg hb]; rfl]
  rw [show tkB false 2 (c0 :: n :: r) = r by unfold tkB; rw [if_neg hb]; rfl, show tkX false 2 (c0 :: n :: r) = false from decide_eq_false hb] at HR2
  have HR3 := Lib.hid (HON.out _ _ HR2.out)
  have hrl : r.length ≤ 100000 := by simp only [List.length_cons] at hs; omega
  have hix0 : ∀ h, (ByteArray.mk [c0, n].toArray)[0]'h = c0 := fun _ => rfl
  have hix1 : ∀ h, (ByteArray.mk [c0, n].toArray)[1]'h = n := fun _ => rfl
  clear hb hs HON HR2 HB2 HZ2
  go_wp2_with (refine wp_alloc_row zero_tr rfl rfl ?_)
  generalize (w2.alloc (.cells #[.slice none 0 0, .slice none 0 0] 25)) = w3 at *
  obtain ⟨G, hG⟩ : ∃ x, w2.heap.size = x := ⟨_, rfl⟩
  rw [hG] at HD3 hz3 hs2 ⊢
  refine (fgood_any g _ _ w3 HR3.out).mono ?_
  rintro e w4 ⟨rfl, rfl⟩
  by_cases hk1 : c0 = 1
  · subst hk1
    have hq1 : (((1 : UInt8).toNat : Int) != 1) = false := by decide
    have hqe : (((1 : UInt8).toNat : Int) == 1) = true := by decide
    have HNO : Hid (∀ k : Nat, k ≤ n.toNat → (k = n.toNat ∨ (atP ⟨[], r, false⟩ k).bad = true) → ¬ ((atP ⟨[], r, false⟩ k).bad = false ∧ (atP ⟨[], r, false⟩ k).bs = [] ∧ GoodT ⟨(atP ⟨[], r, false⟩ k).l, []⟩ ∧ treeB ⟨(atP ⟨[], r, false⟩ k).l, []⟩ = 1 :: n :: r) → GetsT (1 :: n :: r) none) := fun k hk he hn => fT_nops hk he hn
    obtain ⟨s0, hs0⟩ : ∃ s : StP, (⟨[], r, false⟩ : StP) = s := ⟨_, rfl⟩
    have HL0 : Hid (s0.l = []) := by rw [← hs0]; rfl
    have HE0 : Hid (s0.bs = r ∧ s0.bad = false) := by rw [← hs0]; exact ⟨rfl, rfl⟩
    have HSN : Hid (Sane s0.bad s0.bs) := by rw [← hs0]; exact fun h => by cases h
    have hl0 : s0.bs.length ≤ 100000 := by rw [← hs0]; exact hrl
    rw [hs0] at HNO
    have HR4 : Hid (Rf w3 g s0.bs s0.bad) := by rw [← hs0]; exact HR3.out
    clear hs0 HR3 hrl
    go_wp2_with fail
    go_loopw [7] (fun i wr => ∃ (k : Nat) (A : Option Addr) (nn m : Nat), i = .int .i64 k ∧ k ≤ n.toNat ∧ Hid (OwnRw ppC 2 56 wr (G + 1) (.slice A nn m) (atP s0 k).l) ∧ Hid (TrAt wr G (.slice A nn m) (.slice none 0 0)) ∧ Hid (TrAt wr w.heap.size (.slice none 0 0) (.slice none 0 0)) ∧ Hid (Rf wr g (atP s0 k).bs (atP s0 k).bad) ∧ Hid (Below w.heap.size w wr) ∧ G + 1 ≤ wr.heap.size) (fun i _ => n.toNat - (intOf i).toNat)
    case atStart => exact ⟨0, none, 0, 0, rfl, by omega, (by unfold Hid; show OwnRw _ _ _ _ _ _ s0.l; rw [HL0.out]; exact OwnRw.nil _ _), HD3.out, HZ3.out, HR4.out, HB3.out, by omega⟩
    case round =>
      clear HR4 HD3 HZ3 HB3
      obtain ⟨k, A, nn, m, rfl, hk, ho, hcg, hcz, hrd, hw, hsz⟩ := hrel
      have hsq := sane_atP HSN.out k
      have hlq := len_atP s0 k
      have hll : s0.l.length = 0 := by rw [HL0.out]; rfl
      have hnn : n.toNat < 256 := n.toNat_lt
      have hlk : (atP s0 k).l.length ≤ 256 := by omega
      have hlb : (atP s0 k).bs.length ≤ 100000 := by omega
      by_cases hlt : k < n.toNat
      · have hlt' : decide ((k : Int) < (n.toNat : Int)) = true := decide_eq_true (by omega)
        have hnx : Hid (atP s0 (k + 1) = ⟨(atP s0 k).l ++ [(txV 16 (atP s0 k).bs, txV 16 (txB 16 (atP s0 k).bs))], txB 16 (txB 16 (atP s0 k).bs), txX 16 (txB 16 (atP s0 k).bs)⟩) := rfl
        have hnb : Hid ((atP s0 k).bad = true → GetsT (1 :: n :: r) none) := fun h => HNO.out k hk (.inr h) (fun hn => by rw [h] at hn; cases hn.1)
        go_wp2_with (first | go_skip | go_guarded)
        refine (fgood_any g _ _ wr hrd.out).mono ?_
        rintro e w5 ⟨rfl, rfl⟩
        generalize atP s0 k = q at *
        obtain ⟨l, bb, x⟩ := q
        simp only at *
        cases x
        · have HT1 := Lib.hid (fun W h => ftext_any g 16 bb false W h hsq (by omega) (by omega))
          have htl := txB_len 16 bb
          have HT2 := Lib.hid (fun W h => ftext_any g 16 (txB 16 bb) (txX 16 bb) W h (Sane.tx 16 bb) (by omega) (by omega))
          generalize txV 16 (txB 16 bb) = y2 at *
          generalize txX 16 (txB 16 bb) = xx3 at *
          generalize txB 16 (txB 16 bb) = bb3 at *
          generalize txV 16 bb = y1 at *
          generalize txB 16 bb = bb2 at *
          generalize txX 16 bb = xx2 at *
          clear hnb hsq hlq htl
          go_wp2_with (first | go_skip | go_guarded)
          refine (HT1.out _ hrd.out).mono ?_
          rintro e w5 ⟨rfl, hl5⟩
          have HG5 := Lib.hid (hcg.out.far hl5.2 (by omega))
          have HR5 := Lib.hid hl5.1
          have HW5 := Lib.hid (below_of_grown hw.out hl5.2 (by omega) (by omega))
          have HO5 := Lib.hid (ho.out.far hl5.2 (by omega))
          have HZ5 := Lib.hid (hcz.out.far hl5.2 (by omega))
          have hs5 : G + 1 ≤ w5.heap.size := Nat.le_trans hsz hl5.2.size
          clear hl5 hcg hrd hw ho hcz HT1
          go_wp2_with fail
          obtain ⟨W0, hW0⟩ : ∃ x, w5.drew = x := ⟨_, rfl⟩
          have HG0 : Hid (TrAt W0 G (.slice A nn m) (.slice none 0 0)) := by rw [← hW0]; exact HG5.out
          have HO0 : Hid (OwnRw ppC 2 56 W0 (G + 1) (.slice A nn m) l) := by rw [← hW0]; exact HO5.out.drew
          have HZ0 : Hid (TrAt W0 w.heap.size (.slice none 0 0) (.slice none 0 0)) := by rw [← hW0]; exact HZ5.out
          have HR0 : Hid (Rf W0 g bb2 xx2) := by rw [← hW0]; exact HR5.out.drew
          have HW0 : Hid (Below w.heap.size w W0) := by rw [← hW0]; exact HW5.out.drew
          have hsz0 : G + 1 ≤ W0.heap.size := by rw [← hW0]; simpa using hs5
          clear HG5 HO5 HZ5 HR5 HW5
          refine region_begin hW0 (S := fun _ => True) (by kernel_rfl) trivial (fun _ => ?_)
          clear hW0
          refine take_at (i := 0) (.pointer (some ⟨G, 0, none⟩)) (some 44) (by decide) (by rfl) (by kernel_rfl) (by kernel_rfl) (by kernel_rfl) (fun _ _ _ h => h) (by rfl) (fun W hW => by go_simp) (by assumption) ?_
          try simp only [Act.put, List.setIfInBounds_toArray, List.set_cons_zero, List.set_cons_succ]
          refine take_at (i := 2) (.string ⟨y1.toArray⟩) (some 46) (by decide) (by rfl) (by kernel_rfl) (by kernel_rfl) (by kernel_rfl) (fun _ _ _ h => h) (by rfl) (fun W hW => by go_simp) (by assumption) ?_
          try simp only [Act.put, List.setIfInBounds_toArray, List.set_cons_zero, List.set_cons_succ]
          refine take_at (i := 3) (.pointer (some ⟨g, 0, none⟩)) (some 47) (by decide) (by rfl) (by kernel_rfl) (by kernel_rfl) (by kernel_rfl) (fun _ _ _ h => h) (by rfl) (fun W hW => by go_simp) (by assumption) ?_
          try simp only [Act.put, List.setIfInBounds_toArray, List.set_cons_zero, List.set_cons_succ]
          refine wpAnyH_ready (rs := [1, 4]) (by kernel_rfl) (by simp) ?_
          refine come (i := 1) (.slice A nn m) W0 (some 45) (by decide) (by rfl) (by rfl) (by have := HG0.out.c0; go_simp) trivial ?_ ?_
          · try simp only [Act.put, List.setIfInBounds_toArray, List.set_cons_zero, List.set_cons_succ]
            refine wpAnyH_ready (rs := [4]) (by kernel_rfl) (by simp) ?_
            refine AllReadyH.cons (Array.getElem?_eq_getElem (i := 4) (by decide)) (fun K9 hK => ?_) AllReadyH.nil
            go_simp
            refine (HT2.out _ HR0.out).mono ?_
            rintro e w6 ⟨rfl, hl6⟩
            have HG6 := Lib.hid (HG0.out.far hl6.2 (by omega))
            have HR6 := Lib.hid hl6.1
            have HW6 := Lib.hid (below_of_grown HW0.out hl6.2 (by omega) (by omega))
            have HO6 := Lib.hid (HO0.out.far hl6.2 (by omega))
            have HZ6 := Lib.hid (HZ0.out.far hl6.2 (by omega))
            have hs6 : G + 1 ≤ w6.heap.size := Nat.le_trans hsz0 hl6.2.size
            clear hl6
            refine hK.out _ _ trivial (fun _ => ?_)
            clear hK K9
            try simp only [Act.put, List.setIfInBounds_toArray, List.set_cons_zero, List.set_cons_succ]
            refine take_at (i := 5) (.agg #[.string ⟨y1.toArray⟩, .string ⟨y2.toArray⟩]) (some 49) (by decide) (by rfl) (by kernel_rfl) (by kernel_rfl) (by kernel_rfl) (fun _ _ _ h => h) (by rfl) (fun W hW => by go_simp) (by assumption) ?_
            try simp only [Act.put, List.setIfInBounds_toArray, List.set_cons_zero, List.set_cons_succ]
            refine wpAnyH_ready (rs := [6]) (by kernel_rfl) (by simp) ?_
            refine AllReadyH.cons (Array.getElem?_eq_getElem (i := 6) (by decide)) (fun K9 hK => ?_) AllReadyH.nil
            refine step_one kind_pp (by omega) rfl _ rfl (y1, y2) rfl ?_
            have HG7 := Lib.hid (HG6.out.below (new_below w6 (.cells (ppC (y1, y2)).toArray 56)) (by omega))
            have HR7 := Lib.hid (HR6.out.on (new_below w6 (.cells (ppC (y1, y2)).toArray 56)))
            have HZ7 := Lib.hid (HZ6.out.below (new_below w6 (.cells (ppC (y1, y2)).toArray 56)) (by omega))
            have HW7 := Lib.hid (HW6.out.trans ((new_below w6 (.cells (ppC (y1, y2)).toArray 56)).mono (by omega)))
            have HO7 := Lib.hid (HO6.out.alloc (.cells (ppC (y1, y2)).toArray 56))
            have HY7 := Lib.hid (rw_one kind_pp w6 (y1, y2) 56 _ rfl)
            have hs7 : G + 1 ≤ (w6.alloc (.cells (ppC (y1, y2)).toArray 56)).heap.size := by rw [asz]; omega
            generalize w6.alloc (.cells (ppC (y1, y2)).toArray 56) = w7 at *
            refine hK.out _ _ trivial (fun _ => ?_)
            clear hK K9
            try simp only [Act.put, List.setIfInBounds_toArray, List.set_cons_zero, List.set_cons_succ]
            refine wpAnyH_ready (rs := [7]) (by kernel_rfl) (by simp) ?_
            refine AllReadyH.cons (Array.getElem?_eq_getElem (i := 7) (by decide)) (fun K9 hK => ?_) AllReadyH.nil
            refine step_append_rw kind_pp rfl _ _ rfl rfl HO7.out (by omega) _ _ [(y1, y2)] rfl HY7.out (by simp only [List.length_singleton]; omega) ?_
            intro v8 w8 ho8 hb8 _
            have HG8 := Lib.hid (HG7.out.below hb8 (by omega))
            have HR8 := Lib.hid (HR7.out.below hb8 (by omega))
            have HZ8 := Lib.hid (HZ7.out.below hb8 (by omega))
            have HW8 := Lib.hid (HW7.out.trans (hb8.mono (by omega)))
            have hs8 : G + 1 ≤ w8.heap.size := Nat.le_trans hs7 hb8.size
            obtain ⟨A8, m8, e8⟩ : ∃ A m, v8 = .slice A (l ++ [(y1, y2)]).length m := by
              obtain ⟨A, c, e, _⟩ := (ho8.rwIn kind_pp).len
              exact ⟨A, c, e⟩
            obtain ⟨n8, hn8⟩ : ∃ x, (l ++ [(y1, y2)]).length = x := ⟨_, rfl⟩
            rw [hn8] at e8
            subst e8
            have HO8 := Lib.hid ho8
            clear hb8 ho8 hn8
            refine hK.out _ _ trivial (fun _ => ?_)
            clear hK K9
            try simp only [Act.put, List.setIfInBounds_toArray, List.set_cons_zero, List.set_cons_succ]
            refine take_at (i := 8) (.pointer (some ⟨G, 0, none⟩)) (some 52) (by decide) (by rfl) (by kernel_rfl) (by kernel_rfl) (by kernel_rfl) (fun _ _ _ h => h) (by rfl) (fun W hW => by go_simp) (by assumption) ?_
            try simp only [Act.put, List.setIfInBounds_toArray, List.set_cons_zero, List.set_cons_succ]
            refine wpAnyH_ready (rs := [9]) (by kernel_rfl) (by simp) ?_
            refine AllReadyH.cons (Array.getElem?_eq_getElem (i := 9) (by decide)) (fun K9 hK => ?_) AllReadyH.nil
            have d8 := HG8.out.c0
            have f8 := HG8.out.frozen 0
            go_simp
            have HG9 := Lib.hid (HG8.out.set0 (.slice A8 n8 m8))
            have HO9 := Lib.hid (HO8.out.put ⟨G, 0, none⟩ (.slice A8 n8 m8) (by show G < G + 1; omega))
            have HR9 := Lib.hid (HR8.out.other ⟨G, 0, none⟩ (.slice A8 n8 m8) (by show g ≠ G; omega))
            have HZ9 := Lib.hid (HZ8.out.other (p := ⟨G, 0, none⟩) (by show w.heap.size ≠ G; omega) (.slice A8 n8 m8))
            have HW9 := Lib.hid (HW8.out.setCell (p := ⟨G, 0, none⟩) (by show w.heap.size ≤ G; omega) (.slice A8 n8 m8))
            have hs9 : G + 1 ≤ (w8.setCell ⟨G, 0, none⟩ (.slice A8 n8 m8)).heap.size := by simpa using hs8
            clear d8 f8 HG8 HO8 HR8 HZ8 HW8
            generalize w8.setCell ⟨G, 0, none⟩ (.slice A8 n8 m8) = w9 at *
            refine hK.out _ _ trivial (fun _ => ?_)
            clear hK K9
            try simp only [Act.put, List.setIfInBounds_toArray, List.set_cons_zero, List.set_cons_succ]
            refine wpAnyH_done (by kernel_rfl) ?_ _
            try simp only [Act.put, List.setIfInBounds_toArray, List.set_cons_zero, List.set_cons_succ]
            go_wp2_with fail
            go_roundw
            case rel => exact ⟨k + 1, A8, n8, m8, by go_num, by omega, by rw [hnx.out]; exact HO9.out, HG9.out, HZ9.out, by rw [hnx.out]; exact HR9.out, HW9.out, hs9⟩
            case measure => simp [intOf]; omega
          · refine AllReadyH.cons (Array.getElem?_eq_getElem (i := 4) (by decide)) (fun K9 hK => ?_) AllReadyH.nil
            go_simp
            refine (HT2.out _ HR0.out).mono ?_
            rintro e w6 ⟨rfl, hl6⟩
            have HG6 := Lib.hid (HG0.out.far hl6.2 (by omega))
            have HR6 := Lib.hid hl6.1
            have HW6 := Lib.hid (below_of_grown HW0.out hl6.2 (by omega) (by omega))
            have HO6 := Lib.hid (HO0.out.far hl6.2 (by omega))
            have HZ6 := Lib.hid (HZ0.out.far hl6.2 (by omega))
            have hs6 : G + 1 ≤ w6.heap.size := Nat.le_trans hsz0 hl6.2.size
            clear hl6
            refine hK.out _ _ trivial (fun _ => ?_)
            clear hK K9
            try simp only [Act.put, List.setIfInBounds_toArray, List.set_cons_zero, List.set_cons_succ]
            refine take_at (i := 5) (.agg #[.string ⟨y1.toArray⟩, .string ⟨y2.toArray⟩]) (some 49) (by decide) (by rfl) (by kernel_rfl) (by kernel_rfl) (by kernel_rfl) (fun _ _ _ h => h) (by rfl) (fun W hW => by go_simp) (by assumption) ?_
            try simp only [Act.put, List.setIfInBounds_toArray, List.set_cons_zero, List.set_cons_succ]
            refine wpAnyH_ready (rs := [1, 6]) (by kernel_rfl) (by simp) ?_
            refine come (i := 1) (.slice A nn m) w6 (some 45) (by decide) (by rfl) (by rfl) (by have := HG6.out.c0; go_simp) trivial ?_ ?_
            · try simp only [Act.put, List.setIfInBounds_toArray, List.set_cons_zero, List.set_cons_succ]
              refine wpAnyH_ready (rs := [6]) (by kernel_rfl) (by simp) ?_
              refine AllReadyH.cons (Array.getElem?_eq_getElem (i := 6) (by decide)) (fun K9 hK => ?_) AllReadyH.nil
              refine step_one kind_pp (by omega) rfl _ rfl (y1, y2) rfl ?_
              have HG7 := Lib.hid (HG6.out.below (new_below w6 (.cells (ppC (y1, y2)).toArray 56)) (by omega))
              have HR7 := Lib.hid (HR6.out.on (new_below w6 (.cells (ppC (y1, y2)).toArray 56)))
              have HZ7 := Lib.hid (HZ6.out.below (new_below w6 (.cells (ppC (y1, y2)).toArray 56)) (by omega))
              have HW7 := Lib.hid (HW6.out.trans ((new_below w6 (.cells (ppC (y1, y2)).toArray 56)).mono (by omega)))
              have HO7 := Lib.hid (HO6.out.alloc (.cells (ppC (y1, y2)).toArray 56))
              have HY7 := Lib.hid (rw_one kind_pp w6 (y1, y2) 56 _ rfl)
              have hs7 : G + 1 ≤ (w6.alloc (.cells (ppC (y1, y2)).toArray 56)).heap.size := by rw [asz]; omega
              generalize w6.alloc (.cells (ppC (y1, y2)).toArray 56) = w7 at *
              refine hK.out _ _ trivial (fun _ => ?_)
              clear hK K9
              try simp only [Act.put, List.setIfInBounds_toArray, List.set_cons_zero, List.set_cons_succ]
              refine wpAnyH_ready (rs := [7]) (by kernel_rfl) (by simp) ?_
              refine AllReadyH.cons (Array.getElem?_eq_getElem (i := 7) (by decide)) (fun K9 hK => ?_) AllReadyH.nil
              refine step_append_rw kind_pp rfl _ _ rfl rfl HO7.out (by omega) _ _ [(y1, y2)] rfl HY7.out (by simp only [List.length_singleton]; omega) ?_
              intro v8 w8 ho8 hb8 _
              have HG8 := Lib.hid (HG7.out.below hb8 (by omega))
              have HR8 := Lib.hid (HR7.out.below hb8 (by omega))
              have HZ8 := Lib.hid (HZ7.out.below hb8 (by omega))
              have HW8 := Lib.hid (HW7.out.trans (hb8.mono (by omega)))
              have hs8 : G + 1 ≤ w8.heap.size := Nat.le_trans hs7 hb8.size
              obtain ⟨A8, m8, e8⟩ : ∃ A m, v8 = .slice A (l ++ [(y1, y2)]).length m := by
                obtain ⟨A, c, e, _⟩ := (ho8.rwIn kind_pp).len
                exact ⟨A, c, e⟩
              obtain ⟨n8, hn8⟩ : ∃ x, (l ++ [(y1, y2)]).length = x := ⟨_, rfl⟩
              rw [hn8] at e8
              subst e8
              have HO8 := Lib.hid ho8
              clear hb8 ho8 hn8
              refine hK.out _ _ trivial (fun _ => ?_)
              clear hK K9
              try simp only [Act.put, List.setIfInBounds_toArray, List.set_cons_zero, List.set_cons_succ]
              refine take_at (i := 8) (.pointer (some ⟨G, 0, none⟩)) (some 52) (by decide) (by rfl) (by kernel_rfl) (by kernel_rfl) (by kernel_rfl) (fun _ _ _ h => h) (by rfl) (fun W hW => by go_simp) (by assumption) ?_
              try simp only [Act.put, List.setIfInBounds_toArray, List.set_cons_zero, List.set_cons_succ]
              refine wpAnyH_ready (rs := [9]) (by kernel_rfl) (by simp) ?_
              refine AllReadyH.cons (Array.getElem?_eq_getElem (i := 9) (by decide)) (fun K9 hK => ?_) AllReadyH.nil
              have d8 := HG8.out.c0
              have f8 := HG8.out.frozen 0
              go_simp
              have HG9 := Lib.hid (HG8.out.set0 (.slice A8 n8 m8))
              have HO9 := Lib.hid (HO8.out.put ⟨G, 0, none⟩ (.slice A8 n8 m8) (by show G < G + 1; omega))
              have HR9 := Lib.hid (HR8.out.other ⟨G, 0, none⟩ (.slice A8 n8 m8) (by show g ≠ G; omega))
              have HZ9 := Lib.hid (HZ8.out.other (p := ⟨G, 0, none⟩) (by show w.heap.size ≠ G; omega) (.slice A8 n8 m8))
              have HW9 := Lib.hid (HW8.out.setCell (p := ⟨G, 0, none⟩) (by show w.heap.size ≤ G; omega) (.slice A8 n8 m8))
              have hs9 : G + 1 ≤ (w8.setCell ⟨G, 0, none⟩ (.slice A8 n8 m8)).heap.size := by simpa using hs8
              clear d8 f8 HG8 HO8 HR8 HZ8 HW8
              generalize w8.setCell ⟨G, 0, none⟩ (.slice A8 n8 m8) = w9 at *
              refine hK.out _ _ trivial (fun _ => ?_)
              clear hK K9
              try simp only [Act.put, List.setIfInBounds_toArray, List.set_cons_zero, List.set_cons_succ]
              refine wpAnyH_done (by kernel_rfl) ?_ _
              try simp only [Act.put, List.setIfInBounds_toArray, List.set_cons_zero, List.set_cons_succ]
              go_wp2_with fail
              go_roundw
              case rel => exact ⟨k + 1, A8, n8, m8, by go_num, by omega, by rw [hnx.out]; exact HO9.out, HG9.out, HZ9.out, by rw [hnx.out]; exact HR9.out, HW9.out, hs9⟩
              case measure => simp [intOf]; omega
            · refine AllReadyH.cons (Array.getElem?_eq_getElem (i := 6) (by decide)) (fun K9 hK => ?_) AllReadyH.nil
              refine step_one kind_pp (by omega) rfl _ rfl (y1, y2) rfl ?_
              have HG7 := Lib.hid (HG6.out.below (new_below w6 (.cells (ppC (y1, y2)).toArray 56)) (by omega))
              have HR7 := Lib.hid (HR6.out.on (new_below w6 (.cells (ppC (y1, y2)).toArray 56)))
              have HZ7 := Lib.hid (HZ6.out.below (new_below w6 (.cells (ppC (y1, y2)).toArray 56)) (by omega))
              have HW7 := Lib.hid (HW6.out.trans ((new_below w6 (.cells (ppC (y1, y2)).toArray 56)).mono (by omega)))
              have HO7 := Lib.hid (HO6.out.alloc (.cells (ppC (y1, y2)).toArray 56))
              have HY7 := Lib.hid (rw_one kind_pp w6 (y1, y2) 56 _ rfl)
              have hs7 : G + 1 ≤ (w6.alloc (.cells (ppC (y1, y2)).toArray 56)).heap.size := by rw [asz]; omega
              generalize w6.alloc (.cells (ppC (y1, y2)).toArray 56) = w7 at *
              refine hK.out _ _ trivial (fun _ => ?_)
              clear hK K9
              try simp only [Act.put, List.setIfInBounds_toArray, List.set_cons_zero, List.set_cons_succ]
              refine wpAnyH_ready (rs := [1]) (by kernel_rfl) (by simp) ?_
              refine come (i := 1) (.slice A nn m) w7 (some 45) (by decide) (by rfl) (by rfl) (by have := HG7.out.c0; go_simp) trivial ?_ AllReadyH.nil
              try simp only [Act.put, List.setIfInBounds_toArray, List.set_cons_zero, List.set_cons_succ]
              refine wpAnyH_ready (rs := [7]) (by kernel_rfl) (by simp) ?_
              refine AllReadyH.cons (Array.getElem?_eq_getElem (i := 7) (by decide)) (fun K9 hK => ?_) AllReadyH.nil
              refine step_append_rw kind_pp rfl _ _ rfl rfl HO7.out (by omega) _ _ [(y1, y2)] rfl HY7.out (by simp only [List.length_singleton]; omega) ?_
              intro v8 w8 ho8 hb8 _
              have HG8 := Lib.hid (HG7.out.below hb8 (by omega))
              have HR8 := Lib.hid (HR7.out.below hb8 (by omega))
              have HZ8 := Lib.hid (HZ7.out.below hb8 (by omega))
              have HW8 := Lib.hid (HW7.out.trans (hb8.mono (by omega)))
              have hs8 : G + 1 ≤ w8.heap.size := Nat.le_trans hs7 hb8.size
              obtain ⟨A8, m8, e8⟩ : ∃ A m, v8 = .slice A (l ++ [(y1, y2)]).length m := by
                obtain ⟨A, c, e, _⟩ := (ho8.rwIn kind_pp).len
                exact ⟨A, c, e⟩
              obtain ⟨n8, hn8⟩ : ∃ x, (l ++ [(y1, y2)]).length = x := ⟨_, rfl⟩
              rw [hn8] at e8
              subst e8
              have HO8 := Lib.hid ho8
              clear hb8 ho8 hn8
              refine hK.out _ _ trivial (fun _ => ?_)
              clear hK K9
              try simp only [Act.put, List.setIfInBounds_toArray, List.set_cons_zero, List.set_cons_succ]
              refine take_at (i := 8) (.pointer (some ⟨G, 0, none⟩)) (some 52) (by decide) (by rfl) (by kernel_rfl) (by kernel_rfl) (by kernel_rfl) (fun _ _ _ h => h) (by rfl) (fun W hW => by go_simp) (by assumption) ?_
              try simp only [Act.put, List.setIfInBounds_toArray, List.set_cons_zero, List.set_cons_succ]
              refine wpAnyH_ready (rs := [9]) (by kernel_rfl) (by simp) ?_
              refine AllReadyH.cons (Array.getElem?_eq_getElem (i := 9) (by decide)) (fun K9 hK => ?_) AllReadyH.nil
              have d8 := HG8.out.c0
              have f8 := HG8.out.frozen 0
              go_simp
              have HG9 := Lib.hid (HG8.out.set0 (.slice A8 n8 m8))
              have HO9 := Lib.hid (HO8.out.put ⟨G, 0, none⟩ (.slice A8 n8 m8) (by show G < G + 1; omega))
              have HR9 := Lib.hid (HR8.out.other ⟨G, 0, none⟩ (.slice A8 n8 m8) (by show g ≠ G; omega))
              have HZ9 := Lib.hid (HZ8.out.other (p := ⟨G, 0, none⟩) (by show w.heap.size ≠ G; omega) (.slice A8 n8 m8))
              have HW9 := Lib.hid (HW8.out.setCell (p := ⟨G, 0, none⟩) (by show w.heap.size ≤ G; omega) (.slice A8 n8 m8))
              have hs9 : G + 1 ≤ (w8.setCell ⟨G, 0, none⟩ (.slice A8 n8 m8)).heap.size := by simpa using hs8
              clear d8 f8 HG8 HO8 HR8 HZ8 HW8
              generalize w8.setCell ⟨G, 0, none⟩ (.slice A8 n8 m8) = w9 at *
              refine hK.out _ _ trivial (fun _ => ?_)
              clear hK K9
              try simp only [Act.put, List.setIfInBounds_toArray, List.set_cons_zero, List.set_cons_succ]
              refine wpAnyH_done (by kernel_rfl) ?_ _
              try simp only [Act.put, List.setIfInBounds_toArray, List.set_cons_zero, List.set_cons_succ]
              go_wp2_with fail
              go_roundw
              case rel => exact ⟨k + 1, A8, n8, m8, by go_num, by omega, by rw [hnx.out]; exact HO9.out, HG9.out, HZ9.out, by rw [hnx.out]; exact HR9.out, HW9.out, hs9⟩
              case measure => simp [intOf]; omega
        · have HN : Hid (GetsT (1 :: n :: r) none) := hnb.out rfl
          clear hnb hnx HNO
          go_wp2_with (first | go_skip | go_guarded)
          refine (fend_any g bb true wr hrd.out).mono ?_
          rintro e w5 ⟨rfl, rfl⟩
          have e0 := hcg.out.c0
          have e1 := hcg.out.c1
          have d0 := hcz.out.c0
          have d1 := hcz.out.c1
          have f0 := hcz.out.frozen 0
          have f1 := hcz.out.frozen 1
          go_wp2_with (first | go_skip | go_guarded)
          exact bodyPost_ret (ret_tr Try.results15 _ _ w.heap.size _ _ (.bool false) rfl (hcz.out.whole _ _) rfl) rfl (rgott_none HN.out (below_two hw.out (Nat.le_refl _) _ _))
      · have hlt' : decide ((k : Int) < (n.toNat : Int)) = false := decide_eq_false (by omega)
        have hkn : k = n.toNat := by omega
        have HN1 : Hid (¬ ((atP s0 k).bad = false ∧ (atP s0 k).bs = [] ∧ GoodT ⟨(atP s0 k).l, []⟩ ∧ treeB ⟨(atP s0 k).l, []⟩ = 1 :: n :: r) → GetsT (1 :: n :: r) none) := fun hn => HNO.out k hk (.inl hkn) hn
        generalize atP s0 k = q at *
        obtain ⟨l, bb, x⟩ := q
        simp only at *
        obtain ⟨TT, hTT⟩ : ∃ T : Tre, T = ⟨l, []⟩ := ⟨_, rfl⟩
        have hp1 : TT.ps.length ≤ 1000 := by rw [hTT]; simp only [List.length_nil]; omega
        have hp2 : TT.ks.length ≤ 1000 := by rw [hTT]; simp only [List.length_nil]; omega
        rw [← hTT] at HN1
        have HTT := Lib.hid hTT
        obtain ⟨B0, hB0⟩ : ∃ B : List UInt8, 1 :: n :: r = B := ⟨_, rfl⟩
        rw [hB0] at HN1 ⊢
        have HBE := Lib.hid hB0
        clear hTT hB0 HNO hsq hlq
        go_wp2_with (first | go_skip | go_guarded)
        refine (fend_any g bb x wr hrd.out).mono ?_
        rintro e w5 ⟨rfl, rfl⟩
        by_cases hend : x = false ∧ bb = []
        · obtain ⟨rfl, rfl⟩ := hend
          have HN2 : Hid (¬ (GoodT TT ∧ treeB TT = B0) → GetsT B0 none) := fun hn => HN1.out (fun h => hn ⟨h.2.2.1, h.2.2.2⟩)
          clear HN1
          have HIN : Hid (TreIn wr wr.heap.size (.agg #[.slice A nn m, .slice none 0 0]) TT) := by
            rw [HTT.out]; exact ⟨_, _, rfl, ho.out.rwIn kind_pp, RwIn.nil _ _⟩
          have e0 := hcg.out.c0
          have e1 := hcg.out.c1
          go_wp2_with (first | go_skip | go_guarded)
          refine (rgoodt_any _ TT wr HIN.out hp1 hp2).mono ?_
          rintro e w6 ⟨s, rfl, hs6, hb6⟩
          have HG6 := Lib.hid (hcg.out.below hb6 (by omega))
          have HZ6 := Lib.hid (hcz.out.below hb6 (by omega))
          have HW6 := Lib.hid (hw.out.trans (hb6.mono (by omega)))
          have HO6 := Lib.hid (ho.out.keep hb6)
          have hsz6 : G + 1 ≤ w6.heap.size := Nat.le_trans hsz hb6.size
          clear hb6 hcg hcz hw ho hrd HIN e0 e1
          cases s
          · have HN : Hid (GetsT B0 none) := HN2.out (fun h => by have := hs6.2 h.1; cases this)
            clear hs6 HN2
            have e0 := HG6.out.c0
            have e1 := HG6.out.c1
            have d0 := HZ6.out.c0
            have d1 := HZ6.out.c1
            have f0 := HZ6.out.frozen 0
            have f1 := HZ6.out.frozen 1
            go_wp2_with (first | go_skip | go_guarded)
            exact bodyPost_ret (ret_tr Try.results15 _ _ w.heap.size _ _ (.bool false) rfl (HZ6.out.whole _ _) rfl) rfl (rgott_none (by rw [HBE.out]; exact HN.out) (below_two HW6.out (Nat.le_refl _) _ _))
          · have hgt := Lib.hid (hs6.1 rfl)
            have HY : Hid (treeB TT = B0 → GetsT B0 (some TT)) := fun h => getT_some hgt.out h
            have HN3 : Hid (treeB TT ≠ B0 → GetsT B0 none) := fun h => HN2.out (fun h2 => h h2.2)
            clear hs6 HN2
            have HIN : Hid (TreIn w6 w6.heap.size (.agg #[.slice A nn m, .slice none 0 0]) TT) := by
              rw [HTT.out]; exact ⟨_, _, rfl, HO6.out.rwIn kind_pp, RwIn.nil _ _⟩
            have HTR := Lib.hid (rtree_any _ TT w6 HIN.out (goodT_small hgt.out).1 (goodT_small hgt.out).2)
            have e0 := HG6.out.c0
            have e1 := HG6.out.c1
            go_wp2_with (first | go_skip | go_guarded)
            refine HTR.out.mono ?_
            rintro e w7 ⟨rfl, hb7⟩
            have HG7 := Lib.hid (HG6.out.below hb7 (by omega))
            have HZ7 := Lib.hid (HZ6.out.below hb7 (by omega))
            have HW7 := Lib.hid (HW6.out.trans (hb7.mono (by omega)))
            have HO7 := Lib.hid (HO6.out.keep hb7)
            have hsz7 : G + 1 ≤ w7.heap.size := Nat.le_trans hsz6 hb7.size
            clear hb7 HG6 HZ6 HW6 HO6 HIN e0 e1 HTR
            generalize treeB TT = tb at *
            by_cases heq : tb = B0
            · have HYY := Lib.hid (HY.out heq)
              have hq1 : (tb == B0) = true := beq_iff_eq.2 heq
              have hq2 : (tb != B0) = false := by simp [bne, hq1]
              have e0 := HG7.out.c0
              have e1 := HG7.out.c1
              have d0 := HZ7.out.c0
              have d1 := HZ7.out.c1
              have f0 := HZ7.out.frozen 0
              have f1 := HZ7.out.frozen 1
              clear heq HY HN3
              go_wp2_with (first | go_skip | go_guarded)
              refine bodyPost_ret (ret_tr Try.results15 _ _ w.heap.size _ _ (.bool true) rfl (HZ7.out.whole _ _) rfl) rfl ?_
              exact ⟨some TT, _, rfl, (by rw [HBE.out]; exact HYY.out), below_two HW7.out (Nat.le_refl _) _ _, by rw [HTT.out]; exact ⟨_, _, rfl, (HO7.out.two (by omega) _ _).rwIn kind_pp, RwIn.nil _ _⟩⟩
            · have HN := Lib.hid (HN3.out heq)
              have hq1 : (tb == B0) = false := beq_eq_false_iff_ne.2 heq
              have hq2 : (tb != B0) = true := by simp [bne, hq1]
              clear heq HY HN3
              have e0 := HG7.out.c0
              have e1 := HG7.out.c1
              have d0 := HZ7.out.c0
              have d1 := HZ7.out.c1
              have f0 := HZ7.out.frozen 0
              have f1 := HZ7.out.frozen 1
              go_wp2_with (first | go_skip | go_guarded)
              exact bodyPost_ret (ret_tr Try.results15 _ _ w.heap.size _ _ (.bool false) rfl (HZ7.out.whole _ _) rfl) rfl (rgott_none (by rw [HBE.out]; exact HN.out) (below_two HW7.out (Nat.le_refl _) _ _))
        · have HN : Hid (GetsT B0 none) := HN1.out (fun hn => hend ⟨hn.1, hn.2.1⟩)
          have hbb : (!x && bb.isEmpty) = false := by
            cases x
            · cases bb
              · exact absurd ⟨rfl, rfl⟩ hend
              · rfl
            · rfl
          rw [hbb]
          clear hend hbb HN1
          have e0 := hcg.out.c0
          have e1 := hcg.out.c1
          have d0 := hcz.out.c0
          have d1 := hcz.out.c1
          have f0 := hcz.out.frozen 0
          have f1 := hcz.out.frozen 1
          go_wp2_with (first | go_skip | go_guarded)
          exact bodyPost_ret (ret_tr Try.results15 _ _ w.heap.size _ _ (.bool false) rfl (hcz.out.whole _ _) rfl) rfl (rgott_none (by rw [HBE.out]; exact HN.out) (below_two hw.out (Nat.le_refl _) _ _))
  by_cases hk2 : c0 = 2
  · subst hk2
    have hq1 : (((2 : UInt8).toNat : Int) != 1) = true := by decide
    have hq2 : (((2 : UInt8).toNat : Int) != 2) = false := by decide
    have hqe : (((2 : UInt8).toNat : Int) == 1) = false := by decide
    have HNO : Hid (∀ k : Nat, k ≤ n.toNat → (k = n.toNat ∨ (atQ ⟨[], r, false⟩ k).bad = true) → ¬ ((atQ ⟨[], r, false⟩ k).bad = false ∧ (atQ ⟨[], r, false⟩ k).bs = [] ∧ GoodT ⟨[], (atQ ⟨[], r, false⟩ k).l⟩ ∧ treeB ⟨[], (atQ ⟨[], r, false⟩ k).l⟩ = 2 :: n :: r) → GetsT (2 :: n :: r) none) := fun k hk he hn => fT_noks hk he hn
    obtain ⟨s0, hs0⟩ : ∃ s : StK, (⟨[], r, false⟩ : StK) = s := ⟨_, rfl⟩
    have HL0 : Hid (s0.l = []) := by rw [← hs0]; rfl
    have HE0 : Hid (s0.bs = r ∧ s0.bad = false) := by rw [← hs0]; exact ⟨rfl, rfl⟩
    have HSN : Hid (Sane s0.bad s0.bs) := by rw [← hs0]; exact fun h => by cases h
    have hl0 : s0.bs.length ≤ 100000 := by rw [← hs0]; exact hrl
    rw [hs0] at HNO
    have HR4 : Hid (Rf w3 g s0.bs s0.bad) := by rw [← hs0]; exact HR3.out
    clear hs0 HR3 hrl
    go_wp2_with fail
    go_loopw [7] (fun i wr => ∃ (k : Nat) (A : Option Addr) (nn m : Nat), i = .int .i64 k ∧ k ≤ n.toNat ∧ Hid (OwnRw kkC 34 59 wr (G + 1) (.slice A nn m) (atQ s0 k).l) ∧ Hid (TrAt wr G (.slice none 0 0) (.slice A nn m)) ∧ Hid (TrAt wr w.heap.size (.slice none 0 0) (.slice none 0 0)) ∧ Hid (Rf wr g (atQ s0 k).bs (atQ s0 k).bad) ∧ Hid (Below w.heap.size w wr) ∧ G + 1 ≤ wr.heap.size) (fun i _ => n.toNat - (intOf i).toNat)
    case atStart => exact ⟨0, none, 0, 0, rfl, by omega, (by unfold Hid; show OwnRw _ _ _ _ _ _ s0.l; rw [HL0.out]; exact OwnRw.nil _ _), HD3.out, HZ3.out, HR4.out, HB3.out, by omega⟩
    case round =>
      clear HR4 HD3 HZ3 HB3
      obtain ⟨k, A, nn, m, rfl, hk, ho, hcg, hcz, hrd, hw, hsz⟩ := hrel
      have hsq := sane_atQ HSN.out k
      have hlq := len_atQ s0 k
      have hll : s0.l.length = 0 := by rw [HL0.out]; rfl
      have hnn : n.toNat < 256 := n.toNat_lt
      have hlk : (atQ s0 k).l.length ≤ 256 := by omega
      have hlb : (atQ s0 k).bs.length ≤ 100000 := by omega
      by_cases hlt : k < n.toNat
      · have hlt' : decide ((k : Int) < (n.toNat : Int)) = true := decide_eq_true (by omega)
        have hnx : Hid (atQ s0 (k + 1) = ⟨(atQ s0 k).l ++ [(txV 16 (atQ s0 k).bs, fnV (txB 16 (atQ s0 k).bs))], fnB (txB 16 (atQ s0 k).bs), fnX (txB 16 (atQ s0 k).bs)⟩) := rfl
        have hnb : Hid ((atQ s0 k).bad = true → GetsT (2 :: n :: r) none) := fun h => HNO.out k hk (.inr h) (fun hn => by rw [h] at hn; cases hn.1)
        go_wp2_with (first | go_skip | go_guarded)
        refine (fgood_any g _ _ wr hrd.out).mono ?_
        rintro e w5 ⟨rfl, rfl⟩
        generalize atQ s0 k = q at *
        obtain ⟨l, bb, x⟩ := q
        simp only at *
        cases x
        · have HT1 := Lib.hid (fun W h => ftext_any g 16 bb false W h hsq (by omega) (by omega))
          have htl := txB_len 16 bb
          have HT2 := Lib.hid (fun W h => fname_any g (txB 16 bb) (txX 16 bb) W h (Sane.tx 16 bb) (by omega))
          generalize fnV (txB 16 bb) = y2 at *
          generalize fnX (txB 16 bb) = xx3 at *
          generalize fnB (txB 16 bb) = bb3 at *
          generalize txV 16 bb = y1 at *
          generalize txB 16 bb = bb2 at *
          generalize txX 16 bb = xx2 at *
          clear hnb hsq hlq htl
          go_wp2_with (first | go_skip | go_guarded)
          refine (HT1.out _ hrd.out).mono ?_
          rintro e w5 ⟨rfl, hl5⟩
          have HG5 := Lib.hid (hcg.out.far hl5.2 (by omega))
          have HR5 := Lib.hid hl5.1
          have HW5 := Lib.hid (below_of_grown hw.out hl5.2 (by omega) (by omega))
          have HO5 := Lib.hid (ho.out.far hl5.2 (by omega))
          have HZ5 := Lib.hid (hcz.out.far hl5.2 (by omega))
          have hs5 : G + 1 ≤ w5.heap.size := Nat.le_trans hsz hl5.2.size
          clear hl5 hcg hrd hw ho hcz HT1
          go_wp2_with fail
          obtain ⟨W0, hW0⟩ : ∃ x, w5.drew = x := ⟨_, rfl⟩
          have HG0 : Hid (TrAt W0 G (.slice none 0 0) (.slice A nn m)) := by rw [← hW0]; exact HG5.out
          have HO0 : Hid (OwnRw kkC 34 59 W0 (G + 1) (.slice A nn m) l) := by rw [← hW0]; exact HO5.out.drew
          have HZ0 : Hid (TrAt W0 w.heap.size (.slice none 0 0) (.slice none 0 0)) := by rw [← hW0]; exact HZ5.out
          have HR0 : Hid (Rf W0 g bb2 xx2) := by rw [← hW0]; exact HR5.out.drew
          have HW0 : Hid (Below w.heap.size w W0) := by rw [← hW0]; exact HW5.out.drew
          have hsz0 : G + 1 ≤ W0.heap.size := by rw [← hW0]; simpa using hs5
          clear HG5 HO5 HZ5 HR5 HW5
          refine region_begin hW0 (S := fun _ => True) (by kernel_rfl) trivial (fun _ => ?_)
          clear hW0
          refine take_at (i := 0) (.pointer (some ⟨G, 1, none⟩)) (some 53) (by decide) (by rfl) (by kernel_rfl) (by kernel_rfl) (by kernel_rfl) (fun _ _ _ h => h) (by rfl) (fun W hW => by go_simp) (by assumption) ?_
          try simp only [Act.put, List.setIfInBounds_toArray, List.set_cons_zero, List.set_cons_succ]
          refine take_at (i := 2) (.string ⟨y1.toArray⟩) (some 55) (by decide) (by rfl) (by kernel_rfl) (by kernel_rfl) (by kernel_rfl) (fun _ _ _ h => h) (by rfl) (fun W hW => by go_simp) (by assumption) ?_
          try simp only [Act.put, List.setIfInBounds_toArray, List.set_cons_zero, List.set_cons_succ]
          refine take_at (i := 3) (.pointer (some ⟨g, 0, none⟩)) (some 56) (by decide) (by rfl) (by kernel_rfl) (by kernel_rfl) (by kernel_rfl) (fun _ _ _ h => h) (by rfl) (fun W hW => by go_simp) (by assumption) ?_
          try simp only [Act.put, List.setIfInBounds_toArray, List.set_cons_zero, List.set_cons_succ]
          refine wpAnyH_ready (rs := [1, 4]) (by kernel_rfl) (by simp) ?_
          refine come (i := 1) (.slice A nn m) W0 (some 54) (by decide) (by rfl) (by rfl) (by have := HG0.out.c1; go_simp) trivial ?_ ?_
          · try simp only [Act.put, List.setIfInBounds_toArray, List.set_cons_zero, List.set_cons_succ]
            refine wpAnyH_ready (rs := [4]) (by kernel_rfl) (by simp) ?_
            refine AllReadyH.cons (Array.getElem?_eq_getElem (i := 4) (by decide)) (fun K9 hK => ?_) AllReadyH.nil
            go_simp
            refine (HT2.out _ HR0.out).mono ?_
            rintro e w6 ⟨rfl, hl6⟩
            have HG6 := Lib.hid (HG0.out.far hl6.2 (by omega))
            have HR6 := Lib.hid hl6.1
            have HW6 := Lib.hid (below_of_grown HW0.out hl6.2 (by omega) (by omega))
            have HO6 := Lib.hid (HO0.out.far hl6.2 (by omega))
            have HZ6 := Lib.hid (HZ0.out.far hl6.2 (by omega))
            have hs6 : G + 1 ≤ w6.heap.size := Nat.le_trans hsz0 hl6.2.size
            clear hl6
            refine hK.out _ _ trivial (fun _ => ?_)
            clear hK K9
            try simp only [Act.put, List.setIfInBounds_toArray, List.set_cons_zero, List.set_cons_succ]
            refine take_at (i := 5) (.agg (kkC (y1, y2)).toArray) (some 58) (by decide) (by rfl) (by kernel_rfl) (by kernel_rfl) (by kernel_rfl) (fun _ _ _ h => h) (by rfl) (fun W hW => by exact exec_build_kk _ _ rfl y1 y2 rfl rfl) (by assumption) ?_
            try simp only [Act.put, List.setIfInBounds_toArray, List.set_cons_zero, List.set_cons_succ]
            refine wpAnyH_ready (rs := [6]) (by kernel_rfl) (by simp) ?_
            refine AllReadyH.cons (Array.getElem?_eq_getElem (i := 6) (by decide)) (fun K9 hK => ?_) AllReadyH.nil
            refine step_one kind_kk (by omega) rfl _ rfl (y1, y2) rfl ?_
            have HG7 := Lib.hid (HG6.out.below (new_below w6 (.cells (kkC (y1, y2)).toArray 59)) (by omega))
            have HR7 := Lib.hid (HR6.out.on (new_below w6 (.cells (kkC (y1, y2)).toArray 59)))
            have HZ7 := Lib.hid (HZ6.out.below (new_below w6 (.cells (kkC (y1, y2)).toArray 59)) (by omega))
            have HW7 := Lib.hid (HW6.out.trans ((new_below w6 (.cells (kkC (y1, y2)).toArray 59)).mono (by omega)))
            have HO7 := Lib.hid (HO6.out.alloc (.cells (kkC (y1, y2)).toArray 59))
            have HY7 := Lib.hid (rw_one kind_kk w6 (y1, y2) 59 _ rfl)
            have hs7 : G + 1 ≤ (w6.alloc (.cells (kkC (y1, y2)).toArray 59)).heap.size := by rw [asz]; omega
            generalize w6.alloc (.cells (kkC (y1, y2)).toArray 59) = w7 at *
            refine hK.out _ _ trivial (fun _ => ?_)
            clear hK K9
            try simp only [Act.put, List.setIfInBounds_toArray, List.set_cons_zero, List.set_cons_succ]
            refine wpAnyH_ready (rs := [7]) (by kernel_rfl) (by simp) ?_
            refine AllReadyH.cons (Array.getElem?_eq_getElem (i := 7) (by decide)) (fun K9 hK => ?_) AllReadyH.nil
            refine step_append_rw kind_kk rfl _ _ rfl rfl HO7.out (by omega) _ _ [(y1, y2)] rfl HY7.out (by simp only [List.length_singleton]; omega) ?_
            intro v8 w8 ho8 hb8 _
            have HG8 := Lib.hid (HG7.out.below hb8 (by omega))
            have HR8 := Lib.hid (HR7.out.below hb8 (by omega))
            have HZ8 := Lib.hid (HZ7.out.below hb8 (by omega))
            have HW8 := Lib.hid (HW7.out.trans (hb8.mono (by omega)))
            have hs8 : G + 1 ≤ w8.heap.size := Nat.le_trans hs7 hb8.size
            obtain ⟨A8, m8, e8⟩ : ∃ A m, v8 = .slice A (l ++ [(y1, y2)]).length m := by
              obtain ⟨A, c, e, _⟩ := (ho8.rwIn kind_kk).len
              exact ⟨A, c, e⟩
            obtain ⟨n8, hn8⟩ : ∃ x, (l ++ [(y1, y2)]).length = x := ⟨_, rfl⟩
            rw [hn8] at e8
            subst e8
            have HO8 := Lib.hid ho8
            clear hb8 ho8 hn8
            refine hK.out _ _ trivial (fun _ => ?_)
            clear hK K9
            try simp only [Act.put, List.setIfInBounds_toArray, List.set_cons_zero, List.set_cons_succ]
            refine take_at (i := 8) (.pointer (some ⟨G, 1, none⟩)) (some 61) (by decide) (by rfl) (by kernel_rfl) (by kernel_rfl) (by kernel_rfl) (fun _ _ _ h => h) (by rfl) (fun W hW => by go_simp) (by assumption) ?_
            try simp only [Act.put, List.setIfInBounds_toArray, List.set_cons_zero, List.set_cons_succ]
            refine wpAnyH_ready (rs := [9]) (by kernel_rfl) (by simp) ?_
            refine AllReadyH.cons (Array.getElem?_eq_getElem (i := 9) (by decide)) (fun K9 hK => ?_) AllReadyH.nil
            have d8 := HG8.out.c1
            have f8 := HG8.out.frozen 1
            go_simp
            have HG9 := Lib.hid (HG8.out.set1 (.slice A8 n8 m8))
            have HO9 := Lib.hid (HO8.out.put ⟨G, 1, none⟩ (.slice A8 n8 m8) (by show G < G + 1; omega))
            have HR9 := Lib.hid (HR8.out.other ⟨G, 1, none⟩ (.slice A8 n8 m8) (by show g ≠ G; omega))
            have HZ9 := Lib.hid (HZ8.out.other (p := ⟨G, 1, none⟩) (by show w.heap.size ≠ G; omega) (.slice A8 n8 m8))
            have HW9 := Lib.hid (HW8.out.setCell (p := ⟨G, 1, none⟩) (by show w.heap.size ≤ G; omega) (.slice A8 n8 m8))
            have hs9 : G + 1 ≤ (w8.setCell ⟨G, 1, none⟩ (.slice A8 n8 m8)).heap.size := by simpa using hs8
            clear d8 f8 HG8 HO8 HR8 HZ8 HW8
            generalize w8.setCell ⟨G, 1, none⟩ (.slice A8 n8 m8) = w9 at *
            refine hK.out _ _ trivial (fun _ => ?_)
            clear hK K9
            try simp only [Act.put, List.setIfInBounds_toArray, List.set_cons_zero, List.set_cons_succ]
            refine wpAnyH_done (by kernel_rfl) ?_ _
            try simp only [Act.put, List.setIfInBounds_toArray, List.set_cons_zero, List.set_cons_succ]
            go_wp2_with fail
            go_roundw
            case rel => exact ⟨k + 1, A8, n8, m8, by go_num, by omega, by rw [hnx.out]; exact HO9.out, HG9.out, HZ9.out, by rw [hnx.out]; exact HR9.out, HW9.out, hs9⟩
            case measure => simp [intOf]; omega
          · refine AllReadyH.cons (Array.getElem?_eq_getElem (i := 4) (by decide)) (fun K9 hK => ?_) AllReadyH.nil
            go_simp
            refine (HT2.out _ HR0.out).mono ?_
            rintro e w6 ⟨rfl, hl6⟩
            have HG6 := Lib.hid (HG0.out.far hl6.2 (by omega))
            have HR6 := Lib.hid hl6.1
            have HW6 := Lib.hid (below_of_grown HW0.out hl6.2 (by omega) (by omega))
            have HO6 := Lib.hid (HO0.out.far hl6.2 (by omega))
            have HZ6 := Lib.hid (HZ0.out.far hl6.2 (by omega))
            have hs6 : G + 1 ≤ w6.heap.size := Nat.le_trans hsz0 hl6.2.size
            clear hl6
            refine hK.out _ _ trivial (fun _ => ?_)
            clear hK K9
            try simp only [Act.put, List.setIfInBounds_toArray, List.set_cons_zero, List.set_cons_succ]
            refine take_at (i := 5) (.agg (kkC (y1, y2)).toArray) (some 58) (by decide) (by rfl) (by kernel_rfl) (by kernel_rfl) (by kernel_rfl) (fun _ _ _ h => h) (by rfl) (fun W hW => by exact exec_build_kk _ _ rfl y1 y2 rfl rfl) (by assumption) ?_
            try simp only [Act.put, List.setIfInBounds_toArray, List.set_cons_zero, List.set_cons_succ]
            refine wpAnyH_ready (rs := [1, 6]) (by kernel_rfl) (by simp) ?_
            refine come (i := 1) (.slice A nn m) w6 (some 54) (by decide) (by rfl) (by rfl) (by have := HG6.out.c1; go_simp) trivial ?_ ?_
            · try simp only [Act.put, List.setIfInBounds_toArray, List.set_cons_zero, List.set_cons_succ]
              refine wpAnyH_ready (rs := [6]) (by kernel_rfl) (by simp) ?_
              refine AllReadyH.cons (Array.getElem?_eq_getElem (i := 6) (by decide)) (fun K9 hK => ?_) AllReadyH.nil
              refine step_one kind_kk (by omega) rfl _ rfl (y1, y2) rfl ?_
              have HG7 := Lib.hid (HG6.out.below (new_below w6 (.cells (kkC (y1, y2)).toArray 59)) (by omega))
              have HR7 := Lib.hid (HR6.out.on (new_below w6 (.cells (kkC (y1, y2)).toArray 59)))
              have HZ7 := Lib.hid (HZ6.out.below (new_below w6 (.cells (kkC (y1, y2)).toArray 59)) (by omega))
              have HW7 := Lib.hid (HW6.out.trans ((new_below w6 (.cells (kkC (y1, y2)).toArray 59)).mono (by omega)))
              have HO7 := Lib.hid (HO6.out.alloc (.cells (kkC (y1, y2)).toArray 59))
              have HY7 := Lib.hid (rw_one kind_kk w6 (y1, y2) 59 _ rfl)
              have hs7 : G + 1 ≤ (w6.alloc (.cells (kkC (y1, y2)).toArray 59)).heap.size := by rw [asz]; omega
              generalize w6.alloc (.cells (kkC (y1, y2)).toArray 59) = w7 at *
              refine hK.out _ _ trivial (fun _ => ?_)
              clear hK K9
              try simp only [Act.put, List.setIfInBounds_toArray, List.set_cons_zero, List.set_cons_succ]
              refine wpAnyH_ready (rs := [7]) (by kernel_rfl) (by simp) ?_
              refine AllReadyH.cons (Array.getElem?_eq_getElem (i := 7) (by decide)) (fun K9 hK => ?_) AllReadyH.nil
              refine step_append_rw kind_kk rfl _ _ rfl rfl HO7.out (by omega) _ _ [(y1, y2)] rfl HY7.out (by simp only [List.length_singleton]; omega) ?_
              intro v8 w8 ho8 hb8 _
              have HG8 := Lib.hid (HG7.out.below hb8 (by omega))
              have HR8 := Lib.hid (HR7.out.below hb8 (by omega))
              have HZ8 := Lib.hid (HZ7.out.below hb8 (by omega))
              have HW8 := Lib.hid (HW7.out.trans (hb8.mono (by omega)))
              have hs8 : G + 1 ≤ w8.heap.size := Nat.le_trans hs7 hb8.size
              obtain ⟨A8, m8, e8⟩ : ∃ A m, v8 = .slice A (l ++ [(y1, y2)]).length m := by
                obtain ⟨A, c, e, _⟩ := (ho8.rwIn kind_kk).len
                exact ⟨A, c, e⟩
              obtain ⟨n8, hn8⟩ : ∃ x, (l ++ [(y1, y2)]).length = x := ⟨_, rfl⟩
              rw [hn8] at e8
              subst e8
              have HO8 := Lib.hid ho8
              clear hb8 ho8 hn8
              refine hK.out _ _ trivial (fun _ => ?_)
              clear hK K9
              try simp only [Act.put, List.setIfInBounds_toArray, List.set_cons_zero, List.set_cons_succ]
              refine take_at (i := 8) (.pointer (some ⟨G, 1, none⟩)) (some 61) (by decide) (by rfl) (by kernel_rfl) (by kernel_rfl) (by kernel_rfl) (fun _ _ _ h => h) (by rfl) (fun W hW => by go_simp) (by assumption) ?_
              try simp only [Act.put, List.setIfInBounds_toArray, List.set_cons_zero, List.set_cons_succ]
              refine wpAnyH_ready (rs := [9]) (by kernel_rfl) (by simp) ?_
              refine AllReadyH.cons (Array.getElem?_eq_getElem (i := 9) (by decide)) (fun K9 hK => ?_) AllReadyH.nil
              have d8 := HG8.out.c1
              have f8 := HG8.out.frozen 1
              go_simp
              have HG9 := Lib.hid (HG8.out.set1 (.slice A8 n8 m8))
              have HO9 := Lib.hid (HO8.out.put ⟨G, 1, none⟩ (.slice A8 n8 m8) (by show G < G + 1; omega))
              have HR9 := Lib.hid (HR8.out.other ⟨G, 1, none⟩ (.slice A8 n8 m8) (by show g ≠ G; omega))
              have HZ9 := Lib.hid (HZ8.out.other (p := ⟨G, 1, none⟩) (by show w.heap.size ≠ G; omega) (.slice A8 n8 m8))
              have HW9 := Lib.hid (HW8.out.setCell (p := ⟨G, 1, none⟩) (by show w.heap.size ≤ G; omega) (.slice A8 n8 m8))
              have hs9 : G + 1 ≤ (w8.setCell ⟨G, 1, none⟩ (.slice A8 n8 m8)).heap.size := by simpa using hs8
              clear d8 f8 HG8 HO8 HR8 HZ8 HW8
              generalize w8.setCell ⟨G, 1, none⟩ (.slice A8 n8 m8) = w9 at *
              refine hK.out _ _ trivial (fun _ => ?_)
              clear hK K9
              try simp only [Act.put, List.setIfInBounds_toArray, List.set_cons_zero, List.set_cons_succ]
              refine wpAnyH_done (by kernel_rfl) ?_ _
              try simp only [Act.put, List.setIfInBounds_toArray, List.set_cons_zero, List.set_cons_succ]
              go_wp2_with fail
              go_roundw
              case rel => exact ⟨k + 1, A8, n8, m8, by go_num, by omega, by rw [hnx.out]; exact HO9.out, HG9.out, HZ9.out, by rw [hnx.out]; exact HR9.out, HW9.out, hs9⟩
              case measure => simp [intOf]; omega
            · refine AllReadyH.cons (Array.getElem?_eq_getElem (i := 6) (by decide)) (fun K9 hK => ?_) AllReadyH.nil
              refine step_one kind_kk (by omega) rfl _ rfl (y1, y2) rfl ?_
              have HG7 := Lib.hid (HG6.out.below (new_below w6 (.cells (kkC (y1, y2)).toArray 59)) (by omega))
              have HR7 := Lib.hid (HR6.out.on (new_below w6 (.cells (kkC (y1, y2)).toArray 59)))
              have HZ7 := Lib.hid (HZ6.out.below (new_below w6 (.cells (kkC (y1, y2)).toArray 59)) (by omega))
              have HW7 := Lib.hid (HW6.out.trans ((new_below w6 (.cells (kkC (y1, y2)).toArray 59)).mono (by omega)))
              have HO7 := Lib.hid (HO6.out.alloc (.cells (kkC (y1, y2)).toArray 59))
              have HY7 := Lib.hid (rw_one kind_kk w6 (y1, y2) 59 _ rfl)
              have hs7 : G + 1 ≤ (w6.alloc (.cells (kkC (y1, y2)).toArray 59)).heap.size := by rw [asz]; omega
              generalize w6.alloc (.cells (kkC (y1, y2)).toArray 59) = w7 at *
              refine hK.out _ _ trivial (fun _ => ?_)
              clear hK K9
              try simp only [Act.put, List.setIfInBounds_toArray, List.set_cons_zero, List.set_cons_succ]
              refine wpAnyH_ready (rs := [1]) (by kernel_rfl) (by simp) ?_
              refine come (i := 1) (.slice A nn m) w7 (some 54) (by decide) (by rfl) (by rfl) (by have := HG7.out.c1; go_simp) trivial ?_ AllReadyH.nil
              try simp only [Act.put, List.setIfInBounds_toArray, List.set_cons_zero, List.set_cons_succ]
              refine wpAnyH_ready (rs := [7]) (by kernel_rfl) (by simp) ?_
              refine AllReadyH.cons (Array.getElem?_eq_getElem (i := 7) (by decide)) (fun K9 hK => ?_) AllReadyH.nil
              refine step_append_rw kind_kk rfl _ _ rfl rfl HO7.out (by omega) _ _ [(y1, y2)] rfl HY7.out (by simp only [List.length_singleton]; omega) ?_
              intro v8 w8 ho8 hb8 _
              have HG8 := Lib.hid (HG7.out.below hb8 (by omega))
              have HR8 := Lib.hid (HR7.out.below hb8 (by omega))
              have HZ8 := Lib.hid (HZ7.out.below hb8 (by omega))
              have HW8 := Lib.hid (HW7.out.trans (hb8.mono (by omega)))
              have hs8 : G + 1 ≤ w8.heap.size := Nat.le_trans hs7 hb8.size
              obtain ⟨A8, m8, e8⟩ : ∃ A m, v8 = .slice A (l ++ [(y1, y2)]).length m := by
                obtain ⟨A, c, e, _⟩ := (ho8.rwIn kind_kk).len
                exact ⟨A, c, e⟩
              obtain ⟨n8, hn8⟩ : ∃ x, (l ++ [(y1, y2)]).length = x := ⟨_, rfl⟩
              rw [hn8] at e8
              subst e8
              have HO8 := Lib.hid ho8
              clear hb8 ho8 hn8
              refine hK.out _ _ trivial (fun _ => ?_)
              clear hK K9
              try simp only [Act.put, List.setIfInBounds_toArray, List.set_cons_zero, List.set_cons_succ]
              refine take_at (i := 8) (.pointer (some ⟨G, 1, none⟩)) (some 61) (by decide) (by rfl) (by kernel_rfl) (by kernel_rfl) (by kernel_rfl) (fun _ _ _ h => h) (by rfl) (fun W hW => by go_simp) (by assumption) ?_
              try simp only [Act.put, List.setIfInBounds_toArray, List.set_cons_zero, List.set_cons_succ]
              refine wpAnyH_ready (rs := [9]) (by kernel_rfl) (by simp) ?_
              refine AllReadyH.cons (Array.getElem?_eq_getElem (i := 9) (by decide)) (fun K9 hK => ?_) AllReadyH.nil
              have d8 := HG8.out.c1
              have f8 := HG8.out.frozen 1
              go_simp
              have HG9 := Lib.hid (HG8.out.set1 (.slice A8 n8 m8))
              have HO9 := Lib.hid (HO8.out.put ⟨G, 1, none⟩ (.slice A8 n8 m8) (by show G < G + 1; omega))
              have HR9 := Lib.hid (HR8.out.other ⟨G, 1, none⟩ (.slice A8 n8 m8) (by show g ≠ G; omega))
              have HZ9 := Lib.hid (HZ8.out.other (p := ⟨G, 1, none⟩) (by show w.heap.size ≠ G; omega) (.slice A8 n8 m8))
              have HW9 := Lib.hid (HW8.out.setCell (p := ⟨G, 1, none⟩) (by show w.heap.size ≤ G; omega) (.slice A8 n8 m8))
              have hs9 : G + 1 ≤ (w8.setCell ⟨G, 1, none⟩ (.slice A8 n8 m8)).heap.size := by simpa using hs8
              clear d8 f8 HG8 HO8 HR8 HZ8 HW8
              generalize w8.setCell ⟨G, 1, none⟩ (.slice A8 n8 m8) = w9 at *
              refine hK.out _ _ trivial (fun _ => ?_)
              clear hK K9
              try simp only [Act.put, List.setIfInBounds_toArray, List.set_cons_zero, List.set_cons_succ]
              refine wpAnyH_done (by kernel_rfl) ?_ _
              try simp only [Act.put, List.setIfInBounds_toArray, List.set_cons_zero, List.set_cons_succ]
              go_wp2_with fail
              go_roundw
              case rel => exact ⟨k + 1, A8, n8, m8, by go_num, by omega, by rw [hnx.out]; exact HO9.out, HG9.out, HZ9.out, by rw [hnx.out]; exact HR9.out, HW9.out, hs9⟩
              case measure => simp [intOf]; omega
        · have HN : Hid (GetsT (2 :: n :: r) none) := hnb.out rfl
          clear hnb hnx HNO
          go_wp2_with (first | go_skip | go_guarded)
          refine (fend_any g bb true wr hrd.out).mono ?_
          rintro e w5 ⟨rfl, rfl⟩
          have e0 := hcg.out.c0
          have e1 := hcg.out.c1
          have d0 := hcz.out.c0
          have d1 := hcz.out.c1
          have f0 := hcz.out.frozen 0
          have f1 := hcz.out.frozen 1
          go_wp2_with (first | go_skip | go_guarded)
          exact bodyPost_ret (ret_tr Try.results15 _ _ w.heap.size _ _ (.bool false) rfl (hcz.out.whole _ _) rfl) rfl (rgott_none HN.out (below_two hw.out (Nat.le_refl _) _ _))
      · have hlt' : decide ((k : Int) < (n.toNat : Int)) = false := decide_eq_false (by omega)
        have hkn : k = n.toNat := by omega
        have HN1 : Hid (¬ ((atQ s0 k).bad = false ∧ (atQ s0 k).bs = [] ∧ GoodT ⟨[], (atQ s0 k).l⟩ ∧ treeB ⟨[], (atQ s0 k).l⟩ = 2 :: n :: r) → GetsT (2 :: n :: r) none) := fun hn => HNO.out k hk (.inl hkn) hn
        generalize atQ s0 k = q at *
        obtain ⟨l, bb, x⟩ := q
        simp only at *
        obtain ⟨TT, hTT⟩ : ∃ T : Tre, T = ⟨[], l⟩ := ⟨_, rfl⟩
        have hp1 : TT.ps.length ≤ 1000 := by rw [hTT]; simp only [List.length_nil]; omega
        have hp2 : TT.ks.length ≤ 1000 := by rw [hTT]; simp only [List.length_nil]; omega
        rw [← hTT] at HN1
        have HTT := Lib.hid hTT
        obtain ⟨B0, hB0⟩ : ∃ B : List UInt8, 2 :: n :: r = B := ⟨_, rfl⟩
        rw [hB0] at HN1 ⊢
        have HBE := Lib.hid hB0
        clear hTT hB0 HNO hsq hlq
        go_wp2_with (first | go_skip | go_guarded)
        refine (fend_any g bb x wr hrd.out).mono ?_
        rintro e w5 ⟨rfl, rfl⟩
        by_cases hend : x = false ∧ bb = []
        · obtain ⟨rfl, rfl⟩ := hend
          have HN2 : Hid (¬ (GoodT TT ∧ treeB TT = B0) → GetsT B0 none) := fun hn => HN1.out (fun h => hn ⟨h.2.2.1, h.2.2.2⟩)
          clear HN1
          have HIN : Hid (TreIn wr wr.heap.size (.agg #[.slice none 0 0, .slice A nn m]) TT) := by
            rw [HTT.out]; exact ⟨_, _, rfl, RwIn.nil _ _, ho.out.rwIn kind_kk⟩
          have e0 := hcg.out.c0
          have e1 := hcg.out.c1
          go_wp2_with (first | go_skip | go_guarded)
          refine (rgoodt_any _ TT wr HIN.out hp1 hp2).mono ?_
          rintro e w6 ⟨s, rfl, hs6, hb6⟩
          have HG6 := Lib.hid (hcg.out.below hb6 (by omega))
          have HZ6 := Lib.hid (hcz.out.below hb6 (by omega))
          have HW6 := Lib.hid (hw.out.trans (hb6.mono (by omega)))
          have HO6 := Lib.hid (ho.out.keep hb6)
          have hsz6 : G + 1 ≤ w6.heap.size := Nat.le_trans hsz hb6.size
          clear hb6 hcg hcz hw ho hrd HIN e0 e1
          cases s
          · have HN : Hid (GetsT B0 none) := HN2.out (fun h => by have := hs6.2 h.1; cases this)
            clear hs6 HN2
            have e0 := HG6.out.c0
            have e1 := HG6.out.c1
            have d0 := HZ6.out.c0
            have d1 := HZ6.out.c1
            have f0 := HZ6.out.frozen 0
            have f1 := HZ6.out.frozen 1
            go_wp2_with (first | go_skip | go_guarded)
            exact bodyPost_ret (ret_tr Try.results15 _ _ w.heap.size _ _ (.bool false) rfl (HZ6.out.whole _ _) rfl) rfl (rgott_none (by rw [HBE.out]; exact HN.out) (below_two HW6.out (Nat.le_refl _) _ _))
          · have hgt := Lib.hid (hs6.1 rfl)
            have HY : Hid (treeB TT = B0 → GetsT B0 (some TT)) := fun h => getT_some hgt.out h
            have HN3 : Hid (treeB TT ≠ B0 → GetsT B0 none) := fun h => HN2.out (fun h2 => h h2.2)
            clear hs6 HN2
            have HIN : Hid (TreIn w6 w6.heap.size (.agg #[.slice none 0 0, .slice A nn m]) TT) := by
              rw [HTT.out]; exact ⟨_, _, rfl, RwIn.nil _ _, HO6.out.rwIn kind_kk⟩
            have HTR := Lib.hid (rtree_any _ TT w6 HIN.out (goodT_small hgt.out).1 (goodT_small hgt.out).2)
            have e0 := HG6.out.c0
            have e1 := HG6.out.c1
            go_wp2_with (first | go_skip | go_guarded)
            refine HTR.out.mono ?_
            rintro e w7 ⟨rfl, hb7⟩
            have HG7 := Lib.hid (HG6.out.below hb7 (by omega))
            have HZ7 := Lib.hid (HZ6.out.below hb7 (by omega))
            have HW7 := Lib.hid (HW6.out.trans (hb7.mono (by omega)))
            have HO7 := Lib.hid (HO6.out.keep hb7)
            have hsz7 : G + 1 ≤ w7.heap.size := Nat.le_trans hsz6 hb7.size
            clear hb7 HG6 HZ6 HW6 HO6 HIN e0 e1 HTR
            generalize treeB TT = tb at *
            by_cases heq : tb = B0
            · have HYY := Lib.hid (HY.out heq)
              have hq1 : (tb == B0) = true := beq_iff_eq.2 heq
              have hq2 : (tb != B0) = false := by simp [bne, hq1]
              have e0 := HG7.out.c0
              have e1 := HG7.out.c1
              have d0 := HZ7.out.c0
              have d1 := HZ7.out.c1
              have f0 := HZ7.out.frozen 0
              have f1 := HZ7.out.frozen 1
              clear heq HY HN3
              go_wp2_with (first | go_skip | go_guarded)
              refine bodyPost_ret (ret_tr Try.results15 _ _ w.heap.size _ _ (.bool true) rfl (HZ7.out.whole _ _) rfl) rfl ?_
              exact ⟨some TT, _, rfl, (by rw [HBE.out]; exact HYY.out), below_two HW7.out (Nat.le_refl _) _ _, by rw [HTT.out]; exact ⟨_, _, rfl, RwIn.nil _ _, (HO7.out.two (by omega) _ _).rwIn kind_kk⟩⟩
            · have HN := Lib.hid (HN3.out heq)
              have hq1 : (tb == B0) = false := beq_eq_false_iff_ne.2 heq
              have hq2 : (tb != B0) = true := by simp [bne, hq1]
              clear heq HY HN3
              have e0 := HG7.out.c0
              have e1 := HG7.out.c1
              have d0 := HZ7.out.c0
              have d1 := HZ7.out.c1
              have f0 := HZ7.out.frozen 0
              have f1 := HZ7.out.frozen 1
              go_wp2_with (first | go_skip | go_guarded)
              exact bodyPost_ret (ret_tr Try.results15 _ _ w.heap.size _ _ (.bool false) rfl (HZ7.out.whole _ _) rfl) rfl (rgott_none (by rw [HBE.out]; exact HN.out) (below_two HW7.out (Nat.le_refl _) _ _))
        · have HN : Hid (GetsT B0 none) := HN1.out (fun hn => hend ⟨hn.1, hn.2.1⟩)
          have hbb : (!x && bb.isEmpty) = false := by
            cases x
            · cases bb
              · exact absurd ⟨rfl, rfl⟩ hend
              · rfl
            · rfl
          rw [hbb]
          clear hend hbb HN1
          have e0 := hcg.out.c0
          have e1 := hcg.out.c1
          have d0 := hcz.out.c0
          have d1 := hcz.out.c1
          have f0 := hcz.out.frozen 0
          have f1 := hcz.out.frozen 1
          go_wp2_with (first | go_skip | go_guarded)
          exact bodyPost_ret (ret_tr Try.results15 _ _ w.heap.size _ _ (.bool false) rfl (hcz.out.whole _ _) rfl) rfl (rgott_none (by rw [HBE.out]; exact HN.out) (below_two hw.out (Nat.le_refl _) _ _))
  have HN : Hid (GetsT (c0 :: n :: r) none) := fT_kind hk1 hk2
  have hq1 : ((c0.toNat : Int) != 1) = true := by
    rw [bne_iff_ne]
    exact fun e => hk1 (UInt8.toNat_inj.1 (by show _ = 1; omega))
  have hq2 : ((c0.toNat : Int) != 2) = true := by
    rw [bne_iff_ne]
    exact fun e => hk2 (UInt8.toNat_inj.1 (by show _ = 2; omega))
  clear hk1 hk2
  have e0 := HD3.out.c0
  have e1 := HD3.out.c1
  have d0 := HZ3.out.c0
  have d1 := HZ3.out.c1
  have f0 := HZ3.out.frozen 0
  have f1 := HZ3.out.frozen 1
  go_wp2_with (first | go_skip | go_guarded)
  exact bodyPost_ret (ret_tr Try.results15 _ _ w.heap.size _ _ (.bool false) rfl (HZ3.out.whole _ _) rfl) rfl (rgott_none HN.out (below_two HB3.out (Nat.le_refl _) _ _))

end Go.Proofs.Ytabogconbjdcgaa.Cd
