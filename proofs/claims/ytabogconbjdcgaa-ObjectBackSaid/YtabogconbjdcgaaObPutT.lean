/-
  object.PutTree; how many bytes there are. Conditions: none.
-/
import Derived.Test.YtabogconbjdcgaaObTop
import Derived.Test.YtabogconbjdcgaaObPutKs
namespace Go.Proofs.Ytabogconbjdcgaa.Cd
open Go.RowKit

theorem txt_short {s : List UInt8} (h : s.length ≤ 127) : (txt s).length = 1 + s.length := by
  rw [txt_len, enc_lo (by omega)]
  rfl
theorem textI_len (l : List UInt8) : (textI l).length ≤ 33 := textI_length l
theorem flat_le {α : Type} (f : α → List UInt8) (m : Nat) (l : List α) (h : ∀ p ∈ l, (f p).length ≤ m) : ((l.map f).flatten).length ≤ l.length * m := by
  induction l with
  | nil => simp
  | cons p r ih =>
    have h1 := ih (fun q hq => h q (List.mem_cons_of_mem _ hq))
    have h2 := h p List.mem_cons_self
    rw [List.map_cons, List.flatten_cons, List.length_append, List.length_cons, Nat.add_mul]
    omega
theorem psB_small {l : List Bp} (h : GoodPs l) : (psB l).length ≤ 136 := by
  have h1 := flat_le (fun p : Bp => txt p.1 ++ txt p.2) 34 l (fun p hp => by
    have a := h.key p hp
    have b := h.val p hp
    rw [List.length_append, txt_short (by omega), txt_short (by omega)]
    omega)
  have h2 := h.few
  unfold psB
  omega
theorem ksB_small {l : List Kd} (h : GoodKs l) : (ksB l).length ≤ 150 := by
  have h1 := flat_le (fun p : Kd => txt p.1 ++ textI p.2.1) 50 l (fun p hp => by
    have a := h.key p hp
    have b := textI_len p.2.1
    rw [List.length_append, txt_short (by omega)]
    omega)
  have h2 := h.few
  unfold ksB
  omega
theorem isB_small {r : UInt8} {l : List Idn} (h : GoodIs r l) : (isB l).length ≤ 66 := by
  have h1 := flat_le (fun p : Idn => textI p.1) 33 l (fun p _ => textI_len p.1)
  have h2 := h.few
  unfold isB
  omega
theorem treeB_small {t : Tre} (h : GoodT t) : (treeB t).length ≤ 152 := by
  rcases h with ⟨h1, h2⟩ | ⟨_, h2⟩
  · rw [treeB_ps h1]
    have := psB_small h2
    simp only [List.length_cons]
    omega
  · rw [treeB_ks h2]
    have := ksB_small h2
    simp only [List.length_cons]
    omega
theorem num_small {z : Int} (h0 : 1 ≤ z) (h1 : z ≤ 1024) : (enc (zig z)).length ≤ 2 := by
  refine enc_len 2 _ ?_ (by omega)
  unfold zig
  rw [if_pos (by omega)]
  omega
theorem comB_small {c : Cmt} (h : GoodC c) : (comB c).length ≤ 136 := by
  have h1 := textI_len c.root.1
  have h2 := isB_small h.is
  have h3 := num_small h.low h.high
  have h4 := h.note
  unfold comB
  simp only [List.length_cons, List.length_append]
  rw [txt_short (by omega)]
  omega

/-- What Put leaves: bytes of the call's own, or ErrArg. -/
def Puts (P : Prop) (bs : List UInt8) (w : World) (e : Ending) (w' : World) : Prop :=
  ∃ v n, e = .returned (.tuple #[v, .int .i64 n]) ∧ Below w.heap.size w w' ∧ ((P ∧ n = 0 ∧ Own w' w.heap.size v bs) ∨ (¬ P ∧ n = 1 ∧ v = .slice none 0 0))

set_option maxRecDepth 100000 in
set_option maxHeartbeats 1600000 in
theorem putt_any (v : Value) (t : Tre) (w : World) (h : TreIn w w.heap.size v t) : Calls Try.prog 10 #[v] w (Puts (GoodT t) (treeB t) w) := by
  obtain ⟨ps, ks⟩ := t
  obtain ⟨vp, vk, rfl, h1, h2⟩ := h
  have h1 : PsIn w w.heap.size vp ps := h1
  have h2 : KsIn w w.heap.size vk ks := h2
  obtain ⟨A1, c1, e1, k1, l1⟩ := h1.len
  obtain ⟨A2, c2, e2, k2, l2⟩ := h2.len
  have hb1 : Below w.heap.size w (w.alloc (.cells #[vp, vk] 25)) := new_below _ _
  have hz1 : (w.alloc (.cells #[vp, vk] 25)).heap.size = w.heap.size + 1 := asz _ _
  have H1 : Hid (PsIn (w.alloc (.cells #[vp, vk] 25)) (w.alloc (.cells #[vp, vk] 25)).heap.size vp ps) := h1.on hb1
  have H2 : Hid (KsIn (w.alloc (.cells #[vp, vk] 25)) (w.alloc (.cells #[vp, vk] 25)).heap.size vk ks) := h2.on hb1
  have HR : Hid ((w.alloc (.cells #[vp, vk] 25)).heap[w.heap.size]? = some (.cells #[vp, vk] 25)) := heap_alloc_new _ _
  have HB1 := Lib.hid hb1
  have HZ1 := Lib.hid hz1
  clear h1 h2 hb1 hz1
  subst e1 e2
  go_enter Try.func10, Try.ntmps10
  go_wp2_with fail
  generalize w.alloc (.cells #[.slice A1 ps.length c1, .slice A2 ks.length c2] 25) = W1 at *
  refine (goodt_any _ ⟨ps, ks⟩ W1 ⟨_, _, rfl, H1.out, H2.out⟩).mono ?_
  rintro e w2 ⟨s, rfl, hs, hb2⟩
  have hz0 : w.heap.size + 1 ≤ W1.heap.size := by have := HZ1.out; omega
  have HB2 := Lib.hid (HB1.out.trans (hb2.mono (by omega)))
  have HR2 : Hid (w2.heap[w.heap.size]? = some (.cells #[.slice A1 ps.length c1, .slice A2 ks.length c2] 25)) := (hb2.block _ (by omega)).trans HR.out
  have HP2 : Hid (PsIn w2 w2.heap.size (.slice A1 ps.length c1) ps) := H1.out.on hb2
  have HK2 : Hid (KsIn w2 w2.heap.size (.slice A2 ks.length c2) ks) := H2.out.on hb2
  have hz2 : w.heap.size ≤ w2.heap.size := by have := hb2.size; omega
  clear hb2
  have d0 := cell_of_row _ _ 0 _ _ _ HR2.out
  have d1 := cell_of_row _ _ 1 _ _ _ HR2.out
  cases s
  · have hno : Hid (¬ GoodT ⟨ps, ks⟩) := fun h => by have := hs.2 h; cases this
    clear hs
    go_wp2_with fail
    go_ret2
    exact ⟨_, _, rfl, HB2.out, .inr ⟨hno.out, rfl, rfl⟩⟩
  · have hyes : Hid (GoodT ⟨ps, ks⟩) := hs.1 rfl
    clear hs
    by_cases hk : ks.length = 0
    · have hks : ks = [] := List.eq_nil_of_length_eq_zero hk
      subst hks
      have hps : (psB ps).length ≤ 1000000 := by
        rcases hyes.out with h | h
        · have := psB_small h.2; simp only at this; omega
        · exact absurd rfl (goodKs_ne h.2)
      have HT : Hid (treeB ⟨ps, []⟩ = 1 :: UInt8.ofNat ps.length :: psB ps) := treeB_ps rfl
      clear hk
      go_wp2_with fail
      refine (putps_any _ ps w2 HP2.out hps).mono ?_
      rintro e w3 ⟨v3, rfl, ho3, hb3⟩
      have HB3 := Lib.hid (HB2.out.trans (hb3.mono hz2))
      have HO3 := Lib.hid (ho3.lower hz2)
      clear hb3 ho3
      go_wp2_with fail
      go_ret2
      exact ⟨_, _, rfl, HB3.out, .inl ⟨hyes.out, rfl, by rw [HT.out]; exact HO3.out⟩⟩
    · have hkpos : (0 : Int) < ks.length := by omega
      have hgk : GoodKs ks := hyes.out.elim (fun h => absurd (by have e : ks = [] := h.1; rw [e]; rfl) hk) (fun h => h.2)
      have hks : (ksB ks).length ≤ 1000000 := by have := ksB_small hgk; omega
      have HT : Hid (treeB ⟨ps, ks⟩ = 2 :: UInt8.ofNat ks.length :: ksB ks) := treeB_ks hgk
      clear hgk hk
      go_wp2_with fail
      refine (putks_any _ ks w2 HK2.out hks).mono ?_
      rintro e w3 ⟨v3, rfl, ho3, hb3⟩
      have HB3 := Lib.hid (HB2.out.trans (hb3.mono hz2))
      have HO3 := Lib.hid (ho3.lower hz2)
      clear hb3 ho3
      go_wp2_with fail
      go_ret2
      exact ⟨_, _, rfl, HB3.out, .inl ⟨hyes.out, rfl, by rw [HT.out]; exact HO3.out⟩⟩

end Go.Proofs.Ytabogconbjdcgaa.Cd
