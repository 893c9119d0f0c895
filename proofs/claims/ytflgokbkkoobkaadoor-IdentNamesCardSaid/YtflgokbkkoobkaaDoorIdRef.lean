/-
  The document's Id, Name. Conditions: none.
-/
import Derived.Test.YtflgokbkkoobkaaDoorIdOf
namespace Go.Proofs.YtflgokbkkoobkaaDoor.Cd
open Go.RowKit

/-- The cells of a name of which k bytes are laid. -/
def idr (c : UInt8) (r : List UInt8) (k : Nat) : Array Value := (vb (c :: (r.take k ++ zer (32 - k)))).toArray
theorem idr_at (c : UInt8) (r : List UInt8) (k : Nat) (hk : k < r.length) (hr : r.length ≤ 32) : (idr c r k)[1 + k]? = some (.int .u8 0) := by
  unfold idr
  rw [List.getElem?_toArray, show 1 + k = k + 1 by omega]
  show (vb (r.take k ++ zer (32 - k)))[k]? = _
  rw [vb_at _ k (by simp [zer_length]; omega)]
  congr 2
  rw [List.getElem_append_right (by simp; omega)]
  simp [zer]
theorem idr_set (c : UInt8) (r : List UInt8) (k : Nat) (hk : k < r.length) (hr : r.length ≤ 32) : (idr c r k).setIfInBounds (1 + k) (.int .u8 (r[k]).toNat) = idr c r (k + 1) := by
  unfold idr
  rw [List.setIfInBounds_toArray, show 1 + k = k + 1 by omega]
  congr 1
  show Value.int .u8 c.toNat :: (vb (r.take k ++ zer (32 - k))).set k _ = Value.int .u8 c.toNat :: vb (r.take (k + 1) ++ zer (32 - (k + 1)))
  congr 1
  have e : (vb (r.take k ++ zer (32 - k))).set k (.int .u8 (r[k]).toNat) = vb ((r.take k ++ zer (32 - k)).set k r[k]) := by simp [vb, List.map_set]
  rw [e]
  congr 1
  rw [List.take_succ_eq_append_getElem hk, List.append_assoc, show 32 - k = (32 - (k + 1)) + 1 by omega]
  have hz : zer ((32 - (k + 1)) + 1) = 0 :: zer (32 - (k + 1)) := rfl
  rw [hz, List.set_append_right _ _ (by simp; omega)]
  simp [Nat.min_eq_left (Nat.le_of_lt hk)]
theorem idr_all (c : UInt8) (r : List UInt8) (hr : r.length ≤ 32) : idr c r r.length = (vb (c :: pad32 r)).toArray := by
  unfold idr pad32
  rw [List.take_of_length_le (Nat.le_refl _), List.take_of_length_le hr]
theorem idr_none (c : UInt8) (r : List UInt8) : idr c r 0 = (vb (c :: zer 32)).toArray := rfl

set_option maxRecDepth 100000 in
set_option maxHeartbeats 1600000 in
theorem rid_nil (w : World) : Calls Tryd.prog 23 #[.string ⟨([] : List UInt8).toArray⟩] w (Gives (idV (zer 33)) w) := by
  have hi0 : IdAt ((w.alloc (.cells (vb (zer 33)).toArray 26)).alloc (.cells (vb (zer 33)).toArray 26)) (w.heap.size + 1) (zer 33) := by
    have := IdAt.new (w.alloc (.cells (vb (zer 33)).toArray 26)) (zer 33)
    rwa [asz] at this
  have hi1 : IdAt ((w.alloc (.cells (vb (zer 33)).toArray 26)).alloc (.cells (vb (zer 33)).toArray 26)) w.heap.size (zer 33) := (heap_alloc_old _ _ (by simp)).trans (heap_alloc_new _ _)
  have HI0 := Lib.hid hi0
  have HI1 := Lib.hid hi1
  clear hi0 hi1
  go_enter Tryd.func23, Tryd.ntmps23
  go_wp2_with (first
    | (refine wp_alloc_row zero_id rfl rfl ?_)
    | (refine wp_load_id rfl _ rfl (w.heap.size + 1) rfl (zer 33) (zer_length _) HI0.out ?_)
    | (refine wp_put_id rfl _ _ rfl w.heap.size rfl (zer 33) (zer_length _) rfl (zer 33) (zer_length _) HI1.out ?hK))
  intro w3 h3 hg3
  have hb3 : Below w.heap.size w w3 := (((Below.refl _ _).alloc (Nat.le_refl _) _).alloc (by simp) _).grown hg3 (by rw [asz, asz]; omega) (fun k hk => by injection hk with hk; omega)
  go_wp2_with fail
  exact bodyPost_ret (v := idV (zer 33)) (ret_id Tryd.results23 _ _ w.heap.size (zer 33) (zer_length _) rfl h3) rfl ⟨rfl, hb3⟩

set_option maxRecDepth 100000 in
set_option maxHeartbeats 1600000 in
theorem rid_cons (c : UInt8) (r : List UInt8) (w : World) (hr : r.length ≤ 32) : Calls Tryd.prog 23 #[.string ⟨(c :: r).toArray⟩] w (Gives (idV (c :: pad32 r)) w) := by
  have hix : ∀ h, (ByteArray.mk (c :: r).toArray)[0]'h = c := fun _ => rfl
  have hsz : (ByteArray.mk (c :: r).toArray).size = r.length + 1 := rfl
  have hz0 : (vb (zer 33)).toArray[0]? = some (.int .u8 0) := rfl
  have hz1 : (vb (zer 33)).toArray.setIfInBounds 0 (.int .u8 c.toNat) = idr c r 0 := rfl
  obtain ⟨Z, hZ⟩ : ∃ Z, (vb (zer 33)).toArray = Z := ⟨_, rfl⟩
  have hza : ∀ W, (zeroValue 26).run Tryd.prog W = .ok (.agg Z) W := fun W => by rw [← hZ]; exact zero_id W
  rw [hZ] at hz0 hz1
  have HZ := Lib.hid hZ
  have HR := Lib.hid hr
  clear hZ
  go_enter Tryd.func23, Tryd.ntmps23
  go_wp2_with (refine wp_alloc_row hza rfl rfl ?_)
  go_loopw [4] (fun i wr => ∃ k : Nat, k ≤ r.length ∧ i = .int .i64 ((k : Int) + 1) ∧ Hid (wr = (w.alloc (.cells Z 26)).alloc (.cells (idr c r k) 26))) (fun i _ => r.length + 1 - (intOf i).toNat)
  case atStart => exact ⟨0, Nat.zero_le _, rfl, rfl⟩
  case round =>
    obtain ⟨k, hk, rfl, hw⟩ := hrel
    obtain rfl := hw.out
    clear hw
    by_cases hlt : k < r.length
    · have hg := idr_at c r k hlt hr
      have hst := idr_set c r k hlt hr
      have hiy : ∀ h, (ByteArray.mk (c :: r).toArray)[k + 1]'h = r[k] := fun _ => rfl
      have HST := Lib.hid hst
      clear hst
      go_wp2
      go_roundw
      case rel => exact ⟨k + 1, by omega, by go_num, by unfold Hid; rw [HST.out]⟩
      case measure => simp [intOf]; omega
    · obtain rfl : k = r.length := by omega
      clear hlt hk
      have hi0 : IdAt ((w.alloc (.cells Z 26)).alloc (.cells (idr c r r.length) 26)) (w.heap.size + 1) (c :: pad32 r) := by
        have := heap_alloc_new (w.alloc (.cells Z 26)) (.cells (idr c r r.length) 26)
        rw [asz, idr_all c r hr] at this
        rw [idr_all c r hr]
        exact this
      have hi1 : IdAt ((w.alloc (.cells Z 26)).alloc (.cells (idr c r r.length) 26)) w.heap.size (zer 33) := by
        rw [← HZ.out]
        exact (heap_alloc_old _ _ (by simp)).trans (heap_alloc_new _ _)
      have hb : Below w.heap.size w ((w.alloc (.cells Z 26)).alloc (.cells (idr c r r.length) 26)) := ((Below.refl _ _).alloc (Nat.le_refl _) _).alloc (by simp) _
      have hsz2 : w.heap.size + 2 ≤ ((w.alloc (.cells Z 26)).alloc (.cells (idr c r r.length) 26)).heap.size := by simp
      generalize (w.alloc (.cells Z 26)).alloc (.cells (idr c r r.length) 26) = w2 at hi0 hi1 hb hsz2 ⊢
      have HI0 := Lib.hid hi0
      have HI1 := Lib.hid hi1
      have HB := Lib.hid hb
      have HL : Hid ((c :: pad32 r).length = 33) := by unfold Hid; simp [pad32_length]
      clear hi0 hi1 hb hz0 hz1 hza
      go_wp2_with (first
        | (refine wp_load_id rfl _ rfl (w.heap.size + 1) rfl (c :: pad32 r) HL.out HI0.out ?_)
        | (refine wp_put_id rfl _ _ rfl w.heap.size rfl (c :: pad32 r) HL.out rfl (zer 33) (zer_length _) HI1.out ?hK))
      intro w3 h3 hg3
      have hb3 : Below w.heap.size w w3 := HB.out.grown hg3 (by omega) (fun k hk => by injection hk with hk; omega)
      go_wp2_with fail
      exact bodyPost_ret (v := idV (c :: pad32 r)) (ret_id Tryd.results23 _ _ w.heap.size (c :: pad32 r) HL.out rfl h3) rfl ⟨rfl, hb3⟩

end Go.Proofs.YtflgokbkkoobkaaDoor.Cd
