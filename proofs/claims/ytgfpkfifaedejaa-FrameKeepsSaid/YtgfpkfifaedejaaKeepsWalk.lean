/-
  FrameKeeps answers true. Conditions: none.
-/
import Derived.Test.YtgfpkfifaedejaaSame
import Derived.Test.YtgfpkfifaedejaaSplit
import Derived.Test.YtgfpkfifaedejaaZeros
import Derived.Deep.RegionHeld3
namespace Go.Proofs.Ytgfpkfifaedejaa.FrameKeeps
open Go.RowKit Go.Proofs.Ytgfpkfifaedejaa.Cd

theorem sl_at {w : World} {B n c : Nat} {A : Option Addr} {bs : List UInt8} (h : Sl w B (.slice A n c) bs) {k : Nat} (hk : k < bs.length) :
    ∃ b off, A = some ⟨b, off, none⟩ ∧ b < B ∧ w.cell? ⟨b, off + k, none⟩ = some (.int .u8 (bs[k]).toNat) := by
  obtain ⟨b, off, c', e, _, _, h5, h6⟩ := h.at (by omega)
  injection e with e1 e2 e3
  exact ⟨b, off, e1, h5, h6 k hk⟩

theorem left_at (a b : List UInt8) (cur : Array Value) (h : ∀ (j : Nat) (u : Value), (vb (a ++ b))[j]? = some u → cur[j]? = some u) (k : Nat) (hk : k < a.length) : cur[k]? = some (.int .u8 (a[k]).toNat) := by
  refine h k _ ?_
  rw [vb_append, List.getElem?_append_left (by rw [vb_length]; exact hk)]
  exact vb_at a k hk

theorem zero_at (a : List UInt8) (n : Nat) (cur : Array Value) (h : ∀ (j : Nat) (u : Value), (vb (a ++ List.replicate n 0))[j]? = some u → cur[j]? = some u) (k : Nat) (hk : a.length ≤ k) (hk2 : k < a.length + n) : cur[k]? = some (.int .u8 0) := by
  refine h k _ ?_
  rw [vb_append, List.getElem?_append_right (by rw [vb_length]; exact hk), vb_length, vb_at _ _ (by rw [List.length_replicate]; omega)]
  simp

/-- The row's first n cells are bytes. -/
def Full (w : World) (g n : Nat) : Prop := ∃ cs, w.heap[g]? = some (.cells cs 5 (0, 0)) ∧ ∀ j, j < n → ∃ x, cs[j]? = some (.int .u8 x)
theorem Full.set {w : World} {g n : Nat} (h : Full w g n) (i : Nat) (x : Int) : Full (w.setCell ⟨g, i, none⟩ (.int .u8 x)) g n := by
  obtain ⟨cs, hh, hc⟩ := h
  refine ⟨cs.setIfInBounds i (.int .u8 x), by simp [World.setCell, Array.getElem?_modify, hh], fun j hj => ?_⟩
  by_cases e : i = j
  · subst e
    have := hc i hj
    obtain ⟨y, hy⟩ := this
    have hlt := (Array.getElem?_eq_some_iff.1 hy).1
    exact ⟨x, by rw [Array.getElem?_setIfInBounds, if_pos rfl, if_pos hlt]⟩
  · obtain ⟨y, hy⟩ := hc j hj
    exact ⟨y, by rw [Array.getElem?_setIfInBounds, if_neg e]; exact hy⟩

set_option maxRecDepth 100000 in
set_option maxHeartbeats 800000 in
theorem much (v : Value) (bs : List UInt8) (s : ByteArray) (w : World) (h : Sl w w.heap.size v bs) (hs : s.size ≤ maxLen) (hbig : 4096 < bs.length ∨ (¬ 4096 < bs.length ∧ 1024 < s.size)) :
    Calls Try.prog 6 #[v, .string s] w (Gives (.bool true) w) := by
  obtain ⟨A, c, rfl, h2, h3⟩ := h.len
  have h3 : c ≤ 9223372036854775807 := h3
  have hs : s.size ≤ 9223372036854775807 := hs
  clear h
  rcases hbig with hbig | ⟨hb, hbig⟩
  all_goals
    go_enter Try.func6, Try.ntmps6
    go_wp2_with fail
    refine (alive_any w).mono ?_
    rintro e w1 ⟨rfl, hb1⟩
    go_wp2_with fail
    go_ret
    exact ⟨rfl, hb1⟩

set_option maxRecDepth 100000 in
set_option maxHeartbeats 4000000 in
theorem main (v : Value) (bs s : List UInt8) (w : World) (h : Sl w w.heap.size v bs) (hb : bs.length ≤ 4096) (hs : s.length ≤ 1024) :
    Calls Try.prog 6 #[v, .string ⟨s.toArray⟩] w (Gives (.bool true) w) := by
  obtain ⟨A, c, rfl, h2, h3⟩ := h.len
  have h3 : c ≤ 9223372036854775807 := h3
  have H := Lib.hid h
  clear h
  have hssz : (ByteArray.mk s.toArray).size = s.length := rfl
  have hfl := frm_le s (by omega)
  go_enter Try.func6, Try.ntmps6
  go_wp2_with fail
  refine (alive_any w).mono ?_
  rintro e w1 ⟨rfl, hb1⟩
  have hs1 := hb1.size
  have H1 := Lib.hid ((H.out.below hb1).more hs1)
  go_wp2_with (at_builtin; refine wp_append_sl rfl _ _ rfl w1.heap.size _ [] rfl (own_new w1 _ (Nat.le_refl _)) (by simp) _ _ bs rfl (H1.out.below ((Below.refl _ _).alloc (Nat.le_refl _) _)) (by simp; omega) ?_)
  intro v2 w2 ho2 hb2
  have hba : Below w1.heap.size w1 w2 := ((Below.refl _ _).alloc (Nat.le_refl _) _).trans hb2
  have hs2 := hba.size
  have HO2 := Lib.hid ho2
  clear ho2 hb2
  go_wp2_with (at_builtin; refine wp_append_zeros rfl _ _ rfl w1.heap.size _ bs rfl ?ho hs2 (s.length + 20) ((s.length : Int) + 20) ?hq rfl ?hn ?hm ?hK)
  case ho => exact HO2.out
  case hq => omega
  case hn => omega
  case hm => omega
  case hK =>
    intro v3 w3 ho3 hb3
    obtain ⟨T, hT⟩ : ∃ T, bs ++ List.replicate (s.length + 20) 0 = T := ⟨_, rfl⟩
    have hTl : T.length = bs.length + s.length + 20 := by rw [← hT, List.length_append, List.length_replicate]; omega
    have hTb : bs.length ≤ T.length ∧ 20 ≤ T.length ∧ T.length ≤ 5140 := by omega
    have HTL := Lib.hid hTl
    clear hTl
    have htk : Hid (T.take bs.length = bs) := by unfold Hid; rw [← hT, List.take_left]
    have hbc : Below w1.heap.size w1 w3 := hba.trans hb3
    have hs3 := hbc.size
    rw [hT] at ho3
    obtain ⟨gf, cap, cur, rfl, hgw, hgl, hblk, hcap, hmx, hcur⟩ := own_block ho3 (by omega)
    have hmx2 : cap ≤ 9223372036854775807 := hmx
    have HCUR := Lib.hid (fun k hk => left_at bs (List.replicate (s.length + 20) 0) cur (by rw [hT]; exact hcur) k hk)
    have HZER := Lib.hid (fun k hk hk2 => zero_at bs (s.length + 20) cur (by rw [hT]; exact hcur) k hk hk2)
    have HBLK := Lib.hid hblk
    have HO3 := Lib.hid ho3.sl
    have HB3 := Lib.hid (hb1.trans (hbc.mono hs1))
    have H3 := Lib.hid ((H1.out.below hbc).more hs3)
    clear hb1 hba hb3 hbc ho3 hcur hblk hT
    go_wp2_with fail
    refine (put_any _ bs s w3 (by have := sl_take HO3.out bs.length (by omega); rw [htk.out] at this; exact this) (by omega)).mono ?_
    rintro e w4 ⟨x, rfl, ho4, hb4⟩
    have hs4 := hb4.size
    have X4 := Lib.hid ho4
    have O4 := Lib.hid ((HO3.out.below hb4).more hs4)
    clear ho4
    go_wp2_with fail
    refine (split_any _ T w4 O4.out (by omega)).mono ?_
    rintro e w5 ⟨u5, ds, cur5, hsp, rfl, hu5, hb5⟩
    have hs5 := hb5.size
    have hblk5 : w5.heap[gf]? = some (.cells cur 5 (0, 0)) := ((hb5.block gf (by omega)).trans (hb4.block gf hgl)).trans HBLK.out
    have HB5 := Lib.hid hblk5
    have X5 := Lib.hid (X4.out.keep hb5)
    have W5 := Lib.hid (HB3.out.trans ((hb4.trans (hb5.mono hs4)).mono (by omega)))
    have S5 := Lib.hid ((H3.out.below (hb4.trans (hb5.mono hs4))).more (by omega))
    clear hsp hu5 hb4 hb5 hblk5 O4 X4
    go_wp2_with fail
    go_loop [37] (fun i => ∃ k : Nat, i = .int .i64 k ∧ k ≤ T.length) (fun i => T.length - (intOf i).toNat)
    case atStart => exact ⟨0, rfl, by omega⟩
    case round =>
      obtain ⟨k, rfl, hk⟩ := hrel
      by_cases hlt : k < bs.length
      · have hfc : w5.cell? ⟨gf, k, none⟩ = some (.int .u8 (bs[k]).toNat) := by
          rw [cell_of_row w5 gf k cur 5 (0, 0) HB5.out]
          exact HCUR.out k hlt
        obtain ⟨bb, off, hA, hbB, hbc⟩ := sl_at S5.out hlt
        subst hA
        generalize bs[k] = d at hfc hbc
        have hkT : k < T.length := by omega
        have hq : ((d.toNat : Int) != (d.toNat : Int)) = false := by simp
        go_wp2_with fail
        go_round
        case rel => exact ⟨k + 1, by go_num, by omega⟩
        case measure => simp [intOf]; omega
      · by_cases hlt2 : k < T.length
        · have hfc : w5.cell? ⟨gf, k, none⟩ = some (.int .u8 0) := by
            rw [cell_of_row w5 gf k cur 5 (0, 0) HB5.out]
            exact HZER.out k (by omega) (by have := HTL.out; omega)
          go_wp2_with fail
          go_round
          case rel => exact ⟨k + 1, by go_num, by omega⟩
          case measure => simp [intOf]; omega
        · have HF5 : Hid (Full w5 gf T.length) := ⟨cur, HB5.out, fun j hj => by
            by_cases hjb : j < bs.length
            · exact ⟨_, HCUR.out j hjb⟩
            · exact ⟨_, HZER.out j (by omega) (by have := HTL.out; omega)⟩⟩
          go_wp2_with fail
          go_loopw [67] (fun i wr => ∃ m : Nat, i = .int .i64 m ∧ m ≤ T.length ∧ Hid (Full wr gf T.length) ∧ Hid (w5.grownBy wr (some gf))) (fun i _ => T.length - (intOf i).toNat)
          case atStart => exact ⟨0, rfl, by omega, HF5, grown_refl _ _⟩
          case round =>
            obtain ⟨m, rfl, hm, hfull, hgr⟩ := hrel
            by_cases hmlt : m < T.length
            · obtain ⟨cs, hh, hc⟩ := hfull.out
              obtain ⟨y, hy⟩ := hc m hmlt
              have hfc : wr.cell? ⟨gf, m, none⟩ = some (.int .u8 y) := by rw [cell_of_row wr gf m cs 5 (0, 0) hh]; exact hy
              have hff : wr.frozen? ⟨gf, m, none⟩ = false := by simp [World.frozen?, hh]
              clear hh hc hy
              go_wp2_with fail
              go_roundw
              case rel => exact ⟨m + 1, by go_num, by omega, hfull.out.set m _, grown_trans hgr.out (grown_set _ _ _ _)⟩
              case measure => simp [intOf]; omega
            · have hg9 := hgr.out
              have hs9 := hg9.size
              have X9 := Lib.hid ((own_far X5.out hg9 (by omega)).sl)
              have W9 := Lib.hid (below_grown W5.out hg9 W5.out.size (by omega))
              have S9 := Lib.hid ((H.out.below W9.out).more W9.out.size)
              have hadd := fun W => add_text W bs (frm s) (by omega)
              have hq : ((bs ++ frm s) == (bs ++ frm s)) = true := by simp
              have K1 : Hid (Sl wr.drew wr.drew.heap.size (.slice A bs.length c) bs) := S9.out.below (Below.refl _ _).drew
              have Y1 : Hid (Sl wr.drew wr.drew.heap.size x (bs ++ frm s)) := X9.out.below (Below.refl _ _).drew
              have HW1 : Hid (Below w.heap.size w wr.drew) := W9.out.drew
              have hWs : w.heap.size ≤ wr.drew.heap.size := W9.out.size
              clear hg9 hgr hfull X9 W9 S9 HF5 X5 W5 S5 HB5
              go_wp2_with fail
              go_region_held3 (fun W => (convert 22 9 (.slice A bs.length c)).run Try.prog W = .ok (.string ⟨bs.toArray⟩) W ∧ (convert 22 9 x).run Try.prog W = .ok (.string ⟨(bs ++ frm s).toArray⟩) W)
                (first | exact ⟨run_text_of _ _ _ _ K2.out, run_text_of _ _ _ _ Y2.out⟩ | exact ⟨run_text_of _ _ _ _ K1.out, run_text_of _ _ _ _ Y1.out⟩)
                (first
                | (go_at_call 12; refine (rframe_any s _ (by omega)).mono ?_; rintro e wF ⟨rfl, hbF⟩; have K2 := Lib.hid ((K1.out.below hbF).more hbF.size); have Y2 := Lib.hid ((Y1.out.below hbF).more hbF.size); have HWF := Lib.hid (HW1.out.trans (hbF.mono hWs)); clear hbF))
              all_goals
                go_wp2_with fail
                go_ret
                exact ⟨rfl, HWF.out⟩

theorem walk (v : Value) (bs : List UInt8) (s : ByteArray) (w : World) (h : Sl w w.heap.size v bs) (hs : s.size ≤ maxLen) :
    Calls Try.prog 6 #[v, .string s] w (Gives (.bool true) w) := by
  by_cases h1 : 4096 < bs.length
  · exact much v bs s w h hs (.inl h1)
  · by_cases h2 : 1024 < s.size
    · exact much v bs s w h hs (.inr ⟨h1, h2⟩)
    · have h3 := main v bs s.data.toList w h (by omega) (by have : s.data.toList.length = s.size := rfl; omega)
      simpa using h3

end Go.Proofs.Ytgfpkfifaedejaa.FrameKeeps
