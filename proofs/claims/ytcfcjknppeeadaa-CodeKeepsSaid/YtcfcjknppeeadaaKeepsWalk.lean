/-
  CodeKeeps answers true. Conditions: none.
-/
import Derived.Test.YtcfcjknppeeadaaWritten
import Derived.Test.YtcfcjknppeeadaaAlive
import Derived.Test.YtcfcjknppeeadaaOpen
import Derived.Test.YtcfcjknppeeadaaReads
import Derived.Deep.RegionWith
import Derived.Deep.RegionHeld3
namespace Go.Proofs.Ytcfcjknppeeadaa.CodeKeeps
open Go.RowKit Go.Proofs.Ytcfcjknppeeadaa.Cd

/-- append of bytes, for the walk: the source whatever slice of bytes. -/
theorem wp_append_sl {w : World} {ops : Array Oper} {rest : List Oper} {o : Oper} {a : Act} {Q : Exit → Act → World → Prop} (hgd : o.guard = none) (s x : Operand)
    (hop : o.op = .call { callee := .builtin .append, args := #[s, x], argTypes := #[26, 26] })
    (B : Nat) (v : Value) (bs : List UInt8) (hs : a.eval s = v) (ho : Own w B v bs) (hB : B ≤ w.heap.size) (y : Value) (B' : Nat) (ns : List UInt8) (hx : a.eval x = y) (hy : Sl w B' y ns)
    (hm : bs.length + ns.length ≤ 140737488355328)
    (hK : ∀ v' w', Own w' B v' (bs ++ ns) → Below B w w' → wpList Try.prog ops Q rest (a.put o.dst v') w') : wpList Try.prog ops Q (o :: rest) a w := by
  refine wpList_plain hgd fun K hK' => ?_
  obtain ⟨v', w', hrun, r1, r2⟩ := run_append_sl w B v bs ho hB y B' ns hy hm o.type
  unfold Oper.wp
  simp [execOp, hop, resolve, invoke, builtin, hs, hx, hrun, Result.andThen]
  exact hK' _ _ (hK v' w' r1 r2)

def twelve : List UInt8 := [1, 2, 3, 4, 5, 6, 7, 8, 9, 10, 11, 12]

theorem own_new (w : World) (B : Nat) (hB : B ≤ w.heap.size) : Own (w.alloc (.cells #[] 5)) B (.slice (some ⟨w.heap.size, 0, none⟩) 0 0) [] :=
  World.ownsRow_made (base := B) (e := 5) (size := 1) w #[] 0 hB (by simp) rfl

/-- A row of the call's own that has bytes: its block, known whole. -/
theorem own_block {w : World} {B : Nat} {v : Value} {bs : List UInt8} (h : Own w B v bs) (h0 : 0 < bs.length) :
    ∃ (g cap : Nat) (cur : Array Value), v = .slice (some ⟨g, 0, none⟩) bs.length cap ∧ B ≤ g ∧ g < w.heap.size ∧ w.heap[g]? = some (.cells cur 5 (0, 0)) ∧ bs.length ≤ cap ∧ cap ≤ maxLen ∧ ∀ (j : Nat) (u : Value), (vb bs)[j]? = some u → cur[j]? = some u := by
  have hlt := h.lt
  rcases h.2 with ⟨_, h1⟩ | ⟨g, cap, cur, rfl, hb, hh, hn, hm, hc, ht⟩
  · omega
  · refine ⟨g, cap, cur, rfl, hb, (hlt g rfl).2, hh, hn, hm, fun j u hu => ?_⟩
    have hj := (List.getElem?_eq_some_iff.1 hu).1
    rw [vb_length] at hj
    rw [← ht] at hu
    rw [List.getElem?_take, if_pos (by omega)] at hu
    simpa using hu

theorem mine_sl {W : World} {gf cap : Nat} {cur : Array Value} {bs : List UInt8} (hh : W.heap[gf]? = some (.cells cur 5 (0, 0))) (hlt : gf < W.heap.size) (hc : ∀ (j : Nat) (u : Value), (vb bs)[j]? = some u → cur[j]? = some u) (hcap : bs.length ≤ cap) (hm : cap ≤ maxLen) :
    Sl W W.heap.size (.slice (some ⟨gf, 0, none⟩) bs.length cap) bs :=
  ⟨_, cap, rfl, hcap, hm, (fun h => by cases h), (fun ad e _ => by injection e with e; subst e; exact hlt), fun ad e j u hu => by
    injection e with e
    subst e
    rw [Addr.add_lit, Nat.zero_add, cell_of_row W gf j cur 5 (0, 0) hh]
    exact hc j u hu⟩

theorem vb_left (a b : List UInt8) (cur : Array Value) (h : ∀ (j : Nat) (u : Value), (vb (a ++ b))[j]? = some u → cur[j]? = some u) : ∀ (j : Nat) (u : Value), (vb a)[j]? = some u → cur[j]? = some u := by
  intro j u hu
  refine h j u ?_
  rw [vb_append, List.getElem?_append_left (List.getElem?_eq_some_iff.1 hu).1]
  exact hu

theorem sl_at {w : World} {B n c : Nat} {A : Option Addr} {bs : List UInt8} (h : Sl w B (.slice A n c) bs) {k : Nat} (hk : k < bs.length) :
    ∃ b off, A = some ⟨b, off, none⟩ ∧ b < B ∧ w.cell? ⟨b, off + k, none⟩ = some (.int .u8 (bs[k]).toNat) := by
  obtain ⟨A', c', e, h2, h3, h4, h5, h6⟩ := h
  injection e with e1 e2 e3
  subst e1
  cases A with
  | none => have := h4 rfl; omega
  | some ad =>
    obtain ⟨b, off, spot⟩ := ad
    have h0 := h6 _ rfl 0 _ (vb_at bs 0 (by omega))
    have hspot : spot = none := by simpa [Addr.add] using World.cell?_spot h0
    subst hspot
    have hk2 := h6 _ rfl k _ (vb_at bs k hk)
    rw [Addr.add_lit] at hk2
    exact ⟨b, off, rfl, h5 _ rfl (by omega), hk2⟩

theorem twelve_at (j : Nat) (hj : j < 12) : (vb twelve)[j]? = some (.int .u8 ((j : Int) + 1)) := by
  have h : ∀ j : Fin 12, (vb twelve)[j.val]? = some (.int .u8 ((j.val : Int) + 1)) := by
    intro j
    match j with
    | ⟨0, _⟩ => rfl
    | ⟨1, _⟩ => rfl
    | ⟨2, _⟩ => rfl
    | ⟨3, _⟩ => rfl
    | ⟨4, _⟩ => rfl
    | ⟨5, _⟩ => rfl
    | ⟨6, _⟩ => rfl
    | ⟨7, _⟩ => rfl
    | ⟨8, _⟩ => rfl
    | ⟨9, _⟩ => rfl
    | ⟨10, _⟩ => rfl
    | ⟨11, _⟩ => rfl
  exact h ⟨j, hj⟩

/-- The block of 'full' holds bytes in its first m cells. -/
def Full (w : World) (g m : Nat) : Prop := ∃ cs : Array Value, w.heap[g]? = some (.cells cs 5 (0, 0)) ∧ ∀ j, j < m → ∃ x : Int, cs[j]? = some (.int .u8 x)

theorem Full.set {w : World} {g m : Nat} (h : Full w g m) (k : Nat) (x : Int) : Full (w.setCell ⟨g, k, none⟩ (.int .u8 x)) g m := by
  obtain ⟨cs, hh, hc⟩ := h
  refine ⟨cs.setIfInBounds k (.int .u8 x), by simp [World.setCell, Array.getElem?_modify, hh], fun j hj => ?_⟩
  obtain ⟨y, hy⟩ := hc j hj
  have hlt : j < cs.size := (Array.getElem?_eq_some_iff.1 hy).1
  by_cases e : k = j
  · subst e
    exact ⟨x, by rw [Array.getElem?_setIfInBounds_self_of_lt hlt]⟩
  · exact ⟨y, by rw [Array.getElem?_setIfInBounds_ne e]; exact hy⟩

theorem own_far {w w' : World} {B g : Nat} {v : Value} {bs : List UInt8} (h : Own w B v bs) (hg : w.grownBy w' (some g)) (hlt0 : g < B) : Own w' B v bs := by
  have hlt := h.lt
  refine ⟨h.1, ?_⟩
  rcases h.2 with h2 | ⟨g', cap, cur, rfl, hb, hh, r⟩
  · exact .inl h2
  · exact .inr ⟨g', cap, cur, rfl, hb, (hg.block g' (hlt g' rfl).2 (fun e => by injection e with e; omega)).trans hh, r⟩

theorem rd_far {w w' : World} {g g' : Nat} {bs : List UInt8} {bad : Bool} (h : Rd w g bs bad) (hg : w.grownBy w' (some g')) (hne : g ≠ g') : Rd w' g bs bad := (hg.block g h.lt (fun e => hne (by injection e))).trans h

theorem own_grown {w w' : World} {B g : Nat} {v : Value} {bs cs : List UInt8} {bad : Bool} (h : Own w B v bs) (hr : Rd w g cs bad) (hg : w.grownBy w' (some g)) : Own w' B v bs := by
  have hlt := h.lt
  refine ⟨h.1, ?_⟩
  rcases h.2 with h2 | ⟨g', cap, cur, rfl, hb, hh, r⟩
  · exact .inl h2
  · refine .inr ⟨g', cap, cur, rfl, hb, (hg.block g' (hlt g' rfl).2 ?_).trans hh, r⟩
    intro e
    injection e with e
    subst e
    unfold Rd at hr
    rw [hr] at hh
    injection hh with hh
    injection hh with _ ht
    exact absurd ht (by decide)

/-- The four slices that are turned into texts. -/
def Four (W : World) (B : Nat) (x4 vb0 x5 x6 : Value) (a b c d : List UInt8) : Prop :=
  Own W B x4 a ∧ Sl W B vb0 b ∧ Own W B x5 c ∧ Own W B x6 d ∧ B ≤ W.heap.size

section
variable {W W' : World} {B g : Nat} {x4 vb0 x5 x6 : Value} {a b c d cs : List UInt8} {bad : Bool}
theorem Four.below (h : Four W B x4 vb0 x5 x6 a b c d) (hb : Below W.heap.size W W') : Four W' B x4 vb0 x5 x6 a b c d :=
  ⟨h.1.keep hb, h.2.1.below (hb.mono h.2.2.2.2), h.2.2.1.keep hb, h.2.2.2.1.keep hb, Nat.le_trans h.2.2.2.2 hb.size⟩
theorem Four.grown (h : Four W B x4 vb0 x5 x6 a b c d) (hr : Rd W g cs bad) (hg : W.grownBy W' (some g)) (hB : B ≤ g) : Four W' B x4 vb0 x5 x6 a b c d :=
  ⟨own_grown h.1 hr hg, h.2.1.keep (fun p hp => World.cell?_of_block (hg.block p.block (Nat.lt_of_lt_of_le hp h.2.2.2.2) (fun e => by injection e with e; omega))), own_grown h.2.2.1 hr hg, own_grown h.2.2.2.1 hr hg, Nat.le_trans h.2.2.2.2 hg.size⟩
theorem Four.texts (h : Four W B x4 vb0 x5 x6 a b c d) : (convert 26 9 x4).run Try.prog W = .ok (.string ⟨a.toArray⟩) W ∧ (convert 26 9 vb0).run Try.prog W = .ok (.string ⟨b.toArray⟩) W ∧
    (convert 26 9 x5).run Try.prog W = .ok (.string ⟨c.toArray⟩) W ∧ (convert 26 9 x6).run Try.prog W = .ok (.string ⟨d.toArray⟩) W :=
  ⟨run_text_of W _ _ _ h.1.sl, run_text_of W _ _ _ h.2.1, run_text_of W _ _ _ h.2.2.1.sl, run_text_of W _ _ _ h.2.2.2.1.sl⟩
end

theorem five : enc (zig 5) = [10] := by rw [show zig 5 = 10 from rfl, enc_lo (by omega)]; rfl

set_option maxHeartbeats 400000 in
theorem much (v0 : Value) (b0 : List UInt8) (n : Nat) (s : ByteArray) (w : World) (hs : Sl w w.heap.size v0 b0) (hsz : s.size ≤ maxLen) (hb : 16384 < b0.length ∨ (¬ 16384 < b0.length ∧ 4096 < s.size)) :
    Calls Try.prog 8 #[v0, .int .u64 n, .string s] w (Gives (.bool true) w) := by
  obtain ⟨A0, k0, rfl, m1, m2, _⟩ := hs
  have hm1 : b0.length ≤ 9223372036854775807 := by unfold maxLen at m2; omega
  have hm2 : s.size ≤ 9223372036854775807 := by unfold maxLen at hsz; omega
  clear m2 hsz
  rcases hb with hb | ⟨hb, hb'⟩
  all_goals
    go_enter Try.func8, Try.ntmps8
    go_wp2_with (go_at_call 10; refine (alive_any _).mono ?_; rintro e w1 ⟨rfl, hb1⟩)
    go_ret
    exact ⟨rfl, hb1⟩

set_option maxRecDepth 100000 in
set_option maxHeartbeats 4000000 in
theorem main (v0 : Value) (b0 : List UInt8) (n : Nat) (s : List UInt8) (w : World) (hs : Sl w w.heap.size v0 b0) (hn : n < 18446744073709551616) (hb : b0.length ≤ 16384) (hsl : s.length ≤ 4096) :
    Calls Try.prog 8 #[v0, .int .u64 n, .string ⟨s.toArray⟩] w (Gives (.bool true) w) := by
  have HSL := Lib.hid hs
  have hsz : (ByteArray.mk s.toArray).size = s.length := rfl
  obtain ⟨A0, k0, rfl, m1, m2, mm⟩ := hs
  clear m2 mm
  go_enter Try.func8, Try.ntmps8
  go_wp2_with fail
  refine (alive_any _).mono ?_
  rintro e w1 ⟨rfl, hb1⟩
  have hs1 := hb1.size
  have HS1 := Lib.hid ((HSL.out.below hb1).more hs1)
  go_wp2_with (refine wp_append_sl rfl (.tmp 27) (.tmp 28) rfl w1.heap.size _ [] rfl (own_new w1 _ (Nat.le_refl _)) (by simp) _ _ b0 rfl (HS1.out.below ((Below.refl _ _).alloc (Nat.le_refl _) _)) (by simp; omega) ?_)
  intro v2 w2 ho2 hb2
  have hs2 := hb2.size
  simp at hs2
  go_wp2_with (refine wp_append_sl rfl (.tmp 29) (.tmp 30) rfl w1.heap.size _ ([] ++ b0) rfl (ho2.alloc _) (by simp; omega) _ _ twelve rfl (sl_new w2 twelve _ rfl (by simp [twelve, maxLen]) 12 rfl) (by simp [twelve]; omega) ?_)
  intro v3 w3 ho3 hb3
  have hs3 := hb3.size
  simp at hs3
  have hL : (b0 ++ twelve).length = b0.length + 12 := by simp [twelve]
  obtain ⟨gf, cap, cur, hv3, hgf, hgl, hblk, hcap, hmx, hcur⟩ := own_block ho3 (by rw [hL]; omega)
  rw [hL] at hv3 hcap
  have hcur2 : ∀ (j : Nat) (u : Value), (vb (b0 ++ twelve))[j]? = some u → cur[j]? = some u := hcur
  have hmine := mine_sl hblk hgl (vb_left b0 twelve cur hcur2) (by omega) hmx
  have hw3 : Below w.heap.size w w3 := ((hb1.alloc hs1 _).trans (hb2.mono hs1)).trans (((Below.refl _ w2).alloc (by omega) _).trans (hb3.mono hs1))
  have HM := Lib.hid hmine
  have HBLK := Lib.hid hblk
  have HCUR := Lib.hid hcur2
  clear ho2 ho3 hb2 hb3 hmine hblk hcur hcur2 hmx hL
  subst hv3
  go_wp2_with fail
  refine (uint_any _ b0 n w3 HM.out hn (by omega)).mono ?_
  rintro e w4 ⟨x4, rfl, ho4, hb4⟩
  have hs4 := hb4.size
  have M4 := Lib.hid ((HM.out.below hb4).more hs4)
  go_wp2_with fail
  refine (int_any _ b0 5 w4 M4.out (by omega) (by omega) (by omega)).mono ?_
  rintro e w5 ⟨x5, rfl, ho5, hb5⟩
  have hs5 := hb5.size
  have M5 := Lib.hid ((M4.out.below hb5).more hs5)
  go_wp2_with fail
  refine (text_list _ b0 s w5 M5.out (by omega)).mono ?_
  rintro e w6 ⟨x6, rfl, ho6, hb6⟩
  have hs6 := hb6.size
  have M6 := Lib.hid ((M5.out.below hb6).more hs6)
  go_wp2_with fail
  refine (read_any _ b0 w6 M6.out).mono ?_
  rintro e w7 ⟨rfl, hr7, hb7⟩
  have hs7 := hb7.size
  have hlt67 := hr7.lt
  have hw7 : Below w.heap.size w w7 := (((hw3.trans (hb4.mono (by omega))).trans (hb5.mono (by omega))).trans (hb6.mono (by omega))).trans (hb7.mono (by omega))
  go_wp2_with fail
  refine (read_any _ b0 w7 ((HSL.out.below hw7).more hw7.size)).mono ?_
  rintro e w8 ⟨rfl, hr8, hb8⟩
  have hs8 := hb8.size
  have hw8 : Below w.heap.size w w8 := hw7.trans (hb8.mono (by omega))
  have hblk8 : w8.heap[gf]? = some (.cells cur 5 (0, 0)) := ((hb8.block gf (by omega)).trans ((hb7.block gf (by omega)).trans ((hb6.block gf (by omega)).trans ((hb5.block gf (by omega)).trans (hb4.block gf hgl))))).trans HBLK.out
  have HB8 := Lib.hid hblk8
  have X4 := Lib.hid ((((ho4.keep hb5).keep hb6).keep hb7).keep hb8)
  have X5 := Lib.hid (((ho5.keep hb6).keep hb7).keep hb8)
  have X6 := Lib.hid ((ho6.keep hb7).keep hb8)
  have R7 := Lib.hid (hr7.below hb8 hr7.lt)
  have R8 := Lib.hid hr8
  clear hblk8 ho4 ho5 ho6 hr7 hr8 hb4 hb5 hb6 hb7 hb8
  go_wp2_with fail
  go_loop [50] (fun i => ∃ k : Nat, i = .int .i64 k ∧ k ≤ b0.length + 12) (fun i => b0.length + 12 - (intOf i).toNat)
  case atStart => exact ⟨0, rfl, by omega⟩
  case round =>
    obtain ⟨k, rfl, hk⟩ := hrel
    by_cases hlt : k < b0.length
    · have hfc : w8.cell? ⟨gf, k, none⟩ = some (.int .u8 (b0[k]).toNat) := by
        rw [cell_of_row w8 gf k cur 5 (0, 0) HB8.out]
        exact vb_left b0 twelve cur HCUR.out k _ (vb_at b0 k hlt)
      obtain ⟨bb, off, hA, hbB, hbc⟩ := sl_at (HSL.out.below hw8) hlt
      subst hA
      generalize b0[k] = c at hfc hbc
      have hk12 : k < b0.length + 12 := by omega
      go_wp2_with fail
      go_round
      case rel => exact ⟨k + 1, by go_num, by omega⟩
      case measure => simp [intOf]; omega
    · by_cases hlt2 : k < b0.length + 12
      · have hfc : w8.cell? ⟨gf, k, none⟩ = some (.int .u8 ((k : Int) - b0.length + 1)) := by
          rw [cell_of_row w8 gf k cur 5 (0, 0) HB8.out]
          have h1 := twelve_at (k - b0.length) (by omega)
          have h2 := HCUR.out k (.int .u8 (((k - b0.length : Nat) : Int) + 1)) (by rw [vb_append, List.getElem?_append_right (by rw [vb_length]; omega), vb_length]; exact h1)
          rw [h2]
          congr 2
          omega
        go_wp2_with fail
        go_round
        case rel => exact ⟨k + 1, by go_num, by omega⟩
        case measure => simp [intOf]; omega
      · have hkl : b0.length + 12 ≤ k := by omega
        have HF8 : Hid (Full w8 gf (b0.length + 12)) := ⟨cur, HB8.out, fun j hj => by
          have hj2 : j < (b0 ++ twelve).length := by simp [twelve]; omega
          exact ⟨_, HCUR.out j _ (vb_at (b0 ++ twelve) j hj2)⟩⟩
        go_wp2_with fail
        go_loopw [86] (fun i wr => ∃ k : Nat, i = .int .i64 k ∧ k ≤ b0.length + 12 ∧ Hid (Full wr gf (b0.length + 12)) ∧ Hid (w8.grownBy wr (some gf))) (fun i _ => b0.length + 12 - (intOf i).toNat)
        case atStart => exact ⟨0, rfl, by omega, HF8, grown_refl _ _⟩
        case round =>
          obtain ⟨m, rfl, hm, hfull, hgr⟩ := hrel
          by_cases hmlt : m < b0.length + 12
          · obtain ⟨cs, hh, hc⟩ := hfull.out
            obtain ⟨x, hx⟩ := hc m hmlt
            have hfc : wr.cell? ⟨gf, m, none⟩ = some (.int .u8 x) := by rw [cell_of_row wr gf m cs 5 (0, 0) hh]; exact hx
            have hff : wr.frozen? ⟨gf, m, none⟩ = false := by simp [World.frozen?, hh]
            clear hh hc hx
            go_wp2_with fail
            go_roundw
            case rel => exact ⟨m + 1, by go_num, by omega, hfull.out.set m _, grown_trans hgr.out (grown_set _ _ _ _)⟩
            case measure => simp [intOf]; omega
          · have hml : b0.length + 12 ≤ m := by omega
            have hg9 := hgr.out
            have hs9 := hg9.size
            have X4 := Lib.hid (own_far X4.out hg9 hgl)
            have X5 := Lib.hid (own_far X5.out hg9 (by omega))
            have X6 := Lib.hid (own_far X6.out hg9 (by omega))
            have R7 := Lib.hid (rd_far R7.out hg9 (by omega))
            have R8 := Lib.hid (rd_far R8.out hg9 (by omega))
            have hw9 : Below w.heap.size w wr := below_of_grown hw8 hg9 (by omega) (by omega)
            have S9 := Lib.hid (HSL.out.below hw9)
            clear hg9
            have hX5 := X5.out
            rw [five] at hX5
            have K0 : Hid (Four wr.drew w.heap.size x4 (.slice A0 b0.length k0) x5 x6 (b0 ++ enc n) b0 (b0 ++ [10]) (b0 ++ (enc s.length ++ s))) :=
              ⟨(X4.out.lower (by omega)).drew, S9.out, (hX5.lower (by omega)).drew, (X6.out.lower (by omega)).drew, by show w.heap.size ≤ wr.heap.size; omega⟩
            have hlen1 := enc_u64 n hn
            have hlen2 := enc_u64 s.length (by omega)
            have hadd1 := fun W => add_text W b0 (enc n) (by omega)
            have hadd2 : ∀ W, (Op.stringOp .add ⟨b0.toArray⟩ ⟨#[10]⟩).run Try.prog W = .ok (.string ⟨(b0 ++ [10]).toArray⟩) W := fun W => add_text W b0 [10] (by simp; omega)
            have hadd3 := fun W => add_text W b0 (enc s.length ++ s) (by rw [List.length_append]; omega)
            have HNE := Lib.hid (show w7.heap.size ≠ w6.heap.size by omega)
            have g6 : w.heap.size ≤ w6.heap.size := by omega
            have g7 : w.heap.size ≤ w7.heap.size := by omega
            have RD7 := Lib.hid R7.out.drew
            have RD8 := Lib.hid R8.out.drew
            have HW9 := Lib.hid hw9.drew
            clear HB8 HCUR HBLK HM M4 M5 M6 hfull hgr X4 X5 X6 hX5 S9 HF8 HS1 HSL R7 R8 hw9 hw8 hw7 hw3 hb1
            go_wp2_with fail
            go_region_held3 (fun W => (convert 26 9 x4).run Try.prog W = .ok (.string ⟨(b0 ++ enc n).toArray⟩) W ∧ (convert 26 9 (.slice A0 b0.length k0)).run Try.prog W = .ok (.string ⟨b0.toArray⟩) W ∧ (convert 26 9 x5).run Try.prog W = .ok (.string ⟨(b0 ++ [10]).toArray⟩) W ∧ (convert 26 9 x6).run Try.prog W = .ok (.string ⟨(b0 ++ (enc s.length ++ s)).toArray⟩) W)
              (first | exact KU.out.texts | exact KT.out.texts | exact KB.out.texts | exact KA.out.texts | exact K0.out.texts)
              (first
              | (go_at_call 14; refine (ref_uint_any n _ hn).mono ?_; rintro e wA ⟨rfl, hbA⟩; have KA := Lib.hid (K0.out.below hbA); have RA7 := Lib.hid (RD7.out.below hbA RD7.out.lt); have RA8 := Lib.hid (RD8.out.below hbA RD8.out.lt); have HWA := Lib.hid (HW9.out.trans (hbA.mono HW9.out.size)); clear hbA)
              | (go_at_call 33; refine (ref_text_list s _ (by omega)).mono ?_; rintro e wB ⟨rfl, hbB⟩; have KB := Lib.hid (KA.out.below hbB); have RB7 := Lib.hid (RA7.out.below hbB RA7.out.lt); have RB8 := Lib.hid (RA8.out.below hbB RA8.out.lt); have HWB := Lib.hid (HWA.out.trans (hbB.mono HWA.out.size)); clear hbB)
              | (go_at_call_of 25 (Value.pointer (some ⟨w6.heap.size, 0, none⟩)); refine (rtake_any w6.heap.size b0.length b0 false _ RB7.out (Sane.start _) (by omega)).mono ?_; rintro e wT ⟨rfl, hlT⟩; have KT := Lib.hid (KB.out.grown RB7.out hlT.2 g6); have RT8 := Lib.hid (rd_far RB8.out hlT.2 HNE.out); have HWT := Lib.hid (below_of_grown HWB.out hlT.2 HWB.out.size g6); clear hlT)
              | (go_at_call_of 25 (Value.pointer (some ⟨w7.heap.size, 0, none⟩)); refine (rtake_any w7.heap.size b0.length b0 false _ RT8.out (Sane.start _) (by omega)).mono ?_; rintro e wU ⟨rfl, hlU⟩; have KU := Lib.hid (KT.out.grown RT8.out hlU.2 g7); have HWU := Lib.hid (below_of_grown HWT.out hlU.2 HWT.out.size g7); clear hlU))
            all_goals
              go_wp2_with fail
              go_ret
              exact ⟨rfl, HWU.out⟩

theorem walk (v0 : Value) (b0 : List UInt8) (a1 : Int) (a2 : ByteArray) (w : World) (w0 : Sl w w.heap.size v0 b0) (w1 : (Lit.int .u64 a1).wf = true) (w2 : a2.size ≤ maxLen) :
    Calls Try.prog 8 #[v0, .int .u64 a1, .string a2] w (Gives (.bool true) w) := by
  have b1 := bounds_u64 w1
  obtain ⟨n, rfl⟩ := Int.eq_ofNat_of_zero_le (a := a1) (by omega)
  by_cases h1 : 16384 < b0.length
  · exact much v0 b0 n a2 w w0 w2 (.inl h1)
  · by_cases h2 : 4096 < a2.size
    · exact much v0 b0 n a2 w w0 w2 (.inr ⟨h1, h2⟩)
    · have h := main v0 b0 n a2.data.toList w w0 (by omega) (by omega) (by have : a2.data.toList.length = a2.size := rfl; omega)
      simpa using h

end Go.Proofs.Ytcfcjknppeeadaa.CodeKeeps
