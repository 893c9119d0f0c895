/-
  object.getByte, object.getName. Conditions: none.
-/
import Derived.Test.YtabogconbjdcgaaObGet
import Derived.Test.YtabogconbjdcgaaReads
import Derived.Test.YtabogconbjdcgaaRowG
namespace Go.Proofs.Ytabogconbjdcgaa.Cd
open Go.RowKit

theorem Rd.on {w w' : World} {g : Nat} {bs : List UInt8} {bad : Bool} (h : Rd w g bs bad) (hb : Below w.heap.size w w') : Rd w' g bs bad := h.below hb h.lt
theorem Rd.other {w : World} {g : Nat} {bs : List UInt8} {bad : Bool} (h : Rd w g bs bad) (p : Addr) (u : Value) (hne : g ≠ p.block) : Rd (w.setCell p u) g bs bad := (heap_setCell_other _ _ _ _ hne).trans h
theorem Rd.far2 {w w' : World} {g g' : Nat} {bs : List UInt8} {bad : Bool} (h : Rd w g bs bad) (hg : w.grownBy w' (some g')) (hne : g ≠ g') : Rd w' g bs bad := (hg.block g h.lt (fun e => hne (by injection e))).trans h
theorem grown_on {w0 w w' : World} {r : Option Nat} (h : w0.grownBy w r) (hb : Below w.heap.size w w') : w0.grownBy w' r :=
  ⟨hb.os.trans h.os, hb.tape.trans h.tape, hb.output.trans h.output, Nat.le_trans h.size hb.size, fun k hk hn => (hb.block k (Nat.lt_of_lt_of_le hk h.size)).trans (h.block k hk hn)⟩
theorem grown_low {w0 w w' : World} {r : Option Nat} {B : Nat} (h : w0.grownBy w r) (hb : Below B w w') (hB : w0.heap.size ≤ B) : w0.grownBy w' r :=
  ⟨hb.os.trans h.os, hb.tape.trans h.tape, hb.output.trans h.output, Nat.le_trans h.size hb.size, fun k hk hn => (hb.block k (Nat.lt_of_lt_of_le hk hB)).trans (h.block k hk hn)⟩
theorem grown_of {w w' : World} (r : Option Nat) (hb : Below w.heap.size w w') : w.grownBy w' r := grown_on (grown_refl w r) hb
theorem grown_then {a b c : World} {r : Option Nat} (h : a.grownBy b r) (k : b.grownBy c r) : a.grownBy c r :=
  ⟨k.os.trans h.os, k.tape.trans h.tape, k.output.trans h.output, Nat.le_trans h.size k.size, fun i hi hn => (k.block i (Nat.lt_of_lt_of_le hi h.size) hn).trans (h.block i hi hn)⟩
theorem grown_new {w w1 w2 : World} {r : Option Nat} {q : Nat} (h : w.grownBy w1 r) (k : w1.grownBy w2 (some q)) (hq : w.heap.size ≤ q) : w.grownBy w2 r :=
  ⟨k.os.trans h.os, k.tape.trans h.tape, k.output.trans h.output, Nat.le_trans h.size k.size, fun i hi hn => (k.block i (Nat.lt_of_lt_of_le hi h.size) (fun e => by injection e with e; omega)).trans (h.block i hi hn)⟩
theorem new_below (w : World) (o : Obj) : Below w.heap.size w (w.alloc o) := (Below.refl _ _).alloc (Nat.le_refl _) _

set_option maxHeartbeats 400000 in
theorem getb_any (g : Nat) (bs : List UInt8) (bad : Bool) (w : World) (hr : Rd w g bs bad) (hbb : Sane bad bs) (hs : bs.length ≤ 140737488355328) :
    Calls Try.prog 32 #[.pointer (some ⟨g, 0, none⟩)] w (Ans (.int .u8 (gbV bad bs).toNat) w g (gbB bad bs) (gbX bad bs)) := by
  have ht := rtake_any g 1 bs bad w hr hbb hs
  have hV : Hid (gbV bad bs = (tkV bad 1 bs).headD 0) := rfl
  have hB : Hid (gbB bad bs = tkB bad 1 bs) := rfl
  have hX : Hid (gbX bad bs = tkX bad 1 bs) := rfl
  have hlen : (tkV bad 1 bs).length ≤ 1 := by
    unfold tkV
    split
    · simp
    · rw [List.length_take]; omega
  generalize tkV bad 1 bs = V at ht hV hlen
  have HT := Lib.hid ht
  clear ht hr hbb
  match V, hlen with
  | [], _ =>
    go_enter Try.func32, Try.ntmps32
    go_wp2_with (go_at_call 52; refine HT.out.mono ?_; rintro e w1 ⟨rfl, hl⟩)
    go_ret
    rw [hV.out, hB.out, hX.out]
    exact ⟨rfl, hl⟩
  | [c], _ =>
    have hix : ∀ h, (ByteArray.mk [c].toArray)[0]'h = c := fun _ => rfl
    go_enter Try.func32, Try.ntmps32
    go_wp2_with (go_at_call 52; refine HT.out.mono ?_; rintro e w1 ⟨rfl, hl⟩)
    go_ret
    rw [hV.out, hB.out, hX.out]
    exact ⟨rfl, hl⟩

set_option maxRecDepth 100000 in
set_option maxHeartbeats 1600000 in
theorem getn_any (g : Nat) (bs : List UInt8) (bad : Bool) (w : World) (hr : Rd w g bs bad) (hbb : Sane bad bs) (hs : bs.length ≤ 1000000) :
    Calls Try.prog 55 #[.pointer (some ⟨g, 0, none⟩)] w (Ans (idV (gnV bad bs).1) w g (gnB bad bs) (gnX bad bs)) := by
  have hg0 := hr.lt
  have h1 : Rd (w.alloc (.cells (vb (zer 33)).toArray 41)) g bs bad := hr.on (new_below _ _)
  have hi1 := IdAt.new w (zer 33)
  have hz1 : (w.alloc (.cells (vb (zer 33)).toArray 41)).heap.size = w.heap.size + 1 := asz _ _
  have hw1 : w.grownBy (w.alloc (.cells (vb (zer 33)).toArray 41)) (some g) := grown_of _ (new_below _ _)
  have hV : Hid ((gnV bad bs).1 = (parseI (gbV bad bs :: tkV (gbX bad bs) (sizeI (gbV bad bs)) (gbB bad bs))).1) := rfl
  have hB : Hid (gnB bad bs = tkB (gbX bad bs) (sizeI (gbV bad bs)) (gbB bad bs)) := rfl
  have hX : Hid (gnX bad bs = tkX (gbX bad bs) (sizeI (gbV bad bs)) (gbB bad bs)) := rfl
  have hgb := fun W h => getb_any g bs bad W h hbb (by omega)
  have hbs : (gbB bad bs).length ≤ 1000000 := Nat.le_trans (tkB_len _ _ _) hs
  have hsn := sane_gb bad bs
  generalize gbV bad bs = k at *
  generalize gbB bad bs = b1 at *
  generalize gbX bad bs = x1 at *
  have hsz := fun W => size_any k W
  have hle := sizeI_le k
  generalize sizeI k = n at *
  have htl := tkV_len x1 n b1
  have htk := fun W h => rtake_any g (n : Nat) b1 x1 W h hsn (by omega)
  generalize tkV x1 n b1 = s at *
  generalize tkB x1 n b1 = b2 at *
  generalize tkX x1 n b1 = x2 at *
  have HP := Lib.hid (fun W => parse_any (k :: s) W (by simp only [List.length_cons]; omega))
  have HPL := Lib.hid (parse_length (k :: s))
  have HG := Lib.hid hgb
  have HT := Lib.hid htk
  have HSZ := Lib.hid hsz
  have H1 := Lib.hid h1
  have HI1 := Lib.hid hi1
  have HW1 := Lib.hid hw1
  have HZ1 := Lib.hid hz1
  generalize parseI (k :: s) = P at HP HPL hV
  obtain ⟨pl, pb⟩ := P
  clear hgb htk hsz h1 hi1 hw1 hz1 hr hbb hsn
  go_enter Try.func55, Try.ntmps55
  go_wp2_with (refine wp_alloc_row zero_id rfl rfl ?_)
  generalize w.alloc (.cells (vb (zer 33)).toArray 41) = w1 at *
  refine (HG.out _ H1.out).mono ?_
  rintro e w2 ⟨rfl, hl2⟩
  have HR2 := Lib.hid hl2.1
  have HI2 : Hid (IdAt w2 w.heap.size (zer 33)) := (hl2.2.block _ (by have := HZ1.out; omega) (fun e => by injection e with e; omega)).trans HI1.out
  have HW2 := Lib.hid (grown_then HW1.out hl2.2)
  have hz2 : w.heap.size + 1 ≤ w2.heap.size := by have := hl2.2.size; have := HZ1.out; omega
  clear hl2
  go_wp2_with fail
  refine (HSZ.out _).mono ?_
  rintro e w3 ⟨rfl, rfl⟩
  go_wp2_with fail
  refine (HT.out _ HR2.out).mono ?_
  rintro e w4 ⟨rfl, hl4⟩
  have HR4 := Lib.hid hl4.1
  have HI4 : Hid (IdAt w4 w.heap.size (zer 33)) := (hl4.2.block _ (by omega) (fun e => by injection e with e; omega)).trans HI2.out
  have HW4 := Lib.hid (grown_then HW2.out hl4.2)
  have hz4 : w.heap.size + 1 ≤ w4.heap.size := by have := hl4.2.size; omega
  clear hl4
  have hcv := run_text_one (w4.alloc (.cells #[.int .u8 k.toNat] 5)) w4.heap.size 1 _ k rfl (by
    rw [cell_of_row _ _ _ _ _ _ (heap_alloc_new _ _)]
    rfl)
  have hadd := fun W => text_add W [k] s (by simp only [List.length_cons, List.length_nil]; omega)
  rw [show [k] ++ s = k :: s from rfl] at hadd
  go_wp2_with fail
  refine (HP.out _).mono ?_
  rintro e w5 ⟨rfl, hb5⟩
  have hb5' : Below w4.heap.size w4 w5 := (new_below _ _).trans (hb5.mono (by simp))
  have HR5 := Lib.hid (HR4.out.on hb5')
  have HI5 := Lib.hid (HI4.out.below hb5' (by omega))
  have HW5 := Lib.hid (grown_on HW4.out hb5')
  have hz5 : w.heap.size + 1 ≤ w5.heap.size := by have := hb5'.size; omega
  clear hb5 hb5' hcv hadd
  have HPL1 : Hid (pl.length = 33) := HPL.out
  go_wp2_with (first
    | (refine wp_alloc_row zero_id rfl rfl ?_)
    | (refine wp_fill_id rfl _ _ rfl rfl (by simp [Act.eval, Act.put]) pl HPL1.out rfl ?_)
    | (refine wp_load_id rfl _ rfl w5.heap.size rfl pl HPL1.out (IdAt.new w5 pl) ?_)
    | (refine wp_put_id rfl _ _ rfl w.heap.size rfl pl HPL1.out rfl (zer 33) (zer_length _) (HI5.out.below (new_below _ _) (by omega)) ?hK))
  intro w6 h6 hg6
  have hw6 : w.grownBy w6 (some g) := grown_new (grown_on HW5.out (new_below _ _)) hg6 (Nat.le_refl _)
  have hr6 : Rd w6 g b2 x2 := (HR5.out.on (new_below _ _)).far2 hg6 (by omega)
  go_wp2_with fail
  refine bodyPost_ret (v := idV pl) (ret_id Try.results55 _ _ w.heap.size pl HPL1.out rfl h6) rfl ?_
  rw [hV.out, hB.out, hX.out]
  exact ⟨rfl, hr6, hw6⟩

end Go.Proofs.Ytabogconbjdcgaa.Cd
