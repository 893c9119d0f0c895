/-
  A tree's file's name, and which number a name has. Conditions: numbers below 100; names that begin with a letter.
-/
import Derived.Test.YtlchmkpnehbnlaaGreatDoorG31
import Derived.Test.YtlchmkpnehbnlaaGreatDoorG34
import Derived.Lib.ItoaNum
import Derived.BigRegion
import Derived.Deep.RegionHeld3
namespace Go.Proofs.YtlchmkpnehbnlaaGreatDoor.Cd
open Go.RowKit

set_option maxRecDepth 100000 in
theorem format_s (i : Nat) (h : i < 100) (w : World) : Calls Tryz.prog 174 #[.int .i64 i, .int .i64 10] w fun e w' => e = .returned (.string ⟨(decB i).toArray⟩) ∧ w' = w := by
  have hd : Lib.decDigits i = decB i := by
    unfold decB
    split
    · rename_i e; exact Lib.decDigits_one e
    · rename_i e; exact Lib.decDigits_two e h
  have HS := Lib.hid (Tryz.small_any i h w)
  rw [hd] at HS
  clear hd
  go_enter Tryz.func174, Tryz.ntmps174
  go_wp2_with fail
  refine HS.out.mono ?_
  rintro e w' ⟨rfl, h⟩
  obtain rfl := h.symm
  go_wp2_with fail
  go_ret
  exact ⟨rfl, rfl⟩
set_option maxRecDepth 100000 in
theorem itoa_s (i : Nat) (h : i < 100) (w : World) : Calls Tryz.prog 96 #[.int .i64 i] w fun e w' => e = .returned (.string ⟨(decB i).toArray⟩) ∧ w' = w := by
  have HF := Lib.hid (format_s i h w)
  have h1 : Calls Tryz.prog 142 #[.int .i64 i] w fun e w' => e = .returned (.string ⟨(decB i).toArray⟩) ∧ w' = w := by
    go_enter Tryz.func142, Tryz.ntmps142
    go_wp2_with fail
    refine HF.out.mono ?_
    rintro e w' ⟨rfl, h⟩
    obtain rfl := h.symm
    go_wp2_with fail
    go_ret
    exact ⟨rfl, rfl⟩
  have H1 := Lib.hid h1
  clear h1 HF
  go_enter Tryz.func96, Tryz.ntmps96
  go_wp2_with fail
  refine H1.out.mono ?_
  rintro e w' ⟨rfl, h⟩
  obtain rfl := h.symm
  go_wp2_with fail
  go_ret
  exact ⟨rfl, rfl⟩

def NameAt (W : World) (t : Nat) (n : List UInt8) : Prop := W.cell? ⟨t, 1, none⟩ = some (.string ⟨n.toArray⟩) ∧ t < W.heap.size
def ErrAt (W : World) : Prop := ∃ tp p, W.cell? ⟨1, 0, none⟩ = some (.iface tp p) ∧ 1 < W.heap.size
theorem NameAt.below {W W' : World} {t : Nat} {n : List UInt8} (h : NameAt W t n) (hb : Below W.heap.size W W') : NameAt W' t n := ⟨(hb.cell (p := ⟨t, 1, none⟩) h.2).trans h.1, Nat.lt_of_lt_of_le h.2 hb.size⟩
theorem ErrAt.low {w0 W : World} (h : ErrAt w0) (hb : Below w0.heap.size w0 W) : ErrAt W := by
  obtain ⟨tp, p, h1, h2⟩ := h
  exact ⟨tp, p, (hb.cell (p := ⟨1, 0, none⟩) h2).trans h1, Nat.lt_of_lt_of_le h2 hb.size⟩

set_option maxRecDepth 100000 in
set_option maxHeartbeats 800000 in
theorem file_s (t : Nat) (n e : List UInt8) (i : Nat) (w : World) (h : NameAt w t n) (hi : i < 100) (hn : n.length + e.length ≤ 100) :
    Calls Tryz.prog 54 #[.pointer (some ⟨t, 0, none⟩), .string ⟨e.toArray⟩, .int .i64 i] w fun r w' => r = .returned (.string ⟨(fileF n e i).toArray⟩) ∧ Below w.heap.size w w' := by
  have c1 := h.1
  have hd := (dec_len i).2
  obtain ⟨d, hdd⟩ : ∃ d, decB i = d := ⟨_, rfl⟩
  have HI := Lib.hid (fun W => itoa_s i hi W)
  have hf : fileF n e i = (n ++ e) ++ d := by unfold fileF; rw [hdd]
  rw [hdd] at HI hd
  rw [hf]
  have ha := fun W => add_text W n e (by omega)
  have hb := fun W => add_text W (n ++ e) d (by rw [List.length_append]; omega)
  clear h hf hdd
  go_enter Tryz.func54, Tryz.ntmps54
  go_wp2_with fail
  go_region_held3 (fun W => W.cell? ⟨t, 1, none⟩ = some (.string ⟨n.toArray⟩)) (first | exact c1 | assumption) (first | (go_at_call 96; refine (HI.out _).mono ?_; rintro e w1 ⟨rfl, rfl⟩))
  all_goals go_wp2_with fail
  all_goals go_ret
  all_goals exact ⟨by rw [List.append_assoc]; rfl, (Below.refl _ _).drew⟩

theorem atoi_dec {i : Nat} (h : i ≤ 99) : Lib.atoi (decB i) = some (i : Int) := by
  have : ∀ i : Fin 100, Lib.atoi (decB i.val) = some ((i.val : Nat) : Int) := by decide
  exact this ⟨i, by omega⟩
theorem atoi_letter {m : List UInt8} (h : Letter m) : Lib.atoi m = none := by
  obtain ⟨c, r, rfl, h1, h2, _⟩ := h
  have e1 : (c == 45) = false := beq_eq_false_iff_ne.2 fun e => by rw [e] at h1; exact absurd h1 (by decide)
  have e2 : (c == 43) = false := beq_eq_false_iff_ne.2 fun e => by rw [e] at h1; exact absurd h1 (by decide)
  have e3 : Lib.digitVal c = none := if_neg (by omega)
  simp [Lib.atoi, e1, e2, Lib.decNat, Lib.decFrom, e3]
theorem cut_hit (p d : List UInt8) : Lib.trimPrefix (p ++ d) p = d := by
  unfold Lib.trimPrefix Lib.hasPrefix
  rw [if_pos (List.isPrefixOf_iff_prefix.2 (List.prefix_append p d)), List.drop_left]
theorem cut_miss {m p : List UInt8} (h : ¬ p <+: m) : Lib.trimPrefix m p = m := by
  unfold Lib.trimPrefix Lib.hasPrefix
  rw [if_neg fun e => h (List.isPrefixOf_iff_prefix.1 e)]

set_option maxRecDepth 100000 in
set_option maxHeartbeats 1600000 in
theorem numb_s (t : Nat) (n e m : List UInt8) (w : World) (h : NameAt w t n) (he : ErrAt w) (hm : Nice n e m) (hn : n.length + e.length ≤ 100) :
    Calls Tryz.prog 52 #[.pointer (some ⟨t, 0, none⟩), .string ⟨m.toArray⟩, .string ⟨e.toArray⟩] w (Gives (.int .i64 (numF n e m : Nat)) w) := by
  have c1 := h.1
  have ha := fun W => add_text W n e (by omega)
  have HC : Hid (∀ W, Calls Tryz.prog 92 #[.string ⟨m.toArray⟩, .string ⟨(n ++ e).toArray⟩] W fun r w' => r = .returned (.tuple #[.string ⟨(Lib.trimPrefix m (n ++ e)).toArray⟩, .bool (Lib.hasPrefix m (n ++ e))]) ∧ w' = W) := fun W => Tryz.cutPrefix_any _ _ W
  obtain ⟨z, hz⟩ : ∃ z, Lib.hasPrefix m (n ++ e) = z := ⟨_, rfl⟩
  rw [hz] at HC
  clear hz
  by_cases hp : (n ++ e) <+: m
  · obtain ⟨i, h1, h2, hmi⟩ := hm.2 hp
    have hni : numF n e m = i := by rw [hmi]; exact numF_is h1 h2
    have hct : Lib.trimPrefix m (n ++ e) = decB i := by rw [hmi]; exact cut_hit _ _
    rw [hct] at HC
    rw [hni]
    have hd := (dec_len i).2
    have HA : Hid (∀ W, Calls Tryz.prog 93 #[.string ⟨(decB i).toArray⟩] W fun r w' => r = .returned (.tuple #[.int .i64 i, .nilIface]) ∧ ∃ x, w' = Lib.bytesWorld W 5 x) := fun W => Tryz.atoi_any ⟨(decB i).toArray⟩ i (by simp [ByteArray.size]; omega) (atoi_dec h2) W
    have HF := Lib.hid (fun W hW => file_s t n e i W hW (by omega) hn)
    rw [← hmi] at HF
    have HH := Lib.hid h
    obtain ⟨d, hdd⟩ : ∃ d, decB i = d := ⟨_, rfl⟩
    rw [hdd] at HC HA
    clear h he hm hct hdd hp hmi hni hd
    have h1' : ¬ (i : Int) < 1 := by omega
    go_enter Tryz.func52, Tryz.ntmps52
    go_wp2_with fail
    refine (HC.out _).mono ?_
    rintro r w1 ⟨rfl, h⟩
    obtain rfl := h.symm
    go_wp2_with fail
    refine (HA.out _).mono ?_
    rintro r w2 ⟨rfl, x, hw2⟩
    have hb2 : Below w.heap.size w w2 := by rw [hw2]; exact Lib.bytesWorld_below _ _ _
    have HB2 := Lib.hid hb2
    have HF2 := Lib.hid (HF.out w2 (HH.out.below hb2))
    clear hw2 hb2 h
    go_wp2_with fail
    refine HF2.out.mono ?_
    rintro r w3 ⟨rfl, hb3⟩
    have HB3 := Lib.hid (HB2.out.trans (hb3.mono HB2.out.size))
    clear hb3
    go_wp2_with fail
    go_ret
    exact ⟨rfl, HB3.out⟩
  · have hni : numF n e m = 0 := numF_no fun i hi => hp (by rw [hi]; exact List.prefix_append _ _)
    rw [cut_miss hp] at HC
    rw [hni]
    obtain ⟨tp, p, he1, _⟩ := he
    have HA := Lib.hid (Tryz.atoi_err ⟨m.toArray⟩ (by obtain ⟨c, r, rfl, _, _, hr⟩ := hm.1; simp [ByteArray.size]; omega) (atoi_letter hm.1) (.iface tp p) w he1 (.inr ⟨tp, p, rfl⟩))
    clear h hm hp hni he1
    go_enter Tryz.func52, Tryz.ntmps52
    go_wp2_with fail
    refine (HC.out _).mono ?_
    rintro r w1 ⟨rfl, h⟩
    obtain rfl := h.symm
    go_wp2_with fail
    refine HA.out.mono ?_
    rintro r w2 ⟨N, rfl, _, _, hb2⟩
    have HB2 := Lib.hid hb2
    clear hb2 h
    go_wp2_with fail
    go_ret
    exact ⟨rfl, HB2.out⟩

end Go.Proofs.YtlchmkpnehbnlaaGreatDoor.Cd
