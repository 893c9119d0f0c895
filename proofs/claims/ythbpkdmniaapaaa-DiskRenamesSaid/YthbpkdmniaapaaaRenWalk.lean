/-
  DiskRenames answers true. Conditions: none.
-/
import Derived.Test.YthbpkdmniaapaaaAbsRen
import Derived.Test.YthbpkdmniaapaaaRenMath
import Derived.Test.YthbpkdmniaapaaaAliveD
import Derived.OpenShut
import Derived.Deep.QuietTactic
import Derived.BigQuiet
namespace Go.Proofs.Ythbpkdmniaapaaa.DiskRenames
open Go.RowKit Go.Proofs.Ythbpkdmniaapaaa.Cd

theorem hft : ([102] : List UInt8) ≠ [116] := by decide

theorem page_sl {w : World} {g : Nat} {bs : List UInt8} (hl : bs.length ≤ 512) (T : TypeId) (hg : w.heap[g]? = some (.cells (vb (pad bs)).toArray T)) : Sl w w.heap.size (.slice (some ⟨g, 0, none⟩) bs.length 512) bs := by
  refine ⟨_, 512, rfl, hl, by decide, (fun h => by cases h), fun ad e _ => ?_, fun ad e j u hu => ?_⟩
  · injection e with e
    subst e
    exact (Array.getElem?_eq_some_iff.1 hg).1
  · injection e with e
    subst e
    rw [Addr.add_lit, Nat.zero_add, cell_of_row _ _ _ _ _ _ hg]
    have hj : j < (vb bs).length := (List.getElem?_eq_some_iff.1 hu).1
    unfold pad
    rw [vb_append, List.getElem?_toArray, List.getElem?_append_left hj]
    exact hu
theorem below_drewN (B : Nat) (w : World) (n : Nat) : Below B w (w.drewN n) := ⟨rfl, rfl, rfl, Nat.le_refl _, fun _ _ => rfl⟩

theorem sls_at {w : World} {B n c : Nat} {A : Option Addr} {l : List (List UInt8)} (h : Sls w B (.slice A n c) l) {k : Nat} (hk : k < l.length) :
    ∃ b off A' c', A = some ⟨b, off, none⟩ ∧ b < B ∧ w.cell? ⟨b, off + k, none⟩ = some (.slice A' (l[k]).length c') ∧ Sl w B (.slice A' (l[k]).length c') l[k] ∧ (l[k]).length ≤ c' ∧ c' ≤ 9223372036854775807 := by
  obtain ⟨A0, c0, e, _, _, h5⟩ := h
  injection e with e1 e2 e3
  obtain ⟨b, off, e, hB, hc⟩ := h5 (by omega)
  obtain ⟨u, hu, hsl⟩ := hc k hk
  obtain ⟨A', c', rfl, h6, h7⟩ := hsl.len
  exact ⟨b, off, A', c', e1.trans e, hB, hu, hsl, h6, h7⟩
theorem sls_len {w : World} {B : Nat} {v : Value} {l : List (List UInt8)} (h : Sls w B v l) : ∃ A c, v = .slice A l.length c ∧ l.length ≤ c ∧ c ≤ 9223372036854775807 := by
  obtain ⟨A, c, h1, h2, h3, _⟩ := h
  exact ⟨A, c, h1, h2, h3⟩

theorem read_dk (B g N : Nat) (D : Dsk) (s : List UInt8) (w : World) (h : Dk w B g N D) (ho : D.off = false) (i : Nat) (p : List UInt8) (hp : (pagesF D.now s)[i]? = some p) (hs : s.length ≤ 140737488355328) (hi : (Lit.int .i64 i).wf = true) :
    Calls Try.prog 17 #[.pointer (some ⟨g, 0, none⟩), .string ⟨s.toArray⟩, .int .i64 i] w (fun e w' => e = .returned (.tuple #[.slice (some ⟨w.heap.size, 0, none⟩) 512 512, .int .i64 0]) ∧ w' = w.alloc (.cells (vb p).toArray 81)) := by
  obtain ⟨P, h1, h2⟩ := h
  have hr : readR P s i = (p, 0) := by
    unfold readR
    rw [if_neg (by rw [← h2.off, ho]; simp)]
    cases hq : P.files s with
    | none =>
      have := h2.is s
      rw [hq] at this
      rw [pages_of_none this.symm] at hp
      cases hp
    | some k =>
      have hl : lst P.now (k, (i : Int)) = some p := by
        unfold lst
        rw [if_pos (by exact Int.natCast_nonneg i)]
        show (P.now k)[(i : Int).toNat]? = some p
        rw [show P.now k = pagesF D.now s from h2.now.pages s k hq, Int.toNat_natCast]
        exact hp
      simp only
      rw [hl]
  refine (read_mine B g N P s i w h1 hs hi).mono ?_
  rintro e w' (⟨q, hq, _, he, hw⟩ | ⟨n, hn, hq, _⟩)
  · rw [hr] at hq
    injection hq with hq
    rw [hq]
    exact ⟨he, hw⟩
  · rw [hr] at hq
    injection hq with _ hq
    omega

set_option maxRecDepth 100000 in
set_option maxHeartbeats 800000 in
theorem much (v0 v1 : Value) (l0 l1 : List (List UInt8)) (n : Int) (keep : Nat) (w : World) (h0 : Sls w w.heap.size v0 l0) (h1 : Sls w w.heap.size v1 l1)
    (hb : 8 < l0.length ∨ (¬ 8 < l0.length ∧ 8 < l1.length) ∨ (¬ 8 < l0.length ∧ ¬ 8 < l1.length ∧ l0.length = 0) ∨ (¬ 8 < l0.length ∧ ¬ 8 < l1.length ∧ l0.length ≠ 0 ∧ l1.length = 0)) :
    Calls Try.prog 5 #[v0, v1, .int .i64 n, .int .u64 keep] w (Gives (.bool true) w) := by
  obtain ⟨A0, c0, rfl, hc0, hm0⟩ := sls_len h0
  obtain ⟨A1, c1, rfl, hc1, hm1⟩ := sls_len h1
  clear h0 h1
  generalize l0.length = n0 at *
  generalize l1.length = n1 at *
  rcases hb with h | ⟨h, h'⟩ | ⟨h, h', rfl⟩ | ⟨h, h', h2, rfl⟩
  all_goals
    go_enter Try.func5, Try.ntmps5
    go_wp2_with fail
    refine (alive_any w).mono ?_
    rintro e w1 ⟨rfl, hb1⟩
    go_wp2_with fail
    go_ret
    exact ⟨rfl, hb1⟩

set_option maxRecDepth 100000 in
set_option maxHeartbeats 8000000 in
theorem main (v0 v1 : Value) (l0 l1 : List (List UInt8)) (n : Int) (keep : Nat) (w : World) (h0 : Sls w w.heap.size v0 l0) (h1 : Sls w w.heap.size v1 l1) (hn : n ≤ 9223372036854775807) (hkeep : keep < 18446744073709551616)
    (hl0 : l0.length ≤ 8) (hl1 : l1.length ≤ 8) (hp0 : 0 < l0.length) (hp1 : 0 < l1.length) :
    Calls Try.prog 5 #[v0, v1, .int .i64 n, .int .u64 keep] w (Gives (.bool true) w) := by
  obtain ⟨A0, c0, rfl, hc0, hm0⟩ := sls_len h0
  obtain ⟨A1, c1, rfl, hc1, hm1⟩ := sls_len h1
  have H0 := Lib.hid h0
  have H1 := Lib.hid h1
  have i0 : (l0.length : Int) ≤ 8 := by omega
  have i1 : (l1.length : Int) ≤ 8 := by omega
  have q0 : ((l0.length : Int) == 0) = false := beq_eq_false_iff_ne.2 (by omega)
  have q1 : ((l1.length : Int) == 0) = false := beq_eq_false_iff_ne.2 (by omega)
  clear h0 h1
  go_enter Try.func5, Try.ntmps5
  go_wp2_with fail
  refine (alive_any w).mono ?_
  rintro e w1 ⟨rfl, hb1⟩
  have HB0 := Lib.hid hb1
  clear hb1
  go_wp2_with fail
  refine (new_dk 40 w1 (by omega) (by omega)).mono ?_
  rintro e w2 ⟨g, rfl, hd2, hb2⟩
  have HD2 : Hid (Dk w2 w1.heap.size g (4 * 0) (newD 40)) := Lib.hid hd2
  have HB2 := Lib.hid hb2
  clear hd2 hb2
  go_wp2_with fail
  go_loopw [43] (fun v wr => ∃ (i : Nat) (D : Dsk), v = .int .i64 i ∧ i ≤ l0.length ∧ Hid (Dk wr w1.heap.size g (4 * i) D) ∧ Hid (Wr D [102] ((l0.take i).map pad)) ∧ Hid (∀ b ∈ l0.take i, b.length ≤ 512) ∧ Hid (Below w1.heap.size w1 wr)) (fun v _ => l0.length - (intOf v).toNat)
  case atStart => exact ⟨0, newD 40, rfl, by omega, HD2, wr_new _, (fun b hb => by cases hb), HB2⟩
  case round =>
    obtain ⟨i, D, rfl, hi, hdk, hwr, hle, hbel⟩ := hrel
    by_cases hlt : i < l0.length
    · have hlt' : (i : Int) < l0.length := by omega
      obtain ⟨sb, off, A', c', hA, hsb, hcell, hsl, hlc, hcm⟩ := sls_at ((H0.out.below HB0.out).below (hbel.out.mono HB0.out.size)) hlt
      have htk := List.take_succ_eq_append_getElem hlt
      generalize l0[i] = s at *
      subst hA
      by_cases hlong : 512 < s.length
      · go_wp2_with fail
        go_ret
        exact ⟨rfl, HB0.out.trans (hbel.out.mono HB0.out.size)⟩
      · have hl2 : (s.length : Int) ≤ 512 := by omega
        have hz := Lib.hid hbel.out.size
        have W1 := write_far w1.heap.size g (4 * i) D [102] wr s i _ hdk.out (hsl.more HB0.out.size) (by simp) (by omega) (by omega)
        have R1 := hwr.out.write (b := s) (by rw [List.length_map, List.length_take]; omega) (by omega)
        rw [show ((l0.take i).map pad).length = i by rw [List.length_map, List.length_take]; omega] at R1
        generalize writeD D [102] (i : Int) s = R at W1 R1
        have W1 := Lib.hid W1
        have R1 := Lib.hid R1
        have HSL := Lib.hid hsl
        have HTK := Lib.hid htk
        clear hdk hwr hsl htk
        go_wp2_with fail
        refine W1.out.mono ?_
        rintro e w4 ⟨rfl, hd4, hb4⟩
        have hB4 := Lib.hid (hbel.out.trans hb4)
        have hd4 : Hid (Dk w4 w1.heap.size g (4 * (i + 1)) R.1) := hd4
        clear W1 hb4 hbel
        go_wp2_with fail
        go_roundw
        case rel =>
          refine ⟨i + 1, R.1, by go_num, by omega, hd4, (by unfold Hid; rw [HTK.out, List.map_append]; exact R1.out), fun b hb => ?_, hB4⟩
          rw [HTK.out] at hb
          rcases List.mem_append.1 hb with h | h
          · exact hle.out b h
          · rw [List.mem_singleton.1 h]; omega
        case measure => simp [intOf]; omega
    · have hlt' : (l0.length : Int) ≤ i := by omega
      obtain rfl : i = l0.length := by omega
      have hw0 := hwr.out
      rw [List.take_length] at hw0
      have hle0 : Hid (∀ b ∈ l0, b.length ≤ 512) := fun b hb => hle.out b (by rw [List.take_length]; exact hb)
      obtain ⟨O, hO⟩ : ∃ O, l0.map pad = O := ⟨_, rfl⟩
      rw [hO] at hw0
      have HO := Lib.hid hO
      have hOl : O.length ≤ 8 ∧ O ≠ [] := by
        rw [← hO]
        refine ⟨by rw [List.length_map]; omega, fun e => ?_⟩
        have := congrArg List.length e
        rw [List.length_map] at this
        simp at this
        rw [this] at hp0
        simp at hp0
      have S1 := hw0.synced hft hOl.2 n keep
      have C1 := Lib.hid (sync_dk w1.heap.size g _ D [102] wr hdk.out (by simp) (by omega))
      generalize syncD D [102] = R at S1 C1
      have S1 := Lib.hid S1
      have hz := Lib.hid hbel.out.size
      obtain ⟨NN, hNN⟩ : ∃ x, 4 * l0.length + 4 = x := ⟨_, rfl⟩
      have hNN2 : NN ≤ 40 := by omega
      rw [hNN] at C1
      clear hdk hwr hw0 hle hO
      go_wp2_with fail
      refine C1.out.mono ?_
      rintro e w4 ⟨rfl, hd4, hb4⟩
      have hB4 := Lib.hid (hbel.out.trans hb4)
      have A1 := Lib.hid (arm_dk w1.heap.size g NN R.1 w4 n keep hd4 hn hkeep)
      clear C1 hd4 hb4 hbel hz
      go_wp2_with fail
      refine A1.out.mono ?_
      rintro e w5 ⟨rfl, hd5, hb5⟩
      have hB5 := Lib.hid (hB4.out.trans hb5)
      generalize armD R.1 n keep = D5 at *
      have hd5 := Lib.hid hd5
      clear A1 hb5 hB4
      go_wp2_with fail
      go_loopw [64, 12] (fun v u wr => ∃ (i ne N : Nat) (D : Dsk), v = .int .i64 i ∧ u = .int .i64 ne ∧ i ≤ l1.length ∧ Hid (N ≤ NN + 4 * i) ∧ Hid (Dk wr w1.heap.size g N D) ∧ Hid (∀ b ∈ l1.take i, b.length ≤ 512) ∧ Hid (Below w1.heap.size w1 wr) ∧
        Hid ((ne = 0 ∧ Ren D [102] [116] O ((l1.take i).map pad) ∧ D.room = 40) ∨ (ne = 8 ∧ Cd.Left D [102] O))) (fun v _ _ => l1.length - (intOf v).toNat)
      case atStart => exact ⟨0, 0, NN, D5, rfl, rfl, by omega, by unfold Hid; omega, hd5, (fun b hb => by cases hb), hB5, .inl ⟨rfl, S1.out.1, S1.out.2⟩⟩
      case round =>
        clear hB5 hd5 S1
        obtain ⟨i, ne, N, D, rfl, rfl, hi, hN, hdk, hle, hbel, hst⟩ := hrel
        have hN := hN.out
        by_cases hlt : i < l1.length
        · have hlt' : (i : Int) < l1.length := by omega
          obtain ⟨sb, off, A', c', hA, hsb, hcell, hsl, hlc, hcm⟩ := sls_at ((H1.out.below HB0.out).below (hbel.out.mono HB0.out.size)) hlt
          have htk := List.take_succ_eq_append_getElem hlt
          generalize l1[i] = s at *
          subst hA
          by_cases hlong : 512 < s.length
          · clear hst
            go_wp2_with fail
            go_ret
            exact ⟨rfl, HB0.out.trans (hbel.out.mono HB0.out.size)⟩
          · have hl2 : (s.length : Int) ≤ 512 := by omega
            have hle2 : Hid (∀ b ∈ l1.take (i + 1), b.length ≤ 512) := fun b hb => by
              rw [htk] at hb
              rcases List.mem_append.1 hb with h | h
              · exact hle.out b h
              · rw [List.mem_singleton.1 h]; omega
            rcases hst.out with ⟨rfl, hren, hroom⟩ | ⟨rfl, hleft⟩
            · have hcl : ((l1.take i).map pad).length = i := by rw [List.length_map, List.length_take]; omega
              have W1 := write_far w1.heap.size g N D [116] wr s i _ hdk.out (hsl.more HB0.out.size) (by simp) (by omega) (by omega)
              have R1 := hren.write hft (b := s) (by rw [hcl, hroom]; omega) (by omega)
              rw [hcl] at R1
              have hcur : (l1.take (i + 1)).map pad = (l1.take i).map pad ++ [pad s] := by rw [htk, List.map_append]; rfl
              rw [← hcur] at R1
              generalize writeD D [116] (i : Int) s = R at W1 R1
              have hz := Lib.hid hbel.out.size
              rcases R1 with ⟨r1, r2, r3⟩ | ⟨r1, r2⟩
              · rw [r1] at W1
                have W1 := Lib.hid W1
                have R2 : Hid (Ren R.1 [102] [116] O ((l1.take (i + 1)).map pad) ∧ R.1.room = 40) := ⟨r2, by rw [r3, hroom]⟩
                clear hdk hst hren hroom hsl htk hcur r1 r2 r3 hle
                go_wp2_with fail
                refine W1.out.mono ?_
                rintro e w4 ⟨rfl, hd4, hb4⟩
                have hB4 := Lib.hid (hbel.out.trans hb4)
                have hd4 := Lib.hid hd4
                clear W1 hb4 hbel
                go_wp2_with fail
                go_roundw
                case rel => exact ⟨i + 1, 0, N + 4, R.1, by go_num, rfl, by omega, by unfold Hid; omega, hd4, hle2, hB4, .inl ⟨rfl, R2.out.1, R2.out.2⟩⟩
                case measure => simp [intOf]; omega
              · rw [r1] at W1
                have W1 := Lib.hid W1
                have R2 := Lib.hid r2
                clear hdk hst hren hroom hsl htk hcur r1 r2 hle
                go_wp2_with fail
                refine W1.out.mono ?_
                rintro e w4 ⟨rfl, hd4, hb4⟩
                have hB4 := Lib.hid (hbel.out.trans hb4)
                have hd4 := Lib.hid hd4
                clear W1 hb4 hbel
                go_wp2_with fail
                go_roundw
                case rel => exact ⟨i + 1, 8, N + 4, R.1, by go_num, rfl, by omega, by unfold Hid; omega, hd4, hle2, hB4, .inr ⟨rfl, R2.out⟩⟩
                case measure => simp [intOf]; omega
            · have R2 := Lib.hid hleft
              clear hst hleft hsl htk hle
              go_wp2_with fail
              go_roundw
              case rel => exact ⟨i + 1, 8, N, D, by go_num, rfl, by omega, by unfold Hid; omega, hdk, hle2, hbel, .inr ⟨rfl, R2.out⟩⟩
              case measure => simp [intOf]; omega
        · have hlt' : (l1.length : Int) ≤ i := by omega
          obtain rfl : i = l1.length := by omega
          have hle1 : Hid (∀ b ∈ l1, b.length ≤ 512) := fun b hb => hle.out b (by rw [List.take_length]; exact hb)
          rcases hst.out with ⟨rfl, hren, hroom⟩ | ⟨rfl, hleft⟩
          · rw [List.take_length] at hren
            have hz := Lib.hid hbel.out.size
            have hne1 : l1.map pad ≠ [] := fun e => by
              have := congrArg List.length e
              rw [List.length_map] at this
              simp at this
              rw [this] at hp1
              simp at hp1
            have S2 := hren.sync hft hne1
            have C2 := sync_dk w1.heap.size g N D [116] wr hdk.out (by simp) (by omega)
            generalize syncD D [116] = R at S2 C2
            rcases S2 with ⟨s1, s2⟩ | ⟨s1, s2⟩
            · rw [s1] at C2
              have C2 := Lib.hid C2
              have S2 := Lib.hid s2
              clear hdk hst hren hroom s1 s2 hle
              go_wp2_with fail
              refine C2.out.mono ?_
              rintro e w5 ⟨rfl, hd5, hb5⟩
              have HB5 := Lib.hid (hbel.out.trans hb5)
              have M5 := rename_dk w1.heap.size g (N + 4) R.1 [116] [102] w5 hd5 (by simp) (by simp) (by omega)
              have S3 := S2.out.rename hft keep
              generalize renameD R.1 [116] [102] = R2 at M5 S3
              clear C2 hd5 hb5 hbel
              rcases S3 with ⟨s1, s2⟩ | ⟨s1, s2⟩
              · rw [s1] at M5
                have M5 := Lib.hid M5
                have hfin := Lib.hid (fin_lose s2)
                clear s1 s2
                go_wp2_with fail
                refine M5.out.mono ?_
                rintro e w6 ⟨rfl, hd6, hb6⟩
                have HB6 := Lib.hid (HB5.out.trans hb6)
                have HK6 := Lib.hid hd6
                clear M5 hd6 hb6 HB5
                generalize R2.1 = D6 at *
                have O6 := Lib.hid (off_dk w1.heap.size g _ D6 w6 keep HK6.out hkeep)
                generalize lose D6 keep = D7 at *
                go_wp2_with fail
                refine O6.out.mono ?_
                rintro e w7 ⟨rfl, hd7, hb7⟩
                have HB7 := Lib.hid (HB6.out.trans hb7)
                have O7 := Lib.hid (on_dk w1.heap.size g _ D7 w7 hd7)
                generalize onD D7 = D8 at *
                clear O6 HK6 HB6 hd7 hb7
                go_wp2_with fail
                refine O7.out.mono ?_
                rintro e w8 ⟨rfl, hd8, hb8⟩
                have HB8 := Lib.hid (HB7.out.trans hb8)
                have C8 := count_dk w1.heap.size g _ D8 [102] w8 hd8 hfin.out.1 (by simp)
                rw [hfin.out.2, List.length_map] at C8
                have C8 := Lib.hid C8
                have HK8 := Lib.hid hd8
                clear O7 HB7 hd8 hb8
                go_wp2_with fail
                refine C8.out.mono ?_
                rintro e w9 ⟨rfl, rfl⟩
                clear C8
                go_wp2_with fail
                go_loopw [103] (fun v wr => ∃ i : Nat, v = .int .i64 i ∧ i ≤ l1.length ∧ Hid (Dk wr w1.heap.size g _ D8) ∧ Hid (Below w1.heap.size w1 wr)) (fun v _ => l1.length - (intOf v).toNat)
                case atStart => exact ⟨0, rfl, by omega, HK8, HB8⟩
                case round =>
                  clear HK8 HB8
                  obtain ⟨j, rfl, hj, hdk, hbel⟩ := hrel
                  by_cases hlt : j < l1.length
                  · have hlt' : (j : Int) < l1.length := by omega
                    obtain ⟨sb, off, A', c', hA, hsb, hcell, hsl, hlc, hcm⟩ := sls_at ((H1.out.below HB0.out).below (hbel.out.mono HB0.out.size)) hlt
                    have hs512 := hle1.out _ (List.getElem_mem hlt)
                    have hpg : (pagesF D8.now [102])[j]? = some (pad l1[j]) := by rw [hfin.out.2, List.getElem?_map, List.getElem?_eq_getElem hlt]; rfl
                    have R9 := Lib.hid (read_dk w1.heap.size g _ D8 [102] wr hdk.out hfin.out.1 j _ hpg (by simp) (WalkArith.wf_i64 (by omega)))
                    generalize l1[j] = s at *
                    subst hA
                    have HSL := Lib.hid hsl
                    have hz := Lib.hid hbel.out.size
                    obtain ⟨wq, hwq⟩ : ∃ x, x = wr := ⟨_, rfl⟩
                    subst hwq
                    clear hsl hpg
                    go_wp2_with fail
                    refine R9.out.mono ?_
                    rintro e w10 ⟨rfl, rfl⟩
                    have hB10 : Below wq.heap.size wq (wq.alloc (.cells (vb (pad s)).toArray 81)) := (Below.refl _ _).alloc (Nat.le_refl _) _
                    have Y9 : Hid (Sl (wq.alloc (.cells (vb (pad s)).toArray 81)) (wq.alloc (.cells (vb (pad s)).toArray 81)).heap.size (.slice (some ⟨wq.heap.size, 0, none⟩) s.length 512) s) := page_sl hs512 _ (heap_alloc_new _ _)
                    have K9 := Lib.hid (HSL.out.below (hB10.mono (by have := HB0.out.size; have := hz.out; omega)))
                    have HD10 := Lib.hid (hdk.out.below hB10)
                    have HB10 := Lib.hid (hbel.out.trans (hB10.mono hz.out))
                    have hcell : (wq.alloc (.cells (vb (pad s)).toArray 81)).heap.size = wq.heap.size + 1 := by simp
                    generalize wq.alloc (.cells (vb (pad s)).toArray 81) = w10 at *
                    obtain ⟨b9, hb9⟩ : ∃ b, wq.heap.size = b := ⟨_, rfl⟩
                    rw [hb9] at Y9 ⊢
                    have hq : (s != s) = false := by simp
                    have hs512' : (s.length : Int) ≤ 512 := by omega
                    have hc1 := fun n => run_text_of (w10.drewN n) _ _ _ (Y9.out.below (below_drewN _ _ n))
                    have hc2 := fun n => run_text_of (w10.drewN n) _ _ _ (K9.out.below (below_drewN _ _ n))
                    clear R9 hdk hbel hB10 hcell
                    go_wp2_with fail
                    go_quiet (fail)
                    all_goals
                      go_wp2_with fail
                      go_roundw
                      case rel => exact ⟨j + 1, by go_num, by omega, HD10.out.below (below_drewN _ _ _), HB10.out.trans (below_drewN _ _ _)⟩
                      case measure => simp [intOf]; omega
                  · have hlt' : (l1.length : Int) ≤ j := by omega
                    go_wp2_with fail
                    go_ret
                    exact ⟨rfl, HB0.out.trans (hbel.out.mono HB0.out.size)⟩
              · rw [s1] at M5
                have M5 := Lib.hid M5
                have hfin := Lib.hid (fin_left s2 keep)
                rw [← HO.out] at hfin
                clear s1 s2
                go_wp2_with fail
                refine M5.out.mono ?_
                rintro e w6 ⟨rfl, hd6, hb6⟩
                have HB6 := Lib.hid (HB5.out.trans hb6)
                have HK6 := Lib.hid hd6
                clear M5 hd6 hb6 HB5
                generalize R2.1 = D6 at *
                have O6 := Lib.hid (off_dk w1.heap.size g _ D6 w6 keep HK6.out hkeep)
                generalize lose D6 keep = D7 at *
                go_wp2_with fail
                refine O6.out.mono ?_
                rintro e w7 ⟨rfl, hd7, hb7⟩
                have HB7 := Lib.hid (HB6.out.trans hb7)
                have O7 := Lib.hid (on_dk w1.heap.size g _ D7 w7 hd7)
                generalize onD D7 = D8 at *
                clear O6 HK6 HB6 hd7 hb7
                go_wp2_with fail
                refine O7.out.mono ?_
                rintro e w8 ⟨rfl, hd8, hb8⟩
                have HB8 := Lib.hid (HB7.out.trans hb8)
                have C8 := count_dk w1.heap.size g _ D8 [102] w8 hd8 hfin.out.1 (by simp)
                rw [hfin.out.2, List.length_map] at C8
                have C8 := Lib.hid C8
                have HK8 := Lib.hid hd8
                clear O7 HB7 hd8 hb8
                go_wp2_with fail
                refine C8.out.mono ?_
                rintro e w9 ⟨rfl, rfl⟩
                clear C8
                go_wp2_with fail
                go_loopw [103] (fun v wr => ∃ i : Nat, v = .int .i64 i ∧ i ≤ l0.length ∧ Hid (Dk wr w1.heap.size g _ D8) ∧ Hid (Below w1.heap.size w1 wr)) (fun v _ => l0.length - (intOf v).toNat)
                case atStart => exact ⟨0, rfl, by omega, HK8, HB8⟩
                case round =>
                  clear HK8 HB8
                  obtain ⟨j, rfl, hj, hdk, hbel⟩ := hrel
                  by_cases hlt : j < l0.length
                  · have hlt' : (j : Int) < l0.length := by omega
                    obtain ⟨sb, off, A', c', hA, hsb, hcell, hsl, hlc, hcm⟩ := sls_at ((H0.out.below HB0.out).below (hbel.out.mono HB0.out.size)) hlt
                    have hs512 := hle0.out _ (List.getElem_mem hlt)
                    have hpg : (pagesF D8.now [102])[j]? = some (pad l0[j]) := by rw [hfin.out.2, List.getElem?_map, List.getElem?_eq_getElem hlt]; rfl
                    have R9 := Lib.hid (read_dk w1.heap.size g _ D8 [102] wr hdk.out hfin.out.1 j _ hpg (by simp) (WalkArith.wf_i64 (by omega)))
                    generalize l0[j] = s at *
                    subst hA
                    have HSL := Lib.hid hsl
                    have hz := Lib.hid hbel.out.size
                    obtain ⟨wq, hwq⟩ : ∃ x, x = wr := ⟨_, rfl⟩
                    subst hwq
                    clear hsl hpg
                    go_wp2_with fail
                    refine R9.out.mono ?_
                    rintro e w10 ⟨rfl, rfl⟩
                    have hB10 : Below wq.heap.size wq (wq.alloc (.cells (vb (pad s)).toArray 81)) := (Below.refl _ _).alloc (Nat.le_refl _) _
                    have Y9 : Hid (Sl (wq.alloc (.cells (vb (pad s)).toArray 81)) (wq.alloc (.cells (vb (pad s)).toArray 81)).heap.size (.slice (some ⟨wq.heap.size, 0, none⟩) s.length 512) s) := page_sl hs512 _ (heap_alloc_new _ _)
                    have K9 := Lib.hid (HSL.out.below (hB10.mono (by have := HB0.out.size; have := hz.out; omega)))
                    have HD10 := Lib.hid (hdk.out.below hB10)
                    have HB10 := Lib.hid (hbel.out.trans (hB10.mono hz.out))
                    have hcell : (wq.alloc (.cells (vb (pad s)).toArray 81)).heap.size = wq.heap.size + 1 := by simp
                    generalize wq.alloc (.cells (vb (pad s)).toArray 81) = w10 at *
                    obtain ⟨b9, hb9⟩ : ∃ b, wq.heap.size = b := ⟨_, rfl⟩
                    rw [hb9] at Y9 ⊢
                    have hq : (s != s) = false := by simp
                    have hs512' : (s.length : Int) ≤ 512 := by omega
                    have hc1 := fun n => run_text_of (w10.drewN n) _ _ _ (Y9.out.below (below_drewN _ _ n))
                    have hc2 := fun n => run_text_of (w10.drewN n) _ _ _ (K9.out.below (below_drewN _ _ n))
                    clear R9 hdk hbel hB10 hcell
                    go_wp2_with fail
                    go_quiet (fail)
                    all_goals
                      go_wp2_with fail
                      go_roundw
                      case rel => exact ⟨j + 1, by go_num, by omega, HD10.out.below (below_drewN _ _ _), HB10.out.trans (below_drewN _ _ _)⟩
                      case measure => simp [intOf]; omega
                  · have hlt' : (l0.length : Int) ≤ j := by omega
                    go_wp2_with fail
                    go_ret
                    exact ⟨rfl, HB0.out.trans (hbel.out.mono HB0.out.size)⟩
            · rw [s1] at C2
              have C2 := Lib.hid C2
              have hfin := Lib.hid (fin_left s2 keep)
              rw [← HO.out] at hfin
              clear hdk hst hren hroom s1 s2 hle
              go_wp2_with fail
              refine C2.out.mono ?_
              rintro e w6 ⟨rfl, hd6, hb6⟩
              have HB6 := Lib.hid (hbel.out.trans hb6)
              have HK6 := Lib.hid hd6
              clear C2 hd6 hb6 hbel
              generalize R.1 = D6 at *
              have O6 := Lib.hid (off_dk w1.heap.size g _ D6 w6 keep HK6.out hkeep)
              generalize lose D6 keep = D7 at *
              go_wp2_with fail
              refine O6.out.mono ?_
              rintro e w7 ⟨rfl, hd7, hb7⟩
              have HB7 := Lib.hid (HB6.out.trans hb7)
              have O7 := Lib.hid (on_dk w1.heap.size g _ D7 w7 hd7)
              generalize onD D7 = D8 at *
              clear O6 HK6 HB6 hd7 hb7
              go_wp2_with fail
              refine O7.out.mono ?_
              rintro e w8 ⟨rfl, hd8, hb8⟩
              have HB8 := Lib.hid (HB7.out.trans hb8)
              have C8 := count_dk w1.heap.size g _ D8 [102] w8 hd8 hfin.out.1 (by simp)
              rw [hfin.out.2, List.length_map] at C8
              have C8 := Lib.hid C8
              have HK8 := Lib.hid hd8
              clear O7 HB7 hd8 hb8
              go_wp2_with fail
              refine C8.out.mono ?_
              rintro e w9 ⟨rfl, rfl⟩
              clear C8
              go_wp2_with fail
              go_loopw [103] (fun v wr => ∃ i : Nat, v = .int .i64 i ∧ i ≤ l0.length ∧ Hid (Dk wr w1.heap.size g _ D8) ∧ Hid (Below w1.heap.size w1 wr)) (fun v _ => l0.length - (intOf v).toNat)
              case atStart => exact ⟨0, rfl, by omega, HK8, HB8⟩
              case round =>
                clear HK8 HB8
                obtain ⟨j, rfl, hj, hdk, hbel⟩ := hrel
                by_cases hlt : j < l0.length
                · have hlt' : (j : Int) < l0.length := by omega
                  obtain ⟨sb, off, A', c', hA, hsb, hcell, hsl, hlc, hcm⟩ := sls_at ((H0.out.below HB0.out).below (hbel.out.mono HB0.out.size)) hlt
                  have hs512 := hle0.out _ (List.getElem_mem hlt)
                  have hpg : (pagesF D8.now [102])[j]? = some (pad l0[j]) := by rw [hfin.out.2, List.getElem?_map, List.getElem?_eq_getElem hlt]; rfl
                  have R9 := Lib.hid (read_dk w1.heap.size g _ D8 [102] wr hdk.out hfin.out.1 j _ hpg (by simp) (WalkArith.wf_i64 (by omega)))
                  generalize l0[j] = s at *
                  subst hA
                  have HSL := Lib.hid hsl
                  have hz := Lib.hid hbel.out.size
                  obtain ⟨wq, hwq⟩ : ∃ x, x = wr := ⟨_, rfl⟩
                  subst hwq
                  clear hsl hpg
                  go_wp2_with fail
                  refine R9.out.mono ?_
                  rintro e w10 ⟨rfl, rfl⟩
                  have hB10 : Below wq.heap.size wq (wq.alloc (.cells (vb (pad s)).toArray 81)) := (Below.refl _ _).alloc (Nat.le_refl _) _
                  have Y9 : Hid (Sl (wq.alloc (.cells (vb (pad s)).toArray 81)) (wq.alloc (.cells (vb (pad s)).toArray 81)).heap.size (.slice (some ⟨wq.heap.size, 0, none⟩) s.length 512) s) := page_sl hs512 _ (heap_alloc_new _ _)
                  have K9 := Lib.hid (HSL.out.below (hB10.mono (by have := HB0.out.size; have := hz.out; omega)))
                  have HD10 := Lib.hid (hdk.out.below hB10)
                  have HB10 := Lib.hid (hbel.out.trans (hB10.mono hz.out))
                  have hcell : (wq.alloc (.cells (vb (pad s)).toArray 81)).heap.size = wq.heap.size + 1 := by simp
                  generalize wq.alloc (.cells (vb (pad s)).toArray 81) = w10 at *
                  obtain ⟨b9, hb9⟩ : ∃ b, wq.heap.size = b := ⟨_, rfl⟩
                  rw [hb9] at Y9 ⊢
                  have hq : (s != s) = false := by simp
                  have hs512' : (s.length : Int) ≤ 512 := by omega
                  have hc1 := fun n => run_text_of (w10.drewN n) _ _ _ (Y9.out.below (below_drewN _ _ n))
                  have hc2 := fun n => run_text_of (w10.drewN n) _ _ _ (K9.out.below (below_drewN _ _ n))
                  clear R9 hdk hbel hB10 hcell
                  go_wp2_with fail
                  go_quiet (fail)
                  all_goals
                    go_wp2_with fail
                    go_roundw
                    case rel => exact ⟨j + 1, by go_num, by omega, HD10.out.below (below_drewN _ _ _), HB10.out.trans (below_drewN _ _ _)⟩
                    case measure => simp [intOf]; omega
                · have hlt' : (l0.length : Int) ≤ j := by omega
                  go_wp2_with fail
                  go_ret
                  exact ⟨rfl, HB0.out.trans (hbel.out.mono HB0.out.size)⟩
          · have hfin := Lib.hid (fin_left hleft keep)
            rw [← HO.out] at hfin
            have HB6 := hbel
            have HK6 := hdk
            obtain ⟨w6, hw6⟩ : ∃ x, x = wr := ⟨_, rfl⟩
            subst hw6
            obtain ⟨D6, hD6⟩ : ∃ x, x = D := ⟨_, rfl⟩
            subst hD6
            clear hst hleft hle hdk hbel
            have O6 := Lib.hid (off_dk w1.heap.size g _ D6 w6 keep HK6.out hkeep)
            generalize lose D6 keep = D7 at *
            go_wp2_with fail
            refine O6.out.mono ?_
            rintro e w7 ⟨rfl, hd7, hb7⟩
            have HB7 := Lib.hid (HB6.out.trans hb7)
            have O7 := Lib.hid (on_dk w1.heap.size g _ D7 w7 hd7)
            generalize onD D7 = D8 at *
            clear O6 HK6 HB6 hd7 hb7
            go_wp2_with fail
            refine O7.out.mono ?_
            rintro e w8 ⟨rfl, hd8, hb8⟩
            have HB8 := Lib.hid (HB7.out.trans hb8)
            have C8 := count_dk w1.heap.size g _ D8 [102] w8 hd8 hfin.out.1 (by simp)
            rw [hfin.out.2, List.length_map] at C8
            have C8 := Lib.hid C8
            have HK8 := Lib.hid hd8
            clear O7 HB7 hd8 hb8
            go_wp2_with fail
            refine C8.out.mono ?_
            rintro e w9 ⟨rfl, rfl⟩
            clear C8
            go_wp2_with fail
            go_loopw [103] (fun v wr => ∃ i : Nat, v = .int .i64 i ∧ i ≤ l0.length ∧ Hid (Dk wr w1.heap.size g _ D8) ∧ Hid (Below w1.heap.size w1 wr)) (fun v _ => l0.length - (intOf v).toNat)
            case atStart => exact ⟨0, rfl, by omega, HK8, HB8⟩
            case round =>
              clear HK8 HB8
              obtain ⟨j, rfl, hj, hdk, hbel⟩ := hrel
              by_cases hlt : j < l0.length
              · have hlt' : (j : Int) < l0.length := by omega
                obtain ⟨sb, off, A', c', hA, hsb, hcell, hsl, hlc, hcm⟩ := sls_at ((H0.out.below HB0.out).below (hbel.out.mono HB0.out.size)) hlt
                have hs512 := hle0.out _ (List.getElem_mem hlt)
                have hpg : (pagesF D8.now [102])[j]? = some (pad l0[j]) := by rw [hfin.out.2, List.getElem?_map, List.getElem?_eq_getElem hlt]; rfl
                have R9 := Lib.hid (read_dk w1.heap.size g _ D8 [102] wr hdk.out hfin.out.1 j _ hpg (by simp) (WalkArith.wf_i64 (by omega)))
                generalize l0[j] = s at *
                subst hA
                have HSL := Lib.hid hsl
                have hz := Lib.hid hbel.out.size
                obtain ⟨wq, hwq⟩ : ∃ x, x = wr := ⟨_, rfl⟩
                subst hwq
                clear hsl hpg
                go_wp2_with fail
                refine R9.out.mono ?_
                rintro e w10 ⟨rfl, rfl⟩
                have hB10 : Below wq.heap.size wq (wq.alloc (.cells (vb (pad s)).toArray 81)) := (Below.refl _ _).alloc (Nat.le_refl _) _
                have Y9 : Hid (Sl (wq.alloc (.cells (vb (pad s)).toArray 81)) (wq.alloc (.cells (vb (pad s)).toArray 81)).heap.size (.slice (some ⟨wq.heap.size, 0, none⟩) s.length 512) s) := page_sl hs512 _ (heap_alloc_new _ _)
                have K9 := Lib.hid (HSL.out.below (hB10.mono (by have := HB0.out.size; have := hz.out; omega)))
                have HD10 := Lib.hid (hdk.out.below hB10)
                have HB10 := Lib.hid (hbel.out.trans (hB10.mono hz.out))
                have hcell : (wq.alloc (.cells (vb (pad s)).toArray 81)).heap.size = wq.heap.size + 1 := by simp
                generalize wq.alloc (.cells (vb (pad s)).toArray 81) = w10 at *
                obtain ⟨b9, hb9⟩ : ∃ b, wq.heap.size = b := ⟨_, rfl⟩
                rw [hb9] at Y9 ⊢
                have hq : (s != s) = false := by simp
                have hs512' : (s.length : Int) ≤ 512 := by omega
                have hc1 := fun n => run_text_of (w10.drewN n) _ _ _ (Y9.out.below (below_drewN _ _ n))
                have hc2 := fun n => run_text_of (w10.drewN n) _ _ _ (K9.out.below (below_drewN _ _ n))
                clear R9 hdk hbel hB10 hcell
                go_wp2_with fail
                go_quiet (fail)
                all_goals
                  go_wp2_with fail
                  go_roundw
                  case rel => exact ⟨j + 1, by go_num, by omega, HD10.out.below (below_drewN _ _ _), HB10.out.trans (below_drewN _ _ _)⟩
                  case measure => simp [intOf]; omega
              · have hlt' : (l0.length : Int) ≤ j := by omega
                go_wp2_with fail
                go_ret
                exact ⟨rfl, HB0.out.trans (hbel.out.mono HB0.out.size)⟩

theorem walk (v0 : Value) (l0 : List (List UInt8)) (v1 : Value) (l1 : List (List UInt8)) (a2 a3 : Int) (w : World) (h0 : Sls w w.heap.size v0 l0 ∧ ∀ p ∈ l0, p.length ≤ 140737488351232) (h1 : Sls w w.heap.size v1 l1 ∧ ∀ p ∈ l1, p.length ≤ 140737488351232) (w2 : (Lit.int .i64 a2).wf = true) (w3 : (Lit.int .u64 a3).wf = true) :
    Calls Try.prog 5 #[v0, v1, .int .i64 a2, .int .u64 a3] w (Gives (.bool true) w) := by
  have b2 := bounds_i64 w2
  have b3 := bounds_u64 w3
  obtain ⟨k, rfl⟩ := Int.eq_ofNat_of_zero_le (a := a3) (by omega)
  by_cases hb : 8 < l0.length ∨ (¬ 8 < l0.length ∧ 8 < l1.length) ∨ (¬ 8 < l0.length ∧ ¬ 8 < l1.length ∧ l0.length = 0) ∨ (¬ 8 < l0.length ∧ ¬ 8 < l1.length ∧ l0.length ≠ 0 ∧ l1.length = 0)
  · exact much v0 v1 l0 l1 a2 k w h0.1 h1.1 hb
  · exact main v0 v1 l0 l1 a2 k w h0.1 h1.1 (by omega) (by omega) (by omega) (by omega) (by omega) (by omega)

end Go.Proofs.Ythbpkdmniaapaaa.DiskRenames
