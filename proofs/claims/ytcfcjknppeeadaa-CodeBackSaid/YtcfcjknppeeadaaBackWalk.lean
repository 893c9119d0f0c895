/-
  CodeBack answers true. Conditions: none.
-/
import Derived.Test.YtcfcjknppeeadaaWritten
import Derived.Test.YtcfcjknppeeadaaAlive
import Derived.Test.YtcfcjknppeeadaaOpen
import Derived.Test.YtcfcjknppeeadaaMathD
import Derived.Deep.RegionHeld3
namespace Go.Proofs.Ytcfcjknppeeadaa.Cd
open Go.RowKit

theorem back0 (g : Nat) (p : Prt) (t : List UInt8) (W : World) (h0 : p.kind = 0) (hu : p.u < 18446744073709551616) (hr : Rd W g (encP p ++ t) false) (hl : (encP p ++ t).length ≤ 140737488355328) :
    Calls Try.prog 17 #[.pointer (some ⟨g, 0, none⟩)] W (Ans (.int .u64 p.u) W g t false) := by
  have e : encP p = enc p.u := if_pos h0
  rw [e] at hr hl
  have h := ruint_any g _ false W hr (Sane.start _) hl
  rw [nv_enc hu, uB_enc hu, uX_enc hu] at h
  exact h

theorem back2 (g : Nat) (p : Prt) (t : List UInt8) (W : World) (h2 : p.kind = 2) (hs : p.s.length ≤ 140737488355328) (hr : Rd W g (encP p ++ t) false) (hl : (encP p ++ t).length ≤ 140737488355328) :
    Calls Try.prog 21 #[.pointer (some ⟨g, 0, none⟩), .int .i64 p.s.length] W (Ans (.string ⟨p.s.toArray⟩) W g t false) := by
  have e : encP p = enc p.s.length ++ p.s := by unfold encP; rw [if_neg (by omega), if_pos h2]
  rw [e, List.append_assoc] at hr hl
  have h := rtext_any g p.s.length _ false W hr (Sane.start _) hl (by omega)
  rw [txV_enc t p.s (by omega), txB_enc t p.s (by omega), txX_enc t p.s (by omega)] at h
  exact h

theorem back3 (g : Nat) (p : Prt) (t : List UInt8) (W : World) (h3 : p.kind = 3) (hn : Int64 p.n) (hr : Rd W g (encP p ++ t) false) (hl : (encP p ++ t).length ≤ 140737488355328) :
    Calls Try.prog 23 #[.pointer (some ⟨g, 0, none⟩), .int .i64 p.n, .int .i64 p.n] W (Ans (.int .i64 p.n) W g t false) := by
  have e : encP p = enc (zig p.n) := by unfold encP; rw [if_neg (by omega), if_neg (by omega), if_neg (by omega)]
  rw [e] at hr hl
  have h := rin_any g p.n p.n _ false W hr (Sane.start _) hl
  rw [inV_enc t hn.1 hn.2, inB_enc t hn.1 hn.2, inX_enc t hn.1 hn.2] at h
  exact h

theorem back4 (g : Nat) (p : Prt) (t : List UInt8) (W : World) (h4 : p.kind = 4) (hr : Rd W g (encP p ++ t) false) (hl : (encP p ++ t).length ≤ 140737488355328) :
    Calls Try.prog 25 #[.pointer (some ⟨g, 0, none⟩), .int .i64 p.s.length] W (Ans (.string ⟨p.s.toArray⟩) W g t false) := by
  have e : encP p = p.s := by unfold encP; rw [if_neg (by omega), if_neg (by omega), if_pos h4]
  rw [e] at hr hl
  have h := rtake_any g p.s.length _ false W hr (Sane.start _) hl
  rw [tkV_enc t p.s, tkB_enc t p.s, tkX_enc t p.s] at h
  exact h

theorem back1 (g : Nat) (p : Prt) (t : List UInt8) (W : World) (h0 : p.kind ≠ 0) (h2 : p.kind ≠ 2) (h4 : p.kind ≠ 4) (hn : Int64 p.n) (hr : Rd W g (encP p ++ t) false) (hl : (encP p ++ t).length ≤ 140737488355328) :
    Calls Try.prog 19 #[.pointer (some ⟨g, 0, none⟩)] W (Ans (.int .i64 p.n) W g t false) := by
  have e : encP p = enc (zig p.n) := by unfold encP; rw [if_neg h0, if_neg h2, if_neg h4]
  rw [e] at hr hl
  have h := rint_any g _ false W hr (Sane.start _) hl
  have hz := zig_lt hn.1 hn.2
  rw [nv_enc hz, uB_enc hz, uX_enc hz, zag_zig] at h
  exact h

theorem cat_cons_drop (l : List Prt) (k : Nat) (p : Prt) (h : l[k]? = some p) : cat (l.drop k) = encP p ++ cat (l.drop (k + 1)) := by
  obtain ⟨hk, rfl⟩ := List.getElem?_eq_some_iff.1 h
  rw [List.drop_eq_getElem_cons hk, cat]

theorem Rd.new {w : World} {g : Nat} {bs : List UInt8} {bad : Bool} (h : Rd w g bs bad) (o : Obj) : Rd (w.alloc o) g bs bad :=
  h.below ((Below.refl w.heap.size w).alloc (Nat.le_refl _) o) h.lt

end Go.Proofs.Ytcfcjknppeeadaa.Cd

namespace Go.Proofs.Ytcfcjknppeeadaa.CodeBack
open Go.RowKit Go.Proofs.Ytcfcjknppeeadaa.Cd

set_option maxRecDepth 100000 in
set_option maxHeartbeats 4000000 in
theorem main (v : Value) (ps : List Prt) (w : World) (h : Parts w w.heap.size v ps) (hS : ∀ p ∈ ps, p.s.length ≤ 140737488355328) (hb : big ps = false) :
    Calls Try.prog 5 #[v] w (Gives (.bool true) w) := by
  obtain ⟨A, c, rfl, hm, hok, hp⟩ := h
  have H : Hid (Parts w w.heap.size (.slice A ps.length c) ps) := ⟨A, c, rfl, hm, hok, hp⟩
  have hT : total ps ≤ 16384 ∧ ps.length ≤ 200 := by
    unfold big at hb
    simp at hb
    omega
  have hcl : Hid ((cat ps).length ≤ 16384 + 2000) := by
    have h1 := cat_len ps hok hS
    unfold Hid
    omega
  have HS := Lib.hid hS
  have HP := Lib.hid hp
  have HO := Lib.hid hok
  have HB := Lib.hid hb
  clear hS hp hok hb hm
  go_enter Try.func5, Try.ntmps5
  go_wp2_with fail
  refine (alive_any _).mono ?_
  rintro e w1 ⟨rfl, hb1⟩
  have P1 := (H.out.below hb1).more hb1.size
  have HP1 := Lib.hid P1
  clear P1
  go_wp2_with fail
  refine (great_any _ _ _ HP1.out HS.out).mono ?_
  rintro e w2 ⟨rfl, hb2⟩
  rw [HB.out]
  have P2 := (HP1.out.below hb2).more hb2.size
  have HP2 := Lib.hid P2
  clear P2
  go_wp2_with fail
  refine (written_any _ _ _ HP2.out HS.out HB.out).mono ?_
  rintro e w3 ⟨v3, rfl, ho3, hb3⟩
  go_wp2_with fail
  refine (read_any v3 _ w3 ho3.sl).mono ?_
  rintro e w4 ⟨rfl, hr4, hb4⟩
  have hs1 := hb1.size
  have hs2 := hb2.size
  have hs3 := hb3.size
  have hs4 := hb4.size
  have hw4 : Below w.heap.size w w4 := ((hb1.trans (hb2.mono (by omega))).trans (hb3.mono (by omega))).trans (hb4.mono (by omega))
  have HR4 := Lib.hid hr4
  clear hr4 HP1 HP2 hb1 hb2 hb3 hb4 ho3
  have hg : w.heap.size ≤ w3.heap.size := by omega
  generalize w3.heap.size = g at *
  go_wp2_with fail
  go_loopw [22] (fun i wr => ∃ (k : Nat), i = .int .i64 k ∧ k ≤ ps.length ∧ Hid (Rd wr g (cat (ps.drop k)) false) ∧ Below w.heap.size w wr) (fun i _ => ps.length - (intOf i).toNat)
  case atStart => exact ⟨0, rfl, by omega, HR4.out, hw4⟩
  case round =>
    obtain ⟨k, rfl, hk, hr, hbw⟩ := hrel
    by_cases hlt : k < ps.length
    · obtain ⟨b, off, rfl, hB, hc⟩ := HP.out (by omega)
      obtain ⟨p, hpk⟩ : ∃ p, ps[k]? = some p := ⟨ps[k], List.getElem?_eq_getElem hlt⟩
      have hcell : ∀ j u, p.cells[j]? = some u → wr.cell? ⟨b, off + k * 6 + j, none⟩ = some u := fun j u hu => (hbw.cell (p := ⟨b, off + k * 6 + j, none⟩) hB).trans (hc k p hpk j u hu)
      have c0 : wr.cell? ⟨b, off + k * 6, none⟩ = some (.int .i64 p.kind) := hcell 0 _ rfl
      have c1 := hcell 1 _ rfl
      have c2 := hcell 2 _ rfl
      have c3 := hcell 3 _ rfl
      have c4 := hcell 4 _ rfl
      have c5 := hcell 5 _ rfl
      have hOk := HO.out p (List.mem_of_getElem? hpk)
      have hs47 : p.s.length ≤ 140737488355328 := HS.out p (List.mem_of_getElem? hpk)
      have hr2 := hr.out
      rw [cat_cons_drop ps k p hpk] at hr2
      have hlen : (encP p ++ cat (ps.drop (k + 1))).length ≤ 140737488355328 := by
        rw [← cat_cons_drop ps k p hpk]
        have h1 := hcl.out
        have h2 : (cat ps).length = (cat (ps.take k)).length + (cat (ps.drop k)).length := by rw [← List.length_append, ← cat_append, List.take_append_drop]
        omega
      generalize ht : cat (ps.drop (k + 1)) = t at hr2 hlen
      have HT := Lib.hid ht
      clear ht
      have hgl := hr2.lt
      have HR := Lib.hid (fun o => (hr2.new o))
      have HRD := Lib.hid (fun o => (hr2.new o).drew)
      have HL := Lib.hid hlen
      have hgne : ∀ j, some (({ block := wr.heap.size, off := j } : Addr).block) ≠ some g := fun j => by simp; omega
      have HG := Lib.hid hgne
      clear hc hcell hpk hr hr2 hlen hgne
      by_cases h0 : p.kind = 0
      · have q0 : (p.kind == 0) = true := by simp [h0]
        have hu := hOk.u
        have H0 := Lib.hid h0
        clear h0
        go_wp2_with fail
        go_region_held3 (fun W => W.cell? ⟨wr.heap.size, 1, none⟩ = some (.int .u64 p.u)) (first | exact d1 | simp) (first
          | (go_at_call 17; refine (back0 g p t _ H0.out hu (HRD.out _) HL.out).mono ?_; rintro e v1 ⟨rfl, hl1⟩; have d1 : v1.cell? ⟨wr.heap.size, 1, none⟩ = some (.int .u64 p.u) := hl1.2.cell (by simp) (HG.out 1)))
        all_goals
          go_wp2_with fail
          go_roundw
          case rel => exact ⟨k + 1, by go_num, by omega, (by rw [HT.out]; exact hl1.1), below_of_grown (hbw.alloc hbw.size _).drew hl1.2 (by simp; have := hbw.size; omega) hg⟩
          case measure => simp [intOf]; omega
      · have q0 : (p.kind == 0) = false := by simp; omega
        by_cases h2 : p.kind = 2
        · have q2 : (p.kind == 2) = true := by simp [h2]
          have H2 := Lib.hid h2
          clear h2 h0
          go_wp2_with fail
          go_region_held3 (fun W => W.cell? ⟨wr.heap.size, 3, none⟩ = some (.string ⟨p.s.toArray⟩)) (first | exact d1 | simp) (first
            | (go_at_call 21; refine (back2 g p t _ H2.out hs47 (HRD.out _) HL.out).mono ?_; rintro e v1 ⟨rfl, hl1⟩; have d1 : v1.cell? ⟨wr.heap.size, 3, none⟩ = some (.string ⟨p.s.toArray⟩) := hl1.2.cell (by simp) (HG.out 3)))
          all_goals
            go_wp2_with fail
            go_roundw
            case rel => exact ⟨k + 1, by go_num, by omega, (by rw [HT.out]; exact hl1.1), below_of_grown (hbw.alloc hbw.size _).drew hl1.2 (by simp; have := hbw.size; omega) hg⟩
            case measure => simp [intOf]; omega
        · have q2 : (p.kind == 2) = false := by simp; omega
          by_cases h3 : p.kind = 3
          · have q3 : (p.kind == 3) = true := by simp [h3]
            have H3 := Lib.hid h3
            have HN := Lib.hid hOk.n
            clear h0 h2 h3
            go_wp2_with fail
            go_region_held3 (fun W => W.cell? ⟨wr.heap.size, 2, none⟩ = some (.int .i64 p.n)) (first | exact d1 | simp) (first
              | (go_at_call 23; refine (back3 g p t _ H3.out HN.out (HRD.out _) HL.out).mono ?_; rintro e v1 ⟨rfl, hl1⟩; have d1 : v1.cell? ⟨wr.heap.size, 2, none⟩ = some (.int .i64 p.n) := hl1.2.cell (by simp) (HG.out 2)))
            all_goals
              go_wp2_with fail
              go_roundw
              case rel => exact ⟨k + 1, by go_num, by omega, (by rw [HT.out]; exact hl1.1), below_of_grown (hbw.alloc hbw.size _).drew hl1.2 (by simp; have := hbw.size; omega) hg⟩
              case measure => simp [intOf]; omega
          · have q3 : (p.kind == 3) = false := by simp; omega
            by_cases h4 : p.kind = 4
            · have q4 : (p.kind == 4) = true := by simp [h4]
              have H4 := Lib.hid h4
              clear h0 h2 h3 h4
              go_wp2_with fail
              go_region_held3 (fun W => W.cell? ⟨wr.heap.size, 3, none⟩ = some (.string ⟨p.s.toArray⟩)) (first | exact d1 | simp) (first
                | (go_at_call 25; refine (back4 g p t _ H4.out (HRD.out _) HL.out).mono ?_; rintro e v1 ⟨rfl, hl1⟩; have d1 : v1.cell? ⟨wr.heap.size, 3, none⟩ = some (.string ⟨p.s.toArray⟩) := hl1.2.cell (by simp) (HG.out 3)))
              all_goals
                go_wp2_with fail
                go_roundw
                case rel => exact ⟨k + 1, by go_num, by omega, (by rw [HT.out]; exact hl1.1), below_of_grown (hbw.alloc hbw.size _).drew hl1.2 (by simp; have := hbw.size; omega) hg⟩
                case measure => simp [intOf]; omega
            · have q4 : (p.kind == 4) = false := by simp; omega
              have H0 := Lib.hid h0
              have H2 := Lib.hid h2
              have H4 := Lib.hid h4
              have HN := Lib.hid hOk.n
              clear h0 h2 h3 h4
              go_wp2_with fail
              go_region_held3 (fun W => W.cell? ⟨wr.heap.size, 2, none⟩ = some (.int .i64 p.n)) (first | exact d1 | simp) (first
                | (go_at_call 19; refine (back1 g p t _ H0.out H2.out H4.out HN.out (HRD.out _) HL.out).mono ?_; rintro e v1 ⟨rfl, hl1⟩; have d1 : v1.cell? ⟨wr.heap.size, 2, none⟩ = some (.int .i64 p.n) := hl1.2.cell (by simp) (HG.out 2)))
              all_goals
                go_wp2_with fail
                go_roundw
                case rel => exact ⟨k + 1, by go_num, by omega, (by rw [HT.out]; exact hl1.1), below_of_grown (hbw.alloc hbw.size _).drew hl1.2 (by simp; have := hbw.size; omega) hg⟩
                case measure => simp [intOf]; omega
    · have hkl : k = ps.length := by omega
      have hr2 := hr.out
      rw [hkl, List.drop_of_length_le (Nat.le_refl _)] at hr2
      have HR := Lib.hid hr2
      clear hkl hr hr2
      go_wp2_with (go_at_call 29; refine (end_any g _ _ _ HR.out).mono ?_; rintro e v1 ⟨rfl, rfl⟩)
      go_ret
      exact ⟨rfl, hbw⟩

set_option maxHeartbeats 400000 in
theorem much (v : Value) (ps : List Prt) (w : World) (h : Parts w w.heap.size v ps) (hS : ∀ p ∈ ps, p.s.length ≤ 140737488355328) (hb : big ps = true) :
    Calls Try.prog 5 #[v] w (Gives (.bool true) w) := by
  have H := Lib.hid h
  have HS := Lib.hid hS
  have HB := Lib.hid hb
  clear h hS hb
  go_enter Try.func5, Try.ntmps5
  go_wp2_with fail
  refine (alive_any _).mono ?_
  rintro e w1 ⟨rfl, hb1⟩
  have P1 := (H.out.below hb1).more hb1.size
  have HP1 := Lib.hid P1
  clear P1
  go_wp2_with fail
  refine (great_any _ _ _ HP1.out HS.out).mono ?_
  rintro e w2 ⟨rfl, hb2⟩
  rw [HB.out]
  go_wp2_with fail
  go_ret
  exact ⟨rfl, hb1.trans (hb2.mono hb1.size)⟩

theorem walk (v0 : Value) (ps : List Prt) (w : World) (w0 : Parts w w.heap.size v0 ps ∧ ∀ p ∈ ps, p.s.length ≤ 140737488351232) :
    Calls Try.prog 5 #[v0] w (Gives (.bool true) w) := by
  have hS : ∀ p ∈ ps, p.s.length ≤ 140737488355328 := fun p hp => Nat.le_trans (w0.2 p hp) (by omega)
  cases hb : big ps
  · exact main v0 ps w w0.1 hS hb
  · exact much v0 ps w w0.1 hS hb

end Go.Proofs.Ytcfcjknppeeadaa.CodeBack
