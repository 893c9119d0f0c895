/-
  CodeOne answers true. Conditions: none.
-/
import Derived.Test.YtcfcjknppeeadaaWritten
import Derived.Test.YtcfcjknppeeadaaAlive
import Derived.Test.YtcfcjknppeeadaaOpen
import Derived.Test.YtcfcjknppeeadaaMathE
import Derived.Deep.RegionLaw
namespace Go.Proofs.Ytcfcjknppeeadaa.CodeOne
open Go.RowKit Go.Proofs.Ytcfcjknppeeadaa.Cd

theorem rd_new {w : World} {g : Nat} {bs : List UInt8} {bad : Bool} (h : Rd w g bs bad) (o : Obj) : Rd (w.alloc o) g bs bad :=
  h.below ((Below.refl w.heap.size w).alloc (Nat.le_refl _) o) h.lt

/-- A row of bytes stays the call's own while a reader's block is written. -/
theorem own_grown {w w' : World} {B g : Nat} {v : Value} {bs cs : List UInt8} {bad : Bool} (h : Own w B v bs) (hr : Rd w g cs bad) (hg : w.grownBy w' (some g)) : Own w' B v bs := by
  have hlt := h.lt
  refine ⟨h.1, ?_⟩
  rcases h.2 with h2 | ⟨g', cap, cur, rfl, hb, hh, r⟩
  · exact .inl h2
  · refine .inr ⟨g', cap, cur, rfl, hb, (hg.block g' (hlt g' rfl).2 ?_).trans hh, r⟩
    intro e
    injection e with e
    subst e
    unfold Rd at hr
    rw [hr] at hh
    injection hh with hh
    injection hh with _ ht
    exact absurd ht (by decide)

theorem own_new (w : World) (B : Nat) (hB : B ≤ w.heap.size) : Own (w.alloc (.cells #[] 5)) B (.slice (some ⟨w.heap.size, 0, none⟩) 0 0) [] :=
  World.ownsRow_made (base := B) (e := 5) (size := 1) w #[] 0 hB (by simp) rfl

/-- What holds ahead of every round: what was read so far is written as the bytes that were read. -/
def Inv (w : World) (B g : Nat) (b0 : List UInt8) (k : Nat) (out : Value) : Prop :=
  ∃ bs bad ds, Rd w g bs bad ∧ Sane bad bs ∧ bs.length ≤ 16384 ∧ Own w B out ds ∧ ds.length ≤ k * 16400 ∧ (bad = false → ds ++ bs = b0)

theorem inv_step {w : World} {B g k : Nat} {b0 bs bs' ds es : List UInt8} {bad bad' : Bool} {out : Value} (hr : Rd w g bs' bad') (hs : Sane bad' bs') (hl : bs'.length ≤ 16384) (ho : Own w B out (ds ++ es))
    (hd : ds.length ≤ k * 16400) (he : es.length ≤ 16400) (h0 : bad = false → ds ++ bs = b0) (h1 : bad' = false → bad = false ∧ es ++ bs' = bs) : Inv w B g b0 (k + 1) out :=
  ⟨bs', bad', ds ++ es, hr, hs, hl, ho, by rw [List.length_append]; omega, fun h => by
    obtain ⟨h2, h3⟩ := h1 h
    rw [List.append_assoc, h3]
    exact h0 h2⟩

theorem sane_u {bad : Bool} {bs : List UInt8} (h : Sane bad bs) (hu : uX bs = false) : bad = false := by
  cases bad with
  | false => rfl
  | true =>
    have := h rfl
    subst this
    exact absurd bad_nil (of_decide_eq_false hu)
theorem sane_in {bad : Bool} {lo hi : Int} {bs : List UInt8} (h : Sane bad bs) (hu : inX lo hi bs = false) : bad = false := by
  cases bad with
  | false => rfl
  | true =>
    have := h rfl
    subst this
    exact absurd (.inl bad_nil) (of_decide_eq_false hu)
theorem sane_tx {bad : Bool} {most : Int} {bs : List UInt8} (h : Sane bad bs) (hu : txX most bs = false) : bad = false := by
  cases bad with
  | false => rfl
  | true =>
    have := h rfl
    subst this
    exact absurd (.inl bad_nil) (of_decide_eq_false hu)
theorem sane_tk {bad : Bool} {n : Int} {bs : List UInt8} (hu : tkX bad n bs = false) : bad = false := by
  cases bad with
  | false => rfl
  | true => exact absurd (.inl rfl) (of_decide_eq_false hu)

set_option maxHeartbeats 400000 in
theorem much (v0 v : Value) (b0 : List UInt8) (ps : List Prt) (w : World) (hs : Sl w w.heap.size v0 b0) (h : Parts w w.heap.size v ps) (hb : 16384 < b0.length ∨ (¬ 16384 < b0.length ∧ 200 < ps.length)) :
    Calls Try.prog 6 #[v0, v] w (Gives (.bool true) w) := by
  obtain ⟨A0, k0, rfl, m1, m2, _⟩ := hs
  obtain ⟨A, c, rfl, hm, _⟩ := h
  have hm1 : b0.length ≤ 9223372036854775807 := by unfold maxLen at m2; omega
  have hm2 : ps.length ≤ 9223372036854775807 := by unfold maxLen at hm; omega
  clear m2 hm
  rcases hb with hb | ⟨hb, hb'⟩
  all_goals
    go_enter Try.func6, Try.ntmps6
    go_wp2_with (go_at_call 10; refine (alive_any _).mono ?_; rintro e w1 ⟨rfl, hb1⟩)
    go_ret
    exact ⟨rfl, hb1⟩

set_option maxRecDepth 100000 in
set_option maxHeartbeats 4000000 in
theorem main (v0 v : Value) (b0 : List UInt8) (ps : List Prt) (w : World) (hs : Sl w w.heap.size v0 b0) (h : Parts w w.heap.size v ps) (hb : b0.length ≤ 16384) (hp200 : ps.length ≤ 200) :
    Calls Try.prog 6 #[v0, v] w (Gives (.bool true) w) := by
  have HSL := Lib.hid hs
  obtain ⟨A0, k0, rfl, m1, m2, _⟩ := hs
  obtain ⟨A, c, rfl, hm, hok, hp⟩ := h
  have HP := Lib.hid hp
  have HO := Lib.hid hok
  clear hp hok hm m2
  go_enter Try.func6, Try.ntmps6
  go_wp2_with fail
  refine (alive_any _).mono ?_
  rintro e w1 ⟨rfl, hb1⟩
  have hs1 := hb1.size
  go_wp2_with fail
  refine (read_any _ b0 w1 ((HSL.out.below hb1).more hs1)).mono ?_
  rintro e w4 ⟨rfl, hr4, hb4⟩
  have hw4 : Below w.heap.size w w4 := hb1.trans (hb4.mono hs1)
  have HR4 : Hid (Inv w4 w.heap.size w1.heap.size b0 0 (.slice none 0 0)) := ⟨b0, false, [], hr4, Sane.start _, hb, World.ownsRow_nil _ _ _ _, by simp, fun _ => rfl⟩
  clear hr4 hb1 hb4
  have hg := hs1
  generalize w1.heap.size = g at *
  go_wp2_with fail
  go_loopw [6, 23] (fun out i wr => ∃ (k : Nat), i = .int .i64 k ∧ k ≤ ps.length ∧ Hid (Inv wr w.heap.size g b0 k out) ∧ Below w.heap.size w wr) (fun _ i _ => ps.length - (intOf i).toNat)
  case atStart => exact ⟨0, rfl, by omega, HR4, hw4⟩
  case round =>
    obtain ⟨k, rfl, hk, hinv, hbw⟩ := hrel
    by_cases hlt : k < ps.length
    · obtain ⟨b, off, rfl, hB, hc⟩ := HP.out (by omega)
      obtain ⟨p, hpk⟩ : ∃ p, ps[k]? = some p := ⟨ps[k], List.getElem?_eq_getElem hlt⟩
      have hcell : ∀ j u, p.cells[j]? = some u → wr.cell? ⟨b, off + k * 6 + j, none⟩ = some u := fun j u hu => (hbw.cell (p := ⟨b, off + k * 6 + j, none⟩) hB).trans (hc k p hpk j u hu)
      have c0 : wr.cell? ⟨b, off + k * 6, none⟩ = some (.int .i64 p.kind) := hcell 0 _ rfl
      have c1 := hcell 1 _ rfl
      have c2 := hcell 2 _ rfl
      have c3 := hcell 3 _ rfl
      have c4 := hcell 4 _ rfl
      have c5 := hcell 5 _ rfl
      have hOk := HO.out p (List.mem_of_getElem? hpk)
      obtain ⟨bs, bad, ds, hr2, hsn, hbl, ho, hdl, h0⟩ := hinv.out
      have hgl := hr2.lt
      have HR := Lib.hid (fun o => rd_new hr2 o)
      have HN := Lib.hid hsn
      have HOW := Lib.hid ho
      have H0 := Lib.hid h0
      have hbl2 : bs.length ≤ 140737488355328 := by omega
      have hszw := hbw.size
      clear hc hcell hpk hr2 hsn ho h0 hinv
      by_cases hk0 : p.kind = 0
      · have q0 : (p.kind == 0) = true := by simp [hk0]
        clear hk0
        go_wp2_with fail
        refine (ruint_any g bs bad _ (HR.out _) HN.out hbl2).mono ?_
        rintro e v1 ⟨rfl, hl1⟩
        have ho1 := Lib.hid (own_grown (HOW.out.alloc _) (HR.out _) hl1.2)
        have hb1 : Below w.heap.size w v1 := below_of_grown (hbw.alloc hszw _) hl1.2 (by simp; omega) hg
        go_wp2_with fail
        refine (uint_any u6 ds _ v1 (ho1.out.sl) (nv_u64 bs) (by omega)).mono ?_
        rintro e v2 ⟨x2, rfl, ho2, hb2⟩
        have hlu := enc_u64 _ (nv_u64 bs)
        go_wp2_with fail
        go_roundw
        case rel => exact ⟨k + 1, by go_num, by omega, inv_step (hl1.1.below hb2 hl1.1.lt) (Sane.u bs) (Nat.le_trans (uB_len bs) hbl) (ho2.lower hb1.size) hdl (by omega) H0.out (fun hx => ⟨sane_u HN.out hx, one_u hx⟩), hb1.trans (hb2.mono hb1.size)⟩
        case measure => simp [intOf]; omega
      · have q0 : (p.kind == 0) = false := by simp; omega
        have HNN := Lib.hid hOk.n
        by_cases hk2 : p.kind = 2
        · have q2 : (p.kind == 2) = true := by simp [hk2]
          clear hk0 hk2
          go_wp2_with fail
          refine (rtext_any g p.n bs bad _ (HR.out _) HN.out hbl2 HNN.out.2).mono ?_
          rintro e v1 ⟨rfl, hl1⟩
          have ho1 := Lib.hid (own_grown (HOW.out.alloc _) (HR.out _) hl1.2)
          have hb1 : Below w.heap.size w v1 := below_of_grown (hbw.alloc hszw _) hl1.2 (by simp; omega) hg
          go_wp2_with fail
          have hlt2 := txV_len p.n bs
          have hlu := enc_u64 (txV p.n bs).length (by omega)
          refine (text_list u6 ds (txV p.n bs) v1 (ho1.out.sl) (by omega)).mono ?_
          rintro e v2 ⟨x2, rfl, ho2, hb2⟩
          go_wp2_with fail
          go_roundw
          case rel => exact ⟨k + 1, by go_num, by omega, inv_step (hl1.1.below hb2 hl1.1.lt) (Sane.tx p.n bs) (Nat.le_trans (txB_len p.n bs) hbl) (ho2.lower hb1.size) hdl (by rw [List.length_append]; omega) H0.out (fun hx => ⟨sane_tx HN.out hx, one_tx hx⟩), hb1.trans (hb2.mono hb1.size)⟩
          case measure => simp [intOf]; omega
        · have q2 : (p.kind == 2) = false := by simp; omega
          by_cases hk3 : p.kind = 3
          · have q3 : (p.kind == 3) = true := by simp [hk3]
            clear hk0 hk2 hk3
            go_wp2_with fail
            refine (rin_any g p.lo p.hi bs bad _ (HR.out _) HN.out hbl2).mono ?_
            rintro e v1 ⟨rfl, hl1⟩
            have ho1 := Lib.hid (own_grown (HOW.out.alloc _) (HR.out _) hl1.2)
            have hb1 : Below w.heap.size w v1 := below_of_grown (hbw.alloc hszw _) hl1.2 (by simp; omega) hg
            go_wp2_with fail
            have hiv := inV_lt (lo := p.lo) (hi := p.hi) (bs := bs)
            have hlu := enc_u64 _ (zig_lt hiv.1 hiv.2)
            refine (int_any u6 ds _ v1 (ho1.out.sl) hiv.1 hiv.2 (by omega)).mono ?_
            rintro e v2 ⟨x2, rfl, ho2, hb2⟩
            go_wp2_with fail
            go_roundw
            case rel => exact ⟨k + 1, by go_num, by omega, inv_step (hl1.1.below hb2 hl1.1.lt) (Sane.in p.lo p.hi bs) (Nat.le_trans (inB_len p.lo p.hi bs) hbl) (ho2.lower hb1.size) hdl (by omega) H0.out (fun hx => ⟨sane_in HN.out hx, one_in hx⟩), hb1.trans (hb2.mono hb1.size)⟩
            case measure => simp [intOf]; omega
          · have q3 : (p.kind == 3) = false := by simp; omega
            by_cases hk4 : p.kind = 4
            · have q4 : (p.kind == 4) = true := by simp [hk4]
              clear hk0 hk2 hk3 hk4
              have hRd1 := fun o : Obj => (HR.out o).drew
              have hRd2 := fun o : Obj => (rd_new (HR.out o) (.cells #[] 5)).drew
              have H1 := Lib.hid hRd1
              have H2 := Lib.hid hRd2
              have hE1 := fun o : Obj => own_empty wr o (wr.heap.size + 1) (Nat.le_refl _)
              have hS1 := fun o : Obj => (((HOW.out.alloc o).alloc (.cells #[] 5)).drew).sl
              have HE1 := Lib.hid hE1
              have HS1 := Lib.hid hS1
              have hlt2 := tkV_len bad p.n bs
              have hds : ds.length ≤ 200 * 16400 := by omega
              clear hRd1 hRd2 hE1 hS1
              go_wp2_with fail
              go_region_law (first
                | (refine step_append_sl rfl (.tmp 59) (.tmp 60) rfl (wr.heap.size + 1) _ [] (by simp [Act.eval]) (HE1.out _) (by simp) u6 _ ds (by simp [Act.eval]) (HS1.out _) (by simp; omega) ?_
                   intro vA wA hoA hbA
                   have hRA := Lib.hid ((H2.out _).below hbA (by omega))
                   have hsA := hbA.size
                   simp at hsA
                   have d2 : wA.cell? ⟨wr.heap.size, 2, none⟩ = some (.int .i64 p.n) := (hbA.cell (p := ⟨wr.heap.size, 2, none⟩) (by simp)).trans (by simp))
                | (refine step_append_sl rfl (.tmp 59) (.tmp 60) rfl (wr.heap.size + 1) _ [] (by simp [Act.eval]) hET.out (by omega) u6 _ ds (by simp [Act.eval]) hST.out (by simp; omega) ?_
                   intro vA wA hoA hbA
                   have hRA := Lib.hid (hlT.1.below hbA (by omega))
                   have hsA := hbA.size)
                | (refine step_append_sl rfl (.tmp 59) (.tmp 60) rfl (wr.heap.size + 1) _ [] (by simp [Act.eval]) (hEN.out) (by simp; omega) u6 _ ds (by simp [Act.eval]) (hSN.out) (by simp; omega) ?_
                   intro vA wA hoA hbA
                   have hRA := Lib.hid ((rd_new hlT.1 _).below hbA (by omega))
                   have hsA := hbA.size
                   simp at hsA)
                | (refine step_append_text rfl (.tmp 61) (.tmp 65) rfl (wr.heap.size + 1) vA ([] ++ ds) (by simp [Act.eval]) (by first | exact hoT.out | exact hoA) (by omega) (tkV bad p.n bs) (by simp [Act.eval]) (by simp; omega) ?_
                   intro v2 w2 ho2 hb2)
                | (go_simp
                   go_at_call 25
                   first
                     | (refine (rtake_any g p.n bs bad _ hRA.out HN.out hbl2).mono ?_
                        rintro e wT ⟨rfl, hlT⟩
                        have hoT := Lib.hid (own_grown hoA hRA.out hlT.2)
                        have hsT := hlT.2.size)
                     | (refine (rtake_any g p.n bs bad _ (H1.out _) HN.out hbl2).mono ?_
                        rintro e wT ⟨rfl, hlT⟩
                        have hsT := hlT.2.size
                        simp at hsT
                        have hEN := Lib.hid (own_new wT (wr.heap.size + 1) (by omega))
                        have hSN := Lib.hid (((own_grown (HOW.out.alloc _).drew (H1.out _) hlT.2).alloc (.cells #[] 5)).sl))
                     | (refine (rtake_any g p.n bs bad _ (H2.out _) HN.out hbl2).mono ?_
                        rintro e wT ⟨rfl, hlT⟩
                        have hsT := hlT.2.size
                        simp at hsT
                        have hET := Lib.hid (own_grown (HE1.out _) (H2.out _) hlT.2)
                        have hST := Lib.hid ((own_grown (((HOW.out.alloc _).alloc (.cells #[] 5)).drew) (H2.out _) hlT.2).sl))))
              all_goals
                have hrd : Rd w2 g (tkB bad p.n bs) (tkX bad p.n bs) := by
                  first
                    | exact hlT.1.below hb2 (by omega)
                    | exact (hlT.1.below hbA (by omega)).below hb2 (by omega)
                    | exact ((rd_new hlT.1 _).below hbA (by omega)).below hb2 (by omega)
                have hbel : Below w.heap.size w w2 := by
                  first
                    | exact (below_of_grown ((((hbw.alloc hszw _).alloc (by simp; omega) _).drew).trans (hbA.mono (by omega))) hlT.2 (by omega) hg).trans (hb2.mono (by omega))
                    | exact ((below_of_grown (((hbw.alloc hszw _).alloc (by simp; omega) _).drew) hlT.2 (by simp; omega) hg).trans (hbA.mono (by omega))).trans (hb2.mono (by omega))
                    | exact (((below_of_grown ((hbw.alloc hszw _).drew) hlT.2 (by simp; omega) hg).alloc (by omega) _).trans (hbA.mono (by omega))).trans (hb2.mono (by omega))
                go_wp2_with fail
                go_roundw
                case rel => exact ⟨k + 1, by go_num, by omega, inv_step hrd (Sane.tk bad p.n bs) (Nat.le_trans (tkB_len bad p.n bs) hbl) (by simpa using ho2.lower (by omega)) hdl (by omega) H0.out (fun hx => ⟨sane_tk hx, one_tk hx⟩), hbel⟩
                case measure => simp [intOf]; omega
            · have q4 : (p.kind == 4) = false := by simp; omega
              clear hk0 hk2 hk3 hk4
              go_wp2_with fail
              refine (rint_any g bs bad _ (HR.out _) HN.out hbl2).mono ?_
              rintro e v1 ⟨rfl, hl1⟩
              have ho1 := Lib.hid (own_grown (HOW.out.alloc _) (HR.out _) hl1.2)
              have hb1 : Below w.heap.size w v1 := below_of_grown (hbw.alloc hszw _) hl1.2 (by simp; omega) hg
              go_wp2_with fail
              have hiv := zag_lt (nv_u64 bs)
              have hlu := enc_u64 _ (zig_lt hiv.1 hiv.2)
              refine (int_any u6 ds _ v1 (ho1.out.sl) hiv.1 hiv.2 (by omega)).mono ?_
              rintro e v2 ⟨x2, rfl, ho2, hb2⟩
              go_wp2_with fail
              go_roundw
              case rel => exact ⟨k + 1, by go_num, by omega, inv_step (hl1.1.below hb2 hl1.1.lt) (Sane.u bs) (Nat.le_trans (uB_len bs) hbl) (ho2.lower hb1.size) hdl (by omega) H0.out (fun hx => ⟨sane_u HN.out hx, one_int hx⟩), hb1.trans (hb2.mono hb1.size)⟩
              case measure => simp [intOf]; omega
    · have hkl : k = ps.length := by omega
      obtain ⟨bs, bad, ds, hr2, hsn, hbl, ho, hdl, h0⟩ := hinv.out
      have HR := Lib.hid hr2
      have H0 := Lib.hid h0
      have t1 := run_text_of wr _ u6 ds ho.sl
      have t2 := run_text_of wr _ _ b0 (HSL.out.below hbw)
      have he := end_any g bs bad wr hr2
      have HE := Lib.hid he
      clear hkl hr2 h0 he hinv ho
      by_cases hx : bad = false ∧ bs = []
      · obtain ⟨rfl, rfl⟩ := hx
        have hds : ds = b0 := by have := H0.out rfl; simpa using this
        subst hds
        go_wp2_with (go_at_call 29; refine HE.out.mono ?_; rintro e v1 ⟨rfl, rfl⟩)
        go_ret
        exact ⟨rfl, hbw⟩
      · have hfin : (!bad && bs.isEmpty) = false := by
          cases bad
          · simp at hx ⊢
            exact hx
          · rfl
        have HF := Lib.hid hfin
        clear hfin hx
        go_wp2_with fail
        refine HE.out.mono ?_
        rintro e v1 ⟨rfl, rfl⟩
        rw [HF.out]
        go_wp2_with fail
        go_ret
        exact ⟨rfl, hbw⟩

theorem walk (v0 : Value) (b0 : List UInt8) (v1 : Value) (ps : List Prt) (w : World) (w0 : Sl w w.heap.size v0 b0) (w1 : Parts w w.heap.size v1 ps ∧ ∀ p ∈ ps, p.s.length ≤ 140737488351232) :
    Calls Try.prog 6 #[v0, v1] w (Gives (.bool true) w) := by
  by_cases h1 : 16384 < b0.length
  · exact much v0 v1 b0 ps w w0 w1.1 (.inl h1)
  · by_cases h2 : 200 < ps.length
    · exact much v0 v1 b0 ps w w0 w1.1 (.inr ⟨h1, h2⟩)
    · exact main v0 v1 b0 ps w w0 w1.1 (by omega) (by omega)

end Go.Proofs.Ytcfcjknppeeadaa.CodeOne
