/-
  The list of what waits: elements that are taken out. Conditions: none.
-/
import Derived.Test.YtbepanhndpkdhaaPutD
namespace Go.Proofs.Ytbepanhndpkdhaa.Cd
open Go.RowKit

/-- Is a write one of a file's, from a page on? -/
def hitP (file m : Nat) (x : Pw) : Bool := decide (x.file = file ∧ m ≤ x.spot)

/-- A captured number. -/
def Capt (w : World) (a : Addr) (n : Nat) : Prop := w.cell? a = some (.int .i64 n) ∧ a.block < w.heap.size

set_option maxRecDepth 100000 in
set_option maxHeartbeats 1600000 in
theorem hit_any (x : Pw) (file m : Nat) (a1 a2 : Addr) (w : World) (hx : x.data.length = 512) (h1 : Capt w a1 file) (h2 : Capt w a2 m) :
    Calls Try.prog 79 #[.agg (wv x.file x.spot x.data), .pointer (some a1), .pointer (some a2)] w (Says (.bool (hitP file m x)) w) := by
  obtain ⟨f, i, p⟩ := x
  have hx : p.length = 512 := hx
  show Calls _ _ #[.agg (wv f i p), _, _] _ _
  have k1 : ∀ o : Obj, (w.alloc o).cell? a1 = some (.int .i64 file) := fun o => (World.cell?_alloc_lt _ _ _ h1.2).trans h1.1
  have k2 : ∀ o : Obj, (w.alloc o).cell? a2 = some (.int .i64 m) := fun o => (World.cell?_alloc_lt _ _ _ h2.2).trans h2.1
  obtain ⟨C, hC⟩ : ∃ C, wv f i p = C := ⟨_, rfl⟩
  rw [hC]
  have hsz : C.size = 514 := by rw [← hC]; exact wv_size f i hx
  have e0 : C[0] = .int .i64 f := by subst hC; rfl
  have e1 : C[1] = .int .i64 i := by subst hC; rfl
  clear hC h1 h2
  by_cases hq : f = file
  · have hq1 : ((f : Int) == (file : Int)) = true := by simp [hq]
    by_cases hm : m ≤ i
    · have hm1 : (m : Int) ≤ i := by omega
      have hr : hitP file m ⟨f, i, p⟩ = true := by unfold hitP; exact decide_eq_true ⟨hq, hm⟩
      rw [hr]
      clear hq hr
      go_enter Try.func79, Try.ntmps79
      go_wp2_with fail
      go_ret
      exact ⟨by first | rfl | simp [hm1], (Below.refl _ _).alloc (Nat.le_refl _) _⟩
    · have hm1 : (i : Int) < m := by omega
      have hr : hitP file m ⟨f, i, p⟩ = false := by unfold hitP; exact decide_eq_false (fun e => hm e.2)
      rw [hr]
      clear hq hr
      go_enter Try.func79, Try.ntmps79
      go_wp2_with fail
      go_ret
      exact ⟨by first | rfl | (simp; omega), (Below.refl _ _).alloc (Nat.le_refl _) _⟩
  · have hq1 : ((f : Int) == (file : Int)) = false := by simp; omega
    have hr : hitP file m ⟨f, i, p⟩ = false := by unfold hitP; exact decide_eq_false (fun e => hq e.1)
    rw [hr]
    clear hq hr
    go_enter Try.func79, Try.ntmps79
    go_wp2_with fail
    go_ret
    exact ⟨rfl, (Below.refl _ _).alloc (Nat.le_refl _) _⟩

/-! ### The row -/

theorem wcs_cons (x : Pw) (r : List Pw) : wcs (x :: r) = (wv x.file x.spot x.data).toList ++ wcs r := rfl
theorem wcs_len {l : List Pw} (h : ∀ x ∈ l, x.data.length = 512) : (wcs l).length = l.length * 514 := by
  induction l with
  | nil => rfl
  | cons x r ih =>
    rw [wcs_cons, List.length_append, Array.length_toList, wv_size _ _ (h x (by simp)), ih (fun y hy => h y (by simp [hy])), List.length_cons]
    omega
theorem wcs_at {l : List Pw} (h : ∀ x ∈ l, x.data.length = 512) : ∀ (k : Nat) (hk : k < l.length) (o : Nat), o < 514 → (wcs l)[k * 514 + o]? = (wv l[k].file l[k].spot l[k].data)[o]? := by
  induction l with
  | nil => intro k hk; simp at hk
  | cons x r ih =>
    intro k hk o ho
    have hs := wv_size x.file x.spot (h x (by simp))
    rw [wcs_cons]
    cases k with
    | zero =>
      rw [List.getElem?_append_left (by rw [Array.length_toList]; omega), Nat.zero_mul, Nat.zero_add]
      simp
    | succ k =>
      rw [List.getElem?_append_right (by rw [Array.length_toList]; omega), Array.length_toList, hs, show (k + 1) * 514 + o - 514 = k * 514 + o by omega]
      rw [ih (fun y hy => h y (by simp [hy])) k (by simpa using hk) o ho]
      rfl

/-- The k-th write lies where it should. -/
def AtRow (w : World) (b k : Nat) (x : Pw) : Prop := w.rangeAt b (k * 514) (wv x.file x.spot x.data).toList
theorem row_at {w : World} {b n cap : Nat} {l : List Pw} (h : w.ownsRow 0 107 514 (.slice (some ⟨b, 0, none⟩) n cap) n (wcs l)) (hl : ∀ x ∈ l, x.data.length = 512) (_hn : n = l.length) : ∀ (k : Nat) (hk : k < l.length), AtRow w b k l[k] := by
  intro k hk o v hv
  have ho : o < 514 := by
    have := (List.getElem?_eq_some_iff.1 hv).1
    rwa [Array.length_toList, wv_size _ _ (hl _ (List.getElem_mem hk))] at this
  have hc := h.cells (g := b) rfl
  have := hc (k * 514 + o) v (by rw [wcs_at hl k hk o ho]; simpa using hv)
  rw [Addr.add_lit, Nat.zero_add] at this
  exact this

/-- What IndexFunc answers. -/
def firstP (pd : Pw → Bool) : List Pw → Nat → Int
  | [], _ => -1
  | x :: r, k => if pd x = true then (k : Int) else firstP pd r (k + 1)
theorem firstP_from (pd : Pw → Bool) : ∀ (l : List Pw) (k : Nat), (firstP pd l k = -1 ∧ ∀ x ∈ l, pd x = false) ∨ ∃ j, ∃ hj : j < l.length, firstP pd l k = ((k + j : Nat) : Int) ∧ pd l[j] = true ∧ ∀ x ∈ l.take j, pd x = false := by
  intro l
  induction l with
  | nil => intro k; exact .inl ⟨rfl, fun x hx => by simp at hx⟩
  | cons x r ih =>
    intro k
    rw [firstP]
    by_cases hx : pd x = true
    · rw [if_pos hx]
      exact .inr ⟨0, by simp, by simp, by simpa using hx, fun y hy => by simp at hy⟩
    · rw [if_neg hx]
      rcases ih (k + 1) with ⟨h1, h2⟩ | ⟨j, hj, h1, h2, h3⟩
      · exact .inl ⟨h1, fun y hy => by rcases List.mem_cons.1 hy with rfl | hy; simpa using hx; exact h2 y hy⟩
      · refine .inr ⟨j + 1, by simpa using hj, by rw [h1]; congr 1; omega, by simpa using h2, fun y hy => ?_⟩
        rw [List.take_succ_cons] at hy
        rcases List.mem_cons.1 hy with rfl | hy
        · simpa using hx
        · exact h3 y hy

set_option maxRecDepth 100000 in
set_option maxHeartbeats 1600000 in
theorem index_any (b cap file m : Nat) (l : List Pw) (a1 a2 : Addr) (w : World) (h : w.ownsRow 0 107 514 (.slice (some ⟨b, 0, none⟩) l.length cap) l.length (wcs l)) (hl : ∀ x ∈ l, x.data.length = 512) (hlen : l.length ≤ 137438953472) (h1 : Capt w a1 file) (h2 : Capt w a2 m) :
    Calls Try.prog 84 #[.slice (some ⟨b, 0, none⟩) l.length cap, .func (.func 79) #[] #[.pointer (some a1), .pointer (some a2)]] w
      (Says (.int .i64 (firstP (hitP file m) l 0)) w) := by
  have hbl := (World.ownsRow.lt h b rfl).2
  have HAT := Lib.hid (row_at h hl rfl)
  have HL := Lib.hid hl
  have K1 := Lib.hid h1
  have K2 := Lib.hid h2
  clear h hl h1 h2
  go_enter Try.func84, Try.ntmps84
  go_wp2_with fail
  go_loopw [8] (fun i wr => ∃ k : Nat, i = .int .i64 k ∧ k ≤ l.length ∧ Hid (firstP (hitP file m) l 0 = firstP (hitP file m) (l.drop k) k) ∧ Hid (Below w.heap.size w wr)) (fun i _ => l.length - (intOf i).toNat)
  case atStart => exact ⟨0, rfl, Nat.zero_le _, rfl, Below.refl _ _⟩
  case round =>
    obtain ⟨k, rfl, hk, hf, hb⟩ := hrel
    by_cases hlt : k < l.length
    · have hlt2 : (k : Int) < l.length := by omega
      have hra : Hid (wr.rangeAt b (k * 514) (wv l[k].file l[k].spot l[k].data).toList) := fun o v hv => (hb.out.cell (p := ⟨b, k * 514 + o, none⟩) hbl).trans (HAT.out k hlt o v hv)
      have hlk := HL.out _ (List.getElem_mem hlt)
      have hd : l.drop k = l[k] :: l.drop (k + 1) := List.drop_eq_getElem_cons hlt
      rw [hd] at hf
      have kk1 : Capt wr a1 file := ⟨(hb.out.cell K1.out.2).trans K1.out.1, Nat.lt_of_lt_of_le K1.out.2 hb.out.size⟩
      have kk2 : Capt wr a2 m := ⟨(hb.out.cell K2.out.2).trans K2.out.1, Nat.lt_of_lt_of_le K2.out.2 hb.out.size⟩
      have hcall := Lib.hid (hit_any l[k] file m a1 a2 wr hlk kk1 kk2)
      clear hd kk1 kk2
      generalize l[k] = x at *
      have hsz := wv_size x.file x.spot hlk
      have hsl : (wv x.file x.spot x.data).toList.length = 514 := by simpa using hsz
      cases hp : hitP file m x
      · have hf2 : Hid (firstP (hitP file m) l 0 = firstP (hitP file m) (l.drop (k + 1)) (k + 1)) := by
          have := hf.out
          rw [firstP, if_neg (by rw [hp]; simp)] at this
          exact this
        rw [hp] at hcall
        clear hf
        go_wp2_with (first | (refine wpList_load_mid rfl 107 _ rfl b (k * 514) (by simp [Act.eval]) _ _ hra.out Try.underlying107 rfl (by rw [hsl]; kernel_rfl) ?_) | fail)
        refine hcall.out.mono ?_
        rintro e w2 ⟨rfl, hb2⟩
        have HB2 := Lib.hid (hb.out.trans (hb2.mono hb.out.size))
        clear hb2 hcall
        go_wp2_with fail
        go_roundw
        case rel => exact ⟨k + 1, by go_num, by omega, hf2.out, HB2.out⟩
        case measure => simp [intOf]; omega
      · have hf2 : Hid (firstP (hitP file m) l 0 = (k : Int)) := by
          have := hf.out
          rw [firstP, if_pos hp] at this
          exact this
        rw [hp] at hcall
        clear hf
        go_wp2_with (first | (refine wpList_load_mid rfl 107 _ rfl b (k * 514) (by simp [Act.eval]) _ _ hra.out Try.underlying107 rfl (by rw [hsl]; kernel_rfl) ?_) | fail)
        refine hcall.out.mono ?_
        rintro e w2 ⟨rfl, hb2⟩
        have HB2 := Lib.hid (hb.out.trans (hb2.mono hb.out.size))
        clear hb2 hcall
        go_wp2_with fail
        go_ret
        exact ⟨by rw [hf2.out]; rfl, HB2.out⟩
    · have hkl : k = l.length := by omega
      have hf2 : Hid (firstP (hitP file m) l 0 = -1) := by
        have := hf.out
        rw [hkl, List.drop_of_length_le (Nat.le_refl _)] at this
        exact this
      clear hf
      go_wp2_with fail
      go_ret
      exact ⟨by rw [hf2.out]; rfl, hb.out⟩

end Go.Proofs.Ytbepanhndpkdhaa.Cd
