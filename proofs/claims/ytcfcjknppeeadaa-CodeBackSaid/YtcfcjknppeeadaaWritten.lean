/-
  written: what writing parts makes, and what the document says of it. Conditions: the parts are not great.
-/
import Derived.Test.YtcfcjknppeeadaaParts
import Derived.Test.YtcfcjknppeeadaaRefWriters
import Derived.Test.YtcfcjknppeeadaaMathC
import Derived.Test.YtcfcjknppeeadaaConv
import Derived.Deep.RegionLaw
import Derived.RegionTactic
import Derived.BigRegion
namespace Go.Proofs.Ytcfcjknppeeadaa.Cd
open Go.RowKit

/-- What a part is written as. -/
def encP (p : Prt) : List UInt8 :=
  if p.kind = 0 then enc p.u else if p.kind = 2 then enc p.s.length ++ p.s else if p.kind = 4 then p.s else enc (zig p.n)
def cat : List Prt → List UInt8
  | [] => []
  | p :: r => encP p ++ cat r
theorem cat_append (a b : List Prt) : cat (a ++ b) = cat a ++ cat b := by
  induction a with
  | nil => simp [cat]
  | cons p r ih => simp [cat, ih]
theorem cat_snoc (l : List Prt) (k : Nat) (p : Prt) (h : l[k]? = some p) : cat (l.take (k + 1)) = cat (l.take k) ++ encP p := by
  obtain ⟨hk, rfl⟩ := List.getElem?_eq_some_iff.1 h
  rw [List.take_succ_eq_append_getElem hk, cat_append]
  simp [cat]

theorem encP_len {p : Prt} (hp : p.Ok) (hs : p.s.length ≤ 140737488355328) : (encP p).length ≤ p.s.length + 10 := by
  have h1 := enc_u64 p.u hp.u
  have h2 := enc_u64 p.s.length (by omega)
  have h3 := enc_u64 (zig p.n) (zig_lt hp.n.1 hp.n.2)
  unfold encP
  split
  · omega
  · split
    · rw [List.length_append]; omega
    · split <;> omega

theorem cat_len (l : List Prt) (h : ∀ p ∈ l, p.Ok) (hs : ∀ p ∈ l, p.s.length ≤ 140737488355328) : (cat l).length ≤ total l + 10 * l.length := by
  induction l with
  | nil => simp [cat]
  | cons p r ih =>
    have h1 := encP_len (h p (by simp)) (hs p (by simp))
    have h2 := ih (fun q hq => h q (by simp [hq])) (fun q hq => hs q (by simp [hq]))
    simp only [cat, total, List.length_append, List.length_cons]
    omega

theorem Own.alloc {w : World} {B : Nat} {v : Value} {bs : List UInt8} (h : Own w B v bs) (o : Obj) : Own (w.alloc o) B v bs := World.ownsRow.alloc h o
theorem Own.drew {w : World} {B : Nat} {v : Value} {bs : List UInt8} (h : Own w B v bs) : Own w.drew B v bs := h

theorem Own.keep {w w' : World} {B : Nat} {v : Value} {bs : List UInt8} (h : Own w B v bs) (hb : Below w.heap.size w w') : Own w' B v bs := by
  have hlt := h.lt
  refine ⟨h.1, ?_⟩
  rcases h.2 with h2 | ⟨g, cap, cur, rfl, hg, hh, r⟩
  · exact .inl h2
  · exact .inr ⟨g, cap, cur, rfl, hg, (hb.block g (hlt g rfl).2).trans hh, r⟩

theorem hO_sl {w : World} {B : Nat} {v : Value} {bs : List UInt8} (h : Own w B v bs) (o : Obj) : Sl (w.alloc o) (w.heap.size + 1) v bs := by
  have h2 := (h.alloc o).sl
  rwa [show (w.alloc o).heap.size = w.heap.size + 1 by simp] at h2

/-- append(own, b...), b whatever slice of bytes. -/
theorem run_append_sl (w : World) (B : Nat) (v : Value) (bs : List UInt8) (ho : Own w B v bs) (hB : B ≤ w.heap.size) (x : Value) (B' : Nat) (ns : List UInt8) (hx : Sl w B' x ns)
    (hm : bs.length + ns.length ≤ 140737488355328) (ty : TypeId) :
    ∃ v' w', (Builtin.append_ #[26, 26] ty #[v, x]).run Try.prog w = .ok v' w' ∧ Own w' B v' (bs ++ ns) ∧ Below B w w' := by
  obtain ⟨i0, hi, hz0, hz1, hz2⟩ := info_parts info5
  have hmax : bs.length + ns.length ≤ maxLen := by simp only [maxLen]; omega
  obtain ⟨A, c, rfl, _, _, h4, _, h6⟩ := hx
  cases A with
  | some ad =>
    obtain ⟨v', w', hr, h2, h3, _⟩ := run_append_own (P := Try.prog) w B 26 ty 5 i0 _ 1 1 Try.underlying26 hi hz0 hz1 hz2 rfl (by omega) v bs.length (vb bs) ho ad ns.length c (vb ns) (by simp [vb]) (h6 ad rfl) (vb_one ns) hmax (by omega) hB
    refine ⟨v', w', hr, ?_, (Below.refl _ _).grown h3 hB (fun k hk => (ho.lt k hk).1)⟩
    unfold Own
    rw [vb_append, List.length_append]
    exact h2
  | none =>
    have hc := h4 rfl
    subst hc
    have : ns = [] := List.eq_nil_of_length_eq_zero (by omega)
    subst this
    refine ⟨v, w, ?_, by simpa using ho, Below.refl _ _⟩
    rcases ho.2 with ⟨rfl, h0⟩ | ⟨g, cap, cur, rfl, _, _, hnc, _⟩
    · simp [Builtin.append_, run_underlying Try.underlying26, sizeOf, typeInfo, hi, Builtin.lenOf, Builtin.firstCells]
    · simp [Builtin.append_, run_underlying Try.underlying26, sizeOf, typeInfo, hi, Builtin.lenOf, Builtin.firstCells, hnc, storeCells]

theorem step_append_sl {w : World} {ops : Array Oper} {o : Oper} {a : Act} {K : Act → World → Prop} {Q : Exit → Act → World → Prop} {E : Prop} (hgd : o.guard = none) (s x : Operand)
    (hop : o.op = .call { callee := .builtin .append, args := #[s, x], argTypes := #[26, 26] })
    (B : Nat) (v : Value) (bs : List UInt8) (hs : a.eval s = v) (ho : Own w B v bs) (hB : B ≤ w.heap.size) (y : Value) (B' : Nat) (ns : List UInt8) (hx : a.eval x = y) (hy : Sl w B' y ns)
    (hm : bs.length + ns.length ≤ 140737488355328)
    (h : ∀ v' w', Own w' B v' (bs ++ ns) → Below B w w' → K (a.put o.dst v') w') : if Region.wanted o (yielded ops a.tmps) = true then Oper.wp Try.prog o a w K Q else E := by
  have hw : Region.wanted o (yielded ops a.tmps) = true := by simp [Region.wanted, hgd]
  rw [if_pos hw]
  obtain ⟨v', w', hrun, r1, r2⟩ := run_append_sl w B v bs ho hB y B' ns hy hm o.type
  unfold Oper.wp
  simp [execOp, hop, resolve, invoke, builtin, hs, hx, hrun, Result.andThen]
  exact h v' w' r1 r2

theorem step_append_text {w : World} {ops : Array Oper} {o : Oper} {a : Act} {K : Act → World → Prop} {Q : Exit → Act → World → Prop} {E : Prop} (hgd : o.guard = none) (s x : Operand)
    (hop : o.op = .call { callee := .builtin .append, args := #[s, x], argTypes := #[26, 9] })
    (B : Nat) (v : Value) (bs : List UInt8) (hs : a.eval s = v) (ho : Own w B v bs) (hB : B ≤ w.heap.size) (t : List UInt8) (hx : a.eval x = .string ⟨t.toArray⟩)
    (hm : bs.length + t.length ≤ 140737488355328)
    (h : ∀ v' w', Own w' B v' (bs ++ t) → Below B w w' → K (a.put o.dst v') w') : if Region.wanted o (yielded ops a.tmps) = true then Oper.wp Try.prog o a w K Q else E := by
  have hw : Region.wanted o (yielded ops a.tmps) = true := by simp [Region.wanted, hgd]
  rw [if_pos hw]
  obtain ⟨i0, hi, hz0, hz1, hz2⟩ := info_parts info5
  have hmax : bs.length + t.length ≤ maxLen := by simp only [maxLen]; omega
  obtain ⟨v', w', hrun, r1, r2⟩ := Lib.run_append_own_string (P := Try.prog) w B 26 9 o.type 5 i0 Try.underlying26 Try.underlying9 hi hz0 hz1 hz2 v bs.length (vb bs) ho ⟨t.toArray⟩ hmax (by have : (ByteArray.mk t.toArray).size = t.length := rfl; omega) hB
  unfold Oper.wp
  simp [execOp, hop, resolve, invoke, builtin, hs, hx, hrun, Result.andThen]
  refine h v' w' ?_ ((Below.refl _ _).grown r2.1 hB (fun k hk => (ho.lt k hk).1))
  unfold Own
  rw [vb_append, List.length_append]
  exact r1

theorem own_empty (wr : World) (o : Obj) (B : Nat) (hB : B ≤ wr.heap.size + 1) : Own (((wr.alloc o).alloc (.cells #[] 5)).drew) B (.slice (some ⟨wr.heap.size + 1, 0, none⟩) 0 0) [] := by
  have h := World.ownsRow_made (base := B) (e := 5) (size := 1) (wr.alloc o) #[] 0 (by simp; omega) (by simp) rfl
  rw [show (wr.alloc o).heap.size = wr.heap.size + 1 by simp] at h
  exact h

theorem text_list (v : Value) (bs s : List UInt8) (w : World) (hs : Sl w w.heap.size v bs) (hb : bs.length + 10 + s.length ≤ 140737488355328) :
    Calls Try.prog 31 #[v, .string ⟨s.toArray⟩] w (Wrote w (bs ++ (enc s.length ++ s))) := text_any v bs ⟨s.toArray⟩ w hs hb
theorem ref_text_list (s : List UInt8) (w : World) (hb : s.length ≤ 140737488355328) :
    Calls Try.prog 33 #[.string ⟨s.toArray⟩] w (Said w (enc s.length ++ s)) := ref_text_any ⟨s.toArray⟩ w hb

/-- What written answers. -/
def WrittenIs (w : World) (bs : List UInt8) (e : Ending) (w' : World) : Prop :=
  ∃ v, e = .returned (.tuple #[v, .string ⟨bs.toArray⟩]) ∧ Own w' w.heap.size v bs ∧ Below w.heap.size w w'

/-- The part that a round has laid in a block of its own. -/
def Cells (w : World) (g : Nat) (p : Prt) : Prop := ∀ j u, p.cells[j]? = some u → w.cell? ⟨g, j, none⟩ = some u

theorem Cells.below {w w' : World} {B g : Nat} {p : Prt} (h : Cells w g p) (hb : Below B w w') (hg : g < B) : Cells w' g p := fun j u hu => (hb.cell (p := ⟨g, j, none⟩) hg).trans (h j u hu)
theorem Cells.new (w : World) (p : Prt) (xs : Array Value) (hx : xs = p.cells.toArray) (t : TypeId) : Cells (w.alloc (.cells xs t)) w.heap.size p := by
  subst hx
  intro j u hu
  have := cell_of_row (w.alloc (.cells p.cells.toArray t)) w.heap.size j p.cells.toArray t (0, 0) (heap_alloc_new w _)
  rw [this]
  simpa using hu

set_option maxRecDepth 100000 in
set_option maxHeartbeats 1000000 in
theorem written_any (v : Value) (ps : List Prt) (w : World) (h : Parts w w.heap.size v ps) (hS0 : ∀ p ∈ ps, p.s.length ≤ 140737488355328) (hbig : big ps = false) :
    Calls Try.prog 12 #[v] w (WrittenIs w (cat ps)) := by
  obtain ⟨A, c, rfl, hm, hok, hp⟩ := h
  have hT : total ps ≤ 16384 ∧ ps.length ≤ 200 := by
    unfold big at hbig
    simp at hbig
    omega
  have hcl : Hid (∀ k, (cat (ps.take k)).length ≤ 16384 + 2000) := fun k => by
    have h1 := cat_len (ps.take k) (fun q hq => hok q (List.mem_of_mem_take hq)) (fun q hq => hS0 q (List.mem_of_mem_take hq))
    have h2 := total_le ps k
    have h3 : (ps.take k).length ≤ 200 := by rw [List.length_take]; omega
    omega
  have HP := Lib.hid hp
  have HO := Lib.hid hok
  have hS := Lib.hid hS0
  clear hp hok hS0 hbig hm
  go_enter Try.func12, Try.ntmps12
  go_wp2
  go_loopw [4, 5, 10] (fun b s i wr => ∃ (k : Nat), i = .int .i64 k ∧ k ≤ ps.length ∧ s = .string ⟨(cat (ps.take k)).toArray⟩ ∧ Own wr w.heap.size b (cat (ps.take k)) ∧ Below w.heap.size w wr) (fun _ _ i _ => ps.length - (intOf i).toNat)
  case atStart => exact ⟨0, rfl, by omega, rfl, World.ownsRow_nil _ _ _ _, Below.refl _ _⟩
  case round =>
    obtain ⟨k, rfl, hk, rfl, ho, hb⟩ := hrel
    by_cases hlt : k < ps.length
    · obtain ⟨b, off, rfl, hB, hc⟩ := HP.out (by omega)
      obtain ⟨p, hpk⟩ : ∃ p, ps[k]? = some p := ⟨ps[k], List.getElem?_eq_getElem hlt⟩
      have hcell : ∀ j u, p.cells[j]? = some u → wr.cell? ⟨b, off + k * 6 + j, none⟩ = some u := fun j u hu => (hb.cell (p := ⟨b, off + k * 6 + j, none⟩) hB).trans (hc k p hpk j u hu)
      have c0 : wr.cell? ⟨b, off + k * 6, none⟩ = some (.int .i64 p.kind) := hcell 0 _ rfl
      have c1 := hcell 1 _ rfl
      have c2 := hcell 2 _ rfl
      have c3 := hcell 3 _ rfl
      have c4 := hcell 4 _ rfl
      have c5 := hcell 5 _ rfl
      have hOk := HO.out p (List.mem_of_getElem? hpk)
      have hs47 : p.s.length ≤ 140737488355328 := hS.out p (List.mem_of_getElem? hpk)
      have hl1 := hcl.out k
      have HSN : Hid (cat (ps.take (k + 1)) = cat (ps.take k) ++ encP p) := cat_snoc ps k p hpk
      have hl2 := hcl.out (k + 1)
      rw [HSN.out, List.length_append] at hl2
      generalize cat (ps.take k) = done at ho hl1 hl2 HSN ⊢
      have hsz := hb.size
      clear hc hcell hpk
      by_cases h0 : p.kind = 0
      · have q0 : (p.kind == 0) = true := by simp [h0]
        have he : Hid (encP p = enc p.u) := if_pos h0
        have hadd := fun W => add_text W done (enc p.u) (by have := he.out; rw [this] at hl2; omega)
        have hu := hOk.u
        clear h0
        go_wp2_with fail
        refine (uint_any u4 done p.u _ ((hO_sl ho _).more (by simp)) hu (by omega)).mono ?_
        rintro e w1 ⟨v1, rfl, ho1, hb1⟩
        have hn1 := (Cells.new wr p _ rfl 39).below hb1 (by simp)
        have d1 := hn1 1 _ rfl
        clear hn1
        go_wp2_with fail
        refine (ref_uint_any p.u w1 hu).mono ?_
        rintro e w2 ⟨rfl, hb2⟩
        go_wp2_with fail
        go_roundw
        case rel => exact ⟨k + 1, by go_num, by omega, by rw [HSN.out, he.out], by rw [HSN.out, he.out]; exact (ho1.lower (by simp; omega)).keep hb2, ((hb.alloc hsz _).trans (hb1.mono (by simp; omega))).trans (hb2.mono (by have := hb1.size; simp at this; omega))⟩
        case measure => simp [intOf]; omega
      · by_cases h2 : p.kind = 2
        · have q0 : (p.kind == 0) = false := by simp; omega
          have q2 : (p.kind == 2) = true := by simp [h2]
          have he : Hid (encP p = enc p.s.length ++ p.s) := by unfold Hid encP; rw [if_neg h0, if_pos h2]
          have hel := he.out
          rw [hel] at hl2
          have hadd := fun W => add_text W done (enc p.s.length ++ p.s) (by omega)
          rw [List.length_append] at hl2
          clear h0 h2 hel
          go_wp2_with fail
          refine (text_list u4 done p.s _ ((hO_sl ho _).more (by simp)) (by omega)).mono ?_
          rintro e w1 ⟨v1, rfl, ho1, hb1⟩
          have hn1 := (Cells.new wr p _ rfl 39).below hb1 (by simp)
          have d1 := hn1 3 _ rfl
          clear hn1
          go_wp2_with fail
          refine (ref_text_list p.s w1 (by omega)).mono ?_
          rintro e w2 ⟨rfl, hb2⟩
          go_wp2_with fail
          go_roundw
          case rel => exact ⟨k + 1, by go_num, by omega, by rw [HSN.out, he.out], by rw [HSN.out, he.out]; exact (ho1.lower (by simp; omega)).keep hb2, ((hb.alloc hsz _).trans (hb1.mono (by simp; omega))).trans (hb2.mono (by have := hb1.size; simp at this; omega))⟩
          case measure => simp [intOf]; omega
        · by_cases h4 : p.kind = 4
          · have q0 : (p.kind == 0) = false := by simp; omega
            have q2 : (p.kind == 2) = false := by simp; omega
            have q4 : (p.kind == 4) = true := by simp [h4]
            have he : Hid (encP p = p.s) := by unfold Hid encP; rw [if_neg h0, if_neg h2, if_pos h4]
            have hel := he.out
            rw [hel] at hl2
            have hadd := fun W => add_text W done p.s (by omega)
            clear h0 h2 h4 hel
            go_wp2_with fail
            have hsl := fun o : Obj => ((hO_sl ho o).below (Below.refl _ _)).keep (w' := ((wr.alloc o).alloc (.cells #[] 5)).drew) (fun q hq => World.cell?_alloc_lt (wr.alloc o) (.cells #[] 5) q (by simpa using hq))
            have hn1 := Cells.new wr p _ rfl 39
            go_region_law (first
              | (refine step_append_sl rfl (.tmp 49) (.tmp 50) rfl (wr.heap.size + 1) _ [] (by simp [Act.eval]) (own_empty wr _ _ (Nat.le_refl _)) (by simp) u4 _ done (by simp [Act.eval]) (hsl _) (by simp; omega) ?_
                 intro v1 w1 ho1 hb1
                 have d3 : w1.cell? ⟨wr.heap.size, 3, none⟩ = some (.string ⟨p.s.toArray⟩) := (hb1.cell (p := ⟨wr.heap.size, 3, none⟩) (by simp)).trans (by simp))
              | (refine step_append_text rfl (.tmp 51) (.tmp 53) rfl (wr.heap.size + 1) v1 ([] ++ done) (by simp [Act.eval]) ho1 (by have := hb1.size; simp at this; omega) p.s (by simp [Act.eval]) (by simp; omega) ?_
                 intro v2 w2 ho2 hb2))
            all_goals
              have d4 : w2.cell? ⟨wr.heap.size, 3, none⟩ = some (.string ⟨p.s.toArray⟩) := (hb2.cell (p := ⟨wr.heap.size, 3, none⟩) (by simp)).trans d3
              clear d3 hn1 hsl
              go_wp2_with fail
              go_roundw
              case rel => exact ⟨k + 1, by go_num, by omega, by rw [HSN.out, he.out], by rw [HSN.out, he.out]; simpa using ho2.lower (by omega), ((((hb.alloc hsz _).alloc (by simp; omega) _).drew).trans (hb1.mono (by omega))).trans (hb2.mono (by omega))⟩
              case measure => simp [intOf]; omega
          · have q0 : (p.kind == 0) = false := by simp; omega
            have q2 : (p.kind == 2) = false := by simp; omega
            have q4 : (p.kind == 4) = false := by simp; omega
            have he : Hid (encP p = enc (zig p.n)) := by unfold Hid encP; rw [if_neg h0, if_neg h2, if_neg h4]
            have hel := he.out
            rw [hel] at hl2
            have hadd := fun W => add_text W done (enc (zig p.n)) (by omega)
            have hn := hOk.n
            clear h0 h2 h4 hel
            go_wp2_with fail
            refine (int_any u4 done p.n _ ((hO_sl ho _).more (by simp)) hn.1 hn.2 (by omega)).mono ?_
            rintro e w1 ⟨v1, rfl, ho1, hb1⟩
            have hn1 := (Cells.new wr p _ rfl 39).below hb1 (by simp)
            have d1 := hn1 2 _ rfl
            clear hn1
            go_wp2_with fail
            refine (ref_int_any p.n w1 hn.1 hn.2).mono ?_
            rintro e w2 ⟨rfl, hb2⟩
            go_wp2_with fail
            go_roundw
            case rel => exact ⟨k + 1, by go_num, by omega, by rw [HSN.out, he.out], by rw [HSN.out, he.out]; exact (ho1.lower (by simp; omega)).keep hb2, ((hb.alloc hsz _).trans (hb1.mono (by simp; omega))).trans (hb2.mono (by have := hb1.size; simp at this; omega))⟩
            case measure => simp [intOf]; omega
    · have hkl : k = ps.length := by omega
      have htk : Hid (cat (ps.take k) = cat ps) := by unfold Hid; rw [hkl, List.take_of_length_le (Nat.le_refl _)]
      clear hkl
      go_wp2
      go_ret2
      rw [htk.out] at ho ⊢
      exact ⟨u4, rfl, ho, hb⟩

end Go.Proofs.Ytcfcjknppeeadaa.Cd
