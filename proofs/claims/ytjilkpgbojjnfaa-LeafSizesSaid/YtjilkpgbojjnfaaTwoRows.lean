/-
  Two rows of texts of the call's own, side by side: one grows, the other stays. Conditions: none.
-/
import Derived.Test.YtjilkpgbojjnfaaStrs
namespace Go.Proofs.Ytjilkpgbojjnfaa.Cd
open Go.RowKit

/-- Two rows that are not the same block. -/
def TwoBlocks (u v : Value) : Prop := u.ownBlock = none ∨ u.ownBlock ≠ v.ownBlock

theorem TwoBlocks.symm {u v : Value} (h : TwoBlocks u v) : TwoBlocks v u := by
  unfold TwoBlocks at *
  rcases h with h | h
  · rw [h]
    cases hv : v.ownBlock
    · exact .inl rfl
    · exact .inr (by simp)
  · exact .inr fun e => h e.symm
theorem TwoBlocks.nil (v : Value) : TwoBlocks (.slice none 0 0) v := .inl rfl

/-- append of one text: the row is the same block, or a new one. -/
theorem run_append_str1 (w : World) (B : Nat) (v : Value) (l : List (List UInt8)) (ho : OwnS w B v l) (hB : B ≤ w.heap.size) (b off c : Nat) (s : List UInt8) (hx : w.cell? ⟨b, off, none⟩ = some (.string ⟨s.toArray⟩))
    (hm : l.length + 1 ≤ 8796093022208) (ty : TypeId) :
    ∃ v' w', (Builtin.append_ #[22, 22] ty #[v, .slice (some ⟨b, off, none⟩) 1 c]).run Try.prog w = .ok v' w' ∧ OwnS w' B v' (l ++ [s]) ∧ w.grownBy w' v.ownBlock ∧ (v'.ownBlock = v.ownBlock ∨ ∀ k, v'.ownBlock = some k → w.heap.size ≤ k) := by
  obtain ⟨i0, hi, hz0, hz1, hz2⟩ := info_parts info_str
  have hmax : l.length + 1 ≤ maxLen := by simp only [maxLen]; omega
  have hnews : ∀ j u, (vs [s])[j]? = some u → w.cell? ((⟨b, off, none⟩ : Addr).add j) = some u := fun j u hu => by
    have hj := (List.getElem?_eq_some_iff.1 hu).1
    rw [vs_length] at hj
    obtain rfl : j = 0 := by simp at hj; omega
    rw [Addr.add_lit]
    simp [vs] at hu
    rw [← hu]
    exact hx
  obtain ⟨v', w', hr, h2, h3, h4⟩ := run_append_own (P := Try.prog) w B 22 ty 9 i0 _ 1 16 Try.underlying22 hi hz0 hz1 hz2 rfl (by omega) v l.length (vs l) ho ⟨b, off, none⟩ 1 c (vs [s]) rfl hnews (vs_one [s]) hmax (by omega) hB
  refine ⟨v', w', hr, ?_, h3, ?_⟩
  · unfold OwnS
    rw [vs_append, List.length_append]
    exact h2
  · rcases ho.2 with ⟨rfl, h0⟩ | ⟨g, cap, cur, rfl, hbg, hg, hnc, hcm, hcs, htake⟩
    · obtain ⟨v2, w2, hr2, k2, _⟩ := run_append_own (P := Try.prog) w w.heap.size 22 ty 9 i0 _ 1 16 Try.underlying22 hi hz0 hz1 hz2 rfl (by omega) (.slice none 0 0) 0 [] (World.ownsRow_nil w _ 9 1) ⟨b, off, none⟩ 1 c (vs [s]) rfl hnews (vs_one [s]) (by simp [maxLen]) (by omega) (Nat.le_refl _)
      rw [hr] at hr2
      injection hr2 with e1 e2
      subst e1 e2
      exact .inr fun k hk => (k2.lt k hk).1
    · by_cases hroom : l.length + 1 ≤ cap
      · have hfit : l.length * i0.size + (vs [s]).length ≤ cur.size := by rw [hcs, hz1, vs_length, List.length_singleton, Nat.mul_one, Nat.mul_one]; exact hroom
        have hr2 := run_append_room (P := Try.prog) w 22 ty 9 i0 Try.underlying22 hi g l.length cap cur hg ⟨b, off, none⟩ 1 c (vs [s]) (by rw [hz1]; rfl) hnews (vs_one [s]) hroom hfit
        rw [hr] at hr2
        injection hr2 with e1 e2
        subst e1
        exact .inl rfl
      · have holds : ∀ j u, (vs l)[j]? = some u → w.cell? ((⟨g, 0, none⟩ : Addr).add j) = some u := World.ownsRow.cells ho (g := g) rfl
        have hr2 := run_append_grow (P := Try.prog) w 22 ty 9 i0 _ Try.underlying22 hi hz0 ⟨g, 0, none⟩ l.length cap (vs l) (by rw [hz1]; exact ho.1) holds ⟨b, off, none⟩ 1 c (vs [s]) (by rw [hz1]; rfl) hnews (by simp only [maxLen] at hmax; omega) (by omega) (growslice_fits (by omega) (by rw [hz2]; omega))
        rw [hr] at hr2
        injection hr2 with e1 e2
        subst e1
        refine .inr fun k hk => ?_
        have hk2 : some w.heap.size = some k := hk
        injection hk2 with hk2
        omega

theorem two_after {w : World} {B : Nat} {u v v' : Value} {m : List (List UInt8)} (hu : OwnS w B u m) (huv : TwoBlocks u v) (r3 : v'.ownBlock = v.ownBlock ∨ ∀ k, v'.ownBlock = some k → w.heap.size ≤ k) : TwoBlocks u v' := by
  rcases huv with h | h
  · exact .inl h
  · rcases r3 with e | hf
    · exact .inr (by rw [e]; exact h)
    · cases hb : u.ownBlock with
      | none => exact .inl hb
      | some k =>
        refine .inr fun e => ?_
        have h1 := (World.ownsRow.lt hu k hb).2
        have h2 := hf k (e ▸ hb)
        omega

/-- append of one text, for the walk: another row of texts stays. -/
theorem wp_append_str1 {w : World} {ops : Array Oper} {rest : List Oper} {o : Oper} {a : Act} {Q : Exit → Act → World → Prop} (hgd : o.guard = none) (s x : Operand)
    (hop : o.op = .call { callee := .builtin .append, args := #[s, x], argTypes := #[22, 22] })
    (B : Nat) (v : Value) (l : List (List UInt8)) (u : Value) (m : List (List UInt8)) (hs : a.eval s = v) (ho : OwnS w B v l) (hu : OwnS w B u m) (huv : TwoBlocks u v) (hB : B ≤ w.heap.size) (b off c : Nat) (t : List UInt8) (hx : a.eval x = .slice (some ⟨b, off, none⟩) 1 c)
    (hc : w.cell? ⟨b, off, none⟩ = some (.string ⟨t.toArray⟩)) (hm : l.length + 1 ≤ 8796093022208)
    (hK : ∀ v' w', OwnS w' B v' (l ++ [t]) → OwnS w' B u m → TwoBlocks u v' → Below B w w' → wpList Try.prog ops Q rest (a.put o.dst v') w') : wpList Try.prog ops Q (o :: rest) a w := by
  refine wpList_plain hgd fun K hK' => ?_
  obtain ⟨v', w', hrun, r1, r2, r3⟩ := run_append_str1 w B v l ho hB b off c t hc hm o.type
  unfold Oper.wp
  simp [execOp, hop, resolve, invoke, builtin, hs, hx, hrun, Result.andThen]
  exact hK' _ _ (hK v' w' r1 (World.ownsRow.kept hu r2 huv) (two_after hu huv r3) ((Below.refl _ _).grown r2 hB (fun k hk => (ho.lt k hk).1)))

theorem step_append_str1 {w : World} {ops : Array Oper} {o : Oper} {a : Act} {K : Act → World → Prop} {Q : Exit → Act → World → Prop} {E : Prop} (hgd : o.guard = none) (s x : Operand)
    (hop : o.op = .call { callee := .builtin .append, args := #[s, x], argTypes := #[22, 22] })
    (B : Nat) (v : Value) (l : List (List UInt8)) (u : Value) (m : List (List UInt8)) (hs : a.eval s = v) (ho : OwnS w B v l) (hu : OwnS w B u m) (huv : TwoBlocks u v) (hB : B ≤ w.heap.size) (b off c : Nat) (t : List UInt8) (hx : a.eval x = .slice (some ⟨b, off, none⟩) 1 c)
    (hc : w.cell? ⟨b, off, none⟩ = some (.string ⟨t.toArray⟩)) (hm : l.length + 1 ≤ 8796093022208)
    (h : ∀ v' w', OwnS w' B v' (l ++ [t]) → OwnS w' B u m → TwoBlocks u v' → Below B w w' → K (a.put o.dst v') w') : if Region.wanted o (yielded ops a.tmps) = true then Oper.wp Try.prog o a w K Q else E := by
  have hw : Region.wanted o (yielded ops a.tmps) = true := by simp [Region.wanted, hgd]
  rw [if_pos hw]
  obtain ⟨v', w', hrun, r1, r2, r3⟩ := run_append_str1 w B v l ho hB b off c t hc hm o.type
  unfold Oper.wp
  simp [execOp, hop, resolve, invoke, builtin, hs, hx, hrun, Result.andThen]
  exact h v' w' r1 (World.ownsRow.kept hu r2 huv) (two_after hu huv r3) ((Below.refl _ _).grown r2 hB (fun k hk => (ho.lt k hk).1))

end Go.Proofs.Ytjilkpgbojjnfaa.Cd
