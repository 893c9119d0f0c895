/-
  LsmAgain answers true. Conditions: the library's error lies where the program laid it.
-/
import Derived.Test.YtlchmkpnehbnlaaGreatDoorG41
import Derived.Test.YtlchmkpnehbnlaaGreatDoorG17
/-
  Two trees on one disk of the greatest room: what an Apply, an Open leave of both. Conditions: few bytes, few writes.
-/
namespace Go.Proofs.YtlchmkpnehbnlaaGreatDoor.Cd
open Go.RowKit

/-- Since w0: the trees of the names n and n2 on the disk at g. -/
structure Two11 (w0 : World) (g N b c : Nat) (n n2 : List UInt8) (P P2 : Prs) (D : Dsk) (S : Nat → Prop) (t l : Nat) (v : Value) (t2 l2 : Nat) (v2 : Value) (W : World) : Prop where
  a : Tr w0 g N 4096 n True P b c D S t l v W
  b : Tr w0 g N 4096 n2 True P2 b c D S t2 l2 v2 W
  parts : Parts2 t l v t2 l2 v2
  heads : Heads D [n, n2]

/-- The blocks of both. -/
def two11 (S : Nat → Prop) (t l : Nat) (v : Value) (t2 l2 : Nat) (v2 : Value) : Nat → Prop := fun k => treeU S t l v k ∨ treeU S t2 l2 v2 k

section
variable {w0 W W' : World} {g N M b c b' c' : Nat} {n n2 : List UInt8} {P P2 : Prs} {D : Dsk} {S : Nat → Prop} {t l t2 l2 : Nat} {v v2 : Value}
theorem Two11.turn (h : Two11 w0 g N b c n n2 P P2 D S t l v t2 l2 v2 W) : Two11 w0 g N b c n2 n P2 P D S t2 l2 v2 t l v W :=
  ⟨h.b, h.a, h.parts.turn, fun m hm => by
    obtain ⟨k, hk, e⟩ := h.heads m hm
    refine ⟨k, ?_, e⟩
    simp only [List.mem_cons, List.not_mem_nil, or_false] at hk ⊢
    exact hk.symm⟩
theorem two11_turn (S : Nat → Prop) (t l : Nat) (v : Value) (t2 l2 : Nat) (v2 : Value) (k : Nat) : two11 S t2 l2 v2 t l v k ↔ two11 S t l v t2 l2 v2 k := ⟨Or.symm, Or.symm⟩
theorem Two11.below (h : Two11 w0 g N b c n n2 P P2 D S t l v t2 l2 v2 W) (hb : Below W.heap.size W W') : Two11 w0 g N b c n n2 P P2 D S t l v t2 l2 v2 W' := ⟨h.a.below hb, h.b.below hb, h.parts, h.heads⟩
theorem Two11.grow (h : Two11 w0 g N b c n n2 P P2 D S t l v t2 l2 v2 W) (hN : N ≤ M) (hM : M ≤ 137438953472) (hb : b ≤ b') (hc : c ≤ c') (tb : b' ≤ 200000) (tc : c' ≤ 2000) : Two11 w0 g M b' c' n n2 P P2 D S t l v t2 l2 v2 W :=
  ⟨h.a.grow hN hM hb hc tb tc, h.b.grow hN hM hb hc tb tc, h.parts, h.heads⟩
theorem Two11.row (h : Two11 w0 g N b c n n2 P P2 D S t l v t2 l2 v2 W) : ∀ k, two11 S t l v t2 l2 v2 k → k < W.heap.size := fun k hk => hk.elim (h.a.row k) (h.b.row k)

/-- An Apply on the first. -/
def Applied2 (w0 : World) (g M b c : Nat) (n n2 : List UInt8) (P P2 : Prs) (S : Nat → Prop) (t l : Nat) (v : Value) (t2 l2 : Nat) (v2 : Value) (ws : List Wr) (W : World) (e : Ending) (W' : World) : Prop :=
  e = .returned (.int .i64 0) ∧ ∃ T D' v', Two11 w0 g M (b + sumB ws) (c + ws.length) n n2 (allP P ws) P2 D' T t l v' t2 l2 v2 W' ∧ Apart (treeU S t l v) W W' ∧ ∀ k, k < W.heap.size → two11 T t l v' t2 l2 v2 k → two11 S t l v t2 l2 v2 k

theorem Two11.apply (h : Two11 w0 g N b c n n2 P P2 D S t l v t2 l2 v2 W) (u : Value) (ws : List Wr) (hh : n.head? ≠ n2.head?) (he : ErrAt w0) (M : Nat) (hv : TbIn W W.heap.size u ws) (hl : long8 ws = false) (hb : b + sumB ws ≤ 100000) (hc : c + ws.length ≤ 1000) (hN : N + 100000 ≤ M) (hM : M ≤ 137438953472) :
    Calls Tryz.prog 13 #[.pointer (some ⟨t, 0, none⟩), u] W (Applied2 w0 g M b c n n2 P P2 S t l v t2 l2 v2 ws W) := by
  refine (apply_any u ws h.a he M hv hl (by omega) (by omega) (fun _ E whole last tabs R hi ht hg ho => ?_) hN hM).mono ?_
  · have h1 := big_heads h.heads (by simp) hi ht hg ho (fun m hm hne => by
      simp only [List.mem_cons, List.not_mem_nil, or_false] at hm
      rcases hm with rfl | rfl
      · exact absurd rfl hne
      · obtain ⟨w1, a1, t1, r1, k1, k2⟩ := h.b.lsI trivial
        exact ⟨fun e => hh e.symm, w1, a1, t1, r1, k1.mono (by omega) (by omega) (by omega) (by omega), k2⟩)
    have h1 : 510 * count E.now ≤ 2 * (2 * (b + sumB ws) + 60 * (c + ws.length) + 2670) := h1
    omega
  · rintro e W' (⟨_, hn, _⟩ | ⟨rfl, T, D', v', htr, hto, hg, _⟩)
    · exact absurd trivial hn
    · refine ⟨rfl, T, D', v', ⟨htr, (h.b.beside h.a htr hto h.parts hg (fun e => hh e.symm)).grow (Nat.le_refl _) hM (by omega) (by omega) (by omega) (by omega), h.parts.after hto h.b.rowlt, h.heads.go (by simp) hg⟩, hto.apart, fun k hk hu => ?_⟩
      rcases hu with hu | hu
      · exact .inl (hto.old k hk hu)
      · rcases hu with hu | hu
        · exact .inl (hto.old k hk (.inl hu))
        · exact .inr (.inr hu)

/-- The first is opened anew. -/
def Opened2 (w0 : World) (g M b c : Nat) (n n2 : List UInt8) (P P2 : Prs) (S : Nat → Prop) (t l : Nat) (v : Value) (t2 l2 : Nat) (v2 : Value) (W : World) (e : Ending) (W' : World) : Prop :=
  ∃ T D' t' l' v', e = .returned (.tuple #[.pointer (some ⟨t', 0, none⟩), .int .i64 0]) ∧ Two11 w0 g M b c n n2 P P2 D' T t' l' v' t2 l2 v2 W' ∧ Apart S W W' ∧ ∀ k, k < W.heap.size → two11 T t' l' v' t2 l2 v2 k → two11 S t l v t2 l2 v2 k

theorem Two11.reopen (h : Two11 w0 g N b c n n2 P P2 D S t l v t2 l2 v2 W) (he : ErrAt w0) (M : Nat) (hb : b ≤ 200000) (hc : c ≤ 2000) (hN : N + 2000 ≤ M) (hM : M ≤ 137438953472) :
    Calls Tryz.prog 9 #[.pointer (some ⟨g, 0, none⟩), .string ⟨n.toArray⟩] W (Opened2 w0 g M b c n n2 P P2 S t l v t2 l2 v2 W) := by
  refine (reopen_s h.a he M hN hM).mono ?_
  rintro e W' ⟨T, D', t', l', v', rfl, htr, hsame, hT, hap, ht, hl, hr⟩
  refine ⟨T, D', t', l', v', rfl, ⟨htr, (h.b.opened htr hsame hT hap).grow (Nat.le_refl _) hM (Nat.le_refl _) (Nat.le_refl _) hb hc, Parts2.opened h.b ht hl hr, h.heads.same hsame⟩, hap, fun k hk hu => ?_⟩
  have hTk : T k → S k := fun e => (since_old hk).1 (hT k e)
  rcases hu with (hu | hu | hu | hu) | (hu | hu)
  · exact .inl (.inl (hTk hu))
  · omega
  · omega
  · have := hr k hu; omega
  · exact .inl (.inl (hTk hu))
  · exact .inr (.inr hu)
end

/-- Two trees that were opened on a new disk, one behind the other. -/
theorem two_new {w0 W W' : World} {g N M : Nat} {n n2 : List UInt8} {D D' : Dsk} {S T : Nat → Prop} {t l t2 l2 : Nat} {v v2 : Value} (h : Tr w0 g N 4096 n True [] 0 0 D S t l v W) (h2 : Tr w0 g M 4096 n2 True [] 0 0 D' T t2 l2 v2 W') (hsame : ∀ m, getF D'.now m = getF D.now m) (hT : ∀ k, T k → since S W W' k) (ha : Apart S W W')
    (ht : W.heap.size ≤ t2) (hl : W.heap.size ≤ l2) (hr : ∀ r, v2.ownBlock = some r → W.heap.size ≤ r) (hh : Heads D [n, n2]) : Two11 w0 g M 0 0 n n2 [] [] D' T t l v t2 l2 v2 W' :=
  ⟨h.opened h2 hsame hT ha, h2, (Parts2.opened h ht hl hr).turn, hh.same hsame⟩

end Go.Proofs.YtlchmkpnehbnlaaGreatDoor.Cd

/-
  LsmAgain answers true. Conditions: the library's error lies where the program laid it.
-/
namespace Go.Proofs.YtlchmkpnehbnlaaGreatDoor.Cd
open Go.RowKit

def nT : List UInt8 := [116]
def nO : List UInt8 := [111, 116, 104, 101, 114]
theorem nT_nO : nT.head? ≠ nO.head? := by decide

set_option maxRecDepth 100000 in
set_option maxHeartbeats 12800000 in
theorem lw_again (v : Value) (l : List St11) (w : World) (he : ErrAt w) (hv : Stps w w.heap.size v l) (hok : ∀ p ∈ l, p.Ok) :
    Calls Tryz.prog 5 #[v] w (Gives (.bool true) w) := by
  obtain ⟨A, c, rfl, hv2, hv3⟩ := hv.len
  have CA := Lib.hid (alive11 w he)
  have HV := Lib.hid hv
  have HOK := Lib.hid hok
  have HE := Lib.hid he
  clear hv hok he
  go_enter Tryz.func5, Tryz.ntmps5
  go_wp2_with fail
  refine CA.out.mono ?_
  rintro e w1 ⟨rfl, hb1⟩
  have CG := Lib.hid (great11_any _ l w1 (by have := hb1.size; exact (HV.out.below hb1).more this) HOK.out)
  have HB1 := Lib.hid hb1
  clear hb1 CA
  go_wp2_with fail
  refine CG.out.mono ?_
  rintro e w2 ⟨gr, rfl, hb2, hsm⟩
  have HB2 := Lib.hid (HB1.out.trans (hb2.mono HB1.out.size))
  clear hb2 CG
  cases gr
  case true =>
    clear hsm
    go_wp2_with fail
    go_ret
    exact ⟨rfl, HB2.out⟩
  obtain ⟨hl60, hwt⟩ := hsm rfl
  clear hsm
  go_wp2_with fail
  refine (new_dks 4096 w2 (by omega) (by omega)).mono ?_
  rintro e w3 ⟨g, S, rfl, hd, hS, hb3⟩
  have hLT : Letter nT := ⟨116, [], rfl, by decide, by decide, by decide⟩
  have hLO : Letter nO := ⟨111, [116, 104, 101, 114], rfl, by decide, by decide, by decide⟩
  have hLO := Lib.hid hLO
  have CO := open_s True hd (ample_of (new_roomy (room := 4096) (by omega)) (by omega)) (by omega) (lsI_new hLT (by simp [nT]) (fun m hm => by simp [newD, getF] at hm)) HE.out (HB2.out.trans (hb3.mono HB2.out.size)) (fun k hk => Nat.le_trans HB2.out.size (hS k hk)) 10000 (by omega) (by omega) (fun _ => by simp)
  have CO := Lib.hid CO
  clear hd hS hb3 hLT
  go_wp2_with fail
  refine CO.out.mono ?_
  rintro e w4 ⟨T4, D4, t, lt, vt, rfl, htr, hs4, _, _, _, _, _⟩
  have hP : treeP ([] : List (List Wr)) (ofW ([] : List (List Wr)).flatten) = [] := rfl
  rw [hP] at htr
  have hno4 : ∀ m, (getF D4.now m).isSome = true → False := fun m hm => by rw [hs4 m] at hm; simp [newD, getF] at hm
  have CO2 := open_s True htr.disk htr.ample (by omega) (lsI_new hLO.out (by simp [nO]) (fun m hm => (hno4 m hm).elim)) HE.out htr.base.1 (fun k hk => htr.base.2 k (.inl hk)) 20000 (by omega) (by omega) (fun _ => by simp)
  rw [hP] at CO2
  have CO2 := Lib.hid CO2
  have HTR := Lib.hid htr
  have HNO := Lib.hid hno4
  clear htr hP hs4 hno4 CO
  go_wp2_with fail
  refine CO2.out.mono ?_
  rintro e w5 ⟨T5, D5, to, lo, vo, rfl, htr5, hs5, hT5, ha5, ht5, hl5, hr5⟩
  have HTW := Lib.hid (two_new HTR.out htr5 hs5 hT5 ha5 ht5 hl5 hr5 (fun m hm => (HNO.out m hm).elim))
  clear htr5 hs5 hT5 ha5 ht5 hl5 hr5 CO2 HTR HNO
  go_wp2_with fail
  go_loopw [4, 8, 9, 31] (fun tv av bv i wr => ∃ (k : Nat) (P P2 : Prs) (D : Dsk) (S : Nat → Prop) (t lt : Nat) (vt vo pa pb : Value), tv = .pointer (some ⟨t, 0, none⟩) ∧ pa = av ∧ pb = bv ∧ i = .int .i64 k ∧ k ≤ l.length ∧ Hid (Two11 w g (100000 + 200000 * k) (bOf (l.take k)) (cOf (l.take k)) nT nO P P2 D S t lt vt to lo vo wr) ∧ Hid (PrFar wr (two11 S t lt vt to lo vo) av P) ∧ Hid (PrFar wr (two11 S t lt vt to lo vo) bv P2)) (fun _ _ _ i _ => l.length - (intOf i).toNat)
  case atStart => exact ⟨0, [], [], D5, T5, t, lt, vt, vo, _, _, rfl, rfl, rfl, rfl, by omega, HTW.out.grow (by omega) (by omega) (Nat.le_refl _) (Nat.le_refl _) (by simp [bOf]) (by simp [cOf]), PrFar.nil _ _, PrFar.nil _ _⟩
  case round =>
    obtain ⟨k, P, P2, D, S, t, lt, vt, vo, av, bv, rfl, rfl, rfl, rfl, hk, htw, hpa, hpb⟩ := hrel
    have HBW := Lib.hid htw.out.a.base.1
    have HROW := Lib.hid htw.out.row
    by_cases hlt : k < l.length
    · obtain ⟨p, hpk⟩ : ∃ p, l[k]? = some p := ⟨l[k], List.getElem?_eq_getElem hlt⟩
      obtain ⟨b, off, u, rfl, hB, hin, _, c0, c1, c2, c3, c4, c5, c6⟩ := HV.out.at HBW.out hpk
      obtain ⟨Au, cu, rfl, hcu1, hcu2⟩ := hin.len
      obtain ⟨hbs, hcs⟩ := bOf_snoc hpk
      have hsm := small11 hwt (k + 1)
      rw [hbs, hcs] at hsm
      have HIN := Lib.hid hin
      have HBS := Lib.hid (And.intro hbs hcs)
      have hz := HBW.out.size
      obtain ⟨w6, hw6⟩ : ∃ x, wr.alloc (.cells #[.slice Au p.ws.length cu, .string ⟨p.fro.toArray⟩, .int .i64 p.n, .bool p.syn, .bool p.aga, .int .i64 p.fuse, .int .u64 p.keep] 35) = x := ⟨_, rfl⟩
      have hb6 : Below wr.heap.size wr w6 := by rw [← hw6]; exact (Below.refl _ _).alloc (Nat.le_refl _) _
      have hr6 : w6.heap[wr.heap.size]? = some (.cells #[.slice Au p.ws.length cu, .string ⟨p.fro.toArray⟩, .int .i64 p.n, .bool p.syn, .bool p.aga, .int .i64 p.fuse, .int .u64 p.keep] 35) := by rw [← hw6]; exact heap_alloc_new _ _
      have hz6 : w6.heap.size = wr.heap.size + 1 := by rw [← hw6]; simp
      have HTW6 := Lib.hid (htw.out.below hb6)
      have HPA6 := Lib.hid (hpa.out.below hb6)
      have HPB6 := Lib.hid (hpb.out.below hb6)
      have HW6 := Lib.hid hw6
      have HB6 := Lib.hid (HBW.out.trans (hb6.mono hz))
      have HR6 := Lib.hid hr6
      have HSZ := Lib.hid (show wr.heap.size < w6.heap.size by omega)
      have CL := Lib.hid (fun W' (hb : Below w.heap.size w W') => rlong8_any _ p.ws W' ((HIN.out.below hb).more hb.size))
      clear hpk hin hbs hcs hb6 hr6 hw6 htw hpa hpb hz6
      go_wp2_with fail
      rw [HW6.out]
      refine (CL.out w6 HB6.out).mono ?_
      rintro e w7 ⟨rfl, hb7⟩
      have HTW7 := Lib.hid (HTW6.out.below hb7)
      have HPA7 := Lib.hid (HPA6.out.below hb7)
      have HPB7 := Lib.hid (HPB6.out.below hb7)
      have HB7 := Lib.hid (HB6.out.trans (hb7.mono HB6.out.size))
      have hr7 := (hb7.block wr.heap.size HSZ.out).trans HR6.out
      have q0 : w7.cell? ⟨wr.heap.size, 0, none⟩ = some (.slice Au p.ws.length cu) := cell_of_row _ _ 0 _ _ _ hr7
      have HR7 := Lib.hid hr7
      have HS7 := Lib.hid (show wr.heap.size < w7.heap.size by have := hb7.size; have := HSZ.out; omega)
      clear hb7 hr7 CL HTW6 HPA6 HPB6
      cases hlong : long8 p.ws
      case true =>
        go_wp2_with fail
        go_roundw
        case rel =>
          refine ⟨k + 1, P, P2, D, S, t, lt, vt, vo, _, _, rfl, rfl, rfl, by go_num, by omega, ?_, HPA7.out, HPB7.out⟩
          unfold Hid
          rw [HBS.out.1, HBS.out.2]
          exact HTW7.out.grow (by omega) (by omega) (by omega) (by omega) (by omega) (by omega)
        case measure => simp [intOf]; omega
      clear c0 c1 c2 c3 c4 c5 c6
      obtain ⟨hlima, hlimb⟩ : P.length ≤ 1000000000 ∧ P2.length ≤ 1000000000 := by
        obtain ⟨_, _, _, _, _, _, _, q⟩ := HTW7.out.a.is
        obtain ⟨_, _, _, _, _, _, _, q2⟩ := HTW7.out.b.is
        exact ⟨q.lim, q2.lim⟩
      have hpar : k % 2 = 0 ∨ k % 2 = 1 := by omega
      rcases hpar with hpar | hpar
      case' inl =>
        have hk2 : (k : Int).tmod 2 = 0 := by rw [Int.tmod_eq_emod_of_nonneg (by omega)]; omega
        have CR := Lib.hid (rall_any _ _ P p.ws w7 HPA7.out.own.prIn ((HIN.out.below HB7.out).more HB7.out.size) (by omega))
        go_wp2_with fail
        refine CR.out.mono ?_
        rintro e w8 ⟨v8, rfl, ho8, _, hb8⟩
        have HPA8 := Lib.hid (HPA7.out.all HTW7.out.row ho8 hb8)
        have HPB8 := Lib.hid (HPB7.out.below hb8)
        have HTW8 := Lib.hid (HTW7.out.below hb8)
        have HB8 := Lib.hid (HB7.out.trans (hb8.mono HB7.out.size))
        have hr8 := (hb8.block wr.heap.size HS7.out).trans HR7.out
        have q8 : w8.cell? ⟨wr.heap.size, 0, none⟩ = some (.slice Au p.ws.length cu) := cell_of_row _ _ 0 _ _ _ hr8
        have HR8 := Lib.hid hr8
        have HS8 := Lib.hid (show wr.heap.size < w8.heap.size by have := hb8.size; have := HS7.out; omega)
        have CA := Lib.hid (HTW8.out.apply _ p.ws nT_nO HE.out (200000 + 200000 * k) ((HIN.out.below HB8.out).more HB8.out.size) hlong (by omega) (by omega) (by omega) (by omega))
        clear ho8 hb8 hr8 CR HPA7 HPB7 HTW7
        go_wp2_with fail
        refine CA.out.mono ?_
        rintro e w9 ⟨rfl, T9, D9, v9, htw9, ha9, hold9⟩
        have hr9 := (ha9.block wr.heap.size HS8.out (fun hu => by have := HROW.out _ (.inl hu); omega)).trans HR8.out
        have q9 : w9.cell? ⟨wr.heap.size, 4, none⟩ = some (.bool p.aga) := cell_of_row _ _ 4 _ _ _ hr9
        have HPA9 := Lib.hid (HPA8.out.go (ha9.mono fun _ => .inl) hold9)
        have HPB9 := Lib.hid (HPB8.out.go (ha9.mono fun _ => .inl) hold9)
        have HTW9 := Lib.hid htw9
        obtain ⟨P', hP'⟩ : ∃ x, allP P p.ws = x := ⟨_, rfl⟩
        obtain ⟨P2', hP2'⟩ : ∃ x, P2 = x := ⟨_, rfl⟩
        obtain ⟨bv', hbv'⟩ : ∃ x, bv = x := ⟨_, rfl⟩
        obtain ⟨av', hav'⟩ : ∃ x, v8 = x := ⟨_, rfl⟩
        obtain ⟨vt', hvt'⟩ : ∃ x, v9 = x := ⟨_, rfl⟩
        obtain ⟨vo', hvo'⟩ : ∃ x, vo = x := ⟨_, rfl⟩
        rw [hP', hav', hvt', hvo'] at HPA9
        rw [hP2', hbv', hvt', hvo'] at HPB9
        rw [hP', hP2', hvt', hvo'] at HTW9
        rw [hav']
        clear htw9 ha9 hold9 hr9 CA HPA8 HPB8 HTW8
      case' inr =>
        have hk2 : (k : Int).tmod 2 = 1 := by rw [Int.tmod_eq_emod_of_nonneg (by omega)]; omega
        have CR := Lib.hid (rall_any _ _ P2 p.ws w7 HPB7.out.own.prIn ((HIN.out.below HB7.out).more HB7.out.size) (by omega))
        go_wp2_with fail
        refine CR.out.mono ?_
        rintro e w8 ⟨v8, rfl, ho8, _, hb8⟩
        have HPB8 := Lib.hid (HPB7.out.all HTW7.out.row ho8 hb8)
        have HPA8 := Lib.hid (HPA7.out.below hb8)
        have HTW8 := Lib.hid (HTW7.out.below hb8)
        have HB8 := Lib.hid (HB7.out.trans (hb8.mono HB7.out.size))
        have hr8 := (hb8.block wr.heap.size HS7.out).trans HR7.out
        have q8 : w8.cell? ⟨wr.heap.size, 0, none⟩ = some (.slice Au p.ws.length cu) := cell_of_row _ _ 0 _ _ _ hr8
        have HR8 := Lib.hid hr8
        have HS8 := Lib.hid (show wr.heap.size < w8.heap.size by have := hb8.size; have := HS7.out; omega)
        have CA := Lib.hid (HTW8.out.turn.apply _ p.ws nT_nO.symm HE.out (200000 + 200000 * k) ((HIN.out.below HB8.out).more HB8.out.size) hlong (by omega) (by omega) (by omega) (by omega))
        clear ho8 hb8 hr8 CR HPA7 HPB7 HTW7
        go_wp2_with fail
        refine CA.out.mono ?_
        rintro e w9 ⟨rfl, T9, D9, v9, htw9, ha9, hold9⟩
        have hold9' : ∀ j, j < w8.heap.size → two11 T9 t lt vt to lo v9 j → two11 S t lt vt to lo vo j := fun j hj hu => (two11_turn _ _ _ _ _ _ _ _).1 (hold9 j hj ((two11_turn _ _ _ _ _ _ _ _).1 hu))
        have hr9 := (ha9.block wr.heap.size HS8.out (fun hu => by have := HROW.out _ (.inr hu); omega)).trans HR8.out
        have q9 : w9.cell? ⟨wr.heap.size, 4, none⟩ = some (.bool p.aga) := cell_of_row _ _ 4 _ _ _ hr9
        have HPA9 := Lib.hid (HPA8.out.go (ha9.mono fun _ => .inr) hold9')
        have HPB9 := Lib.hid (HPB8.out.go (ha9.mono fun _ => .inr) hold9')
        have HTW9 := Lib.hid htw9.turn
        obtain ⟨P', hP'⟩ : ∃ x, P = x := ⟨_, rfl⟩
        obtain ⟨P2', hP2'⟩ : ∃ x, allP P2 p.ws = x := ⟨_, rfl⟩
        obtain ⟨bv', hbv'⟩ : ∃ x, v8 = x := ⟨_, rfl⟩
        obtain ⟨av', hav'⟩ : ∃ x, av = x := ⟨_, rfl⟩
        obtain ⟨vt', hvt'⟩ : ∃ x, vt = x := ⟨_, rfl⟩
        obtain ⟨vo', hvo'⟩ : ∃ x, v9 = x := ⟨_, rfl⟩
        rw [hP', hav', hvt', hvo'] at HPA9
        rw [hP2', hbv', hvt', hvo'] at HPB9
        rw [hP', hP2', hvt', hvo'] at HTW9
        rw [hbv']
        clear htw9 ha9 hold9 hold9' hr9 CA HPA8 HPB8 HTW8
      all_goals
        cases haga : p.aga
        case' true =>
          rw [haga] at q9
          have CO := Lib.hid (HTW9.out.reopen HE.out (250000 + 200000 * k) (by omega) (by omega) (by omega) (by omega))
          go_wp2_with fail
          refine CO.out.mono ?_
          rintro e wa ⟨Ta, Da, ta, la, va, rfl, htwa, haa, holda⟩
          have HPA := Lib.hid (HPA9.out.go (haa.mono fun _ h => .inl (.inl h)) holda)
          have HPB := Lib.hid (HPB9.out.go (haa.mono fun _ h => .inl (.inl h)) holda)
          have HTW := Lib.hid htwa
          have CH := Lib.hid (has_s _ _ htwa.a HPA.out.own.prIn)
          clear htwa haa holda CO HPA9 HPB9 HTW9
          go_wp2_with fail
        case' false =>
          rw [haga] at q9
          have HPA := HPA9
          have HPB := HPB9
          have HTW := Lib.hid (HTW9.out.grow (M := 250000 + 200000 * k) (by omega) (by omega) (Nat.le_refl _) (Nat.le_refl _) (by omega) (by omega))
          have CH := Lib.hid (has_s _ _ HTW.out.a HPA.out.own.prIn)
          clear HPA9 HPB9 HTW9
          go_wp2_with fail
        all_goals
          refine CH.out.mono ?_
          rintro e wb ⟨s, rfl, hs, hbb⟩
          obtain rfl : s = true := by simpa using hs
          have HTWb := Lib.hid (HTW.out.below hbb)
          have HPAb := Lib.hid (HPA.out.below hbb)
          have HPBb := Lib.hid (HPB.out.below hbb)
          have CH2 := Lib.hid (has_s _ _ HTWb.out.b HPBb.out.own.prIn)
          clear hs hbb CH HTW HPA HPB
          go_wp2_with fail
          refine CH2.out.mono ?_
          rintro e wc ⟨s, rfl, hs, hbc⟩
          obtain rfl : s = true := by simpa using hs
          have HTWc := Lib.hid (HTWb.out.below hbc)
          have HPAc := Lib.hid (HPAb.out.below hbc)
          have HPBc := Lib.hid (HPBb.out.below hbc)
          clear hs hbc CH2 HTWb HPAb HPBb
          go_wp2_with fail
          go_roundw
          case rel =>
            have hfin := HTWc.out.grow (M := 100000 + 200000 * (k + 1)) (b' := bOf (l.take (k + 1))) (c' := cOf (l.take (k + 1))) (by omega) (by omega) (Nat.le_of_eq HBS.out.1.symm) (Nat.le_of_eq HBS.out.2.symm) (by rw [HBS.out.1]; omega) (by rw [HBS.out.2]; omega)
            exact ⟨k + 1, _, _, _, _, _, _, _, _, _, _, rfl, rfl, rfl, by go_num, by omega, hfin, HPAc.out, HPBc.out⟩
          case measure => simp [intOf]; omega
    · have HBZ := Lib.hid HBW.out
      clear htw hpa hpb
      go_wp2_with fail
      go_ret
      exact ⟨rfl, HBZ.out⟩

end Go.Proofs.YtlchmkpnehbnlaaGreatDoor.Cd

namespace Go.Proofs.YtlchmkpnehbnlaaGreatDoor.LsmAgain
open Go.RowKit Go.Proofs.YtlchmkpnehbnlaaGreatDoor.Cd

theorem walk (v : Value) (l : List St11) (w : World) (he : ErrAt w) (h : Stps w w.heap.size v l ∧ ∀ p ∈ l, p.Ok) : Calls Tryz.prog 5 #[v] w (Gives (.bool true) w) := lw_again v l w he h.1 h.2

end Go.Proofs.YtlchmkpnehbnlaaGreatDoor.LsmAgain
