/-
  LsmDoes answers true. Conditions: the library's error lies where the program laid it.
-/
import Derived.Test.YtlchmkpnehbnlaaGreatDoorG38
import Derived.Test.YtlchmkpnehbnlaaGreatDoorG40
import Derived.Test.YtlchmkpnehbnlaaGreatDoorG12
import Derived.Test.YtlchmkpnehbnlaaGreatDoorG11
import Derived.Test.YtlchmkpnehbnlaaGreatDoorG17
import Derived.Test.YtlchmkpnehbnlaaGreatDoorG13
import Derived.Test.YtlchmkpnehbnlaaGreatDoorG25
/-
  Sync, Tables, Scan and Get of a tree between two calls. Conditions: the power is on.
-/
namespace Go.Proofs.YtlchmkpnehbnlaaGreatDoor.Cd
open Go.RowKit

theorem tables_s {w0 W : World} {S : Nat → Prop} {t l g : Nat} {vt vm : Value} {n s : List UInt8} {last cnt : Nat} {tight : Int} {tabs : List (List Wr)} {mem : List Wr} (h : TreeAt w0 W S t l g vt vm n s last cnt tight tabs mem) :
    Calls Tryz.prog 14 #[.pointer (some ⟨t, 0, none⟩)] W (Gives (.int .i64 (tabs.length : Nat)) W) := by
  obtain ⟨_, _, _, c3, _⟩ := h.cells
  obtain ⟨Av, cv, rfl, _, _⟩ := h.tabs.len
  clear h
  go_enter Tryz.func14, Tryz.ntmps14
  go_wp2_with fail
  go_ret
  exact ⟨rfl, Below.refl _ _⟩

def SyncTr (w0 : World) (g M room : Nat) (n : List UInt8) (big : Prop) (P : Prs) (b c : Nat) (D : Dsk) (S : Nat → Prop) (t l : Nat) (vt : Value) (W : World) (e : Ending) (W' : World) : Prop :=
  e = .returned (.int .i64 0) ∧ (syncD D n).1.now = D.now ∧ Tr w0 g M room n big P b c (syncD D n).1 (since S W W') t l vt W' ∧ TreeTo W S t l vt W' (since S W W') vt ∧
    ∀ s, Lay (pagesF D.now n) s → 0 < s.length → pagesF (syncD D n).1.safe n = pagesF D.now n ∧ ∀ w ∈ (syncD D n).1.waits, w.name ≠ n

set_option maxRecDepth 100000 in
theorem sync_s {w0 W : World} {g N room : Nat} {n : List UInt8} {big : Prop} {P : Prs} {b c : Nat} {D : Dsk} {S : Nat → Prop} {t l : Nat} {vt : Value} (h : Tr w0 g N room n big P b c D S t l vt W) (M : Nat) (hN : N + 4 ≤ M) (hM : M ≤ 137438953472) :
    Calls Tryz.prog 15 #[.pointer (some ⟨t, 0, none⟩)] W (SyncTr w0 g M room n big P b c D S t l vt W) := by
  have hlow : ∀ s, Lay (pagesF D.now n) s → 0 < s.length → pagesF (syncD D n).1.safe n = pagesF D.now n ∧ ∀ w ∈ (syncD D n).1.waits, w.name ≠ n := fun s hs h0 => (h.ample.roomy.syncL hs).2.2.2 h0
  obtain ⟨hd, hamp, hroom, vm, whole, last, tight, tabs, R, ht, hi, hP, hti, hbg⟩ := h
  obtain ⟨a1, a2, a3, _⟩ := hamp.roomy.syncL hi.lay
  have hns := hi.short
  have CS := sync_l l g N n (logO last R) S D W ht.log hd (by omega) (by omega)
  rw [a1] at CS
  have CS := Lib.hid CS
  obtain ⟨_, _, c2, _⟩ := ht.cells
  have HT := Lib.hid ht
  have HI := Lib.hid hi
  have HA := Lib.hid (And.intro a2 (And.intro a3 hamp))
  have HP := Lib.hid hP
  have HLOW := Lib.hid hlow
  have HTI := Lib.hid hti
  have HBG := Lib.hid hbg
  clear ht hi hamp a1 a2 a3 hd hP hlow hti hbg
  go_enter Tryz.func15, Tryz.ntmps15
  go_wp2_with fail
  refine CS.out.mono ?_
  rintro e w1 ⟨rfl, m1, m2⟩
  have M1 := Lib.hid m1
  have M2 := Lib.hid m2
  clear m1 m2 CS
  go_wp2_with fail
  go_ret
  obtain ⟨b2, b3, b4⟩ := HA.out
  refine ⟨rfl, b3, ⟨M1.out.mono hN hM, ample_of b2 (by have := b4.fits; omega), hroom, vm, whole, last, tight, tabs, R, HT.out.apart M2.out, ?_, HP.out, HTI.out, HBG.out⟩, ⟨fun k hk => hk, M2.out.mono fun _ => .inl, fun _ => .inl⟩, HLOW.out⟩
  exact HI.out.beside (fun m hm => HI.out.letters m (by rw [← b3]; exact hm)) (fun m _ => by rw [b3])

def findP (P : Prs) (k : List UInt8) : Option (List UInt8 × List UInt8) := P.find? fun p => p.1 == k
theorem live_len (t : List Wr) : (liveP t).length ≤ t.length := by
  unfold liveP
  rw [List.length_map]
  exact List.length_filter_le _ _
theorem len_sumB (l : List Wr) : l.length ≤ sumB l := by unfold sumB; omega
theorem sumB_mem {m : List Wr} : ∀ {ls : List (List Wr)}, m ∈ ls → sumB m ≤ sumBs ls
  | l :: ls, h => by
    have e : sumBs (l :: ls) = sumB l + sumBs ls := by simp [sumBs]
    rcases List.mem_cons.1 h with rfl | h
    · omega
    · have := sumB_mem h
      omega
structure TrIs (w0 : World) (g : Nat) (n : List UInt8) (P : Prs) (S : Nat → Prop) (t l : Nat) (vt vm : Value) (s : List UInt8) (last cnt : Nat) (tight : Int) (tabs : List (List Wr)) (mem : List Wr) (W : World) : Prop where
  at_ : TreeAt w0 W S t l g vt vm n s last cnt tight tabs mem
  lists : Lists (tabs ++ [mem])
  lens : ∀ m ∈ tabs ++ [mem], m.length ≤ 1073741824
  few : tabs.length ≤ 1000
  pairs : P = treeP tabs mem
  lim : P.length ≤ 1000000000
theorem Tr.is {w0 W : World} {g N room : Nat} {n : List UInt8} {big : Prop} {P : Prs} {b c : Nat} {D : Dsk} {S : Nat → Prop} {t l : Nat} {vt : Value} (h : Tr w0 g N room n big P b c D S t l vt W) :
    ∃ vm s last cnt tight tabs mem, TrIs w0 g n P S t l vt vm s last cnt tight tabs mem W := by
  obtain ⟨_, _, _, vm, whole, last, tight, tabs, R, ht, hi, hP, _⟩ := h
  have hbm := hi.summ
  have hby := hi.bytes
  have htb := hi.tb
  have hgm := hi.goodm
  have hlst : ∀ m ∈ tabs ++ [ofW R.flatten], GoodT m ∧ m.length ≤ 200000 := fun m hm => by
    rcases List.mem_append.1 hm with h1 | h1
    · have h2 : sumB m ≤ sumBs tabs := sumB_mem h1
      have := len_sumB m
      exact ⟨hi.good m h1, by omega⟩
    · obtain rfl := List.mem_singleton.1 h1
      have := len_sumB (ofW R.flatten)
      exact ⟨hgm, by omega⟩
  refine ⟨vm, _, last, _, tight, tabs, ofW R.flatten, ht, fun m hm => ⟨(hlst m hm).1.srt, (hlst m hm).1.flat⟩, fun m hm => by have := (hlst m hm).2; omega, ?_, hP, ?_⟩
  · have h1 := hi.tabs_len
    have h2 := hi.top
    have : (if whole = 0 then 0 else 1) ≤ 1 := by split <;> omega
    omega
  · rw [hP]
    unfold treeP
    refine Nat.le_trans (live_len _) (Nat.le_trans (ofW_len _) ?_)
    rw [List.flatten_append, List.flatten_singleton, List.length_append]
    have h1 := len_sumB tabs.flatten
    rw [sumBs_flat] at h1
    have h2 := len_sumB (ofW R.flatten)
    omega

theorem scan_t {w0 W : World} {g N room : Nat} {n : List UInt8} {big : Prop} {P : Prs} {b c : Nat} {D : Dsk} {S : Nat → Prop} {t l : Nat} {vt : Value} (h : Tr w0 g N room n big P b c D S t l vt W) (key : List UInt8) (k : Int) (hk : k ≤ 9223372036854775807) :
    Calls Tryz.prog 20 #[.pointer (some ⟨t, 0, none⟩), .string ⟨key.toArray⟩, .int .i64 k] W (ScanIs W (scanP P key k.toNat)) := by
  obtain ⟨vm, s, last, cnt, tight, tabs, mem, q⟩ := h.is
  have hl := q.lim
  rw [q.pairs] at hl ⊢
  exact scan_s q.at_ q.few q.lists q.lens hl key k hk

theorem get_t {w0 W : World} {g N room : Nat} {n : List UInt8} {big : Prop} {P : Prs} {b c : Nat} {D : Dsk} {S : Nat → Prop} {t l : Nat} {vt : Value} (h : Tr w0 g N room n big P b c D S t l vt W) (key : List UInt8) :
    Calls Tryz.prog 16 #[.pointer (some ⟨t, 0, none⟩), .string ⟨key.toArray⟩] W (fun e w' => e = .returned (.tuple #[.string ⟨(((findP P key).map fun p => p.2).getD []).toArray⟩, .bool (findP P key).isSome]) ∧ Below W.heap.size W w') := by
  obtain ⟨vm, s, last, cnt, tight, tabs, mem, q⟩ := h.is
  refine (get_s q.at_ q.few q.lists q.lens key).mono ?_
  rintro e w' ⟨rfl, hb⟩
  refine ⟨?_, hb⟩
  have h1 : findP P key = (getL (tabs ++ [mem]) key).bind fun w => if w.2.2 then none else some (w.1, w.2.1) := by
    rw [q.pairs, ← getL_tree q.lists key]
    exact live_get (ofW_srt _) key
  rw [h1]
  cases hg : getL (tabs ++ [mem]) key with
  | none => rfl
  | some x =>
    cases hx : x.2.2 with
    | false => simp [hx]
    | true =>
      have hf : flatG x = x := by
        have h2 := getL_tree q.lists key
        rw [hg] at h2
        exact ofW_flat _ x (getW_mem h2)
      have hv : x.2.1 = [] := by
        have h3 : (flatG x).2.1 = [] := by unfold flatG; rw [if_pos hx]
        rwa [hf] at h3
      simp [hx, hv]

end Go.Proofs.YtlchmkpnehbnlaaGreatDoor.Cd

/-
  has: a tree has just these pairs. Conditions: the power is on.
-/
namespace Go.Proofs.YtlchmkpnehbnlaaGreatDoor.Cd
open Go.RowKit

theorem scan_whole (P : Prs) (n : Nat) (h : P.length ≤ n) : scanP P [] n = P := by
  unfold scanP
  have e : (P.filter fun p => decide (¬ p.1 < [])) = P := List.filter_eq_self.2 fun p _ => by
    simp only [decide_eq_true_eq]
    exact List.not_lt_nil _
  rw [e, List.take_of_length_le h]
def SrtP (P : Prs) : Prop := P.Pairwise fun a b => a.1 < b.1
theorem live_srt {t : List Wr} (h : SrtW t) : SrtP (liveP t) := by
  unfold SrtP liveP
  rw [List.pairwise_map]
  exact (h.sublist List.filter_sublist).imp fun h => h
theorem find_at {P : Prs} (h : SrtP P) {i : Nat} {p : List UInt8 × List UInt8} (hp : P[i]? = some p) : findP P p.1 = some p := by
  induction P generalizing i with
  | nil => cases hp
  | cons q r ih =>
    obtain ⟨h1, h2⟩ := List.pairwise_cons.1 h
    unfold findP at ih ⊢
    rw [List.find?_cons]
    cases i with
    | zero =>
      obtain rfl : q = p := by simpa using hp
      simp
    | succ i =>
      have hp : r[i]? = some p := by simpa using hp
      have hb : (q.1 == p.1) = false := by rw [beq_eq_false_iff_ne]; exact less_ne (h1 p (List.mem_of_getElem? hp))
      rw [hb]
      exact ih h2 hp

set_option maxRecDepth 100000 in
set_option maxHeartbeats 1600000 in
theorem has_s (v : Value) (l : Prs) {w0 W : World} {g N room : Nat} {n : List UInt8} {big : Prop} {P : Prs} {b c : Nat} {D : Dsk} {S : Nat → Prop} {t lg : Nat} {vt : Value} (h : Tr w0 g N room n big P b c D S t lg vt W) (hv : PrIn W W.heap.size v l) :
    Calls Tryz.prog 18 #[.pointer (some ⟨t, 0, none⟩), v] W (fun e w' => ∃ s : Bool, e = .returned (.bool s) ∧ (s = true ↔ P = l) ∧ Below W.heap.size W w') := by
  obtain ⟨A, c, rfl, hl1, hl2⟩ := hv.len
  obtain ⟨hPl, hPs⟩ : P.length ≤ 1000000000 ∧ SrtP P := by
    obtain ⟨vm, s, last, cnt, tight, tabs, mem, q⟩ := h.is
    exact ⟨q.lim, by rw [q.pairs]; exact live_srt (ofW_srt _)⟩
  have CS : Calls Tryz.prog 20 #[.pointer (some ⟨t, 0, none⟩), .string ⟨#[]⟩, .int .i64 9223372036854775807] W (ScanIs W (scanP P [] (9223372036854775807 : Int).toNat)) := scan_t h [] 9223372036854775807 (by omega)
  rw [scan_whole P _ (by omega)] at CS
  replace CS := Lib.hid CS
  have H := Lib.hid h
  have HV := Lib.hid hv
  have HPS := Lib.hid hPs
  clear h hv hPs
  go_enter Tryz.func18, Tryz.ntmps18
  go_wp2_with fail
  refine CS.out.mono ?_
  rintro e w1 ⟨v1, rfl, ho1, hb1⟩
  have hp1 := ho1.prIn
  obtain ⟨A1, c1, rfl, _, _⟩ := hp1.len
  have CM := Lib.hid (same8_any _ _ P l w1 hp1 ((HV.out.below hb1).more hb1.size))
  have HB1 := Lib.hid hb1
  clear ho1 hb1 hp1 CS
  go_wp2_with fail
  refine CM.out.mono ?_
  rintro e w2 ⟨s, rfl, hs, hb2⟩
  have HB2 := Lib.hid (HB1.out.trans (hb2.mono HB1.out.size))
  clear hb2 CM
  cases s with
  | false =>
    have HS : Hid (P = l ↔ (false : Bool) = true) := hs.symm
    clear hs
    go_wp2_with fail
    go_ret
    exact ⟨false, rfl, HS.out.symm, HB2.out⟩
  | true =>
    obtain rfl : P = l := hs.1 rfl
    clear hs
    go_wp2_with fail
    go_loopw [16] (fun i wr => ∃ k : Nat, i = .int .i64 k ∧ k ≤ P.length ∧ Hid (Below W.heap.size W wr)) (fun i _ => P.length - (intOf i).toNat)
    case atStart => exact ⟨0, rfl, by omega, HB2.out⟩
    case round =>
      obtain ⟨k, rfl, hk, hbl⟩ := hrel
      by_cases hlt : k < P.length
      · obtain ⟨x, hxk⟩ : ∃ x, P[k]? = some x := ⟨P[k], List.getElem?_eq_getElem hlt⟩
        obtain ⟨b2, off2, e2, hB2, d0, d1⟩ := (HV.out.below hbl.out).at hxk
        subst e2
        have hfd := find_at HPS.out hxk
        have hb3 : Below W.heap.size W (wr.alloc (.cells #[.string ⟨x.1.toArray⟩, .string ⟨x.2.toArray⟩] 49)) := hbl.out.alloc hbl.out.size _
        have CG := get_t (H.out.below hb3) x.1
        rw [hfd] at CG
        replace CG := Lib.hid CG
        have HB3 := Lib.hid hb3
        have hne : (x.2 == x.2) = true := beq_self_eq_true _
        have hsz : (wr.alloc (.cells #[.string ⟨x.1.toArray⟩, .string ⟨x.2.toArray⟩] 49)).heap.size = wr.heap.size + 1 := by simp
        have hrow := heap_alloc_new wr (.cells #[.string ⟨x.1.toArray⟩, .string ⟨x.2.toArray⟩] 49)
        have HROW := Lib.hid hrow
        have HSZ := Lib.hid hsz
        clear hxk hfd hb3 hrow hsz
        go_wp2_with fail
        refine CG.out.mono ?_
        rintro e w4 ⟨rfl, hb4⟩
        have q1 : w4.cell? ⟨wr.heap.size, 1, none⟩ = some (.string ⟨x.2.toArray⟩) := (hb4.cell (p := ⟨wr.heap.size, 1, none⟩) (by show wr.heap.size < _; rw [HSZ.out]; omega)).trans (cell_of_row _ _ 1 _ _ _ HROW.out)
        have HB4 := Lib.hid (HB3.out.trans (hb4.mono HB3.out.size))
        clear hb4 CG
        go_wp2_with fail
        go_roundw
        case rel => exact ⟨k + 1, by go_num, by omega, HB4.out⟩
        case measure => simp [intOf]; omega
      · go_wp2_with fail
        go_ret
        first | exact ⟨true, rfl, by simp, hbl.out⟩ | exact ⟨rfl, hbl.out⟩

end Go.Proofs.YtlchmkpnehbnlaaGreatDoor.Cd

/-
  Trees side by side on one disk: what a call on one leaves of another; how many pages they take. Conditions: their names begin with other letters.
-/
namespace Go.Proofs.YtlchmkpnehbnlaaGreatDoor.Cd
open Go.RowKit

def Parts2 (t l : Nat) (vt : Value) (t2 l2 : Nat) (v2 : Value) : Prop := t2 ≠ t ∧ l2 ≠ l ∧ ∀ r, v2.ownBlock = some r → vt.ownBlock ≠ some r
section
variable {w0 W W' : World} {S T : Nat → Prop} {t l t2 l2 g N M room : Nat} {vt vm v2 vm2 vt' : Value} {n s n2 s2 : List UInt8} {last cnt last2 cnt2 : Nat} {tight tight2 : Int} {tabs tabs2 : List (List Wr)} {mem mem2 : List Wr}
variable {big : Prop} {P P2 P' : Prs} {b c b2 c2 b' c' : Nat} {D D' : Dsk}
theorem Tr.grow (h : Tr w0 g N room n big P b c D S t l vt W) (hN : N ≤ M) (hM : M ≤ 137438953472) {b' c' : Nat} (hb : b ≤ b') (hc : c ≤ c') (tb : b' ≤ 200000) (tc : c' ≤ 2000) : Tr w0 g M room n big P b' c' D S t l vt W := by
  obtain ⟨h1, h2, h3, vm, whole, last, tight, tabs, R, k1, k2, k3⟩ := h
  exact ⟨h1.mono hN hM, h2, h3, vm, whole, last, tight, tabs, R, k1, k2.mono hb hc tb tc, k3⟩
theorem Tr.base (h : Tr w0 g N room n big P b c D S t l vt W) : Below w0.heap.size w0 W ∧ ∀ k, treeU S t l vt k → w0.heap.size ≤ k := by
  obtain ⟨_, _, _, vm, whole, last, tight, tabs, R, k1, _⟩ := h
  exact ⟨k1.base, k1.low⟩
theorem Parts2.after (h : Parts2 t l vt t2 l2 v2) (to : TreeTo W S t l vt W' T vt') (hr : ∀ r, v2.ownBlock = some r → r < W.heap.size) : Parts2 t l vt' t2 l2 v2 := by
  obtain ⟨q1, q2, q3⟩ := h
  refine ⟨q1, q2, fun r h1 h2 => ?_⟩
  rcases to.row r h2 with h3 | h3
  · exact q3 r h1 h3
  · have := hr r h1; omega
end

theorem LsI.span {D : Dsk} {n : List UInt8} {whole last b c : Nat} {tabs R : List (List Wr)} (h : LsI D n whole last tabs R b c) : ∃ L : List (List UInt8), (∀ m, (getF D.now m).isSome = true → m.head? = n.head? → m ∈ L) ∧ 510 * ((L.map fun m => (pagesF D.now m).length).sum) ≤ 2 * b + 60 * c + 510 + 540 * tabs.length :=
  ⟨_, fun m hm hh => by
    rcases h.own m hm hh with e | e
    · rw [e]; exact List.mem_cons_self
    · exact List.mem_cons_of_mem _ e, h.pages⟩
def Heads (D : Dsk) (hs : List (List UInt8)) : Prop := ∀ m, (getF D.now m).isSome = true → ∃ n ∈ hs, m.head? = n.head?
theorem Heads.go {D D' : Dsk} {hs : List (List UInt8)} {n : List UInt8} (h : Heads D hs) (hn : n ∈ hs) (hg : ∀ m, m.head? ≠ n.head? → getF D'.now m = getF D.now m) : Heads D' hs := fun m hm => by
  by_cases e : m.head? = n.head?
  · exact ⟨n, hn, e⟩
  · exact h m (by rw [← hg m e]; exact hm)
theorem Heads.same {D D' : Dsk} {hs : List (List UInt8)} (h : Heads D hs) (hg : ∀ m, getF D'.now m = getF D.now m) : Heads D' hs := fun m hm => h m (by rw [← hg m]; exact hm)
theorem spans {D : Dsk} {q : Nat} : ∀ (hs : List (List UInt8)), (∀ n ∈ hs, ∃ L : List (List UInt8), (∀ m, (getF D.now m).isSome = true → m.head? = n.head? → m ∈ L) ∧ 510 * ((L.map fun m => (pagesF D.now m).length).sum) ≤ q) →
    ∃ L : List (List UInt8), (∀ n ∈ hs, ∀ m, (getF D.now m).isSome = true → m.head? = n.head? → m ∈ L) ∧ 510 * ((L.map fun m => (pagesF D.now m).length).sum) ≤ hs.length * q
  | [], _ => ⟨[], (fun _ h => by cases h), by simp⟩
  | n :: r, h => by
    obtain ⟨L, h1, h2⟩ := h n (by simp)
    obtain ⟨L2, h3, h4⟩ := spans r fun m hm => h m (by simp [hm])
    refine ⟨L ++ L2, fun k hk m hm hh => ?_, ?_⟩
    · rcases List.mem_cons.1 hk with rfl | hk
      · exact List.mem_append_left _ (h1 m hm hh)
      · exact List.mem_append_right _ (h3 k hk m hm hh)
    · have hq : (r.length + 1) * q = r.length * q + q := Nat.succ_mul _ _
      rw [List.map_append, List.sum_append, List.length_cons, hq]
      omega
theorem count_heads {D : Dsk} {q : Nat} {hs : List (List UInt8)} (ho : Once D.now) (hh : Heads D hs) (h : ∀ n ∈ hs, ∃ L : List (List UInt8), (∀ m, (getF D.now m).isSome = true → m.head? = n.head? → m ∈ L) ∧ 510 * ((L.map fun m => (pagesF D.now m).length).sum) ≤ q) : 510 * count D.now ≤ hs.length * q := by
  obtain ⟨L, h1, h2⟩ := spans hs h
  have := count_sum L D.now ho fun m hm => by
    obtain ⟨n, hn, e⟩ := hh m hm
    exact h1 n hn m hm e
  omega

theorem big_heads {D E : Dsk} {hs : List (List UInt8)} {n : List UInt8} {whole last b c : Nat} {tabs R : List (List Wr)} (hh : Heads D hs) (hn : n ∈ hs) (hi : LsI E n whole last tabs R b c) (ht : tabs.length ≤ 4) (hg : ∀ m, m.head? ≠ n.head? → getF E.now m = getF D.now m) (ho : Once E.now)
    (hoth : ∀ n2 ∈ hs, n2 ≠ n → n2.head? ≠ n.head? ∧ ∃ whole last tabs R, LsI D n2 whole last tabs R b c ∧ tabs.length ≤ 4) : 510 * count E.now ≤ hs.length * (2 * b + 60 * c + 2670) :=
  count_heads ho (hh.go hn hg) fun n2 hn2 => by
    by_cases e : n2 = n
    · subst e
      obtain ⟨L, l1, l2⟩ := hi.span
      exact ⟨L, l1, by omega⟩
    · obtain ⟨h1, w2, a2, t2, r2, h2, h3⟩ := hoth n2 hn2 e
      obtain ⟨L, l1, l2⟩ := (h2.beside (D' := E) hi.letters (fun m hm => hg m (by rw [hm]; exact h1))).span
      exact ⟨L, l1, by omega⟩
theorem apply_any (v : Value) (ws : List Wr) {w0 W : World} {g N room : Nat} {n : List UInt8} {big : Prop} {P : Prs} {b c : Nat} {D : Dsk} {S : Nat → Prop} {t l : Nat} {vt : Value} (h : Tr w0 g N room n big P b c D S t l vt W) (he : ErrAt w0) (M : Nat)
    (hv : TbIn W W.heap.size v ws) (hl : long8 ws = false) (hb : b + sumB ws ≤ 200000) (hc : c + ws.length ≤ 2000)
    (hbig : big → ∀ (E : Dsk) whole last tabs R, LsI E n whole last tabs R (b + sumB ws) (c + ws.length) → tabs.length ≤ 4 → (∀ m, m.head? ≠ n.head? → getF E.now m = getF D.now m) → Once E.now → count E.now + 800 ≤ room)
    (hN : N + 100000 ≤ M) (hM : M ≤ 137438953472) :
    Calls Tryz.prog 13 #[.pointer (some ⟨t, 0, none⟩), v] W (ApplyIs w0 g M room n big P b c D S t l vt ws W) := by
  by_cases h0 : ws = []
  · subst h0
    refine (apply_none t v W hv).mono ?_
    rintro e w' ⟨rfl, hb2⟩
    exact .inr ⟨rfl, S, D, vt, (h.below hb2).grow (by omega) hM (by omega) (by omega) hb hc, TreeTo.below hb2, (fun _ _ => rfl), fun _ => rfl⟩
  · exact apply_s v ws h he M hv hl h0 hb hc hbig hN hM

theorem tables_t {w0 W : World} {g N room : Nat} {n : List UInt8} {big : Prop} {P : Prs} {b c : Nat} {D : Dsk} {S : Nat → Prop} {t l : Nat} {vt : Value} (h : Tr w0 g N room n big P b c D S t l vt W) (hb : big) :
    Calls Tryz.prog 14 #[.pointer (some ⟨t, 0, none⟩)] W (fun e w' => ∃ k : Nat, k ≤ 3 ∧ e = .returned (.int .i64 k) ∧ Below W.heap.size W w') := by
  obtain ⟨_, _, _, vm, whole, last, tight, tabs, R, k1, _, _, _, k5⟩ := h
  refine (tables_s k1).mono ?_
  rintro e w' ⟨rfl, hb2⟩
  exact ⟨_, (k5 hb).2, rfl, hb2⟩

structure PrFar (W : World) (U : Nat → Prop) (v : Value) (P : Prs) : Prop where
  own : OwnPr W 0 v P
  far : ∀ r, v.ownBlock = some r → ¬ U r
theorem PrFar.go {W W' : World} {U U' : Nat → Prop} {v : Value} {P : Prs} (h : PrFar W U v P) (ha : Apart U W W') (hU : ∀ k, k < W.heap.size → U' k → U k) : PrFar W' U' v P :=
  ⟨h.own.off ha h.far, fun r hr hu => h.far r hr (hU r (World.ownsRow.lt h.own r hr).2 hu)⟩
theorem PrFar.below {W W' : World} {U : Nat → Prop} {v : Value} {P : Prs} (h : PrFar W U v P) (hb : Below W.heap.size W W') : PrFar W' U v P := ⟨h.own.keep hb, h.far⟩
theorem PrFar.nil (W : World) (U : Nat → Prop) : PrFar W U (.slice none 0 0) [] := ⟨OwnPr.nil _ _, fun _ h => by cases h⟩
theorem PrFar.all {W W' : World} {U : Nat → Prop} {v v' : Value} {P : Prs} {ws : List Wr} (h : PrFar W U v P) (hU : ∀ k, U k → k < W.heap.size) (ho : (ws = [] ∧ v' = v) ∨ OwnPr W' W.heap.size v' (allP P ws)) (hb : Below W.heap.size W W') : PrFar W' U v' (allP P ws) := by
  rcases ho with ⟨rfl, rfl⟩ | ho
  · exact h.below hb
  · exact ⟨ho.lower (Nat.zero_le _), fun r hr hu => by have := (World.ownsRow.lt ho r hr).1; have := hU r hu; omega⟩
theorem TreeTo.old {W W' : World} {S T : Nat → Prop} {t l : Nat} {vt vt' : Value} (h : TreeTo W S t l vt W' T vt') : ∀ k, k < W.heap.size → treeU T t l vt' k → treeU S t l vt k := fun k hk hu => by
  rcases hu with hu | hu | hu | hu
  · exact .inl ((since_old hk).1 (h.sets k hu))
  · exact .inr (.inl hu)
  · exact .inr (.inr (.inl hu))
  · rcases h.row k hu with h1 | h1
    · exact .inr (.inr (.inr h1))
    · omega

end Go.Proofs.YtlchmkpnehbnlaaGreatDoor.Cd

/-
  What the document tells of a tree. Conditions: the library's error lies where the program laid it.
-/
namespace Go.Proofs.YtlchmkpnehbnlaaGreatDoor.Cd
open Go.RowKit

theorem DkS.within {w : World} {g N : Nat} {S : Nat → Prop} {D : Dsk} (h : DkS w g N S D) : Once D.safe ∧ ∀ m, (getF D.safe m).isSome = true → (getF D.now m).isSome = true := by
  obtain ⟨P, _, h2⟩ := h
  exact ⟨h2.safe.once, fun m hm => h2.names m (h2.safe.has m hm)⟩

theorem alive_lost {D2 D4 : Dsk} {n : List UInt8} {whole last last4 whole4 b c b4 c4 : Nat} {tabs R tabs4 R4 : List (List Wr)} (h2 : LsI D2 n whole last tabs R b c) (h4 : LsI D4 n whole4 last4 tabs4 R4 b4 c4) (hc : c < 24) (hc4 : c4 < 24)
    (ho : D4.off = false) (hs : pagesF D4.safe n = pagesF D2.now n) (hw : ∀ m, (getF D4.safe m).isSome = true → (getF D4.now m).isSome = true) : tabs = [] ∧ LsI (onD (lose D4 0)) n 0 0 [] R b c := by
  have hl : last = 0 := by have := h2.few; omega
  have hl4 : last4 = 0 := by have := h4.few; omega
  have hw0 : whole = 0 := by have := h2.le; omega
  have hw4 : whole4 = 0 := by have := h4.le; omega
  subst hl hl4 hw0 hw4
  have ht : tabs = [] := List.eq_nil_of_length_eq_zero (by have := h2.tabs_len; simpa using this)
  have hnm : ∀ m, (getF (onD (lose D4 0)).now m).isSome = true → (getF D4.now m).isSome = true := fun m hm => by
    have hm : (getF (lose D4 0).now m).isSome = true := hm
    rw [(lose_is ho 0).1, keeps_zero] at hm
    rcases there_names _ _ m hm with h | h
    · exact hw m h
    · exact h
  refine ⟨ht, h2.ne, h2.short, fun m hm => h4.letters m (hnm m hm), fun m hm hh => ?_, ⟨rfl, fun _ _ _ h => by cases h⟩, Nat.le_refl _, ?_, (fun _ h => by cases h), h2.goodr, ?_, h2.few, h2.tb, h2.tc⟩
  · exact h4.own m (hnm m hm) hh
  · show Lay (pagesF (lose D4 0).now n) _
    rw [lose_zero ho, hs]
    exact h2.lay
  · have := h2.bytes
    show 0 + sumBs R ≤ b
    omega

def aW1 : List Wr := [⟨[97], [49], false⟩]
def aW2 : List Wr := [⟨[97], [], true⟩, ⟨[98], [50], false⟩]
set_option maxRecDepth 100000 in
set_option maxHeartbeats 6400000 in
theorem alive11 (w : World) (he : ErrAt w) : Calls Tryz.prog 7 #[] w (Gives (.bool true) w) := by
  have HE := Lib.hid he
  clear he
  go_enter Tryz.func7, Tryz.ntmps7
  go_wp2_with fail
  refine (new_dks 60 w (by omega) (by omega)).mono ?_
  rintro e w1 ⟨g, S, rfl, hd, hS, hb1⟩
  have hL : Letter [116] := ⟨116, [], rfl, by decide, by decide, by decide⟩
  have CO := open_s False hd (ample_of (new_roomy (room := 60) (by omega)) (by omega)) (by omega) (lsI_new hL (by simp) (fun m hm => by simp [newD, getF] at hm)) HE.out hb1 hS 2000 (by omega) (by omega) (fun h => h.elim)
  have CO := Lib.hid CO
  clear hd hS hb1
  go_wp2_with fail
  refine CO.out.mono ?_
  rintro e w2 ⟨T2, D2, t, l, vt, rfl, htr, hsame, _, _, _, _, _⟩
  have hh2 : Heads D2 [[116]] := fun m hm => by rw [hsame m] at hm; simp [newD, getF] at hm
  have hP : treeP ([] : List (List Wr)) (ofW ([] : List (List Wr)).flatten) = [] := rfl
  rw [hP] at htr
  have HTR := Lib.hid htr
  have HH2 := Lib.hid hh2
  clear htr hsame hh2 hP CO
  go_wp2_with fail
  obtain ⟨w3, hw3⟩ : ∃ x, w2.alloc (.cells #[.string ⟨#[97]⟩, .string ⟨#[49]⟩, .bool false] 52) = x := ⟨_, rfl⟩
  have hb3 : Below w2.heap.size w2 w3 := by rw [← hw3]; exact (Below.refl _ _).alloc (Nat.le_refl _) _
  have hin3 : TbIn w3 w3.heap.size (.slice (some ⟨w2.heap.size, 0, none⟩) 1 1) aW1 := by
    rw [← hw3]
    exact tb_new w2 aW1 (by simp [aW1]) 52
  have CA := apply_any _ aW1 (HTR.out.below hb3) HE.out 200000 hin3 rfl (by decide) (by decide) (fun h => h.elim) (by omega) (by omega)
  have CA := Lib.hid CA
  rw [hw3]
  clear hin3 hw3 hb3
  refine CA.out.mono ?_
  intro e w4 ha
  rcases ha with ⟨_, _, hfull, _⟩ | ⟨rfl, T4, D4, vt4, htr4, _, hg4, _⟩
  · exfalso
    have h0 : count D2.now ≤ 1 := by
      obtain ⟨_, _, _, _, _, _, _, tabs, R, _, k2, _⟩ := HTR.out
      have hq := k2.pages
      have h1 := count_heads (q := 510) HTR.out.ample.roomy.once HH2.out (fun n hn => by
        obtain rfl := List.mem_singleton.1 hn
        obtain ⟨L, l1, l2⟩ := k2.span
        have : tabs.length = 0 := by have h3 := k2.tabs_len; have h4 := k2.few; have h5 := k2.le; split at h3 <;> omega
        exact ⟨L, l1, by omega⟩)
      simp at h1
      omega
    have : sumB aW1 = 32 := by decide
    omega
  have hh4 := HH2.out.go (n := [116]) (by simp) hg4
  have HT4 := Lib.hid htr4
  have HH4 := Lib.hid hh4
  clear htr4 hg4 hh4 HTR HH2 CA
  have CS := Lib.hid (sync_s HT4.out 300000 (by omega) (by omega))
  go_wp2_with fail
  refine CS.out.mono ?_
  rintro e w5 ⟨rfl, hn5, htr5, _, hlow⟩
  have hP5 : allP [] aW1 = [([97], [49])] := rfl
  have hlay5 : pagesF (syncD D4 [116]).1.safe [116] = pagesF D4.now [116] := by
    obtain ⟨_, _, _, _, whole, last, _, tabs, R, _, k2, k3, _⟩ := HT4.out
    refine (hlow (logO last R) k2.lay ?_).1
    have h7 : aW1.length = 1 := rfl
    have hl : last = 0 := by have := k2.few; omega
    have hw0 : whole = 0 := by have := k2.le; omega
    have ht : tabs = [] := List.eq_nil_of_length_eq_zero (by have := k2.tabs_len; rw [hl, hw0] at this; simpa using this)
    cases R with
    | nil => rw [ht] at k3; exact absurd k3 (by decide)
    | cons X r =>
      show 0 < (flat ((X :: r).map (recO (last + 1)))).length
      rw [List.map_cons, flat_cons, List.length_append]
      have := frm_ge (recO (last + 1) X)
      omega
  have HT5 := Lib.hid htr5
  have HN5 := Lib.hid hn5
  have HY5 := Lib.hid hlay5
  have HH5 := Lib.hid (show Heads (syncD D4 [116]).1 [[116]] from HH4.out.same fun m => by rw [hn5])
  obtain ⟨D5, hD5⟩ : ∃ x, (syncD D4 [116]).1 = x := ⟨_, rfl⟩
  rw [hD5] at HT5 HN5 HY5 HH5
  clear htr5 hn5 hlay5 hlow hD5 CS
  go_wp2_with fail
  obtain ⟨w6, hw6⟩ : ∃ x, w5.alloc (.cells #[.string ⟨#[97]⟩, .string ⟨#[]⟩, .bool true, .string ⟨#[98]⟩, .string ⟨#[50]⟩, .bool false] 52) = x := ⟨_, rfl⟩
  have hb6 : Below w5.heap.size w5 w6 := by rw [← hw6]; exact (Below.refl _ _).alloc (Nat.le_refl _) _
  have hin6 : TbIn w6 w6.heap.size (.slice (some ⟨w5.heap.size, 0, none⟩) 2 2) aW2 := by
    rw [← hw6]
    exact tb_new w5 aW2 (by simp [aW2]) 52
  have CA := apply_any _ aW2 (HT5.out.below hb6) HE.out 400000 hin6 rfl (by decide) (by decide) (fun h => h.elim) (by omega) (by omega)
  have CA := Lib.hid CA
  rw [hw6]
  clear hin6 hw6 hb6
  refine CA.out.mono ?_
  intro e w7 ha
  rcases ha with ⟨_, _, hfull, _⟩ | ⟨rfl, T7, D7, vt7, htr7, _, hg7, hsf7⟩
  · exfalso
    have h0 : count D5.now ≤ 1 := by
      obtain ⟨_, _, _, _, _, _, _, tabs, R, _, k2, _⟩ := HT5.out
      have h1 := count_heads (q := 800) HT5.out.ample.roomy.once HH5.out (fun n hn => by
        obtain rfl := List.mem_singleton.1 hn
        obtain ⟨L, l1, l2⟩ := k2.span
        have h6 : 0 + sumB aW1 = 32 := by decide
        have h7 : 0 + aW1.length = 1 := by decide
        have : tabs.length = 0 := by have h3 := k2.tabs_len; have h4 := k2.few; have h5 := k2.le; split at h3 <;> omega
        exact ⟨L, l1, by omega⟩)
      simp at h1
      omega
    have : sumB aW2 = 63 := by decide
    omega
  have hsf7 := hsf7 (by decide)
  have hh7 := HH5.out.go (n := [116]) (by simp) hg7
  have HT7 := Lib.hid htr7
  have HSF := Lib.hid hsf7
  have HH7 := Lib.hid hh7
  clear htr7 hg7 hh7 hsf7 CA
  have CF := Lib.hid (off_dks g 400000 T7 D7 w7 0 HT7.out.disk (by omega))
  go_wp2_with fail
  refine CF.out.mono ?_
  intro e w8 hm8
  obtain rfl := hm8.1
  have hd8 := hm8.2.1
  have ha8 := hm8.2.2
  have CN := Lib.hid (on_dks g 400000 _ (lose D7 0) w8 hd8)
  clear hm8 hd8 CF
  go_wp2_with fail
  refine CN.out.mono ?_
  intro e w9 hm9
  obtain rfl := hm9.1
  have hd9 := hm9.2.1
  have hT7 := HT7.out.base
  have hb9 : Below w.heap.size w w9 := (hT7.1.trans (ha8.low hT7.1.size fun k hk => hT7.2 k (.inl hk))).trans (hm9.2.2.low (by have := hT7.1.size; have := ha8.size; omega) fun k hk => by
    rcases hk with hk | hk
    · exact hT7.2 k (.inl hk)
    · have := hT7.1.size; omega)
  have hS9 : ∀ k, since (since T7 w7 w8) w8 w9 k → w.heap.size ≤ k := fun k hk => by
    have h1 := hT7.1.size
    have h2 := ha8.size
    rcases hk with (hk | hk) | hk
    · exact hT7.2 k (.inl hk)
    · omega
    · omega
  obtain ⟨hso, hsn⟩ := DkS.within HT7.out.disk
  have hon7 := HT7.out.ample.off
  obtain ⟨R, hR1, hi9⟩ : ∃ R, [([97], [49])] = treeP [] (ofW R.flatten) ∧ LsI (onD (lose D7 0)) [116] 0 0 [] R (0 + sumB aW1) (0 + aW1.length) := by
    obtain ⟨_, _, _, _, whole, last, _, tabs, R, _, k2, k3, _⟩ := HT4.out
    obtain ⟨_, _, _, _, whole7, last7, _, tabs7, R7, _, j2, _⟩ := HT7.out
    obtain ⟨e1, e2⟩ := alive_lost k2 j2 (by decide) (by decide) hon7 (by rw [HSF.out, HY5.out]) hsn
    subst e1
    exact ⟨R, k3, e2⟩
  have hro : Roomy (onD (lose D7 0)) 60 (count (lose D7 0).now) := by
    obtain ⟨e1, _, _, e4, e5⟩ := lose_is hon7 0
    refine ⟨rfl, e5, ?_, ?_, rfl⟩
    · show Once (lose D7 0).now
      rw [e1, keeps_zero]
      exact there_once _ _ hso
    · show (lose D7 0).room = 60
      rw [e4]
      exact HT7.out.ample.roomy.room
  have hh9 : Heads (onD (lose D7 0)) [[116]] := fun m hm => by
    have hm : (getF (lose D7 0).now m).isSome = true := hm
    rw [(lose_is hon7 0).1, keeps_zero] at hm
    rcases there_names _ _ m hm with h | h
    · exact HH7.out m (hsn m h)
    · exact HH7.out m h
  have hcnt : count (lose D7 0).now ≤ 60 := by
    have h1 := count_heads (q := 800) hro.once hh9 (fun n hn => by
      obtain rfl := List.mem_singleton.1 hn
      obtain ⟨L, l1, l2⟩ := hi9.span
      have h6 : 0 + sumB aW1 = 32 := by decide
      have h7 : 0 + aW1.length = 1 := by decide
      simp only [List.length_nil] at l2
      exact ⟨L, l1, by omega⟩)
    have h1 : 510 * count (lose D7 0).now ≤ 1 * 800 := h1
    omega
  have CO := open_s False hd9 (ample_of hro hcnt) (by omega) hi9 HE.out hb9 hS9 600000 (by omega) (by omega) (fun h => h.elim)
  rw [← hR1] at CO
  have CO := Lib.hid CO
  clear hm9 hd9 ha8 hT7 hb9 hS9 hso hsn hon7 hi9 hro hh9 hcnt hR1 CN HT4 HT5 HT7 HSF HH4 HH5 HH7 HN5 HY5
  go_wp2_with fail
  refine CO.out.mono ?_
  rintro e w10 ⟨T10, D10, t10, l10, vt10, rfl, htr10, _, _, _, _, _, _⟩
  have CG := get_t htr10 [97]
  rw [show findP [([97], [49])] [97] = some ([97], [49]) from rfl] at CG
  have CG := Lib.hid CG
  have HT10 := Lib.hid htr10
  clear htr10 CO
  go_wp2_with fail
  refine CG.out.mono ?_
  rintro e w11 ⟨rfl, hb11⟩
  have CC := scan_t (HT10.out.below hb11) [] 9 (by omega)
  rw [show scanP [([97], [49])] [] (9 : Int).toNat = [([97], [49])] from rfl] at CC
  have CC := Lib.hid CC
  have HB11 := Lib.hid (HT10.out.base.1.trans (hb11.mono HT10.out.base.1.size))
  clear hb11 CG
  go_wp2_with fail
  refine CC.out.mono ?_
  rintro e w12 ⟨v12, rfl, ho12, hb12⟩
  obtain ⟨A12, c12, rfl, _, _⟩ := ho12.prIn.len
  have HB12 := Lib.hid (HB11.out.trans (hb12.mono HB11.out.size))
  clear ho12 hb12 CC
  go_wp2_with fail
  go_ret
  exact ⟨rfl, HB12.out⟩

end Go.Proofs.YtlchmkpnehbnlaaGreatDoor.Cd

/-
  A tree that is none, and a disk that is none. Conditions: none.
-/
namespace Go.Proofs.YtlchmkpnehbnlaaGreatDoor.Cd
open Go.RowKit Go.Shelf
attribute [local go_sem] Oper.semAt_some

theorem apply_nil (v : Value) (W : World) : Calls Tryz.prog 13 #[.pointer none, v] W (Gives (.int .i64 2) W) := by
  go_enter Tryz.func13, Tryz.ntmps13
  go_wp2_with fail
  go_ret
  exact ⟨rfl, Below.refl _ _⟩
theorem syncT_nil (W : World) : Calls Tryz.prog 15 #[.pointer none] W (Gives (.int .i64 2) W) := by
  go_enter Tryz.func15, Tryz.ntmps15
  go_wp2_with fail
  go_ret
  exact ⟨rfl, Below.refl _ _⟩
theorem tables_nil (W : World) : Calls Tryz.prog 14 #[.pointer none] W (Gives (.int .i64 0) W) := by
  go_enter Tryz.func14, Tryz.ntmps14
  go_wp2_with fail
  go_ret
  exact ⟨rfl, Below.refl _ _⟩
theorem lists_nil (W : World) : Calls Tryz.prog 40 #[.pointer none] W (Gives (.slice none 0 0) W) := by
  go_enter Tryz.func40, Tryz.ntmps40
  go_wp2_with fail
  go_ret
  exact ⟨rfl, Below.refl _ _⟩
theorem lopen_nil (n : List UInt8) (W : World) : Calls Tryz.prog 24 #[.pointer none, .string ⟨n.toArray⟩] W (Gives (.tuple #[.pointer none, .slice none 0 0, .int .i64 2]) W) := by
  go_enter Tryz.func24, Tryz.ntmps24
  go_wp2_with fail
  go_ret3
  exact ⟨by simp, Below.refl _ _⟩
theorem open_nil (n : List UInt8) (W : World) : Calls Tryz.prog 9 #[.pointer none, .string ⟨n.toArray⟩] W (Gives (.tuple #[.pointer none, .int .i64 2]) W) := by
  have CO := Lib.hid (lopen_nil n W)
  go_enter Tryz.func9, Tryz.ntmps9
  go_wp2_with fail
  refine CO.out.mono ?_
  rintro e w1 ⟨rfl, hb1⟩
  have HB1 := Lib.hid hb1
  clear hb1 CO
  go_wp2_with fail
  go_ret2
  exact ⟨by simp, HB1.out⟩

set_option maxRecDepth 100000 in
set_option maxHeartbeats 1600000 in
theorem scan_nil (key : List UInt8) (W : World) : Calls Tryz.prog 20 #[.pointer none, .string ⟨key.toArray⟩, .int .i64 1] W (Gives (.slice none 0 0) W) := by
  have CL := Lib.hid (lists_nil W)
  go_enter Tryz.func20, Tryz.ntmps20
  go_wp2_with fail
  refine CL.out.mono ?_
  rintro e w1 ⟨rfl, hb1⟩
  have HB1 := Lib.hid hb1
  clear hb1 CL
  go_wp2_with fail
  go_loopw [19] (fun i wx => i = .int .i64 ((0 : Nat) : Int) ∧ Hid (Below W.heap.size W wx)) (fun _ _ => 0)
  case atStart => exact ⟨rfl, HB1.out⟩
  case round =>
    obtain ⟨rfl, hb⟩ := hrel
    go_wp2_with fail
    go_loopw [12] (fun v wx => v = .slice none 0 0 ∧ Hid (Below W.heap.size W wx)) (fun _ _ => 0)
    case atStart => exact ⟨rfl, hb.out⟩
    case round =>
      obtain ⟨rfl, hb2⟩ := hrel
      have CN := Lib.hid (next_s _ [] wr W.heap.size (RowL.nil _ _) (by simp))
      go_wp2_with fail
      refine CN.out.mono ?_
      rintro e w3 ⟨rfl, _, ha⟩
      have hb3 : Below W.heap.size W w3 := hb2.out.trans (ha.low hb2.out.size (fun q hq => by cases hq))
      have HB3 := Lib.hid (hb3.alloc hb3.size (.cells #[.string ⟨#[]⟩, .string ⟨#[]⟩, .bool false] 52))
      clear ha hb3 CN
      go_wp2_with fail
      go_ret
      exact ⟨rfl, HB3.out⟩

set_option maxRecDepth 100000 in
set_option maxHeartbeats 1600000 in
theorem lback_none (m bs : Nat) : Hands Fence.wide m Tryz.prog 74 #[.pointer (some ⟨bs, 0, none⟩)] (fun _ : Nat => #[.int .i64 0, undef]) [] (fun W => W.cell? ⟨bs, 0, none⟩ = some (.slice none 0 0)) := by
  intro l J Jx W hJ hJx hB hY h0
  have H0 := Lib.hid h0
  have x0 : W.cell? ⟨bs, 0, none⟩ = some (.slice none 0 0) := hB 0 W h0
  clear hJ hJx hB hY h0
  refine callsIn_of_wp Tryz.func74 rfl trivial ?_ rfl
  simp only [Tryz.ntmps74, List.size_toArray, List.length_cons, List.length_nil, Nat.reduceAdd, Nat.reduceSub, Array.replicate_succ, Array.replicate_zero, List.push_toArray, List.append_toArray, List.nil_append, List.cons_append]
  gi_wp2
  gi_loopw [3] (fun p wr => p = .int .i64 (-1) ∧ Hid (J 0 wr)) (fun _ _ => 0)
  case atStart => exact ⟨rfl, H0⟩
  case round =>
    obtain ⟨rfl, hJ⟩ := hrel
    gi_wp2
    go_end0
    exact ⟨⟨_, rfl⟩, .inl hJ.out⟩

set_option maxRecDepth 100000 in
set_option maxHeartbeats 6400000 in
theorem get_nil (key : List UInt8) (W : World) : Calls Tryz.prog 16 #[.pointer none, .string ⟨key.toArray⟩] W (GetIs W none) := by
  obtain ⟨W0, hW0⟩ : ∃ x, ((W.alloc (.cells #[.string ⟨key.toArray⟩] 9)).alloc (.cells #[.string ⟨#[]⟩] 9)).alloc (.cells #[.bool false] 4) = x := ⟨_, rfl⟩
  have hb0 : Below W.heap.size W W0 := by rw [← hW0]; exact (((Below.refl _ _).alloc (Nat.le_refl _) _).alloc (by simp) _).alloc (by simp; omega) _
  have hz0 : W0.heap.size = W.heap.size + 3 := by rw [← hW0]; simp
  have b1 : BoxAt W0 (W.heap.size + 1) (.string ⟨#[]⟩) 9 := by
    rw [← hW0]
    have := (BoxAt.new (W.alloc (.cells #[.string ⟨key.toArray⟩] 9)) (.string ⟨#[]⟩) 9).alloc (.cells #[.bool false] 4)
    rwa [World.size_alloc] at this
  have b2 : BoxAt W0 (W.heap.size + 2) (.bool false) 4 := by
    rw [← hW0]
    have := BoxAt.new ((W.alloc (.cells #[.string ⟨key.toArray⟩] 9)).alloc (.cells #[.string ⟨#[]⟩] 9)) (.bool false) 4
    rwa [World.size_alloc, World.size_alloc] at this
  have CL := Lib.hid (lists_nil W0)
  have B1 := Lib.hid b1
  have B2 := Lib.hid b2
  have HB0 := Lib.hid hb0
  clear b1 b2 hb0
  refine (callsIn_wide (n := 6)).1 ?_
  refine callsIn_of_wp_marks Tryz.func16 rfl trivial ?_ rfl
  simp only [Tryz.ntmps16, List.size_toArray, List.length_cons, List.length_nil, Nat.reduceAdd, Nat.reduceSub, Array.replicate_succ, Array.replicate_zero, List.push_toArray, List.append_toArray, List.nil_append, List.cons_append]
  gi_wp2_with fail
  refine ⟨trivial, (callsIn_wide.2 CL.out).mono ?_⟩
  rintro e W1 ⟨rfl, hb1⟩
  have HB1 := Lib.hid hb1
  clear hb1 CL
  gi_wp2_with fail
  refine ⟨trivial, (callsIn_wide.2 (lback_any _ _ _ _)).mono ?_⟩
  rintro e W3 ⟨rfl, hW3⟩
  have hb13 : Below W1.heap.size W1 W3 := by rw [hW3]; exact (Below.refl _ _).alloc (Nat.le_refl _) _
  have hz3 : W3.heap.size = W1.heap.size + 1 := by rw [hW3]; simp
  have hz1 : W.heap.size + 3 ≤ W1.heap.size := by have := HB1.out.size; omega
  have c3 : W3.cell? ⟨W1.heap.size, 0, none⟩ = some (.slice none 0 0) := by rw [hW3]; exact cell_of_row _ _ 0 _ _ _ (heap_alloc_new W1 _)
  have hlow3 : Below W.heap.size W W3 := HB0.out.trans ((HB1.out.trans (hb13.mono HB1.out.size)).mono (by omega))
  have d1 : BoxAt W3 (W.heap.size + 1) (.string ⟨#[]⟩) 9 := B1.out.on (((HB1.out.trans (hb13.mono HB1.out.size))).block _ (by omega))
  have d2 : BoxAt W3 (W.heap.size + 2) (.bool false) 4 := B2.out.on (((HB1.out.trans (hb13.mono HB1.out.size))).block _ (by omega))
  have C3 := Lib.hid c3
  have HLOW := Lib.hid hlow3
  have D1 := Lib.hid d1
  have D2 := Lib.hid d2
  clear hlow3 d1 d2 c3 hb13 B1 B2 HB0 HB1 hW0
  gi_wp2_with fail
  rw [← hW3]
  have HW3 := Lib.hid hW3
  clear hW3
  obtain ⟨I, hI⟩ : ∃ I : Nat → World → Prop, ∀ k X, I k X ↔ Below W3.heap.size W3 X := ⟨_, fun _ _ => Iff.rfl⟩
  have HI := Lib.hid hI
  clear hI
  refine wpIn_range rfl (by omega) (gf := 74) (lb := #[.pointer (some ⟨W1.heap.size, 0, none⟩)]) rfl trivial (enters_of Tryz.func74 (by kernel_rfl) rfl) (encs := fun _ : Nat => #[.int .i64 0, undef]) (fun _ => rfl)
    [] (fun X => X.cell? ⟨W1.heap.size, 0, none⟩ = some (.slice none 0 0)) (lback_none _ _) I (fun _ _ _ => False) ?hI ?hIx ?hBox ?h0 (fun _ => (⟨#[.pointer none, .string ⟨key.toArray⟩, undef, .pointer (some ⟨W.heap.size, 0, none⟩), .pointer (some ⟨W.heap.size + 1, 0, none⟩), .pointer (some ⟨W.heap.size + 1 + 1, 0, none⟩), undef, undef, undef, undef,
      .pointer none, .slice none 0 0, .func (.func 74) #[] #[.pointer (some ⟨W1.heap.size, 0, none⟩)], .int .i64 0, undef,
      undef, undef, undef, undef, undef, undef, undef, undef, undef, undef, undef, undef, undef, undef, undef, undef, undef, undef], []⟩ : Act)) ?assign ?body ?done ?stop
  case hI =>
    intro k
    refine ⟨fun A B hA hb => ?_, fun A o hA => ?_⟩
    · have a1 := (HI.out _ _).1 hA
      exact (HI.out _ _).2 (a1.trans (hb.mono a1.size))
    · exact (HI.out _ _).2 (below_put ((HI.out _ _).1 hA) (by omega) o)
  case hIx => exact fun c' k => ⟨fun A B hA hb => hA, fun A o hA => hA⟩
  case hBox =>
    intro k A hA
    exact (((HI.out _ _).1 hA).cell (p := ⟨W1.heap.size, 0, none⟩) (by show W1.heap.size < _; omega)).trans C3.out
  case h0 =>
    intro o
    exact (HI.out _ _).2 (((Below.refl _ _).alloc (Nat.le_refl _) _).alloc (by simp) _)
  case assign =>
    intro l x X K hK
    gi_wp2
    exact hK
  case body =>
    intro k x X hx hIk hlt3
    cases hx
  case done =>
    intro X hIk hK
    have a1 := (HI.out _ _).1 hIk
    have y0 := D1.out.on (a1.block _ (by omega))
    have y1 := D2.out.on (a1.block _ (by omega))
    have z0 := y0.cell
    have z1 := y0.frozen
    have z2 : X.cell? ⟨W.heap.size + 1 + 1, 0, none⟩ = some (.bool false) := y1.cell
    have z3 : X.frozen? ⟨W.heap.size + 1 + 1, 0, none⟩ = false := y1.frozen
    have r0 : (X.setCell ⟨W.heap.size + 1, 0, none⟩ (.string ⟨#[]⟩)).cell? ⟨W.heap.size + 1 + 1, 0, none⟩ = some (.bool false) := (World.cell?_of_block (heap_setCell_other _ _ _ _ (by show W.heap.size + 1 + 1 ≠ W.heap.size + 1; omega))).trans z2
    have r1 : (X.setCell ⟨W.heap.size + 1, 0, none⟩ (.string ⟨#[]⟩)).frozen? ⟨W.heap.size + 1 + 1, 0, none⟩ = false := by
      rw [← z3]
      simp only [World.frozen?, heap_setCell_other X ⟨W.heap.size + 1, 0, none⟩ (W.heap.size + 1 + 1) (.string ⟨#[]⟩) (by show W.heap.size + 1 + 1 ≠ W.heap.size + 1; omega)]
    have HK := Lib.hid hK
    have HA1 := Lib.hid a1
    have Y0 := Lib.hid y0
    have Y1 := Lib.hid y1
    clear hK a1 y0 y1 hIk
    gi_wp2_with fail
    obtain ⟨X2, hX2⟩ : ∃ q, (X.setCell ⟨W.heap.size + 1, 0, none⟩ (.string ⟨#[]⟩)).setCell ⟨W.heap.size + 1 + 1, 0, none⟩ (.bool false) = q := ⟨_, rfl⟩
    rw [hX2]
    have hot : ∀ q, q ≠ W.heap.size + 1 → q ≠ W.heap.size + 1 + 1 → X2.heap[q]? = X.heap[q]? := fun q h1 h2 => by rw [← hX2]; exact (heap_setCell_other _ _ _ _ h2).trans (heap_setCell_other _ _ _ _ h1)
    have g1 : BoxAt X2 (W.heap.size + 1) (.string ⟨#[]⟩) 9 := by rw [← hX2]; exact (Y0.out.set _).on (heap_setCell_other _ _ _ _ (by show W.heap.size + 1 ≠ W.heap.size + 1 + 1; omega))
    have g2 : BoxAt X2 (W.heap.size + 1 + 1) (.bool false) 4 := by rw [← hX2]; exact (Y1.out.on (W' := X.setCell ⟨W.heap.size + 1, 0, none⟩ (.string ⟨#[]⟩)) (heap_setCell_other _ _ _ _ (by show W.heap.size + 2 ≠ W.heap.size + 1; omega))).set (.bool false)
    have hk2 : X2.heap[W3.heap.size]? = some (.deferred (some [])) := (hot _ (by omega) (by omega)).trans HK.out
    have hbw : Below W.heap.size W X := HLOW.out.trans (HA1.out.mono (by omega))
    have hb2 : Below W.heap.size W X2 := ⟨by rw [← hX2]; exact hbw.os, by rw [← hX2]; exact hbw.tape, by rw [← hX2]; exact hbw.output, by rw [← hX2]; simp only [World.size_setCell]; exact hbw.size, fun k hk => (hot k (by omega) (by omega)).trans (hbw.block k hk)⟩
    refine ⟨by simp, .inl ⟨W3.heap.size, _, rfl, run_takeDeferred hk2, ⟨_, ret_get rfl _ _ (r := W.heap.size + 1) (r2 := W.heap.size + 1 + 1) (by rfl) (by rfl) (g1.on (World.putObj_heap_other (by omega))).cell (g2.on (World.putObj_heap_other (by omega))).cell, ?_⟩⟩⟩
    exact ⟨rfl, below_put hb2 (by omega) _⟩
  case stop => exact fun c' k X hk hIk hK => hIk.elim

end Go.Proofs.YtlchmkpnehbnlaaGreatDoor.Cd

/-
  LsmDoes answers true. Conditions: the library's error lies where the program laid it.
-/
namespace Go.Proofs.YtlchmkpnehbnlaaGreatDoor.Cd
open Go.RowKit

theorem skip_at {P : Program} {md : Region.Mode} {ops : Array Oper} {Q : Exit → Act → World → Prop} {S : World → Prop} {i fuel : Nat} {listed : Array Bool} {a : Act} {w : World} (d : Option Nat) (h : i < ops.size) (hd : (ops[i]'h).dst = d) (hs : Region.noSelect ops = true) (hf : Region.free md ops listed i = true) (hr : (Region.ready md ops listed).contains i = true)
    (hQ : ∀ c a w, Q (.panic c) (a.put d undef) w → Q (.panic c) a w) (hw : Region.wanted (ops[i]'h) (yielded ops a.tmps) = false) (hS : S w)
    (hrest : wpAnyH P md ops Q S fuel (listed.setIfInBounds i true) (a.put d undef) w) : wpAnyH P md ops Q S (fuel + 1) listed a w := by
  subst hd
  exact wpAnyH_take (Array.getElem?_eq_getElem h) hs hf hr hQ (.inr ⟨hw, rfl⟩) hS hrest

theorem tk {P : Program} {md : Region.Mode} {ops : Array Oper} {Q : Exit → Act → World → Prop} {S : World → Prop} {i fuel : Nat} {listed : Array Bool} {a : Act} {w : World} (v : Value) (d : Option Nat)
    (hrest : wpAnyH P md ops Q S fuel (listed.setIfInBounds i true) (a.put d v) w) (h : i < ops.size := by decide) (hd : (ops[i]'h).dst = d := by rfl) (hs : Region.noSelect ops = true := by kernel_rfl) (hf : Region.free md ops listed i = true := by kernel_rfl) (hr : (Region.ready md ops listed).contains i = true := by kernel_rfl)
    (hQ : ∀ c a w, Q (.panic c) (a.put d v) w → Q (.panic c) a w := by exact fun _ _ _ h => h) (hw : Region.wanted (ops[i]'h) (yielded ops a.tmps) = true := by rfl) (hy : ∀ W, S W → (execOp a.eval (ops[i]'h)).run P W = .ok (.value v) W := by intro W hW; go_simp) (hS : S w := by assumption) : wpAnyH P md ops Q S (fuel + 1) listed a w :=
  take_at v d h hd hs hf hr hQ hw hy hS hrest

theorem index_pr (b o n c i : Nat) (h : i < n) (W : World) : (Instr.indexAt 31 (.slice (some ⟨b, o, none⟩) n c) (.int .i64 (i : Int))).run Tryz.prog W = .ok (.pointer (some ⟨b, o + i * 2, none⟩)) W := by
  have hs : (sizeOf (Tryz.prog.elem 31)).run Tryz.prog W = .ok 2 W := by
    have he : Tryz.prog.elem 31 = 49 := by kernel_rfl
    obtain ⟨i0, hi, _, hz1, _⟩ := info_parts info_pr
    rw [he]
    simp [sizeOf, typeInfo, hi, hz1]
  have h1 := run_indexAt_slice (P := Tryz.prog) (w := W) 31 ⟨b, o, none⟩ n c .i64 (i : Int) (by kernel_rfl)
  rw [if_pos (by omega), hs] at h1
  rw [h1]
  simp [Result.andThen, Addr.add_lit]

theorem place_find (P : Prs) (k : List UInt8) : (findP P k = none → placeP P k = -1) ∧ ∀ x, findP P k = some x → ∃ j : Nat, placeP P k = (j : Int) ∧ P[j]? = some x := by
  unfold findP
  refine ⟨fun h => placeP_none fun q hq e => ?_, fun x h => ?_⟩
  · have := List.find?_eq_none.1 h q hq
    simp [e] at this
  · obtain ⟨hx, j, hj, e, hb⟩ := List.find?_eq_some_iff_getElem.1 h
    have hj2 : P[j]? = some x := by rw [List.getElem?_eq_getElem hj, e]
    refine ⟨j, placeP_some hj2 (by simpa using hx) (fun q hq e2 => ?_), hj2⟩
    obtain ⟨i, hi, rfl⟩ := List.mem_take_iff_getElem.1 hq
    have := hb i (by omega)
    simp [e2] at this

set_option maxRecDepth 100000 in
set_option maxHeartbeats 25600000 in
theorem lw_does (v : Value) (l : List St11) (w : World) (he : ErrAt w) (hv : Stps w w.heap.size v l) (hok : ∀ p ∈ l, p.Ok) :
    Calls Tryz.prog 3 #[v] w (Gives (.bool true) w) := by
  obtain ⟨A, c, rfl, hv2, hv3⟩ := hv.len
  have CA := Lib.hid (alive11 w he)
  have HV := Lib.hid hv
  have HOK := Lib.hid hok
  have HE := Lib.hid he
  clear hv hok he
  go_enter Tryz.func3, Tryz.ntmps3
  go_wp2_with fail
  refine CA.out.mono ?_
  rintro e w1 ⟨rfl, hb1⟩
  have CG := Lib.hid (great11_any _ l w1 (by have := hb1.size; exact (HV.out.below hb1).more this) HOK.out)
  have HB1 := Lib.hid hb1
  clear hb1 CA
  go_wp2_with fail
  refine CG.out.mono ?_
  rintro e w2 ⟨gr, rfl, hb2, hsm⟩
  have HB2 := Lib.hid (HB1.out.trans (hb2.mono HB1.out.size))
  clear hb2 CG
  cases gr
  case true =>
    clear hsm
    go_wp2_with fail
    go_ret
    exact ⟨rfl, HB2.out⟩
  obtain ⟨hl60, hwt⟩ := hsm rfl
  clear hsm
  go_wp2_with fail
  refine (new_dks 4096 w2 (by omega) (by omega)).mono ?_
  rintro e w3 ⟨g, S, rfl, hd, hS, hb3⟩
  have hLT : Letter [116] := ⟨116, [], rfl, by decide, by decide, by decide⟩
  have CO := open_s True hd (ample_of (new_roomy (room := 4096) (by omega)) (by omega)) (by omega) (lsI_new hLT (by simp) (fun m hm => by simp [newD, getF] at hm)) HE.out (HB2.out.trans (hb3.mono HB2.out.size)) (fun k hk => Nat.le_trans HB2.out.size (hS k hk)) 100000 (by omega) (by omega) (fun _ => by simp)
  have CO := Lib.hid CO
  clear hd hS hb3 hLT
  go_wp2_with fail
  refine CO.out.mono ?_
  rintro e w4 ⟨T4, D4, t, lt, vt, rfl, htr, hs4, _, _, _, _, _⟩
  have hP : treeP ([] : List (List Wr)) (ofW ([] : List (List Wr)).flatten) = [] := rfl
  rw [hP] at htr
  have hh4 : Heads D4 [[116]] := fun m hm => by rw [hs4 m] at hm; simp [newD, getF] at hm
  have HTR := Lib.hid htr
  have HH4 := Lib.hid hh4
  clear htr hP hs4 hh4 CO
  go_wp2_with fail
  go_loopw [5, 30] (fun pv i wr => ∃ (k : Nat) (P : Prs) (D : Dsk) (S : Nat → Prop) (vt : Value), i = .int .i64 k ∧ k ≤ l.length ∧ Hid (Tr w g (100000 + 400000 * k) 4096 [116] True P (bOf (l.take k)) (cOf (l.take k)) D S t lt vt wr) ∧ Hid (PrFar wr (treeU S t lt vt) pv P) ∧ Hid (Heads D [[116]])) (fun _ i _ => l.length - (intOf i).toNat)
  case atStart => exact ⟨0, [], D4, T4, vt, rfl, by omega, HTR.out, PrFar.nil _ _, HH4.out⟩
  case round =>
    obtain ⟨k, P, D, S, vt, rfl, hk, htr, hpr, hh⟩ := hrel
    have HBW := Lib.hid htr.out.base.1
    have HROW := Lib.hid htr.out.row
    by_cases hlt : k < l.length
    · obtain ⟨p, hpk⟩ : ∃ p, l[k]? = some p := ⟨l[k], List.getElem?_eq_getElem hlt⟩
      obtain ⟨b, off, u, rfl, hB, hin, hnum, c0, c1, c2, c3, c4, c5, c6⟩ := HV.out.at HBW.out hpk
      obtain ⟨Au, cu, rfl, hcu1, hcu2⟩ := hin.len
      obtain ⟨hn1, hn2⟩ := bounds_i64 hnum
      obtain ⟨hbs, hcs⟩ := bOf_snoc hpk
      have hsm := small11 hwt (k + 1)
      rw [hbs, hcs] at hsm
      have HIN := Lib.hid hin
      have HBS := Lib.hid (And.intro hbs hcs)
      have hz := HBW.out.size
      obtain ⟨w5, hw5⟩ : ∃ x, wr.alloc (.cells #[.slice Au p.ws.length cu, .string ⟨p.fro.toArray⟩, .int .i64 p.n, .bool p.syn, .bool p.aga, .int .i64 p.fuse, .int .u64 p.keep] 35) = x := ⟨_, rfl⟩
      have hb5 : Below wr.heap.size wr w5 := by rw [← hw5]; exact (Below.refl _ _).alloc (Nat.le_refl _) _
      have hr5 : w5.heap[wr.heap.size]? = some (.cells #[.slice Au p.ws.length cu, .string ⟨p.fro.toArray⟩, .int .i64 p.n, .bool p.syn, .bool p.aga, .int .i64 p.fuse, .int .u64 p.keep] 35) := by rw [← hw5]; exact heap_alloc_new _ _
      have hz5 : w5.heap.size = wr.heap.size + 1 := by rw [← hw5]; simp
      obtain ⟨xb, hxb⟩ : ∃ x, wr.heap.size = x := ⟨_, rfl⟩
      rw [hxb] at hr5
      have HXB := Lib.hid hxb
      have q5 : w5.cell? ⟨xb, 0, none⟩ = some (.slice Au p.ws.length cu) := cell_of_row _ _ 0 _ _ _ hr5
      have HTR5 := Lib.hid (htr.out.below hb5)
      have HPR5 := Lib.hid (hpr.out.below hb5)
      have HW5 := Lib.hid hw5
      have HB5 := Lib.hid (HBW.out.trans (hb5.mono hz))
      have HR5 := Lib.hid hr5
      have HSZ := Lib.hid (show xb < w5.heap.size by omega)
      have CL := Lib.hid (fun W' (hb : Below w.heap.size w W') => rlong8_any _ p.ws W' ((HIN.out.below hb).more hb.size))
      clear hpk hin hbs hcs hb5 hr5 hw5 htr hpr hz5 hnum
      go_wp2_with fail
      rw [HW5.out]
      refine (CL.out w5 HB5.out).mono ?_
      rintro e w6 ⟨rfl, hb6⟩
      have HTR6 := Lib.hid (HTR5.out.below hb6)
      have HPR6 := Lib.hid (HPR5.out.below hb6)
      have HB6 := Lib.hid (HB5.out.trans (hb6.mono HB5.out.size))
      have hr6 := (hb6.block xb HSZ.out).trans HR5.out
      have q6 : w6.cell? ⟨xb, 0, none⟩ = some (.slice Au p.ws.length cu) := cell_of_row _ _ 0 _ _ _ hr6
      have HR6 := Lib.hid hr6
      have HS6 := Lib.hid (show xb < w6.heap.size by have := hb6.size; have := HSZ.out; omega)
      have hlimP : P.length ≤ 1000000000 := by obtain ⟨_, _, _, _, _, _, _, q⟩ := HTR6.out.is; exact q.lim
      clear hb6 hr6 CL HTR5 HPR5 q5 hxb
      cases hlong : long8 p.ws
      case' true =>
        have CA := Lib.hid (apply_long t _ p.ws w6 ((HIN.out.below HB6.out).more HB6.out.size) hlong)
        go_wp2_with fail
        refine CA.out.mono ?_
        rintro e w8 ⟨rfl, hb8⟩
        have HTR8 := Lib.hid ((HTR6.out.below hb8).grow (M := 200000 + 400000 * k) (b' := bOf (l.take k) + sumB p.ws) (c' := cOf (l.take k) + p.ws.length) (by omega) (by omega) (by omega) (by omega) (by omega) (by omega))
        have HPR8 := Lib.hid (HPR6.out.below hb8)
        have hr8 := (hb8.block xb HS6.out).trans HR6.out
        have HS8 := Lib.hid (show xb < w8.heap.size by have := hb8.size; have := HS6.out; omega)
        obtain ⟨P8, hP8⟩ : ∃ x, P = x := ⟨_, rfl⟩
        obtain ⟨D8, hD8⟩ : ∃ x, D = x := ⟨_, rfl⟩
        obtain ⟨S8, hS8⟩ : ∃ x, S = x := ⟨_, rfl⟩
        obtain ⟨vt8, hvt8⟩ : ∃ x, vt = x := ⟨_, rfl⟩
        have HN8 : Hid (¬ treeU S t lt vt xb) := fun hu => by have := HROW.out _ hu; have := HXB.out; omega
        rw [hS8, hvt8] at HN8
        rw [hP8, hD8, hS8, hvt8] at HTR8
        rw [hP8, hS8, hvt8] at HPR8
        rw [hD8] at hh
        have HH8 := hh
        clear hb8 CA
      case' false =>
        have CR := Lib.hid (rall_any _ _ P p.ws w6 HPR6.out.own.prIn ((HIN.out.below HB6.out).more HB6.out.size) (by omega))
        go_wp2_with fail
        refine CR.out.mono ?_
        rintro e w7 ⟨v7, rfl, ho7, _, hb7⟩
        have HPR7 := Lib.hid (HPR6.out.all HTR6.out.row ho7 hb7)
        have HTR7 := Lib.hid (HTR6.out.below hb7)
        have HB7 := Lib.hid (HB6.out.trans (hb7.mono HB6.out.size))
        have hr7 := (hb7.block xb HS6.out).trans HR6.out
        have q7 : w7.cell? ⟨xb, 0, none⟩ = some (.slice Au p.ws.length cu) := cell_of_row _ _ 0 _ _ _ hr7
        have HR7 := Lib.hid hr7
        have HS7 := Lib.hid (show xb < w7.heap.size by have := hb7.size; have := HS6.out; omega)
        have CA := Lib.hid (apply_any _ p.ws HTR7.out HE.out (200000 + 400000 * k) ((HIN.out.below HB7.out).more HB7.out.size) hlong (by omega) (by omega) (fun _ E whole last tabs R hi ht hg ho => by
          have h1 := big_heads hh.out (by simp) (hi.mono (b' := 93000) (c' := 1000) (by omega) (by omega) (by omega) (by omega)) ht hg ho (fun m hm hne => absurd (List.mem_singleton.1 hm) hne)
          have h1 : 510 * count E.now ≤ 1 * (2 * 93000 + 60 * 1000 + 2670) := h1
          omega) (by omega) (by omega))
        clear ho7 hb7 hr7 CR
        go_wp2_with fail
        refine CA.out.mono ?_
        rintro e w8 (⟨_, hn, _⟩ | ⟨rfl, S8, D8, vt8, htr8, hto, hg8, _⟩)
        · exact absurd trivial hn
        have HTR8 := Lib.hid htr8
        have HPR8 := Lib.hid (HPR7.out.go hto.apart hto.old)
        have HH8 := Lib.hid (hh.out.go (n := [116]) (by simp) hg8)
        have hr8 := (hto.apart.block xb HS7.out (fun hu => by have := HROW.out _ hu; have := HXB.out; omega)).trans HR7.out
        have HS8 := Lib.hid (show xb < w8.heap.size by have := hto.apart.size; have := HS7.out; omega)
        have HN8 : Hid (¬ treeU S8 t lt vt8 xb) := fun hu => by have := HROW.out _ (hto.old _ HS7.out hu); have := HXB.out; omega
        obtain ⟨P8, hP8⟩ : ∃ x, allP P p.ws = x := ⟨_, rfl⟩
        rw [hP8] at HTR8 HPR8
        clear htr8 hto hg8 CA HPR7 HTR7 q7
      all_goals
        obtain ⟨Ap, cp, rfl, _, _⟩ := HPR8.out.own.prIn.len
        have q8 : w8.cell? ⟨xb, 3, none⟩ = some (.bool p.syn) := cell_of_row _ _ 3 _ _ _ hr8
        have HR8 := Lib.hid hr8
        have CT := Lib.hid (tables_t HTR8.out trivial)
        clear hr8 q6
        go_wp2_with fail
        refine CT.out.mono ?_
        rintro e w9 ⟨kt, hkt, rfl, hb9⟩
        have hkt4 : decide ((4 : Int) < (kt : Int)) = false := decide_eq_false (by omega)
        have HTR9 := Lib.hid (HTR8.out.below hb9)
        have HPR9 := Lib.hid (HPR8.out.below hb9)
        have hr9 := (hb9.block xb HS8.out).trans HR8.out
        have q9 : w9.cell? ⟨xb, 3, none⟩ = some (.bool p.syn) := cell_of_row _ _ 3 _ _ _ hr9
        have HR9 := Lib.hid hr9
        have HS9 := Lib.hid (show xb < w9.heap.size by have := hb9.size; have := HS8.out; omega)
        clear hb9 hr9 CT HTR8 HPR8 q8
        cases hsyn : p.syn
        case' true =>
          rw [hsyn] at q9
          have CS := Lib.hid (sync_s HTR9.out (300000 + 400000 * k) (by omega) (by omega))
          go_wp2_with fail
          refine CS.out.mono ?_
          rintro e we ⟨rfl, hnow, htre, hto, _⟩
          have HTE := Lib.hid htre
          have HPE := Lib.hid (HPR9.out.go hto.apart hto.old)
          have HH0 := Lib.hid (HH8.out.same (D' := (syncD D8 [116]).1) fun m => by rw [hnow])
          have hre := (hto.apart.block xb HS9.out HN8.out).trans HR9.out
          have HSE := Lib.hid (show xb < we.heap.size by have := hto.apart.size; have := HS9.out; omega)
          have qe : we.cell? ⟨xb, 1, none⟩ = some (.string ⟨p.fro.toArray⟩) := cell_of_row _ _ 1 _ _ _ hre
          clear htre hto hnow CS
          go_wp2_with fail
        case' false =>
          rw [hsyn] at q9
          obtain ⟨we, hwe⟩ : ∃ x, w9 = x := ⟨_, rfl⟩
          rw [hwe] at HTR9 HPR9 HR9 HS9 q9 ⊢
          have HTE := Lib.hid (HTR9.out.grow (M := 300000 + 400000 * k) (by omega) (by omega) (Nat.le_refl _) (Nat.le_refl _) (by omega) (by omega))
          have HPE := HPR9
          have HH0 := HH8
          have hre := HR9.out
          have HSE := HS9
          have qe : we.cell? ⟨xb, 1, none⟩ = some (.string ⟨p.fro.toArray⟩) := cell_of_row _ _ 1 _ _ _ hre
          clear hwe
          go_wp2_with fail
        all_goals
          have HRE := Lib.hid hre
          have hlim : P8.length ≤ 1073741824 := by obtain ⟨_, _, _, _, _, _, _, q⟩ := HTE.out.is; have := q.lim; omega
          have CG1 := get_t HTE.out p.fro
          have HPL := Lib.hid (place_find P8 p.fro)
          obtain ⟨ofi, hofi⟩ : ∃ x, findP P8 p.fro = x := ⟨_, rfl⟩
          rw [hofi] at CG1
          have HFI := Lib.hid hofi
          have CG1 := Lib.hid CG1
          clear hre hofi
          go_wp2_with fail
          refine CG1.out.mono ?_
          rintro e wf ⟨rfl, hbf⟩
          have HTF := Lib.hid (HTE.out.below hbf)
          have HPF := Lib.hid (HPE.out.below hbf)
          have HRF := Lib.hid ((hbf.block xb HSE.out).trans HRE.out)
          have HSF := Lib.hid (show xb < wf.heap.size by have := hbf.size; have := HSE.out; omega)
          have qf : wf.cell? ⟨xb, 1, none⟩ = some (.string ⟨p.fro.toArray⟩) := cell_of_row _ _ 1 _ _ _ HRF.out
          have CG2 := Lib.hid (rget_any _ P8 p.fro wf HPF.out.own.prIn)
          clear hbf CG1 HTE HPE qe
          cases ofi with
          | none =>
            obtain ⟨z, hz⟩ : ∃ z, placeP P8 p.fro = z := ⟨_, rfl⟩
            obtain rfl : z = -1 := hz.symm.trans (HPL.out.1 HFI.out)
            rw [hz] at CG2
            clear hz
            go_wp2_with fail
            refine CG2.out.mono ?_
            rintro e wg ⟨rfl, hbg⟩
            obtain ⟨W0, hW0⟩ : ∃ x, wg.drew = x := ⟨_, rfl⟩
            have hb0 : Below wf.heap.size wf W0 := by rw [← hW0]; exact hbg.drew
            have HT0 := Lib.hid (HTF.out.below hb0)
            have HP0 := Lib.hid (HPF.out.below hb0)
            have hr0 := (hb0.block xb HSF.out).trans HRF.out
            have KS : Hid (∀ W, Below W0.heap.size W0 W → W.cell? ⟨xb, 1, none⟩ = some (.string ⟨p.fro.toArray⟩) ∧ W.cell? ⟨xb, 2, none⟩ = some (.int .i64 p.n)) := fun W hW => by
              have hr := (hW.block xb (Nat.lt_of_lt_of_le HSF.out hb0.size)).trans hr0
              exact ⟨cell_of_row _ _ 1 _ _ _ hr, cell_of_row _ _ 2 _ _ _ hr⟩
            clear hbg hb0 hr0 CG2 HTF HPF
            go_wp2_with fail
            refine region_begin hW0 (S := fun W => Below W0.heap.size W0 W) (by kernel_rfl) (Below.refl _ _) (fun hHeld => ?_)
            refine tk (i := 0) (.pointer (some ⟨t, 0, none⟩)) (some 72) ?_
            simp only [Act.put, List.setIfInBounds_toArray, List.set_cons_zero, List.set_cons_succ]
            refine tk (i := 1) (.slice Ap P8.length cp) (some 73) ?_
            simp only [Act.put, List.setIfInBounds_toArray, List.set_cons_zero, List.set_cons_succ]
            refine wpAnyH_ready (rs := [2]) (by kernel_rfl) (by simp) (AllReadyH.cons (Array.getElem?_eq_getElem (i := 2) (by decide)) (fun K9 hK => ?_) AllReadyH.nil)
            go_simp
            refine (has_s _ P8 HT0.out HP0.out.own.prIn).mono ?_
            rintro e wA ⟨s1, rfl, hs, hb⟩
            obtain rfl : s1 = true := by simpa using hs
            have HDA := Lib.hid hb
            clear hs hb
            have HH := HDA.out
            refine hK.out _ _ HH (fun hHeld => ?_)
            clear hK K9 HH
            try simp only [Act.put, List.setIfInBounds_toArray, List.set_cons_zero, List.set_cons_succ]
            refine tk (i := 3) (.bool false) (some 75) ?_
            simp only [Act.put, List.setIfInBounds_toArray, List.set_cons_zero, List.set_cons_succ]
            refine tk (i := 4) (.bool false) (some 76) ?_
            simp only [Act.put, List.setIfInBounds_toArray, List.set_cons_zero, List.set_cons_succ]
            refine tk (i := 5) (.pointer (some ⟨t, 0, none⟩)) (some 77) ?_
            simp only [Act.put, List.setIfInBounds_toArray, List.set_cons_zero, List.set_cons_succ]
            refine tk (i := 6) (.pointer (some ⟨xb, 1, none⟩)) (some 78) ?_
            simp only [Act.put, List.setIfInBounds_toArray, List.set_cons_zero, List.set_cons_succ]
            refine take_at (i := 7) (.string ⟨p.fro.toArray⟩) (some 79) (by decide) (by rfl) (by kernel_rfl) (by kernel_rfl) (by kernel_rfl) (fun _ _ _ h => h) (by rfl) (fun W hW => by obtain ⟨y1, y2⟩ := KS.out W hW; go_simp) (by assumption) ?_
            simp only [Act.put, List.setIfInBounds_toArray, List.set_cons_zero, List.set_cons_succ]
            refine tk (i := 8) (.pointer (some ⟨xb, 2, none⟩)) (some 80) ?_
            simp only [Act.put, List.setIfInBounds_toArray, List.set_cons_zero, List.set_cons_succ]
            refine take_at (i := 9) (.int .i64 p.n) (some 81) (by decide) (by rfl) (by kernel_rfl) (by kernel_rfl) (by kernel_rfl) (fun _ _ _ h => h) (by rfl) (fun W hW => by obtain ⟨y1, y2⟩ := KS.out W hW; go_simp) (by assumption) ?_
            simp only [Act.put, List.setIfInBounds_toArray, List.set_cons_zero, List.set_cons_succ]
            refine tk (i := 11) (.slice Ap P8.length cp) (some 83) ?_
            simp only [Act.put, List.setIfInBounds_toArray, List.set_cons_zero, List.set_cons_succ]
            refine tk (i := 12) (.pointer (some ⟨xb, 1, none⟩)) (some 84) ?_
            simp only [Act.put, List.setIfInBounds_toArray, List.set_cons_zero, List.set_cons_succ]
            refine take_at (i := 13) (.string ⟨p.fro.toArray⟩) (some 85) (by decide) (by rfl) (by kernel_rfl) (by kernel_rfl) (by kernel_rfl) (fun _ _ _ h => h) (by rfl) (fun W hW => by obtain ⟨y1, y2⟩ := KS.out W hW; go_simp) (by assumption) ?_
            simp only [Act.put, List.setIfInBounds_toArray, List.set_cons_zero, List.set_cons_succ]
            refine tk (i := 14) (.pointer (some ⟨xb, 2, none⟩)) (some 86) ?_
            simp only [Act.put, List.setIfInBounds_toArray, List.set_cons_zero, List.set_cons_succ]
            refine take_at (i := 15) (.int .i64 p.n) (some 87) (by decide) (by rfl) (by kernel_rfl) (by kernel_rfl) (by kernel_rfl) (fun _ _ _ h => h) (by rfl) (fun W hW => by obtain ⟨y1, y2⟩ := KS.out W hW; go_simp) (by assumption) ?_
            simp only [Act.put, List.setIfInBounds_toArray, List.set_cons_zero, List.set_cons_succ]
            refine wpAnyH_ready (rs := [10]) (by kernel_rfl) (by simp) (AllReadyH.cons (Array.getElem?_eq_getElem (i := 10) (by decide)) (fun K9 hK => ?_) AllReadyH.nil)
            go_simp
            refine (scan_t (HT0.out.below HDA.out) p.fro p.n hn2).mono ?_
            rintro e wB ⟨vS, rfl, ho, hb⟩
            obtain ⟨AS, cS, rfl, _, _⟩ := ho.prIn.len
            have HOS := Lib.hid ho.prIn
            have HDB := Lib.hid (HDA.out.trans (hb.mono HDA.out.size))
            clear ho hb
            have HH := HDB.out
            refine hK.out _ _ HH (fun hHeld => ?_)
            clear hK K9 HH
            try simp only [Act.put, List.setIfInBounds_toArray, List.set_cons_zero, List.set_cons_succ]
            refine wpAnyH_ready (rs := [16]) (by kernel_rfl) (by simp) (AllReadyH.cons (Array.getElem?_eq_getElem (i := 16) (by decide)) (fun K9 hK => ?_) AllReadyH.nil)
            go_simp
            refine (rscan_any _ P8 p.fro p.n wB (HP0.out.below HDB.out).own.prIn hlim hn1 hn2).mono ?_
            rintro e wC ⟨vR, rfl, ho, hb⟩
            obtain ⟨AR, cR, rfl, _, _⟩ := ho.prIn.len
            have HOR := Lib.hid ho.prIn
            have HOS2 := Lib.hid ((HOS.out.below hb).more hb.size)
            have HDC := Lib.hid (HDB.out.trans (hb.mono HDB.out.size))
            clear ho hb
            have HH := HDC.out
            refine hK.out _ _ HH (fun hHeld => ?_)
            clear hK K9 HH
            try simp only [Act.put, List.setIfInBounds_toArray, List.set_cons_zero, List.set_cons_succ]
            refine wpAnyH_ready (rs := [17]) (by kernel_rfl) (by simp) (AllReadyH.cons (Array.getElem?_eq_getElem (i := 17) (by decide)) (fun K9 hK => ?_) AllReadyH.nil)
            go_simp
            refine (same8_any _ _ _ _ wC HOS2.out HOR.out).mono ?_
            rintro e wD ⟨s2, rfl, hs, hb⟩
            obtain rfl : s2 = true := by simpa using hs
            have HDD := Lib.hid (HDC.out.trans (hb.mono HDC.out.size))
            clear hs hb HOS2 HOR HOS
            have HH := HDD.out
            refine hK.out _ _ HH (fun hHeld => ?_)
            clear hK K9 HH
            try simp only [Act.put, List.setIfInBounds_toArray, List.set_cons_zero, List.set_cons_succ]
            refine tk (i := 18) (.bool false) (some 90) ?_
            simp only [Act.put, List.setIfInBounds_toArray, List.set_cons_zero, List.set_cons_succ]
            refine tk (i := 19) (.bool false) (some 91) ?_
            simp only [Act.put, List.setIfInBounds_toArray, List.set_cons_zero, List.set_cons_succ]
            refine tk (i := 20) (.bool false) (some 92) ?_
            simp only [Act.put, List.setIfInBounds_toArray, List.set_cons_zero, List.set_cons_succ]
            refine tk (i := 21) (.bool false) (some 93) ?_
            simp only [Act.put, List.setIfInBounds_toArray, List.set_cons_zero, List.set_cons_succ]
            refine tk (i := 22) (.int .i64 (-1)) (some 94) ?_
            simp only [Act.put, List.setIfInBounds_toArray, List.set_cons_zero, List.set_cons_succ]
            refine tk (i := 23) (.bool false) (some 95) ?_
            simp only [Act.put, List.setIfInBounds_toArray, List.set_cons_zero, List.set_cons_succ]
            refine tk (i := 24) (.bool false) (some 96) ?_
            simp only [Act.put, List.setIfInBounds_toArray, List.set_cons_zero, List.set_cons_succ]
            refine tk (i := 25) (.bool false) (some 97) ?_
            simp only [Act.put, List.setIfInBounds_toArray, List.set_cons_zero, List.set_cons_succ]
            refine tk (i := 26) (.bool false) (some 98) ?_
            simp only [Act.put, List.setIfInBounds_toArray, List.set_cons_zero, List.set_cons_succ]
            refine tk (i := 27) (.bool false) (some 99) ?_
            simp only [Act.put, List.setIfInBounds_toArray, List.set_cons_zero, List.set_cons_succ]
            refine tk (i := 28) (.bool false) (some 100) ?_
            simp only [Act.put, List.setIfInBounds_toArray, List.set_cons_zero, List.set_cons_succ]
            refine skip_at (i := 29) (some 101) (by decide) (by rfl) (by kernel_rfl) (by kernel_rfl) (by kernel_rfl) (fun _ _ _ h => h) (by rfl) (by assumption) ?_
            simp only [Act.put, List.setIfInBounds_toArray, List.set_cons_zero, List.set_cons_succ]
            refine skip_at (i := 30) (some 102) (by decide) (by rfl) (by kernel_rfl) (by kernel_rfl) (by kernel_rfl) (fun _ _ _ h => h) (by rfl) (by assumption) ?_
            simp only [Act.put, List.setIfInBounds_toArray, List.set_cons_zero, List.set_cons_succ]
            refine skip_at (i := 31) (some 103) (by decide) (by rfl) (by kernel_rfl) (by kernel_rfl) (by kernel_rfl) (fun _ _ _ h => h) (by rfl) (by assumption) ?_
            simp only [Act.put, List.setIfInBounds_toArray, List.set_cons_zero, List.set_cons_succ]
            refine skip_at (i := 32) (some 104) (by decide) (by rfl) (by kernel_rfl) (by kernel_rfl) (by kernel_rfl) (fun _ _ _ h => h) (by rfl) (by assumption) ?_
            simp only [Act.put, List.setIfInBounds_toArray, List.set_cons_zero, List.set_cons_succ]
            refine skip_at (i := 33) (some 105) (by decide) (by rfl) (by kernel_rfl) (by kernel_rfl) (by kernel_rfl) (fun _ _ _ h => h) (by rfl) (by assumption) ?_
            simp only [Act.put, List.setIfInBounds_toArray, List.set_cons_zero, List.set_cons_succ]
            refine skip_at (i := 34) (some 106) (by decide) (by rfl) (by kernel_rfl) (by kernel_rfl) (by kernel_rfl) (fun _ _ _ h => h) (by rfl) (by assumption) ?_
            simp only [Act.put, List.setIfInBounds_toArray, List.set_cons_zero, List.set_cons_succ]
            refine skip_at (i := 35) (some 107) (by decide) (by rfl) (by kernel_rfl) (by kernel_rfl) (by kernel_rfl) (fun _ _ _ h => h) (by rfl) (by assumption) ?_
            simp only [Act.put, List.setIfInBounds_toArray, List.set_cons_zero, List.set_cons_succ]
            refine tk (i := 36) (.bool false) (some 108) ?_
            simp only [Act.put, List.setIfInBounds_toArray, List.set_cons_zero, List.set_cons_succ]
            refine tk (i := 37) (.bool false) (some 109) ?_
            simp only [Act.put, List.setIfInBounds_toArray, List.set_cons_zero, List.set_cons_succ]
            refine tk (i := 38) (.bool false) (some 110) ?_
            simp only [Act.put, List.setIfInBounds_toArray, List.set_cons_zero, List.set_cons_succ]
            refine tk (i := 39) (.bool false) (some 111) ?_
            simp only [Act.put, List.setIfInBounds_toArray, List.set_cons_zero, List.set_cons_succ]
            refine tk (i := 40) (.bool true) (some 112) ?_
            simp only [Act.put, List.setIfInBounds_toArray, List.set_cons_zero, List.set_cons_succ]
            refine tk (i := 41) (.bool true) (some 113) ?_
            simp only [Act.put, List.setIfInBounds_toArray, List.set_cons_zero, List.set_cons_succ]
            refine tk (i := 42) (.string ⟨#[]⟩) (some 114) ?_
            simp only [Act.put, List.setIfInBounds_toArray, List.set_cons_zero, List.set_cons_succ]
            refine tk (i := 43) (.bool false) (some 115) ?_
            simp only [Act.put, List.setIfInBounds_toArray, List.set_cons_zero, List.set_cons_succ]
            refine tk (i := 44) (.bool false) (some 116) ?_
            simp only [Act.put, List.setIfInBounds_toArray, List.set_cons_zero, List.set_cons_succ]
            refine tk (i := 45) (.bool false) (some 117) ?_
            simp only [Act.put, List.setIfInBounds_toArray, List.set_cons_zero, List.set_cons_succ]
            refine wpAnyH_done (by kernel_rfl) ?_ _
            go_wp2_with fail
            go_roundw
            case rel =>
              have hfin := (HT0.out.below HDD.out).grow (M := 100000 + 400000 * (k + 1)) (b' := bOf (l.take (k + 1))) (c' := cOf (l.take (k + 1))) (by omega) (by omega) (Nat.le_of_eq HBS.out.1.symm) (Nat.le_of_eq HBS.out.2.symm) (by rw [HBS.out.1]; omega) (by rw [HBS.out.2]; omega)
              exact ⟨k + 1, _, _, _, _, by go_num, by omega, hfin, HP0.out.below HDD.out, HH0.out⟩
            case measure => simp [intOf]; omega
          | some x =>
            obtain ⟨j, hz, hjx⟩ := HPL.out.2 x HFI.out
            rw [hz] at CG2
            have hj : j < P8.length := (List.getElem?_eq_some_iff.1 hjx).1
            have HJX := Lib.hid hjx
            clear hz hjx
            go_wp2_with fail
            refine CG2.out.mono ?_
            rintro e wg ⟨rfl, hbg⟩
            obtain ⟨W0, hW0⟩ : ∃ x, wg.drew = x := ⟨_, rfl⟩
            have hb0 : Below wf.heap.size wf W0 := by rw [← hW0]; exact hbg.drew
            have HT0 := Lib.hid (HTF.out.below hb0)
            have HP0 := Lib.hid (HPF.out.below hb0)
            have hr0 := (hb0.block xb HSF.out).trans HRF.out
            have KS : Hid (∀ W, Below W0.heap.size W0 W → W.cell? ⟨xb, 1, none⟩ = some (.string ⟨p.fro.toArray⟩) ∧ W.cell? ⟨xb, 2, none⟩ = some (.int .i64 p.n)) := fun W hW => by
              have hr := (hW.block xb (Nat.lt_of_lt_of_le HSF.out hb0.size)).trans hr0
              exact ⟨cell_of_row _ _ 1 _ _ _ hr, cell_of_row _ _ 2 _ _ _ hr⟩
            clear hbg hb0 hr0 CG2 HTF HPF
            go_wp2_with fail
            obtain ⟨b9, off9, e9, hB9, _, z9⟩ := HP0.out.own.prIn.at HJX.out
            subst e9
            have KP : Hid (∀ W, Below W0.heap.size W0 W → W.cell? ⟨b9, off9 + j * 2 + 1, none⟩ = some (.string ⟨x.2.toArray⟩)) := fun W hW => (hW.cell (p := ⟨b9, off9 + j * 2 + 1, none⟩) hB9).trans z9
            have hxx : (x.2 == x.2) = true := beq_self_eq_true _
            clear z9
            refine region_begin hW0 (S := fun W => Below W0.heap.size W0 W) (by kernel_rfl) (Below.refl _ _) (fun hHeld => ?_)
            refine tk (i := 0) (.pointer (some ⟨t, 0, none⟩)) (some 72) ?_
            simp only [Act.put, List.setIfInBounds_toArray, List.set_cons_zero, List.set_cons_succ]
            refine tk (i := 1) (.slice (some ⟨b9, off9, none⟩) P8.length cp) (some 73) ?_
            simp only [Act.put, List.setIfInBounds_toArray, List.set_cons_zero, List.set_cons_succ]
            refine wpAnyH_ready (rs := [2]) (by kernel_rfl) (by simp) (AllReadyH.cons (Array.getElem?_eq_getElem (i := 2) (by decide)) (fun K9 hK => ?_) AllReadyH.nil)
            go_simp
            refine (has_s _ P8 HT0.out HP0.out.own.prIn).mono ?_
            rintro e wA ⟨s1, rfl, hs, hb⟩
            obtain rfl : s1 = true := by simpa using hs
            have HDA := Lib.hid hb
            clear hs hb
            have HH := HDA.out
            refine hK.out _ _ HH (fun hHeld => ?_)
            clear hK K9 HH
            try simp only [Act.put, List.setIfInBounds_toArray, List.set_cons_zero, List.set_cons_succ]
            refine tk (i := 3) (.bool false) (some 75) ?_
            simp only [Act.put, List.setIfInBounds_toArray, List.set_cons_zero, List.set_cons_succ]
            refine tk (i := 4) (.bool false) (some 76) ?_
            simp only [Act.put, List.setIfInBounds_toArray, List.set_cons_zero, List.set_cons_succ]
            refine tk (i := 5) (.pointer (some ⟨t, 0, none⟩)) (some 77) ?_
            simp only [Act.put, List.setIfInBounds_toArray, List.set_cons_zero, List.set_cons_succ]
            refine tk (i := 6) (.pointer (some ⟨xb, 1, none⟩)) (some 78) ?_
            simp only [Act.put, List.setIfInBounds_toArray, List.set_cons_zero, List.set_cons_succ]
            refine take_at (i := 7) (.string ⟨p.fro.toArray⟩) (some 79) (by decide) (by rfl) (by kernel_rfl) (by kernel_rfl) (by kernel_rfl) (fun _ _ _ h => h) (by rfl) (fun W hW => by obtain ⟨y1, y2⟩ := KS.out W hW; go_simp) (by assumption) ?_
            simp only [Act.put, List.setIfInBounds_toArray, List.set_cons_zero, List.set_cons_succ]
            refine tk (i := 8) (.pointer (some ⟨xb, 2, none⟩)) (some 80) ?_
            simp only [Act.put, List.setIfInBounds_toArray, List.set_cons_zero, List.set_cons_succ]
            refine take_at (i := 9) (.int .i64 p.n) (some 81) (by decide) (by rfl) (by kernel_rfl) (by kernel_rfl) (by kernel_rfl) (fun _ _ _ h => h) (by rfl) (fun W hW => by obtain ⟨y1, y2⟩ := KS.out W hW; go_simp) (by assumption) ?_
            simp only [Act.put, List.setIfInBounds_toArray, List.set_cons_zero, List.set_cons_succ]
            refine tk (i := 11) (.slice (some ⟨b9, off9, none⟩) P8.length cp) (some 83) ?_
            simp only [Act.put, List.setIfInBounds_toArray, List.set_cons_zero, List.set_cons_succ]
            refine tk (i := 12) (.pointer (some ⟨xb, 1, none⟩)) (some 84) ?_
            simp only [Act.put, List.setIfInBounds_toArray, List.set_cons_zero, List.set_cons_succ]
            refine take_at (i := 13) (.string ⟨p.fro.toArray⟩) (some 85) (by decide) (by rfl) (by kernel_rfl) (by kernel_rfl) (by kernel_rfl) (fun _ _ _ h => h) (by rfl) (fun W hW => by obtain ⟨y1, y2⟩ := KS.out W hW; go_simp) (by assumption) ?_
            simp only [Act.put, List.setIfInBounds_toArray, List.set_cons_zero, List.set_cons_succ]
            refine tk (i := 14) (.pointer (some ⟨xb, 2, none⟩)) (some 86) ?_
            simp only [Act.put, List.setIfInBounds_toArray, List.set_cons_zero, List.set_cons_succ]
            refine take_at (i := 15) (.int .i64 p.n) (some 87) (by decide) (by rfl) (by kernel_rfl) (by kernel_rfl) (by kernel_rfl) (fun _ _ _ h => h) (by rfl) (fun W hW => by obtain ⟨y1, y2⟩ := KS.out W hW; go_simp) (by assumption) ?_
            simp only [Act.put, List.setIfInBounds_toArray, List.set_cons_zero, List.set_cons_succ]
            refine wpAnyH_ready (rs := [10]) (by kernel_rfl) (by simp) (AllReadyH.cons (Array.getElem?_eq_getElem (i := 10) (by decide)) (fun K9 hK => ?_) AllReadyH.nil)
            go_simp
            refine (scan_t (HT0.out.below HDA.out) p.fro p.n hn2).mono ?_
            rintro e wB ⟨vS, rfl, ho, hb⟩
            obtain ⟨AS, cS, rfl, _, _⟩ := ho.prIn.len
            have HOS := Lib.hid ho.prIn
            have HDB := Lib.hid (HDA.out.trans (hb.mono HDA.out.size))
            clear ho hb
            have HH := HDB.out
            refine hK.out _ _ HH (fun hHeld => ?_)
            clear hK K9 HH
            try simp only [Act.put, List.setIfInBounds_toArray, List.set_cons_zero, List.set_cons_succ]
            refine wpAnyH_ready (rs := [16]) (by kernel_rfl) (by simp) (AllReadyH.cons (Array.getElem?_eq_getElem (i := 16) (by decide)) (fun K9 hK => ?_) AllReadyH.nil)
            go_simp
            refine (rscan_any _ P8 p.fro p.n wB (HP0.out.below HDB.out).own.prIn hlim hn1 hn2).mono ?_
            rintro e wC ⟨vR, rfl, ho, hb⟩
            obtain ⟨AR, cR, rfl, _, _⟩ := ho.prIn.len
            have HOR := Lib.hid ho.prIn
            have HOS2 := Lib.hid ((HOS.out.below hb).more hb.size)
            have HDC := Lib.hid (HDB.out.trans (hb.mono HDB.out.size))
            clear ho hb
            have HH := HDC.out
            refine hK.out _ _ HH (fun hHeld => ?_)
            clear hK K9 HH
            try simp only [Act.put, List.setIfInBounds_toArray, List.set_cons_zero, List.set_cons_succ]
            refine wpAnyH_ready (rs := [17]) (by kernel_rfl) (by simp) (AllReadyH.cons (Array.getElem?_eq_getElem (i := 17) (by decide)) (fun K9 hK => ?_) AllReadyH.nil)
            go_simp
            refine (same8_any _ _ _ _ wC HOS2.out HOR.out).mono ?_
            rintro e wD ⟨s2, rfl, hs, hb⟩
            obtain rfl : s2 = true := by simpa using hs
            have HDD := Lib.hid (HDC.out.trans (hb.mono HDC.out.size))
            clear hs hb HOS2 HOR HOS
            have HH := HDD.out
            refine hK.out _ _ HH (fun hHeld => ?_)
            clear hK K9 HH
            try simp only [Act.put, List.setIfInBounds_toArray, List.set_cons_zero, List.set_cons_succ]
            refine tk (i := 18) (.bool false) (some 90) ?_
            simp only [Act.put, List.setIfInBounds_toArray, List.set_cons_zero, List.set_cons_succ]
            refine tk (i := 19) (.bool false) (some 91) ?_
            simp only [Act.put, List.setIfInBounds_toArray, List.set_cons_zero, List.set_cons_succ]
            refine tk (i := 20) (.bool false) (some 92) ?_
            simp only [Act.put, List.setIfInBounds_toArray, List.set_cons_zero, List.set_cons_succ]
            refine tk (i := 21) (.bool true) (some 93) ?_
            simp only [Act.put, List.setIfInBounds_toArray, List.set_cons_zero, List.set_cons_succ]
            refine tk (i := 22) (.int .i64 (j : Int)) (some 94) ?_
            simp only [Act.put, List.setIfInBounds_toArray, List.set_cons_zero, List.set_cons_succ]
            refine tk (i := 23) (.bool true) (some 95) ?_
            simp only [Act.put, List.setIfInBounds_toArray, List.set_cons_zero, List.set_cons_succ]
            refine tk (i := 24) (.bool false) (some 96) ?_
            simp only [Act.put, List.setIfInBounds_toArray, List.set_cons_zero, List.set_cons_succ]
            refine tk (i := 25) (.bool false) (some 97) ?_
            simp only [Act.put, List.setIfInBounds_toArray, List.set_cons_zero, List.set_cons_succ]
            refine tk (i := 26) (.bool false) (some 98) ?_
            simp only [Act.put, List.setIfInBounds_toArray, List.set_cons_zero, List.set_cons_succ]
            refine tk (i := 27) (.bool true) (some 99) ?_
            simp only [Act.put, List.setIfInBounds_toArray, List.set_cons_zero, List.set_cons_succ]
            refine tk (i := 28) (.bool true) (some 100) ?_
            simp only [Act.put, List.setIfInBounds_toArray, List.set_cons_zero, List.set_cons_succ]
            refine tk (i := 29) (.string ⟨x.2.toArray⟩) (some 101) ?_
            simp only [Act.put, List.setIfInBounds_toArray, List.set_cons_zero, List.set_cons_succ]
            refine tk (i := 30) (.slice (some ⟨b9, off9, none⟩) P8.length cp) (some 102) ?_
            simp only [Act.put, List.setIfInBounds_toArray, List.set_cons_zero, List.set_cons_succ]
            refine tk (i := 31) (.int .i64 (j : Int)) (some 103) ?_
            simp only [Act.put, List.setIfInBounds_toArray, List.set_cons_zero, List.set_cons_succ]
            refine take_at (i := 32) (.pointer (some ⟨b9, off9 + j * 2, none⟩)) (some 104) (by decide) (by rfl) (by kernel_rfl) (by kernel_rfl) (by kernel_rfl) (fun _ _ _ h => h) (by rfl) (fun W hW => by have y9 := index_pr b9 off9 P8.length cp j hj W; go_simp) (by assumption) ?_
            simp only [Act.put, List.setIfInBounds_toArray, List.set_cons_zero, List.set_cons_succ]
            refine tk (i := 33) (.pointer (some ⟨b9, off9 + j * 2 + 1, none⟩)) (some 105) ?_
            simp only [Act.put, List.setIfInBounds_toArray, List.set_cons_zero, List.set_cons_succ]
            refine take_at (i := 34) (.string ⟨x.2.toArray⟩) (some 106) (by decide) (by rfl) (by kernel_rfl) (by kernel_rfl) (by kernel_rfl) (fun _ _ _ h => h) (by rfl) (fun W hW => by have y3 := KP.out W hW; go_simp) (by assumption) ?_
            simp only [Act.put, List.setIfInBounds_toArray, List.set_cons_zero, List.set_cons_succ]
            refine tk (i := 35) (.bool false) (some 107) ?_
            simp only [Act.put, List.setIfInBounds_toArray, List.set_cons_zero, List.set_cons_succ]
            refine tk (i := 36) (.bool false) (some 108) ?_
            simp only [Act.put, List.setIfInBounds_toArray, List.set_cons_zero, List.set_cons_succ]
            refine tk (i := 37) (.bool false) (some 109) ?_
            simp only [Act.put, List.setIfInBounds_toArray, List.set_cons_zero, List.set_cons_succ]
            refine tk (i := 38) (.bool false) (some 110) ?_
            simp only [Act.put, List.setIfInBounds_toArray, List.set_cons_zero, List.set_cons_succ]
            refine tk (i := 39) (.bool true) (some 111) ?_
            simp only [Act.put, List.setIfInBounds_toArray, List.set_cons_zero, List.set_cons_succ]
            refine tk (i := 40) (.bool false) (some 112) ?_
            simp only [Act.put, List.setIfInBounds_toArray, List.set_cons_zero, List.set_cons_succ]
            refine tk (i := 41) (.bool false) (some 113) ?_
            simp only [Act.put, List.setIfInBounds_toArray, List.set_cons_zero, List.set_cons_succ]
            refine skip_at (i := 42) (some 114) (by decide) (by rfl) (by kernel_rfl) (by kernel_rfl) (by kernel_rfl) (fun _ _ _ h => h) (by rfl) (by assumption) ?_
            simp only [Act.put, List.setIfInBounds_toArray, List.set_cons_zero, List.set_cons_succ]
            refine skip_at (i := 43) (some 115) (by decide) (by rfl) (by kernel_rfl) (by kernel_rfl) (by kernel_rfl) (fun _ _ _ h => h) (by rfl) (by assumption) ?_
            simp only [Act.put, List.setIfInBounds_toArray, List.set_cons_zero, List.set_cons_succ]
            refine tk (i := 44) (.bool false) (some 116) ?_
            simp only [Act.put, List.setIfInBounds_toArray, List.set_cons_zero, List.set_cons_succ]
            refine tk (i := 45) (.bool false) (some 117) ?_
            simp only [Act.put, List.setIfInBounds_toArray, List.set_cons_zero, List.set_cons_succ]
            refine wpAnyH_done (by kernel_rfl) ?_ _
            go_wp2_with fail
            go_roundw
            case rel =>
              have hfin := (HT0.out.below HDD.out).grow (M := 100000 + 400000 * (k + 1)) (b' := bOf (l.take (k + 1))) (c' := cOf (l.take (k + 1))) (by omega) (by omega) (Nat.le_of_eq HBS.out.1.symm) (Nat.le_of_eq HBS.out.2.symm) (by rw [HBS.out.1]; omega) (by rw [HBS.out.2]; omega)
              exact ⟨k + 1, _, _, _, _, by go_num, by omega, hfin, HP0.out.below HDD.out, HH0.out⟩
            case measure => simp [intOf]; omega
    · have HBZ := Lib.hid HBW.out
      have CN := Lib.hid (fun W => get_nil [97] W)
      have CO := Lib.hid (fun W => open_nil [116] W)
      have CAp := Lib.hid (fun W => apply_nil (.slice none 0 0) W)
      have CSy := Lib.hid (fun W => syncT_nil W)
      have CSc := Lib.hid (fun W => scan_nil [] W)
      have CTb := Lib.hid (fun W => tables_nil W)
      clear htr hpr hh
      go_wp2_with fail
      refine (CN.out _).mono ?_
      rintro e w5 ⟨rfl, hb5⟩
      have HB5 := Lib.hid (HBZ.out.trans (hb5.mono HBZ.out.size))
      clear hb5
      go_wp2_with fail
      refine (CO.out _).mono ?_
      rintro e w6 ⟨rfl, hb6⟩
      have HB6 := Lib.hid (HB5.out.trans (hb6.mono HB5.out.size))
      clear hb6
      go_wp2_with fail
      refine (CAp.out _).mono ?_
      rintro e w7 ⟨rfl, hb7⟩
      have HB7 := Lib.hid (HB6.out.trans (hb7.mono HB6.out.size))
      clear hb7
      go_wp2_with fail
      refine (CSy.out _).mono ?_
      rintro e w8 ⟨rfl, hb8⟩
      have HB8 := Lib.hid (HB7.out.trans (hb8.mono HB7.out.size))
      clear hb8
      go_wp2_with fail
      refine (CSc.out _).mono ?_
      rintro e w9 ⟨rfl, hb9⟩
      have HB9 := Lib.hid (HB8.out.trans (hb9.mono HB8.out.size))
      clear hb9
      go_wp2_with fail
      refine (CTb.out _).mono ?_
      rintro e wa ⟨rfl, hba⟩
      have HBa := Lib.hid (HB9.out.trans (hba.mono HB9.out.size))
      clear hba
      go_wp2_with fail
      go_ret
      exact ⟨rfl, HBa.out⟩

end Go.Proofs.YtlchmkpnehbnlaaGreatDoor.Cd

namespace Go.Proofs.YtlchmkpnehbnlaaGreatDoor.LsmDoes
open Go.RowKit Go.Proofs.YtlchmkpnehbnlaaGreatDoor.Cd

theorem walk (v : Value) (l : List St11) (w : World) (he : ErrAt w) (h : Stps w w.heap.size v l ∧ ∀ p ∈ l, p.Ok) : Calls Tryz.prog 3 #[v] w (Gives (.bool true) w) := lw_does v l w he h.1 h.2

end Go.Proofs.YtlchmkpnehbnlaaGreatDoor.LsmDoes
