/-
  LsmFull answers true. Conditions: the library's error lies where the program laid it.
-/
import Derived.Test.YtlchmkpnehbnlaaGreatDoorG38
import Derived.Test.YtlchmkpnehbnlaaGreatDoorG40
import Derived.Test.YtlchmkpnehbnlaaGreatDoorG12
import Derived.Test.YtlchmkpnehbnlaaGreatDoorG11
import Derived.Test.YtlchmkpnehbnlaaGreatDoorG17
/-
  Sync, Tables, Scan and Get of a tree between two calls. Conditions: the power is on.
-/
namespace Go.Proofs.YtlchmkpnehbnlaaGreatDoor.Cd
open Go.RowKit

/-- What Sync leaves. -/
def SyncTr (w0 : World) (g M room : Nat) (n : List UInt8) (big : Prop) (P : Prs) (b c : Nat) (D : Dsk) (S : Nat → Prop) (t l : Nat) (vt : Value) (W : World) (e : Ending) (W' : World) : Prop :=
  e = .returned (.int .i64 0) ∧ (syncD D n).1.now = D.now ∧ Tr w0 g M room n big P b c (syncD D n).1 (since S W W') t l vt W' ∧ TreeTo W S t l vt W' (since S W W') vt ∧
    ∀ s, Lay (pagesF D.now n) s → 0 < s.length → pagesF (syncD D n).1.safe n = pagesF D.now n ∧ ∀ w ∈ (syncD D n).1.waits, w.name ≠ n

set_option maxRecDepth 100000 in
theorem sync_s {w0 W : World} {g N room : Nat} {n : List UInt8} {big : Prop} {P : Prs} {b c : Nat} {D : Dsk} {S : Nat → Prop} {t l : Nat} {vt : Value} (h : Tr w0 g N room n big P b c D S t l vt W) (M : Nat) (hN : N + 4 ≤ M) (hM : M ≤ 137438953472) :
    Calls Tryz.prog 15 #[.pointer (some ⟨t, 0, none⟩)] W (SyncTr w0 g M room n big P b c D S t l vt W) := by
  have hlow : ∀ s, Lay (pagesF D.now n) s → 0 < s.length → pagesF (syncD D n).1.safe n = pagesF D.now n ∧ ∀ w ∈ (syncD D n).1.waits, w.name ≠ n := fun s hs h0 => (h.ample.roomy.syncL hs).2.2.2 h0
  obtain ⟨hd, hamp, hroom, vm, whole, last, tight, tabs, R, ht, hi, hP, hti, hbg⟩ := h
  obtain ⟨a1, a2, a3, _⟩ := hamp.roomy.syncL hi.lay
  have hns := hi.short
  have CS := sync_l l g N n (logO last R) S D W ht.log hd (by omega) (by omega)
  rw [a1] at CS
  have CS := Lib.hid CS
  obtain ⟨_, _, c2, _⟩ := ht.cells
  have HT := Lib.hid ht
  have HI := Lib.hid hi
  have HA := Lib.hid (And.intro a2 (And.intro a3 hamp))
  have HP := Lib.hid hP
  have HLOW := Lib.hid hlow
  have HTI := Lib.hid hti
  have HBG := Lib.hid hbg
  clear ht hi hamp a1 a2 a3 hd hP hlow hti hbg
  go_enter Tryz.func15, Tryz.ntmps15
  go_wp2_with fail
  refine CS.out.mono ?_
  rintro e w1 ⟨rfl, m1, m2⟩
  have M1 := Lib.hid m1
  have M2 := Lib.hid m2
  clear m1 m2 CS
  go_wp2_with fail
  go_ret
  obtain ⟨b2, b3, b4⟩ := HA.out
  refine ⟨rfl, b3, ⟨M1.out.mono hN hM, ample_of b2 (by have := b4.fits; omega), hroom, vm, whole, last, tight, tabs, R, HT.out.apart M2.out, ?_, HP.out, HTI.out, HBG.out⟩, ⟨fun k hk => hk, M2.out.mono fun _ => .inl, fun _ => .inl⟩, HLOW.out⟩
  exact HI.out.beside (fun m hm => HI.out.letters m (by rw [← b3]; exact hm)) (fun m _ => by rw [b3])

/-! ### What is asked of the pairs -/

/-- A key's pair. -/
def findP (P : Prs) (k : List UInt8) : Option (List UInt8 × List UInt8) := P.find? fun p => p.1 == k
theorem live_len (t : List Wr) : (liveP t).length ≤ t.length := by
  unfold liveP
  rw [List.length_map]
  exact List.length_filter_le _ _
theorem len_sumB (l : List Wr) : l.length ≤ sumB l := by unfold sumB; omega
theorem sumB_mem {m : List Wr} : ∀ {ls : List (List Wr)}, m ∈ ls → sumB m ≤ sumBs ls
  | l :: ls, h => by
    have e : sumBs (l :: ls) = sumB l + sumBs ls := by simp [sumBs]
    rcases List.mem_cons.1 h with rfl | h
    · omega
    · have := sumB_mem h
      omega
structure TrIs (w0 : World) (g : Nat) (n : List UInt8) (P : Prs) (S : Nat → Prop) (t l : Nat) (vt vm : Value) (s : List UInt8) (last cnt : Nat) (tight : Int) (tabs : List (List Wr)) (mem : List Wr) (W : World) : Prop where
  at_ : TreeAt w0 W S t l g vt vm n s last cnt tight tabs mem
  lists : Lists (tabs ++ [mem])
  lens : ∀ m ∈ tabs ++ [mem], m.length ≤ 1073741824
  few : tabs.length ≤ 1000
  pairs : P = treeP tabs mem
  lim : P.length ≤ 1000000000
theorem Tr.is {w0 W : World} {g N room : Nat} {n : List UInt8} {big : Prop} {P : Prs} {b c : Nat} {D : Dsk} {S : Nat → Prop} {t l : Nat} {vt : Value} (h : Tr w0 g N room n big P b c D S t l vt W) :
    ∃ vm s last cnt tight tabs mem, TrIs w0 g n P S t l vt vm s last cnt tight tabs mem W := by
  obtain ⟨_, _, _, vm, whole, last, tight, tabs, R, ht, hi, hP, _⟩ := h
  have hbm := hi.summ
  have hby := hi.bytes
  have htb := hi.tb
  have hgm := hi.goodm
  have hlst : ∀ m ∈ tabs ++ [ofW R.flatten], GoodT m ∧ m.length ≤ 200000 := fun m hm => by
    rcases List.mem_append.1 hm with h1 | h1
    · have h2 : sumB m ≤ sumBs tabs := sumB_mem h1
      have := len_sumB m
      exact ⟨hi.good m h1, by omega⟩
    · obtain rfl := List.mem_singleton.1 h1
      have := len_sumB (ofW R.flatten)
      exact ⟨hgm, by omega⟩
  refine ⟨vm, _, last, _, tight, tabs, ofW R.flatten, ht, fun m hm => ⟨(hlst m hm).1.srt, (hlst m hm).1.flat⟩, fun m hm => by have := (hlst m hm).2; omega, ?_, hP, ?_⟩
  · have h1 := hi.tabs_len
    have h2 := hi.top
    have : (if whole = 0 then 0 else 1) ≤ 1 := by split <;> omega
    omega
  · rw [hP]
    unfold treeP
    refine Nat.le_trans (live_len _) (Nat.le_trans (ofW_len _) ?_)
    rw [List.flatten_append, List.flatten_singleton, List.length_append]
    have h1 := len_sumB tabs.flatten
    rw [sumBs_flat] at h1
    have h2 := len_sumB (ofW R.flatten)
    omega

/-- Scan of a tree. -/
theorem scan_t {w0 W : World} {g N room : Nat} {n : List UInt8} {big : Prop} {P : Prs} {b c : Nat} {D : Dsk} {S : Nat → Prop} {t l : Nat} {vt : Value} (h : Tr w0 g N room n big P b c D S t l vt W) (key : List UInt8) (k : Int) (hk : k ≤ 9223372036854775807) :
    Calls Tryz.prog 20 #[.pointer (some ⟨t, 0, none⟩), .string ⟨key.toArray⟩, .int .i64 k] W (ScanIs W (scanP P key k.toNat)) := by
  obtain ⟨vm, s, last, cnt, tight, tabs, mem, q⟩ := h.is
  have hl := q.lim
  rw [q.pairs] at hl ⊢
  exact scan_s q.at_ q.few q.lists q.lens hl key k hk

/-- Get of a tree. -/
theorem get_t {w0 W : World} {g N room : Nat} {n : List UInt8} {big : Prop} {P : Prs} {b c : Nat} {D : Dsk} {S : Nat → Prop} {t l : Nat} {vt : Value} (h : Tr w0 g N room n big P b c D S t l vt W) (key : List UInt8) :
    Calls Tryz.prog 16 #[.pointer (some ⟨t, 0, none⟩), .string ⟨key.toArray⟩] W (fun e w' => e = .returned (.tuple #[.string ⟨(((findP P key).map fun p => p.2).getD []).toArray⟩, .bool (findP P key).isSome]) ∧ Below W.heap.size W w') := by
  obtain ⟨vm, s, last, cnt, tight, tabs, mem, q⟩ := h.is
  refine (get_s q.at_ q.few q.lists q.lens key).mono ?_
  rintro e w' ⟨rfl, hb⟩
  refine ⟨?_, hb⟩
  have h1 : findP P key = (getL (tabs ++ [mem]) key).bind fun w => if w.2.2 then none else some (w.1, w.2.1) := by
    rw [q.pairs, ← getL_tree q.lists key]
    exact live_get (ofW_srt _) key
  rw [h1]
  cases hg : getL (tabs ++ [mem]) key with
  | none => rfl
  | some x =>
    cases hx : x.2.2 with
    | false => simp [hx]
    | true =>
      have hf : flatG x = x := by
        have h2 := getL_tree q.lists key
        rw [hg] at h2
        exact ofW_flat _ x (getW_mem h2)
      have hv : x.2.1 = [] := by
        have h3 : (flatG x).2.1 = [] := by unfold flatG; rw [if_pos hx]
        rwa [hf] at h3
      simp [hx, hv]

end Go.Proofs.YtlchmkpnehbnlaaGreatDoor.Cd

/-
  has: a tree has just these pairs. Conditions: the power is on.
-/
namespace Go.Proofs.YtlchmkpnehbnlaaGreatDoor.Cd
open Go.RowKit

theorem scan_whole (P : Prs) (n : Nat) (h : P.length ≤ n) : scanP P [] n = P := by
  unfold scanP
  have e : (P.filter fun p => decide (¬ p.1 < [])) = P := List.filter_eq_self.2 fun p _ => by
    simp only [decide_eq_true_eq]
    exact List.not_lt_nil _
  rw [e, List.take_of_length_le h]
def SrtP (P : Prs) : Prop := P.Pairwise fun a b => a.1 < b.1
theorem live_srt {t : List Wr} (h : SrtW t) : SrtP (liveP t) := by
  unfold SrtP liveP
  rw [List.pairwise_map]
  exact (h.sublist List.filter_sublist).imp fun h => h
theorem find_at {P : Prs} (h : SrtP P) {i : Nat} {p : List UInt8 × List UInt8} (hp : P[i]? = some p) : findP P p.1 = some p := by
  induction P generalizing i with
  | nil => cases hp
  | cons q r ih =>
    obtain ⟨h1, h2⟩ := List.pairwise_cons.1 h
    unfold findP at ih ⊢
    rw [List.find?_cons]
    cases i with
    | zero =>
      obtain rfl : q = p := by simpa using hp
      simp
    | succ i =>
      have hp : r[i]? = some p := by simpa using hp
      have hb : (q.1 == p.1) = false := by rw [beq_eq_false_iff_ne]; exact less_ne (h1 p (List.mem_of_getElem? hp))
      rw [hb]
      exact ih h2 hp

set_option maxRecDepth 100000 in
set_option maxHeartbeats 1600000 in
theorem has_s (v : Value) (l : Prs) {w0 W : World} {g N room : Nat} {n : List UInt8} {big : Prop} {P : Prs} {b c : Nat} {D : Dsk} {S : Nat → Prop} {t lg : Nat} {vt : Value} (h : Tr w0 g N room n big P b c D S t lg vt W) (hv : PrIn W W.heap.size v l) :
    Calls Tryz.prog 18 #[.pointer (some ⟨t, 0, none⟩), v] W (fun e w' => ∃ s : Bool, e = .returned (.bool s) ∧ (s = true ↔ P = l) ∧ Below W.heap.size W w') := by
  obtain ⟨A, c, rfl, hl1, hl2⟩ := hv.len
  obtain ⟨hPl, hPs⟩ : P.length ≤ 1000000000 ∧ SrtP P := by
    obtain ⟨vm, s, last, cnt, tight, tabs, mem, q⟩ := h.is
    exact ⟨q.lim, by rw [q.pairs]; exact live_srt (ofW_srt _)⟩
  have CS : Calls Tryz.prog 20 #[.pointer (some ⟨t, 0, none⟩), .string ⟨#[]⟩, .int .i64 9223372036854775807] W (ScanIs W (scanP P [] (9223372036854775807 : Int).toNat)) := scan_t h [] 9223372036854775807 (by omega)
  rw [scan_whole P _ (by omega)] at CS
  replace CS := Lib.hid CS
  have H := Lib.hid h
  have HV := Lib.hid hv
  have HPS := Lib.hid hPs
  clear h hv hPs
  go_enter Tryz.func18, Tryz.ntmps18
  go_wp2_with fail
  refine CS.out.mono ?_
  rintro e w1 ⟨v1, rfl, ho1, hb1⟩
  have hp1 := ho1.prIn
  obtain ⟨A1, c1, rfl, _, _⟩ := hp1.len
  have CM := Lib.hid (same8_any _ _ P l w1 hp1 ((HV.out.below hb1).more hb1.size))
  have HB1 := Lib.hid hb1
  clear ho1 hb1 hp1 CS
  go_wp2_with fail
  refine CM.out.mono ?_
  rintro e w2 ⟨s, rfl, hs, hb2⟩
  have HB2 := Lib.hid (HB1.out.trans (hb2.mono HB1.out.size))
  clear hb2 CM
  cases s with
  | false =>
    have HS : Hid (P = l ↔ (false : Bool) = true) := hs.symm
    clear hs
    go_wp2_with fail
    go_ret
    exact ⟨false, rfl, HS.out.symm, HB2.out⟩
  | true =>
    obtain rfl : P = l := hs.1 rfl
    clear hs
    go_wp2_with fail
    go_loopw [16] (fun i wr => ∃ k : Nat, i = .int .i64 k ∧ k ≤ P.length ∧ Hid (Below W.heap.size W wr)) (fun i _ => P.length - (intOf i).toNat)
    case atStart => exact ⟨0, rfl, by omega, HB2.out⟩
    case round =>
      obtain ⟨k, rfl, hk, hbl⟩ := hrel
      by_cases hlt : k < P.length
      · obtain ⟨x, hxk⟩ : ∃ x, P[k]? = some x := ⟨P[k], List.getElem?_eq_getElem hlt⟩
        obtain ⟨b2, off2, e2, hB2, d0, d1⟩ := (HV.out.below hbl.out).at hxk
        subst e2
        have hfd := find_at HPS.out hxk
        have hb3 : Below W.heap.size W (wr.alloc (.cells #[.string ⟨x.1.toArray⟩, .string ⟨x.2.toArray⟩] 49)) := hbl.out.alloc hbl.out.size _
        have CG := get_t (H.out.below hb3) x.1
        rw [hfd] at CG
        replace CG := Lib.hid CG
        have HB3 := Lib.hid hb3
        have hne : (x.2 == x.2) = true := beq_self_eq_true _
        have hsz : (wr.alloc (.cells #[.string ⟨x.1.toArray⟩, .string ⟨x.2.toArray⟩] 49)).heap.size = wr.heap.size + 1 := by simp
        have hrow := heap_alloc_new wr (.cells #[.string ⟨x.1.toArray⟩, .string ⟨x.2.toArray⟩] 49)
        have HROW := Lib.hid hrow
        have HSZ := Lib.hid hsz
        clear hxk hfd hb3 hrow hsz
        go_wp2_with fail
        refine CG.out.mono ?_
        rintro e w4 ⟨rfl, hb4⟩
        have q1 : w4.cell? ⟨wr.heap.size, 1, none⟩ = some (.string ⟨x.2.toArray⟩) := (hb4.cell (p := ⟨wr.heap.size, 1, none⟩) (by show wr.heap.size < _; rw [HSZ.out]; omega)).trans (cell_of_row _ _ 1 _ _ _ HROW.out)
        have HB4 := Lib.hid (HB3.out.trans (hb4.mono HB3.out.size))
        clear hb4 CG
        go_wp2_with fail
        go_roundw
        case rel => exact ⟨k + 1, by go_num, by omega, HB4.out⟩
        case measure => simp [intOf]; omega
      · go_wp2_with fail
        go_ret
        first | exact ⟨true, rfl, by simp, hbl.out⟩ | exact ⟨rfl, hbl.out⟩

end Go.Proofs.YtlchmkpnehbnlaaGreatDoor.Cd

/-
  Trees side by side on one disk: what a call on one leaves of another; how many pages they take. Conditions: their names begin with other letters.
-/
namespace Go.Proofs.YtlchmkpnehbnlaaGreatDoor.Cd
open Go.RowKit

/-- A call that turns blocks which are neither the log's own nor bytes, or the set's. -/
theorem LogAt.other {w w' : World} {S T U : Nat → Prop} {l g : Nat} {n s : List UInt8} (h : LogAt w S l g n s) (ha : Apart U w w') (hU : ∀ k, U k → k < w.heap.size → S k ∨ (k ≠ l ∧ ∀ cs fr, w.heap[k]? ≠ some (.cells cs 5 fr))) (hT : ∀ k, k < w.heap.size → T k → S k) : LogAt w' T l g n s := by
  have hlt := h.lt
  obtain ⟨h1, v, h2, h3, h4⟩ := h
  have hn : 0 < (lastP s).length → ∀ A m c, v = .slice (some A) m c → ¬ U A.block := fun h0 A m c e hu => by
    obtain ⟨cs, fr, hc⟩ := h4 h0 A m c e
    rcases hU _ hu (far_lt h3 h0 e) with hs | ⟨_, hs⟩
    · exact h3.2 h0 A m c e (.inl hs)
    · exact hs cs fr hc
  have hul : ¬ U l := fun hu => by
    rcases hU _ hu hlt with hs | ⟨hs, _⟩
    · exact h1 hs
    · exact hs rfl
  refine ⟨fun e => h1 (hT _ hlt e), v, (ha.block l hlt hul).trans h2, ?_, fun h0 A m c e => ?_⟩
  · obtain ⟨⟨A, c, e1, e2, e3, e4, e5, e6⟩, h5⟩ := h3
    refine ⟨⟨A, c, e1, e2, e3, e4, fun ad e h0 => Nat.lt_of_lt_of_le (e5 ad e h0) ha.size, fun ad e j u hu => ?_⟩, fun h0 A m c e hk => ?_⟩
    · have hj : j < (lastP s).length := by have := (List.getElem?_eq_some_iff.1 hu).1; rwa [vb_length] at this
      rw [ha.cell (p := ad.add j) (by rw [block_of_add]; exact e5 ad e (by omega)) (by rw [block_of_add]; rw [e] at e1; exact hn (by omega) ad _ _ e1)]
      exact e6 ad e j u hu
    · have hb : A.block < w.heap.size := by rw [e1] at e; injection e with e _ _; exact e5 A e h0
      rcases hk with hk | hk
      · exact h5 h0 A m c e (.inl (hT _ hb hk))
      · exact h5 h0 A m c e (.inr hk)
  · rw [ha.block _ (far_lt h3 h0 e) (hn h0 A m c e)]
    exact h4 h0 A m c e

/-- Two trees that share no block but the disk's. -/
def Parts2 (t l : Nat) (vt : Value) (t2 l2 : Nat) (v2 : Value) : Prop := t2 ≠ t ∧ l2 ≠ l ∧ ∀ r, v2.ownBlock = some r → vt.ownBlock ≠ some r
theorem Parts2.turn {t l t2 l2 : Nat} {vt v2 : Value} (h : Parts2 t l vt t2 l2 v2) : Parts2 t2 l2 v2 t l vt := ⟨fun e => h.1 e.symm, fun e => h.2.1 e.symm, fun r h1 h2 => h.2.2 r h2 h1⟩

section
variable {w0 W W' : World} {S T : Nat → Prop} {t l t2 l2 g N M room : Nat} {vt vm v2 vm2 vt' : Value} {n s n2 s2 : List UInt8} {last cnt last2 cnt2 : Nat} {tight tight2 : Int} {tabs tabs2 : List (List Wr)} {mem mem2 : List Wr}
theorem TreeAt.beside (h2 : TreeAt w0 W S t2 l2 g v2 vm2 n2 s2 last2 cnt2 tight2 tabs2 mem2) (h : TreeAt w0 W S t l g vt vm n s last cnt tight tabs mem) (hp : Parts2 t l vt t2 l2 v2) (to : TreeTo W S t l vt W' T vt') : TreeAt w0 W' T t2 l2 g v2 vm2 n2 s2 last2 cnt2 tight2 tabs2 mem2 := by
  obtain ⟨q1, q2, q3⟩ := hp
  obtain ⟨k1, k2, k3, k4, k5, k6, k7⟩ := h.kinds
  obtain ⟨j1, j2, j3, j4, j5, j6, j7⟩ := h2.kinds
  have hT : ∀ k, k < W.heap.size → T k → S k := fun k hk ht => (since_old hk).1 (to.sets k ht)
  have hlrow : ∃ v, W.heap[l]? = some (.cells #[.pointer (some ⟨g, 0, none⟩), .string ⟨n.toArray⟩, .int .i64 s.length, v] 95) := by obtain ⟨_, v, e, _⟩ := h.log; exact ⟨v, e⟩
  have hl2row : ∃ v, W.heap[l2]? = some (.cells #[.pointer (some ⟨g, 0, none⟩), .string ⟨n2.toArray⟩, .int .i64 s2.length, v] 95) := by obtain ⟨_, v, e, _⟩ := h2.log; exact ⟨v, e⟩
  have hl8 : ∀ cs fr, W.heap[l]? ≠ some (.cells cs 5 fr) := fun cs fr e => by
    obtain ⟨v, hv⟩ := hlrow
    rw [hv] at e
    injection e with e; injection e with _ e _
    exact absurd e (by decide)
  have htl2 : t ≠ l2 := fun e => by
    obtain ⟨v, hv⟩ := hl2row
    have hr := h.row
    rw [e, hv] at hr
    injection hr with hr; injection hr with _ hr _
    exact absurd hr (by decide)
  have ht2l : t2 ≠ l := fun e => by
    obtain ⟨v, hv⟩ := hlrow
    have hr := h2.row
    rw [e, hv] at hr
    injection hr with hr; injection hr with _ hr _
    exact absurd hr (by decide)
  have hvl2 : vt.ownBlock ≠ some l2 := fun e => by
    obtain ⟨_, _, cur, hc⟩ := h.tabs.lt e
    obtain ⟨v, hv⟩ := hl2row
    rw [hv] at hc
    injection hc with hc; injection hc with _ hc _
    exact absurd hc (by decide)
  have hvt2 : vt.ownBlock ≠ some t2 := fun e => by
    obtain ⟨_, _, cur, hc⟩ := h.tabs.lt e
    rw [h2.row] at hc
    injection hc with hc; injection hc with _ hc _
    exact absurd hc (by decide)
  have hv2l : v2.ownBlock ≠ some l := fun e => by
    obtain ⟨_, _, cur, hc⟩ := h2.tabs.lt e
    obtain ⟨v, hv⟩ := hlrow
    rw [hv] at hc
    injection hc with hc; injection hc with _ hc _
    exact absurd hc (by decide)
  have hv2t : v2.ownBlock ≠ some t := fun e => by
    obtain ⟨_, _, cur, hc⟩ := h2.tabs.lt e
    rw [h.row] at hc
    injection hc with hc; injection hc with _ hc _
    exact absurd hc (by decide)
  refine ⟨?_, ?_, fun e => h2.far (hT t2 h2.lt e), ?_, ?_, h2.base.trans (to.apart.low h2.base.size h.low), fun k hk => ?_⟩
  · refine h2.log.other to.apart (fun k hk _ => ?_) hT
    rcases hk with hk | hk | hk | hk
    · exact .inl hk
    · exact .inr ⟨by rw [hk]; exact fun e => q2 e.symm, by rw [hk]; exact hl8⟩
    · exact .inr ⟨by rw [hk]; exact htl2, by rw [hk]; exact k6⟩
    · exact .inr ⟨fun e => hvl2 (e ▸ hk), (k7 k hk).2⟩
  · refine (to.apart.block t2 h2.lt fun hk => ?_).trans h2.row
    rcases hk with hk | hk | hk | hk
    · exact h2.far hk
    · exact ht2l hk
    · exact q1 hk
    · exact hvt2 hk
  · refine h2.mem.go to.apart (fun k _ hk => ?_) hT
    rcases hk with hk | hk | hk | hk
    · exact .inl hk
    · rw [hk]; exact .inr k2
    · rw [hk]; exact .inr k1
    · exact .inr (k7 k hk).1
  · refine h2.tabs.go to.apart (fun k _ hk => ?_) hT
    rcases hk with hk | hk | hk | hk
    · exact .inl hk
    · rw [hk]; exact .inr ⟨k2, hv2l⟩
    · rw [hk]; exact .inr ⟨k1, hv2t⟩
    · exact .inr ⟨(k7 k hk).1, fun e => q3 k e hk⟩
  · rcases hk with hk | hk
    · rcases to.sets k hk with h1 | h1
      · exact h2.low k (.inl h1)
      · have := h2.base.size; omega
    · exact h2.low k (.inr hk)

variable {big : Prop} {P P2 P' : Prs} {b c b2 c2 b' c' : Nat} {D D' : Dsk}
theorem Tr.grow (h : Tr w0 g N room n big P b c D S t l vt W) (hN : N ≤ M) (hM : M ≤ 137438953472) {b' c' : Nat} (hb : b ≤ b') (hc : c ≤ c') (tb : b' ≤ 200000) (tc : c' ≤ 2000) : Tr w0 g M room n big P b' c' D S t l vt W := by
  obtain ⟨h1, h2, h3, vm, whole, last, tight, tabs, R, k1, k2, k3⟩ := h
  exact ⟨h1.mono hN hM, h2, h3, vm, whole, last, tight, tabs, R, k1, k2.mono hb hc tb tc, k3⟩
theorem Tr.lets (h : Tr w0 g N room n big P b c D S t l vt W) : ∀ m, (getF D.now m).isSome = true → Letter m := by
  obtain ⟨_, _, _, vm, whole, last, tight, tabs, R, _, k2, _⟩ := h
  exact k2.letters
theorem Tr.base (h : Tr w0 g N room n big P b c D S t l vt W) : Below w0.heap.size w0 W ∧ ∀ k, treeU S t l vt k → w0.heap.size ≤ k := by
  obtain ⟨_, _, _, vm, whole, last, tight, tabs, R, k1, _⟩ := h
  exact ⟨k1.base, k1.low⟩
theorem Tr.beside (h2 : Tr w0 g N room n2 big P2 b2 c2 D S t2 l2 v2 W) (h : Tr w0 g N room n big P b c D S t l vt W) (h' : Tr w0 g M room n big P' b' c' D' T t l vt' W') (to : TreeTo W S t l vt W' T vt') (hp : Parts2 t l vt t2 l2 v2)
    (hg : ∀ m, m.head? ≠ n.head? → getF D'.now m = getF D.now m) (hn : n2.head? ≠ n.head?) : Tr w0 g M room n2 big P2 b2 c2 D' T t2 l2 v2 W' := by
  have hlet := h'.lets
  obtain ⟨_, _, _, vm, whole, last, tight, tabs, R, k1, _⟩ := h
  obtain ⟨_, _, _, vm2, whole2, last2, tight2, tabs2, R2, j1, j2, j3⟩ := h2
  obtain ⟨i1, i2, i3, _⟩ := h'
  exact ⟨i1, i2, i3, vm2, whole2, last2, tight2, tabs2, R2, j1.beside k1 hp to, j2.beside hlet (fun m hm => hg m (by rw [hm]; exact hn)), j3⟩
theorem Parts2.after (h : Parts2 t l vt t2 l2 v2) (to : TreeTo W S t l vt W' T vt') (hr : ∀ r, v2.ownBlock = some r → r < W.heap.size) : Parts2 t l vt' t2 l2 v2 := by
  obtain ⟨q1, q2, q3⟩ := h
  refine ⟨q1, q2, fun r h1 h2 => ?_⟩
  rcases to.row r h2 with h3 | h3
  · exact q3 r h1 h3
  · have := hr r h1; omega
theorem Tr.rowlt (h : Tr w0 g N room n big P b c D S t l vt W) : ∀ r, vt.ownBlock = some r → r < W.heap.size := fun r hr => h.row r (.inr (.inr (.inr hr)))
/-- Beside an Open. -/
theorem Tr.opened (h2 : Tr w0 g N room n2 big P2 b2 c2 D S t2 l2 v2 W) (h' : Tr w0 g M room n big P' b' c' D' T t l vt W') (hg : ∀ m, getF D'.now m = getF D.now m) (hT : ∀ k, T k → since S W W' k) (ha : Apart S W W') : Tr w0 g M room n2 big P2 b2 c2 D' T t2 l2 v2 W' := by
  have hlet := h'.lets
  have hbs := h'.base
  obtain ⟨_, _, _, vm2, whole2, last2, tight2, tabs2, R2, j1, j2, j3⟩ := h2
  obtain ⟨i1, i2, i3, _⟩ := h'
  exact ⟨i1, i2, i3, vm2, whole2, last2, tight2, tabs2, R2, (j1.apart ha).less (fun k _ hk => hT k hk) (fun k hk => hbs.2 k (.inl hk)), j2.beside hlet (fun m _ => hg m), j3⟩
theorem Parts2.opened (h2 : Tr w0 g N room n2 big P2 b2 c2 D S t2 l2 v2 W) (ht : W.heap.size ≤ t) (hl : W.heap.size ≤ l) (hr : ∀ r, vt.ownBlock = some r → W.heap.size ≤ r) : Parts2 t l vt t2 l2 v2 := by
  have h := h2.row
  refine ⟨fun e => ?_, fun e => ?_, fun r h1 h3 => ?_⟩
  · have := h t2 (.inr (.inr (.inl rfl))); omega
  · have := h l2 (.inr (.inl rfl)); omega
  · have := h r (.inr (.inr (.inr h1))); have := hr r h3; omega
end

/-! ### Pages -/

/-- A tree's pages, and its names. -/
theorem LsI.span {D : Dsk} {n : List UInt8} {whole last b c : Nat} {tabs R : List (List Wr)} (h : LsI D n whole last tabs R b c) : ∃ L : List (List UInt8), (∀ m, (getF D.now m).isSome = true → m.head? = n.head? → m ∈ L) ∧ 510 * ((L.map fun m => (pagesF D.now m).length).sum) ≤ 2 * b + 60 * c + 510 + 540 * tabs.length :=
  ⟨_, fun m hm hh => by
    rcases h.own m hm hh with e | e
    · rw [e]; exact List.mem_cons_self
    · exact List.mem_cons_of_mem _ e, h.pages⟩
/-- Names that begin as one of these. -/
def Heads (D : Dsk) (hs : List (List UInt8)) : Prop := ∀ m, (getF D.now m).isSome = true → ∃ n ∈ hs, m.head? = n.head?
theorem Heads.go {D D' : Dsk} {hs : List (List UInt8)} {n : List UInt8} (h : Heads D hs) (hn : n ∈ hs) (hg : ∀ m, m.head? ≠ n.head? → getF D'.now m = getF D.now m) : Heads D' hs := fun m hm => by
  by_cases e : m.head? = n.head?
  · exact ⟨n, hn, e⟩
  · exact h m (by rw [← hg m e]; exact hm)
theorem Heads.same {D D' : Dsk} {hs : List (List UInt8)} (h : Heads D hs) (hg : ∀ m, getF D'.now m = getF D.now m) : Heads D' hs := fun m hm => h m (by rw [← hg m]; exact hm)
/-- How many pages trees take. -/
theorem spans {D : Dsk} {q : Nat} : ∀ (hs : List (List UInt8)), (∀ n ∈ hs, ∃ L : List (List UInt8), (∀ m, (getF D.now m).isSome = true → m.head? = n.head? → m ∈ L) ∧ 510 * ((L.map fun m => (pagesF D.now m).length).sum) ≤ q) →
    ∃ L : List (List UInt8), (∀ n ∈ hs, ∀ m, (getF D.now m).isSome = true → m.head? = n.head? → m ∈ L) ∧ 510 * ((L.map fun m => (pagesF D.now m).length).sum) ≤ hs.length * q
  | [], _ => ⟨[], (fun _ h => by cases h), by simp⟩
  | n :: r, h => by
    obtain ⟨L, h1, h2⟩ := h n (by simp)
    obtain ⟨L2, h3, h4⟩ := spans r fun m hm => h m (by simp [hm])
    refine ⟨L ++ L2, fun k hk m hm hh => ?_, ?_⟩
    · rcases List.mem_cons.1 hk with rfl | hk
      · exact List.mem_append_left _ (h1 m hm hh)
      · exact List.mem_append_right _ (h3 k hk m hm hh)
    · have hq : (r.length + 1) * q = r.length * q + q := Nat.succ_mul _ _
      rw [List.map_append, List.sum_append, List.length_cons, hq]
      omega
theorem count_heads {D : Dsk} {q : Nat} {hs : List (List UInt8)} (ho : Once D.now) (hh : Heads D hs) (h : ∀ n ∈ hs, ∃ L : List (List UInt8), (∀ m, (getF D.now m).isSome = true → m.head? = n.head? → m ∈ L) ∧ 510 * ((L.map fun m => (pagesF D.now m).length).sum) ≤ q) : 510 * count D.now ≤ hs.length * q := by
  obtain ⟨L, h1, h2⟩ := spans hs h
  have := count_sum L D.now ho fun m hm => by
    obtain ⟨n, hn, e⟩ := hh m hm
    exact h1 n hn m hm e
  omega

/-- How many pages there are where one of the trees has turned. -/
theorem big_heads {D E : Dsk} {hs : List (List UInt8)} {n : List UInt8} {whole last b c : Nat} {tabs R : List (List Wr)} (hh : Heads D hs) (hn : n ∈ hs) (hi : LsI E n whole last tabs R b c) (ht : tabs.length ≤ 4) (hg : ∀ m, m.head? ≠ n.head? → getF E.now m = getF D.now m) (ho : Once E.now)
    (hoth : ∀ n2 ∈ hs, n2 ≠ n → n2.head? ≠ n.head? ∧ ∃ whole last tabs R, LsI D n2 whole last tabs R b c ∧ tabs.length ≤ 4) : 510 * count E.now ≤ hs.length * (2 * b + 60 * c + 2670) :=
  count_heads ho (hh.go hn hg) fun n2 hn2 => by
    by_cases e : n2 = n
    · subst e
      obtain ⟨L, l1, l2⟩ := hi.span
      exact ⟨L, l1, by omega⟩
    · obtain ⟨h1, w2, a2, t2, r2, h2, h3⟩ := hoth n2 hn2 e
      obtain ⟨L, l1, l2⟩ := (h2.beside (D' := E) hi.letters (fun m hm => hg m (by rw [hm]; exact h1))).span
      exact ⟨L, l1, by omega⟩
theorem Tr.lsI {w0 W : World} {g N room : Nat} {n : List UInt8} {big : Prop} {P : Prs} {b c : Nat} {D : Dsk} {S : Nat → Prop} {t l : Nat} {vt : Value} (h : Tr w0 g N room n big P b c D S t l vt W) (hb : big) : ∃ whole last tabs R, LsI D n whole last tabs R b c ∧ tabs.length ≤ 4 := by
  obtain ⟨_, _, _, vm, whole, last, tight, tabs, R, _, k2, _, _, k5⟩ := h
  exact ⟨whole, last, tabs, R, k2, by have := (k5 hb).2; omega⟩

/-- A tree's pairs are all that a reopening needs. -/
theorem reopen_s {w0 W : World} {g N room : Nat} {n : List UInt8} {big : Prop} {P : Prs} {b c : Nat} {D : Dsk} {S : Nat → Prop} {t l : Nat} {vt : Value} (h : Tr w0 g N room n big P b c D S t l vt W) (he : ErrAt w0) (M : Nat) (hN : N + 2000 ≤ M) (hM : M ≤ 137438953472) :
    Calls Tryz.prog 9 #[.pointer (some ⟨g, 0, none⟩), .string ⟨n.toArray⟩] W (OpenedIs w0 g M room n big P b c D S W) := by
  obtain ⟨q1, q2, q3, vm, whole, last, tight, tabs, R, k1, k2, k3, _, k5⟩ := h
  rw [k3]
  exact open_s big q1 q2 q3 k2 he k1.base (fun j hj => k1.low j (.inl hj)) M hN hM (fun hb => (k5 hb).2)

/-- What Apply answers of any writes that aren't too long. -/
theorem apply_any (v : Value) (ws : List Wr) {w0 W : World} {g N room : Nat} {n : List UInt8} {big : Prop} {P : Prs} {b c : Nat} {D : Dsk} {S : Nat → Prop} {t l : Nat} {vt : Value} (h : Tr w0 g N room n big P b c D S t l vt W) (he : ErrAt w0) (M : Nat)
    (hv : TbIn W W.heap.size v ws) (hl : long8 ws = false) (hb : b + sumB ws ≤ 200000) (hc : c + ws.length ≤ 2000)
    (hbig : big → ∀ (E : Dsk) whole last tabs R, LsI E n whole last tabs R (b + sumB ws) (c + ws.length) → tabs.length ≤ 4 → (∀ m, m.head? ≠ n.head? → getF E.now m = getF D.now m) → Once E.now → count E.now + 800 ≤ room)
    (hN : N + 100000 ≤ M) (hM : M ≤ 137438953472) :
    Calls Tryz.prog 13 #[.pointer (some ⟨t, 0, none⟩), v] W (ApplyIs w0 g M room n big P b c D S t l vt ws W) := by
  by_cases h0 : ws = []
  · subst h0
    refine (apply_none t v W hv).mono ?_
    rintro e w' ⟨rfl, hb2⟩
    exact .inr ⟨rfl, S, D, vt, (h.below hb2).grow (by omega) hM (by omega) (by omega) hb hc, TreeTo.below hb2, (fun _ _ => rfl), fun _ => rfl⟩
  · exact apply_s v ws h he M hv hl h0 hb hc hbig hN hM

/-- Pairs that lie in none of the blocks of U. -/
structure PrFar (W : World) (U : Nat → Prop) (v : Value) (P : Prs) : Prop where
  own : OwnPr W 0 v P
  far : ∀ r, v.ownBlock = some r → ¬ U r
theorem PrFar.go {W W' : World} {U U' : Nat → Prop} {v : Value} {P : Prs} (h : PrFar W U v P) (ha : Apart U W W') (hU : ∀ k, k < W.heap.size → U' k → U k) : PrFar W' U' v P :=
  ⟨h.own.off ha h.far, fun r hr hu => h.far r hr (hU r (World.ownsRow.lt h.own r hr).2 hu)⟩
theorem PrFar.below {W W' : World} {U : Nat → Prop} {v : Value} {P : Prs} (h : PrFar W U v P) (hb : Below W.heap.size W W') : PrFar W' U v P := ⟨h.own.keep hb, h.far⟩
theorem PrFar.nil (W : World) (U : Nat → Prop) : PrFar W U (.slice none 0 0) [] := ⟨OwnPr.nil _ _, fun _ h => by cases h⟩
/-- Behind All. -/
theorem PrFar.all {W W' : World} {U : Nat → Prop} {v v' : Value} {P : Prs} {ws : List Wr} (h : PrFar W U v P) (hU : ∀ k, U k → k < W.heap.size) (ho : (ws = [] ∧ v' = v) ∨ OwnPr W' W.heap.size v' (allP P ws)) (hb : Below W.heap.size W W') : PrFar W' U v' (allP P ws) := by
  rcases ho with ⟨rfl, rfl⟩ | ho
  · exact h.below hb
  · exact ⟨ho.lower (Nat.zero_le _), fun r hr hu => by have := (World.ownsRow.lt ho r hr).1; have := hU r hu; omega⟩
theorem TreeTo.old {W W' : World} {S T : Nat → Prop} {t l : Nat} {vt vt' : Value} (h : TreeTo W S t l vt W' T vt') : ∀ k, k < W.heap.size → treeU T t l vt' k → treeU S t l vt k := fun k hk hu => by
  rcases hu with hu | hu | hu | hu
  · exact .inl ((since_old hk).1 (h.sets k hu))
  · exact .inr (.inl hu)
  · exact .inr (.inr (.inl hu))
  · rcases h.row k hu with h1 | h1
    · exact .inr (.inr (.inr h1))
    · omega

end Go.Proofs.YtlchmkpnehbnlaaGreatDoor.Cd

/-
  What the document tells of a tree. Conditions: the library's error lies where the program laid it.
-/
namespace Go.Proofs.YtlchmkpnehbnlaaGreatDoor.Cd
open Go.RowKit

theorem DkS.within {w : World} {g N : Nat} {S : Nat → Prop} {D : Dsk} (h : DkS w g N S D) : Once D.safe ∧ ∀ m, (getF D.safe m).isSome = true → (getF D.now m).isSome = true := by
  obtain ⟨P, _, h2⟩ := h
  exact ⟨h2.safe.once, fun m hm => h2.names m (h2.safe.has m hm)⟩

/-- The first tree's files behind a loss that keeps nothing. -/
theorem alive_lost {D2 D4 : Dsk} {n : List UInt8} {whole last last4 whole4 b c b4 c4 : Nat} {tabs R tabs4 R4 : List (List Wr)} (h2 : LsI D2 n whole last tabs R b c) (h4 : LsI D4 n whole4 last4 tabs4 R4 b4 c4) (hc : c < 24) (hc4 : c4 < 24)
    (ho : D4.off = false) (hs : pagesF D4.safe n = pagesF D2.now n) (hw : ∀ m, (getF D4.safe m).isSome = true → (getF D4.now m).isSome = true) : tabs = [] ∧ LsI (onD (lose D4 0)) n 0 0 [] R b c := by
  have hl : last = 0 := by have := h2.few; omega
  have hl4 : last4 = 0 := by have := h4.few; omega
  have hw0 : whole = 0 := by have := h2.le; omega
  have hw4 : whole4 = 0 := by have := h4.le; omega
  subst hl hl4 hw0 hw4
  have ht : tabs = [] := List.eq_nil_of_length_eq_zero (by have := h2.tabs_len; simpa using this)
  have hnm : ∀ m, (getF (onD (lose D4 0)).now m).isSome = true → (getF D4.now m).isSome = true := fun m hm => by
    have hm : (getF (lose D4 0).now m).isSome = true := hm
    rw [(lose_is ho 0).1, keeps_zero] at hm
    rcases there_names _ _ m hm with h | h
    · exact hw m h
    · exact h
  refine ⟨ht, h2.ne, h2.short, fun m hm => h4.letters m (hnm m hm), fun m hm hh => ?_, ⟨rfl, fun _ _ _ h => by cases h⟩, Nat.le_refl _, ?_, (fun _ h => by cases h), h2.goodr, ?_, h2.few, h2.tb, h2.tc⟩
  · exact h4.own m (hnm m hm) hh
  · show Lay (pagesF (lose D4 0).now n) _
    rw [lose_zero ho, hs]
    exact h2.lay
  · have := h2.bytes
    show 0 + sumBs R ≤ b
    omega

def aW1 : List Wr := [⟨[97], [49], false⟩]
def aW2 : List Wr := [⟨[97], [], true⟩, ⟨[98], [50], false⟩]
set_option maxRecDepth 100000 in
set_option maxHeartbeats 6400000 in
theorem alive11 (w : World) (he : ErrAt w) : Calls Tryz.prog 7 #[] w (Gives (.bool true) w) := by
  have HE := Lib.hid he
  clear he
  go_enter Tryz.func7, Tryz.ntmps7
  go_wp2_with fail
  refine (new_dks 60 w (by omega) (by omega)).mono ?_
  rintro e w1 ⟨g, S, rfl, hd, hS, hb1⟩
  have hL : Letter [116] := ⟨116, [], rfl, by decide, by decide, by decide⟩
  have CO := open_s False hd (ample_of (new_roomy (room := 60) (by omega)) (by omega)) (by omega) (lsI_new hL (by simp) (fun m hm => by simp [newD, getF] at hm)) HE.out hb1 hS 2000 (by omega) (by omega) (fun h => h.elim)
  have CO := Lib.hid CO
  clear hd hS hb1
  go_wp2_with fail
  refine CO.out.mono ?_
  rintro e w2 ⟨T2, D2, t, l, vt, rfl, htr, hsame, _, _, _, _, _⟩
  have hh2 : Heads D2 [[116]] := fun m hm => by rw [hsame m] at hm; simp [newD, getF] at hm
  have hP : treeP ([] : List (List Wr)) (ofW ([] : List (List Wr)).flatten) = [] := rfl
  rw [hP] at htr
  have HTR := Lib.hid htr
  have HH2 := Lib.hid hh2
  clear htr hsame hh2 hP CO
  go_wp2_with fail
  obtain ⟨w3, hw3⟩ : ∃ x, w2.alloc (.cells #[.string ⟨#[97]⟩, .string ⟨#[49]⟩, .bool false] 52) = x := ⟨_, rfl⟩
  have hb3 : Below w2.heap.size w2 w3 := by rw [← hw3]; exact (Below.refl _ _).alloc (Nat.le_refl _) _
  have hin3 : TbIn w3 w3.heap.size (.slice (some ⟨w2.heap.size, 0, none⟩) 1 1) aW1 := by
    rw [← hw3]
    exact tb_new w2 aW1 (by simp [aW1]) 52
  have CA := apply_any _ aW1 (HTR.out.below hb3) HE.out 200000 hin3 rfl (by decide) (by decide) (fun h => h.elim) (by omega) (by omega)
  have CA := Lib.hid CA
  rw [hw3]
  clear hin3 hw3 hb3
  refine CA.out.mono ?_
  intro e w4 ha
  rcases ha with ⟨_, _, hfull, _⟩ | ⟨rfl, T4, D4, vt4, htr4, _, hg4, _⟩
  · exfalso
    have h0 : count D2.now ≤ 1 := by
      obtain ⟨_, _, _, _, _, _, _, tabs, R, _, k2, _⟩ := HTR.out
      have hq := k2.pages
      have h1 := count_heads (q := 510) HTR.out.ample.roomy.once HH2.out (fun n hn => by
        obtain rfl := List.mem_singleton.1 hn
        obtain ⟨L, l1, l2⟩ := k2.span
        have : tabs.length = 0 := by have h3 := k2.tabs_len; have h4 := k2.few; have h5 := k2.le; split at h3 <;> omega
        exact ⟨L, l1, by omega⟩)
      simp at h1
      omega
    have : sumB aW1 = 32 := by decide
    omega
  have hh4 := HH2.out.go (n := [116]) (by simp) hg4
  have HT4 := Lib.hid htr4
  have HH4 := Lib.hid hh4
  clear htr4 hg4 hh4 HTR HH2 CA
  have CS := Lib.hid (sync_s HT4.out 300000 (by omega) (by omega))
  go_wp2_with fail
  refine CS.out.mono ?_
  rintro e w5 ⟨rfl, hn5, htr5, _, hlow⟩
  have hP5 : allP [] aW1 = [([97], [49])] := rfl
  have hlay5 : pagesF (syncD D4 [116]).1.safe [116] = pagesF D4.now [116] := by
    obtain ⟨_, _, _, _, whole, last, _, tabs, R, _, k2, k3, _⟩ := HT4.out
    refine (hlow (logO last R) k2.lay ?_).1
    have h7 : aW1.length = 1 := rfl
    have hl : last = 0 := by have := k2.few; omega
    have hw0 : whole = 0 := by have := k2.le; omega
    have ht : tabs = [] := List.eq_nil_of_length_eq_zero (by have := k2.tabs_len; rw [hl, hw0] at this; simpa using this)
    cases R with
    | nil => rw [ht] at k3; exact absurd k3 (by decide)
    | cons X r =>
      show 0 < (flat ((X :: r).map (recO (last + 1)))).length
      rw [List.map_cons, flat_cons, List.length_append]
      have := frm_ge (recO (last + 1) X)
      omega
  have HT5 := Lib.hid htr5
  have HN5 := Lib.hid hn5
  have HY5 := Lib.hid hlay5
  have HH5 := Lib.hid (show Heads (syncD D4 [116]).1 [[116]] from HH4.out.same fun m => by rw [hn5])
  obtain ⟨D5, hD5⟩ : ∃ x, (syncD D4 [116]).1 = x := ⟨_, rfl⟩
  rw [hD5] at HT5 HN5 HY5 HH5
  clear htr5 hn5 hlay5 hlow hD5 CS
  go_wp2_with fail
  obtain ⟨w6, hw6⟩ : ∃ x, w5.alloc (.cells #[.string ⟨#[97]⟩, .string ⟨#[]⟩, .bool true, .string ⟨#[98]⟩, .string ⟨#[50]⟩, .bool false] 52) = x := ⟨_, rfl⟩
  have hb6 : Below w5.heap.size w5 w6 := by rw [← hw6]; exact (Below.refl _ _).alloc (Nat.le_refl _) _
  have hin6 : TbIn w6 w6.heap.size (.slice (some ⟨w5.heap.size, 0, none⟩) 2 2) aW2 := by
    rw [← hw6]
    exact tb_new w5 aW2 (by simp [aW2]) 52
  have CA := apply_any _ aW2 (HT5.out.below hb6) HE.out 400000 hin6 rfl (by decide) (by decide) (fun h => h.elim) (by omega) (by omega)
  have CA := Lib.hid CA
  rw [hw6]
  clear hin6 hw6 hb6
  refine CA.out.mono ?_
  intro e w7 ha
  rcases ha with ⟨_, _, hfull, _⟩ | ⟨rfl, T7, D7, vt7, htr7, _, hg7, hsf7⟩
  · exfalso
    have h0 : count D5.now ≤ 1 := by
      obtain ⟨_, _, _, _, _, _, _, tabs, R, _, k2, _⟩ := HT5.out
      have h1 := count_heads (q := 800) HT5.out.ample.roomy.once HH5.out (fun n hn => by
        obtain rfl := List.mem_singleton.1 hn
        obtain ⟨L, l1, l2⟩ := k2.span
        have h6 : 0 + sumB aW1 = 32 := by decide
        have h7 : 0 + aW1.length = 1 := by decide
        have : tabs.length = 0 := by have h3 := k2.tabs_len; have h4 := k2.few; have h5 := k2.le; split at h3 <;> omega
        exact ⟨L, l1, by omega⟩)
      simp at h1
      omega
    have : sumB aW2 = 63 := by decide
    omega
  have hsf7 := hsf7 (by decide)
  have hh7 := HH5.out.go (n := [116]) (by simp) hg7
  have HT7 := Lib.hid htr7
  have HSF := Lib.hid hsf7
  have HH7 := Lib.hid hh7
  clear htr7 hg7 hh7 hsf7 CA
  have CF := Lib.hid (off_dks g 400000 T7 D7 w7 0 HT7.out.disk (by omega))
  go_wp2_with fail
  refine CF.out.mono ?_
  intro e w8 hm8
  obtain rfl := hm8.1
  have hd8 := hm8.2.1
  have ha8 := hm8.2.2
  have CN := Lib.hid (on_dks g 400000 _ (lose D7 0) w8 hd8)
  clear hm8 hd8 CF
  go_wp2_with fail
  refine CN.out.mono ?_
  intro e w9 hm9
  obtain rfl := hm9.1
  have hd9 := hm9.2.1
  have hT7 := HT7.out.base
  have hb9 : Below w.heap.size w w9 := (hT7.1.trans (ha8.low hT7.1.size fun k hk => hT7.2 k (.inl hk))).trans (hm9.2.2.low (by have := hT7.1.size; have := ha8.size; omega) fun k hk => by
    rcases hk with hk | hk
    · exact hT7.2 k (.inl hk)
    · have := hT7.1.size; omega)
  have hS9 : ∀ k, since (since T7 w7 w8) w8 w9 k → w.heap.size ≤ k := fun k hk => by
    have h1 := hT7.1.size
    have h2 := ha8.size
    rcases hk with (hk | hk) | hk
    · exact hT7.2 k (.inl hk)
    · omega
    · omega
  obtain ⟨hso, hsn⟩ := DkS.within HT7.out.disk
  have hon7 := HT7.out.ample.off
  obtain ⟨R, hR1, hi9⟩ : ∃ R, [([97], [49])] = treeP [] (ofW R.flatten) ∧ LsI (onD (lose D7 0)) [116] 0 0 [] R (0 + sumB aW1) (0 + aW1.length) := by
    obtain ⟨_, _, _, _, whole, last, _, tabs, R, _, k2, k3, _⟩ := HT4.out
    obtain ⟨_, _, _, _, whole7, last7, _, tabs7, R7, _, j2, _⟩ := HT7.out
    obtain ⟨e1, e2⟩ := alive_lost k2 j2 (by decide) (by decide) hon7 (by rw [HSF.out, HY5.out]) hsn
    subst e1
    exact ⟨R, k3, e2⟩
  have hro : Roomy (onD (lose D7 0)) 60 (count (lose D7 0).now) := by
    obtain ⟨e1, _, _, e4, e5⟩ := lose_is hon7 0
    refine ⟨rfl, e5, ?_, ?_, rfl⟩
    · show Once (lose D7 0).now
      rw [e1, keeps_zero]
      exact there_once _ _ hso
    · show (lose D7 0).room = 60
      rw [e4]
      exact HT7.out.ample.roomy.room
  have hh9 : Heads (onD (lose D7 0)) [[116]] := fun m hm => by
    have hm : (getF (lose D7 0).now m).isSome = true := hm
    rw [(lose_is hon7 0).1, keeps_zero] at hm
    rcases there_names _ _ m hm with h | h
    · exact HH7.out m (hsn m h)
    · exact HH7.out m h
  have hcnt : count (lose D7 0).now ≤ 60 := by
    have h1 := count_heads (q := 800) hro.once hh9 (fun n hn => by
      obtain rfl := List.mem_singleton.1 hn
      obtain ⟨L, l1, l2⟩ := hi9.span
      have h6 : 0 + sumB aW1 = 32 := by decide
      have h7 : 0 + aW1.length = 1 := by decide
      simp only [List.length_nil] at l2
      exact ⟨L, l1, by omega⟩)
    have h1 : 510 * count (lose D7 0).now ≤ 1 * 800 := h1
    omega
  have CO := open_s False hd9 (ample_of hro hcnt) (by omega) hi9 HE.out hb9 hS9 600000 (by omega) (by omega) (fun h => h.elim)
  rw [← hR1] at CO
  have CO := Lib.hid CO
  clear hm9 hd9 ha8 hT7 hb9 hS9 hso hsn hon7 hi9 hro hh9 hcnt hR1 CN HT4 HT5 HT7 HSF HH4 HH5 HH7 HN5 HY5
  go_wp2_with fail
  refine CO.out.mono ?_
  rintro e w10 ⟨T10, D10, t10, l10, vt10, rfl, htr10, _, _, _, _, _, _⟩
  have CG := get_t htr10 [97]
  rw [show findP [([97], [49])] [97] = some ([97], [49]) from rfl] at CG
  have CG := Lib.hid CG
  have HT10 := Lib.hid htr10
  clear htr10 CO
  go_wp2_with fail
  refine CG.out.mono ?_
  rintro e w11 ⟨rfl, hb11⟩
  have CC := scan_t (HT10.out.below hb11) [] 9 (by omega)
  rw [show scanP [([97], [49])] [] (9 : Int).toNat = [([97], [49])] from rfl] at CC
  have CC := Lib.hid CC
  have HB11 := Lib.hid (HT10.out.base.1.trans (hb11.mono HT10.out.base.1.size))
  clear hb11 CG
  go_wp2_with fail
  refine CC.out.mono ?_
  rintro e w12 ⟨v12, rfl, ho12, hb12⟩
  obtain ⟨A12, c12, rfl, _, _⟩ := ho12.prIn.len
  have HB12 := Lib.hid (HB11.out.trans (hb12.mono HB11.out.size))
  clear ho12 hb12 CC
  go_wp2_with fail
  go_ret
  exact ⟨rfl, HB12.out⟩

end Go.Proofs.YtlchmkpnehbnlaaGreatDoor.Cd

/-
  LsmFull answers true. Conditions: the library's error lies where the program laid it.
-/
namespace Go.Proofs.YtlchmkpnehbnlaaGreatDoor.Cd
open Go.RowKit

set_option maxRecDepth 100000 in
set_option maxHeartbeats 1600000 in
theorem lw_out (r : Int) (v : Value) (l : List St11) (w : World) (he : ErrAt w) (h1 : -9223372036854775808 ≤ r) (h2 : r ≤ 9223372036854775807) (hr : r < 0 ∨ 60 < r) (hv : Stps w w.heap.size v l) (hok : ∀ p ∈ l, p.Ok) :
    Calls Tryz.prog 4 #[v, .int .i64 r] w (Gives (.bool true) w) := by
  obtain ⟨A, c, rfl, hv2, hv3⟩ := hv.len
  have CA := Lib.hid (alive11 w he)
  have HV := Lib.hid hv
  have HOK := Lib.hid hok
  clear hv hok he
  go_enter Tryz.func4, Tryz.ntmps4
  go_wp2_with fail
  refine CA.out.mono ?_
  rintro e w1 ⟨rfl, hb1⟩
  have CG := Lib.hid (great11_any _ l w1 (by have := hb1.size; exact (HV.out.below hb1).more this) HOK.out)
  have HB1 := Lib.hid hb1
  clear hb1 CA
  go_wp2_with fail
  refine CG.out.mono ?_
  rintro e w2 ⟨g, rfl, hb2, _⟩
  have HB2 := Lib.hid (HB1.out.trans (hb2.mono HB1.out.size))
  clear hb2 CG
  cases g
  · rcases hr with hr | hr
    · have hd0 : decide (r < 0) = true := decide_eq_true hr
      go_wp2_with fail
      go_ret
      exact ⟨rfl, HB2.out⟩
    · have hd0 : decide (r < 0) = false := decide_eq_false (by omega)
      have hd1 : decide ((60 : Int) < r) = true := decide_eq_true hr
      go_wp2_with fail
      go_ret
      exact ⟨rfl, HB2.out⟩
  · go_wp2_with fail
    go_ret
    exact ⟨rfl, HB2.out⟩

set_option maxRecDepth 100000 in
set_option maxHeartbeats 12800000 in
theorem lw_full (r : Nat) (v : Value) (l : List St11) (w : World) (he : ErrAt w) (hr : r ≤ 60) (hv : Stps w w.heap.size v l) (hok : ∀ p ∈ l, p.Ok) :
    Calls Tryz.prog 4 #[v, .int .i64 r] w (Gives (.bool true) w) := by
  obtain ⟨A, c, rfl, hv2, hv3⟩ := hv.len
  have CA := Lib.hid (alive11 w he)
  have HV := Lib.hid hv
  have HOK := Lib.hid hok
  have HE := Lib.hid he
  have hd0 : decide ((r : Int) < 0) = false := decide_eq_false (by omega)
  have hd1 : decide ((60 : Int) < (r : Int)) = false := decide_eq_false (by omega)
  clear hv hok he
  go_enter Tryz.func4, Tryz.ntmps4
  go_wp2_with fail
  refine CA.out.mono ?_
  rintro e w1 ⟨rfl, hb1⟩
  have CG := Lib.hid (great11_any _ l w1 (by have := hb1.size; exact (HV.out.below hb1).more this) HOK.out)
  have HB1 := Lib.hid hb1
  clear hb1 CA
  go_wp2_with fail
  refine CG.out.mono ?_
  rintro e w2 ⟨gr, rfl, hb2, hsm⟩
  have HB2 := Lib.hid (HB1.out.trans (hb2.mono HB1.out.size))
  clear hb2 CG
  cases gr
  case true =>
    clear hsm
    go_wp2_with fail
    go_ret
    exact ⟨rfl, HB2.out⟩
  obtain ⟨hl60, hwt⟩ := hsm rfl
  clear hsm
  go_wp2_with fail
  refine (new_dks (r : Int) w2 (by omega) (by omega)).mono ?_
  rintro e w3 ⟨g, S, rfl, hd, hS, hb3⟩
  have hL : Letter [116] := ⟨116, [], rfl, by decide, by decide, by decide⟩
  have CO := open_s False hd (ample_of (new_roomy (room := r) (by omega)) (by omega)) (by omega) (lsI_new hL (by simp) (fun m hm => by simp [newD, getF] at hm)) HE.out (HB2.out.trans (hb3.mono HB2.out.size)) (fun k hk => Nat.le_trans HB2.out.size (hS k hk)) 100000 (by omega) (by omega) (fun h => h.elim)
  have CO := Lib.hid CO
  clear hd hS hb3
  go_wp2_with fail
  refine CO.out.mono ?_
  rintro e w4 ⟨T4, D4, t, lg, vt, rfl, htr, _, _, _, _, _, _⟩
  have hP : treeP ([] : List (List Wr)) (ofW ([] : List (List Wr)).flatten) = [] := rfl
  rw [hP] at htr
  have HTR := Lib.hid htr
  clear htr hP CO
  go_wp2_with fail
  go_loopw [8, 34] (fun pv i wr => ∃ (k : Nat) (P : Prs) (D : Dsk) (S : Nat → Prop) (vt : Value), i = .int .i64 k ∧ k ≤ l.length ∧ Hid (Tr w g (100000 + 200000 * k) r [116] False P (bOf (l.take k)) (cOf (l.take k)) D S t lg vt wr) ∧ Hid (PrFar wr (treeU S t lg vt) pv P)) (fun _ i _ => l.length - (intOf i).toNat)
  case atStart => exact ⟨0, [], D4, T4, vt, rfl, by omega, HTR.out, PrFar.nil _ _⟩
  case round =>
    obtain ⟨k, P, D, S, vt, rfl, hk, htr, hpr⟩ := hrel
    have HBW := Lib.hid htr.out.base.1
    have HROW := Lib.hid htr.out.row
    by_cases hlt : k < l.length
    · obtain ⟨p, hpk⟩ : ∃ p, l[k]? = some p := ⟨l[k], List.getElem?_eq_getElem hlt⟩
      obtain ⟨b, off, u, rfl, hB, hin, _, c0, c1, c2, c3, c4, c5, c6⟩ := HV.out.at HBW.out hpk
      obtain ⟨Au, cu, rfl, hcu1, hcu2⟩ := hin.len
      obtain ⟨hbs, hcs⟩ := bOf_snoc hpk
      have hsm := small11 hwt (k + 1)
      rw [hbs, hcs] at hsm
      have HIN := Lib.hid hin
      have HBS := Lib.hid (And.intro hbs hcs)
      have hz := HBW.out.size
      obtain ⟨w5, hw5⟩ : ∃ x, wr.alloc (.cells #[.slice Au p.ws.length cu, .string ⟨p.fro.toArray⟩, .int .i64 p.n, .bool p.syn, .bool p.aga, .int .i64 p.fuse, .int .u64 p.keep] 35) = x := ⟨_, rfl⟩
      have hb5 : Below wr.heap.size wr w5 := by rw [← hw5]; exact (Below.refl _ _).alloc (Nat.le_refl _) _
      have hr5 : w5.heap[wr.heap.size]? = some (.cells #[.slice Au p.ws.length cu, .string ⟨p.fro.toArray⟩, .int .i64 p.n, .bool p.syn, .bool p.aga, .int .i64 p.fuse, .int .u64 p.keep] 35) := by rw [← hw5]; exact heap_alloc_new _ _
      have hz5 : w5.heap.size = wr.heap.size + 1 := by rw [← hw5]; simp
      have hsize : wr.heap.size < w5.heap.size := by omega
      have HTR5 := Lib.hid (htr.out.below hb5)
      have HPR5 := Lib.hid (hpr.out.below hb5)
      have HW5 := Lib.hid hw5
      have HB5 := Lib.hid (HBW.out.trans (hb5.mono hz))
      have HR5 := Lib.hid hr5
      have HSZ := Lib.hid hsize
      have CL := Lib.hid (fun W' (hb : Below w.heap.size w W') => rlong8_any _ p.ws W' ((HIN.out.below hb).more hb.size))
      clear hpk hin hbs hcs hb5 hr5 hw5 htr hpr hz5
      go_wp2_with fail
      rw [HW5.out]
      refine (CL.out w5 HB5.out).mono ?_
      rintro e w6 ⟨rfl, hb6⟩
      have HTR6 := Lib.hid (HTR5.out.below hb6)
      have HPR6 := Lib.hid (HPR5.out.below hb6)
      have HB6 := Lib.hid (HB5.out.trans (hb6.mono HB5.out.size))
      have hr6 := (hb6.block wr.heap.size HSZ.out).trans HR5.out
      have q0 : w6.cell? ⟨wr.heap.size, 0, none⟩ = some (.slice Au p.ws.length cu) := cell_of_row _ _ 0 _ _ _ hr6
      have HR6 := Lib.hid hr6
      have hs6 : wr.heap.size < w6.heap.size := by have := hb6.size; have := HSZ.out; omega
      clear hb6 hr6 CL HTR5 HPR5
      cases hlong : long8 p.ws
      case true =>
        go_wp2_with fail
        go_roundw
        case rel =>
          refine ⟨k + 1, P, D, S, vt, by go_num, by omega, ?_, HPR6.out⟩
          unfold Hid
          rw [HBS.out.1, HBS.out.2]
          exact HTR6.out.grow (by omega) (by omega) (by omega) (by omega) (by omega) (by omega)
        case measure => simp [intOf]; omega
      have CA := Lib.hid (apply_any _ p.ws HTR6.out HE.out (200000 + 200000 * k) ((HIN.out.below HB6.out).more HB6.out.size) hlong (by omega) (by omega) (fun h => h.elim) (by omega) (by omega))
      clear c0 c1 c2 c3 c4 c5 c6
      go_wp2_with fail
      refine CA.out.mono ?_
      intro e w7 ha
      rcases ha with ⟨rfl, _, _, T7, htr7, hto⟩ | ⟨rfl, T7, D7, vt7, htr7, hto, _, _⟩
      · have hpr7 := HPR6.out.go hto.apart hto.old
        have HTR7 := Lib.hid htr7
        have HPR7 := Lib.hid hpr7
        have CH := Lib.hid (has_s _ P htr7 hpr7.own.prIn)
        clear htr7 hto hpr7 CA
        go_wp2_with fail
        refine CH.out.mono ?_
        rintro e w8 ⟨s, rfl, hs, hb8⟩
        obtain rfl : s = true := by simpa using hs
        have HTR8 := Lib.hid (HTR7.out.below hb8)
        have HPR8 := Lib.hid (HPR7.out.below hb8)
        clear hs hb8 CH HTR7 HPR7
        go_wp2_with fail
        go_roundw
        case rel =>
          refine ⟨k + 1, P, D, T7, vt, by go_num, by omega, ?_, HPR8.out⟩
          unfold Hid
          rw [HBS.out.1, HBS.out.2]
          exact HTR8.out.grow (by omega) (by omega) (by omega) (by omega) (by omega) (by omega)
        case measure => simp [intOf]; omega
      · have hpr7 := HPR6.out.go hto.apart hto.old
        have hb7 := htr7.base.1
        have hr7 := (hto.apart.block wr.heap.size hs6 (fun hu => by have := HROW.out _ hu; omega)).trans HR6.out
        have q7 : w7.cell? ⟨wr.heap.size, 0, none⟩ = some (.slice Au p.ws.length cu) := cell_of_row _ _ 0 _ _ _ hr7
        have hlim : P.length ≤ 1000000000 := by obtain ⟨_, _, _, _, _, _, _, q⟩ := HTR6.out.is; exact q.lim
        have CR := Lib.hid (rall_any _ _ P p.ws w7 hpr7.own.prIn ((HIN.out.below hb7).more hb7.size) (by omega))
        have HTR7 := Lib.hid htr7
        have HPR7 := Lib.hid hpr7
        clear htr7 hto hpr7 hb7 hr7 hlim CA
        go_wp2_with fail
        refine CR.out.mono ?_
        rintro e w8 ⟨v8, rfl, ho8, _, hb8⟩
        have hpr8 := HPR7.out.all HTR7.out.row ho8 hb8
        have htr8 := HTR7.out.below hb8
        have CH := Lib.hid (has_s _ _ htr8 hpr8.own.prIn)
        have HTR8 := Lib.hid htr8
        have HPR8 := Lib.hid hpr8
        clear ho8 hb8 htr8 hpr8 CR HTR7 HPR7
        go_wp2_with fail
        refine CH.out.mono ?_
        rintro e w9 ⟨s, rfl, hs, hb9⟩
        obtain rfl : s = true := by simpa using hs
        have HTR9 := Lib.hid (HTR8.out.below hb9)
        have HPR9 := Lib.hid (HPR8.out.below hb9)
        clear hs hb9 CH HTR8 HPR8
        go_wp2_with fail
        go_roundw
        case rel =>
          refine ⟨k + 1, _, D7, T7, vt7, by go_num, by omega, ?_, HPR9.out⟩
          unfold Hid
          rw [HBS.out.1, HBS.out.2]
          exact HTR9.out.grow (by omega) (by omega) (by omega) (by omega) (by omega) (by omega)
        case measure => simp [intOf]; omega
    · have hsm := small11 hwt k
      have CO := Lib.hid (reopen_s htr.out HE.out (100000 + 200000 * (k + 1)) (by omega) (by omega))
      have HPR := Lib.hid hpr.out
      clear htr hpr
      go_wp2_with fail
      refine CO.out.mono ?_
      rintro e w5 ⟨T5, D5, t5, l5, vt5, rfl, htr5, _, _, hap5, _, _, _⟩
      have hpr5 := HPR.out.go (U' := fun _ => False) (hap5.mono fun j hj => .inl hj) (fun _ _ h => h.elim)
      have CH := Lib.hid (has_s _ P htr5 hpr5.own.prIn)
      have HB5 := Lib.hid htr5.base.1
      clear htr5 hap5 hpr5 CO HPR
      go_wp2_with fail
      refine CH.out.mono ?_
      rintro e w6 ⟨s, rfl, hs, hb6⟩
      obtain rfl : s = true := by simpa using hs
      have HB6 := Lib.hid (HB5.out.trans (hb6.mono HB5.out.size))
      clear hs hb6 CH
      go_wp2_with fail
      go_ret
      exact ⟨rfl, HB6.out⟩

end Go.Proofs.YtlchmkpnehbnlaaGreatDoor.Cd

namespace Go.Proofs.YtlchmkpnehbnlaaGreatDoor.LsmFull
open Go.RowKit Go.Proofs.YtlchmkpnehbnlaaGreatDoor.Cd

theorem walk (v : Value) (l : List St11) (r : Int) (w : World) (he : ErrAt w) (h : Stps w w.heap.size v l ∧ ∀ p ∈ l, p.Ok) (hr : (Lit.int .i64 r).wf = true) : Calls Tryz.prog 4 #[v, .int .i64 r] w (Gives (.bool true) w) := by
  obtain ⟨h1, h2⟩ := bounds_i64 hr
  by_cases ho : r < 0 ∨ 60 < r
  · exact lw_out r v l w he (by omega) (by omega) ho h.1 h.2
  · obtain ⟨m, rfl⟩ := Int.eq_ofNat_of_zero_le (show 0 ≤ r by omega)
    exact lw_full m v l w he (by omega) h.1 h.2

end Go.Proofs.YtlchmkpnehbnlaaGreatDoor.LsmFull
