/- Joined: Td1, Td2, Td3, Td4, Td5, Td6, Td7, Td8, Td9, Td10. -/
import Derived.Test.YtiogckgchlnldaaGreatQ25
import Derived.Test.YtiogckgchlnldaaGreatQ28
import Derived.Test.YtiogckgchlnldaaGreatQ22
set_option linter.unusedSimpArgs false
set_option linter.unusedVariables false
/- Layer 10: the document's journal: there, Append, Sync. -/
set_option linter.unusedSimpArgs false
set_option linter.unusedVariables false
namespace Go.Proofs.YtiogckgchlnldaaGreat
open Go.RowKit
set_option maxRecDepth 100000

abbrev thTr (tp q : Nat) (n : Nm) : Kt := thB tp 106 (tpc q n)
theorem RfI.memT {B q room : Nat} {w0 w : World} {ts : List Kt} {d : Fd} {t : Kt} (h : RfI B w0 w q room ts d) (e : t ∈ ts) : t.P w := by
  obtain ⟨i, hi, e⟩ := List.mem_iff_getElem.1 e
  exact h.get i (by rw [List.getElem?_eq_getElem hi, e])
theorem RfI.tail {B q room : Nat} {w0 w : World} {ts : List Kt} {d : Fd} {t : Kt} (h : RfI B w0 w q room (t :: ts) d) : RfI B w0 w q room ts d := h.sub (List.sublist_cons_self t ts)
theorem Fx.db {d : Fd} (h : Fx d) : Db d := h.elim fun T h => h.db
theorem oth_len {n : Nm} (h : n.length ≤ 100) : (oth n).length ≤ maxLen := by unfold oth maxLen; simp; omega

set_option maxHeartbeats 4000000 in
theorem rthere_any {B q room : Nat} {w0 w : World} {ts : List Kt} {d : Fd} (n : Nm) (h : RfI B w0 w q room ts d) (hd : Db d) (hn : n.length ≤ maxLen) :
    Calls Tryz.prog 50 #[.pointer (some ⟨q, 0, none⟩), .string ⟨n.toArray⟩] w fun e w' => e = .returned (.bool (atF d.F n).isSome) ∧ Below w.heap.size w w' := by
  cases hat : atF d.F n with
  | none =>
    have HC := Lib.hid (rread_none n hn h hd hat)
    clear h hd hat hn
    go_enter Tryz.func50, Tryz.ntmps50
    go_wp2_with fail
    refine HC.out.mono ?_
    rintro e w1 ⟨rfl, h1⟩
    have H1 := Lib.hid h1
    clear h1 HC
    go_wp2_with fail
    go_ret
    exact ⟨rfl, H1.out⟩
  | some b =>
    have HC := Lib.hid (rread_some n hn h hd (b ++ pcs d.P n) (by unfold rdD; rw [hat]; rfl))
    clear h hd hat hn
    go_enter Tryz.func50, Tryz.ntmps50
    go_wp2_with fail
    refine HC.out.mono ?_
    rintro e w1 ⟨A, c, rfl, h1⟩
    have H1 := Lib.hid h1.out.2
    clear h1 HC
    go_wp2_with fail
    go_ret
    exact ⟨rfl, H1.out⟩

set_option maxHeartbeats 8000000 in
theorem rtappend_any {B q room : Nat} {w0 w : World} {ts : List Kt} {d : Fd} (tp : Nat) (n : Nm) (A : Option Addr) (c : Nat) (l : List UInt8) (h : RfI B w0 w q room ts d) (hd : Db d) (hT : thTr tp q n ∈ ts) (hn : n.length ≤ 100) (hl : Bs w A l) (hF : Fm A c) (hc : l.length ≤ c) (hll : l.length ≤ 200000)
    (hlf : d.lf ≤ 1000000) (hr : room ≤ 1048576) (hpl : d.P.length < 1000000) (hur : usedD d ≤ room) :
    Calls Tryz.prog 37 #[.pointer (some ⟨tp, 0, none⟩), .slice A l.length c] w fun e w' => e = .returned (.int .i64 ((tappendD room d n l).1 : Nat)) ∧ RfI B w0 w' q room ts (tappendD room d n l).2 := by
  unfold tappendD
  by_cases h6 : 600 < l.length
  · rw [if_pos h6]
    obtain ⟨m, hm⟩ : ∃ m, m = l.length := ⟨_, rfl⟩
    rw [← hm] at hc hll h6 ⊢
    have d6 : decide ((600 : Int) < (m : Int)) = true := decide_eq_true (by omega)
    have d7 : (600 : Int) < (m : Int) := by omega
    have HE := Lib.hid h
    clear h hT hl hm hc hpl hlf hr hd hF hur
    go_enter Tryz.func37, Tryz.ntmps37
    go_wp2_with fail
    go_ret
    exact ⟨rfl, HE.out⟩
  · rw [if_neg h6]
    have hmx : Tryz.prog.follows .mixedOrders = true := by kernel_rfl
    have bT : Blk w tp 106 (tpc q n) := h.memT hT
    have C := fbsays bT
    simp only [cellsSay, tpc, Nat.reduceAdd, and_true] at C
    have hwl := wrapL_600 (l := l) (by omega)
    have HW := Lib.hid (fun (x : More) => refWrap_any A c l (plus w x) (hl.below (plus_below w x)) hF hc hll)
    have HP := Lib.hid (fun (W : World) (A1 : Option Addr) (c1 : Nat) (hs : RfI B w0 W q room (thO (.slice A1 (wrapL l).length c1) (wrapL l) :: ts) d) => rappend_any n (by unfold maxLen; omega) A1 c1 (wrapL l) hs hd (by omega) hr (fun W' d' hs => OwnB.bs (show OwnB W' 0 (.slice A1 (wrapL l).length c1) (wrapL l) from hs.get 0 rfl)) hlf hpl hur)
    obtain ⟨m, hm⟩ : ∃ m, m = l.length := ⟨_, rfl⟩
    obtain ⟨k, hk⟩ : ∃ k, k = (wrapL l).length := ⟨_, rfl⟩
    obtain ⟨r, hr9⟩ : ∃ r, r = appendD room d n (wrapL l) := ⟨_, rfl⟩
    rw [← hk, ← hr9] at HP
    rw [← hm] at HW h6 hc hll ⊢
    rw [← hr9]
    have d6 : decide ((600 : Int) < (m : Int)) = false := decide_eq_false (by omega)
    have d7 : ¬ (600 : Int) < (m : Int) := by omega
    have HE := Lib.hid (And.intro h hk)
    have hpl2 := plus_cell w
    clear h hT hl hm hc hpl hlf hr hwl hk hr9 bT h6 hd hF hur
    go_enter Tryz.func37, Tryz.ntmps37
    go_wp2_with fail
    refine wp_region_fresh_tail 10 [] [1, 5, 9, 10] (fun k2 V z => if k2 = 9 then ∃ A1 c1, V = .slice A1 k c1 ∧ OwnB z w.heap.size (.slice A1 k c1) (wrapL l) else V = .pointer (some ⟨tp, 0, none⟩)) hmx (by kernel_rfl) (by kernel_rfl) ?_
    simp only [List.take_succ_cons, List.take_zero, List.drop_succ_cons, List.drop_zero]
    refine walkF_one none w rfl (by kernel_rfl) ?_; go_big_quiet_step (fail); refine wpQuiet_nil ?_
    refine walkF_make none w rfl rfl rfl (by kernel_rfl) (fun y => ?_) ?_
    · refine grow_val (v := .pointer (some ⟨tp, 0, none⟩)) (w' := plus w y) ?_ (Below.refl _ _) ?_
      · simp [execOp, go_sem]
      · exact rfl
    intro V1 z1 hV1 g1
    obtain rfl : V1 = .pointer (some ⟨tp, 0, none⟩) := hV1
    conv => arg 11; simp [Act.put]
    iterate 3 (refine walkF_one none w rfl (by kernel_rfl) ?_; go_big_quiet_step (fail); refine wpQuiet_nil ?_)
    refine walkF_make none w rfl rfl rfl (by kernel_rfl) (fun y => ?_) ?_
    · refine grow_val (v := .pointer (some ⟨tp, 0, none⟩)) (w' := plus w y) ?_ (Below.refl _ _) ?_
      · simp [execOp, go_sem]
      · exact rfl
    intro V5 z5 hV5 g5
    obtain rfl : V5 = .pointer (some ⟨tp, 0, none⟩) := hV5
    conv => arg 11; simp [Act.put]
    iterate 3 (refine walkF_one none w rfl (by kernel_rfl) ?_; go_big_quiet_step (fail); refine wpQuiet_nil ?_)
    refine walkF_make none w rfl rfl rfl (by kernel_rfl) (fun y => ?_) ?_
    · refine grow_call ?_ ((HW.out y).mono ?_)
      · simp [execOp, go_sem]
      · rintro e w4 ⟨A4, n4, c4, rfl, rfl, h4, h5⟩
        exact ⟨_, rfl, h5, A4, c4, by rw [HE.out.2], by rw [HE.out.2]; exact h4.mono (plus_below w y).size⟩
    intro V9 z9 hV9 g9
    obtain ⟨A1, c1, rfl, o9⟩ : ∃ A1 c1, V9 = .slice A1 k c1 ∧ OwnB z9 w.heap.size (.slice A1 k c1) (wrapL l) := hV9
    conv => arg 11; simp [Act.put]
    refine walkF_end ?_
    intro w4 h0 hE
    have k9 : Below z9.heap.size z9 w4 := hE 9
    have h5 : RfI B w0 w4 q room (thO (.slice A1 k c1) (wrapL l) :: ts) d := HE.out.1.cons h0 ((o9.below k9).mono (Nat.zero_le _)) (fun j hj => (World.ownsRow.lt o9 j hj).1)
    have HF := Lib.hid (HP.out _ _ _ h5)
    clear hE k9 o9 h0 g9 g5 g1 h5 hpl2 HP HW C
    go_wp2_with fail
    refine HF.out.mono ?_
    rintro e w5 ⟨rfl, h6⟩
    have H6 := Lib.hid h6.tail
    clear h6
    go_wp2_with fail
    go_ret
    exact ⟨rfl, H6.out⟩

set_option maxHeartbeats 4000000 in
theorem rtsync_any {B q room : Nat} {w0 w : World} {ts : List Kt} {d : Fd} (tp : Nat) (n : Nm) (h : RfI B w0 w q room ts d) (hd : Db d) (hT : thTr tp q n ∈ ts) (hn : n.length ≤ 100) (hlf : d.lf ≤ 1000000) :
    Calls Tryz.prog 30 #[.pointer (some ⟨tp, 0, none⟩)] w fun e w' => e = .returned (.int .i64 ((syncD d n).1 : Nat)) ∧ RfI B w0 w' q room ts (syncD d n).2 := by
  have hmx : Tryz.prog.follows .mixedOrders = true := by kernel_rfl
  have bT : Blk w tp 106 (tpc q n) := h.memT hT
  have C := fbsays bT
  simp only [cellsSay, tpc, Nat.reduceAdd, and_true] at C
  have HP := Lib.hid (fun (x : More) => rsync_any n (by unfold maxLen; omega) (h.go (plus_below w x)) hd hlf)
  have hp := plus_cell w
  clear h hT bT hn hlf hd
  go_enter Tryz.func30, Tryz.ntmps30
  go_wp2_with fail
  refine wp_region_tail_ext 8 (by kernel_rfl) (by kernel_rfl) ?_
  simp only [List.take_succ_cons, List.take_zero, List.drop_succ_cons, List.drop_zero]
  repeat (go_big_quiet_step (fail))
  refine wpQuiet_nil ?_
  rintro w2 ⟨x, rfl⟩
  have HF := Lib.hid (HP.out x)
  clear HP hp C
  go_wp2_with fail
  refine HF.out.mono ?_
  rintro e w3 ⟨rfl, h3⟩
  have H3 := Lib.hid h3
  clear h3
  go_wp2_with fail
  go_ret
  exact ⟨rfl, H3.out⟩

end Go.Proofs.YtiogckgchlnldaaGreat

/- Layer 10: the document's journal: the other file is written. -/
set_option linter.unusedSimpArgs false
set_option linter.unusedVariables false
namespace Go.Proofs.YtiogckgchlnldaaGreat
open Go.RowKit
set_option maxRecDepth 100000

set_option maxHeartbeats 16000000 in
theorem rrewrite_any {B q room : Nat} {w0 w : World} {ts : List Kt} {d : Fd} (tp : Nat) (n : Nm) (A : Option Addr) (c : Nat) (L : List Bx) (h : RfI B w0 w q room ts d) (hfx : Fx d) (hT : thTr tp q n ∈ ts) (hn : n.length ≤ 99) (hN : ∀ W d', RfI B w0 W q room ts d' → Ns W A L ∧ ∀ x ∈ L, Bc W x.A x.c x.b) (hL6 : ∀ x ∈ L, x.b.length ≤ 600)
    (hlf : d.lf ≤ 1000000) (hr : room ≤ 1048576) (hu : usedD d + 610 * L.length ≤ 200000) (hpl : d.P.length + L.length < 1000000) (hur : (usedD d : Int) ≤ ((room : Nat) : Int)) :
    Calls Tryz.prog 58 #[.pointer (some ⟨tp, 0, none⟩), .slice A L.length c] w fun e w' => e = .returned (.int .i64 ((rewriteD room d n (L.map Bx.b)).1 : Nat)) ∧ RfI B w0 w' q room ts (rewriteD room d n (L.map Bx.b)).2 := by
  have hmx : Tryz.prog.follows .mixedOrders = true := by kernel_rfl
  have hon : (oth n).length ≤ maxLen := oth_len (by omega)
  have hnn : n.length ≤ maxLen := by unfold maxLen; omega
  obtain ⟨D1, hD1⟩ : ∃ D1, D1 = createD d (oth n) := ⟨_, rfl⟩
  obtain ⟨D4, hD4⟩ : ∃ D4, D4 = rewriteD room d n (L.map Bx.b) := ⟨_, rfl⟩
  have bT : Blk w tp 106 (tpc q n) := h.memT hT
  have C := fbsays bT
  simp only [cellsSay, tpc, Nat.reduceAdd, and_true] at C
  have hos := oth_str n
  have hsz : (⟨n.toArray⟩ : ByteArray).size ≤ 100 := by
    have : (⟨n.toArray⟩ : ByteArray).size = n.length := by simp [ByteArray.size]
    omega
  have HC := Lib.hid (rcreate_any (oth n) hon h hfx.db hlf)
  have hb1 := bd_create hfx (oth n)
  have hk1 := create_k d (oth n)
  have hk4 := rewrite_k room d n (L.map Bx.b)
  rw [← hD1] at HC hb1 hk1
  rw [← hD4] at hk4 ⊢
  obtain ⟨m, hm⟩ : ∃ m, m = L.length := ⟨_, rfl⟩
  have hm9 : m ≤ 1000 := by omega
  rw [← hm] at hu hpl ⊢
  have HF := Lib.hid (And.intro hD1 (And.intro hD4 (And.intro hm (And.intro hN (And.intro hL6 (And.intro hu (And.intro hpl (And.intro hb1 (And.intro hT (And.intro hlf (And.intro hr (And.intro hur hk4))))))))))))
  clear hD1 hD4 hm hN hL6 hu hpl hb1 h hT bT hlf hr hur hfx hk4
  go_enter Tryz.func58, Tryz.ntmps58
  go_wp2_with fail
  refine HC.out.mono ?_
  rintro e w1 ⟨rfl, h1⟩
  have H1 := Lib.hid h1
  clear h1 HC C
  go_wp2_with fail
  go_loopw [6, 7] (fun s6 s7 wr => ∃ k ec : Nat, k ≤ m ∧ ec ≤ 1000 ∧ s7 = .int .i64 k ∧ s6 = .int .i64 ec ∧ Hid (∃ dk, RfI B w0 wr q room ts dk ∧ ((ec = 0 ∧ D1.1 = 0 ∧ appsD room (oth n) (L.map Bx.b) D1.2 = appsD room (oth n) ((L.map Bx.b).drop k) dk ∧ Fx dk ∧ usedD dk + 610 * (m - k) ≤ 200000 ∧ dk.P.length + (m - k) < 1000000 ∧ dk.lf ≤ 1000000 ∧ (usedD dk : Int) ≤ ((room : Nat) : Int)) ∨ (ec ≠ 0 ∧ D4 = (ec, dk))))) (fun _ s _ => m - (intOf s).toNat)
  case atStart =>
    obtain ⟨hD1, hD4, hm, -, -, hu, hpl, hb1, -, hlf, -, hur, -⟩ := HF.out
    have e1 := hb1.us
    have e2 := hb1.lf
    have e3 := hb1.pl
    refine ⟨0, D1.1, Nat.zero_le _, hk1, rfl, rfl, Lib.hid ⟨D1.2, H1.out, ?_⟩⟩
    by_cases hz : D1.1 = 0
    · exact .inl ⟨hz, hz, by rw [List.drop_zero], hb1.fx, by omega, by omega, by omega, by omega⟩
    · exact .inr ⟨hz, by rw [hD4, rewriteD, ← hD1, if_pos hz]⟩
  case round =>
    obtain ⟨k, ec, hk, hec, rfl, rfl, HR⟩ := hrel
    by_cases hz : ec = 0
    · subst hz
      obtain ⟨dk, r1, hdis⟩ := HR.out
      obtain ⟨-, z1, r2, r3, r4, r5, r6, r7⟩ := hdis.resolve_right (fun h => h.1 rfl)
      by_cases hlt : k < m
      · obtain ⟨x, hx⟩ : ∃ x, L[k]? = some x := ⟨_, List.getElem?_eq_getElem (by rw [← HF.out.2.2.1]; exact hlt)⟩
        have hxm := List.mem_of_getElem? hx
        obtain ⟨hNs, hBc⟩ := HF.out.2.2.2.1 wr dk r1
        obtain ⟨p, f, hAe, hce⟩ := hNs.row k x hx
        have c0 := hce 0 _ rfl
        simp only [Nat.add_zero, Nat.mul_one] at c0
        subst hAe
        have hx6 := HF.out.2.2.2.2.1 x hxm
        have hwl := wrapL_600 hx6
        have hbx := hBc x hxm
        have HW := Lib.hid (fun (y : More) => refWrap_any x.A x.c x.b (plus wr y) (hbx.1.below (plus_below wr y)) hbx.2.2.2 hbx.2.1 (by omega))
        have bT := r1.memT HF.out.2.2.2.2.2.2.2.2.1
        have C := fbsays (show Blk wr tp 106 (tpc q n) from bT)
        simp only [cellsSay, tpc, Nat.reduceAdd, and_true] at C
        obtain ⟨kk, hkk⟩ : ∃ kk, kk = (wrapL x.b).length := ⟨_, rfl⟩
        obtain ⟨rr, hrr⟩ : ∃ rr, rr = appendD room dk (oth n) (wrapL x.b) := ⟨_, rfl⟩
        have HP := Lib.hid (fun (W : World) (A1 : Option Addr) (c1 : Nat) (hs : RfI B w0 W q room (thO (.slice A1 (wrapL x.b).length c1) (wrapL x.b) :: ts) dk) => rappend_any (oth n) hon A1 c1 (wrapL x.b) hs r3.db (by omega) HF.out.2.2.2.2.2.2.2.2.2.2.1 (fun W' d' hs => OwnB.bs (show OwnB W' 0 (.slice A1 (wrapL x.b).length c1) (wrapL x.b) from hs.get 0 rfl)) r6 (by omega) (by omega))
        have hbA := bd_append r3 room (oth n) hx6 (by omega) (by omega)
        have hrm := rm_append r3 (room := ((room : Nat) : Int)) (oth n) hx6 (by omega) (by omega) r7
        have hkA := append_k room dk (oth n) (wrapL x.b)
        have hdr : (L.map Bx.b).drop k = x.b :: (L.map Bx.b).drop (k + 1) := by
          rw [List.drop_eq_getElem_cons (by rw [List.length_map, ← HF.out.2.2.1]; exact hlt)]
          congr 1
          rw [List.getElem_map]
          have := (List.getElem?_eq_some_iff.1 hx).2
          rw [this]
        have hA0 := fun h => apps_cons0 (room := room) (o := oth n) (x := x.b) (xs := (L.map Bx.b).drop (k + 1)) (d := dk) h
        have hA1 := fun h => apps_cons1 (room := room) (o := oth n) (x := x.b) (xs := (L.map Bx.b).drop (k + 1)) (d := dk) h
        rw [hdr] at r2
        rw [← hrr] at HP hbA hrm hkA hA0 hA1
        rw [← hkk] at HP hwl
        obtain ⟨xn, hxn⟩ : ∃ xn, xn = x.b.length := ⟨_, rfl⟩
        rw [← hxn] at c0 HW
        have HG := Lib.hid (And.intro r1 (And.intro r2 (And.intro r4 (And.intro r5 (And.intro r6 (And.intro hkk (And.intro hbA (And.intro hrm (And.intro hA0 (And.intro hA1 z1))))))))))
        have hkl : (k : Int) < (m : Int) := by omega
        have hk0 : (0 : Int) ≤ (k : Int) := by omega
        have hpl2 := plus_cell wr
        clear r1 r2 r3 r4 r5 r6 r7 HR hdis hx hxm hNs hBc hce hx6 hwl bT hkk hrr hbA hrm hdr hA0 hA1 hxn hbx z1
        go_wp2_with fail
        refine wp_region_fresh_tail 10 [] [1, 7, 9, 10] (fun k2 V z => if k2 = 9 then ∃ A1 c1, V = .slice A1 kk c1 ∧ OwnB z wr.heap.size (.slice A1 kk c1) (wrapL x.b) else if k2 = 7 then V = .pointer (some ⟨p, f + k, none⟩) else V = .pointer (some ⟨tp, 0, none⟩)) hmx (by kernel_rfl) (by kernel_rfl) ?_
        simp only [List.take_succ_cons, List.take_zero, List.drop_succ_cons, List.drop_zero]
        refine walkF_one none wr rfl (by kernel_rfl) ?_; go_big_quiet_step (fail); refine wpQuiet_nil ?_
        refine walkF_make none wr rfl rfl rfl (by kernel_rfl) (fun y => ?_) ?_
        · refine grow_val (v := .pointer (some ⟨tp, 0, none⟩)) (w' := plus wr y) ?_ (Below.refl _ _) ?_
          · simp [execOp, go_sem]
          · exact rfl
        intro V1 z1 hV1 g1
        obtain rfl : V1 = .pointer (some ⟨tp, 0, none⟩) := hV1
        conv => arg 11; simp [Act.put]
        iterate 5 (refine walkF_one none wr rfl (by kernel_rfl) ?_; go_big_quiet_step (fail); refine wpQuiet_nil ?_)
        refine walkF_make none wr rfl rfl rfl (by kernel_rfl) (fun y => ?_) ?_
        · refine grow_val (v := .pointer (some ⟨p, f + k, none⟩)) (w' := plus wr y) ?_ (Below.refl _ _) ?_
          · simp [execOp, go_sem, hkl, hk0]
          · exact rfl
        intro V7 z7 hV7 g7
        obtain rfl : V7 = .pointer (some ⟨p, f + k, none⟩) := hV7
        conv => arg 11; simp [Act.put]
        refine walkF_one none wr rfl (by kernel_rfl) ?_; go_big_quiet_step (fail); refine wpQuiet_nil ?_
        refine walkF_make none wr rfl rfl rfl (by kernel_rfl) (fun y => ?_) ?_
        · refine grow_call ?_ ((HW.out y).mono ?_)
          · simp [execOp, go_sem]
          · rintro e w4 ⟨A4, n4, c4, rfl, rfl, h4, h5⟩
            exact ⟨_, rfl, h5, A4, c4, by rw [HG.out.2.2.2.2.2.1], by rw [HG.out.2.2.2.2.2.1]; exact h4.mono (plus_below wr y).size⟩
        intro V9 z9 hV9 g9
        obtain ⟨A1, c1, rfl, o9⟩ : ∃ A1 c1, V9 = .slice A1 kk c1 ∧ OwnB z9 wr.heap.size (.slice A1 kk c1) (wrapL x.b) := hV9
        conv => arg 11; simp [Act.put]
        refine walkF_end ?_
        intro w4 h0 hE
        have k9 : Below z9.heap.size z9 w4 := hE 9
        have h5 : RfI B w0 w4 q room (thO (.slice A1 kk c1) (wrapL x.b) :: ts) dk := HG.out.1.cons h0 ((o9.below k9).mono (Nat.zero_le _)) (fun j hj => (World.ownsRow.lt o9 j hj).1)
        have HQ := Lib.hid (HP.out _ _ _ h5)
        clear hE k9 o9 h0 g9 g7 g1 h5 hpl2 HP HW C c0
        go_wp2_with fail
        refine HQ.out.mono ?_
        rintro e w5 ⟨rfl, h6⟩
        have H6 := Lib.hid h6.tail
        clear h6 HQ
        obtain ⟨r1, r2, r4, r5, r6, hkk, hbA, hrm, hA0, hA1, z1⟩ := HG.out
        have e1 := hbA.us
        have e2 := hbA.lf
        have e3 := hbA.pl
        have HE := Lib.hid (show ∃ dk, RfI B w0 w5 q room ts dk ∧ ((rr.1 = 0 ∧ D1.1 = 0 ∧ appsD room (oth n) (L.map Bx.b) D1.2 = appsD room (oth n) ((L.map Bx.b).drop (k + 1)) dk ∧ Fx dk ∧ usedD dk + 610 * (m - (k + 1)) ≤ 200000 ∧ dk.P.length + (m - (k + 1)) < 1000000 ∧ dk.lf ≤ 1000000 ∧ (usedD dk : Int) ≤ ((room : Nat) : Int)) ∨ (rr.1 ≠ 0 ∧ D4 = (rr.1, dk))) from by
          refine ⟨rr.2, H6.out, ?_⟩
          by_cases hz : rr.1 = 0
          · rw [hA0 hz] at r2
            exact .inl ⟨hz, z1, r2, hbA.fx, by omega, by omega, by omega, hrm⟩
          · rw [hA1 hz] at r2
            exact .inr ⟨hz, by rw [HF.out.2.1, rewriteD, ← HF.out.1, if_neg (by rw [z1]; decide), r2, if_pos hz]⟩)
        clear r1 r2 r4 r5 r6 hkk hbA hrm hA0 hA1 e1 e2 e3 H6 HG z1
        go_wp2_with fail
        go_roundw
        case measure => simp [intOf]; omega
        case rel => exact ⟨k + 1, rr.1, by omega, hkA, by go_num, rfl, HE⟩
      · obtain rfl : k = m := by omega
        have hkk : ¬ ((k : Int) < (k : Int)) := by omega
        have hdr : (L.map Bx.b).drop k = [] := List.drop_of_length_le (by rw [List.length_map, ← HF.out.2.2.1]; exact Nat.le_refl _)
        rw [hdr, show appsD room (oth n) [] dk = (0, dk) from rfl] at r2
        have HD4 : Hid (D4 = if (syncD dk (oth n)).1 ≠ 0 then syncD dk (oth n) else renameD (syncD dk (oth n)).2 (oth n) n) := Lib.hid (by
          rw [HF.out.2.1, rewriteD, ← HF.out.1, if_neg (by rw [z1]; decide), r2]
          simp only [ne_eq, not_true_eq_false, if_false])
        obtain ⟨D5, hD5⟩ : ∃ D5, D5 = syncD dk (oth n) := ⟨_, rfl⟩
        rw [← hD5] at HD4
        have bT := r1.memT HF.out.2.2.2.2.2.2.2.2.1
        have C := fbsays (show Blk wr tp 106 (tpc q n) from bT)
        simp only [cellsSay, tpc, Nat.reduceAdd, and_true] at C
        have HS := Lib.hid (rsync_any (oth n) hon r1 r3.db r6)
        have hk5 := sync_k dk (oth n)
        have hb5 := bd_sync r3 (oth n)
        rw [← hD5] at HS hk5 hb5
        have HL5 := Lib.hid (And.intro (show D5.2.lf ≤ 1000000 by have := hb5.lf; omega) hb5.fx)
        clear r1 r2 r3 r4 r5 r6 r7 HR hdis hdr hD5 bT hb5 z1
        go_wp2_with fail
        refine HS.out.mono ?_
        rintro e w6 ⟨rfl, h6⟩
        have H6 := Lib.hid h6
        clear h6 HS C
        by_cases hz : D5.1 = 0
        · have kc : ((D5.1 : Int) == 0) = true := beq_iff_eq.2 (by omega)
          have HE : Hid (D4 = renameD D5.2 (oth n) n) := Lib.hid (by rw [HD4.out, hz]; simp)
          have hp := plus_cell w6
          have bT := H6.out.memT HF.out.2.2.2.2.2.2.2.2.1
          have C := fbsays (show Blk w6 tp 106 (tpc q n) from bT)
          simp only [cellsSay, tpc, Nat.reduceAdd, and_true] at C
          have HS := Lib.hid (fun (x : More) => rrename_any (oth n) n hon hnn (H6.out.go (plus_below w6 x)) HL5.out.2.db HL5.out.1)
          rw [← HE.out] at HS
          clear hz bT
          go_wp2_with fail
          refine wp_region_tail_ext 9 (by kernel_rfl) (by kernel_rfl) ?_
          simp only [List.take_succ_cons, List.take_zero, List.drop_succ_cons, List.drop_zero]
          repeat (go_big_quiet_step (fail))
          refine wpQuiet_nil ?_
          rintro w2 ⟨x, rfl⟩
          have HC1 := Lib.hid (HS.out x)
          clear HS hp C
          go_wp2_with fail
          refine HC1.out.mono ?_
          rintro e w7 ⟨rfl, h7⟩
          have H7 := Lib.hid h7
          clear h7 HC1
          go_wp2_with fail
          go_ret
          exact ⟨rfl, H7.out⟩
        · have kc : ((D5.1 : Int) == 0) = false := beq_eq_false_iff_ne.2 (by omega)
          have HE : Hid (D4 = D5) := Lib.hid (by rw [HD4.out]; simp [hz])
          clear hz
          go_wp2_with fail
          go_ret
          rw [HE.out]
          exact ⟨rfl, H6.out⟩
    · have kc : ((ec : Int) == 0) = false := beq_eq_false_iff_ne.2 (by omega)
      obtain ⟨dk, r1, hdis⟩ := HR.out
      have r2 := hdis.resolve_left (fun h => hz h.1)
      have HE := Lib.hid (And.intro r1 r2.2)
      clear r1 r2 hdis HR hz
      by_cases hlt : k < m
      · have hkl : (k : Int) < (m : Int) := by omega
        go_wp2_with fail
        go_ret
        rw [HE.out.2]
        exact ⟨rfl, HE.out.1⟩
      · have hkl : ¬ (k : Int) < (m : Int) := by omega
        go_wp2_with fail
        go_ret
        rw [HE.out.2]
        exact ⟨rfl, HE.out.1⟩

end Go.Proofs.YtiogckgchlnldaaGreat

/- Layer 10: the document's journal: Swap. -/
set_option linter.unusedSimpArgs false
set_option linter.unusedVariables false
namespace Go.Proofs.YtiogckgchlnldaaGreat
open Go.RowKit
set_option maxRecDepth 100000

theorem remove_gone {d : Fd} {n : Nm} (h : (atF d.F n).isSome = false) : (removeD d n).2 = d := by
  unfold removeD
  rw [if_pos (by cases hh : atF d.F n with | none => rfl | some _ => rw [hh] at h; cases h)]
theorem remove_go {B q room : Nat} {w0 w : World} {ts : List Kt} {d : Fd} {n : Nm} (h : RfI B w0 w q room ts d) (hfx : Fx d) (hn : n.length ≤ maxLen) (hlf : d.lf ≤ 1000000) :
    Calls Tryz.prog 51 #[.pointer (some ⟨q, 0, none⟩), .string ⟨n.toArray⟩] w fun e w' => ∃ v, e = .returned v ∧ RfI B w0 w' q room ts (removeD d n).2 :=
  (rremove_any n hn h hfx.db hlf).mono fun e w' ⟨h1, h2⟩ => ⟨_, h1, h2⟩

set_option maxHeartbeats 16000000 in
theorem rswap_any {B q room : Nat} {w0 w : World} {ts : List Kt} {d : Fd} (tp : Nat) (n : Nm) (A : Option Addr) (c : Nat) (L : List Bx) (h : RfI B w0 w q room ts d) (hfx : Fx d) (hT : thTr tp q n ∈ ts) (hn : n.length ≤ 99) (hN : ∀ W d', RfI B w0 W q room ts d' → Ns W A L ∧ ∀ x ∈ L, Bc W x.A x.c x.b) (hb : ∀ x ∈ L, x.b.length ≤ 200000)
    (hlf : d.lf ≤ 1000000) (hr : room ≤ 1048576) (hu : usedD d + 610 * L.length ≤ 200000) (hpl : d.P.length + L.length < 1000000) (hur : (usedD d : Int) ≤ ((room : Nat) : Int)) :
    Calls Tryz.prog 32 #[.pointer (some ⟨tp, 0, none⟩), .slice A L.length c] w fun e w' => e = .returned (.int .i64 ((swapD room d n (L.map Bx.b)).1 : Nat)) ∧ RfI B w0 w' q room ts (swapD room d n (L.map Bx.b)).2 := by
  have hmx : Tryz.prog.follows .mixedOrders = true := by kernel_rfl
  have hon : (oth n).length ≤ maxLen := oth_len (by omega)
  have hos := oth_str n
  have hsz : (⟨n.toArray⟩ : ByteArray).size ≤ 100 := by
    have : (⟨n.toArray⟩ : ByteArray).size = n.length := by simp [ByteArray.size]
    omega
  obtain ⟨D4, hD4⟩ : ∃ D4, D4 = swapD room d n (L.map Bx.b) := ⟨_, rfl⟩
  have hNw := (hN w d h).1
  rw [← hD4]
  obtain ⟨m, hm⟩ : ∃ m, m = L.length := ⟨_, rfl⟩
  have hm9 : m ≤ 1000 := by omega
  have HF := Lib.hid (And.intro hD4 (And.intro hm (And.intro hN (And.intro hb (And.intro hu (And.intro hpl (And.intro hT (And.intro hlf (And.intro hr (And.intro hNw (And.intro h (And.intro hfx hur))))))))))))
  rw [← hm]
  clear hD4 hm hN hb hu hpl hT hlf hr hNw h hfx hur
  go_enter Tryz.func32, Tryz.ntmps32
  go_wp2_with fail
  go_loop [5] (fun s => ∃ k : Nat, k ≤ m ∧ s = .int .i64 k ∧ Hid (∀ j x, j < k → L[j]? = some x → x.b.length ≤ 600)) (fun s => m - (intOf s).toNat)
  case atStart => exact ⟨0, Nat.zero_le _, rfl, Lib.hid (fun j x hj => by omega)⟩
  case round =>
    obtain ⟨k, hk, rfl, HR⟩ := hrel
    by_cases hlt : k < m
    · obtain ⟨x, hx⟩ : ∃ x, L[k]? = some x := ⟨_, List.getElem?_eq_getElem (by rw [← HF.out.2.1]; exact hlt)⟩
      obtain ⟨p, f, hAe, hce⟩ := HF.out.2.2.2.2.2.2.2.2.2.1.row k x hx
      have c0 := hce 0 _ rfl
      simp only [Nat.add_zero, Nat.mul_one] at c0
      subst hAe
      obtain ⟨xn, hxn⟩ : ∃ xn, xn = x.b.length := ⟨_, rfl⟩
      rw [← hxn] at c0
      have hkl : (k : Int) < (m : Int) := by omega
      have hk0 : (0 : Int) ≤ (k : Int) := by omega
      have HX := Lib.hid (And.intro hx hxn)
      clear hx hxn hce
      by_cases h6 : 600 < xn
      · have d6 : decide ((600 : Int) < (xn : Int)) = true := decide_eq_true (by omega)
        have d7 : (600 : Int) < (xn : Int) := by omega
        have HE : Hid (D4 = (1, d)) := Lib.hid (by rw [HF.out.1, swapD, if_pos (big_any HX.out.1 (by rw [← HX.out.2]; exact h6))])
        go_wp2_with fail
        go_ret
        rw [HE.out]
        exact ⟨rfl, HF.out.2.2.2.2.2.2.2.2.2.2.1⟩
      · have d6 : decide ((600 : Int) < (xn : Int)) = false := decide_eq_false (by omega)
        have d7 : ¬ (600 : Int) < (xn : Int) := by omega
        go_wp2_with fail
        go_round
        case measure => simp [intOf]; omega
        case rel => exact ⟨k + 1, by omega, by go_num, Lib.hid (fun j y hj hy => by
          rcases Nat.lt_or_ge j k with h | h
          · exact HR.out j y h hy
          · obtain rfl : j = k := by omega
            rw [HX.out.1] at hy
            injection hy with hy
            subst hy
            rw [← HX.out.2]
            omega)⟩
    · obtain rfl : k = m := by omega
      have hkk : ¬ ((k : Int) < (k : Int)) := by omega
      obtain ⟨hD4, hm, hN, hb, hu, hpl, hT, hlf, hr, hNw, h, hfx, hur⟩ := HF.out
      have hL6 : ∀ x ∈ L, x.b.length ≤ 600 := fun x hx => by
        obtain ⟨j, hj⟩ := List.getElem?_of_mem hx
        exact HR.out j x (by rw [hm]; exact (List.getElem?_eq_some_iff.1 hj).1) hj
      have hsw : D4 = ((rewriteD room (removeD d (oth n)).2 n (L.map Bx.b)).1, if (rewriteD room (removeD d (oth n)).2 n (L.map Bx.b)).1 ≠ 0 then (removeD (rewriteD room (removeD d (oth n)).2 n (L.map Bx.b)).2 (oth n)).2 else (rewriteD room (removeD d (oth n)).2 n (L.map Bx.b)).2) := by
        rw [hD4, swapD, if_neg (by rw [big_none hL6]; decide)]
      have bT := h.memT hT
      have C := fbsays (show Blk w tp 106 (tpc q n) from bT)
      simp only [cellsSay, tpc, Nat.reduceAdd, and_true] at C
      obtain ⟨th, hth⟩ : ∃ b, b = (atF d.F (oth n)).isSome := ⟨_, rfl⟩
      have HTh := Lib.hid (fun (x : More) => ext_of (rthere_any (oth n) (h.go (plus_below w x)) hfx.db hon))
      rw [← hth] at HTh
      have HS := Lib.hid (fun (W : World) (hs : RfI B w0 W q room ts d) => remove_go hs hfx hon hlf)
      have hb1 := bd_remove hfx (oth n)
      have hgone := remove_gone (d := d) (n := oth n)
      rw [← hth] at hgone
      obtain ⟨D1, hD1⟩ : ∃ D1, D1 = (removeD d (oth n)).2 := ⟨_, rfl⟩
      rw [← hD1] at HS hsw hb1 hgone
      have e1 := hb1.us
      have e2 := hb1.lf
      have e3 := hb1.pl
      have HW := Lib.hid (fun (W : World) (hs : RfI B w0 W q room ts D1) => rrewrite_any tp n A c L hs hb1.fx hT hn hN hL6 (by omega) hr (by omega) (by omega) (by omega))
      have hb2 := bd_rewrite hb1.fx room n (L.map Bx.b) (fun o ho => by
        obtain ⟨x, hx, rfl⟩ := List.mem_map.1 ho
        exact hL6 x hx) (by rw [List.length_map]; omega) (by rw [List.length_map]; omega)
      have hk2 := rewrite_k room D1 n (L.map Bx.b)
      obtain ⟨D2, hD2⟩ : ∃ D2, D2 = rewriteD room D1 n (L.map Bx.b) := ⟨_, rfl⟩
      rw [← hD2, ← hm] at HW
      rw [← hD2] at hsw hb2 hk2
      have HG := Lib.hid (And.intro hsw (And.intro hT (And.intro hb2.fx (And.intro (show D2.2.lf ≤ 1000000 by have := hb2.lf; omega) (And.intro hgone h)))))
      clear hD4 hm hN hb hu hpl hT hlf hr hNw h hL6 hsw bT hb1 e1 e2 e3 hD1 hD2 HF HR hb2 hth hfx hur hgone
      have hp := plus_cell w
      go_wp2_with fail
      refine wp_region_ext hmx (by kernel_rfl) ?_
      repeat (go_big_quiet_step ((go_at_call 50; exact HTh.out _)))
      refine wpQuiet_nil ?_
      rintro w2 ⟨x, rfl⟩
      have C' := HG.out.2.1
      have hgo := HG.out.2.2.2.2.2.go (plus_below w x)
      have bT := hgo.memT C'
      have Cx := fbsays (show Blk (plus w x) tp 106 (tpc q n) from bT)
      simp only [cellsSay, tpc, Nat.reduceAdd, and_true] at Cx
      have hp2 := plus_cell (plus w x)
      have HS2 := Lib.hid (fun (y : More) => HS.out _ (hgo.go (plus_below (plus w x) y)))
      have H1 : Hid (th = false → RfI B w0 (plus w x) q room ts D1) := Lib.hid (fun he => by rw [HG.out.2.2.2.2.1 he]; exact hgo)
      clear C C' hgo bT HTh HS hp
      cases th
      case' true =>
        clear H1
        go_wp2_with fail
        refine wp_region_tail_ext 9 (by kernel_rfl) (by kernel_rfl) ?_
        simp only [List.take_succ_cons, List.take_zero, List.drop_succ_cons, List.drop_zero]
        repeat (go_big_quiet_step (fail))
        refine wpQuiet_nil ?_
        rintro w2 ⟨y, rfl⟩
        have HC1 := Lib.hid (HS2.out y)
        clear HS2 hp2 Cx
        go_wp2_with fail
        refine HC1.out.mono ?_
        rintro e w1 ⟨v1, rfl, h1⟩
        have HC2 := Lib.hid (HW.out _ h1)
        clear h1 HC1 HW
      case' false =>
        have HC2 := Lib.hid (HW.out _ (H1.out rfl))
        clear HS2 hp2 Cx H1 HW
      all_goals
        go_wp2_with fail
        refine HC2.out.mono ?_
        rintro e w3 ⟨rfl, h3⟩
        have H3 := Lib.hid h3
        have bT := h3.memT HG.out.2.1
        have C := fbsays (show Blk w3 tp 106 (tpc q n) from bT)
        simp only [cellsSay, tpc, Nat.reduceAdd, and_true] at C
        have hp := plus_cell w3
        obtain ⟨t2, ht2⟩ : ∃ b, b = (atF D2.2.F (oth n)).isSome := ⟨_, rfl⟩
        have HTh := Lib.hid (fun (x : More) => ext_of (rthere_any (oth n) (H3.out.go (plus_below w3 x)) HG.out.2.2.1.db hon))
        rw [← ht2] at HTh
        have HS := Lib.hid (fun (W : World) (hs : RfI B w0 W q room ts D2.2) => remove_go hs HG.out.2.2.1 hon HG.out.2.2.2.1)
        have hgone2 := remove_gone (d := D2.2) (n := oth n)
        rw [← ht2] at hgone2
        have HG2 := Lib.hid hgone2
        clear h3 HC2 bT ht2 hgone2
        go_wp2_with fail
        refine wp_region_ext hmx (by kernel_rfl) ?_
        repeat (go_big_quiet_step ((go_at_call 50; exact HTh.out _)))
        refine wpQuiet_nil ?_
        rintro w4 ⟨z, rfl⟩
        have hgo := H3.out.go (plus_below w3 z)
        have bT := hgo.memT HG.out.2.1
        have Cx := fbsays (show Blk (plus w3 z) tp 106 (tpc q n) from bT)
        simp only [cellsSay, tpc, Nat.reduceAdd, and_true] at Cx
        have hp2 := plus_cell (plus w3 z)
        have HS2 := Lib.hid (fun (y : More) => HS.out _ (hgo.go (plus_below (plus w3 z) y)))
        have HE : Hid (D4 = (D2.1, if D2.1 ≠ 0 then (removeD D2.2 (oth n)).2 else D2.2)) := Lib.hid HG.out.1
        have H4 := Lib.hid hgo
        clear hp C HTh HS H3 hgo bT
        by_cases hz : D2.1 = 0
        · have kc : ((D2.1 : Int) == 0) = true := beq_iff_eq.2 (by omega)
          have kd : ((D2.1 : Int) != 0) = false := by unfold bne; rw [kc]; rfl
          have HE2 : Hid (D4 = D2) := Lib.hid (by rw [HE.out, if_neg (by rw [hz]; decide)])
          clear hz HS2 hp2 Cx HE
          go_wp2_with fail
          go_ret
          rw [HE2.out]
          exact ⟨rfl, H4.out⟩
        · have kc : ((D2.1 : Int) == 0) = false := beq_eq_false_iff_ne.2 (by omega)
          have kd : ((D2.1 : Int) != 0) = true := by simpa using hz
          have HE2 : Hid (D4 = (D2.1, (removeD D2.2 (oth n)).2)) := Lib.hid (by rw [HE.out, if_pos hz])
          clear hz HE
          cases t2
          · have HE3 : Hid (D4 = (D2.1, D2.2)) := Lib.hid (by rw [HE2.out, HG2.out rfl])
            clear HE2 HS2 hp2 Cx
            go_wp2_with fail
            go_ret
            rw [HE3.out]
            exact ⟨rfl, H4.out⟩
          · go_wp2_with fail
            refine wp_region_tail_ext 9 (by kernel_rfl) (by kernel_rfl) ?_
            simp only [List.take_succ_cons, List.take_zero, List.drop_succ_cons, List.drop_zero]
            repeat (go_big_quiet_step (fail))
            refine wpQuiet_nil ?_
            rintro w5 ⟨y, rfl⟩
            have HC1 := Lib.hid (HS2.out y)
            clear HS2 hp2 Cx
            go_wp2_with fail
            refine HC1.out.mono ?_
            rintro e w7 ⟨v7, rfl, h7⟩
            have H7 := Lib.hid h7
            clear h7 HC1
            go_wp2_with fail
            go_ret
            rw [HE2.out]
            exact ⟨rfl, H7.out⟩

end Go.Proofs.YtiogckgchlnldaaGreat

/- Layer 10: the document's journal: Open. -/
set_option linter.unusedSimpArgs false
set_option linter.unusedVariables false
namespace Go.Proofs.YtiogckgchlnldaaGreat
open Go.RowKit
set_option maxRecDepth 100000

def RTo (B : Nat) (w0 : World) (q room : Nat) (ts : List Kt) (n : Nm) (r : Nat × List (List UInt8) × Fd) (e : Ending) (w' : World) : Prop :=
  (r.1 ≠ 0 ∧ e = .returned (.tuple #[.pointer none, .slice none 0 0, .int .i64 (r.1 : Nat)]) ∧ RfI B w0 w' q room ts r.2.2) ∨
  (r.1 = 0 ∧ ∃ tp R k cr L, e = .returned (.tuple #[.pointer (some ⟨tp, 0, none⟩), .slice R k cr, .int .i64 0]) ∧ L.length = k ∧ L.map Bx.b = r.2.1 ∧ RfI B w0 w' q room (thTr tp q n :: thN (.slice R k cr) L :: ts) r.2.2)
theorem rread_opt {B q room : Nat} {w0 w : World} {ts : List Kt} {d : Fd} (n : Nm) (hn : n.length ≤ maxLen) (h : RfI B w0 w q room ts d) (hd : Db d) :
    Calls Tryz.prog 52 #[.pointer (some ⟨q, 0, none⟩), .string ⟨n.toArray⟩] w fun e w' => ∃ A k c x, e = .returned (.tuple #[.slice A k c, .int .i64 x]) ∧ Hid (k = ((rdD d n).getD []).length ∧ OwnB w' w.heap.size (.slice A k c) ((rdD d n).getD []) ∧ Below w.heap.size w w') := by
  cases hr : rdD d n with
  | none =>
    have hat : atF d.F n = none := by
      unfold rdD at hr
      exact Option.map_eq_none_iff.1 hr
    refine (rread_none n hn h hd hat).mono ?_
    rintro e w' ⟨rfl, h1⟩
    exact ⟨_, _, _, _, rfl, Lib.hid ⟨rfl, OwnB.nil _ _, h1⟩⟩
  | some b =>
    refine (rread_some n hn h hd b hr).mono ?_
    rintro e w' ⟨A, c, rfl, h1⟩
    exact ⟨_, _, _, _, rfl, Lib.hid ⟨rfl, h1.out.1, h1.out.2⟩⟩
theorem rd_lenX {d : Fd} (h : Fx d) (n : Nm) : ((rdD d n).getD []).length ≤ 200000 := h.elim fun T h => rd_len h n
theorem create_is {d : Fd} {n : Nm} (ho : okN n = true) (h : (atF d.F n).isSome = true) : createD d n = (81, d) := by
  unfold createD
  rw [if_neg (by rw [ho]; decide), if_pos h]
theorem create_81 {d : Fd} {n : Nm} (h : (atF d.F n).isSome = false) : (createD d n).1 ≠ 81 := by
  unfold createD
  split
  · exact show (1 : Nat) ≠ 81 from by omega
  · rw [if_neg (by rw [h]; decide)]
    split
    · exact show (3 : Nat) ≠ 81 from by omega
    · exact show (0 : Nat) ≠ 81 from by omega

set_option maxHeartbeats 16000000 in
theorem rtopen_any {B q room : Nat} {w0 w : World} {ts : List Kt} {d : Fd} (n : Nm) (h : RfI B w0 w q room ts d) (hfx : Fx d) (hn : n.length ≤ 1000000) (hlf : d.lf ≤ 1000000) :
    Calls Tryz.prog 27 #[.pointer (some ⟨q, 0, none⟩), .string ⟨n.toArray⟩] w (RTo B w0 q room ts n (topenD d n)) := by
  have hnn : n.length ≤ maxLen := by unfold maxLen; omega
  have hsz : (⟨n.toArray⟩ : ByteArray).size = n.length := by simp [ByteArray.size]
  obtain ⟨D9, hD9⟩ : ∃ D9, D9 = topenD d n := ⟨_, rfl⟩
  rw [← hD9]
  by_cases hok : lenOk n = true
  · have hnl : 1 ≤ n.length ∧ n.length ≤ 15 := of_decide_eq_true hok
    have hon : (oth n).length ≤ maxLen := by unfold oth maxLen; simp; omega
    have hos := oth_str n
    have d1 : decide ((n.length : Int) < 1) = false := decide_eq_false (by omega)
    have d2 : decide ((15 : Int) < (n.length : Int)) = false := decide_eq_false (by omega)
    have HTh := Lib.hid (rthere_any (oth n) h hfx.db hon)
    have HS := Lib.hid (fun (W : World) (hs : RfI B w0 W q room ts d) => remove_go hs hfx hon hlf)
    have hb1 := bd_remove hfx (oth n)
    have hgone := remove_gone (d := d) (n := oth n)
    obtain ⟨th, hth⟩ : ∃ b, b = (atF d.F (oth n)).isSome := ⟨_, rfl⟩
    rw [← hth] at HTh hgone
    have hD := hD9
    unfold topenD at hD
    rw [if_neg (by rw [hok]; decide)] at hD
    obtain ⟨D1, hD1⟩ : ∃ D1, D1 = (removeD d (oth n)).2 := ⟨_, rfl⟩
    rw [← hD1] at HS hb1 hgone hD
    have hl1 : D1.lf ≤ 1000000 := Nat.le_trans hb1.lf hlf
    have HC := Lib.hid (fun (W : World) (hs : RfI B w0 W q room ts D1) => rcreate_any n hnn hs hb1.fx.db hl1)
    have hb2 := bd_create hb1.fx n
    have hce := create_err (d := D1) (n := n)
    have hk2 := create_c D1 n
    have hc1 := create_is (d := D1) (ok_of_len hok)
    have hc2 := create_81 (d := D1) (n := n)
    obtain ⟨t2, ht2⟩ : ∃ b, b = (atF D1.F n).isSome := ⟨_, rfl⟩
    have HT2 := Lib.hid (fun (W : World) (hs : RfI B w0 W q room ts D1) => rthere_any n hs hb1.fx.db hnn)
    rw [← ht2] at HT2 hc1 hc2
    obtain ⟨D2, hD2⟩ : ∃ D2, D2 = createD D1 n := ⟨_, rfl⟩
    rw [← hD2] at HC hb2 hce hk2 hc1 hc2 hD
    have hl2 : D2.2.lf ≤ 1000000 := Nat.le_trans hb2.lf hl1
    have HG := Lib.hid (And.intro hD (And.intro hc1 (And.intro hc2 (And.intro hce (And.intro hb2.fx hl2)))))
    have HI := Lib.hid (And.intro h hgone)
    clear h hfx hlf hb1 hgone hD hD1 hl1 hb2 hce hc1 hc2 hD2 hl2 hth ht2 hD9 hok hnl
    go_enter Tryz.func27, Tryz.ntmps27
    go_wp2_with fail
    refine HTh.out.mono ?_
    rintro e wx ⟨rfl, b1⟩
    have H1 := Lib.hid (HI.out.1.go b1)
    clear b1 HTh
    cases th
    case' true =>
      have HC1 := Lib.hid (HS.out _ H1.out)
      clear H1 HI HS
      go_wp2_with fail
      refine HC1.out.mono ?_
      rintro e wx ⟨v1, rfl, h1⟩
      have H2 := Lib.hid h1
      clear h1 HC1
    case' false =>
      have H2 : Hid (RfI B w0 wx q room ts D1) := Lib.hid (by rw [HI.out.2 rfl]; exact H1.out)
      clear H1 HI HS
    all_goals
      have HC2 := Lib.hid (HT2.out _ H2.out)
      clear HT2
      go_wp2_with fail
      refine HC2.out.mono ?_
      rintro e wx ⟨rfl, b2⟩
      have H3 := Lib.hid (H2.out.go b2)
      clear b2 HC2 H2
      cases t2
      case' true =>
        have H4 : Hid (RfI B w0 wx q room ts D2.2) := Lib.hid (by rw [HG.out.2.1 rfl]; exact H3.out)
        have hzz : D2.1 = 0 ∨ D2.1 = 81 := .inr (by rw [HG.out.2.1 rfl])
        clear H3 HC
      case' false =>
        have HC3 := Lib.hid (HC.out _ H3.out)
        clear HC
        go_wp2_with fail
        refine HC3.out.mono ?_
        rintro e wx ⟨rfl, h4⟩
        have H4 := Lib.hid h4
        clear h4 HC3 H3
        by_cases hz : D2.1 = 0
        case neg =>
          have kc : ((D2.1 : Int) == 0) = false := beq_eq_false_iff_ne.2 (by omega)
          have kd : ((D2.1 : Int) != 0) = true := by unfold bne; rw [kc]; rfl
          have HEND : Hid (RTo B w0 q room ts n D9 (.returned (.tuple #[.pointer none, .slice none 0 0, .int .i64 (D2.1 : Nat)])) wx) := Lib.hid (.inl (by
            rw [HG.out.1, if_pos ⟨hz, HG.out.2.2.1 (by first | rfl | trivial)⟩]
            refine ⟨hz, rfl, ?_⟩
            have h9 := H4.out
            rw [HG.out.2.2.2.1 hz] at h9
            exact h9))
          clear hz
          go_wp2_with fail
          go_ret3
          exact HEND.out
        case' pos =>
          have hzz : D2.1 = 0 ∨ D2.1 = 81 := .inl hz
          have kc : ((D2.1 : Int) == 0) = true := beq_iff_eq.2 (by omega)
          have kd : ((D2.1 : Int) != 0) = false := by unfold bne; rw [kc]; rfl
          clear hz
      all_goals
        have HD : Hid (D9 = (0, (rd10 ((rdD D2.2 n).getD [])).1, if (rd10 ((rdD D2.2 n).getD [])).2 < ((rdD D2.2 n).getD []).length then (cutD D2.2 n ((rd10 ((rdD D2.2 n).getD [])).2 : Nat)).2 else D2.2)) := Lib.hid (by rw [HG.out.1, if_neg (by omega)])
        have HR := Lib.hid (rread_opt n hnn H4.out HG.out.2.2.2.2.1.db)
        have hbl := rd_lenX HG.out.2.2.2.2.1 n
        obtain ⟨b, hb⟩ : ∃ b, b = (rdD D2.2 n).getD [] := ⟨_, rfl⟩
        rw [← hb] at HR HD hbl
        have HB := Lib.hid hbl
        clear hb hbl hzz
        go_wp2_with fail
        refine HR.out.mono ?_
        rintro e w5 ⟨A, k, c, x9, rfl, h5⟩
        obtain ⟨hk, ho, b5⟩ := h5.out
        obtain ⟨hFm, hcc, -, hbs⟩ := ownFm ho
        have HT := Lib.hid (rread10_any A c b w5 hbs hFm hcc HB.out)
        rw [← hk] at HT
        have H5 := Lib.hid (And.intro (H4.out.go b5) hk)
        clear hk ho b5 hFm hcc hbs h5 HR H4
        go_wp2_with fail
        refine HT.out.mono ?_
        rintro e w6 ⟨R, m, cr, at_, L, rfl, h6⟩
        obtain ⟨g1, g2, g3, g4, g5⟩ := h6.out
        have h7 : RfI B w0 w6 q room (thN (.slice R m cr) L :: ts) D2.2 := H5.out.1.cons g4 g3 g5
        have hle := g2.le.1
        have hre := g2.eq
        rw [hre] at HD
        have H7 := Lib.hid (And.intro h7 g1)
        clear g1 g2 g3 g4 g5 h7 hre h6 HT
        rw [← H5.out.2] at HD hle
        by_cases hlt : at_ < k
        · have hl2 : (at_ : Int) < (k : Int) := by omega
          have hl3 : decide (at_ < k) = true := decide_eq_true hlt
          have HCu := Lib.hid (rcut_any n at_ hnn H7.out.1 HG.out.2.2.2.2.1.db HG.out.2.2.2.2.2)
          obtain ⟨D5, hD5⟩ : ∃ D5, D5 = cutD D2.2 n at_ := ⟨_, rfl⟩
          rw [← hD5] at HCu HD
          have HD6 : Hid (D9 = (0, L.map Bx.b, D5.2)) := Lib.hid (by rw [HD.out, if_pos hlt])
          clear HD hD5 hlt hle
          go_wp2_with fail
          refine HCu.out.mono ?_
          rintro e w8 ⟨rfl, h8⟩
          have H8 : Hid (RTo B w0 q room ts n D9 (.returned (.tuple #[.pointer (some ⟨w8.heap.size, 0, none⟩), .slice R m cr, .int .i64 0])) (w8.alloc (.cells (tpc q n) 106))) := Lib.hid (.inr (by rw [HD6.out]; exact ⟨rfl, w8.heap.size, R, m, cr, L, rfl, H7.out.2, rfl, h8.cons (below_alloc w8 _) (Blk.new w8 _ _) (fun k e => by subst e; exact Nat.le_refl _)⟩))
          clear h8 HCu
          go_wp2_with fail
          go_ret3
          exact H8.out
        · have hl2 : ¬ (at_ : Int) < (k : Int) := by omega
          have hl3 : decide (at_ < k) = false := decide_eq_false hlt
          have H8 : Hid (RTo B w0 q room ts n D9 (.returned (.tuple #[.pointer (some ⟨w6.heap.size, 0, none⟩), .slice R m cr, .int .i64 0])) (w6.alloc (.cells (tpc q n) 106))) := Lib.hid (.inr (by rw [HD.out, if_neg hlt]; exact ⟨rfl, w6.heap.size, R, m, cr, L, rfl, H7.out.2, rfl, H7.out.1.cons (below_alloc w6 _) (Blk.new w6 _ _) (fun k e => by subst e; exact Nat.le_refl _)⟩))
          clear HD hlt hle
          go_wp2_with fail
          go_ret3
          exact H8.out
  · have d0 : lenOk n = false := by simpa using hok
    have HE : Hid (D9 = (1, [], d)) := Lib.hid (by rw [hD9, topenD, if_pos d0])
    have hnl : ¬ (1 ≤ n.length ∧ n.length ≤ 15) := of_decide_eq_false d0
    have HI := Lib.hid h
    have HEND : Hid (RTo B w0 q room ts n D9 (.returned (.tuple #[.pointer none, .slice none 0 0, .int .i64 1])) w) := Lib.hid (.inl (by rw [HE.out]; exact ⟨by show (1 : Nat) ≠ 0; decide, rfl, h⟩))
    clear hD9 hok d0 h
    by_cases h1 : n.length < 1
    · have d1 : decide ((n.length : Int) < 1) = true := decide_eq_true (by omega)
      clear h1 hnl
      go_enter Tryz.func27, Tryz.ntmps27
      go_wp2_with fail
      go_ret3
      exact HEND.out
    · have d1 : decide ((n.length : Int) < 1) = false := decide_eq_false (by omega)
      have d2 : decide ((15 : Int) < (n.length : Int)) = true := decide_eq_true (by omega)
      clear h1 hnl
      go_enter Tryz.func27, Tryz.ntmps27
      go_wp2_with fail
      go_ret3
      exact HEND.out

end Go.Proofs.YtiogckgchlnldaaGreat

/- Layer 10: both journals: opened. -/
set_option linter.unusedSimpArgs false
set_option linter.unusedVariables false
namespace Go.Proofs.YtiogckgchlnldaaGreat
open Go.RowKit
set_option maxRecDepth 100000

theorem RfI.perm {B q room : Nat} {w0 w : World} {ts us : List Kt} {d : Fd} (h : RfI B w0 w q room ts d) (hp : ts.Perm us) : RfI B w0 w q room us d := by
  obtain ⟨VF, VP, LF, LP, lv, hs, h1, h2, h3⟩ := h
  exact ⟨VF, VP, LF, LP, lv, Sep.perm hs (((((hp.append_left _).append_left _).cons _).cons _).cons _), h1, h2, h3⟩
section
variable {B qs qr room : Nat} {w0 w w' : World} {ts us : List Kt} {t t' : Kt} {da db da' db' : Fd}
theorem Bd.put (h : Bd B w0 w qs qr room ts da db) (i g : Nat) (l : List (Nat × Value)) (cs' : Array Value) {t : TypeId} {cs : Array Value} (hW : sets w g l = w') (e : ts[i]? = some (thB g t cs) := by rfl) (hc : setsL cs.toList l = cs'.toList := by rfl) : Bd B w0 w' qs qr room (ts.set i (thB g t cs')) da db := by
  have hc' : (setsL cs.toList l).toArray = cs' := by rw [hc]
  rw [← hW, ← hc']
  exact h.turn i e (Tou.of_grown (grown_sets g l w) (fun k e => by injection e with e; exact e.symm)) ((h.blk i e).sets l) (fun k hk => .inl hk)
theorem Bd.sub (h : Bd B w0 w qs qr room ts da db) (hs : us.Sublist ts) : Bd B w0 w qs qr room us da db := by
  obtain ⟨VF, VP, LF, LP, lv, h0, h1⟩ := h
  obtain ⟨bm, VW, T, hs0, hi⟩ := h0
  exact ⟨VF, VP, LF, LP, lv, ⟨bm, VW, T, Sep.sub hs0 (((((hs.append_left _).append_left _).cons_cons _).cons_cons _).cons_cons _), hi⟩, h1⟩
theorem Bd.perm (h : Bd B w0 w qs qr room ts da db) (hp : ts.Perm us) : Bd B w0 w qs qr room us da db := by
  obtain ⟨VF, VP, LF, LP, lv, h0, h1⟩ := h
  exact ⟨VF, VP, LF, LP, lv, h0.perm (hp.append_left _), h1⟩
/-- a call on the program's that hands things out -/
theorem Bd.liftN {P : Program} {f : FuncId} {args : Array Value} {E : Ending → World → List Kt → Fd → Prop} (h : Bd B w0 w qs qr room ts da db) (C : ∀ us, (∀ t ∈ ts, t ∈ us) → FsI B w0 w qs room us da → Calls P f args w fun e w' => ∃ vs d', E e w' vs d' ∧ FsI B w0 w' qs room (vs ++ us) d') : Calls P f args w fun e w' => ∃ vs d', E e w' vs d' ∧ Bd B w0 w' qs qr room (vs ++ ts) d' db := by
  obtain ⟨VF, VP, LF, LP, lv, hs, h1⟩ := h
  refine (C _ (fun t ht => List.mem_append_right _ ht) hs).mono ?_
  rintro e w' ⟨vs, d', h2, h3⟩
  refine ⟨vs, d', h2, VF, VP, LF, LP, lv, h3.perm ?_, h1⟩
  rw [← List.append_assoc, ← List.append_assoc]
  exact List.perm_append_comm.append_right _
/-- a call on the document's that hands things out -/
theorem Bd.lift2N {P : Program} {f : FuncId} {args : Array Value} {E : Ending → World → List Kt → Fd → Prop} (h : Bd B w0 w qs qr room ts da db) (C : ∀ us, (∀ t ∈ ts, t ∈ us) → RfI B w0 w qr room us db → Calls P f args w fun e w' => ∃ vs d', E e w' vs d' ∧ RfI B w0 w' qr room (vs ++ us) d') : Calls P f args w fun e w' => ∃ vs d', E e w' vs d' ∧ Bd B w0 w' qs qr room (vs ++ ts) da d' := by
  obtain ⟨VF, VP, LF, LP, lv, ⟨bm, VW, T, hs, hi⟩, h1⟩ := h
  have hs : Sep B w0 w (Xs qs room bm VW T da ++ (Ys qr room VF VP LF LP db.st lv db.dd ++ ts)) := hs
  refine (C _ (fun t ht => List.mem_append_right _ ht) ⟨VF, VP, LF, LP, lv, ys_to (hs.perm (List.perm_append_comm_assoc _ _ _)), h1⟩).mono ?_
  rintro e w' ⟨vs, d', h4, VF', VP', LF', LP', lv', hs', h1'⟩
  refine ⟨vs, d', h4, VF', VP', LF', LP', lv', ⟨bm, VW, T, (ys_of hs').perm ?_, hi⟩, h1'⟩
  refine (List.Perm.append_left _ (List.perm_append_comm_assoc _ _ _)).trans ?_
  exact List.perm_append_comm_assoc _ _ _
theorem Bd.fx (h : Bd B w0 w qs qr room ts da db) : Fx da := by
  obtain ⟨us, h⟩ := h.prog
  exact h.fi
end
theorem open_len {d : Fd} (h : Fx d) (n : Nm) : (topenD d n).2.1.length ≤ 1000000 := by
  unfold topenD
  split
  · exact Nat.zero_le _
  · split
    · exact Nat.zero_le _
    · have h1 := rd_lenX ((bd_create (bd_remove h (oth n)).fx n).fx) n
      have h2 := (rd10_ok ((rdD (createD (removeD d (oth n)).2 n).2 n).getD [])).le
      show (rd10 ((rdD (createD (removeD d (oth n)).2 n).2 n).getD [])).1.length ≤ 1000000
      omega
theorem open_c (d : Fd) (n : Nm) : (topenD d n).1 ≤ 1000 := by
  unfold topenD
  split
  · exact show (1 : Nat) ≤ 1000 from by omega
  · split
    · exact create_c _ _
    · exact Nat.zero_le _
theorem open_none {d : Fd} {n : Nm} (h : (topenD d n).1 ≠ 0) : (topenD d n).2.1 = [] := by
  unfold topenD at h ⊢
  split
  · rfl
  · rename_i h1
    rw [if_neg h1] at h
    split
    · rfl
    · rename_i h2
      rw [if_neg h2] at h
      exact absurd rfl h

abbrev pt (g : Nat) : Value := .pointer (some ⟨g, 0, none⟩)
/-- the law's two -/
abbrev thX (x qs qr : Nat) (a b : Value) (n : Nm) : Kt := thB x 34 #[pt qs, pt qr, a, b, .string ⟨n.toArray⟩]
def EP (qs : Nat) (n : Nm) (r : Nat × List (List UInt8) × Fd) (e : Ending) (_ : World) (vs : List Kt) (d' : Fd) : Prop :=
  d' = r.2.2 ∧ ((r.1 ≠ 0 ∧ e = .returned (.tuple #[.pointer none, .slice none 0 0, .int .u16 (r.1 : Nat)]) ∧ vs = []) ∨
  (r.1 = 0 ∧ ∃ tp R k cr L, e = .returned (.tuple #[.pointer (some ⟨tp, 0, none⟩), .slice R k cr, .int .u16 0]) ∧ L.length = k ∧ L.map Bx.b = r.2.1 ∧ vs = [thN (.slice R k cr) L, thT tp qs n]))
def ER (qr : Nat) (n : Nm) (r : Nat × List (List UInt8) × Fd) (e : Ending) (_ : World) (vs : List Kt) (d' : Fd) : Prop :=
  d' = r.2.2 ∧ ((r.1 ≠ 0 ∧ e = .returned (.tuple #[.pointer none, .slice none 0 0, .int .i64 (r.1 : Nat)]) ∧ vs = []) ∨
  (r.1 = 0 ∧ ∃ tp R k cr L, e = .returned (.tuple #[.pointer (some ⟨tp, 0, none⟩), .slice R k cr, .int .i64 0]) ∧ L.length = k ∧ L.map Bx.b = r.2.1 ∧ vs = [thTr tp qr n, thN (.slice R k cr) L]))
theorem topen_both {B qs qr room : Nat} {w0 w : World} {ts : List Kt} {d db : Fd} (n : Nm) (h : Bd B w0 w qs qr room ts d db) (hn : n.length ≤ 1000000) (hlf : d.lf ≤ 1000000) :
    Calls Tryz.prog 15 #[.pointer (some ⟨qs, 0, none⟩), .string ⟨n.toArray⟩] w fun e w' => ∃ vs d', EP qs n (topenD d n) e w' vs d' ∧ Bd B w0 w' qs qr room (vs ++ ts) d' db := by
  refine h.liftN (fun us _ hu => (topen_any n hu hn hlf).mono ?_)
  rintro e w' (⟨h1, rfl, h2⟩ | ⟨h1, tp, R, k, cr, L, rfl, h2, h3, h4⟩)
  · exact ⟨[], _, ⟨rfl, .inl ⟨h1, rfl, rfl⟩⟩, h2⟩
  · exact ⟨_, _, ⟨rfl, .inr ⟨h1, tp, R, k, cr, L, rfl, h2, h3, rfl⟩⟩, h4⟩
theorem rtopen_both {B qs qr room : Nat} {w0 w : World} {ts : List Kt} {da d : Fd} (n : Nm) (h : Bd B w0 w qs qr room ts da d) (hx : Fx d) (hn : n.length ≤ 1000000) (hlf : d.lf ≤ 1000000) :
    Calls Tryz.prog 27 #[.pointer (some ⟨qr, 0, none⟩), .string ⟨n.toArray⟩] w fun e w' => ∃ vs d', ER qr n (topenD d n) e w' vs d' ∧ Bd B w0 w' qs qr room (vs ++ ts) da d' := by
  refine h.lift2N (fun us _ hu => (rtopen_any n hu hx hn hlf).mono ?_)
  rintro e w' (⟨h1, rfl, h2⟩ | ⟨h1, tp, R, k, cr, L, rfl, h2, h3, h4⟩)
  · exact ⟨[], _, ⟨rfl, .inl ⟨h1, rfl, rfl⟩⟩, h2⟩
  · exact ⟨_, _, ⟨rfl, .inr ⟨h1, tp, R, k, cr, L, rfl, h2, h3, rfl⟩⟩, h4⟩

end Go.Proofs.YtiogckgchlnldaaGreat

/- Layer 10: the law's two journals: open. -/
set_option linter.unusedSimpArgs false
set_option linter.unusedVariables false
namespace Go.Proofs.YtiogckgchlnldaaGreat
open Go.RowKit
set_option maxRecDepth 100000

def O2 (B : Nat) (w0 : World) (qs qr room x : Nat) (n : Nm) (ts : List Kt) (r : Nat × List (List UInt8) × Fd) (w' : World) : Prop :=
  (r.1 ≠ 0 ∧ Bd B w0 w' qs qr room (thX x qs qr (.pointer none) (.pointer none) n :: ts) r.2.2 r.2.2) ∨
  (r.1 = 0 ∧ ∃ tp up, Bd B w0 w' qs qr room (thX x qs qr (pt tp) (pt up) n :: thT tp qs n :: thTr up qr n :: ts) r.2.2 r.2.2)

def EPo (qs : Nat) (n : Nm) (r : Nat × List (List UInt8) × Fd) (d : Fd) (o : Option Value) (vs : List Kt) (d' : Fd) (w : World) : Prop := match o with
  | none => vs = [] ∧ d' = d
  | some v => EP qs n r (.returned v) w vs d'
def ERo (qr : Nat) (n : Nm) (r : Nat × List (List UInt8) × Fd) (d : Fd) (o : Option Value) (vs : List Kt) (d' : Fd) (w : World) : Prop := match o with
  | none => vs = [] ∧ d' = d
  | some v => ER qr n r (.returned v) w vs d'
theorem blk_x {B qs qr room x : Nat} {w0 W : World} {vs ts : List Kt} {da db : Fd} {a b : Value} {n : Nm} (hb : Bd B w0 W qs qr room (vs ++ thX x qs qr a b n :: ts) da db) : Blk W x 34 #[pt qs, pt qr, a, b, .string ⟨n.toArray⟩] :=
  hb.blk vs.length (by rw [List.getElem?_append_right (Nat.le_refl _), Nat.sub_self]; rfl)
theorem EP.ans {qs : Nat} {n : Nm} {r : Nat × List (List UInt8) × Fd} {e : Ending} {w : World} {vs : List Kt} {d' : Fd} (h : EP qs n r e w vs d') : ∃ P R k cr, e = .returned (.tuple #[.pointer P, .slice R k cr, .int .u16 (r.1 : Nat)]) := by
  rcases h.2 with ⟨h1, h2, h3⟩ | ⟨h1, tp, R, k, cr, L, h2, h3⟩
  · exact ⟨_, _, _, _, h2⟩
  · exact ⟨_, _, _, _, by rw [h2, h1]; rfl⟩
theorem ER.ans {qr : Nat} {n : Nm} {r : Nat × List (List UInt8) × Fd} {e : Ending} {w : World} {vs : List Kt} {d' : Fd} (h : ER qr n r e w vs d') : ∃ P R k cr, e = .returned (.tuple #[.pointer P, .slice R k cr, .int .i64 (r.1 : Nat)]) := by
  rcases h.2 with ⟨h1, h2, h3⟩ | ⟨h1, tp, R, k, cr, L, h2, h3⟩
  · exact ⟨_, _, _, _, h2⟩
  · exact ⟨_, _, _, _, by rw [h2, h1]; rfl⟩

set_option maxHeartbeats 8000000 in
theorem open2_any {B qs qr room : Nat} {w0 w : World} {ts : List Kt} {d : Fd} (n : Nm) (x : Nat) (a b : Value) (h : Bd B w0 w qs qr room (thX x qs qr a b n :: ts) d d) (hn : n.length ≤ 1000000) (hlf : d.lf ≤ 1000000) :
    Calls Tryz.prog 12 #[.pointer (some ⟨x, 0, none⟩)] w fun e w' => e = .returned (.bool true) ∧ O2 B w0 qs qr room x n ts (topenD d n) w' := by
  have hmx : Tryz.prog.follows .mixedOrders = true := by kernel_rfl
  have hfx := h.fx
  have H0 := Lib.hid h.drew
  have HS1 := Lib.hid (fun (W : World) (us : List Kt) (hs : Bd B w0 W qs qr room us d d) => topen_both n hs hn hlf)
  have HS2 := Lib.hid (fun (W : World) (us : List Kt) (da : Fd) (hs : Bd B w0 W qs qr room us da d) => rtopen_both n hs hfx hn hlf)
  have hln := open_len hfx n
  have hcc := open_c d n
  obtain ⟨rr, hrr⟩ : ∃ r, r = topenD d n := ⟨_, rfl⟩
  rw [← hrr] at HS1 HS2 hln hcc ⊢
  obtain ⟨r, hr⟩ : ∃ r, r = rr.1 := ⟨_, rfl⟩
  rw [← hr] at hcc
  have hwr := wrap_c hcc
  have HL := Lib.hid (And.intro hln hr)
  clear h hn hlf hfx hrr hln hcc hr
  go_enter Tryz.func12, Tryz.ntmps12
  go_wp2_with fail
  obtain ⟨I, hI⟩ : ∃ I : Rec → World → Prop, ∀ E W, I E W ↔ ∃ vs D', EPo qs n rr d (E 8) vs D' w ∧ Bd B w0 W qs qr room (vs ++ thX x qs qr a b n :: ts) D' d := ⟨_, fun _ _ => Iff.rfl⟩
  have hI0 : I (fun _ => none) w.drew := (hI _ _).2 ⟨[], d, ⟨rfl, rfl⟩, H0.out⟩
  haveI : Nonempty (InvW I) := ⟨⟨_, _, hI0⟩⟩
  have e1 : ∀ y : InvW I, y.W.cell? ⟨x, 0, none⟩ = some (.pointer (some ⟨qs, 0, none⟩)) := fun y => by
    obtain ⟨vs, D', -, hb⟩ := (hI _ _).1 y.h
    exact (blk_x hb).cell 0
  have e2 : ∀ y : InvW I, y.W.cell? ⟨x, 4, none⟩ = some (.string ⟨n.toArray⟩) := fun y => by
    obtain ⟨vs, D', -, hb⟩ := (hI _ _).1 y.h
    exact (blk_x hb).cell 4
  have HI := Lib.hid hI
  clear hI H0
  refine wp_region_inv I [] [1, 5, 8] (fun k v => if k = 8 then ∃ P R m cr, v = .tuple #[.pointer P, .slice R m cr, .int .u16 (r : Nat)] else v = .pointer (some ⟨x, 0, none⟩)) hmx (by kernel_rfl) hI0 ?_
  iterate 1 (refine walkJ_one rfl (by kernel_rfl) ?_; go_big_quiet_step (fail); refine wpQuiet_nil ?_)
  refine walkJ_turn rfl rfl ⟨_, rfl⟩ (fun s W1 hs h7 _ => ?_) ?_
  · refine inv_val (W' := W1) (v := .pointer (some ⟨x, 0, none⟩)) (by simp [execOp, go_sem]) ⟨rfl, (HI.out _ _).2 ?_⟩
    have h := (HI.out _ _).1 hs
    exact h
  rintro v rfl
  conv => arg 11; simp [Act.put]
  iterate 3 (refine walkJ_one rfl (by kernel_rfl) ?_; go_big_quiet_step (fail); refine wpQuiet_nil ?_)
  refine walkJ_turn rfl rfl ⟨_, rfl⟩ (fun s W1 hs h7 _ => ?_) ?_
  · refine inv_val (W' := W1) (v := .pointer (some ⟨x, 0, none⟩)) (by simp [execOp, go_sem]) ⟨rfl, (HI.out _ _).2 ?_⟩
    have h := (HI.out _ _).1 hs
    exact h
  rintro v rfl
  conv => arg 11; simp [Act.put]
  iterate 2 (refine walkJ_one rfl (by kernel_rfl) ?_; go_big_quiet_step (fail); refine wpQuiet_nil ?_)
  refine walkJ_turn rfl rfl ⟨_, none, none, 0, 0, rfl⟩ (fun s W1 hs h7 _ => ?_) ?_
  · obtain ⟨vs, D', hE, hb⟩ := (HI.out _ _).1 hs
    rw [show s 8 = none from h7] at hE
    obtain ⟨rfl, rfl⟩ := hE
    refine inv_call (by simp [execOp, go_sem]) ((HS1.out _ _ hb).mono ?_)
    rintro e w1 ⟨vs, d1, hE, k⟩
    obtain ⟨P, R, m, cr, rfl⟩ := hE.ans
    refine ⟨_, rfl, ⟨P, R, m, cr, by rw [HL.out.2]⟩, (HI.out _ _).2 ⟨vs, d1, hE, k⟩⟩
  rintro v ⟨P, R, m, cr, rfl⟩
  conv => arg 11; simp [Act.put]
  iterate 7 (refine walkJ_one rfl (by kernel_rfl) ?_; go_big_quiet_step (fail); refine wpQuiet_nil ?_)
  refine walkJ_end ?_
  intro w1 hW1
  obtain ⟨vs, D1, hE1, hb1⟩ := (HI.out _ _).1 hW1
  have HE1 := Lib.hid (And.intro (show EP qs n rr (.returned (.tuple #[.pointer P, .slice R m cr, .int .u16 (r : Nat)])) w vs D1 from hE1) hb1)
  clear e1 e2 HI hE1 hb1 hW1 HS1
  go_wp2_with fail
  obtain ⟨J, hI⟩ : ∃ I : Rec → World → Prop, ∀ E W, I E W ↔ ∃ us D', ERo qr n rr d (E 8) us D' w ∧ Bd B w0 W qs qr room (us ++ (vs ++ thX x qs qr a b n :: ts)) D1 D' := ⟨_, fun _ _ => Iff.rfl⟩
  have hJ0 : J (fun _ => none) w1.drew := (hI _ _).2 ⟨[], d, ⟨rfl, rfl⟩, HE1.out.2.drew⟩
  haveI : Nonempty (InvW J) := ⟨⟨_, _, hJ0⟩⟩
  have e1 : ∀ y : InvW J, y.W.cell? ⟨x, 1, none⟩ = some (.pointer (some ⟨qr, 0, none⟩)) := fun y => by
    obtain ⟨us, D', -, hb⟩ := (hI _ _).1 y.h
    rw [← List.append_assoc] at hb
    exact (blk_x hb).cell 1
  have e2 : ∀ y : InvW J, y.W.cell? ⟨x, 4, none⟩ = some (.string ⟨n.toArray⟩) := fun y => by
    obtain ⟨us, D', -, hb⟩ := (hI _ _).1 y.h
    rw [← List.append_assoc] at hb
    exact (blk_x hb).cell 4
  have HI := Lib.hid hI
  clear hI
  refine wp_region_inv J [] [1, 5, 8] (fun k v => if k = 8 then ∃ P R m cr, v = .tuple #[.pointer P, .slice R m cr, .int .i64 (r : Nat)] else v = .pointer (some ⟨x, 0, none⟩)) hmx (by kernel_rfl) hJ0 ?_
  iterate 1 (refine walkJ_one rfl (by kernel_rfl) ?_; go_big_quiet_step (fail); refine wpQuiet_nil ?_)
  refine walkJ_turn rfl rfl ⟨_, rfl⟩ (fun s W1 hs h7 _ => ?_) ?_
  · refine inv_val (W' := W1) (v := .pointer (some ⟨x, 0, none⟩)) (by simp [execOp, go_sem]) ⟨rfl, (HI.out _ _).2 ?_⟩
    have h := (HI.out _ _).1 hs
    exact h
  rintro v rfl
  conv => arg 11; simp [Act.put]
  iterate 3 (refine walkJ_one rfl (by kernel_rfl) ?_; go_big_quiet_step (fail); refine wpQuiet_nil ?_)
  refine walkJ_turn rfl rfl ⟨_, rfl⟩ (fun s W1 hs h7 _ => ?_) ?_
  · refine inv_val (W' := W1) (v := .pointer (some ⟨x, 0, none⟩)) (by simp [execOp, go_sem]) ⟨rfl, (HI.out _ _).2 ?_⟩
    have h := (HI.out _ _).1 hs
    exact h
  rintro v rfl
  conv => arg 11; simp [Act.put]
  iterate 2 (refine walkJ_one rfl (by kernel_rfl) ?_; go_big_quiet_step (fail); refine wpQuiet_nil ?_)
  refine walkJ_turn rfl rfl ⟨_, none, none, 0, 0, rfl⟩ (fun s W1 hs h7 _ => ?_) ?_
  · obtain ⟨us, D', hE, hb⟩ := (HI.out _ _).1 hs
    rw [show s 8 = none from h7] at hE
    obtain ⟨rfl, rfl⟩ := hE
    refine inv_call (by simp [execOp, go_sem]) ((HS2.out _ _ _ hb).mono ?_)
    rintro e w1 ⟨us, d1, hE, k⟩
    obtain ⟨P, R, m, cr, rfl⟩ := hE.ans
    refine ⟨_, rfl, ⟨P, R, m, cr, by rw [HL.out.2]⟩, (HI.out _ _).2 ⟨us, d1, hE, k⟩⟩
  rintro v ⟨P2, R2, m2, cr2, rfl⟩
  conv => arg 11; simp [Act.put]
  iterate 7 (refine walkJ_one rfl (by kernel_rfl) ?_; go_big_quiet_step (fail); refine wpQuiet_nil ?_)
  refine walkJ_end ?_
  intro w3 hW3
  obtain ⟨us, D2, hE2, hb2⟩ := (HI.out _ _).1 hW3
  replace hE2 : ER qr n rr (.returned (.tuple #[.pointer P2, .slice R2 m2 cr2, .int .i64 (r : Nat)])) w us D2 := hE2
  have hb2 := hb2
  obtain ⟨f1, gE1⟩ := HE1.out.1
  obtain ⟨f2, gE2⟩ := hE2
  subst f1 f2
  clear e1 e2 HI hW3 HE1 HS2
  clear hI0 hJ0
  have hbe : ((r : Int) == (r : Int)) = true := beq_self_eq_true _
  rcases gE1 with ⟨hz, he1, rfl⟩ | ⟨hz, tp, R', m', cr', L, he1, hk, hL, rfl⟩
  · obtain ⟨-, he2, rfl⟩ := gE2.resolve_right (fun h => hz h.1)
    simp at he1 he2
    obtain ⟨rfl, ⟨rfl, rfl, rfl⟩, -⟩ := he1
    obtain ⟨rfl, ⟨rfl, rfl, rfl⟩, -⟩ := he2
    have h3 : Bd B w0 w3 qs qr room (thX x qs qr a b n :: ts) rr.2.2 rr.2.2 := hb2
    have C := fbsays (h3.blk 0)
    simp only [cellsSay, pt, Nat.reduceAdd, and_true] at C
    have H3 := Lib.hid (And.intro hz h3)
    have HS := Lib.hid (fun (W : World) => rsameN_any none none 0 0 [] [] W ⟨fun i x hx => by simp at hx, fun x hx => by simp at hx⟩ ⟨fun i x hx => by simp at hx, fun x hx => by simp at hx⟩ (Nat.zero_le _) (Nat.zero_le _))
    clear h3 hz hb2 gE2
    go_wp2_with fail
    generalize hW : World.setCell _ _ _ = w4
    have H4 := Lib.hid (H3.out.2.put 0 x [(2, .pointer none), (3, .pointer none)] #[pt qs, pt qr, .pointer none, .pointer none, .string ⟨n.toArray⟩] hW)
    clear hW C
    refine (HS.out w4).mono ?_
    rintro e w5 ⟨rfl, h5⟩
    have H5 := Lib.hid (H4.out.go h5)
    clear h5 HS H4
    go_wp2_with fail
    go_ret
    exact ⟨rfl, .inl ⟨H3.out.1, H5.out⟩⟩
  · obtain ⟨-, up, R2', k2, cr2', L2, he2, hk2, hL2, rfl⟩ := gE2.resolve_left (fun h => h.1 hz)
    simp at he1 he2
    obtain ⟨rfl, ⟨rfl, rfl, rfl⟩, -⟩ := he1
    obtain ⟨rfl, ⟨rfl, rfl, rfl⟩, -⟩ := he2
    have h3 : Bd B w0 w3 qs qr room (thTr up qr n :: thN (.slice R2 m2 cr2) L2 :: thN (.slice R m cr) L :: thT tp qs n :: thX x qs qr a b n :: ts) rr.2.2 rr.2.2 := hb2
    have C := fbsays (h3.blk 4)
    simp only [cellsSay, pt, Nat.reduceAdd, and_true] at C
    have H3 := Lib.hid (And.intro hz h3)
    have hll : ∀ {X : List Bx}, X.map Bx.b = rr.2.1 → X.length ≤ 1000000 := fun {X} e => by
      have := HL.out.1
      rw [← e, List.length_map] at this
      exact this
    have HS := Lib.hid (fun (W : World) (h1 : Ns W R L) (h2 : Ns W R2 L2) => rsameN_any R R2 cr cr2 L L2 W h1 h2 (hll hL) (hll hL2))
    rw [hk, hk2, decide_eq_true (show L.map Bx.b = L2.map Bx.b from hL.trans hL2.symm)] at HS
    clear h3 hz hb2 gE2 hk hL hk2 hL2 hll
    go_wp2_with fail
    generalize hW : World.setCell _ _ _ = w4
    have H4 := Lib.hid (H3.out.2.put 4 x [(2, pt tp), (3, pt up)] #[pt qs, pt qr, pt tp, pt up, .string ⟨n.toArray⟩] hW)
    clear hW C
    refine (HS.out w4 (ns_of (show Gn w4 (.slice R m cr) L from H4.out.get 2 rfl)) (ns_of (show Gn w4 (.slice R2 m2 cr2) L2 from H4.out.get 1 rfl))).mono ?_
    rintro e w5 ⟨rfl, h5⟩
    have H5 := Lib.hid (H4.out.go h5)
    clear h5 HS H4
    go_wp2_with fail
    go_ret
    refine ⟨rfl, .inr ⟨H3.out.1, tp, up, ?_⟩⟩
    have h6 : Bd B w0 w5 qs qr room (thTr up qr n :: thN (.slice R2 m2 cr2) L2 :: thN (.slice R m cr) L :: thT tp qs n :: thX x qs qr (pt tp) (pt up) n :: ts) rr.2.2 rr.2.2 := H5.out
    have h7 : Bd B w0 w5 qs qr room (thTr up qr n :: thT tp qs n :: thX x qs qr (pt tp) (pt up) n :: ts) rr.2.2 rr.2.2 := h6.sub (((List.sublist_cons_self _ _).trans (List.sublist_cons_self _ _)).cons_cons _)
    exact h7.perm ((List.Perm.swap _ _ _).trans (((List.Perm.swap _ _ _).cons _).trans ((List.Perm.swap _ _ _).trans (.refl _))))

end Go.Proofs.YtiogckgchlnldaaGreat

/- Layer 10: a call on both journals: Sync, Swap, Append. -/
set_option linter.unusedSimpArgs false
set_option linter.unusedVariables false
namespace Go.Proofs.YtiogckgchlnldaaGreat
open Go.RowKit
set_option maxRecDepth 100000

theorem Bd.mem {B qs qr room : Nat} {w0 w : World} {ts : List Kt} {t : Kt} {da db : Fd} (h : Bd B w0 w qs qr room ts da db) (e : t ∈ ts) : t.P w := by
  obtain ⟨i, hi, e⟩ := List.mem_iff_getElem.1 e
  exact h.get i (by rw [List.getElem?_eq_getElem hi, e])
theorem ns_old {w0 W : World} {A : Option Addr} {L : List Bx} (b : Below w0.heap.size w0 W) (hr : Rw w0 encBx 1 A L) (he : ∀ x ∈ L, Bc w0 x.A x.c x.b) : Ns W A L := ⟨hr.below b (Nat.le_refl _), fun x hx => (he x hx).1.below b⟩
theorem bc_old {w0 W : World} {A : Option Addr} {c : Nat} {l : List UInt8} (b : Below w0.heap.size w0 W) (h : Bc w0 A c l) : Bc W A c l := ⟨h.1.below b, h.2⟩
theorem tappend_c (room : Int) (d : Fd) (n : Nm) (b : List UInt8) : (tappendD room d n b).1 ≤ 1000 := by
  unfold tappendD
  split
  · exact show (1 : Nat) ≤ 1000 from by omega
  · exact append_c _ _ _ _

set_option maxHeartbeats 8000000 in
theorem does2_sync {qs qr room : Nat} {w0 w : World} {TS : List Kt} {d : Fd} (n : Nm) (x tp up : Nat) (o : OpT) (h : Bd w0.heap.size w0 w qs qr room TS d d) (mX : thX x qs qr (pt tp) (pt up) n ∈ TS) (mT : thT tp qs n ∈ TS) (mR : thTr up qr n ∈ TS) (ho : o.ok w0) (hn : n.length ≤ 99) (hlf : d.lf ≤ 1000000)  (hk : o.kd % 9 = 4) :
    Calls Tryz.prog 13 #[.pointer (some ⟨x, 0, none⟩), .agg #[.int .u8 (o.kd : Nat), .slice o.A o.b.length o.c, .slice o.LA o.L.length o.Lc, .int .u8 (o.n : Nat), .slice o.KA o.kp.length o.kc, .int .i64 o.to_]] w fun e w' => e = .returned (.bool true) ∧ Bd w0.heap.size w0 w' qs qr room TS ((syncD d n).2) ((syncD d n).2) := by
  have hmx : Tryz.prog.follows .mixedOrders = true := by kernel_rfl
  have hfx := h.fx
  have hd := hfx.db
  obtain ⟨ok1, ok2, ok3, ok4, ok5, ok6, ok7, ok8, ok9, ok10⟩ := ho
  obtain ⟨kd, A, c, b, LA, Lc, L, nn, KA, kc, kp, to_⟩ := o
  dsimp only at *
  have f0 : (kd : Int) % 9 = 4 := by omega
  obtain ⟨bl, hbl⟩ : ∃ bl, bl = b.length := ⟨_, rfl⟩
  obtain ⟨ll, hll⟩ : ∃ ll, ll = L.length := ⟨_, rfl⟩
  obtain ⟨kl, hkl⟩ : ∃ kl, kl = kp.length := ⟨_, rfl⟩
  rw [← hbl, ← hll, ← hkl]
  obtain ⟨W, hW⟩ : ∃ W, W = w.alloc (.cells #[.int .u8 (kd : Nat), .slice A bl c, .slice LA ll Lc, .int .u8 (nn : Nat), .slice KA kl kc, .int .i64 to_] 47) := ⟨_, rfl⟩
  obtain ⟨gq, hgq⟩ : ∃ g, g = w.heap.size := ⟨_, rfl⟩
  have HG := Lib.hid (h.box #[.int .u8 (kd : Nat), .slice A bl c, .slice LA ll Lc, .int .u8 (nn : Nat), .slice KA kl kc, .int .i64 to_] 47)
  rw [← hW, ← hgq] at HG
  have C := fbsays (HG.out.blk 0)
  simp only [cellsSay, Nat.reduceAdd, and_true] at C
  have HA := Lib.hid (fun (W : World) (db : Fd) (h : Bd w0.heap.size w0 W qs qr room (thB gq 47 #[.int .u8 (kd : Nat), .slice A bl c, .slice LA ll Lc, .int .u8 (nn : Nat), .slice KA kl kc, .int .i64 to_] :: TS) d db) => h.lift (fun us hm hu => tsync_any tp n hu (hm _ (List.mem_cons_of_mem _ mT)) (by omega) hlf))
  have HB := Lib.hid (fun (W : World) (da : Fd) (h : Bd w0.heap.size w0 W qs qr room (thB gq 47 #[.int .u8 (kd : Nat), .slice A bl c, .slice LA ll Lc, .int .u8 (nn : Nat), .slice KA kl kc, .int .i64 to_] :: TS) da d) => h.lift2 (fun us hm hu => rtsync_any up n hu hd (hm _ (List.mem_cons_of_mem _ mR)) (by omega) hlf))
  have hcc : ((syncD d n)).1 ≤ 1000 := sync_c d n
  obtain ⟨r, hr⟩ : ∃ r, r = ((syncD d n)).1 := ⟨_, rfl⟩
  obtain ⟨d', hd'⟩ : ∃ d', d' = ((syncD d n)).2 := ⟨_, rfl⟩
  rw [← hr] at HA HB hcc
  rw [← hd'] at HA HB ⊢
  skip
  have hwr := wrap_c hcc
  clear h hfx hd hn hlf hk hbl hll hkl hr hd' hcc ok1 ok2 ok3 ok4 ok5 ok6 ok7 ok8 ok9 ok10 mT mR
  go_enter Tryz.func13, Tryz.ntmps13
  go_upto_region 1 with fail
  rw [← hW, ← hgq]
  clear hW hgq
  go_upto_region 3 with fail
  clear C
  obtain ⟨cs, hcs⟩ : ∃ cs : Array Value, cs = #[.int .u8 (kd : Nat), .slice A bl c, .slice LA ll Lc, .int .u8 (nn : Nat), .slice KA kl kc, .int .i64 to_] := ⟨_, rfl⟩
  rw [← hcs] at HG HA HB
  obtain ⟨I, hI⟩ : ∃ I : Rec → World → Prop, ∀ E W, I E W ↔ Bd w0.heap.size w0 W qs qr room (thB gq 47 cs :: TS) (pickR (E 4) d d') (pickR (E 10) d d') := ⟨_, fun _ _ => Iff.rfl⟩
  have hI0 : I (fun _ => none) W.drew := (hI _ _).2 HG.out.drew
  haveI : Nonempty (InvW I) := ⟨⟨_, _, hI0⟩⟩
  have e1 : ∀ y : InvW I, y.W.cell? ⟨x, 2, none⟩ = some (.pointer (some ⟨tp, 0, none⟩)) := fun y => (show Blk y.W x 34 #[pt qs, pt qr, pt tp, pt up, .string ⟨n.toArray⟩] from ((hI _ _).1 y.h).mem (List.mem_cons_of_mem _ mX)).cell 2
  have e2 : ∀ y : InvW I, y.W.cell? ⟨x, 3, none⟩ = some (.pointer (some ⟨up, 0, none⟩)) := fun y => (show Blk y.W x 34 #[pt qs, pt qr, pt tp, pt up, .string ⟨n.toArray⟩] from ((hI _ _).1 y.h).mem (List.mem_cons_of_mem _ mX)).cell 3
  have HI := Lib.hid hI
  clear hI hcs mX
  refine wp_region_inv I [] [1, 4, 7, 10] (fun k v => if k = 4 then v = .int .u16 (r : Nat) else if k = 10 then v = .int .i64 (r : Nat) else v = .pointer (some ⟨x, 0, none⟩)) hmx (by kernel_rfl) hI0 ?_
  iterate 1 (refine walkJ_one rfl (by kernel_rfl) ?_; go_big_quiet_step (fail); refine wpQuiet_nil ?_)
  refine walkJ_turn rfl rfl ⟨_, rfl⟩ (fun s W1 hs h7 _ => ?_) ?_
  · refine inv_val (W' := W1) (v := .pointer (some ⟨x, 0, none⟩)) (by simp [execOp, go_sem]) ⟨rfl, (HI.out _ _).2 ?_⟩
    have h := (HI.out _ _).1 hs
    exact h
  rintro v rfl
  conv => arg 11; simp [Act.put]
  iterate 2 (refine walkJ_one rfl (by kernel_rfl) ?_; go_big_quiet_step (fail); refine wpQuiet_nil ?_)
  refine walkJ_turn rfl rfl ⟨_, rfl⟩ (fun s W1 hs h7 _ => ?_) ?_
  · have h := (HI.out _ _).1 hs
    rw [show s 4 = none from h7] at h
    refine inv_call (by simp [execOp, go_sem]) ((HA.out _ _ h).mono ?_)
    rintro e w1 ⟨rfl, k⟩
    exact ⟨_, rfl, rfl, (HI.out _ _).2 k⟩
  rintro v rfl
  conv => arg 11; simp [Act.put]
  iterate 2 (refine walkJ_one rfl (by kernel_rfl) ?_; go_big_quiet_step (fail); refine wpQuiet_nil ?_)
  refine walkJ_turn rfl rfl ⟨_, rfl⟩ (fun s W1 hs h7 _ => ?_) ?_
  · refine inv_val (W' := W1) (v := .pointer (some ⟨x, 0, none⟩)) (by simp [execOp, go_sem]) ⟨rfl, (HI.out _ _).2 ?_⟩
    have h := (HI.out _ _).1 hs
    exact h
  rintro v rfl
  conv => arg 11; simp [Act.put]
  iterate 2 (refine walkJ_one rfl (by kernel_rfl) ?_; go_big_quiet_step (fail); refine wpQuiet_nil ?_)
  refine walkJ_turn rfl rfl ⟨_, rfl⟩ (fun s W1 hs h7 _ => ?_) ?_
  · have h := (HI.out _ _).1 hs
    rw [show s 10 = none from h7] at h
    refine inv_call (by simp [execOp, go_sem]) ((HB.out _ _ h).mono ?_)
    rintro e w1 ⟨rfl, k⟩
    exact ⟨_, rfl, rfl, (HI.out _ _).2 k⟩
  rintro v rfl
  conv => arg 11; simp [Act.put]
  iterate 2 (refine walkJ_one rfl (by kernel_rfl) ?_; go_big_quiet_step (fail); refine wpQuiet_nil ?_)
  refine walkJ_end ?_
  intro W' hW'
  have HG2 := Lib.hid ((HI.out _ _).1 hW')
  clear e1 e2
  go_wp2_with fail
  go_ret
  exact ⟨rfl, HG2.out.tail⟩

set_option maxHeartbeats 8000000 in
theorem does2_swap {qs qr room : Nat} {w0 w : World} {TS : List Kt} {d : Fd} (n : Nm) (x tp up : Nat) (o : OpT) (h : Bd w0.heap.size w0 w qs qr room TS d d) (mX : thX x qs qr (pt tp) (pt up) n ∈ TS) (mT : thT tp qs n ∈ TS) (mR : thTr up qr n ∈ TS) (ho : o.ok w0) (hn : n.length ≤ 99) (hlf : d.lf ≤ 1000000) (hL7 : ∀ z ∈ o.L, z.b.length ≤ 700) (hL10 : o.L.length ≤ 10) (hr0 : room ≤ 1048576) (hu0 : usedD d + 6100 ≤ 200000) (hur : usedD d ≤ room) (hpl : d.P.length ≤ 10000) (hk : o.kd % 9 = 5) :
    Calls Tryz.prog 13 #[.pointer (some ⟨x, 0, none⟩), .agg #[.int .u8 (o.kd : Nat), .slice o.A o.b.length o.c, .slice o.LA o.L.length o.Lc, .int .u8 (o.n : Nat), .slice o.KA o.kp.length o.kc, .int .i64 o.to_]] w fun e w' => e = .returned (.bool true) ∧ Bd w0.heap.size w0 w' qs qr room TS ((swapD room d n (o.L.map Bx.b)).2) ((swapD room d n (o.L.map Bx.b)).2) := by
  have hmx : Tryz.prog.follows .mixedOrders = true := by kernel_rfl
  have hfx := h.fx
  have hd := hfx.db
  obtain ⟨ok1, ok2, ok3, ok4, ok5, ok6, ok7, ok8, ok9, ok10⟩ := ho
  obtain ⟨kd, A, c, b, LA, Lc, L, nn, KA, kc, kp, to_⟩ := o
  dsimp only at *
  have f0 : (kd : Int) % 9 = 5 := by omega
  obtain ⟨bl, hbl⟩ : ∃ bl, bl = b.length := ⟨_, rfl⟩
  obtain ⟨ll, hll⟩ : ∃ ll, ll = L.length := ⟨_, rfl⟩
  obtain ⟨kl, hkl⟩ : ∃ kl, kl = kp.length := ⟨_, rfl⟩
  rw [← hbl, ← hll, ← hkl]
  obtain ⟨W, hW⟩ : ∃ W, W = w.alloc (.cells #[.int .u8 (kd : Nat), .slice A bl c, .slice LA ll Lc, .int .u8 (nn : Nat), .slice KA kl kc, .int .i64 to_] 47) := ⟨_, rfl⟩
  obtain ⟨gq, hgq⟩ : ∃ g, g = w.heap.size := ⟨_, rfl⟩
  have HG := Lib.hid (h.box #[.int .u8 (kd : Nat), .slice A bl c, .slice LA ll Lc, .int .u8 (nn : Nat), .slice KA kl kc, .int .i64 to_] 47)
  rw [← hW, ← hgq] at HG
  have C := fbsays (HG.out.blk 0)
  simp only [cellsSay, Nat.reduceAdd, and_true] at C
  have HA := Lib.hid (fun (W : World) (db : Fd) (h : Bd w0.heap.size w0 W qs qr room (thB gq 47 #[.int .u8 (kd : Nat), .slice A bl c, .slice LA ll Lc, .int .u8 (nn : Nat), .slice KA kl kc, .int .i64 to_] :: TS) d db) => h.lift (fun us hm hu => swap_any tp n LA Lc L hu (hm _ (List.mem_cons_of_mem _ mT)) hn (fun W d9 hs => ns_old hs.b ok3 ok4) (fun z hz => (ok4 z hz).2.1) (fun z hz => by have := hL7 z hz; omega) hlf hr0 (by omega) (by omega)))
  have HB := Lib.hid (fun (W : World) (da : Fd) (h : Bd w0.heap.size w0 W qs qr room (thB gq 47 #[.int .u8 (kd : Nat), .slice A bl c, .slice LA ll Lc, .int .u8 (nn : Nat), .slice KA kl kc, .int .i64 to_] :: TS) da d) => h.lift2 (fun us hm hu => rswap_any up n LA Lc L hu hfx (hm _ (List.mem_cons_of_mem _ mR)) hn (fun W d9 hs => ⟨ns_old hs.b ok3 ok4, fun z hz => bc_old hs.b (ok4 z hz)⟩) (fun z hz => by have := hL7 z hz; omega) hlf hr0 (by omega) (by omega) (by omega)))
  have hcc : ((swapD room d n (L.map Bx.b))).1 ≤ 1000 := swap_k _ _ _ _
  obtain ⟨r, hr⟩ : ∃ r, r = ((swapD room d n (L.map Bx.b))).1 := ⟨_, rfl⟩
  obtain ⟨d', hd'⟩ : ∃ d', d' = ((swapD room d n (L.map Bx.b))).2 := ⟨_, rfl⟩
  rw [← hr] at HA HB hcc
  rw [← hd'] at HA HB ⊢
  rw [← hll] at HA HB
  have hwr := wrap_c hcc
  clear h hfx hd hn hlf hk hbl hll hkl hr hd' hcc ok1 ok2 ok3 ok4 ok5 ok6 ok7 ok8 ok9 ok10 mT mR
  go_enter Tryz.func13, Tryz.ntmps13
  go_upto_region 1 with fail
  rw [← hW, ← hgq]
  clear hW hgq
  go_upto_region 5 with fail
  clear C
  obtain ⟨cs, hcs⟩ : ∃ cs : Array Value, cs = #[.int .u8 (kd : Nat), .slice A bl c, .slice LA ll Lc, .int .u8 (nn : Nat), .slice KA kl kc, .int .i64 to_] := ⟨_, rfl⟩
  rw [← hcs] at HG HA HB
  obtain ⟨I, hI⟩ : ∃ I : Rec → World → Prop, ∀ E W, I E W ↔ Bd w0.heap.size w0 W qs qr room (thB gq 47 cs :: TS) (pickR (E 6) d d') (pickR (E 14) d d') := ⟨_, fun _ _ => Iff.rfl⟩
  have hI0 : I (fun _ => none) W.drew := (hI _ _).2 HG.out.drew
  haveI : Nonempty (InvW I) := ⟨⟨_, _, hI0⟩⟩
  have e1 : ∀ y : InvW I, y.W.cell? ⟨x, 2, none⟩ = some (.pointer (some ⟨tp, 0, none⟩)) := fun y => (show Blk y.W x 34 #[pt qs, pt qr, pt tp, pt up, .string ⟨n.toArray⟩] from ((hI _ _).1 y.h).mem (List.mem_cons_of_mem _ mX)).cell 2
  have e2 : ∀ y : InvW I, y.W.cell? ⟨x, 3, none⟩ = some (.pointer (some ⟨up, 0, none⟩)) := fun y => (show Blk y.W x 34 #[pt qs, pt qr, pt tp, pt up, .string ⟨n.toArray⟩] from ((hI _ _).1 y.h).mem (List.mem_cons_of_mem _ mX)).cell 3
  have e3 : ∀ y : InvW I, y.W.cell? ⟨gq, 2, none⟩ = some (.slice LA ll Lc) := fun y => by have h := ((hI _ _).1 y.h).blk 0; rw [hcs] at h; exact h.cell 2
  have HI := Lib.hid hI
  clear hI hcs mX
  refine wp_region_inv I [] [1, 6, 9, 14] (fun k v => if k = 6 then v = .int .u16 (r : Nat) else if k = 14 then v = .int .i64 (r : Nat) else v = .pointer (some ⟨x, 0, none⟩)) hmx (by kernel_rfl) hI0 ?_
  iterate 1 (refine walkJ_one rfl (by kernel_rfl) ?_; go_big_quiet_step (fail); refine wpQuiet_nil ?_)
  refine walkJ_turn rfl rfl ⟨_, rfl⟩ (fun s W1 hs h7 _ => ?_) ?_
  · refine inv_val (W' := W1) (v := .pointer (some ⟨x, 0, none⟩)) (by simp [execOp, go_sem]) ⟨rfl, (HI.out _ _).2 ?_⟩
    have h := (HI.out _ _).1 hs
    exact h
  rintro v rfl
  conv => arg 11; simp [Act.put]
  iterate 4 (refine walkJ_one rfl (by kernel_rfl) ?_; go_big_quiet_step (fail); refine wpQuiet_nil ?_)
  refine walkJ_turn rfl rfl ⟨_, rfl⟩ (fun s W1 hs h7 _ => ?_) ?_
  · have h := (HI.out _ _).1 hs
    rw [show s 6 = none from h7] at h
    refine inv_call (by simp [execOp, go_sem]) ((HA.out _ _ h).mono ?_)
    rintro e w1 ⟨rfl, k⟩
    exact ⟨_, rfl, rfl, (HI.out _ _).2 k⟩
  rintro v rfl
  conv => arg 11; simp [Act.put]
  iterate 2 (refine walkJ_one rfl (by kernel_rfl) ?_; go_big_quiet_step (fail); refine wpQuiet_nil ?_)
  refine walkJ_turn rfl rfl ⟨_, rfl⟩ (fun s W1 hs h7 _ => ?_) ?_
  · refine inv_val (W' := W1) (v := .pointer (some ⟨x, 0, none⟩)) (by simp [execOp, go_sem]) ⟨rfl, (HI.out _ _).2 ?_⟩
    have h := (HI.out _ _).1 hs
    exact h
  rintro v rfl
  conv => arg 11; simp [Act.put]
  iterate 4 (refine walkJ_one rfl (by kernel_rfl) ?_; go_big_quiet_step (fail); refine wpQuiet_nil ?_)
  refine walkJ_turn rfl rfl ⟨_, rfl⟩ (fun s W1 hs h7 _ => ?_) ?_
  · have h := (HI.out _ _).1 hs
    rw [show s 14 = none from h7] at h
    refine inv_call (by simp [execOp, go_sem]) ((HB.out _ _ h).mono ?_)
    rintro e w1 ⟨rfl, k⟩
    exact ⟨_, rfl, rfl, (HI.out _ _).2 k⟩
  rintro v rfl
  conv => arg 11; simp [Act.put]
  iterate 2 (refine walkJ_one rfl (by kernel_rfl) ?_; go_big_quiet_step (fail); refine wpQuiet_nil ?_)
  refine walkJ_end ?_
  intro W' hW'
  have HG2 := Lib.hid ((HI.out _ _).1 hW')
  clear e1 e2
  go_wp2_with fail
  go_ret
  exact ⟨rfl, HG2.out.tail⟩

set_option maxHeartbeats 8000000 in
theorem does2_app {qs qr room : Nat} {w0 w : World} {TS : List Kt} {d : Fd} (n : Nm) (x tp up : Nat) (o : OpT) (h : Bd w0.heap.size w0 w qs qr room TS d d) (mX : thX x qs qr (pt tp) (pt up) n ∈ TS) (mT : thT tp qs n ∈ TS) (mR : thTr up qr n ∈ TS) (ho : o.ok w0) (hn : n.length ≤ 99) (hlf : d.lf ≤ 1000000) (hb7 : o.b.length ≤ 700) (hr0 : room ≤ 1048576) (hu0 : usedD d + 6100 ≤ 200000) (hur : usedD d ≤ room) (hpl : d.P.length ≤ 10000) (hk : o.kd % 9 ≤ 3) :
    Calls Tryz.prog 13 #[.pointer (some ⟨x, 0, none⟩), .agg #[.int .u8 (o.kd : Nat), .slice o.A o.b.length o.c, .slice o.LA o.L.length o.Lc, .int .u8 (o.n : Nat), .slice o.KA o.kp.length o.kc, .int .i64 o.to_]] w fun e w' => e = .returned (.bool true) ∧ Bd w0.heap.size w0 w' qs qr room TS ((tappendD room d n o.b).2) ((tappendD room d n o.b).2) := by
  have hmx : Tryz.prog.follows .mixedOrders = true := by kernel_rfl
  have hfx := h.fx
  have hd := hfx.db
  obtain ⟨ok1, ok2, ok3, ok4, ok5, ok6, ok7, ok8, ok9, ok10⟩ := ho
  obtain ⟨kd, A, c, b, LA, Lc, L, nn, KA, kc, kp, to_⟩ := o
  dsimp only at *
  have f0 : ((kd : Int) % 9 == 4) = false := beq_eq_false_iff_ne.2 (by omega)
  have f1 : ((kd : Int) % 9 == 5) = false := beq_eq_false_iff_ne.2 (by omega)
  have f2 : ((kd : Int) % 9 == 6) = false := beq_eq_false_iff_ne.2 (by omega)
  have f3 : ((kd : Int) % 9 == 7) = false := beq_eq_false_iff_ne.2 (by omega)
  have f4 : ((kd : Int) % 9 == 8) = false := beq_eq_false_iff_ne.2 (by omega)
  obtain ⟨bl, hbl⟩ : ∃ bl, bl = b.length := ⟨_, rfl⟩
  obtain ⟨ll, hll⟩ : ∃ ll, ll = L.length := ⟨_, rfl⟩
  obtain ⟨kl, hkl⟩ : ∃ kl, kl = kp.length := ⟨_, rfl⟩
  rw [← hbl, ← hll, ← hkl]
  obtain ⟨W, hW⟩ : ∃ W, W = w.alloc (.cells #[.int .u8 (kd : Nat), .slice A bl c, .slice LA ll Lc, .int .u8 (nn : Nat), .slice KA kl kc, .int .i64 to_] 47) := ⟨_, rfl⟩
  obtain ⟨gq, hgq⟩ : ∃ g, g = w.heap.size := ⟨_, rfl⟩
  have HG := Lib.hid (h.box #[.int .u8 (kd : Nat), .slice A bl c, .slice LA ll Lc, .int .u8 (nn : Nat), .slice KA kl kc, .int .i64 to_] 47)
  rw [← hW, ← hgq] at HG
  have C := fbsays (HG.out.blk 0)
  simp only [cellsSay, Nat.reduceAdd, and_true] at C
  have HA := Lib.hid (fun (W : World) (db : Fd) (h : Bd w0.heap.size w0 W qs qr room (thB gq 47 #[.int .u8 (kd : Nat), .slice A bl c, .slice LA ll Lc, .int .u8 (nn : Nat), .slice KA kl kc, .int .i64 to_] :: TS) d db) => h.lift (fun us hm hu => tappend_any tp n A c b hu (hm _ (List.mem_cons_of_mem _ mT)) (by omega) (ok2.1.below hu.b) ok2.2.1 (by omega) hlf hr0 (by omega) (by omega)))
  have HB := Lib.hid (fun (W : World) (da : Fd) (h : Bd w0.heap.size w0 W qs qr room (thB gq 47 #[.int .u8 (kd : Nat), .slice A bl c, .slice LA ll Lc, .int .u8 (nn : Nat), .slice KA kl kc, .int .i64 to_] :: TS) da d) => h.lift2 (fun us hm hu => rtappend_any up n A c b hu hd (hm _ (List.mem_cons_of_mem _ mR)) (by omega) (ok2.1.below hu.b) ok2.2.2.2 ok2.2.1 (by omega) hlf hr0 (by omega) hur))
  have hcc : ((tappendD room d n b)).1 ≤ 1000 := tappend_c _ _ _ _
  obtain ⟨r, hr⟩ : ∃ r, r = ((tappendD room d n b)).1 := ⟨_, rfl⟩
  obtain ⟨d', hd'⟩ : ∃ d', d' = ((tappendD room d n b)).2 := ⟨_, rfl⟩
  rw [← hr] at HA HB hcc
  rw [← hd'] at HA HB ⊢
  rw [← hbl] at HA HB
  have hwr := wrap_c hcc
  clear h hfx hd hn hlf hk hbl hll hkl hr hd' hcc ok1 ok2 ok3 ok4 ok5 ok6 ok7 ok8 ok9 ok10 mT mR
  go_enter Tryz.func13, Tryz.ntmps13
  go_upto_region 1 with fail
  rw [← hW, ← hgq]
  clear hW hgq
  go_upto_region 17 with fail
  clear C
  obtain ⟨cs, hcs⟩ : ∃ cs : Array Value, cs = #[.int .u8 (kd : Nat), .slice A bl c, .slice LA ll Lc, .int .u8 (nn : Nat), .slice KA kl kc, .int .i64 to_] := ⟨_, rfl⟩
  rw [← hcs] at HG HA HB
  obtain ⟨I, hI⟩ : ∃ I : Rec → World → Prop, ∀ E W, I E W ↔ Bd w0.heap.size w0 W qs qr room (thB gq 47 cs :: TS) (pickR (E 6) d d') (pickR (E 14) d d') := ⟨_, fun _ _ => Iff.rfl⟩
  have hI0 : I (fun _ => none) W.drew := (hI _ _).2 HG.out.drew
  haveI : Nonempty (InvW I) := ⟨⟨_, _, hI0⟩⟩
  have e1 : ∀ y : InvW I, y.W.cell? ⟨x, 2, none⟩ = some (.pointer (some ⟨tp, 0, none⟩)) := fun y => (show Blk y.W x 34 #[pt qs, pt qr, pt tp, pt up, .string ⟨n.toArray⟩] from ((hI _ _).1 y.h).mem (List.mem_cons_of_mem _ mX)).cell 2
  have e2 : ∀ y : InvW I, y.W.cell? ⟨x, 3, none⟩ = some (.pointer (some ⟨up, 0, none⟩)) := fun y => (show Blk y.W x 34 #[pt qs, pt qr, pt tp, pt up, .string ⟨n.toArray⟩] from ((hI _ _).1 y.h).mem (List.mem_cons_of_mem _ mX)).cell 3
  have e3 : ∀ y : InvW I, y.W.cell? ⟨gq, 1, none⟩ = some (.slice A bl c) := fun y => by have h := ((hI _ _).1 y.h).blk 0; rw [hcs] at h; exact h.cell 1
  have HI := Lib.hid hI
  clear hI hcs mX
  refine wp_region_inv I [] [1, 6, 9, 14] (fun k v => if k = 6 then v = .int .u16 (r : Nat) else if k = 14 then v = .int .i64 (r : Nat) else v = .pointer (some ⟨x, 0, none⟩)) hmx (by kernel_rfl) hI0 ?_
  iterate 1 (refine walkJ_one rfl (by kernel_rfl) ?_; go_big_quiet_step (fail); refine wpQuiet_nil ?_)
  refine walkJ_turn rfl rfl ⟨_, rfl⟩ (fun s W1 hs h7 _ => ?_) ?_
  · refine inv_val (W' := W1) (v := .pointer (some ⟨x, 0, none⟩)) (by simp [execOp, go_sem]) ⟨rfl, (HI.out _ _).2 ?_⟩
    have h := (HI.out _ _).1 hs
    exact h
  rintro v rfl
  conv => arg 11; simp [Act.put]
  iterate 4 (refine walkJ_one rfl (by kernel_rfl) ?_; go_big_quiet_step (fail); refine wpQuiet_nil ?_)
  refine walkJ_turn rfl rfl ⟨_, rfl⟩ (fun s W1 hs h7 _ => ?_) ?_
  · have h := (HI.out _ _).1 hs
    rw [show s 6 = none from h7] at h
    refine inv_call (by simp [execOp, go_sem]) ((HA.out _ _ h).mono ?_)
    rintro e w1 ⟨rfl, k⟩
    exact ⟨_, rfl, rfl, (HI.out _ _).2 k⟩
  rintro v rfl
  conv => arg 11; simp [Act.put]
  iterate 2 (refine walkJ_one rfl (by kernel_rfl) ?_; go_big_quiet_step (fail); refine wpQuiet_nil ?_)
  refine walkJ_turn rfl rfl ⟨_, rfl⟩ (fun s W1 hs h7 _ => ?_) ?_
  · refine inv_val (W' := W1) (v := .pointer (some ⟨x, 0, none⟩)) (by simp [execOp, go_sem]) ⟨rfl, (HI.out _ _).2 ?_⟩
    have h := (HI.out _ _).1 hs
    exact h
  rintro v rfl
  conv => arg 11; simp [Act.put]
  iterate 4 (refine walkJ_one rfl (by kernel_rfl) ?_; go_big_quiet_step (fail); refine wpQuiet_nil ?_)
  refine walkJ_turn rfl rfl ⟨_, rfl⟩ (fun s W1 hs h7 _ => ?_) ?_
  · have h := (HI.out _ _).1 hs
    rw [show s 14 = none from h7] at h
    refine inv_call (by simp [execOp, go_sem]) ((HB.out _ _ h).mono ?_)
    rintro e w1 ⟨rfl, k⟩
    exact ⟨_, rfl, rfl, (HI.out _ _).2 k⟩
  rintro v rfl
  conv => arg 11; simp [Act.put]
  iterate 2 (refine walkJ_one rfl (by kernel_rfl) ?_; go_big_quiet_step (fail); refine wpQuiet_nil ?_)
  refine walkJ_end ?_
  intro W' hW'
  have HG2 := Lib.hid ((HI.out _ _).1 hW')
  clear e1 e2
  go_wp2_with fail
  go_ret
  exact ⟨rfl, HG2.out.tail⟩

end Go.Proofs.YtiogckgchlnldaaGreat

/- Layer 10: a call on both journals: Create, Halt, Crash. -/
set_option linter.unusedSimpArgs false
set_option linter.unusedVariables false
namespace Go.Proofs.YtiogckgchlnldaaGreat
open Go.RowKit
set_option maxRecDepth 100000

/-- the other files' names -/
def nmF (k : Nat) : Nm := [102, UInt8.ofNat (97 + k % 9)]

set_option maxHeartbeats 8000000 in
theorem does2_halt {qs qr room : Nat} {w0 w : World} {TS : List Kt} {d : Fd} (n : Nm) (x tp up : Nat) (o : OpT) (h : Bd w0.heap.size w0 w qs qr room TS d d) (mX : thX x qs qr (pt tp) (pt up) n ∈ TS) (mT : thT tp qs n ∈ TS) (mR : thTr up qr n ∈ TS) (ho : o.ok w0) (hn : n.length ≤ 99) (hlf : d.lf ≤ 1000000)  (hk : o.kd % 9 = 6) :
    Calls Tryz.prog 13 #[.pointer (some ⟨x, 0, none⟩), .agg #[.int .u8 (o.kd : Nat), .slice o.A o.b.length o.c, .slice o.LA o.L.length o.Lc, .int .u8 (o.n : Nat), .slice o.KA o.kp.length o.kc, .int .i64 o.to_]] w fun e w' => e = .returned (.bool true) ∧ Bd w0.heap.size w0 w' qs qr room TS (haltD d ((o.n % 20 : Nat) : Int)) (haltD d ((o.n % 20 : Nat) : Int)) := by
  have hmx : Tryz.prog.follows .mixedOrders = true := by kernel_rfl
  have hfx := h.fx
  have hd := hfx.db
  obtain ⟨ok1, ok2, ok3, ok4, ok5, ok6, ok7, ok8, ok9, ok10⟩ := ho
  obtain ⟨kd, A, c, b, LA, Lc, L, nn, KA, kc, kp, to_⟩ := o
  dsimp only at *
  have f9 : (kd : Int) % 9 = 6 := by omega
  obtain ⟨bl, hbl⟩ : ∃ bl, bl = b.length := ⟨_, rfl⟩
  obtain ⟨ll, hll⟩ : ∃ ll, ll = L.length := ⟨_, rfl⟩
  obtain ⟨kl, hkl⟩ : ∃ kl, kl = kp.length := ⟨_, rfl⟩
  rw [← hbl, ← hll, ← hkl]
  obtain ⟨W, hW⟩ : ∃ W, W = w.alloc (.cells #[.int .u8 (kd : Nat), .slice A bl c, .slice LA ll Lc, .int .u8 (nn : Nat), .slice KA kl kc, .int .i64 to_] 47) := ⟨_, rfl⟩
  obtain ⟨gq, hgq⟩ : ∃ g, g = w.heap.size := ⟨_, rfl⟩
  have HG := Lib.hid (h.box #[.int .u8 (kd : Nat), .slice A bl c, .slice LA ll Lc, .int .u8 (nn : Nat), .slice KA kl kc, .int .i64 to_] 47)
  rw [← hW, ← hgq] at HG
  have C := fbsays (HG.out.blk 0)
  simp only [cellsSay, Nat.reduceAdd, and_true] at C
  have bX : ∀ (W : World) (da db : Fd) (us : List Kt), Bd w0.heap.size w0 W qs qr room (us ++ TS) da db → Blk W x 34 #[pt qs, pt qr, pt tp, pt up, .string ⟨n.toArray⟩] := fun W da db us hb => hb.mem (List.mem_append_right _ mX)
  have HA := Lib.hid (fun (W : World) (us : List Kt) (db : Fd) (h : Bd w0.heap.size w0 W qs qr room us d db) => h.lift (fun us _ hu => halt_any ((nn % 20 : Nat) : Int) hu))
  have HB := Lib.hid (fun (W : World) (us : List Kt) (da : Fd) (h : Bd w0.heap.size w0 W qs qr room us da d) => h.lift2 (fun us _ hu => rhalt_any ((nn % 20 : Nat) : Int) hu))
  obtain ⟨d', hd'⟩ : ∃ d', d' = haltD d ((nn % 20 : Nat) : Int) := ⟨_, rfl⟩
  obtain ⟨mm, hmm⟩ : ∃ m, m = nn % 20 := ⟨_, rfl⟩
  have hm1 : (nn : Int) % 20 = (mm : Int) := by omega
  have hm2 : IntKind.i64.wrap (mm : Int) = (mm : Int) := wrap_c (by omega)
  rw [← hmm] at hd' HA HB ⊢
  rw [← hd'] at HA HB ⊢
  have HX := Lib.hid bX
  clear h hfx hd hn hlf hk hbl hll hkl hd' hmm ok1 ok2 ok3 ok4 ok5 ok6 ok7 ok8 ok9 ok10 mT mR bX
  go_enter Tryz.func13, Tryz.ntmps13
  go_upto_region 1 with fail
  rw [← hW, ← hgq]
  clear hW hgq
  go_upto_region 7 with fail
  have hp := plus_cell W
  have Cx := fbsays (HX.out W d d [_] HG.out)
  simp only [cellsSay, pt, Nat.reduceAdd, and_true] at Cx
  have HC1 := Lib.hid (fun (y : More) => HA.out _ _ _ (HG.out.go (plus_below W y)))
  clear HA
  refine wp_region_tail_ext 8 (by kernel_rfl) (by kernel_rfl) ?_
  simp only [List.take_succ_cons, List.take_zero, List.drop_succ_cons, List.drop_zero]
  repeat (go_big_quiet_step (fail))
  refine wpQuiet_nil ?_
  rintro w2 ⟨y, rfl⟩
  have HC2 := Lib.hid (HC1.out y)
  clear HC1 hp C Cx HG
  go_wp2_with fail
  refine HC2.out.mono ?_
  rintro e w1 ⟨rfl, h1⟩
  have H1 := Lib.hid h1
  have hp := plus_cell w1
  have C := fbsays (h1.blk 0)
  simp only [cellsSay, Nat.reduceAdd, and_true] at C
  have Cx := fbsays (HX.out w1 d' d [_] H1.out)
  simp only [cellsSay, pt, Nat.reduceAdd, and_true] at Cx
  have HC1 := Lib.hid (fun (y : More) => HB.out _ _ _ (H1.out.go (plus_below w1 y)))
  clear h1 HC2 HB
  go_wp2_with fail
  refine wp_region_tail_ext 8 (by kernel_rfl) (by kernel_rfl) ?_
  simp only [List.take_succ_cons, List.take_zero, List.drop_succ_cons, List.drop_zero]
  repeat (go_big_quiet_step (fail))
  refine wpQuiet_nil ?_
  rintro w2 ⟨y2, rfl⟩
  have HC2 := Lib.hid (HC1.out y2)
  clear HC1 hp C Cx H1 HX
  go_wp2_with fail
  refine HC2.out.mono ?_
  rintro e w3 ⟨rfl, h3⟩
  have H3 := Lib.hid h3
  clear h3 HC2
  go_wp2_with fail
  go_ret
  exact ⟨rfl, H3.out.tail⟩

set_option maxHeartbeats 8000000 in
theorem does2_crash {qs qr room : Nat} {w0 w : World} {us : List Kt} {d : Fd} (n : Nm) (x : Nat) (a b : Value) (o : OpT) (h : Bd w0.heap.size w0 w qs qr room (thX x qs qr a b n :: us) d d) (ho : o.ok w0) (hn : n.length ≤ 99) (hlf : d.lf ≤ 1000000) (hkp : o.kp.length ≤ 40) (hk : o.kd % 9 = 7) :
    Calls Tryz.prog 13 #[.pointer (some ⟨x, 0, none⟩), .agg #[.int .u8 (o.kd : Nat), .slice o.A o.b.length o.c, .slice o.LA o.L.length o.Lc, .int .u8 (o.n : Nat), .slice o.KA o.kp.length o.kc, .int .i64 o.to_]] w fun e w' => e = .returned (.bool true) ∧ O2 w0.heap.size w0 qs qr room x n us (topenD (crashD d (kpt o.kp) o.to_) n) w' := by
  have hmx : Tryz.prog.follows .mixedOrders = true := by kernel_rfl
  have hfx := h.fx
  have hd := hfx.db
  obtain ⟨ok1, ok2, ok3, ok4, ok5, ok6, ok7, ok8, ok9, ok10⟩ := ho
  obtain ⟨kd, A, c, bb, LA, Lc, L, nn, KA, kc, kp, to_⟩ := o
  dsimp only at *
  have f9 : (kd : Int) % 9 = 7 := by omega
  obtain ⟨bl, hbl⟩ : ∃ bl, bl = bb.length := ⟨_, rfl⟩
  obtain ⟨ll, hll⟩ : ∃ ll, ll = L.length := ⟨_, rfl⟩
  obtain ⟨kl, hkl⟩ : ∃ kl, kl = kp.length := ⟨_, rfl⟩
  rw [← hbl, ← hll, ← hkl]
  obtain ⟨W, hW⟩ : ∃ W, W = w.alloc (.cells #[.int .u8 (kd : Nat), .slice A bl c, .slice LA ll Lc, .int .u8 (nn : Nat), .slice KA kl kc, .int .i64 to_] 47) := ⟨_, rfl⟩
  obtain ⟨gq, hgq⟩ : ∃ g, g = w.heap.size := ⟨_, rfl⟩
  have HG := Lib.hid (h.box #[.int .u8 (kd : Nat), .slice A bl c, .slice LA ll Lc, .int .u8 (nn : Nat), .slice KA kl kc, .int .i64 to_] 47)
  rw [← hW, ← hgq] at HG
  have C := fbsays (HG.out.blk 0)
  simp only [cellsSay, Nat.reduceAdd, and_true] at C
  have HA := Lib.hid (fun (W : World) (us : List Kt) (db : Fd) (h : Bd w0.heap.size w0 W qs qr room us d db) => h.lift (fun us _ hu => crash_any kp KA kc kl hkl to_ hu (fun W' hs => sep_keepK hs (Nat.le_refl _) ok8) (by omega)))
  have HB := Lib.hid (fun (W : World) (us : List Kt) (da : Fd) (h : Bd w0.heap.size w0 W qs qr room us da d) => h.lift2 (fun us _ hu => rcrash_any kp KA kc kl hkl to_ hu hd (fun W' hs => sep_keepK hs (Nat.le_refl _) ok8) (by omega)))
  have hcl : (crashD d (kpt kp) to_).lf ≤ 1000000 := Nat.le_trans (lp_crash d (kpt kp) to_).1 hlf
  obtain ⟨d', hd'⟩ : ∃ d', d' = crashD d (kpt kp) to_ := ⟨_, rfl⟩
  rw [← hd'] at HA HB hcl ⊢
  have HO := Lib.hid (fun (W : World) (us : List Kt) (h : Bd w0.heap.size w0 W qs qr room (thX x qs qr a b n :: us) d' d') => open2_any n x a b h (by omega) hcl)
  clear h hfx hd hn hlf hk hbl hll hkl hd' ok1 ok2 ok3 ok4 ok5 ok6 ok7 ok8 ok9 ok10 hkp hcl
  go_enter Tryz.func13, Tryz.ntmps13
  go_upto_region 1 with fail
  rw [← hW, ← hgq]
  clear hW hgq
  go_upto_region 11 with fail
  have hp := plus_cell W
  have Cx := fbsays (HG.out.blk 1)
  simp only [cellsSay, pt, Nat.reduceAdd, and_true] at Cx
  have HC1 := Lib.hid (fun (y : More) => HA.out _ _ _ (HG.out.go (plus_below W y)))
  clear HA
  refine wp_region_tail_ext 6 (by kernel_rfl) (by kernel_rfl) ?_
  simp only [List.take_succ_cons, List.take_zero, List.drop_succ_cons, List.drop_zero]
  repeat (go_big_quiet_step (fail))
  refine wpQuiet_nil ?_
  rintro w2 ⟨y, rfl⟩
  have HC2 := Lib.hid (HC1.out y)
  clear HC1 hp C Cx HG
  go_wp2_with fail
  refine HC2.out.mono ?_
  rintro e w1 ⟨rfl, h1⟩
  have H1 := Lib.hid h1
  clear h1 HC2
  have C := fbsays (H1.out.blk 0)
  simp only [cellsSay, Nat.reduceAdd, and_true] at C
  go_wp2_with fail
  have hp := plus_cell w1
  have Cx := fbsays (H1.out.blk 1)
  simp only [cellsSay, pt, Nat.reduceAdd, and_true] at Cx
  have HC1 := Lib.hid (fun (y : More) => HB.out _ _ _ (H1.out.go (plus_below w1 y)))
  clear HB
  refine wp_region_tail_ext 6 (by kernel_rfl) (by kernel_rfl) ?_
  simp only [List.take_succ_cons, List.take_zero, List.drop_succ_cons, List.drop_zero]
  repeat (go_big_quiet_step (fail))
  refine wpQuiet_nil ?_
  rintro w2 ⟨y, rfl⟩
  have HC2 := Lib.hid (HC1.out y)
  clear HC1 hp C Cx H1
  go_wp2_with fail
  refine HC2.out.mono ?_
  rintro e w3 ⟨rfl, h1⟩
  have H2 := Lib.hid h1
  clear h1 HC2
  have HC3 := Lib.hid (HO.out w3 _ (H2.out.perm (List.Perm.swap _ _ _)))
  clear HO H2
  go_wp2_with fail
  refine HC3.out.mono ?_
  rintro e w4 ⟨rfl, h4⟩
  have H4 := Lib.hid h4
  clear h4 HC3
  go_wp2_with fail
  go_ret
  refine ⟨rfl, ?_⟩
  rcases H4.out with ⟨hz, h5⟩ | ⟨hz, tp, up, h5⟩
  · exact .inl ⟨hz, h5.sub ((List.sublist_cons_self _ _).cons_cons _)⟩
  · exact .inr ⟨hz, tp, up, h5.sub ((((List.sublist_cons_self _ _).cons_cons _).cons_cons _).cons_cons _)⟩

set_option maxHeartbeats 8000000 in
theorem does2_create {qs qr room : Nat} {w0 w : World} {TS : List Kt} {d : Fd} (n : Nm) (x tp up : Nat) (o : OpT) (h : Bd w0.heap.size w0 w qs qr room TS d d) (mX : thX x qs qr (pt tp) (pt up) n ∈ TS) (mT : thT tp qs n ∈ TS) (mR : thTr up qr n ∈ TS) (ho : o.ok w0) (hn : n.length ≤ 99) (hlf : d.lf ≤ 1000000)  (hk : o.kd % 9 = 8) :
    Calls Tryz.prog 13 #[.pointer (some ⟨x, 0, none⟩), .agg #[.int .u8 (o.kd : Nat), .slice o.A o.b.length o.c, .slice o.LA o.L.length o.Lc, .int .u8 (o.n : Nat), .slice o.KA o.kp.length o.kc, .int .i64 o.to_]] w fun e w' => e = .returned (.bool true) ∧ Bd w0.heap.size w0 w' qs qr room TS ((createD d (nmF o.n)).2) ((createD d (nmF o.n)).2) := by
  have hmx : Tryz.prog.follows .mixedOrders = true := by kernel_rfl
  have hfx := h.fx
  have hd := hfx.db
  obtain ⟨ok1, ok2, ok3, ok4, ok5, ok6, ok7, ok8, ok9, ok10⟩ := ho
  obtain ⟨kd, A, c, b, LA, Lc, L, nn, KA, kc, kp, to_⟩ := o
  dsimp only at *
  have f9 : (kd : Int) % 9 = 8 := by omega
  obtain ⟨bl, hbl⟩ : ∃ bl, bl = b.length := ⟨_, rfl⟩
  obtain ⟨ll, hll⟩ : ∃ ll, ll = L.length := ⟨_, rfl⟩
  obtain ⟨kl, hkl⟩ : ∃ kl, kl = kp.length := ⟨_, rfl⟩
  rw [← hbl, ← hll, ← hkl]
  obtain ⟨W, hW⟩ : ∃ W, W = w.alloc (.cells #[.int .u8 (kd : Nat), .slice A bl c, .slice LA ll Lc, .int .u8 (nn : Nat), .slice KA kl kc, .int .i64 to_] 47) := ⟨_, rfl⟩
  obtain ⟨gq, hgq⟩ : ∃ g, g = w.heap.size := ⟨_, rfl⟩
  have HG := Lib.hid (h.box #[.int .u8 (kd : Nat), .slice A bl c, .slice LA ll Lc, .int .u8 (nn : Nat), .slice KA kl kc, .int .i64 to_] 47)
  rw [← hW, ← hgq] at HG
  have C := fbsays (HG.out.blk 0)
  simp only [cellsSay, Nat.reduceAdd, and_true] at C
  have HA := Lib.hid (fun (W : World) (us : List Kt) (db : Fd) (h : Bd w0.heap.size w0 W qs qr room us d db) => h.lift (fun us hm hu => create_any (nmF nn) (by unfold nmF maxLen; simp) hu hlf))
  have HB := Lib.hid (fun (W : World) (us : List Kt) (da : Fd) (h : Bd w0.heap.size w0 W qs qr room us da d) => h.lift2 (fun us hm hu => rcreate_any (nmF nn) (by unfold nmF maxLen; simp) hu hd hlf))
  obtain ⟨r, hr⟩ : ∃ r, r = (createD d (nmF nn)).1 := ⟨_, rfl⟩
  have hcc := create_c d (nmF nn)
  obtain ⟨d', hd'⟩ : ∃ d', d' = (createD d (nmF nn)).2 := ⟨_, rfl⟩
  rw [← hr] at HA HB hcc
  rw [← hd'] at HA HB ⊢
  have hwr := wrap_c hcc
  obtain ⟨mm, hmm⟩ : ∃ m, m = nn % 9 := ⟨_, rfl⟩
  have hm1 : (nn : Int) % 9 = (mm : Int) := by omega
  obtain ⟨yy, hyy⟩ : ∃ y : UInt8, y = UInt8.ofNat (97 + mm) := ⟨_, rfl⟩
  have hyn : yy.toNat = 97 + mm := by rw [hyy]; show (97 + mm) % 256 = 97 + mm; omega
  have hm2 : IntKind.u8.wrap (97 + (mm : Int)) = (yy.toNat : Int) := by rw [IntKind.wrap_u8, hyn]; omega
  have hnm : nmF nn = [102, yy] := by rw [hyy, hmm]; rfl
  rw [hnm] at HA HB
  have hst : (convert 22 9 (.slice (some ⟨W.heap.size, 0, none⟩) 1 1)).run Tryz.prog (W.alloc (.cells #[.int .u8 (yy.toNat : Int)] 5)) = .ok (.string ⟨#[yy]⟩) (W.alloc (.cells #[.int .u8 (yy.toNat : Int)] 5)) := str_of (OwnB.bs (own_built W [yy] (Nat.zero_le _) (by simp))) 1
  have HG2 := Lib.hid (HG.out.go (below_alloc W (.cells #[.int .u8 (yy.toNat : Int)] 5)))
  have hos : (⟨#[102]⟩ : ByteArray) ++ (⟨#[yy]⟩ : ByteArray) = ⟨#[102, yy]⟩ := rfl
  clear hyy hyn hnm hmm
  clear h hfx hd hn hlf hk hbl hll hkl hr hd' hcc ok1 ok2 ok3 ok4 ok5 ok6 ok7 ok8 ok9 ok10 mT mR
  go_enter Tryz.func13, Tryz.ntmps13
  go_upto_region 1 with fail
  rw [← hW, ← hgq]
  clear hW hgq
  go_upto_region 15 with fail
  go_upto_region 16 with fail
  obtain ⟨W2, hW2⟩ : ∃ W2, W2 = W.alloc (.cells #[.int .u8 (yy.toNat : Int)] 5) := ⟨_, rfl⟩
  rw [← hW2] at HG2 ⊢
  clear hW2 hst hos HG hm1 hm2 C
  obtain ⟨I, hI⟩ : ∃ I : Rec → World → Prop, ∀ E W, I E W ↔ Bd w0.heap.size w0 W qs qr room (thB gq 47 #[.int .u8 (kd : Nat), .slice A bl c, .slice LA ll Lc, .int .u8 (nn : Nat), .slice KA kl kc, .int .i64 to_] :: TS) (pickR (E 5) d d') (pickR (E 12) d d') := ⟨_, fun _ _ => Iff.rfl⟩
  have hI0 : I (fun _ => none) W2.drew := (hI _ _).2 HG2.out.drew
  haveI : Nonempty (InvW I) := ⟨⟨_, _, hI0⟩⟩
  have e1 : ∀ y : InvW I, y.W.cell? ⟨x, 0, none⟩ = some (.pointer (some ⟨qs, 0, none⟩)) := fun y => (show Blk y.W x 34 #[pt qs, pt qr, pt tp, pt up, .string ⟨n.toArray⟩] from ((hI _ _).1 y.h).mem (List.mem_cons_of_mem _ mX)).cell 0
  have e2 : ∀ y : InvW I, y.W.cell? ⟨x, 1, none⟩ = some (.pointer (some ⟨qr, 0, none⟩)) := fun y => (show Blk y.W x 34 #[pt qs, pt qr, pt tp, pt up, .string ⟨n.toArray⟩] from ((hI _ _).1 y.h).mem (List.mem_cons_of_mem _ mX)).cell 1
  have HI := Lib.hid hI
  clear hI mX
  refine wp_region_inv I [] [1, 5, 8, 12] (fun k v => if k = 5 then v = .int .u16 (r : Nat) else if k = 12 then v = .int .i64 (r : Nat) else v = .pointer (some ⟨x, 0, none⟩)) hmx (by kernel_rfl) hI0 ?_
  iterate 1 (refine walkJ_one rfl (by kernel_rfl) ?_; go_big_quiet_step (fail); refine wpQuiet_nil ?_)
  refine walkJ_turn rfl rfl ⟨_, rfl⟩ (fun s W1 hs h7 _ => ?_) ?_
  · refine inv_val (W' := W1) (v := .pointer (some ⟨x, 0, none⟩)) (by simp [execOp, go_sem]) ⟨rfl, (HI.out _ _).2 ?_⟩
    have h := (HI.out _ _).1 hs
    exact h
  rintro v rfl
  conv => arg 11; simp [Act.put]
  iterate 3 (refine walkJ_one rfl (by kernel_rfl) ?_; go_big_quiet_step (fail); refine wpQuiet_nil ?_)
  refine walkJ_turn rfl rfl ⟨_, rfl⟩ (fun s W1 hs h7 _ => ?_) ?_
  · have h := (HI.out _ _).1 hs
    rw [show s 5 = none from h7] at h
    refine inv_call (by simp [execOp, go_sem]) ((HA.out _ _ _ h).mono ?_)
    rintro e w1 ⟨rfl, k⟩
    exact ⟨_, rfl, rfl, (HI.out _ _).2 k⟩
  rintro v rfl
  conv => arg 11; simp [Act.put]
  iterate 2 (refine walkJ_one rfl (by kernel_rfl) ?_; go_big_quiet_step (fail); refine wpQuiet_nil ?_)
  refine walkJ_turn rfl rfl ⟨_, rfl⟩ (fun s W1 hs h7 _ => ?_) ?_
  · refine inv_val (W' := W1) (v := .pointer (some ⟨x, 0, none⟩)) (by simp [execOp, go_sem]) ⟨rfl, (HI.out _ _).2 ?_⟩
    have h := (HI.out _ _).1 hs
    exact h
  rintro v rfl
  conv => arg 11; simp [Act.put]
  iterate 3 (refine walkJ_one rfl (by kernel_rfl) ?_; go_big_quiet_step (fail); refine wpQuiet_nil ?_)
  refine walkJ_turn rfl rfl ⟨_, rfl⟩ (fun s W1 hs h7 _ => ?_) ?_
  · have h := (HI.out _ _).1 hs
    rw [show s 12 = none from h7] at h
    refine inv_call (by simp [execOp, go_sem]) ((HB.out _ _ _ h).mono ?_)
    rintro e w1 ⟨rfl, k⟩
    exact ⟨_, rfl, rfl, (HI.out _ _).2 k⟩
  rintro v rfl
  conv => arg 11; simp [Act.put]
  iterate 2 (refine walkJ_one rfl (by kernel_rfl) ?_; go_big_quiet_step (fail); refine wpQuiet_nil ?_)
  refine walkJ_end ?_
  intro W' hW'
  have HG2 := Lib.hid ((HI.out _ _).1 hW')
  clear e1 e2
  go_wp2_with fail
  go_ret
  exact ⟨rfl, HG2.out.tail⟩

end Go.Proofs.YtiogckgchlnldaaGreat

/- Layer 10: a call on both journals, of any kind. -/
set_option linter.unusedSimpArgs false
set_option linter.unusedVariables false
namespace Go.Proofs.YtiogckgchlnldaaGreat
open Go.RowKit
set_option maxRecDepth 100000

theorem rnew_bad (room : Int) (w : World) (hr : room < 0 ∨ 1048576 < room) :
    Calls Tryz.prog 7 #[.int .i64 room] w fun e w' => e = .returned (.pointer none) ∧ w' = w := by
  by_cases h0 : room < 0
  · have d0 : decide (room < 0) = true := decide_eq_true h0
    clear hr
    go_enter Tryz.func7, Tryz.ntmps7
    go_wp2_with fail
    go_ret
    exact ⟨rfl, rfl⟩
  · have d0 : decide (room < 0) = false := decide_eq_false h0
    have d1 : decide (1048576 < room) = true := decide_eq_true (by omega)
    have n1 : 1048576 < room := by omega
    clear hr
    go_enter Tryz.func7, Tryz.ntmps7
    go_wp2_with fail
    go_ret
    exact ⟨rfl, rfl⟩
theorem rnew_any (room : Nat) (hr : room ≤ 1048576) {B qs : Nat} {w0 w : World} (h : FsI B w0 w qs room [] fd0) :
    Calls Tryz.prog 7 #[.int .i64 (room : Nat)] w fun e w' => ∃ qr, e = .returned (.pointer (some ⟨qr, 0, none⟩)) ∧ Bd B w0 w' qs qr room [] fd0 fd0 := by
  have d0 : decide ((room : Int) < 0) = false := decide_eq_false (by omega)
  have d1 : decide ((1048576 : Int) < (room : Int)) = false := decide_eq_false (by omega)
  have n0 : ¬ (room : Int) < 0 := by omega
  have n1 : ¬ (1048576 : Int) < (room : Int) := by omega
  have hno : ∀ k, (Value.slice none 0 0).ownBlock = some k → w.heap.size ≤ k := fun k e => by simp [Value.ownBlock] at e
  have s1 := h.cons (t := thRP (.slice none 0 0) []) (Below.refl _ _) (OwnR.nil _ _ _ _ _) hno
  have s2 := s1.cons (t := thRF (.slice none 0 0) []) (Below.refl _ _) (OwnR.nil _ _ _ _ _) hno
  have s3 := s2.cons (t := thB w.heap.size 59 (rfc room (.slice none 0 0) (.slice none 0 0) false 0 false)) (below_alloc _ _) (Blk.new _ _ _) (fun k e => by
    have e : k = w.heap.size := e
    omega)
  have HE := Lib.hid (show Bd B w0 (w.alloc (.cells (rfc room (.slice none 0 0) (.slice none 0 0) false 0 false) 59)) qs w.heap.size room [] fd0 fd0 from ⟨.slice none 0 0, .slice none 0 0, [], [], 0, s3, rfl, rfl, fun h => by cases h⟩)
  clear s1 s2 s3 h hr hno
  unfold rfc at HE
  obtain ⟨W, hW⟩ : ∃ W, W = w.alloc (.cells #[.int .i64 (room : Nat), .slice none 0 0, .slice none 0 0, .bool false, .int .i64 ((0 : Nat) : Int), .bool false] 59) := ⟨_, rfl⟩
  rw [← hW] at HE
  go_enter Tryz.func7, Tryz.ntmps7
  go_wp2_with fail
  go_ret
  exact ⟨_, rfl, by first | exact HE.out | (rw [hW] at HE; exact HE.out)⟩


/-- the files behind a call -/
noncomputable def tstep (room : Int) (d : Fd) (n : Nm) (o : OpT) : Fd :=
  if o.kd % 9 = 4 then (syncD d n).2 else if o.kd % 9 = 5 then (swapD room d n (o.L.map Bx.b)).2 else if o.kd % 9 = 6 then haltD d ((o.n % 20 : Nat) : Int)
  else if o.kd % 9 = 7 then (topenD (crashD d (kpt o.kp) o.to_) n).2.2 else if o.kd % 9 = 8 then (createD d (nmF o.n)).2 else (tappendD room d n o.b).2
theorem rm_le {room : Int} {d d' : Fd} (h : Bdd 0 d d') (hr : (usedD d : Int) ≤ room) : (usedD d' : Int) ≤ room := by have := h.us; omega
theorem tstep_keeps {room : Int} {d : Fd} (n : Nm) {o : OpT} (hg : goodT o) (h : Fx d) (hu : usedD d + 6100 ≤ 200000) (hl : d.P.length ≤ 10000) (hr : (usedD d : Int) ≤ room) (hf : d.lf ≤ 20) :
    usedD (tstep room d n o) ≤ usedD d + 6100 ∧ (tstep room d n o).P.length ≤ d.P.length + 10 ∧ (usedD (tstep room d n o) : Int) ≤ room ∧ (tstep room d n o).lf ≤ 20 := by
  obtain ⟨g1, g2, g3, g4⟩ := hg
  have ml : (o.L.map Bx.b).length ≤ 10 := by rw [List.length_map]; exact g2
  have fin : ∀ {d' : Fd} {k : Nat}, Bdd k d d' → k ≤ 10 → (usedD d' : Int) ≤ room → usedD d' ≤ usedD d + 6100 ∧ d'.P.length ≤ d.P.length + 10 ∧ (usedD d' : Int) ≤ room ∧ d'.lf ≤ 20 := fun {d' k} b hk h1 => ⟨by have := b.us; omega, by have := b.pl; omega, h1, by have := b.lf; omega⟩
  unfold tstep
  split
  · exact fin (bd_sync h n) (by omega) (rm_le (bd_sync h n) hr)
  · split
    · exact fin (bd_swap h room n (o.L.map Bx.b) (by omega) (by omega)) ml (rm_swap h n _ (by omega) (by omega) hr)
    · split
      · exact ⟨Nat.le_add_right _ _, Nat.le_add_right _ _, hr, by show ((o.n % 20 : Nat) : Int).toNat ≤ 20; omega⟩
      · split
        · have b := (bd_crash h (kpt o.kp) o.to_).trans (bd_open (bd_crash h (kpt o.kp) o.to_).fx n)
          exact fin b (by omega) (rm_le b hr)
        · split
          · exact fin (bd_create h _) (by omega) (rm_le (bd_create h _) hr)
          · exact fin (bd_tappend h room n o.b (by omega) (by omega)) (by omega) (rm_tappend h n o.b (by omega) (by omega) hr)
/-- both journals stand open, or none -/
def Jd (w0 w : World) (qs qr room x : Nat) (n : Nm) (d : Fd) : Prop := ∃ us,
  (∃ tp up, Bd w0.heap.size w0 w qs qr room (thX x qs qr (pt tp) (pt up) n :: thT tp qs n :: thTr up qr n :: us) d d) ∨ Bd w0.heap.size w0 w qs qr room (thX x qs qr (.pointer none) (.pointer none) n :: us) d d
theorem jd_of {w0 w : World} {qs qr room x : Nat} {n : Nm} {ts : List Kt} {r : Nat × List (List UInt8) × Fd} (h : O2 w0.heap.size w0 qs qr room x n ts r w) : Jd w0 w qs qr room x n r.2.2 := by
  rcases h with ⟨-, h⟩ | ⟨-, tp, up, h⟩
  · exact ⟨_, .inr h⟩
  · exact ⟨_, .inl ⟨tp, up, h⟩⟩
abbrev aggT (o : OpT) : Value := .agg #[.int .u8 (o.kd : Nat), .slice o.A o.b.length o.c, .slice o.LA o.L.length o.Lc, .int .u8 (o.n : Nat), .slice o.KA o.kp.length o.kc, .int .i64 o.to_]
theorem does2_any {qs qr room : Nat} {w0 w : World} {us : List Kt} {d : Fd} (n : Nm) (x tp up : Nat) (o : OpT) (h : Bd w0.heap.size w0 w qs qr room (thX x qs qr (pt tp) (pt up) n :: thT tp qs n :: thTr up qr n :: us) d d) (ho : o.ok w0) (hg : goodT o) (hn : n.length ≤ 99) (hlf : d.lf ≤ 1000000) (hr0 : room ≤ 1048576) (hu0 : usedD d + 6100 ≤ 200000) (hur : usedD d ≤ room) (hpl : d.P.length ≤ 10000) :
    Calls Tryz.prog 13 #[.pointer (some ⟨x, 0, none⟩), aggT o] w fun e w' => e = .returned (.bool true) ∧ Jd w0 w' qs qr room x n (tstep room d n o) := by
  obtain ⟨g1, g2, g3, g4⟩ := hg
  obtain ⟨TS, hTS⟩ : ∃ TS, TS = thX x qs qr (pt tp) (pt up) n :: thT tp qs n :: thTr up qr n :: us := ⟨_, rfl⟩
  have mX : thX x qs qr (pt tp) (pt up) n ∈ TS := by rw [hTS]; exact List.mem_cons_self
  have mT : thT tp qs n ∈ TS := by rw [hTS]; exact List.mem_cons_of_mem _ List.mem_cons_self
  have mR : thTr up qr n ∈ TS := by rw [hTS]; exact List.mem_cons_of_mem _ (List.mem_cons_of_mem _ List.mem_cons_self)
  have h2 := h
  rw [← hTS] at h2
  have fin : ∀ {w' : World} {d' : Fd}, Bd w0.heap.size w0 w' qs qr room TS d' d' → Jd w0 w' qs qr room x n d' := fun {w' d'} b => ⟨us, .inl ⟨tp, up, by rw [← hTS]; exact b⟩⟩
  unfold tstep
  by_cases k4 : o.kd % 9 = 4
  · rw [if_pos k4]
    exact (does2_sync n x tp up o h2 mX mT mR ho hn hlf k4).mono fun e w' ⟨e1, e2⟩ => ⟨e1, fin e2⟩
  · rw [if_neg k4]
    by_cases k5 : o.kd % 9 = 5
    · rw [if_pos k5]
      exact (does2_swap n x tp up o h2 mX mT mR ho hn hlf g4 g2 hr0 hu0 hur hpl k5).mono fun e w' ⟨e1, e2⟩ => ⟨e1, fin e2⟩
    · rw [if_neg k5]
      by_cases k6 : o.kd % 9 = 6
      · rw [if_pos k6]
        exact (does2_halt n x tp up o h2 mX mT mR ho hn hlf k6).mono fun e w' ⟨e1, e2⟩ => ⟨e1, fin e2⟩
      · rw [if_neg k6]
        by_cases k7 : o.kd % 9 = 7
        · rw [if_pos k7]
          exact (does2_crash n x (pt tp) (pt up) o h ho hn hlf g3 k7).mono fun e w' ⟨e1, e2⟩ => ⟨e1, jd_of e2⟩
        · rw [if_neg k7]
          by_cases k8 : o.kd % 9 = 8
          · rw [if_pos k8]
            exact (does2_create n x tp up o h2 mX mT mR ho hn hlf k8).mono fun e w' ⟨e1, e2⟩ => ⟨e1, fin e2⟩
          · rw [if_neg k8]
            exact (does2_app n x tp up o h2 mX mT mR ho hn hlf g1 hr0 hu0 hur hpl (by omega)).mono fun e w' ⟨e1, e2⟩ => ⟨e1, fin e2⟩

end Go.Proofs.YtiogckgchlnldaaGreat

/- Layer 10: walk of TapeDoes. -/
set_option linter.unusedSimpArgs false
set_option linter.unusedVariables false
namespace Go.Proofs.YtiogckgchlnldaaGreat
open Go.RowKit
set_option maxRecDepth 100000

theorem fd0_fx : Fx fd0 := ⟨[], rfl, List.Pairwise.nil, fun t ht => by simp at ht, fun p hp => by simp [fd0] at hp, by simp [fd0], by simp [fd0, usedD], by simp⟩

set_option maxHeartbeats 16000000 in
theorem tapeDoes_walk (room : Int) (n : Nm) (FA : Option Addr) (fc : Nat) (fb : List UInt8) (V : Option Addr) (cv : Nat) (l : List OpT) (w : World) (hn : n.length ≤ maxLen) (hfb : Bc w FA fc fb) (hV : Rw w encOpT 6 V l) (ho : ∀ o ∈ l, o.ok w) :
    Calls Tryz.prog 3 #[.int .i64 room, .string ⟨n.toArray⟩, .slice FA fb.length fc, .slice V l.length cv] w fun e w' => e = .returned (.bool true) ∧ Below w.heap.size w w' := by
  have hmx : Tryz.prog.follows .mixedOrders = true := by kernel_rfl
  have HK := Lib.hid (fun w => fknownT_any w)
  have HH := Lib.hid (heavyT_any V cv l w hV (fun o h => (ho o h).row))
  have hsz : (⟨n.toArray⟩ : ByteArray).size = n.length := by simp [ByteArray.size]
  obtain ⟨m, hm⟩ : ∃ m, m = l.length := ⟨_, rfl⟩
  obtain ⟨fn, hfn⟩ : ∃ m, m = fb.length := ⟨_, rfl⟩
  obtain ⟨nl, hnl⟩ : ∃ m, m = n.length := ⟨_, rfl⟩
  rw [← hm] at HH ⊢
  rw [← hfn]
  rw [← hnl] at hsz hn
  have HL := Lib.hid (And.intro hV (And.intro ho (And.intro hfb (And.intro hm (And.intro hfn (And.intro hnl hn))))))
  clear hV ho hfb hm hfn hnl hn
  go_enter Tryz.func3, Tryz.ntmps3
  go_wp2_with fail
  refine HH.out.mono ?_
  rintro e w1 ⟨r, rfl, rfl, hr⟩
  cases r with
  | true =>
    clear hr
    go_wp2_with fail
    refine (HK.out _).mono ?_
    rintro e w3 ⟨rfl, h3⟩
    have H3 := Lib.hid h3
    clear h3 HK
    go_wp2_with fail
    go_ret
    exact ⟨rfl, H3.out⟩
  | false =>
    have HGd := Lib.hid (hr rfl)
    clear hr HH
    by_cases hn40 : 40 < nl
    · have hd : decide ((40 : Int) < (nl : Int)) = true := decide_eq_true (by omega)
      go_wp2_with fail
      refine (HK.out _).mono ?_
      rintro e w3 ⟨rfl, h3⟩
      have H3 := Lib.hid h3
      clear h3 HK
      go_wp2_with fail
      go_ret
      exact ⟨rfl, H3.out⟩
    · have hd : decide ((40 : Int) < (nl : Int)) = false := decide_eq_false (by omega)
      by_cases hf1 : 1000 < fn
      · have hd2 : decide ((1000 : Int) < (fn : Int)) = true := decide_eq_true (by omega)
        go_wp2_with fail
        refine (HK.out _).mono ?_
        rintro e w3 ⟨rfl, h3⟩
        have H3 := Lib.hid h3
        clear h3 HK
        go_wp2_with fail
        go_ret
        exact ⟨rfl, H3.out⟩
      · have hd2 : decide ((1000 : Int) < (fn : Int)) = false := decide_eq_false (by omega)
        have HLn := Lib.hid (show nl ≤ 40 ∧ fn ≤ 1000 by omega)
        clear hn40 hf1
        go_wp2_with fail
        refine (HK.out _).mono ?_
        rintro e w2 ⟨rfl, h2⟩
        have H2 := Lib.hid h2
        clear h2 HK hd hd2
        by_cases hr : room < 0 ∨ 1048576 < room
        · have HN := Lib.hid (fun w => new_bad room w hr)
          have HR := Lib.hid (fun w => rnew_bad room w hr)
          clear hr
          obtain ⟨W5, hW5⟩ : ∃ W, W = w2.alloc (.cells #[.pointer none, .pointer none, .pointer none, .pointer none, .string ⟨n.toArray⟩] 34) := ⟨_, rfl⟩
          obtain ⟨x, hx⟩ : ∃ x, x = w2.heap.size := ⟨_, rfl⟩
          have bX := Blk.new w2 34 #[.pointer none, .pointer none, .pointer none, .pointer none, .string ⟨n.toArray⟩]
          rw [← hW5, ← hx] at bX
          have C := fbsays bX
          simp only [cellsSay, Nat.reduceAdd, and_true] at C
          have H5 := Lib.hid (show Below w1.heap.size w1 W5 by rw [hW5]; exact H2.out.alloc H2.out.size _)
          clear bX H2
          go_wp2_with fail
          refine (HN.out w2).mono ?_
          rintro e w3 ⟨rfl, hw⟩
          rw [hw]
          clear hw HN
          go_wp2_with fail
          refine (HR.out w2).mono ?_
          rintro e w3 ⟨rfl, hw⟩
          rw [hw]
          clear hw HR
          go_upto_region 4 with fail
          rw [← hW5, ← hx]
          clear hW5 hx
          go_wp2_with fail
          go_ret
          exact ⟨rfl, H5.out⟩
        · obtain ⟨room, rfl⟩ := Int.eq_ofNat_of_zero_le (show 0 ≤ room by omega)
          have hr0 : room ≤ 1048576 := by omega
          have HC := Lib.hid (new_any (Sep.nil H2.out H2.out.size) room hr0)
          have Hr := Lib.hid hr0
          clear hr hr0 H2
          go_wp2_with fail
          refine HC.out.mono ?_
          rintro e w3 ⟨q, rfl, h3⟩
          have HR := Lib.hid (rnew_any room Hr.out h3)
          clear h3 HC
          go_wp2_with fail
          refine HR.out.mono ?_
          rintro e w4 ⟨qr, rfl, h4⟩
          obtain ⟨W5, hW5⟩ : ∃ W, W = w4.alloc (.cells #[.pointer (some ⟨q, 0, none⟩), .pointer (some ⟨qr, 0, none⟩), .pointer none, .pointer none, .string ⟨n.toArray⟩] 34) := ⟨_, rfl⟩
          obtain ⟨x, hx⟩ : ∃ x, x = w4.heap.size := ⟨_, rfl⟩
          have h5 : Bd w1.heap.size w1 W5 q qr room [thX x q qr (.pointer none) (.pointer none) n] fd0 fd0 := by
            rw [hW5, hx]
            exact h4.box #[.pointer (some ⟨q, 0, none⟩), .pointer (some ⟨qr, 0, none⟩), .pointer none, .pointer none, .string ⟨n.toArray⟩] 34
          have C := fbsays (h5.blk 0)
          simp only [cellsSay, pt, Nat.reduceAdd, and_true] at C
          have hnn : n.length ≤ maxLen := by rw [← HL.out.2.2.2.2.2.1]; exact HL.out.2.2.2.2.2.2
          have hfb := HL.out.2.2.1
          have b1 := bd_create fd0_fx n
          have hA := Lib.hid (h5.lift (fun us _ hu => create_any n hnn hu (by decide)))
          have hC := Lib.hid (fun (W : World) (ts : List Kt) (da : Fd) (h : Bd w1.heap.size w1 W q qr room ts da fd0) => h.lift2 (fun us _ hu => rcreate_any n hnn hu fd0_fx.db (by decide)))
          obtain ⟨d1, hd1⟩ : ∃ d1, d1 = (createD fd0 n).2 := ⟨_, rfl⟩
          rw [← hd1] at hA hC b1
          have u1 : usedD d1 ≤ 0 := b1.us
          have l1 : d1.lf ≤ 0 := b1.lf
          have p1 : d1.P.length ≤ 0 := b1.pl
          have hfl : fb.length ≤ 1000 := by rw [← HL.out.2.2.2.2.1]; exact HLn.out.2
          have hB := Lib.hid (fun (W : World) (ts : List Kt) (db : Fd) (h : Bd w1.heap.size w1 W q qr room ts d1 db) => h.lift (fun us _ hu => append_any n hnn FA fc fb hu (by omega) Hr.out (fun W d' hs => hfb.1.below hs.b) (by omega) (by omega) (by omega)))
          have hD := Lib.hid (fun (W : World) (ts : List Kt) (da : Fd) (h : Bd w1.heap.size w1 W q qr room ts da d1) => h.lift2 (fun us _ hu => rappend_any n hnn FA fc fb hu b1.fx.db (by omega) Hr.out (fun W d' hs => hfb.1.below hs.b) (by omega) (by omega) (by omega)))
          have x2 := fx_append b1.fx (room : Int) n fb (by omega) (by omega)
          have u2 := ux_append b1.fx (room : Int) n fb (by omega) (by omega)
          have p2 := lp_append (room : Int) d1 n fb
          obtain ⟨T1, hT1⟩ := b1.fx
          have r2 := append_room (room := (room : Int)) (n := n) (b := fb) hT1 (by omega) (by omega) (by omega)
          obtain ⟨d2, hd2⟩ : ∃ d2, d2 = (appendD (room : Int) d1 n fb).2 := ⟨_, rfl⟩
          rw [← hd2] at hB hD x2 u2 p2 r2
          rw [← HL.out.2.2.2.2.1] at hB hD
          have hO := Lib.hid (fun (W : World) (ts : List Kt) (h : Bd w1.heap.size w1 W q qr room (thX x q qr (.pointer none) (.pointer none) n :: ts) d2 d2) => open2_any n x _ _ h (by have := HL.out.2.2.2.2.2.1; have := HLn.out.1; omega) (by have := p2.1; omega))
          have b2 := bd_open x2 n
          obtain ⟨rr, hrr⟩ : ∃ r, r = topenD d2 n := ⟨_, rfl⟩
          rw [← hrr] at hO b2
          have HD : Hid (usedD rr.2.2 ≤ 1000 ∧ usedD rr.2.2 ≤ room ∧ rr.2.2.P.length ≤ 1 ∧ rr.2.2.lf ≤ 20) := Lib.hid ⟨by have := b2.us; omega, by have := b2.us; omega, by have := b2.pl; have := p2.2; omega, by have := b2.lf; have := p2.1; omega⟩
          clear h4 h5 hnn hfb b1 hd1 u1 l1 p1 hfl x2 u2 p2 hT1 r2 hd2 b2 hrr HR T1
          go_upto_region 4 with fail
          rw [← hW5, ← hx]
          clear hW5 hx
          go_wp2_with fail
          refine hA.out.mono ?_
          rintro e w6 ⟨rfl, h6⟩
          have HC1 := Lib.hid (hB.out _ _ _ h6)
          have C := fbsays (h6.blk 0)
          simp only [cellsSay, pt, Nat.reduceAdd, and_true] at C
          clear h6 hA hB
          go_wp2_with fail
          refine HC1.out.mono ?_
          rintro e w7 ⟨rfl, h7⟩
          have HC2 := Lib.hid (hC.out _ _ _ h7)
          have C := fbsays (h7.blk 0)
          simp only [cellsSay, pt, Nat.reduceAdd, and_true] at C
          clear h7 hC HC1
          go_wp2_with fail
          refine HC2.out.mono ?_
          rintro e w8 ⟨rfl, h8⟩
          have HC1 := Lib.hid (hD.out _ _ _ h8)
          have C := fbsays (h8.blk 0)
          simp only [cellsSay, pt, Nat.reduceAdd, and_true] at C
          clear h8 hD HC2
          go_wp2_with fail
          refine HC1.out.mono ?_
          rintro e w9 ⟨rfl, h9⟩
          have HC2 := Lib.hid (hO.out _ _ h9)
          clear h9 hO HC1 C
          go_wp2_with fail
          refine HC2.out.mono ?_
          rintro e w10 ⟨rfl, h10⟩
          rcases h10 with ⟨-, h10⟩ | ⟨-, tp, up, h10⟩
          · have C := fbsays (h10.blk 0)
            simp only [cellsSay, pt, Nat.reduceAdd, and_true] at C
            have HB := Lib.hid h10.b
            clear h10 HC2
            go_wp2_with fail
            go_ret
            exact ⟨rfl, HB.out⟩
          · have C := fbsays (h10.blk 0)
            simp only [cellsSay, pt, Nat.reduceAdd, and_true] at C
            have HI : Hid (∃ d us tp up, Bd w1.heap.size w1 w10 q qr room (thX x q qr (pt tp) (pt up) n :: thT tp q n :: thTr up qr n :: us) d d ∧ usedD d ≤ 1000 + 6100 * 0 ∧ usedD d ≤ room ∧ d.P.length ≤ 1 + 10 * 0 ∧ d.lf ≤ 20) := Lib.hid ⟨_, _, tp, up, h10, HD.out⟩
            clear h10 HC2 HD
            go_wp2_with fail
            go_loopw [11] (fun s wr => ∃ k : Nat, k ≤ m ∧ s = .int .i64 k ∧ Hid (∃ d us tp up, Bd w1.heap.size w1 wr q qr room (thX x q qr (pt tp) (pt up) n :: thT tp q n :: thTr up qr n :: us) d d ∧ usedD d ≤ 1000 + 6100 * k ∧ usedD d ≤ room ∧ d.P.length ≤ 1 + 10 * k ∧ d.lf ≤ 20)) (fun s _ => m - (intOf s).toNat)
            case atStart => exact ⟨0, Nat.zero_le _, rfl, HI⟩
            case round =>
              obtain ⟨k, hkm, rfl, HR⟩ := hrel
              clear HI C
              have hm30 : m ≤ 30 := by rw [HL.out.2.2.2.1]; exact HGd.out.1
              by_cases hlt : k < m
              · obtain ⟨o, hx⟩ : ∃ x, l[k]? = some x := ⟨_, List.getElem?_eq_getElem (by rw [← HL.out.2.2.2.1]; exact hlt)⟩
                obtain ⟨d, us, tp, up, r1, r2, r3, r4, r5⟩ := HR.out
                obtain ⟨p, f, rfl, hc⟩ := HL.out.1 k o hx
                have hom := List.mem_of_getElem? hx
                have hkl : (k : Int) < (m : Int) := by omega
                have hk0 : (0 : Int) ≤ (k : Int) := by omega
                have hk2 := tstep_keeps (room := (room : Int)) (o := o) n (HGd.out.2 o hom) r1.fx (by omega) (by omega) (by omega) r5
                have hn9 : n.length ≤ 99 := by have := HL.out.2.2.2.2.2.1; have := HLn.out.1; omega
                have HC := Lib.hid (does2_any n x tp up o r1 (HL.out.2.1 o hom) (HGd.out.2 o hom) hn9 (by omega) Hr.out (by omega) r3 (by omega))
                obtain ⟨d', hd'⟩ : ∃ d', d' = tstep (room : Int) d n o := ⟨_, rfl⟩
                rw [← hd'] at HC hk2
                have e1 : wr.cell? ⟨p, f + k * 6, none⟩ = some (.int .u8 (o.kd : Nat)) := r1.old (Nat.le_refl _) (hc 0 _ rfl)
                have e2 : wr.cell? ⟨p, f + k * 6 + 1, none⟩ = some (.slice o.A o.b.length o.c) := r1.old (Nat.le_refl _) (hc 1 _ rfl)
                have e3 : wr.cell? ⟨p, f + k * 6 + 2, none⟩ = some (.slice o.LA o.L.length o.Lc) := r1.old (Nat.le_refl _) (hc 2 _ rfl)
                have e4 : wr.cell? ⟨p, f + k * 6 + 3, none⟩ = some (.int .u8 (o.n : Nat)) := r1.old (Nat.le_refl _) (hc 3 _ rfl)
                have e5 : wr.cell? ⟨p, f + k * 6 + 4, none⟩ = some (.slice o.KA o.kp.length o.kc) := r1.old (Nat.le_refl _) (hc 4 _ rfl)
                have e6 : wr.cell? ⟨p, f + k * 6 + 5, none⟩ = some (.int .i64 o.to_) := r1.old (Nat.le_refl _) (hc 5 _ rfl)
                have HN := Lib.hid (show usedD d' ≤ 1000 + 6100 * (k + 1) ∧ usedD d' ≤ room ∧ d'.P.length ≤ 1 + 10 * (k + 1) ∧ d'.lf ≤ 20 from ⟨by have := hk2.1; omega, by have := hk2.2.2.1; omega, by have := hk2.2.1; omega, hk2.2.2.2⟩)
                clear r1 r2 r3 r4 r5 HR hc hx hom hk2 hd' hn9 us
                go_wp2_with fail
                refine HC.out.mono ?_
                rintro e w5 ⟨rfl, us, h5⟩
                rcases h5 with ⟨tp, up, h5⟩ | h5
                all_goals
                  have H5 := Lib.hid h5
                  have hp := plus_cell w5
                  have C := fbsays (h5.blk 0)
                  simp only [cellsSay, pt, Nat.reduceAdd, and_true] at C
                  have HS := Lib.hid (fun (y : More) => fsame_any (h5.go (plus_below w5 y)))
                  clear h5 HC e1 e2 e3 e4 e5 e6
                  go_wp2_with fail
                  refine wp_region_tail_ext 11 (by kernel_rfl) (by kernel_rfl) ?_
                  simp only [List.take_succ_cons, List.take_zero, List.drop_succ_cons, List.drop_zero]
                  repeat (go_big_quiet_step (fail))
                  refine wpQuiet_nil ?_
                  rintro w2 ⟨y, rfl⟩
                  have HC2 := Lib.hid (And.intro (HS.out y) (H5.out.go (plus_below w5 y)))
                  clear HS hp C H5
                  go_wp2_with fail
                  refine HC2.out.1.mono ?_
                  rintro e w6 ⟨rfl, h6⟩
                  have H6 := Lib.hid (HC2.out.2.go h6)
                  have C := fbsays (H6.out.blk 0)
                  simp only [cellsSay, pt, Nat.reduceAdd, and_true] at C
                  clear h6 HC2
                · go_wp2_with fail
                  go_roundw
                  case measure => simp [intOf]; omega
                  case rel => exact ⟨k + 1, by omega, by go_num, Lib.hid ⟨d', us, tp, up, H6.out, HN.out⟩⟩
                · go_wp2_with fail
                  go_ret
                  exact ⟨rfl, H6.out.b⟩
              · obtain rfl : k = m := by omega
                have hkk : ¬ ((k : Int) < (k : Int)) := by omega
                obtain ⟨d, us, tp, up, r1, r2⟩ := HR.out
                have H5 := Lib.hid r1
                have hp := plus_cell wr
                have C := fbsays (r1.blk 0)
                simp only [cellsSay, pt, Nat.reduceAdd, and_true] at C
                have HS := Lib.hid (fun (y : More) => fsame_any (r1.go (plus_below wr y)))
                clear r1 r2 HR
                go_wp2_with fail
                refine wp_region_tail_ext 8 (by kernel_rfl) (by kernel_rfl) ?_
                simp only [List.take_succ_cons, List.take_zero, List.drop_succ_cons, List.drop_zero]
                repeat (go_big_quiet_step (fail))
                refine wpQuiet_nil ?_
                rintro w2 ⟨y, rfl⟩
                have HC2 := Lib.hid (And.intro (HS.out y) (H5.out.go (plus_below wr y)))
                clear HS hp C H5
                go_wp2_with fail
                refine HC2.out.1.mono ?_
                rintro e w6 ⟨rfl, h6⟩
                have H6 := Lib.hid (HC2.out.2.go h6)
                clear h6 HC2
                go_wp2_with fail
                go_ret
                exact ⟨rfl, H6.out.b⟩

end Go.Proofs.YtiogckgchlnldaaGreat
