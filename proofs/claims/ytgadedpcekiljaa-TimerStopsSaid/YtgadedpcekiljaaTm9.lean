/- Layer 14: the law's call on both sides: Due. -/
import Derived.Test.YtgadedpcekiljaaTm8
set_option linter.unusedSimpArgs false
set_option linter.unusedVariables false
namespace Go.Proofs.Ytgadedpcekiljaa
open Go.RowKit
set_option maxRecDepth 100000

/-- what stands while both are asked: what has been handed out lies among the things ls -/
def DI (B : Nat) (w0 : World) (tq tk rq rk : Nat) (M L : List (Nat × Nat × Nat)) (now : Nat) (us : List Kt) (E : Rec) (W : World) : Prop :=
  ∃ (M1 : List (Nat × Nat × Nat)) (ls : List Kt), Tb B w0 W tq tk M1 rq rk (pickT (E 7) L (L.map (dueR rk now))) (ls ++ us) ∧ (E 3 = none → M1 = M) ∧
    (∀ v, E 3 = some v → (∃ l, thR 24 encU 1 v l ∈ ls ∧ OutU M now l ∧ l.length ≤ 1000000) ∧ (∀ j, lookM M1 j = (lookM M j).map (dueC tk now)) ∧ M1.length ≤ M.length) ∧
    (∀ v, E 7 = some v → thR 24 encU 1 v (outR now L) ∈ ls)
set_option maxHeartbeats 4000000 in
theorem does_due4 {B : Nat} {w0 w : World} {tq tk rq rk : Nat} {M L : List (Nat × Nat × Nat)} {ts : List Kt} {o : OT} {k : Nat} (h : Tb B w0 w tq tk M rq rk L ts) (hb : Bt k M L tk rk) (hs : o.se < 4294967296) (hn : o.now < 18446744073709551616) (hk : o.kd % 6 = 4) :
    Calls Try.prog 9 #[.pointer (some ⟨tq, 0, none⟩), .pointer (some ⟨rq, 0, none⟩), .agg (celT o)] w (DsOut B w0 tq tk rq rk ts M L o) := by
  have hmx : Try.prog.follows .mixedOrders = true := by kernel_rfl
  have f0 : (o.kd : Int) % 6 = 4 := by omega
  obtain ⟨W, hW⟩ : ∃ W, W = w.alloc (.cells (celT o) 33) := ⟨_, rfl⟩
  have HG := Lib.hid (h.box (celT o) 33)
  rw [← hW] at HG
  obtain ⟨g, hg⟩ : ∃ g, g = w.heap.size := ⟨_, rfl⟩
  rw [← hg] at HG
  have C : cellsSay W g 0 (celT o).toList := cells_say (HG.out.get (t := thB g 33 (celT o)) (by simp)) _ 0 rfl
  simp only [celT, cellsSay, Nat.reduceAdd, and_true] at C
  have HB := Lib.hid (And.intro hb (And.intro hs (And.intro hn hk)))
  have hlk : k ≤ 1000 := hb.k
  obtain ⟨kd, se, now⟩ := o
  simp only at f0 C
  unfold celT at hW ⊢
  simp only at hW ⊢
  clear h hb hs hn hk
  go_enter Try.func9, Try.ntmps9
  go_upto_region 1 with fail
  rw [← hW]
  rw [← hg]
  clear hW hg
  go_upto_region 10 with fail
  obtain ⟨us, hus⟩ : ∃ us, us = thB g 33 (celT ⟨kd, se, now⟩) :: ts := ⟨_, rfl⟩
  obtain ⟨I, hI⟩ : ∃ I : Rec → World → Prop, ∀ E W, I E W ↔ DI B w0 tq tk rq rk M L now us E W := ⟨_, fun _ _ => Iff.rfl⟩
  have hget : ∀ x : InvW I, Blk x.W g 33 (celT ⟨kd, se, now⟩) := fun x => by
    obtain ⟨M1, ls, h1, -⟩ := (hI _ _).1 x.h
    exact h1.get (t := thB g 33 (celT ⟨kd, se, now⟩)) (by rw [hus]; simp)
  have hI0 : I (fun _ => none) W.drew := (hI _ _).2 ⟨M, [], by rw [hus]; exact HG.out.go (Below.refl _ _).drew, fun _ => rfl, fun v e => (by cases e), fun v e => (by cases e)⟩
  haveI : Nonempty (InvW I) := ⟨⟨_, _, hI0⟩⟩
  have e2 : ∀ x : InvW I, x.W.cell? ⟨g, 2, none⟩ = some (.int .u64 ((now : Nat) : Int)) := fun x => (hget x).cell 2
  have HI := Lib.hid (And.intro hI hus)
  clear hI C hget hus
  refine wp_region_inv I [[], [], [], [], [], [], [], [], [3, 7]] [3, 7, 8] (fun k v => k = 8 → ∃ r : Bool, v = .bool r ∧ (RelT (lookM M) L → tk = rk → r = true)) hmx (by kernel_rfl) hI0 ?_
  iterate 3 (refine walkJ_one rfl (by kernel_rfl) ?_; go_big_quiet_step (fail); refine wpQuiet_nil ?_)
  refine walkJ_turn rfl rfl ⟨undef, fun e => (by cases e)⟩ (fun s W1 hs h7 _ => ?_) ?_
  · obtain ⟨M1, ls, h1, h2, h3, h4⟩ := (HI.out.1 _ _).1 hs
    have h7' : s 3 = none := h7
    rw [h2 h7'] at h1
    obtain ⟨A, n, c, hnl, hT⟩ := h1.asTm
    refine inv_call (by simp [execOp, go_sem]) ((tdue_any hT now HB.out.2.2.1 HB.out.1.tk (by have := HB.out.1.ml; omega) HB.out.1.mt).mono ?_)
    rintro e w1 ⟨v, l, M2, rfl, k1, k2, k3, k4, k5⟩
    refine ⟨v, rfl, fun e => (by cases e), (HI.out.1 _ _).2 ⟨M2, thR 24 encU 1 v l :: ls, ?_, fun e => (by cases e), fun u hu => ?_, fun u hu => ?_⟩⟩
    · obtain ⟨b, k6⟩ := k1
      have k8 := srt_perm k6 (show (bxP tk b tq :: thMu alV b M2 :: thR 24 encU 1 v l :: bxR rk A n c rq :: rwR A n c (pickT (s 7) L (L.map (dueR rk now))) :: (ls ++ us)).Perm (bxP tk b tq :: thMu alV b M2 :: bxR rk A n c rq :: rwR A n c (pickT (s 7) L (L.map (dueR rk now))) :: thR 24 encU 1 v l :: (ls ++ us)) from (((List.Perm.swap _ _ _).trans ((List.Perm.swap _ _ _).cons _)).cons _).cons _)
      exact ⟨b, A, n, c, hnl, k8⟩
    · obtain rfl : v = u := Option.some.inj hu
      exact ⟨⟨l, List.mem_cons_self, k2, by have := HB.out.1.ml; omega⟩, k3, by rw [keys_len k4]; exact Nat.le_refl _⟩
    · exact List.mem_cons_of_mem _ (h4 u hu)
  rintro v3 hv3
  conv => arg 11; simp [Act.put]
  iterate 3 (refine walkJ_one rfl (by kernel_rfl) ?_; go_big_quiet_step (fail); refine wpQuiet_nil ?_)
  refine walkJ_turn rfl rfl ⟨undef, fun e => (by cases e)⟩ (fun s W1 hs h7 _ => ?_) ?_
  · obtain ⟨M1, ls, h1, h2, h3, h4⟩ := (HI.out.1 _ _).1 hs
    have h7' : s 7 = none := h7
    rw [h7'] at h1
    obtain ⟨b, hR⟩ := h1.asRt
    refine inv_call (by simp [execOp, go_sem]) ((rtdue_any hR now HB.out.2.2.1 HB.out.1.rk (by have := HB.out.1.ll; show L.length ≤ _; omega) (fun y hy => by have := HB.out.1.lt y hy; omega)).mono ?_)
    rintro e w1 ⟨v, rfl, k1⟩
    refine ⟨v, rfl, fun e => (by cases e), (HI.out.1 _ _).2 ⟨M1, thR 24 encU 1 v (outR now L) :: ls, ?_, fun e => h2 e, fun u hu => ?_, fun u hu => ?_⟩⟩
    · have k2 : Rt B w0 w1 rq rk (L.map (dueR rk now)) (bxP tk b tq :: thMu alV b M1 :: thR 24 encU 1 v (outR now L) :: (ls ++ us)) := by
        obtain ⟨A, n, c, k3, k4⟩ := k1
        exact ⟨A, n, c, k3, srt_perm k4 ((((List.Perm.swap _ _ _).trans ((List.Perm.swap _ _ _).cons _)).cons _).cons _)⟩
      exact Tb.ofRt k2
    · obtain ⟨⟨l, g1, g2⟩, g3⟩ := h3 u hu
      exact ⟨⟨l, List.mem_cons_of_mem _ g1, g2⟩, g3⟩
    · obtain rfl : v = u := Option.some.inj hu
      exact List.mem_cons_self
  rintro v7 hv7
  conv => arg 11; simp [Act.put]
  refine walkJ_turn rfl rfl ⟨.bool true, fun _ => ⟨true, rfl, fun _ _ => rfl⟩⟩ (fun s W1 hs h7 hch => ?_) ?_
  · obtain ⟨M1, ls, h1, h2, h3, h4⟩ := (HI.out.1 _ _).1 hs
    have c3 : s 3 = some v3 := by have := hch 3 (by decide); rw [this]; rfl
    have c7 : s 7 = some v7 := by have := hch 7 (by decide); rw [this]; rfl
    obtain ⟨⟨l, g1, g2, g5⟩, g3, g4⟩ := h3 _ c3
    have o1 : OwnR W1 0 24 encU 1 v3 l := h1.get (t := thR 24 encU 1 v3 l) (by simp [g1])
    have o2 : OwnR W1 0 24 encU 1 v7 (outR now L) := h1.get (t := thR 24 encU 1 v7 (outR now L)) (by simp [h4 _ c7])
    refine inv_call (by simp [execOp, go_sem]) ((words_any o1 o2 g5 (by have := outR_len now L; have := HB.out.1.ll; omega)).mono ?_)
    rintro e w1 ⟨r, rfl, k1, k2⟩
    exact ⟨_, rfl, fun _ => ⟨r, rfl, fun hr _ => k1 (out_eq hr g2)⟩, (HI.out.1 _ _).2 ⟨M1, ls, h1.go k2, h2, h3, h4⟩⟩
  rintro v8 hv8
  obtain ⟨r, rfl, hr⟩ := hv8 rfl
  conv => arg 11; simp [Act.put]
  iterate 1 (refine walkJ_one rfl (by kernel_rfl) ?_; go_big_quiet_step (fail); refine wpQuiet_nil ?_)
  refine walkJ_end ?_
  intro W' hW'
  have HG2 := Lib.hid (And.intro ((HI.out.1 _ _).1 hW') hr)
  clear e2 hr hv3 hv7 hv8
  go_wp2_with fail
  go_ret
  obtain ⟨⟨M1, ls, h1, h2, h3, h4⟩, h5⟩ := HG2.out
  obtain ⟨⟨l, g1, g2, g5⟩, g3, g4⟩ := h3 v3 rfl
  have h9 : kd % 6 = 4 := HB.out.2.2.2
  refine ⟨r, M1, L.map (dueR rk now), rfl, ?_, fun j => ?_, Nat.le_succ_of_le g4, ?_, h5⟩
  · rw [HI.out.2] at h1
    exact h1.sub ((List.sublist_cons_self _ ts).trans (List.sublist_append_right ls _))
  · unfold stepF
    rw [if_neg (by rw [h9]; decide), if_neg (by rw [h9]; decide), if_pos (by rw [h9]; decide)]
    exact g3 j
  · unfold stepR
    rw [if_neg (by rw [h9]; decide), if_neg (by rw [h9]; decide), if_pos (by rw [h9]; decide)]
set_option maxHeartbeats 4000000 in
theorem does_due5 {B : Nat} {w0 w : World} {tq tk rq rk : Nat} {M L : List (Nat × Nat × Nat)} {ts : List Kt} {o : OT} {k : Nat} (h : Tb B w0 w tq tk M rq rk L ts) (hb : Bt k M L tk rk) (hs : o.se < 4294967296) (hn : o.now < 18446744073709551616) (hk : o.kd % 6 = 5) :
    Calls Try.prog 9 #[.pointer (some ⟨tq, 0, none⟩), .pointer (some ⟨rq, 0, none⟩), .agg (celT o)] w (DsOut B w0 tq tk rq rk ts M L o) := by
  have hmx : Try.prog.follows .mixedOrders = true := by kernel_rfl
  have f0 : (o.kd : Int) % 6 = 5 := by omega
  obtain ⟨W, hW⟩ : ∃ W, W = w.alloc (.cells (celT o) 33) := ⟨_, rfl⟩
  have HG := Lib.hid (h.box (celT o) 33)
  rw [← hW] at HG
  obtain ⟨g, hg⟩ : ∃ g, g = w.heap.size := ⟨_, rfl⟩
  rw [← hg] at HG
  have C : cellsSay W g 0 (celT o).toList := cells_say (HG.out.get (t := thB g 33 (celT o)) (by simp)) _ 0 rfl
  simp only [celT, cellsSay, Nat.reduceAdd, and_true] at C
  have HB := Lib.hid (And.intro hb (And.intro hs (And.intro hn hk)))
  have hlk : k ≤ 1000 := hb.k
  obtain ⟨kd, se, now⟩ := o
  simp only at f0 C
  unfold celT at hW ⊢
  simp only at hW ⊢
  clear h hb hs hn hk
  go_enter Try.func9, Try.ntmps9
  go_upto_region 1 with fail
  rw [← hW]
  rw [← hg]
  clear hW hg
  go_upto_region 10 with fail
  obtain ⟨us, hus⟩ : ∃ us, us = thB g 33 (celT ⟨kd, se, now⟩) :: ts := ⟨_, rfl⟩
  obtain ⟨I, hI⟩ : ∃ I : Rec → World → Prop, ∀ E W, I E W ↔ DI B w0 tq tk rq rk M L now us E W := ⟨_, fun _ _ => Iff.rfl⟩
  have hget : ∀ x : InvW I, Blk x.W g 33 (celT ⟨kd, se, now⟩) := fun x => by
    obtain ⟨M1, ls, h1, -⟩ := (hI _ _).1 x.h
    exact h1.get (t := thB g 33 (celT ⟨kd, se, now⟩)) (by rw [hus]; simp)
  have hI0 : I (fun _ => none) W.drew := (hI _ _).2 ⟨M, [], by rw [hus]; exact HG.out.go (Below.refl _ _).drew, fun _ => rfl, fun v e => (by cases e), fun v e => (by cases e)⟩
  haveI : Nonempty (InvW I) := ⟨⟨_, _, hI0⟩⟩
  have e2 : ∀ x : InvW I, x.W.cell? ⟨g, 2, none⟩ = some (.int .u64 ((now : Nat) : Int)) := fun x => (hget x).cell 2
  have HI := Lib.hid (And.intro hI hus)
  clear hI C hget hus
  refine wp_region_inv I [[], [], [], [], [], [], [], [], [3, 7]] [3, 7, 8] (fun k v => k = 8 → ∃ r : Bool, v = .bool r ∧ (RelT (lookM M) L → tk = rk → r = true)) hmx (by kernel_rfl) hI0 ?_
  iterate 3 (refine walkJ_one rfl (by kernel_rfl) ?_; go_big_quiet_step (fail); refine wpQuiet_nil ?_)
  refine walkJ_turn rfl rfl ⟨undef, fun e => (by cases e)⟩ (fun s W1 hs h7 _ => ?_) ?_
  · obtain ⟨M1, ls, h1, h2, h3, h4⟩ := (HI.out.1 _ _).1 hs
    have h7' : s 3 = none := h7
    rw [h2 h7'] at h1
    obtain ⟨A, n, c, hnl, hT⟩ := h1.asTm
    refine inv_call (by simp [execOp, go_sem]) ((tdue_any hT now HB.out.2.2.1 HB.out.1.tk (by have := HB.out.1.ml; omega) HB.out.1.mt).mono ?_)
    rintro e w1 ⟨v, l, M2, rfl, k1, k2, k3, k4, k5⟩
    refine ⟨v, rfl, fun e => (by cases e), (HI.out.1 _ _).2 ⟨M2, thR 24 encU 1 v l :: ls, ?_, fun e => (by cases e), fun u hu => ?_, fun u hu => ?_⟩⟩
    · obtain ⟨b, k6⟩ := k1
      have k8 := srt_perm k6 (show (bxP tk b tq :: thMu alV b M2 :: thR 24 encU 1 v l :: bxR rk A n c rq :: rwR A n c (pickT (s 7) L (L.map (dueR rk now))) :: (ls ++ us)).Perm (bxP tk b tq :: thMu alV b M2 :: bxR rk A n c rq :: rwR A n c (pickT (s 7) L (L.map (dueR rk now))) :: thR 24 encU 1 v l :: (ls ++ us)) from (((List.Perm.swap _ _ _).trans ((List.Perm.swap _ _ _).cons _)).cons _).cons _)
      exact ⟨b, A, n, c, hnl, k8⟩
    · obtain rfl : v = u := Option.some.inj hu
      exact ⟨⟨l, List.mem_cons_self, k2, by have := HB.out.1.ml; omega⟩, k3, by rw [keys_len k4]; exact Nat.le_refl _⟩
    · exact List.mem_cons_of_mem _ (h4 u hu)
  rintro v3 hv3
  conv => arg 11; simp [Act.put]
  iterate 3 (refine walkJ_one rfl (by kernel_rfl) ?_; go_big_quiet_step (fail); refine wpQuiet_nil ?_)
  refine walkJ_turn rfl rfl ⟨undef, fun e => (by cases e)⟩ (fun s W1 hs h7 _ => ?_) ?_
  · obtain ⟨M1, ls, h1, h2, h3, h4⟩ := (HI.out.1 _ _).1 hs
    have h7' : s 7 = none := h7
    rw [h7'] at h1
    obtain ⟨b, hR⟩ := h1.asRt
    refine inv_call (by simp [execOp, go_sem]) ((rtdue_any hR now HB.out.2.2.1 HB.out.1.rk (by have := HB.out.1.ll; show L.length ≤ _; omega) (fun y hy => by have := HB.out.1.lt y hy; omega)).mono ?_)
    rintro e w1 ⟨v, rfl, k1⟩
    refine ⟨v, rfl, fun e => (by cases e), (HI.out.1 _ _).2 ⟨M1, thR 24 encU 1 v (outR now L) :: ls, ?_, fun e => h2 e, fun u hu => ?_, fun u hu => ?_⟩⟩
    · have k2 : Rt B w0 w1 rq rk (L.map (dueR rk now)) (bxP tk b tq :: thMu alV b M1 :: thR 24 encU 1 v (outR now L) :: (ls ++ us)) := by
        obtain ⟨A, n, c, k3, k4⟩ := k1
        exact ⟨A, n, c, k3, srt_perm k4 ((((List.Perm.swap _ _ _).trans ((List.Perm.swap _ _ _).cons _)).cons _).cons _)⟩
      exact Tb.ofRt k2
    · obtain ⟨⟨l, g1, g2⟩, g3⟩ := h3 u hu
      exact ⟨⟨l, List.mem_cons_of_mem _ g1, g2⟩, g3⟩
    · obtain rfl : v = u := Option.some.inj hu
      exact List.mem_cons_self
  rintro v7 hv7
  conv => arg 11; simp [Act.put]
  refine walkJ_turn rfl rfl ⟨.bool true, fun _ => ⟨true, rfl, fun _ _ => rfl⟩⟩ (fun s W1 hs h7 hch => ?_) ?_
  · obtain ⟨M1, ls, h1, h2, h3, h4⟩ := (HI.out.1 _ _).1 hs
    have c3 : s 3 = some v3 := by have := hch 3 (by decide); rw [this]; rfl
    have c7 : s 7 = some v7 := by have := hch 7 (by decide); rw [this]; rfl
    obtain ⟨⟨l, g1, g2, g5⟩, g3, g4⟩ := h3 _ c3
    have o1 : OwnR W1 0 24 encU 1 v3 l := h1.get (t := thR 24 encU 1 v3 l) (by simp [g1])
    have o2 : OwnR W1 0 24 encU 1 v7 (outR now L) := h1.get (t := thR 24 encU 1 v7 (outR now L)) (by simp [h4 _ c7])
    refine inv_call (by simp [execOp, go_sem]) ((words_any o1 o2 g5 (by have := outR_len now L; have := HB.out.1.ll; omega)).mono ?_)
    rintro e w1 ⟨r, rfl, k1, k2⟩
    exact ⟨_, rfl, fun _ => ⟨r, rfl, fun hr _ => k1 (out_eq hr g2)⟩, (HI.out.1 _ _).2 ⟨M1, ls, h1.go k2, h2, h3, h4⟩⟩
  rintro v8 hv8
  obtain ⟨r, rfl, hr⟩ := hv8 rfl
  conv => arg 11; simp [Act.put]
  iterate 1 (refine walkJ_one rfl (by kernel_rfl) ?_; go_big_quiet_step (fail); refine wpQuiet_nil ?_)
  refine walkJ_end ?_
  intro W' hW'
  have HG2 := Lib.hid (And.intro ((HI.out.1 _ _).1 hW') hr)
  clear e2 hr hv3 hv7 hv8
  go_wp2_with fail
  go_ret
  obtain ⟨⟨M1, ls, h1, h2, h3, h4⟩, h5⟩ := HG2.out
  obtain ⟨⟨l, g1, g2, g5⟩, g3, g4⟩ := h3 v3 rfl
  have h9 : kd % 6 = 5 := HB.out.2.2.2
  refine ⟨r, M1, L.map (dueR rk now), rfl, ?_, fun j => ?_, Nat.le_succ_of_le g4, ?_, h5⟩
  · rw [HI.out.2] at h1
    exact h1.sub ((List.sublist_cons_self _ ts).trans (List.sublist_append_right ls _))
  · unfold stepF
    rw [if_neg (by rw [h9]; decide), if_neg (by rw [h9]; decide), if_pos (by rw [h9]; decide)]
    exact g3 j
  · unfold stepR
    rw [if_neg (by rw [h9]; decide), if_neg (by rw [h9]; decide), if_pos (by rw [h9]; decide)]

end Go.Proofs.Ytgadedpcekiljaa
