/- Layer 14: the law's call on both sides: Stop, Start. -/
import Derived.Test.YtgadedpcekiljaaTm7
set_option linter.unusedSimpArgs false
set_option linter.unusedVariables false
namespace Go.Proofs.Ytgadedpcekiljaa
open Go.RowKit
set_option maxRecDepth 100000

set_option maxHeartbeats 4000000 in
theorem does_stop {B : Nat} {w0 w : World} {tq tk rq rk : Nat} {M L : List (Nat × Nat × Nat)} {ts : List Kt} {o : OT} {k : Nat} (h : Tb B w0 w tq tk M rq rk L ts) (hb : Bt k M L tk rk) (hs : o.se < 4294967296) (hn : o.now < 18446744073709551616) (hk : o.kd % 6 = 3) :
    Calls Try.prog 9 #[.pointer (some ⟨tq, 0, none⟩), .pointer (some ⟨rq, 0, none⟩), .agg (celT o)] w (DsOut B w0 tq tk rq rk ts M L o) := by
  have hmx : Try.prog.follows .mixedOrders = true := by kernel_rfl
  have f0 : (o.kd : Int) % 6 = 3 := by omega
  obtain ⟨W, hW⟩ : ∃ W, W = w.alloc (.cells (celT o) 33) := ⟨_, rfl⟩
  have HG := Lib.hid (h.box (celT o) 33)
  rw [← hW] at HG
  obtain ⟨g, hg⟩ : ∃ g, g = w.heap.size := ⟨_, rfl⟩
  rw [← hg] at HG
  have C : cellsSay W g 0 (celT o).toList := cells_say (HG.out.get (t := thB g 33 (celT o)) (by simp)) _ 0 rfl
  simp only [celT, cellsSay, Nat.reduceAdd, and_true] at C
  have HB := Lib.hid (And.intro hb (And.intro hs (And.intro hn hk)))
  have hlk : k ≤ 1000 := hb.k
  obtain ⟨kd, se, now⟩ := o
  simp only at f0 C
  unfold celT at hW ⊢
  simp only at hW ⊢
  clear h hb hs hn hk
  go_enter Try.func9, Try.ntmps9
  go_upto_region 1 with fail
  rw [← hW]
  rw [← hg]
  clear hW hg
  go_upto_region 7 with fail
  obtain ⟨b1, hb1⟩ : ∃ b, b = (lookM M se).isSome := ⟨_, rfl⟩
  obtain ⟨b2, hb2⟩ : ∃ b, b = decide ((delM L se).length < L.length) := ⟨_, rfl⟩
  obtain ⟨I, hI⟩ : ∃ I : Rec → World → Prop, ∀ E W, I E W ↔ Tb B w0 W tq tk (pickT (E 3) M (delM M se)) rq rk (pickT (E 7) L (delM L se)) (thB g 33 (celT ⟨kd, se, now⟩) :: ts) := ⟨_, fun _ _ => Iff.rfl⟩
  have hI0 : I (fun _ => none) W.drew := (hI _ _).2 (HG.out.go (Below.refl _ _).drew)
  haveI : Nonempty (InvW I) := ⟨⟨_, _, hI0⟩⟩
  have e1 : ∀ x : InvW I, x.W.cell? ⟨g, 1, none⟩ = some (.int .u32 ((se : Nat) : Int)) := fun x => (Tb.get (t := thB g 33 (celT ⟨kd, se, now⟩)) ((hI _ _).1 x.h) (by simp) : Blk _ g _ _).cell 1
  have e2 : ∀ x : InvW I, x.W.cell? ⟨g, 2, none⟩ = some (.int .u64 ((now : Nat) : Int)) := fun x => (Tb.get (t := thB g 33 (celT ⟨kd, se, now⟩)) ((hI _ _).1 x.h) (by simp) : Blk _ g _ _).cell 2
  have HI := Lib.hid hI
  clear hI C
  have Hb1 := Lib.hid hb1
  have Hb2 := Lib.hid hb2
  clear hb1 hb2
  refine wp_region_inv I [] [3, 7] (fun k v => v = .bool (if k = 3 then b1 else b2)) hmx (by kernel_rfl) hI0 ?_
  iterate 3 (refine walkJ_one rfl (by kernel_rfl) ?_; go_big_quiet_step (fail); refine wpQuiet_nil ?_)
  refine walkJ_turn rfl rfl ⟨_, rfl⟩ (fun s W1 hs h7 _ => ?_) ?_
  · have h := (HI.out _ _).1 hs
    rw [show s 3 = none from h7] at h
    obtain ⟨A, n, c, hnl, hT⟩ := h.asTm
    refine inv_call (by simp [execOp, go_sem]) ((tstop_any hT se HB.out.2.1).mono ?_)
    rintro e w1 ⟨rfl, k⟩
    exact ⟨_, rfl, by rw [Hb1.out]; rfl, (HI.out _ _).2 (Tb.ofTm hnl k)⟩
  rintro v rfl
  conv => arg 11; simp [Act.put]
  iterate 3 (refine walkJ_one rfl (by kernel_rfl) ?_; go_big_quiet_step (fail); refine wpQuiet_nil ?_)
  refine walkJ_turn rfl rfl ⟨_, rfl⟩ (fun s W1 hs h7 _ => ?_) ?_
  · have h := (HI.out _ _).1 hs
    rw [show s 7 = none from h7] at h
    obtain ⟨b, hR⟩ := h.asRt
    refine inv_call (by simp [execOp, go_sem]) ((rtstop_any hR se (by have := HB.out.1.ll; show L.length ≤ _; omega)).mono ?_)
    rintro e w1 ⟨rfl, k⟩
    exact ⟨_, rfl, by rw [Hb2.out]; rfl, (HI.out _ _).2 (Tb.ofRt k)⟩
  rintro v rfl
  conv => arg 11; simp [Act.put]
  iterate 2 (refine walkJ_one rfl (by kernel_rfl) ?_; go_big_quiet_step (fail); refine wpQuiet_nil ?_)
  refine walkJ_end ?_
  intro W' hW'
  have HG2 := Lib.hid ((HI.out _ _).1 hW')
  clear e1 e2
  obtain ⟨r, hr⟩ : ∃ r, r = (b1 == b2) := ⟨_, rfl⟩
  have HR := Lib.hid hr
  try rw [← hr]
  clear hr
  go_wp2_with fail
  go_ret
  refine ⟨r, delM M se, delM L se, rfl, HG2.out.sub (List.sublist_cons_self _ _), fun j => ?_, Nat.le_succ_of_le (del_len M se), ?_, fun hr _ => ?_⟩
  · have h9 : kd % 6 = 3 := HB.out.2.2.2
    unfold stepF; rw [if_neg (by rw [h9]; decide), if_pos h9, look_del]
  · have h9 : kd % 6 = 3 := HB.out.2.2.2
    unfold stepR; rw [if_neg (by rw [h9]; decide), if_pos h9]
  · rw [HR.out, Hb1.out, Hb2.out, isSome_del, hr.2]
    cases lookM L se <;> rfl
set_option maxHeartbeats 4000000 in
theorem does_start {B : Nat} {w0 w : World} {tq tk rq rk : Nat} {M L : List (Nat × Nat × Nat)} {ts : List Kt} {o : OT} {k : Nat} (h : Tb B w0 w tq tk M rq rk L ts) (hb : Bt k M L tk rk) (hs : o.se < 4294967296) (hn : o.now < 18446744073709551616) (hk : o.kd % 6 < 2) :
    Calls Try.prog 9 #[.pointer (some ⟨tq, 0, none⟩), .pointer (some ⟨rq, 0, none⟩), .agg (celT o)] w (DsOut B w0 tq tk rq rk ts M L o) := by
  have hmx : Try.prog.follows .mixedOrders = true := by kernel_rfl
  have f0 : (o.kd : Int) % 6 < 2 := by omega
  obtain ⟨md, hmd⟩ : ∃ m, m = o.kd % 6 := ⟨_, rfl⟩
  have f1 : (o.kd : Int) % 6 = (md : Int) := by omega
  have f2 : ((md : Int) == 2) = false := beq_eq_false_iff_ne.2 (by omega)
  have f3 : ((md : Int) == 3) = false := beq_eq_false_iff_ne.2 (by omega)
  have f4 : ((md : Int) == 4) = false := beq_eq_false_iff_ne.2 (by omega)
  have f5 : ((md : Int) == 5) = false := beq_eq_false_iff_ne.2 (by omega)
  clear hmd
  obtain ⟨W, hW⟩ : ∃ W, W = w.alloc (.cells (celT o) 33) := ⟨_, rfl⟩
  have HG := Lib.hid (h.box (celT o) 33)
  rw [← hW] at HG
  obtain ⟨g, hg⟩ : ∃ g, g = w.heap.size := ⟨_, rfl⟩
  rw [← hg] at HG
  have C : cellsSay W g 0 (celT o).toList := cells_say (HG.out.get (t := thB g 33 (celT o)) (by simp)) _ 0 rfl
  simp only [celT, cellsSay, Nat.reduceAdd, and_true] at C
  have HB := Lib.hid (And.intro hb (And.intro hs (And.intro hn hk)))
  have hlk : k ≤ 1000 := hb.k
  obtain ⟨kd, se, now⟩ := o
  simp only at f0 f1 C
  unfold celT at hW ⊢
  simp only at hW ⊢
  clear h hb hs hn hk
  go_enter Try.func9, Try.ntmps9
  go_upto_region 1 with fail
  rw [← hW]
  rw [← hg]
  clear hW hg
  clear f0
  go_upto_region 11 with fail
  obtain ⟨b1, hb1⟩ : ∃ b, b = (lookM M se).isSome := ⟨_, rfl⟩
  obtain ⟨b2, hb2⟩ : ∃ b, b = (lookM L se).isSome := ⟨_, rfl⟩
  obtain ⟨M2, hM2⟩ : ∃ z, z = (if (lookM M se).isSome then M else putM M se (almD tk now 0)) := ⟨_, rfl⟩
  obtain ⟨L2, hL2⟩ : ∃ z, z = (if (lookM L se).isSome then L else againR rk now se L) := ⟨_, rfl⟩
  obtain ⟨I, hI⟩ : ∃ I : Rec → World → Prop, ∀ E W, I E W ↔ Tb B w0 W tq tk (pickT (E 5) M M2) rq rk (pickT (E 11) L L2) (thB g 33 (celT ⟨kd, se, now⟩) :: ts) := ⟨_, fun _ _ => Iff.rfl⟩
  have hI0 : I (fun _ => none) W.drew := (hI _ _).2 (HG.out.go (Below.refl _ _).drew)
  haveI : Nonempty (InvW I) := ⟨⟨_, _, hI0⟩⟩
  have e1 : ∀ x : InvW I, x.W.cell? ⟨g, 1, none⟩ = some (.int .u32 ((se : Nat) : Int)) := fun x => (Tb.get (t := thB g 33 (celT ⟨kd, se, now⟩)) ((hI _ _).1 x.h) (by simp) : Blk _ g _ _).cell 1
  have e2 : ∀ x : InvW I, x.W.cell? ⟨g, 2, none⟩ = some (.int .u64 ((now : Nat) : Int)) := fun x => (Tb.get (t := thB g 33 (celT ⟨kd, se, now⟩)) ((hI _ _).1 x.h) (by simp) : Blk _ g _ _).cell 2
  have HI := Lib.hid hI
  clear hI C
  have Hb1 := Lib.hid hb1
  have Hb2 := Lib.hid hb2
  have HM2 := Lib.hid hM2
  have HL2 := Lib.hid hL2
  clear hb1 hb2 hM2 hL2 f1 f2 f3 f4 f5
  refine wp_region_inv I [] [5, 11] (fun k v => v = .bool (if k = 5 then !b1 else !b2)) hmx (by kernel_rfl) hI0 ?_
  iterate 5 (refine walkJ_one rfl (by kernel_rfl) ?_; go_big_quiet_step (fail); refine wpQuiet_nil ?_)
  refine walkJ_turn rfl rfl ⟨_, rfl⟩ (fun s W1 hs h7 _ => ?_) ?_
  · have h := (HI.out _ _).1 hs
    rw [show s 5 = none from h7] at h
    obtain ⟨A, n, c, hnl, hT⟩ := h.asTm
    refine inv_call (by simp [execOp, go_sem]) ((tstart_any hT se now HB.out.2.1 HB.out.2.2.1 HB.out.1.tk (by have := HB.out.1.ml; show M.length ≤ _; omega)).mono ?_)
    rintro e w1 ⟨rfl, k⟩
    refine ⟨_, rfl, by rw [Hb1.out]; rfl, (HI.out _ _).2 (Tb.ofTm (A := A) (c := c) hnl ?_)⟩
    show Tm B w0 w1 tq tk M2 _
    rw [HM2.out]; exact k
  rintro v rfl
  conv => arg 11; simp [Act.put]
  iterate 5 (refine walkJ_one rfl (by kernel_rfl) ?_; go_big_quiet_step (fail); refine wpQuiet_nil ?_)
  refine walkJ_turn rfl rfl ⟨_, rfl⟩ (fun s W1 hs h7 _ => ?_) ?_
  · have h := (HI.out _ _).1 hs
    rw [show s 11 = none from h7] at h
    obtain ⟨b, hR⟩ := h.asRt
    refine inv_call (by simp [execOp, go_sem]) ((rtstart_any hR se now (by have := HB.out.1.ll; show L.length ≤ _; omega) HB.out.2.2.1 HB.out.1.rk).mono ?_)
    rintro e w1 ⟨rfl, k⟩
    refine ⟨_, rfl, by rw [Hb2.out]; rfl, (HI.out _ _).2 (Tb.ofRt (b := b) ?_)⟩
    show Rt B w0 w1 rq rk L2 _
    rw [HL2.out]; exact k
  rintro v rfl
  conv => arg 11; simp [Act.put]
  iterate 2 (refine walkJ_one rfl (by kernel_rfl) ?_; go_big_quiet_step (fail); refine wpQuiet_nil ?_)
  refine walkJ_end ?_
  intro W' hW'
  have HG2 := Lib.hid ((HI.out _ _).1 hW')
  clear e1 e2
  go_wp2_with fail
  go_ret
  have h9 : ¬ kd % 6 = 2 ∧ ¬ kd % 6 = 3 ∧ ¬ 3 < kd % 6 := by have : kd % 6 < 2 := HB.out.2.2.2; omega
  refine ⟨_, M2, L2, rfl, HG2.out.sub (List.sublist_cons_self _ _), fun j => ?_, ?_, ?_, fun hr _ => ?_⟩
  · unfold stepF
    rw [if_neg h9.1, if_neg h9.2.1, if_neg h9.2.2, HM2.out]
    split
    · rfl
    · rw [look_put]
  · rw [HM2.out]
    split
    · omega
    · exact put_len _ _ _
  · unfold stepR
    rw [if_neg h9.1, if_neg h9.2.1, if_neg h9.2.2, HL2.out]
  · rw [Hb1.out, Hb2.out, hr.2]
    cases lookM L se <;> rfl

end Go.Proofs.Ytgadedpcekiljaa
