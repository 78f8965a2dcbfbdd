/- Joined: Bk5, Bk11, Bk13, Bk14, Bk16. -/
import Derived.Test.YtmcdollkmlcpbaaGreatDoorQ39
import Derived.Test.YtmcdollkmlcpbaaGreatDoorQ12
import Derived.Test.YtmcdollkmlcpbaaGreatDoorQ7
import Derived.Test.YtmcdollkmlcpbaaGreatDoorQ9
import Derived.Test.YtmcdollkmlcpbaaGreatDoorQ4
import Derived.Deep.RegionHeld3
set_option linter.unusedSimpArgs false
set_option linter.unusedVariables false
set_option linter.unusedSimpArgs false
set_option linter.unusedVariables false
namespace Go.Proofs.YtmcdollkmlcpbaaGreatDoor
open Go.RowKit
set_option maxRecDepth 100000
theorem ofB (A : Option Addr) (c : Nat) (M : List Bool) (w : World) (hb : Bs w A (pack M)) (hL : M.length ≤ 1073741824) :
  Calls Tryz.prog 53 #[.agg #[.slice A (pack M).length c, .int .i64 M.length]] w fun e w' => e = .returned (.tuple #[.int .u64 ((moreR 0 M : Nat) : Int), .int .u16 0]) ∧ Below w.heap.size w w' := by
 have hp := pack_le M hL
 refine (of_any A c (pack M) M.length w hb (by omega) (by omega)).mono fun e w' ⟨he, hbel⟩ => ⟨?_, hbel⟩
 rw [he]
 unfold moreSpec
 rw [if_pos (sound_pack M), Int.toNat_natCast, bits_pack]
 rfl
set_option maxHeartbeats 2000000 in
theorem bsum_any {w : World} (p : Pm) (pc pb pn : Nat) (hA : Bs w p.A (pack (bitsL p.L))) (hlen : (bitsL p.L).length ≤ 146000) (hpb : pb ≤ (bitsL p.L).length) :
  Calls Tryz.prog 36 #[.agg (encPm p).toArray, plV pc pb pn] w fun e w' => e = .returned (.int .u64 ((moreR 0 ((bitsL p.L).take pb) : Nat) : Int)) ∧ Below w.heap.size w w' := by
 have hp := pack_le (bitsL p.L) (by omega)
 obtain ⟨l, hl⟩ : ∃ l, l = pack (bitsL p.L) := ⟨_, rfl⟩
 obtain ⟨m, hm⟩ : ∃ m, m = (bitsL p.L).length := ⟨_, rfl⟩
 obtain ⟨z, hz⟩ : ∃ z, z = moreR 0 ((bitsL p.L).take pb) := ⟨_, rfl⟩
 have hs : soundB l m = true := by rw [hl, hm]; exact sound_pack _
 have hcut : cutl l 0 (pb - 0) = (bitsL p.L).take pb := by rw [hl, cutl_pack _ _ _ (by omega)]; simp
 obtain ⟨M, hM⟩ : ∃ M, M = (bitsL p.L).take pb := ⟨_, rfl⟩
 have ht : M.length = pb := by rw [hM, List.length_take]; omega
 have hO := fun (V : World) (A : Option Addr) (c : Nat) (hb : Bs V A (pack M)) => ofB A c M V hb (by omega)
 rw [ht] at hO
 rw [← hM] at hz hcut
 rw [← hz] at hO
 obtain ⟨g1, hg1⟩ : ∃ g, g = w.heap.size := ⟨_, rfl⟩
 obtain ⟨g2, hg2⟩ : ∃ g, g = w.heap.size + 1 := ⟨_, rfl⟩
 obtain ⟨W, hW⟩ : ∃ W, W = (w.alloc (.cells #[.slice p.A l.length p.c, .int .i64 (m : Nat), .slice p.E p.L.length p.ec, .int .i64 ((p.ah : Nat) : Int)] 95)).alloc (.cells #[.int .u32 (pc : Nat), .int .u32 (pb : Nat), .int .u32 (pn : Nat)] 36) := ⟨_, rfl⟩
 have bW : Below w.heap.size w W := by rw [hW]; exact below_alloc2 w _ _
 have b1 : Blk W g1 95 #[.slice p.A l.length p.c, .int .i64 (m : Nat), .slice p.E p.L.length p.ec, .int .i64 ((p.ah : Nat) : Int)] := by rw [hW, hg1]; exact (Blk.new w _ _).alloc _
 have b2 : Blk W g2 36 #[.int .u32 (pc : Nat), .int .u32 (pb : Nat), .int .u32 (pn : Nat)] := by rw [hW, hg2]; have := Blk.new (w.alloc (.cells #[.slice p.A l.length p.c, .int .i64 (m : Nat), .slice p.E p.L.length p.ec, .int .i64 ((p.ah : Nat) : Int)] 95)) 36 #[.int .u32 (pc : Nat), .int .u32 (pb : Nat), .int .u32 (pn : Nat)]; rw [World.size_alloc] at this; exact this
 have C1 : W.cell? ⟨g1, 0, none⟩ = some (.slice p.A l.length p.c) := b1.cell 0
 have C2 : W.cell? ⟨g1, 1, none⟩ = some (.int .i64 (m : Nat)) := b1.cell 1
 have C3 : W.cell? ⟨g2, 1, none⟩ = some (.int .u32 (pb : Nat)) := b2.cell 1
 have hC : Calls Tryz.prog 42 #[.agg #[.slice p.A l.length p.c, .int .i64 m], .int .i64 0, .int .i64 (pb : Nat)] W fun e w' => ∃ A' c', e = .returned (.tuple #[.agg #[.slice A' (pack M).length c', .int .i64 (pb : Nat)], .int .u16 0]) ∧ OwnB w' W.heap.size (.slice A' (pack M).length c') (pack M) ∧ Below W.heap.size W w' := by
  have := cut_ok p.A p.c l m 0 pb W (by rw [hl]; exact hA.below bW) (by rw [hl]; omega) hs (Nat.zero_le _) (by omega)
  rw [hcut] at this
  exact this
 have HC := Lib.hid hC
 have HO := Lib.hid hO
 have HB := Lib.hid bW
 unfold encPm
 rw [← hM, ← hl, ← hm, ← hz]
 have w64 : IntKind.i64.wrap (pb : Int) = (pb : Int) := by rw [IntKind.wrap_i64]; omega
 clear hA hl hm hz hs hcut hp hlen hC hO bW b1 b2 hM ht
 go_enter Tryz.func36, Tryz.ntmps36
 go_upto_region 1 with fail
 rw [← hW, ← hg2, ← hg1]
 clear hW hg1 hg2
 go_upto_region 2 with (go_at_call 42; refine HC.out.mono ?_; rintro e w2 ⟨A', c', rfl, hown, b3⟩)
 have HO2 := Lib.hid hown.bs
 have HB2 := Lib.hid (HB.out.trans (b3.mono HB.out.size))
 clear hown b3 C1 C2 C3 HC HB
 go_wp2_with (go_at_call 53; refine (HO.out _ _ _ (HO2.out.below (below_alloc _ _))).mono ?_; rintro e w3 ⟨rfl, b4⟩)
 go_ret
 refine ⟨rfl, ?_⟩
 have h1 := below_alloc w2 (.cells #[.slice A' (pack M).length c', .int .i64 ((pb : Nat) : Int)] 33)
 have h2 := HB2.out.trans (h1.mono HB2.out.size)
 exact h2.trans (b4.mono h2.size)
end Go.Proofs.YtmcdollkmlcpbaaGreatDoor
set_option linter.unusedSimpArgs false
set_option linter.unusedVariables false
namespace Go.Proofs.YtmcdollkmlcpbaaGreatDoor
open Go.RowKit
set_option maxRecDepth 100000
theorem RdS.cells4 {V : World} {s : Sl} (h : RdS V s) (hn : s.pn = s.ps.length) {i : Nat} {p : Pm} (hp : s.ps[i]? = some p) : ∃ gp, ∀ y : More, (plus V y).cell? ⟨s.g, 0, none⟩ = some (.slice (some ⟨gp, 0, none⟩) s.ps.length s.pc) ∧ (plus V y).cell? ⟨gp, i * 4, none⟩ = some (.slice p.A (pack (bitsL p.L)).length p.c) ∧ (plus V y).cell? ⟨gp, i * 4 + 1, none⟩ = some (.int .i64 ((bitsL p.L).length : Nat)) ∧ (plus V y).cell? ⟨gp, i * 4 + 2, none⟩ = some (.slice p.E p.L.length p.ec) ∧ (plus V y).cell? ⟨gp, i * 4 + 3, none⟩ = some (.int .i64 ((p.ah : Nat) : Int)) := by
 obtain ⟨gp, e1, -, -, -, -⟩ := h.part hp
 refine ⟨gp, fun y => ⟨?_, ?_⟩⟩
 ·have := (h.below (plus_below V y)).blk.cell 0
  rw [← hn, ← e1]
  exact this
 ·obtain ⟨gp', e2, c⟩ := (h.below (plus_below V y)).part hp
  rw [e1] at e2
  injection e2 with e2
  injection e2 with e2
  subst e2
  exact c
theorem bits_small {L : List Sm} (h1 : L.length ≤ 1000) (h2 : InC L) : (bitsL L).length ≤ 146000 := by
 rw [← endN_all]; exact endN_small h1 h2 _
end Go.Proofs.YtmcdollkmlcpbaaGreatDoor
set_option linter.unusedSimpArgs false
set_option linter.unusedVariables false
namespace Go.Proofs.YtmcdollkmlcpbaaGreatDoor
open Go.RowKit
set_option maxRecDepth 100000
theorem bfull_K {w : World} {X : Bl} (h : RdK w X) (ok : OkB X) (x : Nat) (hx : x < 4294967296) : Calls Tryz.prog 54 #[prB X, .int .u32 (x : Nat)] w fun e w' => e = .returned (.bool (decide ((lookM X.D.M x).isNone ∧ X.D.mo ≤ X.D.M.length))) ∧ Below w.heap.size w w' := by
 have hl : X.M.length = X.D.M.length := by unfold Bl.D; simp
 have h1 := ok.D.few
 have h2 : X.D.mo ≤ 64 := ok.D.mo2
 have := bfull_any h.blk h.mu x hx h2 (by omega)
 rw [show (!(lookM X.M x).isSome && decide (X.mo ≤ X.M.length)) = decide ((lookM X.D.M x).isNone ∧ X.D.mo ≤ X.D.M.length) by
  rw [hl, lookD, Bool.decide_and]
  cases lookM X.M x <;> simp [Bl.D]] at this
 exact this
set_option maxHeartbeats 2000000 in
theorem bMay_any {w : World} {X : Bl} (h : RdK w X) (ok : OkB X) (x : Nat) (hx : x < 4294967296) (t : Int) (v : Nat) :
  Calls Tryz.prog 38 #[prB X, .int .u32 (x : Nat), .agg #[.int .i64 t, .int .u64 (v : Nat)]] w fun e w' => e = .returned (.int .u16 (mayD X.D x t : Nat)) ∧ Below w.heap.size w w' := by
 have hmx : Tryz.prog.follows .mixedOrders = true := by kernel_rfl
 obtain ⟨W, hW⟩ : ∃ W, W = w.alloc (.cells #[.int .i64 t, .int .u64 (v : Nat)] 42) := ⟨_, rfl⟩
 obtain ⟨g, hg⟩ : ∃ g, g = w.heap.size := ⟨_, rfl⟩
 have bW : Below w.heap.size w W := by rw [hW]; exact below_alloc w _
 have cg : Blk W g 42 #[.int .i64 t, .int .u64 (v : Nat)] := by rw [hW, hg]; exact Blk.new _ _ _
 have hF := bfull_K (h.below bW) ok x hx
 obtain ⟨D1, hD1⟩ : ∃ D, D = decide ((lookM X.D.M x).isNone ∧ X.D.mo ≤ X.D.M.length) := ⟨_, rfl⟩
 obtain ⟨D2, hD2⟩ : ∃ D, D = lateB (X.D.at_ x) t := ⟨_, rfl⟩
 rw [← hD1] at hF
 have HF := Lib.hid hF
 have hres : (mayD X.D x t : Nat) = if D1 = true then 121 else if D2 = true then 0 else 120 := by
  unfold mayD
  rw [hD1, hD2]
  simp only [decide_eq_true_eq]
 rw [hres]
 have HN := Lib.hid (fun (V : World) (hV : Below W.heap.size W V) => bser_any ((h.below bW).below hV) ok x hx)
 have HE := Lib.hid (fun (V : World) (s : Sl) (hV : RsS V s (X.D.at_ x)) => by
  have := bbefore_any hV.rd hV.ok.pn hV.ne hV.few t
  rw [show decide (if 0 < s.e.n then s.e.last < t else s.ps.length = 1 ∨ s.fl < t) = D2 by rw [hD2, Bool.eq_iff_iff, decide_eq_true_eq]; exact hV.late t] at this
  exact this)
 have HR := Lib.hid (And.intro cg bW)
 obtain ⟨C, hC⟩ : ∃ C, C = X.D.at_ x := ⟨_, rfl⟩
 rw [← hC] at HN HE
 clear h ok hF cg bW hD1 hD2 hres hC
 go_enter Tryz.func38, Tryz.ntmps38
 go_upto_region 1 with fail
 rw [← hW, ← hg]
 clear hW hg
 cases D1
 ·go_upto_region 3 with (go_at_call 54; refine HF.out.mono ?_; rintro e w2 ⟨rfl, b2⟩)
  obtain ⟨I, hI⟩ : ∃ I : Rec → World → Prop, ∀ E V, I E V ↔ (Below w2.heap.size w2 V ∧ ∀ u, E 2 = some u → ∃ s, u = prS s ∧ RsS V s C) := ⟨_, fun _ _ => Iff.rfl⟩
  have hI0 : I (fun _ => none) w2.drew := (hI _ _).2 ⟨(Below.refl _ _).drew, fun u h => by cases h⟩
  haveI : Nonempty (InvW I) := ⟨⟨_, _, hI0⟩⟩
  have e1 : ∀ y : InvW I, y.W.cell? ⟨g, 0, none⟩ = some (.int .i64 t) := fun y => (((HR.out.1).below b2 HR.out.1.lt).below ((hI _ _).1 y.h).1 ((HR.out.1).below b2 HR.out.1.lt).lt).cell 0
  have HI := Lib.hid hI
  clear hI
  refine wp_region_inv I [[], [], [], [], [], [2]] [2, 5] (fun k u => if k = 2 then ∃ s, u = prS s else u = .bool D2) hmx (by kernel_rfl) hI0 ?_
  iterate 2 (refine walkJ_one rfl (by kernel_rfl) ?_; go_big_quiet_step (fail); refine wpQuiet_nil ?_)
  refine walkJ_turn rfl rfl ⟨_, ⟨0, none, 0, 0, [], ec0, 0⟩, rfl⟩ (fun s W1 hs h7 _ => ?_) ?_
  ·obtain ⟨hb, -⟩ := (HI.out _ _).1 hs
   refine inv_call (by simp [execOp, go_sem]) ((HN.out _ (b2.trans (hb.mono b2.size))).mono ?_)
   rintro e w3 ⟨s, rfl, hR, b3⟩
   exact ⟨_, rfl, ⟨s, rfl⟩, (HI.out _ _).2 ⟨hb.trans (b3.mono hb.size), fun u hu => by rw [recSet_same] at hu; injection hu with hu; exact ⟨s, hu.symm, hR⟩⟩⟩
  rintro u ⟨s, rfl⟩
  conv => arg 11; simp [Act.put]
  iterate 2 (refine walkJ_one rfl (by kernel_rfl) ?_; go_big_quiet_step (fail); refine wpQuiet_nil ?_)
  refine walkJ_turn rfl rfl ⟨_, rfl⟩ (fun s' W1 hs h7 hch => ?_) ?_
  ·obtain ⟨hb, hs2⟩ := (HI.out _ _).1 hs
   obtain ⟨s1, e1, hR⟩ := hs2 (prS s) ((hch 2 (by simp)).trans rfl)
   have hc := HE.out _ s1 hR
   rw [← e1] at hc
   refine inv_call (by simp [execOp, go_sem]) (hc.mono ?_)
   rintro e w3 ⟨rfl, rfl⟩
   exact ⟨_, rfl, rfl, (HI.out _ _).2 ⟨hb, fun u hu => hs2 u (by rw [recSet_ne (by decide)] at hu; exact hu)⟩⟩
  rintro u rfl
  conv => arg 11; simp [Act.put]
  iterate 2 (refine walkJ_one rfl (by kernel_rfl) ?_; go_big_quiet_step (fail); refine wpQuiet_nil ?_)
  refine walkJ_end ?_
  intro W' hW'
  have hb := ((HI.out _ _).1 hW').1
  have HG := Lib.hid (HR.out.2.trans ((b2.trans (hb.mono b2.size)).mono HR.out.2.size))
  clear e1 hb hW' HI HN HE HR HF b2
  cases D2
  ·go_wp2_with fail
   go_ret
   exact ⟨rfl, HG.out⟩
  ·go_wp2_with fail
   go_ret
   exact ⟨rfl, HG.out⟩
 ·go_wp2_with (go_at_call 54; refine HF.out.mono ?_; rintro e w2 ⟨rfl, b2⟩)
  go_ret
  exact ⟨rfl, HR.out.2.trans (b2.mono HR.out.2.size)⟩
end Go.Proofs.YtmcdollkmlcpbaaGreatDoor
set_option linter.unusedSimpArgs false
set_option linter.unusedVariables false
namespace Go.Proofs.YtmcdollkmlcpbaaGreatDoor
open Go.RowKit
set_option maxRecDepth 100000
set_option maxHeartbeats 4000000 in
theorem bSum_any {w : World} {X : Bl} (h : RdK w X) (ok : OkB X) (x : Nat) (hx : x < 4294967296) (pc pb pn : Nat) (hpc : pc < 4294967296) (hpb : pb < 4294967296) (hpn : pn < 4294967296) :
  Calls Tryz.prog 20 #[prB X, .int .u32 (x : Nat), plV pc pb pn] w fun e w' => e = .returned (.tuple #[.int .u64 ((if hasC (X.D.at_ x) pc pb pn then sumC (X.D.at_ x) pc pb else 0 : Nat) : Int), .int .u16 ((if hasC (X.D.at_ x) pc pb pn then 0 else 122 : Nat) : Int)]) ∧ Below w.heap.size w w' := by
 have hmx : Tryz.prog.follows .mixedOrders = true := by kernel_rfl
 obtain ⟨W, hW⟩ : ∃ W, W = w.alloc (.cells #[.int .u32 (pc : Nat), .int .u32 (pb : Nat), .int .u32 (pn : Nat)] 36) := ⟨_, rfl⟩
 obtain ⟨g, hg⟩ : ∃ g, g = w.heap.size := ⟨_, rfl⟩
 have bW : Below w.heap.size w W := by rw [hW]; exact below_alloc w _
 have cg : Blk W g 36 #[.int .u32 (pc : Nat), .int .u32 (pb : Nat), .int .u32 (pn : Nat)] := by rw [hW, hg]; exact Blk.new _ _ _
 have HN := Lib.hid (bser_any (h.below bW) ok x hx)
 have HR := Lib.hid (And.intro cg bW)
 have HP := Lib.hid (And.intro hpc (And.intro hpb hpn))
 obtain ⟨C, hC⟩ : ∃ C, C = X.D.at_ x := ⟨_, rfl⟩
 rw [← hC] at HN ⊢
 obtain ⟨Z, hZ0⟩ : ∃ Z, Z = sumC C pc pb := ⟨_, rfl⟩
 rw [← hZ0]
 have HZ := Lib.hid hZ0
 clear hZ0
 cases hh : hasC C pc pb pn
 ·have HC := Lib.hid hh
  clear h ok cg bW hh hpc hpb hpn hC
  go_enter Tryz.func20, Tryz.ntmps20
  go_upto_region 1 with fail
  rw [← hW, ← hg]
  clear hW hg
  go_upto_region 2 with (go_at_call 29; refine HN.out.mono ?_; rintro e w2 ⟨s, rfl, hR, b2⟩)
  have hH := bhas_any hR.rd hR.ok.pn hR.ne hR.few hR.each pc pb pn HP.out.1 HP.out.2.1 HP.out.2.2
  rw [hR.has, HC.out] at hH
  have HH := Lib.hid hH
  have C1 : cellsSay w2 g 0 [.int .u32 (pc : Nat), .int .u32 (pb : Nat), .int .u32 (pn : Nat)] := cells_say (HR.out.1.below b2 HR.out.1.lt) _ 0 rfl
  simp only [cellsSay, Nat.reduceAdd, and_true] at C1
  have HB := Lib.hid (HR.out.2.trans (b2.mono HR.out.2.size))
  clear hH hR b2 HR HN HC
  go_wp2_with (go_at_call 35; refine HH.out.mono ?_; rintro e w3 ⟨rfl, b3⟩)
  go_ret2
  exact ⟨rfl, HB.out.trans (b3.mono HB.out.size)⟩
 ·have HC := Lib.hid hh
  clear h ok cg bW hh hpc hpb hpn hC
  go_enter Tryz.func20, Tryz.ntmps20
  go_upto_region 1 with fail
  rw [← hW, ← hg]
  clear hW hg
  go_upto_region 2 with (go_at_call 29; refine HN.out.mono ?_; rintro e w2 ⟨s, rfl, hR, b2⟩)
  have hH := bhas_any hR.rd hR.ok.pn hR.ne hR.few hR.each pc pb pn HP.out.1 HP.out.2.1 HP.out.2.2
  rw [hR.has, HC.out] at hH
  have HH := Lib.hid hH
  have HQ := Lib.hid hR
  have C1 : cellsSay w2 g 0 [.int .u32 (pc : Nat), .int .u32 (pb : Nat), .int .u32 (pn : Nat)] := cells_say (HR.out.1.below b2 HR.out.1.lt) _ 0 rfl
  simp only [cellsSay, Nat.reduceAdd, and_true] at C1
  have HB := Lib.hid (And.intro (HR.out.2.trans (b2.mono HR.out.2.size)) (HR.out.1.below b2 HR.out.1.lt))
  clear hH hR b2 HR HN
  go_upto_region 4 with (go_at_call 35; refine HH.out.mono ?_; rintro e w3 ⟨rfl, b3⟩)
  have hR3 := HQ.out.below b3
  obtain ⟨L, hL, hpl, hpe, -⟩ := hasC_true HC.out
  obtain ⟨p, hp, hpL⟩ := hR3.get hL
  have hpm := List.mem_of_getElem? hp
  have hpcn : pc < s.ps.length := (List.getElem?_eq_some_iff.1 hp).1
  obtain ⟨gp, hCC⟩ := hR3.rd.cells4 hR3.ok.pn hp
  have C0 := fun y => (hCC y).1
  have C1' := fun y => (hCC y).2.1
  have C2 := fun y => (hCC y).2.2.1
  have C3 := fun y => (hCC y).2.2.2.1
  have C4 := fun y => (hCC y).2.2.2.2
  have cg := HB.out.2.below b3 HB.out.2.lt
  have C5 : ∀ y : More, cellsSay (plus w3 y) g 0 [.int .u32 (pc : Nat), .int .u32 (pb : Nat), .int .u32 (pn : Nat)] := fun y => cells_say (cg.below (plus_below w3 y) cg.lt) _ 0 rfl
  simp only [cellsSay, Nat.reduceAdd, and_true] at C5
  have hS := fun (y : More) => ext_of (bsum_any p pc pb pn ((hR3.rd.below (plus_below w3 y)).bits p hpm).bs (bits_small (hR3.each p hpm).1 (hR3.each p hpm).2) (by rw [hpL, hpe]; exact endN_le _ _))
  have hZ : moreR 0 ((bitsL p.L).take pb) = sumC C pc pb := by unfold sumC; rw [hL, hpL]; rfl
  rw [hZ] at hS
  rw [← HZ.out] at hS
  unfold encPm at hS
  have HS2 := Lib.hid hS
  have b4 := HB.out.1.trans (b3.mono HB.out.1.size)
  have HB2 := Lib.hid b4
  clear hS hZ hCC hR3 cg hp hpm hpL hL hpe hpl HB HQ HH HP HC b3 b4 C1
  refine wp_region_ext (by kernel_rfl) (by kernel_rfl) ?_
  repeat (go_big_quiet_step ((go_at_call 36; exact HS2.out _)))
  refine wpQuiet_nil ?_
  rintro w7 ⟨y, rfl⟩
  go_wp2_with fail
  go_ret2
  exact ⟨rfl, HB2.out.trans ((plus_below w3 y).mono HB2.out.size)⟩
end Go.Proofs.YtmcdollkmlcpbaaGreatDoor
set_option linter.unusedSimpArgs false
set_option linter.unusedVariables false
namespace Go.Proofs.YtmcdollkmlcpbaaGreatDoor
open Go.RowKit
set_option maxRecDepth 100000
def pl0 : Nat × Nat × Nat := (0, 0, 0)
def clB (C : CsT) (pc k : Nat) : Bool := decide (pc + 1 < C.length ∧ k = ((C[pc]?).getD []).length)
def cutF (x : Nat) (C : CsT) (pc pb pn : Nat) (most : Int) : FrD × (Nat × Nat × Nat) × Nat :=
 if hasC C pc pb pn = false then (zeroF, pl0, 122)
 else if (pc, pb, pn) = endC C then (zeroF, (pc, pb, pn), 0)
 else (⟨0, 0, x, pc, pb, pn, cutTo ((C[pc]?).getD []) pn most, clB C pc (cutTo ((C[pc]?).getD []) pn most), sumC C pc pb, pack (cutB ((C[pc]?).getD []) pn (cutTo ((C[pc]?).getD []) pn most)), ((cutB ((C[pc]?).getD []) pn (cutTo ((C[pc]?).getD []) pn most)).length : Nat)⟩,
  if clB C pc (cutTo ((C[pc]?).getD []) pn most) then (pc + 1, 0, 0) else (pc, endN ((C[pc]?).getD []) (cutTo ((C[pc]?).getD []) pn most), cutTo ((C[pc]?).getD []) pn most), 0)
def CutO (w : World) (r : FrD × (Nat × Nat × Nat) × Nat) (e : Ending) (w' : World) : Prop :=
 (∃ A c, e = .returned (.tuple #[.agg (frC r.1 A c), plV r.2.1.1 r.2.1.2.1 r.2.1.2.2, .int .u16 (r.2.2 : Nat)]) ∧ OwnB w' w.heap.size (.slice A r.1.l.length c) r.1.l) ∧ Below w.heap.size w w'
def zFc : Array Value := #[.int .u8 0, .int .u32 0, .int .u32 0, .int .u32 0, .int .u32 0, .int .u32 0, .int .u32 0, .bool false, .int .u64 0, .slice none 0 0, .int .i64 0]
def cutW (w : World) (pc pb pn : Nat) : World := ((w.alloc (.cells #[.int .u32 (pc : Nat), .int .u32 (pb : Nat), .int .u32 (pn : Nat)] 36)).alloc (.cells #[.int .u8 0, .int .u32 0, .int .u32 0, .int .u32 0, .int .u32 0, .int .u32 0, .int .u32 0, .bool false, .int .u64 0, .slice none 0 0, .int .i64 0] 39)).alloc (.cells #[.int .u32 0, .int .u32 0, .int .u32 0] 36)
theorem cut_k (w : World) (pc pb pn g6 g8 g9 : Nat) (h6 : g6 = w.heap.size) (h8 : g8 = w.heap.size + 1) (h9 : g9 = w.heap.size + 1 + 1) : Qs (cutW w pc pb pn) [qB g9 36 #[.int .u32 0, .int .u32 0, .int .u32 0], qB g8 39 #[.int .u8 0, .int .u32 0, .int .u32 0, .int .u32 0, .int .u32 0, .int .u32 0, .int .u32 0, .bool false, .int .u64 0, .slice none 0 0, .int .i64 0], qB g6 36 #[.int .u32 (pc : Nat), .int .u32 (pb : Nat), .int .u32 (pn : Nat)], qW w w.heap.size (Nat.le_refl _)] := by
 have h := (((Qs.zero w).box #[.int .u32 (pc : Nat), .int .u32 (pb : Nat), .int .u32 (pn : Nat)] 36).box zFc 39).box #[.int .u32 0, .int .u32 0, .int .u32 0] 36
 simp only [World.size_alloc] at h
 rw [h6, h8, h9]
 exact h
set_option maxHeartbeats 4000000 in
theorem bCut_no {w : World} {X : Bl} (h : RdK w X) (ok : OkB X) (x : Nat) (hx : x < 4294967296) (pc pb pn : Nat) (most : Int) (hpc : pc < 4294967296) (hpb : pb < 4294967296) (hpn : pn < 4294967296) (hh : hasC (X.D.at_ x) pc pb pn = false) :
  Calls Tryz.prog 24 #[prB X, .int .u32 (x : Nat), plV pc pb pn, .int .i64 most] w (CutO w (zeroF, pl0, 122)) := by
 have hmx : Tryz.prog.follows .mixedOrders = true := by kernel_rfl
 obtain ⟨W, hW⟩ : ∃ W, W = cutW w pc pb pn := ⟨_, rfl⟩
 obtain ⟨g6, h6⟩ : ∃ g, g = w.heap.size := ⟨_, rfl⟩
 obtain ⟨g8, h8⟩ : ∃ g, g = w.heap.size + 1 := ⟨_, rfl⟩
 obtain ⟨g9, h9⟩ : ∃ g, g = w.heap.size + 1 + 1 := ⟨_, rfl⟩
 have HK := Lib.hid (cut_k w pc pb pn g6 g8 g9 h6 h8 h9)
 rw [← hW] at HK
 have bW : Below w.heap.size w W := HK.out.top 3
 have HN := Lib.hid (bser_any (h.below bW) ok x hx)
 have HP := Lib.hid (And.intro hpc (And.intro hpb hpn))
 obtain ⟨CC, hC⟩ : ∃ C, C = X.D.at_ x := ⟨_, rfl⟩
 rw [← hC] at HN hh
 have HC := Lib.hid hh
 clear hh
 unfold cutW at hW
 have q1 : w.heap.size ≤ g6 := by omega
 have q2 : g6 < g8 := by omega
 have q3 : g8 < g9 := by omega
 clear h ok bW hpc hpb hpn hC
 go_enter Tryz.func24, Tryz.ntmps24
 go_upto_region 1 with fail
 rw [← hW, ← h9, ← h8, ← h6]
 clear hW h9 h8 h6
 go_upto_region 2 with (go_at_call 29; refine HN.out.mono ?_; rintro e w2 ⟨s, rfl, hR, b2⟩)
 have hH := bhas_any hR.rd hR.ok.pn hR.ne hR.few hR.each pc pb pn HP.out.1 HP.out.2.1 HP.out.2.2
 rw [hR.has, HC.out] at hH
 have HH := Lib.hid hH
 replace HK := Lib.hid (HK.out.go b2)
 have HR := Lib.hid hR
 have C1 : cellsSay w2 g6 0 [.int .u32 (pc : Nat), .int .u32 (pb : Nat), .int .u32 (pn : Nat)] := cells_say (HK.out.blk 2) _ 0 rfl
 simp only [cellsSay, Nat.reduceAdd, and_true] at C1
 clear hH hR b2 HN
 go_upto_region 3 with (go_at_call 35; refine HH.out.mono ?_; rintro e w3 ⟨rfl, b3⟩)
 replace HK := Lib.hid (HK.out.go b3)
 replace HR := Lib.hid (HR.out.below b3)
 clear C1 b3 HH
 have C := HK.out.says
 simp only [sayAll, cellsSay, qB, qW, Nat.reduceAdd, and_true] at C
 go_wp2_with fail
 generalize hW5 : World.setCell _ _ _ = W5
 have HK2 := Lib.hid ((HK.out.put 1 g8 [(0, .int .u8 0), (1, .int .u32 0), (2, .int .u32 0), (3, .int .u32 0), (4, .int .u32 0), (5, .int .u32 0), (6, .int .u32 0), (7, .bool false), (8, .int .u64 0), (9, .slice none 0 0), (10, .int .i64 0)] #[.int .u8 0, .int .u32 0, .int .u32 0, .int .u32 0, .int .u32 0, .int .u32 0, .int .u32 0, .bool false, .int .u64 0, .slice none 0 0, .int .i64 0] (by simp only [apBut, apAll, qB, qW, and_true]; omega)).putTo 0 g9 [(0, .int .u32 0), (1, .int .u32 0), (2, .int .u32 0)] #[.int .u32 0, .int .u32 0, .int .u32 0] hW5 (by simp only [List.set, apBut, apAll, qB, qW, and_true]; omega))
 clear hW5 C
 have C := HK2.out.says
 simp only [sayAll, cellsSay, qB, qW, List.set, Nat.reduceAdd, and_true] at C
 exact bodyPost_ret (v := .tuple #[.agg (frC zeroF none 0), plV 0 0 0, .int .u16 122]) (by simp [results, Tryz.results24, go_sem, C, frC, zeroF]) rfl ⟨⟨none, 0, rfl, OwnB.nil _ _⟩, HK2.out.top 3⟩
set_option maxHeartbeats 4000000 in
theorem bCut_end {w : World} {X : Bl} (h : RdK w X) (ok : OkB X) (x : Nat) (hx : x < 4294967296) (pc pb pn : Nat) (most : Int) (hpc : pc < 4294967296) (hpb : pb < 4294967296) (hpn : pn < 4294967296) (hh : hasC (X.D.at_ x) pc pb pn = true) (he : (pc, pb, pn) = endC (X.D.at_ x)) :
  Calls Tryz.prog 24 #[prB X, .int .u32 (x : Nat), plV pc pb pn, .int .i64 most] w (CutO w (zeroF, (pc, pb, pn), 0)) := by
 have hmx : Tryz.prog.follows .mixedOrders = true := by kernel_rfl
 obtain ⟨W, hW⟩ : ∃ W, W = cutW w pc pb pn := ⟨_, rfl⟩
 obtain ⟨g6, h6⟩ : ∃ g, g = w.heap.size := ⟨_, rfl⟩
 obtain ⟨g8, h8⟩ : ∃ g, g = w.heap.size + 1 := ⟨_, rfl⟩
 obtain ⟨g9, h9⟩ : ∃ g, g = w.heap.size + 1 + 1 := ⟨_, rfl⟩
 have HK := Lib.hid (cut_k w pc pb pn g6 g8 g9 h6 h8 h9)
 rw [← hW] at HK
 have bW : Below w.heap.size w W := HK.out.top 3
 have HN := Lib.hid (bser_any (h.below bW) ok x hx)
 have HP := Lib.hid (And.intro hpc (And.intro hpb hpn))
 obtain ⟨CC, hC⟩ : ∃ C, C = X.D.at_ x := ⟨_, rfl⟩
 rw [← hC] at HN hh he
 have HC := Lib.hid hh
 have HE := Lib.hid he
 clear hh he
 unfold cutW at hW
 have q1 : w.heap.size ≤ g6 := by omega
 have q2 : g6 < g8 := by omega
 have q3 : g8 < g9 := by omega
 clear h ok bW hpc hpb hpn hC
 go_enter Tryz.func24, Tryz.ntmps24
 go_upto_region 1 with fail
 rw [← hW, ← h9, ← h8, ← h6]
 clear hW h9 h8 h6
 go_upto_region 2 with (go_at_call 29; refine HN.out.mono ?_; rintro e w2 ⟨s, rfl, hR, b2⟩)
 have hH := bhas_any hR.rd hR.ok.pn hR.ne hR.few hR.each pc pb pn HP.out.1 HP.out.2.1 HP.out.2.2
 rw [hR.has, HC.out] at hH
 have HH := Lib.hid hH
 replace HK := Lib.hid (HK.out.go b2)
 have HR := Lib.hid hR
 have C1 : cellsSay w2 g6 0 [.int .u32 (pc : Nat), .int .u32 (pb : Nat), .int .u32 (pn : Nat)] := cells_say (HK.out.blk 2) _ 0 rfl
 simp only [cellsSay, Nat.reduceAdd, and_true] at C1
 clear hH hR b2 HN
 go_upto_region 4 with (go_at_call 35; refine HH.out.mono ?_; rintro e w3 ⟨rfl, b3⟩)
 replace HK := Lib.hid (HK.out.go b3)
 replace HR := Lib.hid (HR.out.below b3)
 clear C1 b3 HH
 have C := HK.out.says
 simp only [sayAll, cellsSay, qB, qW, Nat.reduceAdd, and_true] at C
 obtain ⟨p, hp, hpL⟩ := HR.out.last
 have hm := List.mem_of_getLast? hp
 have hE := fun (y : More) => ext_of (bend_any (HR.out.rd.below (plus_below w3 y)) hp HR.out.ok.pn HR.out.few (HR.out.each p hm).1 (HR.out.each p hm).2)
 rw [hpL, HR.out.len, show CC.length - 1 = (endC CC).1 from rfl, show endN (lastL CC) (lastL CC).length = (endC CC).2.1 from rfl, show (lastL CC).length = (endC CC).2.2 from rfl] at hE
 rw [← HE.out] at hE
 have HEnd := Lib.hid hE
 have hQ := fun w => eqPlB_run pc pb pn pc pb pn w
 have C6 : ∀ y : More, cellsSay (plus w3 y) g6 0 [.int .u32 (pc : Nat), .int .u32 (pb : Nat), .int .u32 (pn : Nat)] := fun y => cells_say (((HK.out.blk 2)).below (plus_below w3 y) (HK.out.blk 2).lt) _ 0 rfl
 simp only [cellsSay, Nat.reduceAdd, and_true] at C6
 clear hE hp hpL hm C
 refine wp_region_ext (by kernel_rfl) (by kernel_rfl) ?_
 repeat (go_big_quiet_step ((go_at_call 37; exact HEnd.out _)))
 refine wpQuiet_nil ?_
 rintro w7 ⟨y, rfl⟩
 replace HK := Lib.hid (HK.out.go (plus_below w3 y))
 generalize plus w3 y = W4 at HK ⊢
 clear C6 HEnd hQ
 have C := HK.out.says
 simp only [sayAll, cellsSay, qB, qW, Nat.reduceAdd, and_true] at C
 have dq : W4.cell? ⟨g6, 0, none⟩ = some (.int .u32 (pc : Nat)) ∧ W4.cell? ⟨g6, 1, none⟩ = some (.int .u32 (pb : Nat)) ∧ W4.cell? ⟨g6, 2, none⟩ = some (.int .u32 (pn : Nat)) := ⟨(HK.out.blk 2).cell 0, (HK.out.blk 2).cell 1, (HK.out.blk 2).cell 2⟩
 go_upto_region 5 with fail
 have nf1 := fun (W : World) (i j : Nat) (u : Value) => World.cell?_setCell_far W ⟨g8, i, none⟩ ⟨g6, j, none⟩ u (by simp <;> omega)
 have nf2 := fun (W : World) (i j : Nat) (u : Value) => World.cell?_setCell_far W ⟨g9, i, none⟩ ⟨g6, j, none⟩ u (by simp <;> omega)
 have ndr : ∀ (W : World) (a : Addr), W.drew.cell? a = W.cell? a := fun _ _ => rfl
 go_region_held3 (fun w' => w'.cell? ⟨g6, 0, none⟩ = some (.int .u32 (pc : Nat)) ∧ w'.cell? ⟨g6, 1, none⟩ = some (.int .u32 (pb : Nat)) ∧ w'.cell? ⟨g6, 2, none⟩ = some (.int .u32 (pn : Nat))) (first | (simp only [ndr]; with_reducible exact dq) | (simp only [ndr, nf1, nf2]; with_reducible exact dq)) (fail)
 go_wp2_with fail
 generalize hW5 : World.setCell _ _ _ = W5
 clear dq nf1 nf2 ndr
 have HK2 := Lib.hid ((HK.out.put 1 g8 [(0, .int .u8 0), (1, .int .u32 0), (2, .int .u32 0), (3, .int .u32 0), (4, .int .u32 0), (5, .int .u32 0), (6, .int .u32 0), (7, .bool false), (8, .int .u64 0), (9, .slice none 0 0), (10, .int .i64 0)] #[.int .u8 0, .int .u32 0, .int .u32 0, .int .u32 0, .int .u32 0, .int .u32 0, .int .u32 0, .bool false, .int .u64 0, .slice none 0 0, .int .i64 0] (by simp only [apBut, apAll, qB, qW, and_true]; omega)).putTo 0 g9 [(0, .int .u32 (pc : Nat)), (1, .int .u32 (pb : Nat)), (2, .int .u32 (pn : Nat))] #[.int .u32 (pc : Nat), .int .u32 (pb : Nat), .int .u32 (pn : Nat)] hW5 (by simp only [List.set, apBut, apAll, qB, qW, and_true]; omega))
 clear hW5 C
 have C := HK2.out.says
 simp only [sayAll, cellsSay, qB, qW, List.set, Nat.reduceAdd, and_true] at C
 exact bodyPost_ret (v := .tuple #[.agg (frC zeroF none 0), plV pc pb pn, .int .u16 0]) (by simp [results, Tryz.results24, go_sem, C, frC, zeroF]) rfl ⟨⟨none, 0, rfl, OwnB.nil _ _⟩, (HK2.out.top 3).drew⟩
end Go.Proofs.YtmcdollkmlcpbaaGreatDoor
