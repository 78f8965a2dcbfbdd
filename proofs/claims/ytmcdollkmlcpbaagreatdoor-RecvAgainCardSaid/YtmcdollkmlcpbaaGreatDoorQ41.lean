/- Joined: Bk17, Bk18, Bk19. -/
import Derived.Test.YtmcdollkmlcpbaaGreatDoorQ40
import Derived.Test.YtmcdollkmlcpbaaGreatDoorQ9
import Derived.Deep.CutBlock
import Derived.Test.YtmcdollkmlcpbaaGreatDoorQ15
import Derived.Test.YtmcdollkmlcpbaaGreatDoorQ33
set_option linter.unusedSimpArgs false
set_option linter.unusedVariables false
set_option linter.unusedSimpArgs false
set_option linter.unusedVariables false
namespace Go.Proofs.YtmcdollkmlcpbaaGreatDoor
open Go.RowKit
set_option maxRecDepth 100000
theorem cutGo_yes {L : List Sm} {a c : Nat} {most : Int} (h : c < L.length) (h2 : ((endN L (c + 1) : Nat) : Int) - ((endN L a : Nat) : Int) ≤ most) : cutGo L a most (L.length - c) c = cutGo L a most (L.length - (c + 1)) (c + 1) := by
 obtain ⟨f, hf⟩ : ∃ f, L.length - c = f + 1 := ⟨L.length - c - 1, by omega⟩
 rw [hf, show L.length - (c + 1) = f by omega]
 conv => lhs; unfold cutGo
 rw [if_pos ⟨h, h2⟩]
theorem cutGo_no {L : List Sm} {a c : Nat} {most : Int} (h : ¬ (c < L.length ∧ ((endN L (c + 1) : Nat) : Int) - ((endN L a : Nat) : Int) ≤ most)) (f : Nat) : cutGo L a most f c = c := by
 cases f with
 | zero => rfl
 | succ f => unfold cutGo; rw [if_neg h]
theorem sumC_at {C : CsT} {pc pb : Nat} {L : List Sm} (h : C[pc]? = some L) : sumC C pc pb = moreR 0 ((bitsL L).take pb) := by unfold sumC; rw [h]; rfl
set_option maxHeartbeats 16000000 in
theorem bCut_some {w : World} {X : Bl} (h : RdK w X) (ok : OkB X) (x : Nat) (hx : x < 4294967296) (pc pb pn : Nat) (most : Int) (hpc : pc < 4294967296) (hpb : pb < 4294967296) (hpn : pn < 4294967296) (hh : hasC (X.D.at_ x) pc pb pn = true) (he : (pc, pb, pn) ≠ endC (X.D.at_ x)) (hmo : in64 most) :
  Calls Tryz.prog 24 #[prB X, .int .u32 (x : Nat), plV pc pb pn, .int .i64 most] w (CutO w (cutF x (X.D.at_ x) pc pb pn most)) := by
 unfold cutF
 rw [if_neg (by rw [hh]; decide), if_neg he]
 obtain ⟨L, hL, hpl, hpe, hpl2⟩ := hasC_true hh
 rw [hL, Option.getD_some]
 have hplt : pn < L.length := by
  rcases Nat.lt_or_ge pn L.length with h1 | h1
  ·exact h1
  ·exfalso
   have h2 : ¬ pc + 1 < (X.D.at_ x).length := fun h3 => by have := hpl2 h3; omega
   have h3 := (List.getElem?_eq_some_iff.1 hL).1
   have h4 : pc = (X.D.at_ x).length - 1 := by omega
   have h5 : lastL (X.D.at_ x) = L := by unfold lastL; rw [List.getLast?_eq_getElem?, ← h4, hL]; rfl
   exact he (by unfold endC; rw [h5, hpe, ← h4, show pn = L.length by omega])
 obtain ⟨K, hKK⟩ : ∃ K, K = cutTo L pn most := ⟨_, rfl⟩
 rw [← hKK]
 have hL1 : L.length ≤ 1000 := (ok.D.at_ x).lenL (List.mem_of_getElem? hL)
 have hL2 : InC L := (ok.D.at_ x).incL (List.mem_of_getElem? hL)
 have hK1 : pn < K ∧ K ≤ L.length := by rw [hKK]; exact cutTo_le hplt
 obtain ⟨Z, hZ⟩ : ∃ Z, Z = sumC (X.D.at_ x) pc pb := ⟨_, rfl⟩
 rw [← hZ]
 rw [sumC_at hL] at hZ
 obtain ⟨cb, hcb⟩ : ∃ cb, cb = clB (X.D.at_ x) pc K := ⟨_, rfl⟩
 rw [← hcb]
 unfold clB at hcb
 rw [hL, Option.getD_some] at hcb
 obtain ⟨⟨e1, e2, e3⟩, hee⟩ : ∃ E, E = endC (X.D.at_ x) := ⟨_, rfl⟩
 rw [← hee] at he
 obtain ⟨R, hRes⟩ : ∃ R : FrD × (Nat × Nat × Nat) × Nat, R = (⟨0, 0, x, pc, pb, pn, K, cb, Z, pack (cutB L pn K), ((cutB L pn K).length : Nat)⟩, if cb then (pc + 1, 0, 0) else (pc, endN L K, K), 0) := ⟨_, rfl⟩
 have HRes := Lib.hid hRes
 rw [← hRes]
 clear hRes
 have hd0 : decide ((pc, pb, pn) = (e1, e2, e3)) = false := decide_eq_false he
 have hmx : Tryz.prog.follows .mixedOrders = true := by kernel_rfl
 obtain ⟨W, hW⟩ : ∃ W, W = cutW w pc pb pn := ⟨_, rfl⟩
 obtain ⟨g6, h6⟩ : ∃ g, g = w.heap.size := ⟨_, rfl⟩
 obtain ⟨g8, h8⟩ : ∃ g, g = w.heap.size + 1 := ⟨_, rfl⟩
 obtain ⟨g9, h9⟩ : ∃ g, g = w.heap.size + 1 + 1 := ⟨_, rfl⟩
 have HK := Lib.hid (cut_k w pc pb pn g6 g8 g9 h6 h8 h9)
 rw [← hW] at HK
 have bW : Below w.heap.size w W := HK.out.top 3
 have HN := Lib.hid (bser_any (h.below bW) ok x hx)
 have HP := Lib.hid (And.intro hpc (And.intro hpb hpn))
 obtain ⟨CC, hC⟩ : ∃ C, C = X.D.at_ x := ⟨_, rfl⟩
 rw [← hC] at HN hh hL hee hcb
 have HC := Lib.hid hh
 have HD := Lib.hid (And.intro hL (And.intro hpe (And.intro hKK (And.intro hL1 (And.intro hL2 (And.intro hZ hcb))))))
 have HE := Lib.hid hee
 clear hh hL hpe hKK hL1 hL2 hZ hee hpl2 he hcb
 unfold cutW at hW
 have q1 : w.heap.size ≤ g6 := by omega
 have q2 : g6 < g8 := by omega
 have q3 : g8 < g9 := by omega
 clear h ok bW hpc hpb hpn hC
 go_enter Tryz.func24, Tryz.ntmps24
 go_upto_region 1 with fail
 rw [← hW, ← h9, ← h8, ← h6]
 clear hW h9 h8 h6
 go_upto_region 2 with (go_at_call 29; refine HN.out.mono ?_; rintro e w2 ⟨s, rfl, hR, b2⟩)
 have hH := bhas_any hR.rd hR.ok.pn hR.ne hR.few hR.each pc pb pn HP.out.1 HP.out.2.1 HP.out.2.2
 rw [hR.has, HC.out] at hH
 have HH := Lib.hid hH
 replace HK := Lib.hid (HK.out.go b2)
 have HR := Lib.hid hR
 have C1 : cellsSay w2 g6 0 [.int .u32 (pc : Nat), .int .u32 (pb : Nat), .int .u32 (pn : Nat)] := cells_say (HK.out.blk 2) _ 0 rfl
 simp only [cellsSay, Nat.reduceAdd, and_true] at C1
 clear hH hR b2 HN
 go_upto_region 4 with (go_at_call 35; refine HH.out.mono ?_; rintro e w3 ⟨rfl, b3⟩)
 replace HK := Lib.hid (HK.out.go b3)
 replace HR := Lib.hid (HR.out.below b3)
 clear C1 b3 HH
 have C := HK.out.says
 simp only [sayAll, cellsSay, qB, qW, Nat.reduceAdd, and_true] at C
 obtain ⟨p, hp, hpL⟩ := HR.out.last
 have hm := List.mem_of_getLast? hp
 have hE := fun (y : More) => ext_of (bend_any (HR.out.rd.below (plus_below w3 y)) hp HR.out.ok.pn HR.out.few (HR.out.each p hm).1 (HR.out.each p hm).2)
 rw [hpL, HR.out.len, show CC.length - 1 = (endC CC).1 from rfl, show endN (lastL CC) (lastL CC).length = (endC CC).2.1 from rfl, show (lastL CC).length = (endC CC).2.2 from rfl] at hE
 rw [← HE.out] at hE
 have HEnd := Lib.hid hE
 have hQ := fun w => eqPlB_run pc pb pn e1 e2 e3 w
 rw [hd0] at hQ
 have C6 : ∀ y : More, cellsSay (plus w3 y) g6 0 [.int .u32 (pc : Nat), .int .u32 (pb : Nat), .int .u32 (pn : Nat)] := fun y => cells_say (((HK.out.blk 2)).below (plus_below w3 y) (HK.out.blk 2).lt) _ 0 rfl
 simp only [cellsSay, Nat.reduceAdd, and_true] at C6
 clear hE hp hpL hm C hd0
 refine wp_region_ext (by kernel_rfl) (by kernel_rfl) ?_
 repeat (go_big_quiet_step ((go_at_call 37; exact HEnd.out _)))
 refine wpQuiet_nil ?_
 rintro w7 ⟨y, rfl⟩
 replace HK := Lib.hid (HK.out.go (plus_below w3 y))
 replace HR := Lib.hid (HR.out.below (plus_below w3 y))
 generalize plus w3 y = W4 at HK HR ⊢
 clear C6 HEnd hQ HE
 go_upto_region 6 with fail
 replace HK := Lib.hid (HK.out.cons (k := qW W4 W4.heap.size (Nat.le_refl _)) ⟨Below.refl _ _, Nat.le_refl _⟩)
 obtain ⟨⟨pL, ah, A, cA, E, cE⟩, hp, hpL⟩ := HR.out.get HD.out.1
 simp only at hpL
 subst hpL
 obtain ⟨gp, hCC⟩ := HR.out.rd.cells4 HR.out.ok.pn hp
 have hpcn : pc < s.ps.length := (List.getElem?_eq_some_iff.1 hp).1
 have Hp := Lib.hid hp
 clear hp p
 obtain ⟨L, hLe⟩ : ∃ L, L = pL := ⟨_, rfl⟩
 subst hLe
 obtain ⟨n, hn⟩ : ∃ n, n = s.ps.length := ⟨_, rfl⟩
 obtain ⟨la, hla⟩ : ∃ a, a = (pack (bitsL L)).length := ⟨_, rfl⟩
 obtain ⟨bn, hbn⟩ : ∃ a, a = (bitsL L).length := ⟨_, rfl⟩
 obtain ⟨ln, hln⟩ : ∃ a, a = L.length := ⟨_, rfl⟩
 simp only at hCC
 rw [← hn, ← hla, ← hbn, ← hln] at hCC
 rw [← hn] at hpcn
 rw [← hln] at hplt hpl hK1
 have HI := Lib.hid (And.intro hn (And.intro hla (And.intro hbn hln)))
 have C0 := fun y => (hCC y).1
 have C1 := fun y => (hCC y).2.1
 have C2 := fun y => (hCC y).2.2.1
 have C3 := fun y => (hCC y).2.2.2.1
 have C4 := fun y => (hCC y).2.2.2.2
 have C5 : ∀ y : More, cellsSay (plus W4 y) g6 0 [.int .u32 (pc : Nat), .int .u32 (pb : Nat), .int .u32 (pn : Nat)] := fun y => cells_say ((HK.out.blk 3).below (plus_below W4 y) (HK.out.blk 3).lt) _ 0 rfl
 simp only [cellsSay, Nat.reduceAdd, and_true] at C5
 clear hCC hn hla hbn hln
 refine wp_region_fresh_tail 9 [] [1, 6, 8] (fun k V z => if k = 1 then V = .pointer (some ⟨s.g, 0, none⟩) else if k = 6 then V = .pointer (some ⟨gp, pc * 4, none⟩) else ∃ g, V = .pointer (some ⟨g, 0, none⟩) ∧ Blk z g 95 #[.slice none 0 0, .int .i64 0, .slice none 0 0, .int .i64 0] ∧ W4.heap.size ≤ g) hmx (by kernel_rfl) (by kernel_rfl) ?_
 simp only [List.take_succ_cons, List.take_zero, List.drop_succ_cons, List.drop_zero]
 refine walkF_one none W4 rfl (by kernel_rfl) ?_; go_big_quiet_step (fail); refine wpQuiet_nil ?_
 refine walkF_make none W4 rfl rfl rfl (by kernel_rfl) (fun y => ?_) ?_
 ·refine grow_val (v := .pointer (some ⟨s.g, 0, none⟩)) (w' := plus W4 y) ?_ (Below.refl _ _) ?_
  ·simp [execOp, go_sem]
  ·exact rfl
 intro V1 z1 hV1 g1
 obtain rfl : V1 = .pointer (some ⟨s.g, 0, none⟩) := hV1
 conv => arg 11; simp [Act.put]
 iterate 4 (refine walkF_one none W4 rfl (by kernel_rfl) ?_; go_big_quiet_step (fail); refine wpQuiet_nil ?_)
 refine walkF_make none W4 rfl rfl rfl (by kernel_rfl) (fun y => ?_) ?_
 ·refine grow_val (v := .pointer (some ⟨gp, pc * 4, none⟩)) (w' := plus W4 y) ?_ (Below.refl _ _) ?_
  ·have k1 : (pc : Int) < (n : Int) := by omega
   simp [execOp, go_sem, k1]
  ·exact rfl
 intro V6 z6 hV6 g6'
 obtain rfl : V6 = .pointer (some ⟨gp, pc * 4, none⟩) := hV6
 conv => arg 11; simp [Act.put]
 refine walkF_one none W4 rfl (by kernel_rfl) ?_; go_big_quiet_step (fail); refine wpQuiet_nil ?_
 refine walkF_make none W4 rfl rfl rfl (by kernel_rfl) (fun y => ?_) ?_
 ·have hr : ∀ w' : World, (execOp (Act.eval { tmps := #[], defers := [] }) { dst := none, op := .alloc 95, type := 0, pos := "", after := #[], guard := none }).run Tryz.prog w' = .ok (.value (.pointer (some ⟨w'.heap.size, 0, none⟩))) (w'.alloc (.cells #[.slice none 0 0, .int .i64 0, .slice none 0 0, .int .i64 0] 95)) := fun w' => by simp [execOp, go_sem]
  have hr2 := hr (plus W4 y)
  unfold growUpon
  simp only [execOp] at hr2 ⊢
  rw [hr2]
  exact ⟨below_alloc _ _, _, rfl, Blk.new _ _ _, (plus_below W4 y).size⟩
 intro V8 z8 hV8 g8'
 obtain ⟨gl, rfl, b8, s8⟩ : ∃ g, V8 = .pointer (some ⟨g, 0, none⟩) ∧ Blk z8 g 95 #[.slice none 0 0, .int .i64 0, .slice none 0 0, .int .i64 0] ∧ W4.heap.size ≤ g := hV8
 conv => arg 11; simp [Act.put]
 refine walkF_end ?_
 intro V h0 hE
 have hKn := (HK.out.go h0).cons (k := qB gl 95 #[.slice none 0 0, .int .i64 0, .slice none 0 0, .int .i64 0]) (b8.below (hE 8) b8.lt)
 have C : cellsSay V gl 0 [.slice none 0 0, .int .i64 0, .slice none 0 0, .int .i64 0] := cells_say (hKn.blk 0) _ 0 rfl
 simp only [cellsSay, Nat.reduceAdd, and_true] at C
 have q4 : g9 < gl := by have := (HK.out.blk 1).lt; omega
 have HKn := Lib.hid hKn
 clear hE g1 g6' g8' b8 hKn C0 C1 C2 C3 C4 C5 h0 HK
 go_upto_region 7 with fail
 generalize hW5 : World.setCell _ _ _ = W5
 have HK := Lib.hid (HKn.out.putTo 0 gl [(0, .slice A la cA), (1, .int .i64 (bn : Nat)), (2, .slice E ln cE), (3, .int .i64 (ah : Nat))] #[.slice A la cA, .int .i64 (bn : Nat), .slice E ln cE, .int .i64 (ah : Nat)] hW5 (by simp only [List.set, apBut, apAll, qB, qW, and_true]; omega))
 clear hW5 HKn C z1 z6 z8 V
 have C := HK.out.says
 simp only [sayAll, cellsSay, qB, qW, List.set, Nat.reduceAdd, and_true] at C
 have hsz5 := (HK.out.top 1).size
 have HR5 := Lib.hid (HR.out.below (HK.out.top 1))
 obtain ⟨ge, hge, -⟩ := HR5.out.rd.end_ (List.mem_of_getElem? Hp.out) (j := pn) (by have := HI.out.2.2.2; simp only; omega)
 simp only at hge
 subst hge
 have l1 : ln ≤ 1000 := by have h1 := HD.out.2.2.2.1; have h2 := HI.out.2.2.2; omega
 clear C
 have C := (HK.out.tail.tail).says
 clear C
 have C := cells_say (HK.out.blk 0) _ 0 rfl
 have C6 := cells_say (HK.out.blk 4) _ 0 rfl
 simp only [cellsSay, List.drop_zero, Nat.reduceAdd, and_true] at C C6
 go_upto_block 1 with fail
 go_cut [13] (fun s13 wx => s13 = .int .i64 (K : Nat) ∧ Hid (Below W5.heap.size W5 wx))
 case first =>
  go_wp2_with fail
  go_loopw [13] (fun s13 wr => ∃ c : Nat, s13 = .int .i64 (c : Nat) ∧ pn + 1 ≤ c ∧ c ≤ ln ∧ Hid (cutGo L pn most (L.length - c) c = K) ∧ Hid (Below W5.heap.size W5 wr))
   (fun s13 _ => ln - (intOf s13).toNat)
  case atStart => exact ⟨pn + 1, by go_num, Nat.le_refl _, by omega, Lib.hid (by rw [HD.out.2.2.1]; rfl), Lib.hid (Below.refl _ _)⟩
  case round =>
   obtain ⟨c, rfl, hc1, hc2, HG, HB⟩ := hrel
   clear C C6
   have C1 : ∀ y : More, cellsSay (plus wr y) gl 0 [.slice A la cA, .int .i64 (bn : Nat), .slice (some ⟨ge, 0, none⟩) ln cE, .int .i64 (ah : Nat)] := fun y => cells_say (((HK.out.go HB.out).go (plus_below wr y)).blk 0) _ 0 rfl
   have C2 : ∀ y : More, cellsSay (plus wr y) g6 0 [.int .u32 (pc : Nat), .int .u32 (pb : Nat), .int .u32 (pn : Nat)] := fun y => cells_say (((HK.out.go HB.out).go (plus_below wr y)).blk 4) _ 0 rfl
   simp only [cellsSay, Nat.reduceAdd, and_true] at C1 C2
   have pb1 : pb ≤ 146000 := by rw [HD.out.2.1]; exact endN_small HD.out.2.2.2.1 HD.out.2.2.2.2.1 _
   by_cases hcl : c < ln
   ·obtain ⟨v, hv⟩ : ∃ v, v = endN L (c + 1) := ⟨_, rfl⟩
    have hvs : v ≤ 146000 := by rw [hv]; exact endN_small HD.out.2.2.2.1 HD.out.2.2.2.2.1 _
    have C3 : ∀ y : More, (plus wr y).cell? ⟨ge, c, none⟩ = some (.int .i64 (v : Nat)) := fun y => by
     obtain ⟨ge2, hge2, hc3⟩ := ((HR5.out.below HB.out).below (plus_below wr y)).rd.end_ (List.mem_of_getElem? Hp.out) (j := c) (by have := HI.out.2.2.2; simp only; omega)
     simp only at hge2 hc3
     injection hge2 with hge2
     injection hge2 with hge2
     subst hge2
     rw [hv]
     exact hc3
    have HV := Lib.hid hv
    clear hv
    by_cases hle : (v : Int) - (pb : Int) ≤ most
    ·have HG2 : Hid (cutGo L pn most (L.length - (c + 1)) (c + 1) = K) := Lib.hid (by
      rw [← HG.out]
      exact (cutGo_yes (by have := HI.out.2.2.2; omega) (by rw [← HV.out, ← HD.out.2.1]; exact hle)).symm)
     have hd : decide ((v : Int) - (pb : Int) ≤ most) = true := decide_eq_true hle
     have hd2 : decide ((c : Int) < (ln : Int)) = true := decide_eq_true (by omega)
     clear hle HG
     go_wp2_with fail
     refine wp_region_ext (by kernel_rfl) (by kernel_rfl) ?_
     repeat (go_big_quiet_step (fail))
     refine wpQuiet_nil ?_
     rintro w7 ⟨y, rfl⟩
     clear C1 C2 C3
     go_wp2_with fail
     go_roundw
     case measure => simp [intOf]; omega
     case rel => exact ⟨c + 1, by go_num, by omega, by omega, HG2, Lib.hid (HB.out.trans ((plus_below wr y).mono HB.out.size))⟩
    ·obtain rfl : c = K := by rw [← HG.out]; exact (cutGo_no (fun h => hle (by rw [HV.out, HD.out.2.1]; exact h.2)) _).symm
     have hd : decide ((v : Int) - (pb : Int) ≤ most) = false := decide_eq_false hle
     have hd2 : decide ((c : Int) < (ln : Int)) = true := decide_eq_true (by omega)
     clear hle HG
     go_wp2_with fail
     refine wp_region_ext (by kernel_rfl) (by kernel_rfl) ?_
     repeat (go_big_quiet_step (fail))
     refine wpQuiet_nil ?_
     rintro w7 ⟨y, rfl⟩
     clear C1 C2 C3
     go_wp2_with fail
     go_meet
     exact ⟨rfl, Lib.hid (HB.out.trans ((plus_below wr y).mono HB.out.size))⟩
   ·obtain rfl : c = K := by rw [← HG.out]; exact (cutGo_no (fun h => hcl (by have := HI.out.2.2.2; omega)) _).symm
    have hd2 : decide ((c : Int) < (ln : Int)) = false := decide_eq_false (by omega)
    clear HG
    go_wp2_with fail
    refine wp_region_ext (by kernel_rfl) (by kernel_rfl) ?_
    repeat (go_big_quiet_step (fail))
    refine wpQuiet_nil ?_
    rintro w7 ⟨y, rfl⟩
    clear C1 C2
    go_wp2_with fail
    go_meet
    exact ⟨rfl, Lib.hid (HB.out.trans ((plus_below wr y).mono HB.out.size))⟩
 case rest =>
  obtain ⟨rfl, HBc⟩ := hcut
  clear C
  have pcb := HP.out.1
  have pbb : pb ≤ 146000 := by rw [HD.out.2.1]; exact endN_small HD.out.2.2.2.1 HD.out.2.2.2.2.1 _
  have hK2 := HK.out.go HBc.out
  have HRc := Lib.hid (HR5.out.below HBc.out)
  have hPl := bplace_any HRc.out.rd Hp.out HRc.out.ok.pn HRc.out.few HD.out.2.2.2.1 HD.out.2.2.2.2.1 K (by have := HI.out.2.2.2; simp only; omega)
  obtain ⟨t2, ht2⟩ : ∃ t, t = endN L K := ⟨_, rfl⟩
  simp only at hPl
  rw [← ht2] at hPl
  have HPl := Lib.hid hPl
  have C := cells_say (hK2.blk 4) _ 0 rfl
  simp only [cellsSay, List.drop_zero, Nat.reduceAdd, and_true] at C
  have HT2 := Lib.hid ht2
  have HKc := Lib.hid hK2
  clear C6 hPl ht2 hK2 HK HR5
  go_upto_region 11 with (go_at_call 41; refine HPl.out.mono ?_; rintro e w5 ⟨rfl, b5⟩)
  have hK6 := (HKc.out.go b5).box #[.int .u32 (pc : Nat), .int .u32 (t2 : Nat), .int .u32 (K : Nat)] 36
  generalize hW6 : World.alloc _ _ = W6 at hK6 ⊢
  obtain ⟨g14, h14⟩ : ∃ g, g = w5.heap.size := ⟨_, rfl⟩
  have q5 : gl < g14 := by
   have h1 := b5.size
   have h3 := (HKc.out.blk 0).lt
   omega
  have q6 : W4.heap.size ≤ g14 := by omega
  have b6 : Below wc.heap.size wc W6 := by
   rw [← hW6]
   exact b5.trans ((below_alloc w5 _).mono b5.size)
  rw [← h14] at hK6 ⊢
  have HR6 := Lib.hid (HRc.out.below b6)
  have HK6 := Lib.hid hK6
  clear hK6 h14 hW6 b6 b5 HKc C HPl HRc
  have hS := fun (y : More) => bsum_any (w := plus W6 y) ⟨L, ah, A, cA, some ⟨ge, 0, none⟩, cE⟩ pc pb pn ((HR6.out.rd.below (plus_below W6 y)).bits _ (List.mem_of_getElem? Hp.out)).bs (bits_small HD.out.2.2.2.1 HD.out.2.2.2.2.1) (by rw [HD.out.2.1]; exact endN_le _ _)
  simp only [encPm] at hS
  rw [← HD.out.2.2.2.2.2.1, ← HI.out.2.1, ← HI.out.2.2.1, ← HI.out.2.2.2] at hS
  have HS := Lib.hid hS
  have C1 : ∀ y : More, cellsSay (plus W6 y) gl 0 [.slice A la cA, .int .i64 (bn : Nat), .slice (some ⟨ge, 0, none⟩) ln cE, .int .i64 (ah : Nat)] := fun y => cells_say ((HK6.out.go (plus_below W6 y)).blk 1) _ 0 rfl
  have C2 : ∀ y : More, cellsSay (plus W6 y) g6 0 [.int .u32 (pc : Nat), .int .u32 (pb : Nat), .int .u32 (pn : Nat)] := fun y => cells_say ((HK6.out.go (plus_below W6 y)).blk 5) _ 0 rfl
  have C3 : ∀ y : More, cellsSay (plus W6 y) g14 0 [.int .u32 (pc : Nat), .int .u32 (t2 : Nat), .int .u32 (K : Nat)] := fun y => cells_say ((HK6.out.go (plus_below W6 y)).blk 0) _ 0 rfl
  simp only [cellsSay, Nat.reduceAdd, and_true] at C1 C2 C3
  clear hS
  refine wp_region_fresh_tail 9 [] [6, 8] (fun k V z => if k = 6 then V = .int .u64 (Z : Nat) else ∃ g, V = .pointer (some ⟨g, 0, none⟩) ∧ Blk z g 39 #[.int .u8 0, .int .u32 0, .int .u32 0, .int .u32 0, .int .u32 0, .int .u32 0, .int .u32 0, .bool false, .int .u64 0, .slice none 0 0, .int .i64 0] ∧ W6.heap.size ≤ g) hmx (by kernel_rfl) (by kernel_rfl) ?_
  simp only [List.take_succ_cons, List.take_zero, List.drop_succ_cons, List.drop_zero]
  iterate 6 (refine walkF_one none W6 rfl (by kernel_rfl) ?_; go_big_quiet_step (fail); refine wpQuiet_nil ?_)
  refine walkF_make none W6 rfl rfl rfl (by kernel_rfl) (fun y => ?_) ?_
  ·refine grow_call ?_ ((HS.out y).mono ?_)
   ·simp [execOp, go_sem]
   ·rintro e w4 ⟨rfl, b4⟩
    exact ⟨_, rfl, b4, rfl⟩
  intro V6 z6 hV6 g6'
  obtain rfl : V6 = .int .u64 (Z : Nat) := hV6
  conv => arg 11; simp [Act.put]
  refine walkF_one none W6 rfl (by kernel_rfl) ?_; go_big_quiet_step (fail); refine wpQuiet_nil ?_
  refine walkF_make none W6 rfl rfl rfl (by kernel_rfl) (fun y => ?_) ?_
  ·have hr : ∀ w' : World, (execOp (Act.eval { tmps := #[], defers := [] }) { dst := none, op := .alloc 39, type := 0, pos := "", after := #[], guard := none }).run Tryz.prog w' = .ok (.value (.pointer (some ⟨w'.heap.size, 0, none⟩))) (w'.alloc (.cells #[.int .u8 0, .int .u32 0, .int .u32 0, .int .u32 0, .int .u32 0, .int .u32 0, .int .u32 0, .bool false, .int .u64 0, .slice none 0 0, .int .i64 0] 39)) := fun w' => by simp [execOp, go_sem]
   have hr2 := hr (plus W6 y)
   unfold growUpon
   simp only [execOp] at hr2 ⊢
   rw [hr2]
   exact ⟨below_alloc _ _, _, rfl, Blk.new _ _ _, (plus_below W6 y).size⟩
  intro V8 z8 hV8 g8'
  obtain ⟨g15, rfl, b8, s8'⟩ : ∃ g, V8 = .pointer (some ⟨g, 0, none⟩) ∧ Blk z8 g 39 #[.int .u8 0, .int .u32 0, .int .u32 0, .int .u32 0, .int .u32 0, .int .u32 0, .int .u32 0, .bool false, .int .u64 0, .slice none 0 0, .int .i64 0] ∧ W6.heap.size ≤ g := hV8
  conv => arg 11; simp [Act.put]
  refine walkF_end ?_
  intro V h0 hE
  have hKn := (HK6.out.go h0).cons (k := qB g15 39 #[.int .u8 0, .int .u32 0, .int .u32 0, .int .u32 0, .int .u32 0, .int .u32 0, .int .u32 0, .bool false, .int .u64 0, .slice none 0 0, .int .i64 0]) (b8.below (hE 8) b8.lt)
  have C : cellsSay V g15 0 [.int .u8 0, .int .u32 0, .int .u32 0, .int .u32 0, .int .u32 0, .int .u32 0, .int .u32 0, .bool false, .int .u64 0, .slice none 0 0, .int .i64 0] := cells_say (hKn.blk 0) _ 0 rfl
  simp only [cellsSay, Nat.reduceAdd, and_true] at C
  have q7 : g14 < g15 := by have := (HK6.out.blk 0).lt; omega
  have q8 : W4.heap.size ≤ g15 := by omega
  have HKn := Lib.hid hKn
  have HRn := Lib.hid (And.intro (HR6.out.below h0) (And.intro h0 s8'))
  clear hE g6' g8' b8 hKn C1 C2 C3 h0 HK6 HS
  go_upto_region 12 with fail
  generalize hW7 : World.setCell _ _ _ = W7
  have hK7 := HKn.out.putTo 0 g15 [(0, .int .u8 0), (1, .int .u32 0), (2, .int .u32 (x : Nat)), (3, .int .u32 (pc : Nat)), (4, .int .u32 (pb : Nat)), (5, .int .u32 (pn : Nat)), (6, .int .u32 (K : Nat)), (7, .bool false), (8, .int .u64 (Z : Nat)), (9, .slice none 0 0), (10, .int .i64 0)] #[.int .u8 0, .int .u32 0, .int .u32 (x : Nat), .int .u32 (pc : Nat), .int .u32 (pb : Nat), .int .u32 (pn : Nat), .int .u32 (K : Nat), .bool false, .int .u64 (Z : Nat), .slice none 0 0, .int .i64 0] hW7 (by simp only [List.set, apBut, apAll, qB, qW, and_true]; omega)
  have HR7 := Lib.hid (HR.out.below (hK7.top 3))
  obtain ⟨lq, hlq⟩ : ∃ a, a = (pack (cutB L pn K)).length := ⟨_, rfl⟩
  obtain ⟨nq, hnq⟩ : ∃ a, a = (cutB L pn K).length := ⟨_, rfl⟩
  have hm1 : pb ≤ t2 := by rw [HD.out.2.1, HT2.out]; exact endN_mono L (by omega)
  have hm2 : t2 ≤ (bitsL L).length := by rw [HT2.out]; exact endN_le L K
  have hm3 := bits_small HD.out.2.2.2.1 HD.out.2.2.2.2.1
  have hnq2 : nq = t2 - pb := by rw [hnq, cutB_len L (by omega), HT2.out, HD.out.2.1]
  have hCt := cut_ok A cA (pack (bitsL L)) (bitsL L).length pb t2 W7 ((HR7.out.rd.bits _ (List.mem_of_getElem? Hp.out)).bs) (by have := pack_le (bitsL L) (by omega); omega) (sound_pack _) hm1 hm2
  rw [show cutl (pack (bitsL L)) pb (t2 - pb) = cutB L pn K by rw [cutl_pack _ _ _ (by omega), ← List.drop_take]; unfold cutB; rw [← HD.out.2.1, ← HT2.out], ← hlq, ← hnq2, ← HI.out.2.1, ← HI.out.2.2.1] at hCt
  have HCt := Lib.hid hCt
  have HQ := Lib.hid (And.intro hlq hnq)
  have l9 : t2 ≤ 146000 := by omega
  have C1 := cells_say (hK7.blk 2) _ 0 rfl
  have C2 := cells_say (hK7.blk 6) _ 0 rfl
  have C3 := cells_say (hK7.blk 1) _ 0 rfl
  simp only [cellsSay, List.drop_zero, Nat.reduceAdd, and_true] at C1 C2 C3
  have q9 := (hK7.blk 0).lt
  have HK7 := Lib.hid hK7
  clear hCt hlq hnq hnq2 hm2 hm3 hW7 HKn HRn C hK7 HR6
  go_upto_region 13 with (go_at_call 42; refine HCt.out.mono ?_; rintro e w8 ⟨A', c', rfl, hown, b8⟩; have C7 := cells_say ((HK7.out.go b8).blk 0) _ 0 rfl; simp only [cellsSay, List.drop_zero, Nat.reduceAdd, and_true] at C7)
  generalize hW9 : World.setCell _ _ _ = W9
  have hK9 := ((HK7.out.go b8).own_ hown).putTo 1 g15 [(9, .slice A' lq c'), (10, .int .i64 (nq : Nat))] #[.int .u8 0, .int .u32 0, .int .u32 (x : Nat), .int .u32 (pc : Nat), .int .u32 (pb : Nat), .int .u32 (pn : Nat), .int .u32 (K : Nat), .bool false, .int .u64 (Z : Nat), .slice A' lq c', .int .i64 (nq : Nat)] hW9 (by have := b8.size; simp only [List.set, apBut, apAll, qB, qW, qO, and_true]; omega)
  have HR9 := Lib.hid (HR.out.below (hK9.top 4))
  have HK9 := Lib.hid hK9
  have HL := Lib.hid (fun (y : More) => HR9.out.rd.lastP HR9.out.ok.pn HR9.out.ne HR9.out.few y)
  rw [← HI.out.1] at HL
  obtain ⟨m, hm⟩ : ∃ m, m = n - 1 := ⟨_, rfl⟩
  rw [← hm] at HL
  have hmn : m + 1 = n := by omega
  have hn6 : n ≤ 1000000 := by rw [HI.out.1]; exact HR9.out.few
  have hcb : cb = (decide (pc < m) && decide (K = ln)) := by
   rw [HD.out.2.2.2.2.2.2, ← HR9.out.len, ← HI.out.1, ← HI.out.2.2.2, Bool.decide_and]
   congr 1
   rw [decide_eq_decide]; omega
  have C5 : ∀ y : More, cellsSay (plus W9 y) gl 0 [.slice A la cA, .int .i64 (bn : Nat), .slice (some ⟨ge, 0, none⟩) ln cE, .int .i64 (ah : Nat)] := fun y => cells_say ((hK9.go (plus_below W9 y)).blk 3) _ 0 rfl
  have C6 : ∀ y : More, cellsSay (plus W9 y) g6 0 [.int .u32 (pc : Nat), .int .u32 (pb : Nat), .int .u32 (pn : Nat)] := fun y => cells_say ((hK9.go (plus_below W9 y)).blk 7) _ 0 rfl
  simp only [cellsSay, Nat.reduceAdd, and_true] at C5 C6
  have HM := Lib.hid (And.intro hmn hcb)
  clear C1 C2 C3 C7 HCt hK9 HR7 hm hmn hcb hW9 hown b8 HK7
  go_cut [104] from 92 to 104 (fun s104 wx => s104 = .bool cb ∧ Hid (Below W9.heap.size W9 wx))
  case first =>
   by_cases h1 : pc < m
   ·have d1 : decide ((pc : Int) < (m : Int)) = true := decide_eq_true (by omega)
    by_cases h2 : K = ln
    ·have d2 : ((K : Int) == (ln : Int)) = true := beq_iff_eq.2 (by omega)
     have HC2 := Lib.hid (show cb = true by rw [HM.out.2, decide_eq_true h1, decide_eq_true h2]; rfl)
     clear h2
     refine wp_region_ext (by kernel_rfl) (by kernel_rfl) ?_
     repeat (go_big_quiet_step ((go_at_call 43; exact HL.out _)))
     refine wpQuiet_nil ?_
     rintro w7 ⟨y, rfl⟩
     clear C5 C6
     go_wp2_with fail
     go_meet
     exact ⟨by rw [HC2.out], Lib.hid (plus_below W9 y)⟩
    ·have d2 : ((K : Int) == (ln : Int)) = false := beq_eq_false_iff_ne.2 (by omega)
     have HC2 := Lib.hid (show cb = false by rw [HM.out.2, decide_eq_false h2, Bool.and_false])
     clear h2
     refine wp_region_ext (by kernel_rfl) (by kernel_rfl) ?_
     repeat (go_big_quiet_step ((go_at_call 43; exact HL.out _)))
     refine wpQuiet_nil ?_
     rintro w7 ⟨y, rfl⟩
     clear C5 C6
     go_wp2_with fail
     go_meet
     exact ⟨by rw [HC2.out], Lib.hid (plus_below W9 y)⟩
   ·have d1 : decide ((pc : Int) < (m : Int)) = false := decide_eq_false (by omega)
    have HC2 := Lib.hid (show cb = false by rw [HM.out.2, decide_eq_false h1, Bool.false_and])
    refine wp_region_ext (by kernel_rfl) (by kernel_rfl) ?_
    repeat (go_big_quiet_step ((go_at_call 43; exact HL.out _)))
    refine wpQuiet_nil ?_
    rintro w7 ⟨y, rfl⟩
    clear C5 C6
    go_wp2_with fail
    go_meet
    exact ⟨by rw [HC2.out], Lib.hid (plus_below W9 y)⟩
  case rest =>
   obtain ⟨rfl, HBx⟩ := hcut
   obtain ⟨Wx, hWx⟩ : ∃ Wx, Wx = wc := ⟨_, rfl⟩
   rw [← hWx] at HBx ⊢
   clear hWx
   have hK10 := HK9.out.go HBx.out
   have HR10 := Lib.hid (HR9.out.below HBx.out)
   obtain ⟨⟨tc, tb, tn⟩, htt⟩ : ∃ T : Nat × Nat × Nat, T = if cb then (pc + 1, 0, 0) else (pc, t2, K) := ⟨_, rfl⟩
   have HTT := Lib.hid htt
   have q10 := (hK10.blk 1).lt
   have q11 : g15 < W7.heap.size := q9
   have C1 := cells_say (hK10.blk 7) _ 0 rfl
   have C2 := cells_say (hK10.blk 2) _ 0 rfl
   have C3 := cells_say (hK10.blk 1) _ 0 rfl
   simp only [cellsSay, List.drop_zero, Nat.reduceAdd, and_true] at C1 C2 C3
   have HK10 := Lib.hid hK10
   clear htt hK10 HR9 HK9 C5 C6 HL
   go_upto_if 104 with fail
   go_cut [] from 105 to 111 (fun wx => Hid (Qs wx [qO W7.heap.size w8.heap.size (.slice A' lq c') (pack (cutB L pn K)), qB g15 39 #[.int .u8 0, .int .u32 0, .int .u32 (x : Nat), .int .u32 (pc : Nat), .int .u32 (pb : Nat), .int .u32 (pn : Nat), .int .u32 (K : Nat), .bool cb, .int .u64 (Z : Nat), .slice A' lq c', .int .i64 (nq : Nat)], qB g14 36 #[.int .u32 (tc : Nat), .int .u32 (tb : Nat), .int .u32 (tn : Nat)], qB g9 36 #[.int .u32 0, .int .u32 0, .int .u32 0], qB g8 39 #[.int .u8 0, .int .u32 0, .int .u32 0, .int .u32 0, .int .u32 0, .int .u32 0, .int .u32 0, .bool false, .int .u64 0, .slice none 0 0, .int .i64 0], qW w w.heap.size (Nat.le_refl _)]))
   case first =>
    cases cb
    ·go_wp2_with fail
     go_meet
     have h1 := HTT.out
     simp only [Bool.false_eq_true, if_false, Prod.mk.injEq] at h1
     obtain ⟨rfl, rfl, rfl⟩ := h1
     exact Lib.hid ((((((Qs.nil Wx).cons (HK10.out.get 8 rfl)).cons (HK10.out.get 6 rfl)).cons (HK10.out.get 5 rfl)).cons (HK10.out.get 2 rfl)).cons (HK10.out.get 1 rfl)).cons (HK10.out.get 0 rfl)
    ·have HSt := Lib.hid (fun (V : World) => bstart_any V (prS s) (pc + 1) (by omega))
     obtain ⟨pc1, hpc1⟩ : ∃ a, a = pc + 1 := ⟨_, rfl⟩
     rw [← hpc1] at HSt
     have hv1 : (pc : Int) + 1 = (pc1 : Int) := by omega
     have hv2 : pc1 ≤ 1000000 := by omega
     have HV1 := Lib.hid hpc1
     clear hpc1
     go_upto_region 15 with fail
     generalize hWa : World.setCell _ _ _ = Wa
     have hKa := HK10.out.putTo 1 g15 [(7, .bool true)] #[.int .u8 0, .int .u32 0, .int .u32 (x : Nat), .int .u32 (pc : Nat), .int .u32 (pb : Nat), .int .u32 (pn : Nat), .int .u32 (K : Nat), .bool true, .int .u64 (Z : Nat), .slice A' lq c', .int .i64 (nq : Nat)] hWa (by simp only [List.set, apBut, apAll, qB, qW, qO, and_true]; omega)
     have HKa := Lib.hid hKa
     have C4 := cells_say (hKa.blk 7) _ 0 rfl
     simp only [cellsSay, List.drop_zero, Nat.reduceAdd, and_true] at C4
     clear C1 C2 C3 hWa hKa HK10
     go_wp2_with (go_at_call 44; refine (HSt.out _).mono ?_; rintro e wb ⟨rfl, bb⟩; have C7 := cells_say ((HKa.out.go bb).blk 2) _ 0 rfl; simp only [cellsSay, List.drop_zero, Nat.reduceAdd, and_true] at C7)
     generalize hWd : World.setCell _ _ _ = Wd
     have hKd := (HKa.out.go bb).putTo 2 g14 [(0, .int .u32 (pc1 : Nat)), (1, .int .u32 0), (2, .int .u32 0)] #[.int .u32 (pc1 : Nat), .int .u32 0, .int .u32 0] hWd (by simp only [List.set, apBut, apAll, qB, qW, qO, and_true]; omega)
     go_meet
     have h1 := HTT.out
     simp only [if_true, Prod.mk.injEq] at h1
     obtain ⟨rfl, rfl, rfl⟩ := h1
     rw [← HV1.out]
     exact Lib.hid ((((((Qs.nil Wd).cons (hKd.get 8 rfl)).cons (hKd.get 6 rfl)).cons (hKd.get 5 rfl)).cons (hKd.get 2 rfl)).cons (hKd.get 1 rfl)).cons (hKd.get 0 rfl)
   case rest =>
    have HKF := hcut
    clear hcut C1 C2 C3 HK10 HR10
    obtain ⟨Wy, hWy⟩ : ∃ Wy, Wy = wc := ⟨_, rfl⟩
    rw [← hWy] at HKF ⊢
    clear hWy
    go_upto_region 16 with fail
    have B1 := HKF.out.blk 1
    have B2 := HKF.out.blk 2
    have dq : (Wy.cell? ⟨g14, 0, none⟩ = some (.int .u32 (tc : Nat)) ∧ Wy.cell? ⟨g14, 1, none⟩ = some (.int .u32 (tb : Nat)) ∧ Wy.cell? ⟨g14, 2, none⟩ = some (.int .u32 (tn : Nat))) ∧ (Wy.cell? ⟨g15, 0, none⟩ = some (.int .u8 0) ∧ Wy.cell? ⟨g15, 1, none⟩ = some (.int .u32 0) ∧ Wy.cell? ⟨g15, 2, none⟩ = some (.int .u32 (x : Nat)) ∧ Wy.cell? ⟨g15, 3, none⟩ = some (.int .u32 (pc : Nat)) ∧ Wy.cell? ⟨g15, 4, none⟩ = some (.int .u32 (pb : Nat)) ∧ Wy.cell? ⟨g15, 5, none⟩ = some (.int .u32 (pn : Nat)) ∧ Wy.cell? ⟨g15, 6, none⟩ = some (.int .u32 (K : Nat)) ∧ Wy.cell? ⟨g15, 7, none⟩ = some (.bool cb) ∧ Wy.cell? ⟨g15, 8, none⟩ = some (.int .u64 (Z : Nat)) ∧ Wy.cell? ⟨g15, 9, none⟩ = some (.slice A' lq c') ∧ Wy.cell? ⟨g15, 10, none⟩ = some (.int .i64 (nq : Nat))) := ⟨⟨B2.cell 0, B2.cell 1, B2.cell 2⟩, B1.cell 0, B1.cell 1, B1.cell 2, B1.cell 3, B1.cell 4, B1.cell 5, B1.cell 6, B1.cell 7, B1.cell 8, B1.cell 9, B1.cell 10⟩
    have nf1 := fun (W : World) (i j : Nat) (u : Value) => World.cell?_setCell_far W ⟨g8, i, none⟩ ⟨g14, j, none⟩ u (by simp <;> omega)
    have nf2 := fun (W : World) (i j : Nat) (u : Value) => World.cell?_setCell_far W ⟨g8, i, none⟩ ⟨g15, j, none⟩ u (by simp <;> omega)
    have nf3 := fun (W : World) (i j : Nat) (u : Value) => World.cell?_setCell_far W ⟨g9, i, none⟩ ⟨g14, j, none⟩ u (by simp <;> omega)
    have nf4 := fun (W : World) (i j : Nat) (u : Value) => World.cell?_setCell_far W ⟨g9, i, none⟩ ⟨g15, j, none⟩ u (by simp <;> omega)
    have ndr : ∀ (W : World) (a : Addr), W.drew.cell? a = W.cell? a := fun _ _ => rfl
    have C := HKF.out.says
    simp only [sayAll, cellsSay, qB, qW, qO, Nat.reduceAdd, and_true, true_and] at C
    clear B1 B2
    go_region_held3 (fun w' => (w'.cell? ⟨g14, 0, none⟩ = some (.int .u32 (tc : Nat)) ∧ w'.cell? ⟨g14, 1, none⟩ = some (.int .u32 (tb : Nat)) ∧ w'.cell? ⟨g14, 2, none⟩ = some (.int .u32 (tn : Nat))) ∧ (w'.cell? ⟨g15, 0, none⟩ = some (.int .u8 0) ∧ w'.cell? ⟨g15, 1, none⟩ = some (.int .u32 0) ∧ w'.cell? ⟨g15, 2, none⟩ = some (.int .u32 (x : Nat)) ∧ w'.cell? ⟨g15, 3, none⟩ = some (.int .u32 (pc : Nat)) ∧ w'.cell? ⟨g15, 4, none⟩ = some (.int .u32 (pb : Nat)) ∧ w'.cell? ⟨g15, 5, none⟩ = some (.int .u32 (pn : Nat)) ∧ w'.cell? ⟨g15, 6, none⟩ = some (.int .u32 (K : Nat)) ∧ w'.cell? ⟨g15, 7, none⟩ = some (.bool cb) ∧ w'.cell? ⟨g15, 8, none⟩ = some (.int .u64 (Z : Nat)) ∧ w'.cell? ⟨g15, 9, none⟩ = some (.slice A' lq c') ∧ w'.cell? ⟨g15, 10, none⟩ = some (.int .i64 (nq : Nat)))) (first | (simp only [ndr]; with_reducible exact dq) | (simp only [ndr, nf1, nf2, nf3, nf4]; with_reducible exact dq)) (fail)
    go_wp2_with fail
    generalize hW5 : World.setCell _ _ _ = Wz
    have HK2 := Lib.hid ((HKF.out.put 4 g8 [(0, .int .u8 0), (1, .int .u32 0), (2, .int .u32 (x : Nat)), (3, .int .u32 (pc : Nat)), (4, .int .u32 (pb : Nat)), (5, .int .u32 (pn : Nat)), (6, .int .u32 (K : Nat)), (7, .bool cb), (8, .int .u64 (Z : Nat)), (9, .slice A' lq c'), (10, .int .i64 (nq : Nat))] #[.int .u8 0, .int .u32 0, .int .u32 (x : Nat), .int .u32 (pc : Nat), .int .u32 (pb : Nat), .int .u32 (pn : Nat), .int .u32 (K : Nat), .bool cb, .int .u64 (Z : Nat), .slice A' lq c', .int .i64 (nq : Nat)] (by simp only [apBut, apAll, qB, qW, qO, and_true]; omega)).putTo 3 g9 [(0, .int .u32 (tc : Nat)), (1, .int .u32 (tb : Nat)), (2, .int .u32 (tn : Nat))] #[.int .u32 (tc : Nat), .int .u32 (tb : Nat), .int .u32 (tn : Nat)] hW5 (by simp only [List.set, apBut, apAll, qB, qW, qO, and_true]; omega))
    clear hW5 C dq nf1 nf2 nf3 nf4
    have C := HK2.out.says
    simp only [sayAll, cellsSay, qB, qW, qO, List.set, Nat.reduceAdd, and_true, true_and] at C
    have hsub : R = (⟨0, 0, x, pc, pb, pn, K, cb, Z, pack (cutB L pn K), (nq : Nat)⟩, (tc, tb, tn), 0) := by
     rw [HRes.out, HTT.out, HQ.out.2, ← HT2.out]
    exact bodyPost_ret (v := .tuple #[.agg #[.int .u8 0, .int .u32 0, .int .u32 (x : Nat), .int .u32 (pc : Nat), .int .u32 (pb : Nat), .int .u32 (pn : Nat), .int .u32 (K : Nat), .bool cb, .int .u64 (Z : Nat), .slice A' lq c', .int .i64 (nq : Nat)], .agg #[.int .u32 (tc : Nat), .int .u32 (tb : Nat), .int .u32 (tn : Nat)], .int .u16 0]) (by simp [results, Tryz.results24, go_sem, C]) rfl ⟨⟨A', c', by rw [hsub, HQ.out.1]; rfl, by rw [hsub]; rw [HQ.out.1] at HK2; exact (show OwnB Wz W7.heap.size (.slice A' (pack (cutB L pn K)).length c') (pack (cutB L pn K)) from HK2.out.own 0).mono (by omega)⟩, (HK2.out.top 5).drew⟩
theorem bCut_any {w : World} {X : Bl} (h : RdK w X) (ok : OkB X) (x : Nat) (hx : x < 4294967296) (pc pb pn : Nat) (most : Int) (hpc : pc < 4294967296) (hpb : pb < 4294967296) (hpn : pn < 4294967296) (hmo : in64 most) :
  Calls Tryz.prog 24 #[prB X, .int .u32 (x : Nat), plV pc pb pn, .int .i64 most] w (CutO w (cutF x (X.D.at_ x) pc pb pn most)) := by
 cases hh : hasC (X.D.at_ x) pc pb pn with
 | false =>
  have e : cutF x (X.D.at_ x) pc pb pn most = (zeroF, pl0, 122) := by unfold cutF; rw [if_pos hh]
  rw [e]
  exact bCut_no h ok x hx pc pb pn most hpc hpb hpn hh
 | true =>
  by_cases he : (pc, pb, pn) = endC (X.D.at_ x)
  ·have e : cutF x (X.D.at_ x) pc pb pn most = (zeroF, (pc, pb, pn), 0) := by unfold cutF; rw [if_neg (by rw [hh]; decide), if_pos he]
   rw [e]
   exact bCut_end h ok x hx pc pb pn most hpc hpb hpn hh he
  ·exact bCut_some h ok x hx pc pb pn most hpc hpb hpn hh he hmo
end Go.Proofs.YtmcdollkmlcpbaaGreatDoor
set_option linter.unusedSimpArgs false
set_option linter.unusedVariables false
namespace Go.Proofs.YtmcdollkmlcpbaaGreatDoor
open Go.RowKit
set_option maxRecDepth 100000
structure Pr where
 A : Option Addr
 la : Nat
 c : Nat
 N : Nat
 E : Option Addr
 ln : Nat
 ec : Nat
 ah : Nat
def encPr (p : Pr) : List Value := [.slice p.A p.la p.c, .int .i64 ((p.N : Nat) : Int), .slice p.E p.ln p.ec, .int .i64 ((p.ah : Nat) : Int)]
def rawP (p : Pm) : Pr := ⟨p.A, (pack (bitsL p.L)).length, p.c, (bitsL p.L).length, p.E, p.L.length, p.ec, p.ah⟩
theorem Tryz.eltPr : Elt Tryz.prog 84 95 encPr 4 64 := ⟨Tryz.underlying84, ⟨.agg #[.slice none 0 0, .int .i64 0, .slice none 0 0, .int .i64 0], by kernel_rfl, rfl⟩, by decide, fun _ => rfl, fun x v h => by
 unfold encPr at h
 simp only [List.mem_cons, List.not_mem_nil, or_false] at h
 rcases h with rfl | rfl | rfl | rfl <;> rfl⟩
theorem row_raw (w : World) (b : Nat) (v : Value) (l : List Pm) : OwnR w b 95 encPm 4 v l = OwnR w b 95 encPr 4 v (l.map rawP) := by
 unfold OwnR
 rw [List.length_map, List.flatMap_map]
 rfl
theorem thR_raw (v : Value) (l : List Pm) : thR 95 encPm 4 v l = thR 95 encPr 4 v (l.map rawP) := Kt.ext' _ _ (funext fun w => row_raw w 0 v l) rfl
def serH (s : Sl) (rs : List Pr) (q : Pm) : List Kt := [thB s.g 90 (serC s), thR 95 encPr 4 (.slice s.PA s.pn s.pc) rs, thO (.slice q.A (pack (bitsL q.L)).length q.c) (pack (bitsL q.L)), thR 3 encI 1 (.slice q.E q.L.length q.ec) (endsI q.L)]
section
variable {B : Nat} {w0 w : World} {ts : List Kt} {s : Sl} {init : List Pm} {q : Pm}
theorem perm_ser (h : s.ps = init ++ [q]) : (serT s ++ ts).Perm (serH s (s.ps.map rawP) q ++ (init.flatMap pmT ++ ts)) := by
 unfold serT serH
 rw [thR_raw, h, List.flatMap_append]
 refine List.Perm.cons _ (List.Perm.cons _ ?_)
 show ((init.flatMap pmT ++ [q].flatMap pmT) ++ ts).Perm _
 rw [List.append_assoc]
 show (init.flatMap pmT ++ (_ :: _ :: ts)).Perm (_ :: _ :: (init.flatMap pmT ++ ts))
 exact List.perm_middle.trans (List.Perm.cons _ List.perm_middle)
theorem Sep.openS (h : Sep B w0 w (thSr s :: ts)) (hp : s.ps = init ++ [q]) : Sep B w0 w (serH s (s.ps.map rawP) q ++ (init.flatMap pmT ++ ts)) := (Sep.openB h).permB (perm_ser hp)
theorem Sep.shutS (h : Sep B w0 w (serH s (s.ps.map rawP) q ++ (init.flatMap pmT ++ ts))) (hp : s.ps = init ++ [q]) : Sep B w0 w (thSr s :: ts) := Sep.shutB (h.permB (perm_ser hp).symm)
end
theorem RdS.cells5 {V : World} {s : Sl} (h : RdS V s) (hn : s.pn = s.ps.length) {i : Nat} {p : Pm} (hp : s.ps[i]? = some p) : ∃ gp, s.PA = some ⟨gp, 0, none⟩ ∧ ∀ y : More, (plus V y).cell? ⟨s.g, 0, none⟩ = some (.slice (some ⟨gp, 0, none⟩) s.ps.length s.pc) ∧ (plus V y).cell? ⟨gp, i * 4, none⟩ = some (.slice p.A (pack (bitsL p.L)).length p.c) ∧ (plus V y).cell? ⟨gp, i * 4 + 1, none⟩ = some (.int .i64 ((bitsL p.L).length : Nat)) ∧ (plus V y).cell? ⟨gp, i * 4 + 2, none⟩ = some (.slice p.E p.L.length p.ec) ∧ (plus V y).cell? ⟨gp, i * 4 + 3, none⟩ = some (.int .i64 ((p.ah : Nat) : Int)) := by
 obtain ⟨gp, e1, -, -, -, -⟩ := h.part hp
 refine ⟨gp, e1, fun y => ⟨?_, ?_⟩⟩
 ·have := (h.below (plus_below V y)).blk.cell 0
  rw [← hn, ← e1]
  exact this
 ·obtain ⟨gp', e2, c⟩ := (h.below (plus_below V y)).part hp
  rw [e1] at e2
  injection e2 with e2
  injection e2 with e2
  subst e2
  exact c
theorem OkSl.turn {s : Sl} {init : List Pm} {q q' : Pm} (ok : OkSl s) (hp : s.ps = init ++ [q]) (ha : q'.ah = q.ah) (PA : Option Addr) (c : Nat) : OkSl ⟨s.g, PA, s.pn, c, init ++ [q'], lastC ec0 q'.L, s.fl⟩ ∧ (⟨s.g, PA, s.pn, c, init ++ [q'], lastC ec0 q'.L, s.fl⟩ : Sl).Cs = setLast s.Cs q'.L false := by
 have hC : s.Cs = init.map (·.L) ++ [q.L] := by unfold Sl.Cs; rw [hp, List.map_append]; rfl
 have hC' : (⟨s.g, PA, s.pn, c, init ++ [q'], lastC ec0 q'.L, s.fl⟩ : Sl).Cs = init.map (·.L) ++ [q'.L] := by unfold Sl.Cs; rw [List.map_append]; rfl
 refine ⟨⟨?_, ?_, ?_, ?_⟩, ?_⟩
 ·rw [ok.pn, hp, List.length_append, List.length_append]; rfl
 ·intro i p hi
  rw [hC']
  have ho := ok.ah
  rw [hp, hC] at ho
  by_cases h1 : i < init.length
  ·have h2 : (init ++ [q'])[i]? = (init ++ [q])[i]? := by rw [List.getElem?_append_left h1, List.getElem?_append_left h1]
   have h3 := ho i p (h2.symm.trans hi)
   rw [List.take_append_of_le_length (by rw [List.length_map]; omega)] at h3 ⊢
   exact h3
  ·have h2 : i = init.length := by
    have := (List.getElem?_eq_some_iff.1 hi).1
    simp at this
    omega
   subst h2
   have h3 := ho init.length q (by simp)
   have h4 : p = q' := by simpa using hi.symm
   rw [h4, ha, h3]
   rw [List.take_append_of_le_length (by rw [List.length_map]; omega), List.take_append_of_le_length (by rw [List.length_map]; omega)]
 ·rw [hC']
  unfold lastL
  rw [List.getLast?_concat]
  rfl
 ·intro x hx
  rw [hC', List.dropLast_concat] at hx
  exact ok.fl x (by rw [hC, List.dropLast_concat]; exact hx)
 ·rw [hC', hC]
  unfold setLast
  rw [List.dropLast_concat]
  rfl
theorem map_set_last {init : List Pm} {q : Pm} (r : Pr) : ((init ++ [q]).map rawP).set init.length r = init.map rawP ++ [r] := by
 rw [List.map_append, List.set_append, if_neg (by rw [List.length_map]; omega), List.length_map, Nat.sub_self]
 rfl
theorem blk_apart {w : World} {g k : Nat} {t u : TypeId} {cs cs' : Array Value} (h : Blk w g t cs) (h2 : Blk w k u cs') (ht : t ≠ u) : g ≠ k := fun e => h.only ht (by rw [e]; exact h2)
theorem own_apart {w : World} {base n size k : Nat} {e u : TypeId} {v : Value} {xs : List Value} {cs : Array Value} (h : w.ownsRow base e size v n xs) (h2 : Blk w k u cs) (ht : e ≠ u) : v.ownBlock ≠ some k := fun hv => by
 rcases h.2 with ⟨h', _⟩ | ⟨g, cap, cur, h', hb, hg, _⟩
 ·subst h'; cases hv
 ·subst h'
  injection hv with hv
  subst hv
  exact Blk.only (show Blk w g e _ from hg) ht h2
end Go.Proofs.YtmcdollkmlcpbaaGreatDoor
set_option linter.unusedSimpArgs false
set_option linter.unusedVariables false
namespace Go.Proofs.YtmcdollkmlcpbaaGreatDoor
open Go.RowKit
set_option maxRecDepth 100000
theorem sx_small {s : XV} (h : soundX s = true) : s.lead < 256 ∧ s.width < 256 := by
 unfold soundX at h
 split at h <;> simp at h <;> omega
abbrev encA (e : EC) : Value := .agg #[.int .i64 e.n, .int .i64 e.last, .int .i64 e.delta, .bool e.val.has, .int .u64 ((e.val.prev : Nat) : Int), .int .u8 ((e.val.lead : Nat) : Int), .int .u8 ((e.val.width : Nat) : Int)]
theorem cput_L (A : Option Addr) (c : Nat) (L : List Sm) (x : Sm) (w : World) (hA : Bs w A (pack (bitsL L))) (hl : L.length < 1000) (hi : InC L) (hx : in64 x.1 ∧ x.2 < 18446744073709551616) (ht : ∀ y, L.getLast? = some y → y.1 < x.1) (hT : Tab w) :
  Calls Tryz.prog 56 #[.agg #[.slice A (pack (bitsL L)).length c, .int .i64 ((bitsL L).length : Nat)], encA (lastC ec0 L), .agg #[.int .i64 x.1, .int .u64 (x.2 : Nat)]] w fun e w' => ∃ A' c', e = .returned (.tuple #[.agg #[.slice A' (pack (bitsL (L ++ [x]))).length c', .int .i64 ((bitsL (L ++ [x])).length : Nat)], encA (lastC ec0 (L ++ [x])), .int .u16 0]) ∧ OwnB w' w.heap.size (.slice A' (pack (bitsL (L ++ [x]))).length c') (pack (bitsL (L ++ [x]))) ∧ Below w.heap.size w w' := by
 have hk := rows_ok L ec0 ok0 (Int.le_refl _) (by show (0 : Int) + _ ≤ _; omega) hi
 have hn : (lastC ec0 L).n = (L.length : Nat) := by rw [hk.2.1]; show (0 : Int) + _ = _; omega
 have hb := bits_small (L := L) (by omega) hi
 have hp : (pack (bitsL L)).length ≤ 20000 := by rw [pack_length]; unfold nb; omega
 have hs := sx_small hk.1.val
 have hm : mayC (lastC ec0 L) x.1 = 0 := by
  unfold mayC
  rw [if_neg (by rw [hk.1.snd]; decide), if_neg]
  rintro ⟨h1, h2⟩
  have hne : L ≠ [] := fun e => h1 (by rw [hn, e]; rfl)
  have h3 := List.getLast?_eq_some_getLast hne
  have h4 := ht _ h3
  rw [last_time L h3] at h2
  omega
 have hR : putC (pack (bitsL L)) ((bitsL L).length : Nat) (lastC ec0 L) x.1 x.2 = (bitsL (L ++ [x]), lastC ec0 (L ++ [x]), 0) := by
  unfold putC
  rw [if_neg (by rw [sound_pack]; decide), if_neg (by rw [hm]; decide), Int.toNat_natCast, bits_pack, lastC_snoc]
  unfold bitsL
  rw [codesC_snoc]
 have := cput_any A c (pack (bitsL L)) ((bitsL L).length : Nat) (lastC ec0 L).n (lastC ec0 L).last (lastC ec0 L).delta x.1 (lastC ec0 L).val.has (lastC ec0 L).val.prev (lastC ec0 L).val.lead (lastC ec0 L).val.width x.2 w hA (by omega) (by omega) hk.1.n hk.1.last hk.1.delta hx.1 hk.1.prev hs.1 hs.2 hx.2 hT
 refine this.mono ?_
 rintro e w' ⟨⟨A', n, c', hn', he, ho⟩, b⟩
 rw [show (⟨(lastC ec0 L).n, (lastC ec0 L).last, (lastC ec0 L).delta, ⟨(lastC ec0 L).val.has, (lastC ec0 L).val.prev, (lastC ec0 L).val.lead, (lastC ec0 L).val.width⟩⟩ : EC) = lastC ec0 L from rfl, hR] at hn' he ho
 simp only at hn' he ho
 subst hn'
 exact ⟨A', c', he, ho, b⟩
end Go.Proofs.YtmcdollkmlcpbaaGreatDoor
