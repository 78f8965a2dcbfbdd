/- Joined: Nt8o, Fr9, Fr10. -/
import Derived.Test.YtpedobpbpomkaaaQ15
import Derived.Test.YtpedobpbpomkaaaQ6
import Derived.Test.YtpedobpbpomkaaaQ14
set_option linter.unusedSimpArgs false
set_option linter.unusedVariables false
/- Layer 11: the document's Decode, kind o. -/
set_option linter.unusedSimpArgs false
set_option linter.unusedVariables false
namespace Go.Proofs.Ytpedobpbpomkaaa
open Go.RowKit
set_option maxRecDepth 100000

set_option maxHeartbeats 8000000 in
theorem rndec_ko (A : Option Addr) (c : Nat) (l : List UInt8) (w : World) (hA : Bs w A l) (hc : l.length ≤ c) (hL : l.length ≤ 100000) (x0 : UInt8) (hx0 : l[0]? = some x0) (hk : x0.toNat ≠ 1 ∧ x0.toNat ≠ 2 ∧ x0.toNat ≠ 3 ∧ x0.toNat ≠ 4) :
    Calls Try.prog 28 #[.slice A l.length c] w fun e w' => ∃ A' c', e = .returned (.tuple #[.agg (noC (decN l).1 A' c'), .int .i64 ((decN l).2 : Nat)]) ∧ Hid (OwnB w' w.heap.size (.slice A' (decN l).1.l.length c') (decN l).1.l ∧ Below w.heap.size w w') := by
  have hl0 : 0 < l.length := (List.getElem?_eq_some_iff.1 hx0).1
  obtain ⟨p, o, rfl⟩ := hA.cutZ hl0
  have hmx : Try.prog.follows .mixedOrders = true := by kernel_rfl
  have hkd := num_part1 hx0
  obtain ⟨se, hse⟩ : ∃ v, v = numP l 1 4 := ⟨_, rfl⟩
  have b_se : se < 4294967296 := by rw [hse]; exact numP_lt l 1 4
  have u_se : IntKind.u32.wrap (se : Int) = (se : Int) := by rw [IntKind.wrap_u32]; omega
  have HN_se : Hid (∀ W, Below w.heap.size w W → Calls Try.prog 49 #[.slice (some ⟨p, o, none⟩) l.length c, .int .i64 1, .int .i64 4] W fun e w' => e = .returned (.int .u64 (se : Nat)) ∧ w' = W) := Lib.hid (fun W hW => by rw [hse]; exact rnum11_any 1 4 _ c l W (hA.below hW) (by decide) (by decide) hL)
  obtain ⟨a5, ha5⟩ : ∃ v, v = numP l 5 4 := ⟨_, rfl⟩
  have b_a5 : a5 < 4294967296 := by rw [ha5]; exact numP_lt l 5 4
  have u_a5 : IntKind.u32.wrap (a5 : Int) = (a5 : Int) := by rw [IntKind.wrap_u32]; omega
  have HN_a5 : Hid (∀ W, Below w.heap.size w W → Calls Try.prog 49 #[.slice (some ⟨p, o, none⟩) l.length c, .int .i64 5, .int .i64 4] W fun e w' => e = .returned (.int .u64 (a5 : Nat)) ∧ w' = W) := Lib.hid (fun W hW => by rw [ha5]; exact rnum11_any 5 4 _ c l W (hA.below hW) (by decide) (by decide) hL)
  obtain ⟨a9, ha9⟩ : ∃ v, v = numP l 9 4 := ⟨_, rfl⟩
  have b_a9 : a9 < 4294967296 := by rw [ha9]; exact numP_lt l 9 4
  have u_a9 : IntKind.u32.wrap (a9 : Int) = (a9 : Int) := by rw [IntKind.wrap_u32]; omega
  have HN_a9 : Hid (∀ W, Below w.heap.size w W → Calls Try.prog 49 #[.slice (some ⟨p, o, none⟩) l.length c, .int .i64 9, .int .i64 4] W fun e w' => e = .returned (.int .u64 (a9 : Nat)) ∧ w' = W) := Lib.hid (fun W hW => by rw [ha9]; exact rnum11_any 9 4 _ c l W (hA.below hW) (by decide) (by decide) hL)
  obtain ⟨a13, ha13⟩ : ∃ v, v = numP l 13 4 := ⟨_, rfl⟩
  have b_a13 : a13 < 4294967296 := by rw [ha13]; exact numP_lt l 13 4
  have u_a13 : IntKind.u32.wrap (a13 : Int) = (a13 : Int) := by rw [IntKind.wrap_u32]; omega
  have HN_a13 : Hid (∀ W, Below w.heap.size w W → Calls Try.prog 49 #[.slice (some ⟨p, o, none⟩) l.length c, .int .i64 13, .int .i64 4] W fun e w' => e = .returned (.int .u64 (a13 : Nat)) ∧ w' = W) := Lib.hid (fun W hW => by rw [ha13]; exact rnum11_any 13 4 _ c l W (hA.below hW) (by decide) (by decide) hL)
  obtain ⟨kd, hkk⟩ : ∃ k, k = x0.toNat := ⟨_, rfl⟩
  rw [← hkk] at hk hkd
  have hD : parP l = ⟨kd, 0, se, 0, 0, 0, 0, 0, 0, false, [], 0⟩ := by
    unfold parP
    rw [hkd, ← hse]
    simp only [hk.1, hk.2.1, hk.2.2.1, hk.2.2.2, if_false]
  have hDN := decN_doc l
  have hok := parP_ok l
  rw [hD] at hDN hok
  have HDN := Lib.hid hDN
  have HOk := Lib.hid hok
  have e00 : ∀ W, Below w.heap.size w W → W.cell? ⟨p, o, none⟩ = some (.int .u8 (kd : Nat)) := fun W hW => by
    obtain ⟨p', o', hP, hC⟩ := (hA.below hW) 0 x0 hx0
    injection hP with e1; injection e1 with e1 e2 _; subst e1; subst e2
    unfold bv at hC
    rw [← hkk] at hC
    exact hC
  have HE0 := Lib.hid e00
  have HA := Lib.hid hA
  have hl0i : (0 : Int) < (l.length : Int) := by omega
  have hne0 : ((l.length : Int) == 0) = false := beq_eq_false_iff_ne.2 (by omega)
  have hk1 : (((kd : Nat) : Int) == 1) = false := beq_eq_false_iff_ne.2 (by omega)
  have hk2 : (((kd : Nat) : Int) == 2) = false := beq_eq_false_iff_ne.2 (by omega)
  have hk3 : (((kd : Nat) : Int) == 3) = false := beq_eq_false_iff_ne.2 (by omega)
  have hk4 : (((kd : Nat) : Int) == 4) = false := beq_eq_false_iff_ne.2 (by omega)
  have HB0 := Lib.hid (And.intro b_se (And.intro b_a5 (And.intro b_a9 b_a13)))
  clear hA hx0 hkd hD hDN hok e00 hk hkk hse b_se ha5 b_a5 ha9 b_a9 ha13 b_a13
  obtain ⟨w1, hw1⟩ : ∃ w1, w1 = w.alloc (.cells #[.int .u8 0, .int .u32 0, .int .u32 0, .int .i64 0, .int .u64 0, .int .u32 0, .int .u32 0, .int .u32 0, .int .u32 0, .bool false, .slice none 0 0, .int .i64 0] 50) := ⟨_, rfl⟩
  have HK : Hid (Qs w1 [qB w.heap.size 50 #[.int .u8 0, .int .u32 0, .int .u32 0, .int .i64 0, .int .u64 0, .int .u32 0, .int .u32 0, .int .u32 0, .int .u32 0, .bool false, .slice none 0 0, .int .i64 0], qW w w.heap.size (Nat.le_refl _)]) := by rw [hw1]; exact Lib.hid ((Qs.zero w).box #[.int .u8 0, .int .u32 0, .int .u32 0, .int .i64 0, .int .u64 0, .int .u32 0, .int .u32 0, .int .u32 0, .int .u32 0, .bool false, .slice none 0 0, .int .i64 0] 50)
  go_enter Try.func28, Try.ntmps28
  go_wp2_with fail
  rw [← hw1]
  clear hw1
  have hws : w.heap.size < w1.heap.size := (HK.out.blk 0).lt
  have e0 : ∀ y : More, (plus w1 y).cell? ⟨p, o, none⟩ = some (.int .u8 (kd : Nat)) := fun y => HE0.out _ ((HK.out.top 1).trans ((plus_below w1 y).mono (HK.out.top 1).size))
  refine wp_region_fresh_tail 8 [] [4, 7] (fun k V z => if k = 4 then V = .int .u64 (se : Nat) else ∃ g, V = .pointer (some ⟨g, 0, none⟩) ∧ Blk z g 50 #[.int .u8 0, .int .u32 0, .int .u32 0, .int .i64 0, .int .u64 0, .int .u32 0, .int .u32 0, .int .u32 0, .int .u32 0, .bool false, .slice none 0 0, .int .i64 0] ∧ w1.heap.size ≤ g) hmx (by kernel_rfl) (by kernel_rfl) ?_
  simp only [List.take_succ_cons, List.take_zero, List.drop_succ_cons, List.drop_zero]
  iterate 4 (refine walkF_one none w1 rfl (by kernel_rfl) ?_; go_big_quiet_step (fail); refine wpQuiet_nil ?_)
  refine walkF_make none w1 rfl rfl rfl (by kernel_rfl) (fun x => ?_) ?_
  · refine grow_call ?_ ((HN_se.out _ ((HK.out.top 1).trans ((plus_below w1 x).mono (HK.out.top 1).size))).mono ?_)
    · simp [execOp, go_sem]
    · rintro e w4 ⟨rfl, rfl⟩
      exact ⟨_, rfl, Below.refl _ _, by simp⟩
  rintro V_se z_se hV g_se
  simp only [if_true, reduceIte, Nat.reduceEqDiff] at hV
  subst hV
  conv => arg 11; simp [Act.put]
  iterate 2 (refine walkF_one none w1 rfl (by kernel_rfl) ?_; go_big_quiet_step (fail); refine wpQuiet_nil ?_)
  refine walkF_make none w1 rfl rfl rfl (by kernel_rfl) (fun x => ?_) ?_
  · refine grow_alloc (by simp [execOp, go_sem]; rfl) ?_
    simp only [reduceIte, Nat.reduceEqDiff]
    exact ⟨_, rfl, Blk.new _ _ _, (plus_below w1 x).size⟩
  rintro V9 z9 hV g9
  simp only [reduceIte, Nat.reduceEqDiff] at hV
  obtain ⟨g, rfl, hg, hgz⟩ := hV
  conv => arg 11; simp [Act.put]
  refine walkF_end ?_
  intro w3 h0 hE
  replace HK := Lib.hid ((HK.out.go h0).cons (k := qB _ _ _) (hg.below (hE 7) hg.lt))
  have hgw : w.heap.size < g := Nat.lt_of_lt_of_le hws hgz
  clear hE hg h0 g_se g9 e0 hgz hws
  have C := HK.out.says
  simp only [sayAll, cellsSay, qB, qW, qO, Nat.reduceAdd, and_true, true_and] at C
  go_upto_region 4 with fail
  generalize hW : World.setCell _ _ _ = Wn
  have HKn := HK.out.put 0 g [(0, .int .u8 (kd : Nat)), (1, .int .u32 0), (2, .int .u32 (se : Nat)), (3, .int .i64 0), (4, .int .u64 0), (5, .int .u32 0), (6, .int .u32 0), (7, .int .u32 0), (8, .int .u32 0), (9, .bool false), (10, .slice none 0 0), (11, .int .i64 0)] #[.int .u8 (kd : Nat), .int .u32 0, .int .u32 (se : Nat), .int .i64 0, .int .u64 0, .int .u32 0, .int .u32 0, .int .u32 0, .int .u32 0, .bool false, .slice none 0 0, .int .i64 0] (by simp only [apBut, apAll, qB, qW, qO, and_true, true_and]; omega)
  rw [show sets _ g [(0, .int .u8 (kd : Nat)), (1, .int .u32 0), (2, .int .u32 (se : Nat)), (3, .int .i64 0), (4, .int .u64 0), (5, .int .u32 0), (6, .int .u32 0), (7, .int .u32 0), (8, .int .u32 0), (9, .bool false), (10, .slice none 0 0), (11, .int .i64 0)] = Wn from hW] at HKn
  replace HK := Lib.hid HKn
  simp only [List.set] at HK
  clear hW HKn C
  have C := HK.out.says
  simp only [sayAll, cellsSay, qB, qW, qO, Nat.reduceAdd, and_true, true_and] at C
  go_wp2_with fail
  refine (HN_a5.out _ (HK.out.top 2)).mono ?_
  rintro e w' ⟨rfl, hw⟩
  rw [hw]
  clear hw
  go_wp2_with fail
  refine (HN_a9.out _ (HK.out.top 2)).mono ?_
  rintro e w' ⟨rfl, hw⟩
  rw [hw]
  clear hw
  go_wp2_with fail
  refine (HN_a13.out _ (HK.out.top 2)).mono ?_
  rintro e w' ⟨rfl, hw⟩
  rw [hw]
  clear hw
  go_upto_region 5 with fail
  have hgp := (HK.out.blk 0).lt
  replace HK := Lib.hid (HK.out.box #[.int .u32 (a5 : Nat), .int .u32 (a9 : Nat), .int .u32 (a13 : Nat)] 24)
  clear C
  obtain ⟨Wp, hWp⟩ : ∃ W, W = World.alloc Wn (.cells #[.int .u32 (a5 : Nat), .int .u32 (a9 : Nat), .int .u32 (a13 : Nat)] 24) := ⟨_, rfl⟩
  rw [← hWp] at HK ⊢
  clear hWp
  have C := HK.out.says
  simp only [sayAll, cellsSay, qB, qW, qO, Nat.reduceAdd, and_true, true_and] at C
  have hgs := (HK.out.blk 1).lt
  go_upto_region 20 with fail
  cases hmay : mayN ⟨kd, 0, se, 0, 0, 0, 0, 0, 0, false, [], 0⟩
  · have hEn := fun (W : World) (hb : Bs W none []) => rnenc_no ⟨kd, 0, se, 0, 0, 0, 0, 0, 0, false, [], 0⟩ none 0 W hb HOk.out (by simp only [List.length_nil]; omega) hmay
    have HD2 : Hid (decN l = (zeroN, 110)) := Lib.hid (by rw [HDN.out, if_neg]; rw [hmay]; simp)
    simp only [noC, List.length_nil] at hEn
    have HEn := Lib.hid hEn
    clear hEn hmay
    go_wp2_with fail
    refine (HEn.out _ (Bs.nil _ _)).mono ?_
    clear HEn
    rintro e w10 ⟨rfl, b10⟩
    replace HK := Lib.hid (HK.out.go b10)
    clear b10 C
    have C := HK.out.says
    simp only [sayAll, cellsSay, qB, qW, qO, Nat.reduceAdd, and_true, true_and] at C
    go_wp2_with fail
    generalize hW : World.setCell _ _ _ = Wn2
    have HKn := HK.out.put 2 w.heap.size [(0, .int .u8 0), (1, .int .u32 0), (2, .int .u32 0), (3, .int .i64 0), (4, .int .u64 0), (5, .int .u32 0), (6, .int .u32 0), (7, .int .u32 0), (8, .int .u32 0), (9, .bool false), (10, .slice none 0 0), (11, .int .i64 0)] #[.int .u8 0, .int .u32 0, .int .u32 0, .int .i64 0, .int .u64 0, .int .u32 0, .int .u32 0, .int .u32 0, .int .u32 0, .bool false, .slice none 0 0, .int .i64 0] (by simp only [apBut, apAll, qB, qW, qO, and_true, true_and]; omega)
    rw [show sets _ w.heap.size [(0, .int .u8 0), (1, .int .u32 0), (2, .int .u32 0), (3, .int .i64 0), (4, .int .u64 0), (5, .int .u32 0), (6, .int .u32 0), (7, .int .u32 0), (8, .int .u32 0), (9, .bool false), (10, .slice none 0 0), (11, .int .i64 0)] = Wn2 from hW] at HKn
    simp only [List.set] at HKn
    replace HK := Lib.hid HKn
    clear hW HKn C
    have C := HK.out.says
    simp only [sayAll, cellsSay, qB, qW, qO, Nat.reduceAdd, and_true, true_and] at C
    refine bodyPost_ret (v := .tuple #[.agg #[.int .u8 0, .int .u32 0, .int .u32 0, .int .i64 0, .int .u64 0, .int .u32 0, .int .u32 0, .int .u32 0, .int .u32 0, .bool false, .slice none 0 0, .int .i64 0], .int .i64 110]) (by simp [results, Try.results28, go_sem, C]) rfl ⟨none, 0, by rw [HD2.out]; rfl, Lib.hid ⟨by rw [HD2.out]; exact OwnB.nil _ _, HK.out.top 3⟩⟩
  · obtain ⟨E, hE⟩ : ∃ E, E = encN ⟨kd, 0, se, 0, 0, 0, 0, 0, 0, false, [], 0⟩ := ⟨_, rfl⟩
    have hEn := fun (W : World) (hb : Bs W none []) => rnenc_yes ⟨kd, 0, se, 0, 0, 0, 0, 0, 0, false, [], 0⟩ none 0 W hb HOk.out hmay
    have hD3 := HDN.out
    rw [hmay, ← hE] at hD3
    simp only [← hE] at hEn
    have HD3 := Lib.hid hD3
    simp only [noC, List.length_nil] at hEn
    have HEn := Lib.hid hEn
    clear hEn hmay hE hD3
    go_wp2_with fail
    refine (HEn.out _ (Bs.nil _ _)).mono ?_
    clear HEn
    rintro e w10 ⟨A10, c10, N10, rfl, H10⟩
    obtain ⟨rfl, hO10, b10⟩ := H10.out
    replace HK := Lib.hid (HK.out.go b10)
    have s1 := str_of hO10.bs c10
    have s2 := str_of (HA.out.below (HK.out.top 3)) c
    clear hO10 b10 H10 C
    have C := HK.out.says
    simp only [sayAll, cellsSay, qB, qW, qO, Nat.reduceAdd, and_true, true_and] at C
    by_cases hEl2 : E = l
    · have hsne : (E == l) = true := by simp [hEl2]
      have HD2 : Hid (decN l = (⟨kd, 0, se, 0, 0, 0, 0, 0, 0, false, [], 0⟩, 0)) := Lib.hid (by rw [HD3.out, if_pos (by simp [hEl2])])
      clear hEl2
      go_wp2_with fail
      generalize hW : World.setCell _ _ _ = Wn2
      have HKn := HK.out.put 2 w.heap.size [(0, .int .u8 (kd : Nat)), (1, .int .u32 0), (2, .int .u32 (se : Nat)), (3, .int .i64 0), (4, .int .u64 0), (5, .int .u32 0), (6, .int .u32 0), (7, .int .u32 0), (8, .int .u32 0), (9, .bool false), (10, .slice none 0 0), (11, .int .i64 0)] #[.int .u8 (kd : Nat), .int .u32 0, .int .u32 (se : Nat), .int .i64 0, .int .u64 0, .int .u32 0, .int .u32 0, .int .u32 0, .int .u32 0, .bool false, .slice none 0 0, .int .i64 0] (by simp only [apBut, apAll, qB, qW, qO, and_true, true_and]; omega)
      rw [show sets _ w.heap.size [(0, .int .u8 (kd : Nat)), (1, .int .u32 0), (2, .int .u32 (se : Nat)), (3, .int .i64 0), (4, .int .u64 0), (5, .int .u32 0), (6, .int .u32 0), (7, .int .u32 0), (8, .int .u32 0), (9, .bool false), (10, .slice none 0 0), (11, .int .i64 0)] = Wn2 from hW] at HKn
      simp only [List.set] at HKn
      replace HK := Lib.hid HKn
      clear hW HKn C
      have C := HK.out.says
      simp only [sayAll, cellsSay, qB, qW, qO, Nat.reduceAdd, and_true, true_and] at C
      refine bodyPost_ret (v := .tuple #[.agg #[.int .u8 (kd : Nat), .int .u32 0, .int .u32 (se : Nat), .int .i64 0, .int .u64 0, .int .u32 0, .int .u32 0, .int .u32 0, .int .u32 0, .bool false, .slice none 0 0, .int .i64 0], .int .i64 0]) (by simp [results, Try.results28, go_sem, C]) rfl ⟨none, 0, by rw [HD2.out]; rfl, Lib.hid ⟨by rw [HD2.out]; exact OwnB.nil _ _, HK.out.top 3⟩⟩
    · have hsne : (E == l) = false := by simpa using hEl2
      have HD2 : Hid (decN l = (zeroN, 110)) := Lib.hid (by rw [HD3.out, if_neg (by simp [hEl2])])
      clear hEl2
      go_wp2_with fail
      generalize hW : World.setCell _ _ _ = Wn2
      have HKn := HK.out.put 2 w.heap.size [(0, .int .u8 0), (1, .int .u32 0), (2, .int .u32 0), (3, .int .i64 0), (4, .int .u64 0), (5, .int .u32 0), (6, .int .u32 0), (7, .int .u32 0), (8, .int .u32 0), (9, .bool false), (10, .slice none 0 0), (11, .int .i64 0)] #[.int .u8 0, .int .u32 0, .int .u32 0, .int .i64 0, .int .u64 0, .int .u32 0, .int .u32 0, .int .u32 0, .int .u32 0, .bool false, .slice none 0 0, .int .i64 0] (by simp only [apBut, apAll, qB, qW, qO, and_true, true_and]; omega)
      rw [show sets _ w.heap.size [(0, .int .u8 0), (1, .int .u32 0), (2, .int .u32 0), (3, .int .i64 0), (4, .int .u64 0), (5, .int .u32 0), (6, .int .u32 0), (7, .int .u32 0), (8, .int .u32 0), (9, .bool false), (10, .slice none 0 0), (11, .int .i64 0)] = Wn2 from hW] at HKn
      simp only [List.set] at HKn
      replace HK := Lib.hid HKn
      clear hW HKn C
      have C := HK.out.says
      simp only [sayAll, cellsSay, qB, qW, qO, Nat.reduceAdd, and_true, true_and] at C
      refine bodyPost_ret (v := .tuple #[.agg #[.int .u8 0, .int .u32 0, .int .u32 0, .int .i64 0, .int .u64 0, .int .u32 0, .int .u32 0, .int .u32 0, .int .u32 0, .bool false, .slice none 0 0, .int .i64 0], .int .i64 110]) (by simp [results, Try.results28, go_sem, C]) rfl ⟨none, 0, by rw [HD2.out]; rfl, Lib.hid ⟨by rw [HD2.out]; exact OwnB.nil _ _, HK.out.top 3⟩⟩

end Go.Proofs.Ytpedobpbpomkaaa

/- Layer 7: Decode of the document, of enough bytes. -/
set_option linter.unusedSimpArgs false
set_option linter.unusedVariables false
namespace Go.Proofs.Ytpedobpbpomkaaa
open Go.RowKit
set_option maxRecDepth 100000

set_option maxHeartbeats 4000000 in
theorem rfdec_sum (A : Option Addr) (c : Nat) (l : List UInt8) (w : World) (hA : Bs w A l) (hc : l.length ≤ c) (h44 : 44 ≤ l.length) (h96 : l.length ≤ 4096) (hsum : crcL (frontOf l) ≠ num (backOf l)) :
    Calls Try.prog 20 #[.slice A l.length c] w fun e w' => e = .returned (.tuple #[.agg (frC zeroF none 0), .int .i64 71]) ∧ Below w.heap.size w w' := by
  obtain ⟨p, o, rfl⟩ := hA.cutZ (by omega)
  obtain ⟨r, hr⟩ : ∃ r, r = l.length - 4 := ⟨_, rfl⟩
  have hrw : IntKind.i64.wrap ((l.length : Int) - 4) = (r : Int) := by rw [IntKind.wrap_i64]; omega
  have hrc : (r : Int) ≤ c := by omega
  have hrc2 : r ≤ c := by omega
  have hd : decide ((l.length : Int) < 44) = false := decide_eq_false (by omega)
  have hd2 : decide ((4096 : Int) < l.length) = false := decide_eq_false (by omega)
  have hback : part l r 4 = backOf l := by unfold part backOf; rw [← hr]; exact List.take_of_length_le (by rw [List.length_drop]; omega)
  have hfl : (frontOf l).length = r := by unfold frontOf; rw [List.length_take]; omega
  obtain ⟨w1, hw1⟩ : ∃ w1, w1 = w.alloc (.cells #[.int .u8 0, .int .u32 0, .int .u32 0, .int .u32 0, .int .u32 0, .int .u32 0, .int .u32 0, .bool false, .int .u64 0, .slice none 0 0, .int .i64 0] 30) := ⟨_, rfl⟩
  have HF := Lib.hid (show Blk w1 w.heap.size 30 #[.int .u8 0, .int .u32 0, .int .u32 0, .int .u32 0, .int .u32 0, .int .u32 0, .int .u32 0, .bool false, .int .u64 0, .slice none 0 0, .int .i64 0] by rw [hw1]; exact Blk.new _ _ _)
  have HB1 := Lib.hid (show Below w.heap.size w w1 by rw [hw1]; exact below_alloc _ _)
  have HA1 := Lib.hid (show Bs w1 (some ⟨p, o, none⟩) l from hA.below HB1.out)
  have HA := Lib.hid hA
  obtain ⟨n4, hn4⟩ : ∃ n, n = num (backOf l) := ⟨_, rfl⟩
  obtain ⟨s4, hs4⟩ : ∃ n, n = crcL (frontOf l) := ⟨_, rfl⟩
  have us : IntKind.u64.wrap (s4 : Int) = (s4 : Int) := by have := crcL_lt (frontOf l); rw [IntKind.wrap_u64]; omega
  have HN : Hid (∀ W, Below w1.heap.size w1 W → Calls Try.prog 42 #[.slice (some ⟨p, o, none⟩) l.length c, .int .i64 (r : Nat), .int .i64 (4 : Nat)] W fun e w' => e = .returned (.int .u64 (n4 : Nat)) ∧ w' = W) := Lib.hid (fun W hW => by
    have := rnumber_any r 4 (some ⟨p, o, none⟩) c l W (HA1.out.below hW) (by omega) (by omega) (by omega)
    rw [hback, ← hn4] at this; exact this)
  have HS : Hid (∀ W, Below w1.heap.size w1 W → Calls Try.prog 34 #[.slice (some ⟨p, o, none⟩) r c] W fun e w' => e = .returned (.int .u32 (s4 : Nat)) ∧ w' = W) := Lib.hid (fun W hW => by
    have := refSum_eq (some ⟨p, o, none⟩) c (frontOf l) W (bs_takeN (HA1.out.below hW) _) (by omega)
    rw [hfl, ← hs4] at this; exact this)
  have HB0 := Lib.hid (Below.refl w1.heap.size w1)
  have hne : ((n4 : Int) != (s4 : Int)) = true := by rw [hn4, hs4]; simpa using fun e => hsum (by omega)
  have HR := Lib.hid frC_zero
  clear hn4 hs4 hback hfl hr hsum hA hc
  go_enter Try.func20, Try.ntmps20
  go_wp2_with fail
  rw [← hw1]
  clear hw1
  go_quiet ((first | (go_at_call 42; exact Calls.quiet_of_same (HN.out _ (below_drewN HB0.out _))) | (go_at_call 34; exact Calls.quiet_of_same (HS.out _ (below_drewN HB0.out _)))))
  obtain ⟨w2, hw2⟩ : ∃ W, W = w1.drewN nq := ⟨_, rfl⟩
  have HF2 := Lib.hid (show Blk w2 w.heap.size 30 #[.int .u8 0, .int .u32 0, .int .u32 0, .int .u32 0, .int .u32 0, .int .u32 0, .int .u32 0, .bool false, .int .u64 0, .slice none 0 0, .int .i64 0] by rw [hw2]; exact HF.out)
  have HB2 := Lib.hid (show Below w.heap.size w w2 by rw [hw2]; exact below_drewN HB1.out _)
  rw [← hw2]
  clear hw2
  have C := blk_says HF2.out
  simp only [cellsSay, Nat.reduceAdd, and_true] at C
  go_wp2_with fail
  generalize hW4 : World.setCell _ _ _ = w4
  have hb4 : Blk w4 w.heap.size 30 #[.int .u8 0, .int .u32 0, .int .u32 0, .int .u32 0, .int .u32 0, .int .u32 0, .int .u32 0, .bool false, .int .u64 0, .slice none 0 0, .int .i64 0] := by have h := Blk.sets [(0, .int .u8 0), (1, .int .u32 0), (2, .int .u32 0), (3, .int .u32 0), (4, .int .u32 0), (5, .int .u32 0), (6, .int .u32 0), (7, .bool false), (8, .int .u64 0), (9, .slice none 0 0), (10, .int .i64 0)] HF2.out; rw [show sets w2 w.heap.size [(0, .int .u8 0), (1, .int .u32 0), (2, .int .u32 0), (3, .int .u32 0), (4, .int .u32 0), (5, .int .u32 0), (6, .int .u32 0), (7, .bool false), (8, .int .u64 0), (9, .slice none 0 0), (10, .int .i64 0)] = w4 from hW4] at h; exact h
  have hg4 : w2.grownBy w4 (some w.heap.size) := by have h := grown_sets w.heap.size [(0, .int .u8 0), (1, .int .u32 0), (2, .int .u32 0), (3, .int .u32 0), (4, .int .u32 0), (5, .int .u32 0), (6, .int .u32 0), (7, .bool false), (8, .int .u64 0), (9, .slice none 0 0), (10, .int .i64 0)] w2; rw [show sets w2 w.heap.size [(0, .int .u8 0), (1, .int .u32 0), (2, .int .u32 0), (3, .int .u32 0), (4, .int .u32 0), (5, .int .u32 0), (6, .int .u32 0), (7, .bool false), (8, .int .u64 0), (9, .slice none 0 0), (10, .int .i64 0)] = w4 from hW4] at h; exact h
  clear C hW4
  have C := blk_says hb4
  simp only [cellsSay, Nat.reduceAdd, and_true] at C
  refine bodyPost_ret (v := .tuple #[.agg #[.int .u8 0, .int .u32 0, .int .u32 0, .int .u32 0, .int .u32 0, .int .u32 0, .int .u32 0, .bool false, .int .u64 0, .slice none 0 0, .int .i64 0], .int .i64 71]) (by simp [results, Try.results20, go_sem, C]) rfl ⟨by rw [HR.out], ?_⟩
  exact HB2.out.grown hg4 HB2.out.size (fun k e => by cases e; exact Nat.le_refl _)

end Go.Proofs.Ytpedobpbpomkaaa

/- Layer 7: Decode of the document, where the sum is right. -/
set_option linter.unusedSimpArgs false
set_option linter.unusedVariables false
namespace Go.Proofs.Ytpedobpbpomkaaa
open Go.RowKit
set_option maxRecDepth 100000

set_option maxHeartbeats 8000000 in
theorem rfdec_main (A : Option Addr) (c : Nat) (l : List UInt8) (w : World) (hA : Bs w A l) (hc : l.length ≤ c) (h44 : 44 ≤ l.length) (h96 : l.length ≤ 4096) (hsum : crcL (frontOf l) = num (backOf l)) :
    Calls Try.prog 20 #[.slice A l.length c] w fun e w' => ∃ A' c', e = .returned (.tuple #[.agg (frC (decF l).1 A' c'), .int .i64 ((decF l).2 : Nat)]) ∧ Hid (OwnB w' w.heap.size (.slice A' (decF l).1.l.length c') (decF l).1.l ∧ Below w.heap.size w w') := by
  obtain ⟨p, o, rfl⟩ := hA.cutZ (by omega)
  obtain ⟨r, hr⟩ : ∃ r, r = l.length - 4 := ⟨_, rfl⟩
  have hrw : IntKind.i64.wrap ((l.length : Int) - 4) = (r : Int) := by rw [IntKind.wrap_i64]; omega
  have hrc : (r : Int) ≤ c := by omega
  have hrc2 : r ≤ c := by omega
  have hd : decide ((l.length : Int) < 44) = false := decide_eq_false (by omega)
  have hd2 : decide ((4096 : Int) < l.length) = false := decide_eq_false (by omega)
  have hback : part l r 4 = backOf l := by unfold part backOf; rw [← hr]; exact List.take_of_length_le (by rw [List.length_drop]; omega)
  have hfl : (frontOf l).length = r := by unfold frontOf; rw [List.length_take]; omega
  obtain ⟨w1, hw1⟩ : ∃ w1, w1 = w.alloc (.cells #[.int .u8 0, .int .u32 0, .int .u32 0, .int .u32 0, .int .u32 0, .int .u32 0, .int .u32 0, .bool false, .int .u64 0, .slice none 0 0, .int .i64 0] 30) := ⟨_, rfl⟩
  have HF := Lib.hid (show Blk w1 w.heap.size 30 #[.int .u8 0, .int .u32 0, .int .u32 0, .int .u32 0, .int .u32 0, .int .u32 0, .int .u32 0, .bool false, .int .u64 0, .slice none 0 0, .int .i64 0] by rw [hw1]; exact Blk.new _ _ _)
  have HB1 := Lib.hid (show Below w.heap.size w w1 by rw [hw1]; exact below_alloc _ _)
  have HA1 := Lib.hid (show Bs w1 (some ⟨p, o, none⟩) l from hA.below HB1.out)
  have HA := Lib.hid hA
  obtain ⟨n4, hn4⟩ : ∃ n, n = num (backOf l) := ⟨_, rfl⟩
  obtain ⟨s4, hs4⟩ : ∃ n, n = crcL (frontOf l) := ⟨_, rfl⟩
  have us : IntKind.u64.wrap (s4 : Int) = (s4 : Int) := by have := crcL_lt (frontOf l); rw [IntKind.wrap_u64]; omega
  have HN : Hid (∀ W, Below w1.heap.size w1 W → Calls Try.prog 42 #[.slice (some ⟨p, o, none⟩) l.length c, .int .i64 (r : Nat), .int .i64 (4 : Nat)] W fun e w' => e = .returned (.int .u64 (n4 : Nat)) ∧ w' = W) := Lib.hid (fun W hW => by
    have := rnumber_any r 4 (some ⟨p, o, none⟩) c l W (HA1.out.below hW) (by omega) (by omega) (by omega)
    rw [hback, ← hn4] at this; exact this)
  have HS : Hid (∀ W, Below w1.heap.size w1 W → Calls Try.prog 34 #[.slice (some ⟨p, o, none⟩) r c] W fun e w' => e = .returned (.int .u32 (s4 : Nat)) ∧ w' = W) := Lib.hid (fun W hW => by
    have := refSum_eq (some ⟨p, o, none⟩) c (frontOf l) W (bs_takeN (HA1.out.below hW) _) (by omega)
    rw [hfl, ← hs4] at this; exact this)
  have HB0 := Lib.hid (Below.refl w1.heap.size w1)
  have hne : ((n4 : Int) != (s4 : Int)) = false := by rw [hn4, hs4, hsum]; simp
  obtain ⟨x2, hx2⟩ : ∃ x, l[2]? = some x := ⟨_, List.getElem?_eq_getElem (by omega)⟩
  obtain ⟨x27, hx27⟩ : ∃ x, l[27]? = some x := ⟨_, List.getElem?_eq_getElem (by omega)⟩
  have hcell : ∀ (i : Nat) (x : UInt8), l[i]? = some x → ∀ W, Below w1.heap.size w1 W → W.cell? ⟨p, o + i, none⟩ = some (.int .u8 (x.toNat : Nat)) := fun i x hx W hW => by
    obtain ⟨p', o', hP, hC⟩ := (HA1.out.below hW) i x hx
    injection hP with e1; injection e1 with e1 e2 _; subst e1; subst e2; exact hC
  have HCell := Lib.hid hcell
  obtain ⟨cl, hcl⟩ : ∃ cl, ((x27.toNat : Int) == 1) = cl := ⟨_, rfl⟩
  obtain ⟨sm, hsm⟩ : ∃ v, v = num (part l 28 8) := ⟨_, rfl⟩
  obtain ⟨ep, hep⟩ : ∃ v, v = num (part l 3 4) := ⟨_, rfl⟩
  obtain ⟨se, hse⟩ : ∃ v, v = num (part l 7 4) := ⟨_, rfl⟩
  obtain ⟨cn, hcn⟩ : ∃ v, v = num (part l 23 4) := ⟨_, rfl⟩
  obtain ⟨fc, hfc⟩ : ∃ v, v = num (part l 11 4) := ⟨_, rfl⟩
  obtain ⟨fb, hfb⟩ : ∃ v, v = num (part l 15 4) := ⟨_, rfl⟩
  obtain ⟨fn, hfn⟩ : ∃ v, v = num (part l 19 4) := ⟨_, rfl⟩
  obtain ⟨m, hm⟩ : ∃ v, v = num (part l 36 4) := ⟨_, rfl⟩
  have hpl : ∀ i w, i + w ≤ l.length → num (part l i w) < 256 ^ w := fun i w h => by have := num_lt (part l i w); rwa [part_len h] at this
  have b_ep : ep < 4294967296 := by have := hpl 3 4 (by omega); rw [hep]; exact this
  have u_ep : IntKind.u32.wrap (ep : Int) = (ep : Int) := by rw [IntKind.wrap_u32]; omega
  have b_se : se < 4294967296 := by have := hpl 7 4 (by omega); rw [hse]; exact this
  have u_se : IntKind.u32.wrap (se : Int) = (se : Int) := by rw [IntKind.wrap_u32]; omega
  have b_cn : cn < 4294967296 := by have := hpl 23 4 (by omega); rw [hcn]; exact this
  have u_cn : IntKind.u32.wrap (cn : Int) = (cn : Int) := by rw [IntKind.wrap_u32]; omega
  have b_fc : fc < 4294967296 := by have := hpl 11 4 (by omega); rw [hfc]; exact this
  have u_fc : IntKind.u32.wrap (fc : Int) = (fc : Int) := by rw [IntKind.wrap_u32]; omega
  have b_fb : fb < 4294967296 := by have := hpl 15 4 (by omega); rw [hfb]; exact this
  have u_fb : IntKind.u32.wrap (fb : Int) = (fb : Int) := by rw [IntKind.wrap_u32]; omega
  have b_fn : fn < 4294967296 := by have := hpl 19 4 (by omega); rw [hfn]; exact this
  have u_fn : IntKind.u32.wrap (fn : Int) = (fn : Int) := by rw [IntKind.wrap_u32]; omega
  have b_m : m < 4294967296 := by have := hpl 36 4 (by omega); rw [hm]; exact this
  have u_m : IntKind.i64.wrap (m : Int) = (m : Int) := by rw [IntKind.wrap_i64]; omega
  obtain ⟨R, hR⟩ : ∃ R, R = part l 40 (l.length - 44) := ⟨_, rfl⟩
  have hG : parF l = ⟨x2.toNat, ep, se, fc, fb, fn, cn, cl, sm, R, (m : Nat)⟩ := by
    unfold parF
    rw [num_part1 hx2, num_part1 hx27, ← hep, ← hse, ← hcn, ← hfc, ← hfb, ← hfn, ← hm, ← hsm, ← hR]
    congr 1
    rw [← hcl, Bool.eq_iff_iff, decide_eq_true_iff, beq_iff_eq]; omega
  have HG := Lib.hid hG
  have HN2 : Hid (∀ (i w : Nat), i + w ≤ l.length → w ≤ 8 → ∀ W, Below w1.heap.size w1 W → Calls Try.prog 42 #[.slice (some ⟨p, o, none⟩) l.length c, .int .i64 (i : Nat), .int .i64 (w : Nat)] W fun e w' => e = .returned (.int .u64 (num (part l i w) : Nat)) ∧ w' = W) := Lib.hid (fun i wd h1 h2 W hW => rnumber_any i wd (some ⟨p, o, none⟩) c l W (HA1.out.below hW) h2 h1 (by omega))
  have HN_ep := HN2.out 3 4 (by omega) (by omega)
  rw [← hep] at HN_ep
  replace HN_ep := Lib.hid HN_ep
  have HN_se := HN2.out 7 4 (by omega) (by omega)
  rw [← hse] at HN_se
  replace HN_se := Lib.hid HN_se
  have HN_cn := HN2.out 23 4 (by omega) (by omega)
  rw [← hcn] at HN_cn
  replace HN_cn := Lib.hid HN_cn
  have HN_fc := HN2.out 11 4 (by omega) (by omega)
  rw [← hfc] at HN_fc
  replace HN_fc := Lib.hid HN_fc
  have HN_fb := HN2.out 15 4 (by omega) (by omega)
  rw [← hfb] at HN_fb
  replace HN_fb := Lib.hid HN_fb
  have HN_fn := HN2.out 19 4 (by omega) (by omega)
  rw [← hfn] at HN_fn
  replace HN_fn := Lib.hid HN_fn
  have HN_m := HN2.out 36 4 (by omega) (by omega)
  rw [← hm] at HN_m
  replace HN_m := Lib.hid HN_m
  have HN_sm := HN2.out 28 8 (by omega) (by omega)
  rw [← hsm] at HN_sm
  replace HN_sm := Lib.hid HN_sm
  have HD : Hid (decF l = if goodF l then (⟨x2.toNat, ep, se, fc, fb, fn, cn, cl, sm, R, (m : Nat)⟩, 0) else (zeroF, 70)) := Lib.hid (by unfold decF; rw [if_neg (by omega), if_neg (by rw [hsum]; simp), hG])
  have HE : Hid (encF (parF l) = l ↔ num (part l 0 2) = 17497 ∧ num (part l 27 1) ≤ 1) := Lib.hid (enc_par h44 hsum)
  have HRl : Hid (R.length = r - 40 ∧ R = part l 40 (r - 40)) := Lib.hid ⟨by rw [hR, part_len (by omega)]; omega, by rw [hR, hr, show l.length - 44 = l.length - 4 - 40 by omega]⟩
  have hok := parF_ok l
  rw [hG] at hok
  have HOk := Lib.hid hok
  have HZ := Lib.hid frC_zero
  have HX := Lib.hid (And.intro hx2 hx27)
  have hr40 : 40 ≤ r := by omega
  have hr40i : (40 : Int) ≤ r := by omega
  have Hr := Lib.hid (And.intro hr hc)
  clear hr hc hn4 hs4 hback hfl hsum hA hcell hpl hG hok hR hx2 hx27 hsm hep hse hcn hfc hfb hfn hm b_ep b_se b_cn b_fc b_fb b_fn b_m
  have HU := Lib.hid (And.intro hcl (And.intro u_ep (And.intro u_se (And.intro u_cn (And.intro u_fc (And.intro u_fb (And.intro u_fn u_m)))))))
  clear hcl u_ep u_se u_cn u_fc u_fb u_fn u_m
  go_enter Try.func20, Try.ntmps20
  go_wp2_with fail
  rw [← hw1]
  clear hw1
  go_quiet ((first | (go_at_call 42; exact Calls.quiet_of_same (HN.out _ (below_drewN HB0.out _))) | (go_at_call 34; exact Calls.quiet_of_same (HS.out _ (below_drewN HB0.out _)))))
  obtain ⟨hcl, u_ep, u_se, u_cn, u_fc, u_fb, u_fn, u_m⟩ := HU.out
  have hmx : Try.prog.follows .mixedOrders = true := by kernel_rfl
  obtain ⟨w2, hw2⟩ : ∃ W, W = w1.drewN nq := ⟨_, rfl⟩
  have HF2 := Lib.hid (show Blk w2 w.heap.size 30 #[.int .u8 0, .int .u32 0, .int .u32 0, .int .u32 0, .int .u32 0, .int .u32 0, .int .u32 0, .bool false, .int .u64 0, .slice none 0 0, .int .i64 0] by rw [hw2]; exact HF.out)
  have HB12 := Lib.hid (show Below w1.heap.size w1 w2 by rw [hw2]; exact below_drewN HB0.out _)
  have HB2 := Lib.hid (show Below w.heap.size w w2 by rw [hw2]; exact below_drewN HB1.out _)
  rw [← hw2]
  clear hw2
  have e2 : ∀ y : More, (plus w2 y).cell? ⟨p, o + 2, none⟩ = some (.int .u8 (x2.toNat : Nat)) := fun y => HCell.out 2 x2 HX.out.1 _ (HB12.out.trans ((plus_below w2 y).mono HB12.out.size))
  have e27 : ∀ y : More, (plus w2 y).cell? ⟨p, o + 27, none⟩ = some (.int .u8 (x27.toNat : Nat)) := fun y => HCell.out 27 x27 HX.out.2 _ (HB12.out.trans ((plus_below w2 y).mono HB12.out.size))
  go_wp2_with fail
  refine wp_region_fresh_tail 20 [] [4, 7, 10, 17, 19] (fun k V z => if k = 4 then V = .int .u64 (ep : Nat) else if k = 7 then V = .int .u64 (se : Nat) else if k = 10 then V = .int .u64 (cn : Nat) else if k = 17 then V = .int .u64 (sm : Nat) else ∃ g, V = .pointer (some ⟨g, 0, none⟩) ∧ Blk z g 30 #[.int .u8 0, .int .u32 0, .int .u32 0, .int .u32 0, .int .u32 0, .int .u32 0, .int .u32 0, .bool false, .int .u64 0, .slice none 0 0, .int .i64 0] ∧ w2.heap.size ≤ g) hmx (by kernel_rfl) (by kernel_rfl) ?_
  simp only [List.take_succ_cons, List.take_zero, List.drop_succ_cons, List.drop_zero]
  iterate 4 (refine walkF_one none w2 rfl (by kernel_rfl) ?_; go_big_quiet_step (fail); refine wpQuiet_nil ?_)
  refine walkF_make none w2 rfl rfl rfl (by kernel_rfl) (fun x => ?_) ?_
  · refine grow_call ?_ ((HN_ep.out _ (HB12.out.trans ((plus_below w2 x).mono HB12.out.size))).mono ?_)
    · simp [execOp, go_sem]
    · rintro e w4 ⟨rfl, rfl⟩
      exact ⟨_, rfl, Below.refl _ _, by simp⟩
  rintro V_ep z_ep hV g_ep
  simp only [if_true, reduceIte, Nat.reduceEqDiff] at hV
  subst hV
  conv => arg 11; simp [Act.put]
  iterate 2 (refine walkF_one none w2 rfl (by kernel_rfl) ?_; go_big_quiet_step (fail); refine wpQuiet_nil ?_)
  refine walkF_make none w2 rfl rfl rfl (by kernel_rfl) (fun x => ?_) ?_
  · refine grow_call ?_ ((HN_se.out _ (HB12.out.trans ((plus_below w2 x).mono HB12.out.size))).mono ?_)
    · simp [execOp, go_sem]
    · rintro e w4 ⟨rfl, rfl⟩
      exact ⟨_, rfl, Below.refl _ _, by simp⟩
  rintro V_se z_se hV g_se
  simp only [if_true, reduceIte, Nat.reduceEqDiff] at hV
  subst hV
  conv => arg 11; simp [Act.put]
  iterate 2 (refine walkF_one none w2 rfl (by kernel_rfl) ?_; go_big_quiet_step (fail); refine wpQuiet_nil ?_)
  refine walkF_make none w2 rfl rfl rfl (by kernel_rfl) (fun x => ?_) ?_
  · refine grow_call ?_ ((HN_cn.out _ (HB12.out.trans ((plus_below w2 x).mono HB12.out.size))).mono ?_)
    · simp [execOp, go_sem]
    · rintro e w4 ⟨rfl, rfl⟩
      exact ⟨_, rfl, Below.refl _ _, by simp⟩
  rintro V_cn z_cn hV g_cn
  simp only [if_true, reduceIte, Nat.reduceEqDiff] at hV
  subst hV
  conv => arg 11; simp [Act.put]
  iterate 6 (refine walkF_one none w2 rfl (by kernel_rfl) ?_; go_big_quiet_step (fail); refine wpQuiet_nil ?_)
  refine walkF_make none w2 rfl rfl rfl (by kernel_rfl) (fun x => ?_) ?_
  · refine grow_call ?_ ((HN_sm.out _ (HB12.out.trans ((plus_below w2 x).mono HB12.out.size))).mono ?_)
    · simp [execOp, go_sem]
    · rintro e w4 ⟨rfl, rfl⟩
      exact ⟨_, rfl, Below.refl _ _, by simp⟩
  rintro V_sm z_sm hV g_sm
  simp only [if_true, reduceIte, Nat.reduceEqDiff] at hV
  subst hV
  conv => arg 11; simp [Act.put]
  iterate 1 (refine walkF_one none w2 rfl (by kernel_rfl) ?_; go_big_quiet_step (fail); refine wpQuiet_nil ?_)
  refine walkF_make none w2 rfl rfl rfl (by kernel_rfl) (fun x => ?_) ?_
  · refine grow_alloc (by simp [execOp, go_sem]; rfl) ?_
    simp only [reduceIte, Nat.reduceEqDiff]
    exact ⟨_, rfl, Blk.new _ _ _, (plus_below w2 x).size⟩
  rintro V9 z9 hV g9
  simp only [reduceIte, Nat.reduceEqDiff] at hV
  obtain ⟨g, rfl, hg, hgz⟩ := hV
  conv => arg 11; simp [Act.put]
  refine walkF_end ?_
  intro w3 h0 hE
  have HG3 := Lib.hid (hg.below (hE 19) hg.lt)
  have HF3 := Lib.hid (Blk.below HF2.out h0 HF2.out.lt)
  have HB13 := Lib.hid (HB12.out.trans (Below.mono h0 HB12.out.size))
  have HB3 := Lib.hid (HB2.out.trans (Below.mono h0 HB2.out.size))
  have hgw : w.heap.size < g := Nat.lt_of_lt_of_le HF2.out.lt hgz
  have hgw1 : w1.heap.size ≤ g := Nat.le_trans HB12.out.size hgz
  clear hE hg h0 g_ep g_se g_cn g_sm g9 e2 e27
  have C := blk_says HG3.out
  simp only [cellsSay, Nat.reduceAdd, and_true] at C
  go_wp2_with fail
  generalize hW4 : World.setCell _ _ _ = w4
  have hb4 : Blk w4 g 30 #[.int .u8 (x2.toNat : Nat), .int .u32 (ep : Nat), .int .u32 (se : Nat), .int .u32 0, .int .u32 0, .int .u32 0, .int .u32 (cn : Nat), .bool cl, .int .u64 (sm : Nat), .slice none 0 0, .int .i64 0] := by have h := Blk.sets [(0, .int .u8 (x2.toNat : Nat)), (1, .int .u32 (ep : Nat)), (2, .int .u32 (se : Nat)), (3, .int .u32 0), (4, .int .u32 0), (5, .int .u32 0), (6, .int .u32 (cn : Nat)), (7, .bool cl), (8, .int .u64 (sm : Nat)), (9, .slice none 0 0), (10, .int .i64 0)] HG3.out; rw [show sets w3 g [(0, .int .u8 (x2.toNat : Nat)), (1, .int .u32 (ep : Nat)), (2, .int .u32 (se : Nat)), (3, .int .u32 0), (4, .int .u32 0), (5, .int .u32 0), (6, .int .u32 (cn : Nat)), (7, .bool cl), (8, .int .u64 (sm : Nat)), (9, .slice none 0 0), (10, .int .i64 0)] = w4 from hW4] at h; exact h
  have hg4 : w3.grownBy w4 (some g) := by have h := grown_sets g [(0, .int .u8 (x2.toNat : Nat)), (1, .int .u32 (ep : Nat)), (2, .int .u32 (se : Nat)), (3, .int .u32 0), (4, .int .u32 0), (5, .int .u32 0), (6, .int .u32 (cn : Nat)), (7, .bool cl), (8, .int .u64 (sm : Nat)), (9, .slice none 0 0), (10, .int .i64 0)] w3; rw [show sets w3 g [(0, .int .u8 (x2.toNat : Nat)), (1, .int .u32 (ep : Nat)), (2, .int .u32 (se : Nat)), (3, .int .u32 0), (4, .int .u32 0), (5, .int .u32 0), (6, .int .u32 (cn : Nat)), (7, .bool cl), (8, .int .u64 (sm : Nat)), (9, .slice none 0 0), (10, .int .i64 0)] = w4 from hW4] at h; exact h
  have HG4 := Lib.hid hb4
  have HF4 := Lib.hid (Blk.kept HF3.out hg4 (by intro e; injection e with e; omega))
  have HB4 := Lib.hid (HB3.out.grown hg4 HB3.out.size (fun k e => by cases e; omega))
  have HB14 := Lib.hid (HB13.out.grown hg4 HB13.out.size (fun k e => by cases e; exact hgw1))
  clear hb4 hg4 hW4 C
  have C := blk_says HG4.out
  simp only [cellsSay, Nat.reduceAdd, and_true] at C
  go_wp2_with fail
  refine (HN_fc.out _ HB14.out).mono ?_
  rintro e w' ⟨rfl, hw⟩
  rw [hw]
  clear hw
  go_wp2_with fail
  refine (HN_fb.out _ HB14.out).mono ?_
  rintro e w' ⟨rfl, hw⟩
  rw [hw]
  clear hw
  go_wp2_with fail
  refine (HN_fn.out _ HB14.out).mono ?_
  rintro e w' ⟨rfl, hw⟩
  rw [hw]
  clear hw
  go_wp2_with fail
  generalize hW4 : World.setCell _ _ _ = w5
  have hb4 : Blk w5 g 30 #[.int .u8 (x2.toNat : Nat), .int .u32 (ep : Nat), .int .u32 (se : Nat), .int .u32 (fc : Nat), .int .u32 (fb : Nat), .int .u32 (fn : Nat), .int .u32 (cn : Nat), .bool cl, .int .u64 (sm : Nat), .slice none 0 0, .int .i64 0] := by have h := Blk.sets [(3, .int .u32 (fc : Nat)), (4, .int .u32 (fb : Nat)), (5, .int .u32 (fn : Nat))] HG4.out; rw [show sets w4 g [(3, .int .u32 (fc : Nat)), (4, .int .u32 (fb : Nat)), (5, .int .u32 (fn : Nat))] = w5 from hW4] at h; exact h
  have hg4 : w4.grownBy w5 (some g) := by have h := grown_sets g [(3, .int .u32 (fc : Nat)), (4, .int .u32 (fb : Nat)), (5, .int .u32 (fn : Nat))] w4; rw [show sets w4 g [(3, .int .u32 (fc : Nat)), (4, .int .u32 (fb : Nat)), (5, .int .u32 (fn : Nat))] = w5 from hW4] at h; exact h
  have HG5 := Lib.hid hb4
  have HF5 := Lib.hid (Blk.kept HF4.out hg4 (by intro e; injection e with e; omega))
  have HB5 := Lib.hid (HB4.out.grown hg4 HB4.out.size (fun k e => by cases e; omega))
  have HB15 := Lib.hid (HB14.out.grown hg4 HB14.out.size (fun k e => by cases e; exact hgw1))
  clear hb4 hg4 hW4 C
  have C := blk_says HG5.out
  simp only [cellsSay, Nat.reduceAdd, and_true] at C
  go_wp2_with fail
  refine (HN_m.out _ HB15.out).mono ?_
  rintro e w' ⟨rfl, hw⟩
  rw [hw]
  clear hw
  go_wp2_with fail
  generalize hW4 : World.setCell _ _ _ = w6
  have hb4 : Blk w6 g 30 #[.int .u8 (x2.toNat : Nat), .int .u32 (ep : Nat), .int .u32 (se : Nat), .int .u32 (fc : Nat), .int .u32 (fb : Nat), .int .u32 (fn : Nat), .int .u32 (cn : Nat), .bool cl, .int .u64 (sm : Nat), .slice none 0 0, .int .i64 (m : Nat)] := by have h := Blk.sets [(10, .int .i64 (m : Nat))] HG5.out; rw [show sets w5 g [(10, .int .i64 (m : Nat))] = w6 from hW4] at h; exact h
  have hg4 : w5.grownBy w6 (some g) := by have h := grown_sets g [(10, .int .i64 (m : Nat))] w5; rw [show sets w5 g [(10, .int .i64 (m : Nat))] = w6 from hW4] at h; exact h
  have HG6 := Lib.hid hb4
  have HF6 := Lib.hid (Blk.kept HF5.out hg4 (by intro e; injection e with e; omega))
  have HB6 := Lib.hid (HB5.out.grown hg4 HB5.out.size (fun k e => by cases e; omega))
  have HB16 := Lib.hid (HB15.out.grown hg4 HB15.out.size (fun k e => by cases e; exact hgw1))
  clear hb4 hg4 hW4 C
  have C := blk_says HG6.out
  simp only [cellsSay, Nat.reduceAdd, and_true] at C
  obtain ⟨hr, hc⟩ := Hr.out
  have hc40 : 40 < c := by omega
  have hrc4 : r ≤ c := by omega
  have Hr2 := Lib.hid (And.intro hr hc)
  clear hr hc
  have hRn : r - 40 = R.length := HRl.out.1.symm
  have HRn := Lib.hid hRn
  clear hRn
  have HAR : Hid (∀ W, Below w1.heap.size w1 W → Bs W (some ⟨p, o + 40, none⟩) R) := Lib.hid (fun W hW => by rw [HRl.out.2]; exact Bs.cut (HA1.out.below hW) 40 (r - 40))
  go_wp2_with fail
  refine wp_region_tail_ext 8 (by kernel_rfl) (by kernel_rfl) ?_
  simp only [List.take_succ_cons, List.take_zero, List.drop_succ_cons, List.drop_zero]
  have hp := plus_cell w6
  repeat (go_big_quiet_step (fail))
  refine wpQuiet_nil ?_
  rintro w7 ⟨y, rfl⟩
  rw [HRn.out]
  have hz7 := plus_below w6 y
  obtain ⟨w7, hw7⟩ : ∃ W, W = plus w6 y := ⟨_, rfl⟩
  rw [← hw7] at hz7 ⊢
  have HG7 := Lib.hid (Blk.below HG6.out hz7 HG6.out.lt)
  have HF7 := Lib.hid (Blk.below HF6.out hz7 HF6.out.lt)
  have HB7 := Lib.hid (HB6.out.trans (Below.mono hz7 HB6.out.size))
  have HB17 := Lib.hid (HB16.out.trans (Below.mono hz7 HB16.out.size))
  have hgw7 : g < w7.heap.size := HG7.out.lt
  have hRl : R.length ≤ 4096 := by have := HRl.out.1; have := Hr2.out.1; omega
  clear hp hw7 hz7 C
  go_upto_region 9 with (at_builtin; go_must (refine appAll _ rfl (.tmp 67) (.tmp 72) rfl w7.heap.size _ [] rfl (OwnB.nil _ _) (some ⟨p, o + 40, none⟩) (c - 40) R rfl (HAR.out _ HB17.out) (by simp; omega) (Nat.le_refl _) ?_); intro A8 c8 w8 hown8 hb8; have C8 := blk_says (Blk.below HG7.out hb8 hgw7); simp only [cellsSay, Nat.reduceAdd, and_true] at C8)
  have HG8a := Lib.hid (Blk.below HG7.out hb8 hgw7)
  have HO8 := Lib.hid (show OwnB w8 w7.heap.size (.slice A8 R.length c8) R by simpa using hown8)
  have HF7a := Lib.hid (Blk.below HF7.out hb8 HF7.out.lt)
  have HB7a := Lib.hid (HB7.out.trans (Below.mono hb8 HB7.out.size))
  have HB17a := Lib.hid (HB17.out.trans (Below.mono hb8 HB17.out.size))
  generalize hW4 : World.setCell _ _ _ = w9
  have hb4 : Blk w9 g 30 #[.int .u8 (x2.toNat : Nat), .int .u32 (ep : Nat), .int .u32 (se : Nat), .int .u32 (fc : Nat), .int .u32 (fb : Nat), .int .u32 (fn : Nat), .int .u32 (cn : Nat), .bool cl, .int .u64 (sm : Nat), .slice A8 R.length c8, .int .i64 (m : Nat)] := by have h := Blk.sets [(9, .slice A8 R.length c8)] HG8a.out; rw [show sets w8 g [(9, .slice A8 R.length c8)] = w9 from hW4] at h; exact h
  have hg4 : w8.grownBy w9 (some g) := by have h := grown_sets g [(9, .slice A8 R.length c8)] w8; rw [show sets w8 g [(9, .slice A8 R.length c8)] = w9 from hW4] at h; exact h
  have HG9 := Lib.hid hb4
  have HF9 := Lib.hid (Blk.kept HF7a.out hg4 (by intro e; injection e with e; omega))
  have HB9 := Lib.hid (HB7a.out.grown hg4 HB7a.out.size (fun k e => by cases e; omega))
  have HB19 := Lib.hid (HB17a.out.grown hg4 HB17a.out.size (fun k e => by cases e; exact hgw1))
  have HO9 : Hid (OwnB w9 w7.heap.size (.slice A8 R.length c8) R) := Lib.hid (by rw [← hW4]; exact OwnB.far (p := ⟨g, 9, none⟩) HO8.out (OwnB.ne HO8.out hgw7) _)
  have hww7 : w.heap.size ≤ w7.heap.size := HB7.out.size
  clear hb4 hg4 hW4 C8 hown8 hb8
  have C := blk_says HG9.out
  simp only [cellsSay, Nat.reduceAdd, and_true] at C
  have HA9 := Lib.hid (HA1.out.below HB19.out)
  cases hmay : mayF ⟨x2.toNat, ep, se, fc, fb, fn, cn, cl, sm, R, (m : Nat)⟩
  · have HEn := Lib.hid (rfenc_no ⟨x2.toNat, ep, se, fc, fb, fn, cn, cl, sm, R, (m : Nat)⟩ A8 c8 w9 HO9.out.bs HOk.out (by simp only; omega) hmay)
    have HD2 : Hid (decF l = (zeroF, 70)) := Lib.hid (by rw [HD.out, if_neg]; unfold goodF; rw [HG.out, hmay]; simp)
    clear hmay
    go_wp2_with fail
    refine HEn.out.mono ?_
    rintro e w10 ⟨rfl, b10⟩
    have HF10 := Lib.hid (Blk.below HF9.out b10 HF9.out.lt)
    have HB10 := Lib.hid (HB9.out.trans (Below.mono b10 HB9.out.size))
    clear C
    have C := blk_says HF10.out
    simp only [cellsSay, Nat.reduceAdd, and_true] at C
    clear b10
    go_wp2_with fail
    generalize hW4 : World.setCell _ _ _ = w11
    have hb4 : Blk w11 w.heap.size 30 #[.int .u8 0, .int .u32 0, .int .u32 0, .int .u32 0, .int .u32 0, .int .u32 0, .int .u32 0, .bool false, .int .u64 0, .slice none 0 0, .int .i64 0] := by have h := Blk.sets [(0, .int .u8 0), (1, .int .u32 0), (2, .int .u32 0), (3, .int .u32 0), (4, .int .u32 0), (5, .int .u32 0), (6, .int .u32 0), (7, .bool false), (8, .int .u64 0), (9, .slice none 0 0), (10, .int .i64 0)] HF10.out; rw [show sets w10 w.heap.size [(0, .int .u8 0), (1, .int .u32 0), (2, .int .u32 0), (3, .int .u32 0), (4, .int .u32 0), (5, .int .u32 0), (6, .int .u32 0), (7, .bool false), (8, .int .u64 0), (9, .slice none 0 0), (10, .int .i64 0)] = w11 from hW4] at h; exact h
    have hg4 : w10.grownBy w11 (some w.heap.size) := by have h := grown_sets w.heap.size [(0, .int .u8 0), (1, .int .u32 0), (2, .int .u32 0), (3, .int .u32 0), (4, .int .u32 0), (5, .int .u32 0), (6, .int .u32 0), (7, .bool false), (8, .int .u64 0), (9, .slice none 0 0), (10, .int .i64 0)] w10; rw [show sets w10 w.heap.size [(0, .int .u8 0), (1, .int .u32 0), (2, .int .u32 0), (3, .int .u32 0), (4, .int .u32 0), (5, .int .u32 0), (6, .int .u32 0), (7, .bool false), (8, .int .u64 0), (9, .slice none 0 0), (10, .int .i64 0)] = w11 from hW4] at h; exact h
    clear C hW4
    have C := blk_says hb4
    simp only [cellsSay, Nat.reduceAdd, and_true] at C
    refine bodyPost_ret (v := .tuple #[.agg #[.int .u8 0, .int .u32 0, .int .u32 0, .int .u32 0, .int .u32 0, .int .u32 0, .int .u32 0, .bool false, .int .u64 0, .slice none 0 0, .int .i64 0], .int .i64 70]) (by simp [results, Try.results20, go_sem, C]) rfl ⟨none, 0, by rw [HD2.out]; rfl, Lib.hid ⟨by rw [HD2.out]; exact OwnB.nil _ _, ?_⟩⟩
    exact HB10.out.grown hg4 HB10.out.size (fun k e => by cases e; exact Nat.le_refl _)
  · obtain ⟨E, hE⟩ : ∃ E, E = encF ⟨x2.toNat, ep, se, fc, fb, fn, cn, cl, sm, R, (m : Nat)⟩ := ⟨_, rfl⟩
    have hEn := rfenc_yes ⟨x2.toNat, ep, se, fc, fb, fn, cn, cl, sm, R, (m : Nat)⟩ A8 c8 w9 HO9.out.bs HOk.out hmay
    have hEl : E.length ≤ 5000 := by rw [hE, encF_len]; simp only; omega
    rw [← hE] at hEn
    have HEn := Lib.hid hEn
    have hgood : goodF l = decide (E = l) := by
      rw [hE, ← HG.out, Bool.eq_iff_iff, decide_eq_true_iff, HE.out]
      unfold goodF
      rw [HG.out, hmay]
      simp
    have HGd := Lib.hid hgood
    clear hEn hE hgood hmay
    go_wp2_with fail
    refine HEn.out.mono ?_
    rintro e w10 ⟨A10, c10, N10, rfl, H10⟩
    obtain ⟨rfl, hO10, b10⟩ := H10.out
    have s1 := str_of hO10.bs c10
    have s2 := str_of (HA9.out.below b10) c
    have HF10 := Lib.hid (Blk.below HF9.out b10 HF9.out.lt)
    have HB10 := Lib.hid (HB9.out.trans (Below.mono b10 HB9.out.size))
    clear C
    have C := blk_says HF10.out
    simp only [cellsSay, Nat.reduceAdd, and_true] at C
    have HG10 := Lib.hid (Blk.below HG9.out b10 HG9.out.lt)
    have HO10 := Lib.hid (HO9.out.below b10)
    clear hO10 b10 H10
    by_cases hEl2 : E = l
    · have hsne : (E == l) = true := by simp [hEl2]
      have C2 := blk_says HG10.out
      simp only [cellsSay, Nat.reduceAdd, and_true] at C2
      have HD2 : Hid (decF l = (⟨x2.toNat, ep, se, fc, fb, fn, cn, cl, sm, R, (m : Nat)⟩, 0)) := Lib.hid (by rw [HD.out, if_pos]; rw [HGd.out, decide_eq_true hEl2])
      clear hEl2
      go_wp2_with fail
      generalize hW4 : World.setCell _ _ _ = w11
      have hb4 : Blk w11 w.heap.size 30 #[.int .u8 (x2.toNat : Nat), .int .u32 (ep : Nat), .int .u32 (se : Nat), .int .u32 (fc : Nat), .int .u32 (fb : Nat), .int .u32 (fn : Nat), .int .u32 (cn : Nat), .bool cl, .int .u64 (sm : Nat), .slice A8 R.length c8, .int .i64 (m : Nat)] := by have h := Blk.sets [(0, .int .u8 (x2.toNat : Nat)), (1, .int .u32 (ep : Nat)), (2, .int .u32 (se : Nat)), (3, .int .u32 (fc : Nat)), (4, .int .u32 (fb : Nat)), (5, .int .u32 (fn : Nat)), (6, .int .u32 (cn : Nat)), (7, .bool cl), (8, .int .u64 (sm : Nat)), (9, .slice A8 R.length c8), (10, .int .i64 (m : Nat))] HF10.out; rw [show sets w10 w.heap.size [(0, .int .u8 (x2.toNat : Nat)), (1, .int .u32 (ep : Nat)), (2, .int .u32 (se : Nat)), (3, .int .u32 (fc : Nat)), (4, .int .u32 (fb : Nat)), (5, .int .u32 (fn : Nat)), (6, .int .u32 (cn : Nat)), (7, .bool cl), (8, .int .u64 (sm : Nat)), (9, .slice A8 R.length c8), (10, .int .i64 (m : Nat))] = w11 from hW4] at h; exact h
      have hg4 : w10.grownBy w11 (some w.heap.size) := by have h := grown_sets w.heap.size [(0, .int .u8 (x2.toNat : Nat)), (1, .int .u32 (ep : Nat)), (2, .int .u32 (se : Nat)), (3, .int .u32 (fc : Nat)), (4, .int .u32 (fb : Nat)), (5, .int .u32 (fn : Nat)), (6, .int .u32 (cn : Nat)), (7, .bool cl), (8, .int .u64 (sm : Nat)), (9, .slice A8 R.length c8), (10, .int .i64 (m : Nat))] w10; rw [show sets w10 w.heap.size [(0, .int .u8 (x2.toNat : Nat)), (1, .int .u32 (ep : Nat)), (2, .int .u32 (se : Nat)), (3, .int .u32 (fc : Nat)), (4, .int .u32 (fb : Nat)), (5, .int .u32 (fn : Nat)), (6, .int .u32 (cn : Nat)), (7, .bool cl), (8, .int .u64 (sm : Nat)), (9, .slice A8 R.length c8), (10, .int .i64 (m : Nat))] = w11 from hW4] at h; exact h
      have HOF : Hid (OwnB w11 w.heap.size (.slice A8 R.length c8) R) := Lib.hid (OwnB.mono (World.ownsRow.kept HO10.out hg4 (.inr (by intro e; have := (World.ownsRow.lt HO10.out _ e).1; omega))) (by omega))
      clear C C2 hW4
      have C := blk_says hb4
      simp only [cellsSay, Nat.reduceAdd, and_true] at C
      refine bodyPost_ret (v := .tuple #[.agg #[.int .u8 (x2.toNat : Nat), .int .u32 (ep : Nat), .int .u32 (se : Nat), .int .u32 (fc : Nat), .int .u32 (fb : Nat), .int .u32 (fn : Nat), .int .u32 (cn : Nat), .bool cl, .int .u64 (sm : Nat), .slice A8 R.length c8, .int .i64 (m : Nat)], .int .i64 0]) (by simp [results, Try.results20, go_sem, C]) rfl ⟨A8, c8, by rw [HD2.out]; rfl, Lib.hid ⟨by rw [HD2.out]; exact HOF.out, ?_⟩⟩
      exact HB10.out.grown hg4 HB10.out.size (fun k e => by cases e; exact Nat.le_refl _)
    · have hsne : (E == l) = false := by simpa using hEl2
      have HD2 : Hid (decF l = (zeroF, 70)) := Lib.hid (by rw [HD.out, if_neg]; rw [HGd.out, decide_eq_false hEl2]; simp)
      clear hEl2
      go_wp2_with fail
      generalize hW4 : World.setCell _ _ _ = w11
      have hb4 : Blk w11 w.heap.size 30 #[.int .u8 0, .int .u32 0, .int .u32 0, .int .u32 0, .int .u32 0, .int .u32 0, .int .u32 0, .bool false, .int .u64 0, .slice none 0 0, .int .i64 0] := by have h := Blk.sets [(0, .int .u8 0), (1, .int .u32 0), (2, .int .u32 0), (3, .int .u32 0), (4, .int .u32 0), (5, .int .u32 0), (6, .int .u32 0), (7, .bool false), (8, .int .u64 0), (9, .slice none 0 0), (10, .int .i64 0)] HF10.out; rw [show sets w10 w.heap.size [(0, .int .u8 0), (1, .int .u32 0), (2, .int .u32 0), (3, .int .u32 0), (4, .int .u32 0), (5, .int .u32 0), (6, .int .u32 0), (7, .bool false), (8, .int .u64 0), (9, .slice none 0 0), (10, .int .i64 0)] = w11 from hW4] at h; exact h
      have hg4 : w10.grownBy w11 (some w.heap.size) := by have h := grown_sets w.heap.size [(0, .int .u8 0), (1, .int .u32 0), (2, .int .u32 0), (3, .int .u32 0), (4, .int .u32 0), (5, .int .u32 0), (6, .int .u32 0), (7, .bool false), (8, .int .u64 0), (9, .slice none 0 0), (10, .int .i64 0)] w10; rw [show sets w10 w.heap.size [(0, .int .u8 0), (1, .int .u32 0), (2, .int .u32 0), (3, .int .u32 0), (4, .int .u32 0), (5, .int .u32 0), (6, .int .u32 0), (7, .bool false), (8, .int .u64 0), (9, .slice none 0 0), (10, .int .i64 0)] = w11 from hW4] at h; exact h
      clear C hW4
      have C := blk_says hb4
      simp only [cellsSay, Nat.reduceAdd, and_true] at C
      refine bodyPost_ret (v := .tuple #[.agg #[.int .u8 0, .int .u32 0, .int .u32 0, .int .u32 0, .int .u32 0, .int .u32 0, .int .u32 0, .bool false, .int .u64 0, .slice none 0 0, .int .i64 0], .int .i64 70]) (by simp [results, Try.results20, go_sem, C]) rfl ⟨none, 0, by rw [HD2.out]; rfl, Lib.hid ⟨by rw [HD2.out]; exact OwnB.nil _ _, ?_⟩⟩
      exact HB10.out.grown hg4 HB10.out.size (fun k e => by cases e; exact Nat.le_refl _)

end Go.Proofs.Ytpedobpbpomkaaa
